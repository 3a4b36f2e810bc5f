/-
  NumParses: the walk.
-/
import Derived.Test.YtochdjdkfmdgeaaDoorShown
import Derived.OpenShut
namespace Go.Proofs.YtochdjdkfmdgeaaDoor
set_option linter.unusedVariables false
open Go.Shelf Go.RowKit Go.Sort Go.Lib

set_option maxRecDepth 100000 in
set_option maxHeartbeats 400000 in
theorem NumParses_walk (s : ByteArray) (m : Int) (w : World) (hs : s.size ≤ maxLen) (hm : m ≤ 9223372036854775807) (htab : TabIs Tryd.prog w "internal/strconv.uint64pow10" .u64 pow10Tab) :
    Calls Tryd.prog 8 #[.string s, .int .i64 m] w fun e w' => e = .returned (.bool true) ∧ Below w.heap.size w w' := by
  go_enter Tryd.func8, Tryd.ntmps8
  go_wp2_with (first | (go_at_call 9; refine (shown_any _ htab).mono ?_; rintro e w1 ⟨rfl, hb⟩) | (go_at_call 27; refine (ParseUint_any _ _ _ hs hm).mono ?_; rintro e w2 ⟨rfl, rfl⟩) | (go_at_call 28; refine (refParseUint_any _ _ _ hs hm).mono ?_; rintro e w2 ⟨rfl, rfl⟩) | (go_at_call 29; refine (ParseInt_any _ _ _ hs hm).mono ?_; rintro e w2 ⟨rfl, rfl⟩) | (go_at_call 30; refine (refParseInt_any _ _ _ hs hm).mono ?_; rintro e w2 ⟨rfl, rfl⟩))
  go_ret
  exact ⟨rfl, hb⟩
theorem NumParses_law (s : ByteArray) (hs : s.size ≤ maxLen) (m : Int) (hm : (Lit.int .i64 m).wf = true) (w : World) (htab : TabIs Tryd.prog w "internal/strconv.uint64pow10" .u64 pow10Tab) :
    Calls Tryd.prog 8 #[.string s, .int .i64 m] w fun e w' => e = .returned (.bool true) ∧ Below w.heap.size w w' :=
  NumParses_walk s m w hs (bounds_i64 hm).2 htab
end Go.Proofs.YtochdjdkfmdgeaaDoor
