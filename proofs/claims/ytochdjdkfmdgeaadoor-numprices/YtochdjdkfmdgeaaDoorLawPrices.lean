/-
  NumPrices: the walk.
-/
import Derived.Test.YtochdjdkfmdgeaaDoorShown
import Derived.Test.YtochdjdkfmdgeaaDoorRefPrice
namespace Go.Proofs.YtochdjdkfmdgeaaDoor
set_option linter.unusedVariables false
open Go.Shelf Go.RowKit Go.Sort Go.Lib

set_option maxRecDepth 100000 in
set_option maxHeartbeats 400000 in
theorem NumPrices_law (s : ByteArray) (hs : s.size ≤ maxLen) (w : World) (htab : TabIs Tryd.prog w "internal/strconv.uint64pow10" .u64 pow10Tab) :
    Calls Tryd.prog 5 #[.string s] w fun e w' => e = .returned (.bool true) ∧ Below w.heap.size w w' := by
  go_enter Tryd.func5, Tryd.ntmps5
  go_wp2_with (first | (go_at_call 9; refine (shown_any _ htab).mono ?_; rintro e w1 ⟨rfl, hb⟩) | (go_at_call 17; refine (ParsePrice_any _ _ hs).mono ?_; rintro e w2 ⟨rfl, k, rfl⟩) | (go_at_call 18; refine (refParsePrice_any _ _ hs).mono ?_; rintro e w2 ⟨rfl, rfl⟩))
  go_ret
  exact ⟨rfl, below_drewN hb _⟩
end Go.Proofs.YtochdjdkfmdgeaaDoor
