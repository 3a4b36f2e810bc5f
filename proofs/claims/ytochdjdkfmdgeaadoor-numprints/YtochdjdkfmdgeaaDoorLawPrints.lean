/-
  NumPrints: the walk.
-/
import Derived.Test.YtochdjdkfmdgeaaDoorShown
import Derived.Test.YtochdjdkfmdgeaaDoorRefFmt
import Derived.OpenShut
namespace Go.Proofs.YtochdjdkfmdgeaaDoor
set_option linter.unusedVariables false
open Go.Shelf Go.RowKit Go.Sort Go.Lib

theorem Print_any2 (n : Int) (h0 : -9223372036854775808 ≤ n) (h1 : n ≤ 9223372036854775807) (w : World) (htab : TabIs Tryd.prog w "internal/strconv.uint64pow10" .u64 pow10Tab) :
    Calls Tryd.prog 19 #[.int .i64 n] w fun e w' => e = .returned (.string (prB n)) ∧ Below w.heap.size w w' := Print_any n h0 h1 w htab

set_option maxRecDepth 100000 in
set_option maxHeartbeats 400000 in
theorem NumPrints_law (n : Int) (hm : (Lit.int .i64 n).wf = true) (w : World) (htab : TabIs Tryd.prog w "internal/strconv.uint64pow10" .u64 pow10Tab) :
    Calls Tryd.prog 6 #[.int .i64 n] w fun e w' => e = .returned (.bool true) ∧ Below w.heap.size w w' := by
  obtain ⟨h0, h1⟩ := bounds_i64 hm
  clear hm
  go_enter Tryd.func6, Tryd.ntmps6
  go_wp2_with (go_at_call 9; refine (shown_any _ htab).mono ?_; rintro e w1 ⟨rfl, hb⟩; have htab1 := tabIs_below htab hb)
  refine (Print_any2 n h0 h1 _ htab1).mono ?_
  rintro e w2 ⟨rfl, hb2⟩
  have htab2 := tabIs_below htab1 hb2
  go_wp2_with (go_at_call 20; refine (refPrint_any n h0 h1 _).mono ?_; rintro e w3 ⟨rfl, hw3⟩)
  subst hw3
  refine (PrintPrice_any n h0 h1 _ htab2).mono ?_
  rintro e w4 ⟨rfl, hb4⟩
  go_wp2_with (go_at_call 22; refine (refPrintPrice_any n h0 h1 _).mono ?_; rintro e w5 ⟨rfl, hw5⟩)
  subst hw5
  go_ret
  have hb3 := hb.trans (hb2.mono hb.size)
  exact ⟨rfl, hb3.trans (hb4.mono hb3.size)⟩
end Go.Proofs.YtochdjdkfmdgeaaDoor
