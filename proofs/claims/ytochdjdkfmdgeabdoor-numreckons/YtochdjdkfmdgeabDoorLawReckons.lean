/-
  NumReckons: the walk.
-/
import Derived.Test.YtochdjdkfmdgeabDoorShown
import Derived.Test.YtochdjdkfmdgeabDoorRefDiv3
import Derived.OpenShut
namespace Go.Proofs.YtochdjdkfmdgeabDoor
set_option linter.unusedVariables false
open Go.Shelf Go.RowKit Go.Sort Go.Lib

set_option maxRecDepth 100000 in
set_option maxHeartbeats 1000000 in
theorem NumReckons_law (a : Int) (ha : (Lit.int .i64 a).wf = true) (b : Int) (hb : (Lit.int .i64 b).wf = true) (c : Int) (hc : (Lit.int .i64 c).wf = true) (w : World) (htab : TabIs Tryd.prog w "internal/strconv.uint64pow10" .u64 pow10Tab) :
    Calls Tryd.prog 3 #[.int .i64 a, .int .i64 b, .int .i64 c] w fun e w' => e = .returned (.bool true) ∧ Below w.heap.size w w' := by
  obtain ⟨a0, a1⟩ := bounds_i64 ha
  obtain ⟨b0, b1⟩ := bounds_i64 hb
  obtain ⟨c0, c1⟩ := bounds_i64 hc
  clear ha hb hc
  go_enter Tryd.func3, Tryd.ntmps3
  go_wp2_with (go_at_call 7; fail)
  refine (shown_any _ htab).mono ?_
  rintro e w1 ⟨rfl, hb1⟩
  go_wp2_with (go_at_call 8; fail)
  refine (Add_any a b _ a0 a1 b0 b1).mono ?_
  rintro e w2 ⟨rfl, rfl⟩
  go_wp2_with (go_at_call 9; fail)
  refine (refAdd_any a b _ a0 a1 b0 b1).mono ?_
  rintro e w2 ⟨rfl, rfl⟩
  go_wp2_with (go_at_call 10; fail)
  refine (Mul_any a b _ a0 a1 b0 b1).mono ?_
  rintro e w3 ⟨rfl, k1, rfl⟩
  go_wp2_with (go_at_call 11; fail)
  refine (refMul_any a b _ a0 a1 b0 b1).mono ?_
  rintro e w3 ⟨rfl, hb3⟩
  have hb4 := below_drewN hb1 k1
  have hb5 := hb4.trans (hb3.mono hb4.size)
  clear hb1 hb3 hb4
  go_wp2_with (go_at_call 12; fail)
  refine (MulDiv_any a b c _ a0 a1 b0 b1 c0 c1).mono ?_
  rintro e w4 ⟨rfl, k2, rfl⟩
  go_wp2_with (go_at_call 13; fail)
  refine (refMulDiv_any a b c _ a0 a1 b0 b1 c0 c1).mono ?_
  rintro e w4 ⟨rfl, hb6⟩
  have hb7 := below_drewN hb5 k2
  have hb8 := hb7.trans (hb6.mono hb7.size)
  clear hb5 hb6 hb7
  go_wp2_with fail
  go_ret
  exact ⟨rfl, hb8⟩
end Go.Proofs.YtochdjdkfmdgeabDoor
