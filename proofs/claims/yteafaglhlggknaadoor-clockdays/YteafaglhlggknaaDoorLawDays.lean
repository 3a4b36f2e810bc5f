/-
  ClockDays: the walk.
-/
import Derived.Test.YteafaglhlggknaaDoorShownC
import Derived.Test.YteafaglhlggknaaDoorRefDays2
namespace Go.Proofs.YteafaglhlggknaaDoor
set_option linter.unusedVariables false
open Go.Shelf Go.RowKit Go.Sort Go.Lib

theorem bounds_i64 {n : Int} (h : (Lit.int .i64 n).wf = true) : -9223372036854775808 ≤ n ∧ n ≤ 9223372036854775807 := by
  simp [Lit.wf, IntKind.min, IntKind.max, IntKind.signed, IntKind.bits] at h
  omega
set_option maxRecDepth 100000 in
set_option maxHeartbeats 1000000 in
theorem ClockDays_law (z : Int) (hz : (Lit.int .i64 z).wf = true) (w : World) (hM : Mon w) :
    Calls Tryd.prog 8 #[.int .i64 z] w fun e w' => e = .returned (.bool true) ∧ Below w.heap.size w w' := by
  obtain ⟨h0, h1⟩ := bounds_i64 hz
  have HM : Hid (Mon w) := hM
  clear hM hz
  go_enter Tryd.func8, Tryd.ntmps8
  go_wp2_with (go_at_call 9; fail)
  refine (shown_any _ HM.out).mono ?_
  rintro e w1 ⟨rfl, hb1⟩
  have HB1 : Hid (Below w.heap.size w w1 ∧ Mon w1) := ⟨hb1, HM.out.below hb1 HM.out.lt⟩
  clear hb1
  go_wp2_with (go_at_call 11; fail)
  refine (Start_any z _ HB1.out.2 h0 h1).mono ?_
  rintro e w1 ⟨rfl, rfl⟩
  go_wp2_with (go_at_call 22; fail)
  refine (refStart_any z _ h0 h1).mono ?_
  rintro e w2 ⟨rfl, hb2⟩
  have HB2 : Hid (Below w.heap.size w w2 ∧ Mon w2) := ⟨HB1.out.1.trans (hb2.mono HB1.out.1.size), HB1.out.2.below hb2 HB1.out.2.lt⟩
  clear hb2 HB1
  go_wp2_with (go_at_call 12; fail)
  refine (Weekday_any z _ HB2.out.2 h0 h1).mono ?_
  rintro e w2 ⟨rfl, rfl⟩
  go_wp2_with (go_at_call 23; fail)
  refine (refWeekday_any z _ h0 h1).mono ?_
  rintro e w3 ⟨rfl, hb3⟩
  have HB3 : Hid (Below w.heap.size w w3) := HB2.out.1.trans (hb3.mono HB2.out.1.size)
  clear hb3 HB2
  go_wp2
  go_ret
  exact ⟨rfl, HB3.out⟩
end Go.Proofs.YteafaglhlggknaaDoor
