/-
  ClockReads: the walk.
-/
import Derived.Test.YteafaglhlggknaaDoorShownC
import Derived.Test.YteafaglhlggknaaDoorRefReads
namespace Go.Proofs.YteafaglhlggknaaDoor
set_option linter.unusedVariables false
open Go.Shelf Go.RowKit Go.Sort Go.Lib

set_option maxRecDepth 100000 in
set_option maxHeartbeats 1000000 in
theorem ClockReads_law (s : ByteArray) (hs : s.size ≤ maxLen) (w : World) (hM : Mon w) :
    Calls Tryd.prog 6 #[.string s] w fun e w' => e = .returned (.bool true) ∧ Below w.heap.size w w' := by
  have HM : Hid (Mon w) := hM
  clear hM
  go_enter Tryd.func6, Tryd.ntmps6
  go_wp2_with (go_at_call 9; fail)
  refine (shown_any _ HM.out).mono ?_
  rintro e w1 ⟨rfl, hb1⟩
  have HB1 : Hid (Below w.heap.size w w1 ∧ Mon w1) := ⟨hb1, HM.out.below hb1 HM.out.lt⟩
  clear hb1
  go_wp2_with (go_at_call 19; fail)
  refine (ParseStamp_any s _ HB1.out.2).mono ?_
  rintro e w2 ⟨rfl, q2, hw2⟩
  have HB2 : Hid (Below w.heap.size w w2 ∧ Mon w2) := by rw [hw2]; exact ⟨below_drewN HB1.out.1 _, HB1.out.2⟩
  clear hw2 HB1
  go_wp2_with (go_at_call 20; fail)
  refine (refParse_any s _).mono ?_
  rintro e w3 ⟨rfl, hb3⟩
  have HB3 : Hid (Below w.heap.size w w3) := HB2.out.1.trans (hb3.mono HB2.out.1.size)
  clear hb3 HB2
  go_wp2
  go_ret
  exact ⟨rfl, HB3.out⟩
end Go.Proofs.YteafaglhlggknaaDoor
