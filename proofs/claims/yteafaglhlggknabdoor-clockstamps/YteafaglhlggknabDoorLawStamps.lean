/-
  ClockStamps: the walk.
-/
import Derived.Test.YteafaglhlggknabDoorShownC
import Derived.Test.YteafaglhlggknabDoorRefStamp2
namespace Go.Proofs.YteafaglhlggknabDoor
set_option linter.unusedVariables false
open Go.Shelf Go.RowKit Go.Sort Go.Lib

/-- What Stamp tells of any number. -/
def stB (z : Int) : ByteArray := if isT z then strOfNums (stampI z.toNat) else ⟨#[]⟩
theorem Stamp_any (z : Int) (w : World) (hM : Mon w) : Calls Tryd.prog 6 #[.int .i64 z] w fun e w' => e = .returned (.tuple #[.string (stB z), .int .i64 (stE z)]) ∧ Below w.heap.size w w' := by
  unfold stB stE
  cases ht : isT z
  · exact Stamp_no z w hM ht
  · obtain ⟨t, rfl, ht1, _⟩ := day_of ht
    rw [if_pos rfl, if_pos rfl, Int.toNat_natCast]
    exact Stamp_yes t w hM ht1
theorem refStamp_any (z : Int) (w : World) : Calls Tryd.prog 7 #[.int .i64 z] w fun e w' => e = .returned (.tuple #[.string (stB z), .int .i64 (stE z)]) ∧ Below w.heap.size w w' := by
  unfold stB stE
  cases ht : isT z
  · exact refStamp_no z w ht
  · obtain ⟨t, rfl, ht1, _⟩ := day_of ht
    rw [if_pos rfl, if_pos rfl, Int.toNat_natCast]
    exact refStamp_yes t w ht1
def mnV (z : Int) : Int := if isT z then z % 86400000 / 60000 else 0
set_option maxRecDepth 100000 in
set_option maxHeartbeats 1000000 in
theorem ClockStamps_law (z : Int) (hz : (Lit.int .i64 z).wf = true) (w : World) (hM : Mon w) :
    Calls Tryd.prog 3 #[.int .i64 z] w fun e w' => e = .returned (.bool true) ∧ Below w.heap.size w w' := by
  have HM : Hid (Mon w) := hM
  have hs := fun w h => Stamp_any z w h
  have hr := fun w => refStamp_any z w
  have hd := fun w h => DateOf_any z w h
  have hq := fun w => refDateOf_any z w
  have hm : ∀ w, Calls Tryd.prog 10 #[.int .i64 z] w fun e w' => e = .returned (.tuple #[.int .i64 (mnV z), .int .i64 (stE z)]) ∧ w' = w := fun w => Minute_any z w
  have hn : ∀ w, Calls Tryd.prog 11 #[.int .i64 z] w fun e w' => e = .returned (.tuple #[.int .i64 (mnV z), .int .i64 (stE z)]) ∧ w' = w := fun w => refMinute_any z w
  clear hM hz
  generalize stB z = S at *
  generalize stE z = E at *
  generalize doV z = V at *
  generalize mnV z = N at *
  go_enter Tryd.func3, Tryd.ntmps3
  go_wp2_with (go_at_call 5; fail)
  refine (shown_any _ HM.out).mono ?_
  rintro e w1 ⟨rfl, hb1⟩
  have HB1 : Hid (Below w.heap.size w w1 ∧ Mon w1) := ⟨hb1, HM.out.below hb1 HM.out.lt⟩
  clear hb1
  go_wp2_with (go_at_call 6; fail)
  refine (hs _ HB1.out.2).mono ?_
  rintro e w2 ⟨rfl, hb2⟩
  have HB2 : Hid (Below w.heap.size w w2 ∧ Mon w2) := ⟨HB1.out.1.trans (hb2.mono HB1.out.1.size), HB1.out.2.below hb2 HB1.out.2.lt⟩
  clear hb2 HB1 hs
  go_wp2_with (go_at_call 7; fail)
  refine (hr _).mono ?_
  rintro e w3 ⟨rfl, hb3⟩
  have HB3 : Hid (Below w.heap.size w w3 ∧ Mon w3) := ⟨HB2.out.1.trans (hb3.mono HB2.out.1.size), HB2.out.2.below hb3 HB2.out.2.lt⟩
  clear hb3 HB2 hr
  go_wp2_with (go_at_call 8; fail)
  refine (hd _ HB3.out.2).mono ?_
  rintro e w4 ⟨rfl, hb4⟩
  have HB4 : Hid (Below w.heap.size w w4 ∧ Mon w4) := ⟨HB3.out.1.trans (hb4.mono HB3.out.1.size), HB3.out.2.below hb4 HB3.out.2.lt⟩
  clear hb4 HB3 hd
  go_wp2_with (go_at_call 9; fail)
  refine (hq _).mono ?_
  rintro e w5 ⟨rfl, hb5⟩
  have HB5 : Hid (Below w.heap.size w w5) := HB4.out.1.trans (hb5.mono HB4.out.1.size)
  clear hb5 HB4 hq
  go_wp2_with (go_at_call 10; fail)
  refine (hm _).mono ?_
  rintro e w5 ⟨rfl, rfl⟩
  go_wp2_with (go_at_call 11; fail)
  refine (hn _).mono ?_
  rintro e w5 ⟨rfl, rfl⟩
  clear hm hn
  go_wp2
  go_ret
  exact ⟨rfl, HB5.out⟩
end Go.Proofs.YteafaglhlggknabDoor
