/-
  ClockBack: the walk.
-/
import Derived.Test.YteafaglhlggknaaDoorShownC
import Derived.Test.YteafaglhlggknaaDoorPick
import Derived.Test.YteafaglhlggknaaDoorStampBack
namespace Go.Proofs.YteafaglhlggknaaDoor
set_option linter.unusedVariables false
open Go.Shelf Go.RowKit Go.Sort Go.Lib

theorem bounds_i64 {n : Int} (h : (Lit.int .i64 n).wf = true) : -9223372036854775808 ≤ n ∧ n ≤ 9223372036854775807 := by
  simp [Lit.wf, IntKind.min, IntKind.max, IntKind.signed, IntKind.bits] at h
  omega
theorem doV_day (n : Nat) (hT : isT ((n : Int) * 86400000) = true) : doV ((n : Int) * 86400000) = (dateN n : Int) := by
  have e : (n : Int) * 86400000 / 86400000 = n := Int.mul_ediv_cancel _ (by decide)
  unfold doV
  rw [hT, if_pos rfl, e, Int.toNat_natCast]
set_option maxRecDepth 100000 in
set_option maxHeartbeats 4000000 in
theorem ClockBack_law (z : Int) (hz : (Lit.int .i64 z).wf = true) (w : World) (hM : Mon w) :
    Calls Tryd.prog 7 #[.int .i64 z] w fun e w' => e = .returned (.bool true) ∧ Below w.heap.size w w' := by
  obtain ⟨h0, h1⟩ := bounds_i64 hz
  have HM : Hid (Mon w) := hM
  have htm := fun w => time_any z w h0 h1
  have hp := pickN_lt z (n := 253402300800000) (by omega)
  generalize pickN z 253402300800000 = t at *
  have hst := fun w h => Stamp_yes t w h (by omega)
  obtain ⟨v1, v2⟩ := ps_stamp t (by omega)
  obtain ⟨c1, c2⟩ := ps_cut t (by omega)
  have hsz := stamp_size t
  generalize strOfNums (stampI t) = S at *
  have hsz' : (S.size : Int) = 21 := by omega
  have hps := fun w h => ParseStamp_any S w h
  rw [v1, v2] at hps
  have hpc := fun w h => ParseStamp_any (S.extract 0 17) w h
  rw [c1, c2] at hpc
  have hT : isT (t : Int) = true := by rw [isT_iff]; omega
  have hdo := fun w h => DateOf_any t w h
  have e1 : doV t = (dateN (t / 86400000) : Int) := by unfold doV; rw [hT, if_pos rfl, show ((t : Int) / 86400000).toNat = t / 86400000 by omega]
  have e2 : stE t = 0 := by unfold stE; rw [hT]; rfl
  rw [e1, e2] at hdo
  have hmi := fun w => Minute_any t w
  rw [hT, e2, if_pos rfl] at hmi
  have hD : t / 86400000 ≤ 2932896 := by omega
  have hdb := dateN_bounds hD
  have hnum := dnum_date hD
  have hss := fun w h => Start_any (dateN (t / 86400000) : Int) w h (by omega) (by omega)
  have e3 : dnV (dateN (t / 86400000) : Int) = ((t / 86400000 : Nat) : Int) := by unfold dnV; rw [hnum]
  have e4 : dtE (dateN (t / 86400000) : Int) = 0 := by unfold dtE dnB; rw [hnum]; rfl
  rw [e3, e4] at hss
  have hT2 : isT (((t / 86400000 : Nat) : Int) * 86400000) = true := by rw [isT_iff]; omega
  have hd2 := fun w h => DateOf_any (((t / 86400000 : Nat) : Int) * 86400000) w h
  have e5 : stE (((t / 86400000 : Nat) : Int) * 86400000) = 0 := by unfold stE; rw [hT2]; rfl
  rw [doV_day _ hT2, e5] at hd2
  have hq : (t : Int) % 86400000 / 60000 = ((t : Int) - ((t / 86400000 : Nat) : Int) * 86400000) / 60000 := by
    congr 1
    omega
  rw [hq] at hmi
  have hq0 : 0 ≤ ((t : Int) - ((t / 86400000 : Nat) : Int) * 86400000) := by omega
  have hq1 : ((t / 86400000 : Nat) : Int) * 86400000 ≤ (t : Int) := by omega
  have hq2 : ((t : Int) - ((t / 86400000 : Nat) : Int) * 86400000) < 86400000 := by omega
  have hbd : t / 86400000 ≤ 2932896 := hD
  clear hM hz v1 v2 c1 c2 hT hT2 e1 e2 e3 e4 e5 hnum hq hD
  generalize dateN (t / 86400000) = d at *
  generalize t / 86400000 = D at *
  go_enter Tryd.func7, Tryd.ntmps7
  go_wp2_with (go_at_call 9; fail)
  refine (shown_any _ HM.out).mono ?_
  rintro e w1 ⟨rfl, hb1⟩
  have HB1 : Hid (Below w.heap.size w w1 ∧ Mon w1) := ⟨hb1, HM.out.below hb1 HM.out.lt⟩
  clear hb1
  go_wp2_with (go_at_call 14; fail)
  refine (htm _).mono ?_
  rintro e w1 ⟨rfl, rfl⟩
  go_wp2_with (go_at_call 15; fail)
  refine (hst _ HB1.out.2).mono ?_
  rintro e w2 ⟨rfl, hb2⟩
  have HB2 : Hid (Below w.heap.size w w2 ∧ Mon w2) := ⟨HB1.out.1.trans (hb2.mono HB1.out.1.size), HB1.out.2.below hb2 HB1.out.2.lt⟩
  clear hb2 HB1 htm hst
  go_wp2_with (go_at_call 19; fail)
  refine (hps _ HB2.out.2).mono ?_
  rintro e w3 ⟨rfl, q3, hw3⟩
  have HB3 : Hid (Below w.heap.size w w3 ∧ Mon w3) := by rw [hw3]; exact ⟨below_drewN HB2.out.1 _, HB2.out.2⟩
  clear hw3 HB2 hps
  go_wp2_with (go_at_call 19; fail)
  refine (hpc _ HB3.out.2).mono ?_
  rintro e w4 ⟨rfl, q4, hw4⟩
  have HB4 : Hid (Below w.heap.size w w4 ∧ Mon w4) := by rw [hw4]; exact ⟨below_drewN HB3.out.1 _, HB3.out.2⟩
  clear hw4 HB3 hpc
  go_wp2_with (go_at_call 13; fail)
  refine (hdo _ HB4.out.2).mono ?_
  rintro e w5 ⟨rfl, hb5⟩
  have HB5 : Hid (Below w.heap.size w w5 ∧ Mon w5) := ⟨HB4.out.1.trans (hb5.mono HB4.out.1.size), HB4.out.2.below hb5 HB4.out.2.lt⟩
  clear hb5 HB4 hdo
  go_wp2_with (go_at_call 11; fail)
  refine (hss _ HB5.out.2).mono ?_
  rintro e w5 ⟨rfl, rfl⟩
  go_wp2_with (go_at_call 21; fail)
  refine (hmi _).mono ?_
  rintro e w5 ⟨rfl, rfl⟩
  go_wp2_with (go_at_call 13; fail)
  refine (hd2 _ HB5.out.2).mono ?_
  rintro e w6 ⟨rfl, hb6⟩
  have HB6 : Hid (Below w.heap.size w w6) := HB5.out.1.trans (hb6.mono HB5.out.1.size)
  clear hb6 HB5 hd2 hss hmi
  go_wp2
  all_goals go_ret
  all_goals refine ⟨?_, HB6.out⟩
  all_goals rfl
end Go.Proofs.YteafaglhlggknaaDoor
