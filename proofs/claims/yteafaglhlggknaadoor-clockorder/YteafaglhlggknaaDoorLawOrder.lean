/-
  ClockOrder: the walk.
-/
import Derived.Test.YteafaglhlggknaaDoorShownC
import Derived.Test.YteafaglhlggknaaDoorPick
import Derived.Test.YteafaglhlggknaaDoorStampOrder
import Derived.Deep.DeepCutAuto
namespace Go.Proofs.YteafaglhlggknaaDoor
set_option linter.unusedVariables false
open Go.Shelf Go.RowKit Go.Sort Go.Lib

theorem bounds_i64 {n : Int} (h : (Lit.int .i64 n).wf = true) : -9223372036854775808 ≤ n ∧ n ≤ 9223372036854775807 := by
  simp [Lit.wf, IntKind.min, IntKind.max, IntKind.signed, IntKind.bits] at h
  omega
theorem doV_day (n : Nat) (hT : isT ((n : Int) * 86400000) = true) : doV ((n : Int) * 86400000) = (dateN n : Int) := by
  have e : (n : Int) * 86400000 / 86400000 = n := Int.mul_ediv_cancel _ (by decide)
  unfold doV
  rw [hT, if_pos rfl, e, Int.toNat_natCast]
theorem date_last : dateN 2932896 = 99991231 := by
  have h := dateN_eq (y := 9999) (m := 12) (d := 31) ⟨by decide, by decide, by decide, by decide, by decide, by decide⟩
  rw [show dayNo 9999 12 31 = 2932896 by decide, show encD 9999 12 31 = 99991231 by decide] at h
  exact h
/-- What is told of a time. -/
theorem told_time (t : Nat) (ht : t ≤ 253402300799999) : doV t = (dateN (t / 86400000) : Int) ∧ stE t = 0 := by
  have hT : isT (t : Int) = true := by rw [isT_iff]; omega
  exact ⟨by unfold doV; rw [hT, if_pos rfl, show ((t : Int) / 86400000).toNat = t / 86400000 by omega], by unfold stE; rw [hT]; rfl⟩
/-- What is told of a day. -/
theorem told_day (n : Nat) (h : n ≤ 2932896) : dnV (dateN n : Int) = (n : Int) ∧ dtE (dateN n : Int) = 0 ∧ wkV (dateN n : Int) = (((n + 4) % 7 : Nat) : Int) ∧ doV ((n : Int) * 86400000) = (dateN n : Int) ∧ stE ((n : Int) * 86400000) = 0 := by
  have hnum := dnum_date h
  have e1 : dnV (dateN n : Int) = (n : Int) := by unfold dnV; rw [hnum]
  have e2 : dnB (dateN n : Int) = true := by unfold dnB; rw [hnum]; rfl
  have hT : isT ((n : Int) * 86400000) = true := by rw [isT_iff]; omega
  exact ⟨e1, by unfold dtE; rw [e2]; rfl, by unfold wkV; rw [e2, e1, if_pos rfl]; omega, doV_day n hT, by unfold stE; rw [hT]; rfl⟩
set_option maxRecDepth 100000 in
set_option maxHeartbeats 8000000 in
theorem ClockOrder_law (a : Int) (ha : (Lit.int .i64 a).wf = true) (b : Int) (hb : (Lit.int .i64 b).wf = true) (w : World) (hM : Mon w) :
    Calls Tryd.prog 4 #[.int .i64 a, .int .i64 b] w fun e w' => e = .returned (.bool true) ∧ Below w.heap.size w w' := by
  obtain ⟨a0, a1⟩ := bounds_i64 ha
  obtain ⟨b0, b1⟩ := bounds_i64 hb
  have HM : Hid (Mon w) := hM
  have ht1 := fun w => time_any a w a0 a1
  have ht2 := fun w => time_any b w b0 b1
  have hp1 := pickN_lt a (n := 253402300800000) (by omega)
  have hp2 := pickN_lt b (n := 253402300800000) (by omega)
  generalize pickN a 253402300800000 = t at *
  generalize pickN b 253402300800000 = u at *
  have hs1 := fun w h => Stamp_yes t w h (by omega)
  have hs2 := fun w h => Stamp_yes u w h (by omega)
  have hless := bl_stamp t u (by omega) (by omega)
  generalize strOfNums (stampI t) = S at *
  generalize strOfNums (stampI u) = R at *
  have hd1 := fun w h => DateOf_any t w h
  have hd2 := fun w h => DateOf_any u w h
  rw [(told_time t (by omega)).1, (told_time t (by omega)).2] at hd1
  rw [(told_time u (by omega)).1, (told_time u (by omega)).2] at hd2
  have hD1 : t / 86400000 ≤ 2932896 := by omega
  have hD2 : u / 86400000 ≤ 2932896 := by omega
  have hord : t ≤ u → t / 86400000 ≤ u / 86400000 := fun h => by omega
  clear ha hb hM
  generalize t / 86400000 = D at *
  generalize u / 86400000 = E at *
  have hdc : t ≤ u → dateN D ≤ dateN E := fun h => by
    rcases Nat.lt_or_ge D E with h1 | h1
    · exact Nat.le_of_lt (dateN_lt h1 hD2)
    · rw [show D = E by have := hord h; omega]; exact Nat.le_refl _
  have hbd := dateN_bounds hD1
  have hbe := dateN_bounds hD2
  clear hord
  have hlast : ¬ dateN D = 99991231 → D + 1 ≤ 2932896 := fun h => by
    rcases Nat.lt_or_ge D 2932896 with h1 | h1
    · exact h1
    · exact absurd (by rw [show D = 2932896 by omega]; exact date_last) h
  have hW1 := fun w h => Weekday_any (dateN D : Int) w h (by omega) (by omega)
  have hS1 := fun w h => Start_any (dateN D : Int) w h (by omega) (by omega)
  have htd := told_day D hD1
  have e1 := htd.1
  have e2 := htd.2.1
  have e3 := htd.2.2.1
  clear htd
  rw [e3, e2] at hW1
  rw [e1, e2] at hS1
  clear e1 e2 e3
  have hN : D + 1 ≤ 2932896 → dateN D < dateN (D + 1) := fun h => dateN_lt (by omega) h
  have hbn : D + 1 ≤ 2932896 → dateN (D + 1) ≤ 99991231 := fun h => (dateN_bounds h).2
  have hZ : D + 1 ≤ 2932896 → (∀ w, Mon w → Calls Tryd.prog 13 #[.int .i64 ((D : Int) * 86400000 + 86400000)] w fun e w' => e = .returned (.tuple #[.int .i64 (dateN (D + 1) : Int), .int .i64 0]) ∧ Below w.heap.size w w') ∧ (∀ w, Mon w → Calls Tryd.prog 12 #[.int .i64 (dateN (D + 1) : Int)] w fun e w' => e = .returned (.tuple #[.int .i64 (((D + 1 + 4) % 7 : Nat) : Int), .int .i64 0]) ∧ w' = w) ∧ (∀ w, Mon w → Calls Tryd.prog 11 #[.int .i64 (dateN (D + 1) : Int)] w fun e w' => e = .returned (.tuple #[.int .i64 ((D : Int) * 86400000 + 86400000), .int .i64 0]) ∧ w' = w) := fun h => by
    obtain ⟨f1, f2, f3, f4, f5⟩ := told_day (D + 1) h
    have hb := dateN_bounds h
    have ex : (((D + 1 : Nat) : Int)) * 86400000 = (D : Int) * 86400000 + 86400000 := by omega
    refine ⟨fun w hw => ?_, fun w hw => ?_, fun w hw => ?_⟩
    · have := DateOf_any (((D + 1 : Nat) : Int) * 86400000) w hw
      rw [f4, f5, ex] at this
      exact this
    · have := Weekday_any (dateN (D + 1) : Int) w hw (by omega) (by omega)
      rw [f3, f2] at this
      exact this
    · have := Start_any (dateN (D + 1) : Int) w hw (by omega) (by omega)
      rw [f1, f2, ex] at this
      exact this
  have hwk : (((D + 4) % 7 : Nat) : Int) + 1 = (((D + 4) % 7 + 1 : Nat) : Int) := by omega
  have hwk2 : (((D + 4) % 7 + 1 : Nat) : Int) % 7 = (((D + 1 + 4) % 7 : Nat) : Int) := by omega
  have hwl : (D + 4) % 7 < 7 := by omega
  have hwm : (D + 1 + 4) % 7 < 7 := by omega
  generalize (D + 4) % 7 = k1 at *
  generalize (D + 1 + 4) % 7 = k2 at *
  generalize dateN (D + 1) = n at *
  generalize dateN D = d at *
  generalize dateN E = c at *
  generalize hk3 : k1 + 1 = k3 at *
  clear hk3
  have HLast : Hid (¬ d = 99991231 → D + 1 ≤ 2932896) := hlast
  have HN : Hid (D + 1 ≤ 2932896 → d < n) := hN
  have HBN : Hid (D + 1 ≤ 2932896 → n ≤ 99991231) := hbn
  have HZ : Hid (D + 1 ≤ 2932896 → (∀ w, Mon w → Calls Tryd.prog 13 #[.int .i64 ((D : Int) * 86400000 + 86400000)] w fun e w' => e = .returned (.tuple #[.int .i64 (n : Int), .int .i64 0]) ∧ Below w.heap.size w w') ∧ (∀ w, Mon w → Calls Tryd.prog 12 #[.int .i64 (n : Int)] w fun e w' => e = .returned (.tuple #[.int .i64 (k2 : Int), .int .i64 0]) ∧ w' = w) ∧ (∀ w, Mon w → Calls Tryd.prog 11 #[.int .i64 (n : Int)] w fun e w' => e = .returned (.tuple #[.int .i64 ((D : Int) * 86400000 + 86400000), .int .i64 0]) ∧ w' = w)) := hZ
  have HDC : Hid (t ≤ u → d ≤ c) := hdc
  clear hlast hN hbn hZ hdc
  go_enter Tryd.func4, Tryd.ntmps4
  go_wp2_with (go_at_call 9; fail)
  refine (shown_any _ HM.out).mono ?_
  rintro e w1 ⟨rfl, hb1⟩
  have HB1 : Hid (Below w.heap.size w w1 ∧ Mon w1) := ⟨hb1, HM.out.below hb1 HM.out.lt⟩
  clear hb1
  go_wp2_with (go_at_call 14; fail)
  refine (ht1 _).mono ?_
  rintro e w1 ⟨rfl, rfl⟩
  go_wp2_with (go_at_call 14; fail)
  refine (ht2 _).mono ?_
  rintro e w1 ⟨rfl, rfl⟩
  clear ht1 ht2
  go_wp2_with (go_at_call 15; fail)
  refine (hs1 _ HB1.out.2).mono ?_
  rintro e w2 ⟨rfl, hb2⟩
  have HB2 : Hid (Below w.heap.size w w2 ∧ Mon w2) := ⟨HB1.out.1.trans (hb2.mono HB1.out.1.size), HB1.out.2.below hb2 HB1.out.2.lt⟩
  clear hb2 HB1 hs1
  go_wp2_with (go_at_call 15; fail)
  refine (hs2 _ HB2.out.2).mono ?_
  rintro e w3 ⟨rfl, hb3⟩
  have HB3 : Hid (Below w.heap.size w w3 ∧ Mon w3) := ⟨HB2.out.1.trans (hb3.mono HB2.out.1.size), HB2.out.2.below hb3 HB2.out.2.lt⟩
  clear hb3 HB2 hs2
  go_wp2_with (go_at_call 13; fail)
  refine (hd1 _ HB3.out.2).mono ?_
  rintro e w4 ⟨rfl, hb4⟩
  have HB4 : Hid (Below w.heap.size w w4 ∧ Mon w4) := ⟨HB3.out.1.trans (hb4.mono HB3.out.1.size), HB3.out.2.below hb4 HB3.out.2.lt⟩
  clear hb4 HB3 hd1
  go_wp2_with (go_at_call 13; fail)
  refine (hd2 _ HB4.out.2).mono ?_
  rintro e w5 ⟨rfl, hb5⟩
  have HB5 : Hid (Below w.heap.size w w5 ∧ Mon w5) := ⟨HB4.out.1.trans (hb5.mono HB4.out.1.size), HB4.out.2.below hb5 HB4.out.2.lt⟩
  clear hb5 HB4 hd2
  by_cases x1 : t < u
  · rw [decide_eq_true x1] at hless
    have x1' : (t : Int) < (u : Int) := by omega
    have x2' : (t : Int) ≤ (u : Int) := by omega
    have XLE : ¬ u < t := by omega
    have x3n : decide (c < d) = false := decide_eq_false (Nat.not_lt.2 (HDC.out (Nat.le_of_not_lt XLE)))
    have x3 : decide ((c : Int) < (d : Int)) = false := decide_eq_false (Int.not_lt.2 (Int.ofNat_le.2 (HDC.out (Nat.le_of_not_lt XLE))))
    go_upto_region 12 with fail
    by_cases hl : d = 99991231
    · have hl' : (d : Int) = 99991231 := by rw [hl]; rfl
      clear hl hW1 hS1 HZ HN HBN HLast
      go_wp2
      go_ret
      exact ⟨rfl, HB5.out.1⟩
    · have hl' : ¬ (d : Int) = 99991231 := by omega
      obtain ⟨z1, z2, z3⟩ := HZ.out (HLast.out hl)
      have hdn : (d : Int) < (n : Int) := by have := HN.out (HLast.out hl); omega
      have hdx : D + 1 ≤ 2932896 := HLast.out hl
      go_wp2_with (go_at_call 12; fail)
      refine (hW1 _ HB5.out.2).mono ?_
      rintro e w5 ⟨rfl, rfl⟩
      go_wp2_with (go_at_call 11; fail)
      refine (hS1 _ HB5.out.2).mono ?_
      rintro e w5 ⟨rfl, rfl⟩
      clear hW1 hS1
      go_wp2_with (go_at_call 13; fail)
      refine (z1 _ HB5.out.2).mono ?_
      rintro e w6 ⟨rfl, hb6⟩
      have HB6 : Hid (Below w.heap.size w w6 ∧ Mon w6) := ⟨HB5.out.1.trans (hb6.mono HB5.out.1.size), HB5.out.2.below hb6 HB5.out.2.lt⟩
      clear hb6 HB5 z1
      go_wp2_with (go_at_call 12; fail)
      refine (z2 _ HB6.out.2).mono ?_
      rintro e w6 ⟨rfl, rfl⟩
      go_wp2_with (go_at_call 11; fail)
      refine (z3 _ HB6.out.2).mono ?_
      rintro e w6 ⟨rfl, rfl⟩
      clear z2 z3
      go_wp2
      all_goals go_ret
      all_goals refine ⟨?_, HB6.out.1⟩
      all_goals rfl
  · rw [decide_eq_false x1] at hless
    have x1n : decide (t < u) = false := decide_eq_false (by omega)
    have x1' : decide ((t : Int) < (u : Int)) = false := decide_eq_false (by omega)
    by_cases x2 : t = u
    · have x2' : (t : Int) ≤ (u : Int) := by omega
      have x2n : t ≤ u := by omega
      have XLE : ¬ u < t := by omega
      have x3n : decide (c < d) = false := decide_eq_false (Nat.not_lt.2 (HDC.out (Nat.le_of_not_lt XLE)))
      have x3 : decide ((c : Int) < (d : Int)) = false := decide_eq_false (Int.not_lt.2 (Int.ofNat_le.2 (HDC.out (Nat.le_of_not_lt XLE))))
      go_upto_region 12 with fail
      by_cases hl : d = 99991231
      · have hl' : (d : Int) = 99991231 := by rw [hl]; rfl
        clear hl hW1 hS1 HZ HN HBN HLast
        go_wp2
        go_ret
        exact ⟨rfl, HB5.out.1⟩
      · have hl' : ¬ (d : Int) = 99991231 := by omega
        obtain ⟨z1, z2, z3⟩ := HZ.out (HLast.out hl)
        have hdn : (d : Int) < (n : Int) := by have := HN.out (HLast.out hl); omega
        have hdx : D + 1 ≤ 2932896 := HLast.out hl
        go_wp2_with (go_at_call 12; fail)
        refine (hW1 _ HB5.out.2).mono ?_
        rintro e w5 ⟨rfl, rfl⟩
        go_wp2_with (go_at_call 11; fail)
        refine (hS1 _ HB5.out.2).mono ?_
        rintro e w5 ⟨rfl, rfl⟩
        clear hW1 hS1
        go_wp2_with (go_at_call 13; fail)
        refine (z1 _ HB5.out.2).mono ?_
        rintro e w6 ⟨rfl, hb6⟩
        have HB6 : Hid (Below w.heap.size w w6 ∧ Mon w6) := ⟨HB5.out.1.trans (hb6.mono HB5.out.1.size), HB5.out.2.below hb6 HB5.out.2.lt⟩
        clear hb6 HB5 z1
        go_wp2_with (go_at_call 12; fail)
        refine (z2 _ HB6.out.2).mono ?_
        rintro e w6 ⟨rfl, rfl⟩
        go_wp2_with (go_at_call 11; fail)
        refine (z3 _ HB6.out.2).mono ?_
        rintro e w6 ⟨rfl, rfl⟩
        clear z2 z3
        go_wp2
        all_goals go_ret
        all_goals refine ⟨?_, HB6.out.1⟩
        all_goals rfl
    · have x2n : decide (t ≤ u) = false := decide_eq_false (by omega)
      have x2' : decide ((t : Int) ≤ (u : Int)) = false := decide_eq_false (by omega)
      go_upto_region 12 with fail
      by_cases hl : d = 99991231
      · have hl' : (d : Int) = 99991231 := by rw [hl]; rfl
        clear hl hW1 hS1 HZ HN HBN HLast
        go_wp2
        go_ret
        exact ⟨rfl, HB5.out.1⟩
      · have hl' : ¬ (d : Int) = 99991231 := by omega
        obtain ⟨z1, z2, z3⟩ := HZ.out (HLast.out hl)
        have hdn : (d : Int) < (n : Int) := by have := HN.out (HLast.out hl); omega
        have hdx : D + 1 ≤ 2932896 := HLast.out hl
        go_wp2_with (go_at_call 12; fail)
        refine (hW1 _ HB5.out.2).mono ?_
        rintro e w5 ⟨rfl, rfl⟩
        go_wp2_with (go_at_call 11; fail)
        refine (hS1 _ HB5.out.2).mono ?_
        rintro e w5 ⟨rfl, rfl⟩
        clear hW1 hS1
        go_wp2_with (go_at_call 13; fail)
        refine (z1 _ HB5.out.2).mono ?_
        rintro e w6 ⟨rfl, hb6⟩
        have HB6 : Hid (Below w.heap.size w w6 ∧ Mon w6) := ⟨HB5.out.1.trans (hb6.mono HB5.out.1.size), HB5.out.2.below hb6 HB5.out.2.lt⟩
        clear hb6 HB5 z1
        go_wp2_with (go_at_call 12; fail)
        refine (z2 _ HB6.out.2).mono ?_
        rintro e w6 ⟨rfl, rfl⟩
        go_wp2_with (go_at_call 11; fail)
        refine (z3 _ HB6.out.2).mono ?_
        rintro e w6 ⟨rfl, rfl⟩
        clear z2 z3
        go_wp2
        all_goals go_ret
        all_goals refine ⟨?_, HB6.out.1⟩
        all_goals rfl
end Go.Proofs.YteafaglhlggknaaDoor
