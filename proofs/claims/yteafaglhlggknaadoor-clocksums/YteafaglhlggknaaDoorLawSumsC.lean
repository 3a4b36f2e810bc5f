/-
  ClockSums: the walk.
-/
import Derived.Test.YteafaglhlggknaaDoorShownC
import Derived.Test.YteafaglhlggknaaDoorPick
import Derived.Test.YteafaglhlggknaaDoorNewCal
import Derived.Test.YteafaglhlggknaaDoorTrade
import Derived.Deep.DeepCutAuto
namespace Go.Proofs.YteafaglhlggknaaDoor
set_option linter.unusedVariables false
open Go.Shelf Go.RowKit Go.Sort Go.Lib Go.Maps

theorem bounds_i64 {n : Int} (h : (Lit.int .i64 n).wf = true) : -9223372036854775808 ≤ n ∧ n ≤ 9223372036854775807 := by
  simp [Lit.wf, IntKind.min, IntKind.max, IntKind.signed, IntKind.bits] at h
  omega
theorem told_time (t : Nat) (ht : t ≤ 253402300799999) : doV t = (dateN (t / 86400000) : Int) ∧ stE t = 0 := by
  have hT : isT (t : Int) = true := by rw [isT_iff]; omega
  exact ⟨by unfold doV; rw [hT, if_pos rfl, show ((t : Int) / 86400000).toNat = t / 86400000 by omega], by unfold stE; rw [hT]; rfl⟩
/-- The first that is no date, if there is one. -/
theorem first_bad (d : Nat → Int) (n : Nat) : (∀ j, j < n → dnB (d j) = true) ∨ ∃ j, j < n ∧ dnB (d j) = false ∧ ∀ i, i < j → dnB (d i) = true := by
  induction n with
  | zero => exact .inl fun j hj => by omega
  | succ n ih =>
    rcases ih with h | ⟨j, h1, h2, h3⟩
    · cases hb : dnB (d n)
      · exact .inr ⟨n, by omega, hb, h⟩
      · refine .inl fun j hj => ?_
        by_cases e : j = n
        · rw [e]; exact hb
        · exact h j (by omega)
    · exact .inr ⟨j, by omega, h2, h3⟩
/-- What a calendar tells at a date. -/
structure Cal3 (w : World) (C : Nat) (S : Int → Bool) : Prop where
  mon : Mon w
  cal : CalAt w C S
theorem Cal3.below {w w' : World} {C : Nat} {S : Int → Bool} (h : Cal3 w C S) (hb : Below w.heap.size w w') : Cal3 w' C S := ⟨h.mon.below hb h.mon.lt, h.cal.below hb⟩
theorem up_at (C : Nat) (S : Int → Bool) (k p : Nat) (hk : k ≤ 2932896) (h1 : 1 ≤ p) (h2 : p ≤ 10000) (x : Int) (hx : x = p) (w : World) (hw : Cal3 w C S) :
    Calls Tryd.prog 17 #[.pointer (some ⟨C, 0, none⟩), .int .i64 (dateN k : Int), .int .i64 x] w fun e w' => e = .returned (.tuple #[.int .i64 (addV (goUp S k p)), .int .i64 (addE (goUp S k p))]) ∧ Below w.heap.size w w' := by
  subst hx
  have hb := dateN_bounds hk
  exact Add_up C S (dateN k : Int) k w hw.mon hw.cal (by omega) (by omega) (dnum_date hk) p h1 h2
theorem dn_at (C : Nat) (S : Int → Bool) (k p : Nat) (hk : k ≤ 2932896) (h1 : 1 ≤ p) (h2 : p ≤ 10000) (x : Int) (hx : x = -(p : Int)) (w : World) (hw : Cal3 w C S) :
    Calls Tryd.prog 17 #[.pointer (some ⟨C, 0, none⟩), .int .i64 (dateN k : Int), .int .i64 x] w fun e w' => e = .returned (.tuple #[.int .i64 (addV (goDn S k p)), .int .i64 (addE (goDn S k p))]) ∧ Below w.heap.size w w' := by
  have hb := dateN_bounds hk
  exact Add_dn C S (dateN k : Int) k w hw.mon hw.cal (by omega) (by omega) (dnum_date hk) x p hx h1 h2
theorem here_at (C : Nat) (S : Int → Bool) (k : Nat) (hk : k ≤ 2932896) (w : World) (hw : Cal3 w C S) :
    Calls Tryd.prog 17 #[.pointer (some ⟨C, 0, none⟩), .int .i64 (dateN k : Int), .int .i64 0] w fun e w' => e = .returned (.tuple #[.int .i64 (addV (if isOpen S k then some k else goUp S k 1)), .int .i64 (addE (if isOpen S k then some k else goUp S k 1))]) ∧ Below w.heap.size w w' := by
  have hb := dateN_bounds hk
  exact Add_here C S (dateN k : Int) k w hw.mon hw.cal (by omega) (by omega) (dnum_date hk)
theorem open_at (C : Nat) (S : Int → Bool) (k : Nat) (hk : k ≤ 2932896) (w : World) (hw : Cal3 w C S) :
    Calls Tryd.prog 18 #[.pointer (some ⟨C, 0, none⟩), .int .i64 (dateN k : Int)] w fun e w' => e = .returned (.bool (isOpen S k)) ∧ Below w.heap.size w w' := by
  have hb := dateN_bounds hk
  have h := Open_any C S (dateN k : Int) w hw.mon hw.cal (by omega) (by omega)
  have e1 : dnV (dateN k : Int) = (k : Int) := by unfold dnV; rw [dnum_date hk]
  have e2 : dnB (dateN k : Int) = true := by unfold dnB; rw [dnum_date hk]; rfl
  rw [e1, e2, Int.toNat_natCast, Bool.true_and] at h
  exact h
set_option maxRecDepth 100000 in
set_option maxHeartbeats 8000000 in
theorem ClockSums_law (a : Option Addr) (n cap : Nat) (d : Nat → Int) (hn : n ≤ maxLen) (z : Int) (hz : (Lit.int .i64 z).wf = true) (y : Int) (hy : (Lit.int .i64 y).wf = true) (x : Int) (hx : (Lit.int .i64 x).wf = true) (w : World) (hs : SrcI w a n d) (hM : Mon w) :
    Calls Tryd.prog 5 #[.slice a n cap, .int .i64 z, .int .i64 y, .int .i64 x] w fun e w' => e = .returned (.bool true) ∧ Below w.heap.size w w' := by
  obtain ⟨z0, z1⟩ := bounds_i64 hz
  obtain ⟨y0, y1⟩ := bounds_i64 hy
  obtain ⟨x0, x1⟩ := bounds_i64 hx
  have HM : Hid (Mon w) := hM
  have HS : Hid (SrcI w a n d) := hs
  have htm := fun w => time_any z w z0 z1
  have hp := pickN_lt z (n := 253402300800000) (by omega)
  generalize pickN z 253402300800000 = t at *
  have hdo := fun w h => DateOf_any t w h
  rw [(told_time t (by omega)).1, (told_time t (by omega)).2] at hdo
  have hD : t / 86400000 ≤ 2932896 := by omega
  generalize t / 86400000 = D at *
  have hk1 := fun w => pick_any y 300 300 rfl w (by omega) (by omega) y0 y1
  have hk2 := fun w => pick_any x 300 300 rfl w (by omega) (by omega) x0 x1
  have hp1 := pickN_lt y (n := 300) (by omega)
  have hp2 := pickN_lt x (n := 300) (by omega)
  generalize pickN y 300 = p0 at *
  generalize pickN x 300 = q0 at *
  have hfb := first_bad d n
  clear hz hy hx hM hs
  go_enter Tryd.func5, Tryd.ntmps5
  go_wp2_with (go_at_call 9; fail)
  refine (shown_any _ HM.out).mono ?_
  rintro e w1 ⟨rfl, hb1⟩
  have HB1 : Hid (Below w.heap.size w w1 ∧ Mon w1 ∧ SrcI w1 a n d) := ⟨hb1, HM.out.below hb1 HM.out.lt, HS.out.below hb1⟩
  clear hb1 HS HM
  go_wp2_with (go_at_call 16; fail)
  have key : (∃ E : Int, (E = 21 ∨ E = 122) ∧ Calls Tryd.prog 16 #[.slice a n cap] w1 fun e w' => e = .returned (.tuple #[.pointer none, .int .i64 E]) ∧ Below w1.heap.size w1 w') ∨ Calls Tryd.prog 16 #[.slice a n cap] w1 fun e w' => ∃ C, e = .returned (.tuple #[.pointer (some ⟨C, 0, none⟩), .int .i64 0]) ∧ CalAt w' C (daySet d n) ∧ Below w1.heap.size w1 w' := by
    rcases hfb with h | ⟨j, h1, h2, h3⟩
    · by_cases hn1 : n ≤ 1000
      · exact .inr (NewCalendar_yes a n cap d w1 hn1 HB1.out.2.2 HB1.out.2.1 h)
      · exact .inl ⟨122, .inr rfl, NewCalendar_many a n cap d w1 (by omega) hn HB1.out.2.2 HB1.out.2.1 h⟩
    · exact .inl ⟨21, .inl rfl, NewCalendar_bad a n cap d w1 hn j h1 h2 HB1.out.2.2 HB1.out.2.1 h3⟩
  clear hfb
  rcases key with ⟨E, hE, hnc⟩ | hnc
  · refine hnc.mono ?_
    rintro e w2 ⟨rfl, hb2⟩
    have HB2 : Hid (Below w.heap.size w w2 ∧ Mon w2) := ⟨HB1.out.1.trans (hb2.mono HB1.out.1.size), HB1.out.2.1.below hb2 HB1.out.2.1.lt⟩
    clear hb2 HB1 hnc
    go_wp2_with (go_at_call 14; fail)
    refine (htm _).mono ?_
    rintro e w2 ⟨rfl, rfl⟩
    go_wp2_with (go_at_call 13; fail)
    refine (hdo _ HB2.out.2).mono ?_
    rintro e w3 ⟨rfl, hb3⟩
    have HB3 : Hid (Below w.heap.size w w3) := HB2.out.1.trans (hb3.mono HB2.out.1.size)
    clear hb3 HB2 hdo htm hk1 hk2
    rcases hE with rfl | rfl
    · go_wp2
      go_ret
      exact ⟨rfl, HB3.out⟩
    · go_wp2
      go_ret
      exact ⟨rfl, HB3.out⟩
  · refine hnc.mono ?_
    rintro e w2 ⟨C, rfl, hC, hb2⟩
    have HB2 : Hid (Below w.heap.size w w2 ∧ Cal3 w2 C (daySet d n)) := ⟨HB1.out.1.trans (hb2.mono HB1.out.1.size), ⟨HB1.out.2.1.below hb2 HB1.out.2.1.lt, hC⟩⟩
    clear hb2 HB1 hnc hC
    generalize daySet d n = S at *
    go_wp2_with (go_at_call 14; fail)
    refine (htm _).mono ?_
    rintro e w2 ⟨rfl, rfl⟩
    go_wp2_with (go_at_call 13; fail)
    refine (hdo _ HB2.out.2.mon).mono ?_
    rintro e w3 ⟨rfl, hb3⟩
    have HB3 : Hid (Below w.heap.size w w3 ∧ Cal3 w3 C S) := ⟨HB2.out.1.trans (hb3.mono HB2.out.1.size), HB2.out.2.below hb3⟩
    clear hb3 HB2 hdo htm
    go_wp2_with (go_at_call 10; fail)
    refine (hk1 _).mono ?_
    rintro e w3 ⟨rfl, rfl⟩
    go_wp2_with (go_at_call 10; fail)
    refine (hk2 _).mono ?_
    rintro e w3 ⟨rfl, rfl⟩
    clear hk1 hk2
    have hpv : ∃ p : Nat, p = 1 + p0 ∧ 1 ≤ p ∧ p ≤ 300 := ⟨1 + p0, rfl, by omega, by omega⟩
    obtain ⟨p, hpe, hpa, hpb⟩ := hpv
    have hqv : ∃ q : Nat, q = 1 + q0 ∧ 1 ≤ q ∧ q ≤ 300 := ⟨1 + q0, rfl, by omega, by omega⟩
    obtain ⟨q, hqe, hqa, hqb⟩ := hqv
    have HPQ : Hid (p = 1 + p0 ∧ q = 1 + q0) := ⟨hpe, hqe⟩
    clear hpe hqe
    have hadd := goUp_add S q _ D p (Nat.le_refl _)
    go_wp2_with (go_at_call 17; fail)
    refine (up_at C S D p hD hpa (by omega) _ (by have := HPQ.out.1; omega) _ HB3.out.2).mono ?_
    cases hR : goUp S D p with
    | none =>
      rintro e w4 ⟨rfl, hb4⟩
      have HB4 : Hid (Below w.heap.size w w4 ∧ Cal3 w4 C S) := ⟨HB3.out.1.trans (hb4.mono HB3.out.1.size), HB3.out.2.below hb4⟩
      clear hb4 HB3
      have hpq := up_at C S D (p + q) hD (by omega) (by omega)
      rw [hadd.1 hR] at hpq
      have v1 : addV none = 0 := rfl
      have v2 : addE none = 21 := rfl
      rw [v1, v2] at hpq ⊢
      go_wp2_with (go_at_call 17; fail)
      refine (Add_none C 0 _ _ HB4.out.2.mon (by decide) (by decide) (dnum_neg (by decide))).mono ?_
      rintro e w4 ⟨rfl, rfl⟩
      go_wp2_with (go_at_call 17; fail)
      refine (hpq _ (by have := HPQ.out; omega) _ HB4.out.2).mono ?_
      rintro e w5 ⟨rfl, hb5⟩
      have HB5 : Hid (Below w.heap.size w w5) := HB4.out.1.trans (hb5.mono HB4.out.1.size)
      clear hb5 HB4
      go_wp2
      go_ret
      exact ⟨rfl, HB5.out⟩
    | some k =>
      obtain ⟨g1, g2, g3, g4⟩ := goUp_some S _ D p k (Nat.le_refl _) hD hR
      obtain ⟨g5, g6⟩ := g4 hpa
      have hbk := back_again S hD hpa hR
      rintro e w4 ⟨rfl, hb4⟩
      have HB4 : Hid (Below w.heap.size w w4 ∧ Cal3 w4 C S) := ⟨HB3.out.1.trans (hb4.mono HB3.out.1.size), HB3.out.2.below hb4⟩
      clear hb4 HB3
      have hpq := up_at C S D (p + q) hD (by omega) (by omega)
      rw [hadd.2 k hR] at hpq
      have hq2 := up_at C S k q g2 hqa (by omega)
      have hop := open_at C S k g2
      rw [g6] at hop
      have hdn := dn_at C S k p g2 hpa (by omega)
      have hod := open_at C S D hD
      have hhe := here_at C S D hD
      have hlt : dateN D < dateN k := dateN_lt g5 g2
      have hbD := dateN_bounds hD
      have hbk2 := dateN_bounds g2
      have HRR : Hid (∀ k2, goUp S k q = some k2 → dateN k < dateN k2 ∧ dateN k2 ≤ 99991231) := fun k2 h => by
        obtain ⟨i1, i2, i3, i4⟩ := goUp_some S _ k q k2 (Nat.le_refl _) g2 h
        exact ⟨dateN_lt (i4 hqa).1 i2, (dateN_bounds i2).2⟩
      have v3 : addV (some k) = (dateN k : Int) := rfl
      have v4 : addE (some k) = 0 := rfl
      rw [v3, v4]
      clear hR hadd g1 g3 g4
      generalize hRe : goUp S k q = R at *
      clear hRe
      have hltI : (dateN D : Int) < (dateN k : Int) := by omega
      go_wp2_with (go_at_call 17; fail)
      refine (hq2 _ (by have := HPQ.out.2; omega) _ HB4.out.2).mono ?_
      rintro e w5 ⟨rfl, hb5⟩
      have HB5 : Hid (Below w.heap.size w w5 ∧ Cal3 w5 C S) := ⟨HB4.out.1.trans (hb5.mono HB4.out.1.size), HB4.out.2.below hb5⟩
      clear hb5 HB4 hq2
      go_wp2_with (go_at_call 17; fail)
      refine (hpq _ (by have := HPQ.out; omega) _ HB5.out.2).mono ?_
      rintro e w6 ⟨rfl, hb6⟩
      have HB6 : Hid (Below w.heap.size w w6 ∧ Cal3 w6 C S) := ⟨HB5.out.1.trans (hb6.mono HB5.out.1.size), HB5.out.2.below hb6⟩
      clear hb6 HB5 hpq
      generalize hv5 : addV R = V5 at *
      generalize hv6 : addE R = V6 at *
      go_wp2_with (go_at_call 18; fail)
      refine (hop _ HB6.out.2).mono ?_
      rintro e w7 ⟨rfl, hb7⟩
      have HB7 : Hid (Below w.heap.size w w7 ∧ Cal3 w7 C S) := ⟨HB6.out.1.trans (hb7.mono HB6.out.1.size), HB6.out.2.below hb7⟩
      clear hb7 HB6 hop
      go_wp2_with (go_at_call 17; fail)
      refine (hdn _ (by have := HPQ.out.1; omega) _ HB7.out.2).mono ?_
      rintro e w8 ⟨rfl, hb8⟩
      have HB8 : Hid (Below w.heap.size w w8 ∧ Cal3 w8 C S) := ⟨HB7.out.1.trans (hb8.mono HB7.out.1.size), HB7.out.2.below hb8⟩
      clear hb8 HB7 hdn
      go_wp2_with (go_at_call 18; fail)
      refine (hod _ HB8.out.2).mono ?_
      rintro e w9 ⟨rfl, hb9⟩
      have HB9 : Hid (Below w.heap.size w w9 ∧ Cal3 w9 C S) := ⟨HB8.out.1.trans (hb9.mono HB8.out.1.size), HB8.out.2.below hb9⟩
      clear hb9 HB8 hod
      go_wp2_with (go_at_call 17; fail)
      refine (hhe _ HB9.out.2).mono ?_
      rintro e w10 ⟨rfl, hb10⟩
      have HB10 : Hid (Below w.heap.size w w10) := HB9.out.1.trans (hb10.mono HB9.out.1.size)
      clear hb10 HB9 hhe
      have HV : Hid ((V5 = 0 ∧ V6 = 21) ∨ ∃ k2 : Nat, V5 = (dateN k2 : Int) ∧ V6 = 0 ∧ dateN k < dateN k2) := by
        show _ ∨ _
        cases hR : R with
        | none => left; rw [hR] at hv5 hv6; exact ⟨hv5.symm, hv6.symm⟩
        | some k2 => right; rw [hR] at hv5 hv6; exact ⟨k2, hv5.symm, hv6.symm, (HRR.out k2 hR).1⟩
      clear hv5 hv6 HRR
      cases ho : isOpen S D with
      | false =>
        generalize (if false = true then some D else goUp S D 1) = hh at *
        generalize goDn S k p = bb at *
        generalize addV hh = V1 at *
        generalize addE hh = V2 at *
        generalize addV bb = V3 at *
        generalize addE bb = V4 at *
        rcases HV.out with ⟨rfl, rfl⟩ | ⟨k2, rfl, rfl, h2⟩
        · go_wp2
          go_ret
          exact ⟨rfl, HB10.out⟩
        · have h2' : (dateN k : Int) < (dateN k2 : Int) := by omega
          go_wp2
          go_ret
          exact ⟨rfl, HB10.out⟩
      | true =>
        rw [hbk ho, if_pos rfl]
        have u1 : addV (some D) = (dateN D : Int) := rfl
        have u2 : addE (some D) = 0 := rfl
        rw [u1, u2]
        rcases HV.out with ⟨rfl, rfl⟩ | ⟨k2, rfl, rfl, h2⟩
        · go_wp2
          go_ret
          exact ⟨rfl, HB10.out⟩
        · have h2' : (dateN k : Int) < (dateN k2 : Int) := by omega
          go_wp2
          go_ret
          exact ⟨rfl, HB10.out⟩
end Go.Proofs.YteafaglhlggknaaDoor
