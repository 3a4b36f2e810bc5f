/-
  listing: Check.
-/
import Derived.Test.YtnhkmfofkhhnaaaDoorLChk
import Derived.Test.YtnhkmfofkhhnaaaDoorLAsk
namespace Go.Proofs.YtnhkmfofkhhnaaaDoor
set_option linter.unusedVariables false
set_option linter.unusedSimpArgs false
open Go.Shelf Go.RowKit Go.Sort Go.Lib

def orB (o : Ord) (date : Int) : Bool := ((((wiB o.sd 1 2 && wiB o.lf 1 7) && tyB o) && shB o) && leB o) && unB o date
set_option maxRecDepth 100000 in
set_option maxHeartbeats 4000000 in
theorem isOrder_any (o : Ord) (date : Int) (w : World) (hM : Mon w) (u0 : -9223372036854775808 ≤ o.un) (u1 : o.un ≤ 9223372036854775807) :
    Calls Tryd.prog 35 #[.agg o.cs, .int .i64 date] w fun e w' => e = .returned (.bool (orB o date)) ∧ Below w.heap.size w w' := by
  have h1 := fun w => within_any o.sd 1 2 w
  have h2 := fun w => within_any o.lf 1 7 w
  have h3 := fun w => fitsType_any o w
  have h4 := fun w => fitsShow_any o w
  have h5 := fun w => fitsLeast_any o w
  have h6 := fun w' (hb : Below w.heap.size w w') => fitsUntil_any o date w' (hM.below hb hM.lt) u0 u1
  unfold orB
  generalize wiB o.sd 1 2 = b1 at *
  generalize wiB o.lf 1 7 = b2 at *
  generalize tyB o = b3 at *
  generalize shB o = b4 at *
  generalize leB o = b5 at *
  generalize unB o date = b6 at *
  clear hM u0 u1
  obtain ⟨id, nm, ac, sy, sd, ty, lf, pr, sp, q, sh, dn, le, un, ow⟩ := o
  simp only [Ord.cs] at *
  have H6 : Hid (∀ w', Below w.heap.size w w' → Calls Tryd.prog 61 #[.agg #[.int .i64 id, .string nm, .string ac, .string sy, .int .i64 sd, .int .i64 ty, .int .i64 lf, .int .i64 pr, .int .i64 sp, .int .i64 q, .int .i64 sh, .int .i64 dn, .int .i64 le, .int .i64 un, .int .i64 ow], .int .i64 date] w' fun e w2 => e = .returned (.bool b6) ∧ Below w'.heap.size w' w2) := h6
  clear h6
  have H0 : Hid (Below w.heap.size w (w.alloc (.cells #[.int .i64 id, .string nm, .string ac, .string sy, .int .i64 sd, .int .i64 ty, .int .i64 lf, .int .i64 pr, .int .i64 sp, .int .i64 q, .int .i64 sh, .int .i64 dn, .int .i64 le, .int .i64 un, .int .i64 ow] 50)) ∧ Blk (w.alloc (.cells #[.int .i64 id, .string nm, .string ac, .string sy, .int .i64 sd, .int .i64 ty, .int .i64 lf, .int .i64 pr, .int .i64 sp, .int .i64 q, .int .i64 sh, .int .i64 dn, .int .i64 le, .int .i64 un, .int .i64 ow] 50)) w.heap.size 50 #[.int .i64 id, .string nm, .string ac, .string sy, .int .i64 sd, .int .i64 ty, .int .i64 lf, .int .i64 pr, .int .i64 sp, .int .i64 q, .int .i64 sh, .int .i64 dn, .int .i64 le, .int .i64 un, .int .i64 ow]) := ⟨(Below.refl _ w).alloc (Nat.le_refl _) _, Blk.new _ _ _⟩
  go_enter Tryd.func35, Tryd.ntmps35
  go_wp2_with (go_at_call 47; fail)
  refine (h1 _).mono ?_
  rintro e w1 ⟨rfl, rfl⟩
  cases b1
  · go_wp2
    go_ret
    exact ⟨rfl, H0.out.1⟩
  go_wp2_with (go_at_call 47; fail)
  refine (h2 _).mono ?_
  rintro e w1 ⟨rfl, rfl⟩
  cases b2
  · go_wp2
    go_ret
    exact ⟨rfl, H0.out.1⟩
  go_wp2_with (go_at_call 58; fail)
  refine (h3 _).mono ?_
  rintro e wa ⟨rfl, hbwa⟩
  have Hwa : Hid (Below w.heap.size w wa ∧ Blk wa w.heap.size 50 #[.int .i64 id, .string nm, .string ac, .string sy, .int .i64 sd, .int .i64 ty, .int .i64 lf, .int .i64 pr, .int .i64 sp, .int .i64 q, .int .i64 sh, .int .i64 dn, .int .i64 le, .int .i64 un, .int .i64 ow]) := ⟨H0.out.1.trans (hbwa.mono H0.out.1.size), H0.out.2.below hbwa H0.out.2.lt⟩
  clear hbwa
  clear H0
  have wax0 : wa.cell? ⟨w.heap.size, 0, none⟩ = some (.int .i64 id) := Hwa.out.2.cell 0
  have wax1 : wa.cell? ⟨w.heap.size, 1, none⟩ = some (.string nm) := Hwa.out.2.cell 1
  have wax2 : wa.cell? ⟨w.heap.size, 2, none⟩ = some (.string ac) := Hwa.out.2.cell 2
  have wax3 : wa.cell? ⟨w.heap.size, 3, none⟩ = some (.string sy) := Hwa.out.2.cell 3
  have wax4 : wa.cell? ⟨w.heap.size, 4, none⟩ = some (.int .i64 sd) := Hwa.out.2.cell 4
  have wax5 : wa.cell? ⟨w.heap.size, 5, none⟩ = some (.int .i64 ty) := Hwa.out.2.cell 5
  have wax6 : wa.cell? ⟨w.heap.size, 6, none⟩ = some (.int .i64 lf) := Hwa.out.2.cell 6
  have wax7 : wa.cell? ⟨w.heap.size, 7, none⟩ = some (.int .i64 pr) := Hwa.out.2.cell 7
  have wax8 : wa.cell? ⟨w.heap.size, 8, none⟩ = some (.int .i64 sp) := Hwa.out.2.cell 8
  have wax9 : wa.cell? ⟨w.heap.size, 9, none⟩ = some (.int .i64 q) := Hwa.out.2.cell 9
  have wax10 : wa.cell? ⟨w.heap.size, 10, none⟩ = some (.int .i64 sh) := Hwa.out.2.cell 10
  have wax11 : wa.cell? ⟨w.heap.size, 11, none⟩ = some (.int .i64 dn) := Hwa.out.2.cell 11
  have wax12 : wa.cell? ⟨w.heap.size, 12, none⟩ = some (.int .i64 le) := Hwa.out.2.cell 12
  have wax13 : wa.cell? ⟨w.heap.size, 13, none⟩ = some (.int .i64 un) := Hwa.out.2.cell 13
  have wax14 : wa.cell? ⟨w.heap.size, 14, none⟩ = some (.int .i64 ow) := Hwa.out.2.cell 14
  cases b3
  · go_wp2
    go_ret
    exact ⟨rfl, Hwa.out.1⟩
  go_wp2_with (go_at_call 59; fail)
  refine (h4 _).mono ?_
  rintro e wb ⟨rfl, hbwb⟩
  have Hwb : Hid (Below w.heap.size w wb ∧ Blk wb w.heap.size 50 #[.int .i64 id, .string nm, .string ac, .string sy, .int .i64 sd, .int .i64 ty, .int .i64 lf, .int .i64 pr, .int .i64 sp, .int .i64 q, .int .i64 sh, .int .i64 dn, .int .i64 le, .int .i64 un, .int .i64 ow]) := ⟨Hwa.out.1.trans (hbwb.mono Hwa.out.1.size), Hwa.out.2.below hbwb Hwa.out.2.lt⟩
  clear hbwb
  clear Hwa
  clear wax0 wax1 wax2 wax3 wax4 wax5 wax6 wax7 wax8 wax9 wax10 wax11 wax12 wax13 wax14
  have wbx0 : wb.cell? ⟨w.heap.size, 0, none⟩ = some (.int .i64 id) := Hwb.out.2.cell 0
  have wbx1 : wb.cell? ⟨w.heap.size, 1, none⟩ = some (.string nm) := Hwb.out.2.cell 1
  have wbx2 : wb.cell? ⟨w.heap.size, 2, none⟩ = some (.string ac) := Hwb.out.2.cell 2
  have wbx3 : wb.cell? ⟨w.heap.size, 3, none⟩ = some (.string sy) := Hwb.out.2.cell 3
  have wbx4 : wb.cell? ⟨w.heap.size, 4, none⟩ = some (.int .i64 sd) := Hwb.out.2.cell 4
  have wbx5 : wb.cell? ⟨w.heap.size, 5, none⟩ = some (.int .i64 ty) := Hwb.out.2.cell 5
  have wbx6 : wb.cell? ⟨w.heap.size, 6, none⟩ = some (.int .i64 lf) := Hwb.out.2.cell 6
  have wbx7 : wb.cell? ⟨w.heap.size, 7, none⟩ = some (.int .i64 pr) := Hwb.out.2.cell 7
  have wbx8 : wb.cell? ⟨w.heap.size, 8, none⟩ = some (.int .i64 sp) := Hwb.out.2.cell 8
  have wbx9 : wb.cell? ⟨w.heap.size, 9, none⟩ = some (.int .i64 q) := Hwb.out.2.cell 9
  have wbx10 : wb.cell? ⟨w.heap.size, 10, none⟩ = some (.int .i64 sh) := Hwb.out.2.cell 10
  have wbx11 : wb.cell? ⟨w.heap.size, 11, none⟩ = some (.int .i64 dn) := Hwb.out.2.cell 11
  have wbx12 : wb.cell? ⟨w.heap.size, 12, none⟩ = some (.int .i64 le) := Hwb.out.2.cell 12
  have wbx13 : wb.cell? ⟨w.heap.size, 13, none⟩ = some (.int .i64 un) := Hwb.out.2.cell 13
  have wbx14 : wb.cell? ⟨w.heap.size, 14, none⟩ = some (.int .i64 ow) := Hwb.out.2.cell 14
  cases b4
  · go_wp2
    go_ret
    exact ⟨rfl, Hwb.out.1⟩
  go_wp2_with (go_at_call 60; fail)
  refine (h5 _).mono ?_
  rintro e wc ⟨rfl, hbwc⟩
  have Hwc : Hid (Below w.heap.size w wc ∧ Blk wc w.heap.size 50 #[.int .i64 id, .string nm, .string ac, .string sy, .int .i64 sd, .int .i64 ty, .int .i64 lf, .int .i64 pr, .int .i64 sp, .int .i64 q, .int .i64 sh, .int .i64 dn, .int .i64 le, .int .i64 un, .int .i64 ow]) := ⟨Hwb.out.1.trans (hbwc.mono Hwb.out.1.size), Hwb.out.2.below hbwc Hwb.out.2.lt⟩
  clear hbwc
  clear Hwb
  clear wbx0 wbx1 wbx2 wbx3 wbx4 wbx5 wbx6 wbx7 wbx8 wbx9 wbx10 wbx11 wbx12 wbx13 wbx14
  have wcx0 : wc.cell? ⟨w.heap.size, 0, none⟩ = some (.int .i64 id) := Hwc.out.2.cell 0
  have wcx1 : wc.cell? ⟨w.heap.size, 1, none⟩ = some (.string nm) := Hwc.out.2.cell 1
  have wcx2 : wc.cell? ⟨w.heap.size, 2, none⟩ = some (.string ac) := Hwc.out.2.cell 2
  have wcx3 : wc.cell? ⟨w.heap.size, 3, none⟩ = some (.string sy) := Hwc.out.2.cell 3
  have wcx4 : wc.cell? ⟨w.heap.size, 4, none⟩ = some (.int .i64 sd) := Hwc.out.2.cell 4
  have wcx5 : wc.cell? ⟨w.heap.size, 5, none⟩ = some (.int .i64 ty) := Hwc.out.2.cell 5
  have wcx6 : wc.cell? ⟨w.heap.size, 6, none⟩ = some (.int .i64 lf) := Hwc.out.2.cell 6
  have wcx7 : wc.cell? ⟨w.heap.size, 7, none⟩ = some (.int .i64 pr) := Hwc.out.2.cell 7
  have wcx8 : wc.cell? ⟨w.heap.size, 8, none⟩ = some (.int .i64 sp) := Hwc.out.2.cell 8
  have wcx9 : wc.cell? ⟨w.heap.size, 9, none⟩ = some (.int .i64 q) := Hwc.out.2.cell 9
  have wcx10 : wc.cell? ⟨w.heap.size, 10, none⟩ = some (.int .i64 sh) := Hwc.out.2.cell 10
  have wcx11 : wc.cell? ⟨w.heap.size, 11, none⟩ = some (.int .i64 dn) := Hwc.out.2.cell 11
  have wcx12 : wc.cell? ⟨w.heap.size, 12, none⟩ = some (.int .i64 le) := Hwc.out.2.cell 12
  have wcx13 : wc.cell? ⟨w.heap.size, 13, none⟩ = some (.int .i64 un) := Hwc.out.2.cell 13
  have wcx14 : wc.cell? ⟨w.heap.size, 14, none⟩ = some (.int .i64 ow) := Hwc.out.2.cell 14
  cases b5
  · go_wp2
    go_ret
    exact ⟨rfl, Hwc.out.1⟩
  go_wp2_with (go_at_call 61; fail)
  refine (H6.out _ Hwc.out.1).mono ?_
  rintro e wd ⟨rfl, hbwd⟩
  have Hwd : Hid (Below w.heap.size w wd ∧ Blk wd w.heap.size 50 #[.int .i64 id, .string nm, .string ac, .string sy, .int .i64 sd, .int .i64 ty, .int .i64 lf, .int .i64 pr, .int .i64 sp, .int .i64 q, .int .i64 sh, .int .i64 dn, .int .i64 le, .int .i64 un, .int .i64 ow]) := ⟨Hwc.out.1.trans (hbwd.mono Hwc.out.1.size), Hwc.out.2.below hbwd Hwc.out.2.lt⟩
  clear hbwd
  clear Hwc
  clear wcx0 wcx1 wcx2 wcx3 wcx4 wcx5 wcx6 wcx7 wcx8 wcx9 wcx10 wcx11 wcx12 wcx13 wcx14
  go_wp2
  go_ret
  exact ⟨rfl, Hwd.out.1⟩
def tkB (I : Ins) (p : Int) : Bool := p == 0 || mayB (fN I.steps) (gN I.steps) I.steps.length p
set_option maxRecDepth 100000 in
set_option maxHeartbeats 4000000 in
theorem fitsTicks_any (L B C : Nat) (I : Ins) (p : Int) (w : World) (h : LisAt w L B I C) :
    Calls Tryd.prog 37 #[.pointer (some ⟨L, 0, none⟩), .int .i64 p] w fun e w' => e = .returned (.bool (tkB I p)) ∧ Below w.heap.size w w' := by
  obtain ⟨aS, cS, q3, hs⟩ := h.steps
  have hm := mayBe_any _ _ p w hs h.okS
  unfold tkB
  generalize mayB (fN I.steps) (gN I.steps) I.steps.length p = b at *
  clear hs h
  rcases eqc p 0 with ⟨h1, g1⟩ | ⟨h1, g1⟩
  · rw [h1]
    go_enter Tryd.func37, Tryd.ntmps37
    go_wp2
    go_ret
    exact ⟨rfl, Below.refl _ _⟩
  · rw [h1]
    go_enter Tryd.func37, Tryd.ntmps37
    go_wp2_with (go_at_call 48; fail)
    refine hm.mono ?_
    rintro e w1 ⟨rfl, hb1⟩
    have HB : Hid (Below w.heap.size w w1) := hb1
    clear hb1
    go_wp2
    go_ret
    exact ⟨rfl, HB.out⟩
def bdB (I : Ins) (p r : Int) : Bool := p == 0 || wiB p (bnL I r) (bnH I r)
set_option maxRecDepth 100000 in
set_option maxHeartbeats 4000000 in
theorem fitsBand_any (L B C : Nat) (I : Ins) (p r : Int) (w : World) (h : LisAt w L B I C) :
    Calls Tryd.prog 38 #[.pointer (some ⟨L, 0, none⟩), .int .i64 p, .int .i64 r] w fun e w' => e = .returned (.bool (bdB I p r)) ∧ Below w.heap.size w w' := by
  have hm := Band_any L B C I r w h
  have hw := fun w => within64_any p (bnL I r) (bnH I r) w
  unfold bdB
  generalize wiB p (bnL I r) (bnH I r) = b at *
  generalize bnL I r = x at *
  generalize bnH I r = y at *
  clear h
  rcases eqc p 0 with ⟨h1, g1⟩ | ⟨h1, g1⟩
  · rw [h1]
    go_enter Tryd.func38, Tryd.ntmps38
    go_wp2_with (go_at_call 20; fail)
    refine hm.mono ?_
    rintro e w1 ⟨rfl, hb1⟩
    have HB : Hid (Below w.heap.size w w1) := hb1
    clear hb1
    go_wp2
    go_ret
    exact ⟨rfl, HB.out⟩
  · rw [h1]
    go_enter Tryd.func38, Tryd.ntmps38
    go_wp2_with (go_at_call 20; fail)
    refine hm.mono ?_
    rintro e w1 ⟨rfl, hb1⟩
    have HB : Hid (Below w.heap.size w w1) := hb1
    clear hb1
    go_wp2_with (go_at_call 41; fail)
    refine (hw _).mono ?_
    rintro e w2 ⟨rfl, rfl⟩
    go_wp2
    go_ret
    exact ⟨rfl, HB.out⟩
def phB (o : Ord) (ph : Int) : Bool := if ph = 3 then o.lf != 6 else if ph = 1 then caB o else if ph = 5 then caB o && o.lf != 6 else false
set_option maxRecDepth 100000 in
set_option maxHeartbeats 4000000 in
theorem fitsPhase_any (o : Ord) (ph : Int) (w : World) :
    Calls Tryd.prog 39 #[.agg o.cs, .int .i64 ph] w fun e w' => e = .returned (.bool (phB o ph)) ∧ Below w.heap.size w w' := by
  have hc := fun w => fitsCall_any o w
  unfold phB
  generalize caB o = b at *
  obtain ⟨id, nm, ac, sy, sd, ty, lf, pr, sp, q, sh, dn, le, un, ow⟩ := o
  simp only [Ord.cs] at *
  have H0 : Hid (Below w.heap.size w (w.alloc (.cells #[.int .i64 id, .string nm, .string ac, .string sy, .int .i64 sd, .int .i64 ty, .int .i64 lf, .int .i64 pr, .int .i64 sp, .int .i64 q, .int .i64 sh, .int .i64 dn, .int .i64 le, .int .i64 un, .int .i64 ow] 50)) ∧ Blk (w.alloc (.cells #[.int .i64 id, .string nm, .string ac, .string sy, .int .i64 sd, .int .i64 ty, .int .i64 lf, .int .i64 pr, .int .i64 sp, .int .i64 q, .int .i64 sh, .int .i64 dn, .int .i64 le, .int .i64 un, .int .i64 ow] 50)) w.heap.size 50 #[.int .i64 id, .string nm, .string ac, .string sy, .int .i64 sd, .int .i64 ty, .int .i64 lf, .int .i64 pr, .int .i64 sp, .int .i64 q, .int .i64 sh, .int .i64 dn, .int .i64 le, .int .i64 un, .int .i64 ow]) := ⟨(Below.refl _ w).alloc (Nat.le_refl _) _, Blk.new _ _ _⟩
  rcases Decidable.em (ph = 3) with rfl | t3
  · rw [if_pos rfl]
    go_enter Tryd.func39, Tryd.ntmps39
    go_wp2
    go_ret
    exact ⟨rfl, H0.out.1⟩
  rcases Decidable.em (ph = 1) with rfl | t1
  · rw [if_neg (by decide), if_pos rfl]
    clear t3
    go_enter Tryd.func39, Tryd.ntmps39
    go_wp2_with (go_at_call 62; fail)
    refine (hc _).mono ?_
    rintro e wa ⟨rfl, hbwa⟩
    have Hwa : Hid (Below w.heap.size w wa ∧ Blk wa w.heap.size 50 #[.int .i64 id, .string nm, .string ac, .string sy, .int .i64 sd, .int .i64 ty, .int .i64 lf, .int .i64 pr, .int .i64 sp, .int .i64 q, .int .i64 sh, .int .i64 dn, .int .i64 le, .int .i64 un, .int .i64 ow]) := ⟨H0.out.1.trans (hbwa.mono H0.out.1.size), H0.out.2.below hbwa H0.out.2.lt⟩
    clear hbwa
    go_wp2
    go_ret
    exact ⟨rfl, Hwa.out.1⟩
  rcases Decidable.em (ph = 5) with rfl | t5
  · rw [if_neg (by decide), if_neg (by decide), if_pos rfl]
    clear t3 t1
    cases b
    all_goals
      go_enter Tryd.func39, Tryd.ntmps39
      go_wp2_with (go_at_call 62; fail)
      refine (hc _).mono ?_
      rintro e wa ⟨rfl, hbwa⟩
      have Hwa : Hid (Below w.heap.size w wa ∧ Blk wa w.heap.size 50 #[.int .i64 id, .string nm, .string ac, .string sy, .int .i64 sd, .int .i64 ty, .int .i64 lf, .int .i64 pr, .int .i64 sp, .int .i64 q, .int .i64 sh, .int .i64 dn, .int .i64 le, .int .i64 un, .int .i64 ow]) := ⟨H0.out.1.trans (hbwa.mono H0.out.1.size), H0.out.2.below hbwa H0.out.2.lt⟩
      clear hbwa
      have wax6 : wa.cell? ⟨w.heap.size, 6, none⟩ = some (.int .i64 lf) := Hwa.out.2.cell 6
      go_wp2
      go_ret
      exact ⟨rfl, Hwa.out.1⟩
  · rw [if_neg t3, if_neg t1, if_neg t5]
    have b1 : (ph == 1) = false := by simp [t1]
    have b3 : (ph == 3) = false := by simp [t3]
    have b5 : (ph == 5) = false := by simp [t5]
    clear t1 t3 t5
    go_enter Tryd.func39, Tryd.ntmps39
    go_wp2
    go_ret
    exact ⟨rfl, H0.out.1⟩
end Go.Proofs.YtnhkmfofkhhnaaaDoor
