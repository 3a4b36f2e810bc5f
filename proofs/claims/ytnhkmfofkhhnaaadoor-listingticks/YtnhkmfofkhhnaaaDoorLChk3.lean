/-
  listing: Check.
-/
import Derived.Test.YtnhkmfofkhhnaaaDoorLLots
namespace Go.Proofs.YtnhkmfofkhhnaaaDoor
set_option linter.unusedVariables false
set_option linter.unusedSimpArgs false
open Go.Shelf Go.RowKit Go.Sort Go.Lib

def ckE (b1 b2 b3 b4 b5 b6 : Bool) : Int := if b1 = false then 105 else if b2 = false then 102 else if b3 = false then 101 else if b4 = false then 101 else if b5 = false then 103 else if b6 = false then 104 else 0
def chE (I : Ins) (o : Ord) (ph r date : Int) : Int := ckE (orB o date) (loB I o) (tkB I o.pr) (tkB I o.sp) (bdB I o.pr r) (phB o ph)
theorem orB_nn {o : Ord} {date : Int} (h : orB o date = true) : 0 ≤ o.sh ∧ 0 ≤ o.le := by
  unfold orB shB leB at h
  simp only [Bool.and_eq_true, Bool.or_eq_true, beq_iff_eq, decide_eq_true_eq] at h
  obtain ⟨⟨⟨_, h1⟩, h2⟩, _⟩ := h
  constructor
  · rcases h1 with h1 | h1 <;> omega
  · rcases h2 with h2 | h2 <;> omega
set_option maxRecDepth 100000 in
set_option maxHeartbeats 8000000 in
theorem Check_any (L B C : Nat) (I : Ins) (o : Ord) (ph r date : Int) (w : World) (h : LisAt w L B I C) (hM : Mon w) (u0 : -9223372036854775808 ≤ o.un) (u1 : o.un ≤ 9223372036854775807) :
    Calls Tryd.prog 19 #[.pointer (some ⟨L, 0, none⟩), .agg o.cs, .int .i64 ph, .int .i64 r, .int .i64 date] w fun e w' => e = .returned (.int .i64 (chE I o ph r date)) ∧ Below w.heap.size w w' := by
  have h1 := fun w' (hb : Below w.heap.size w w') => isOrder_any o date w' (hM.below hb hM.lt) u0 u1
  have h2 := fun w' (hb : Below w.heap.size w w') (ho : orB o date = true) => fitsLots_any L B C I o w' (h.below hb) (orB_nn ho).1 (orB_nn ho).2
  have h3 := fun w' (hb : Below w.heap.size w w') => fitsTicks_any L B C I o.pr w' (h.below hb)
  have h4 := fun w' (hb : Below w.heap.size w w') => fitsTicks_any L B C I o.sp w' (h.below hb)
  have h5 := fun w' (hb : Below w.heap.size w w') => fitsBand_any L B C I o.pr r w' (h.below hb)
  have h6 := fun w' => fitsPhase_any o ph w'
  unfold chE
  generalize orB o date = b1 at *
  generalize loB I o = b2 at *
  generalize tkB I o.pr = b3 at *
  generalize tkB I o.sp = b4 at *
  generalize bdB I o.pr r = b5 at *
  generalize phB o ph = b6 at *
  clear hM u0 u1 h
  obtain ⟨id, nm, ac, sy, sd, ty, lf, pr, sp, q, sh, dn, le, un, ow⟩ := o
  simp only [Ord.cs] at *
  have HH : Hid ((∀ w', Below w.heap.size w w' → Calls Tryd.prog 35 #[.agg #[.int .i64 id, .string nm, .string ac, .string sy, .int .i64 sd, .int .i64 ty, .int .i64 lf, .int .i64 pr, .int .i64 sp, .int .i64 q, .int .i64 sh, .int .i64 dn, .int .i64 le, .int .i64 un, .int .i64 ow], .int .i64 date] w' fun e w2 => e = .returned (.bool b1) ∧ Below w'.heap.size w' w2) ∧ (∀ w', Below w.heap.size w w' → b1 = true → Calls Tryd.prog 36 #[.pointer (some ⟨L, 0, none⟩), .agg #[.int .i64 id, .string nm, .string ac, .string sy, .int .i64 sd, .int .i64 ty, .int .i64 lf, .int .i64 pr, .int .i64 sp, .int .i64 q, .int .i64 sh, .int .i64 dn, .int .i64 le, .int .i64 un, .int .i64 ow]] w' fun e w2 => e = .returned (.bool b2) ∧ Below w'.heap.size w' w2) ∧ (∀ w', Below w.heap.size w w' → Calls Tryd.prog 37 #[.pointer (some ⟨L, 0, none⟩), .int .i64 pr] w' fun e w2 => e = .returned (.bool b3) ∧ Below w'.heap.size w' w2) ∧ (∀ w', Below w.heap.size w w' → Calls Tryd.prog 37 #[.pointer (some ⟨L, 0, none⟩), .int .i64 sp] w' fun e w2 => e = .returned (.bool b4) ∧ Below w'.heap.size w' w2) ∧ (∀ w', Below w.heap.size w w' → Calls Tryd.prog 38 #[.pointer (some ⟨L, 0, none⟩), .int .i64 pr, .int .i64 r] w' fun e w2 => e = .returned (.bool b5) ∧ Below w'.heap.size w' w2) ∧ (∀ w', Calls Tryd.prog 39 #[.agg #[.int .i64 id, .string nm, .string ac, .string sy, .int .i64 sd, .int .i64 ty, .int .i64 lf, .int .i64 pr, .int .i64 sp, .int .i64 q, .int .i64 sh, .int .i64 dn, .int .i64 le, .int .i64 un, .int .i64 ow], .int .i64 ph] w' fun e w2 => e = .returned (.bool b6) ∧ Below w'.heap.size w' w2)) := ⟨h1, h2, h3, h4, h5, h6⟩
  clear h1 h2 h3 h4 h5 h6
  unfold ckE
  have H0 : Hid (Below w.heap.size w (w.alloc (.cells #[.int .i64 id, .string nm, .string ac, .string sy, .int .i64 sd, .int .i64 ty, .int .i64 lf, .int .i64 pr, .int .i64 sp, .int .i64 q, .int .i64 sh, .int .i64 dn, .int .i64 le, .int .i64 un, .int .i64 ow] 50)) ∧ Blk (w.alloc (.cells #[.int .i64 id, .string nm, .string ac, .string sy, .int .i64 sd, .int .i64 ty, .int .i64 lf, .int .i64 pr, .int .i64 sp, .int .i64 q, .int .i64 sh, .int .i64 dn, .int .i64 le, .int .i64 un, .int .i64 ow] 50)) w.heap.size 50 #[.int .i64 id, .string nm, .string ac, .string sy, .int .i64 sd, .int .i64 ty, .int .i64 lf, .int .i64 pr, .int .i64 sp, .int .i64 q, .int .i64 sh, .int .i64 dn, .int .i64 le, .int .i64 un, .int .i64 ow]) := ⟨(Below.refl _ w).alloc (Nat.le_refl _) _, Blk.new _ _ _⟩
  go_enter Tryd.func19, Tryd.ntmps19
  go_wp2_with (go_at_call 35; fail)
  refine (HH.out.1 _ H0.out.1).mono ?_
  rintro e wa ⟨rfl, hbwa⟩
  have Hwa : Hid (Below w.heap.size w wa ∧ Blk wa w.heap.size 50 #[.int .i64 id, .string nm, .string ac, .string sy, .int .i64 sd, .int .i64 ty, .int .i64 lf, .int .i64 pr, .int .i64 sp, .int .i64 q, .int .i64 sh, .int .i64 dn, .int .i64 le, .int .i64 un, .int .i64 ow]) := ⟨H0.out.1.trans (hbwa.mono H0.out.1.size), H0.out.2.below hbwa H0.out.2.lt⟩
  clear hbwa
  clear H0
  have wax0 : wa.cell? ⟨w.heap.size, 0, none⟩ = some (.int .i64 id) := Hwa.out.2.cell 0
  have wax1 : wa.cell? ⟨w.heap.size, 1, none⟩ = some (.string nm) := Hwa.out.2.cell 1
  have wax2 : wa.cell? ⟨w.heap.size, 2, none⟩ = some (.string ac) := Hwa.out.2.cell 2
  have wax3 : wa.cell? ⟨w.heap.size, 3, none⟩ = some (.string sy) := Hwa.out.2.cell 3
  have wax4 : wa.cell? ⟨w.heap.size, 4, none⟩ = some (.int .i64 sd) := Hwa.out.2.cell 4
  have wax5 : wa.cell? ⟨w.heap.size, 5, none⟩ = some (.int .i64 ty) := Hwa.out.2.cell 5
  have wax6 : wa.cell? ⟨w.heap.size, 6, none⟩ = some (.int .i64 lf) := Hwa.out.2.cell 6
  have wax7 : wa.cell? ⟨w.heap.size, 7, none⟩ = some (.int .i64 pr) := Hwa.out.2.cell 7
  have wax8 : wa.cell? ⟨w.heap.size, 8, none⟩ = some (.int .i64 sp) := Hwa.out.2.cell 8
  have wax9 : wa.cell? ⟨w.heap.size, 9, none⟩ = some (.int .i64 q) := Hwa.out.2.cell 9
  have wax10 : wa.cell? ⟨w.heap.size, 10, none⟩ = some (.int .i64 sh) := Hwa.out.2.cell 10
  have wax11 : wa.cell? ⟨w.heap.size, 11, none⟩ = some (.int .i64 dn) := Hwa.out.2.cell 11
  have wax12 : wa.cell? ⟨w.heap.size, 12, none⟩ = some (.int .i64 le) := Hwa.out.2.cell 12
  have wax13 : wa.cell? ⟨w.heap.size, 13, none⟩ = some (.int .i64 un) := Hwa.out.2.cell 13
  have wax14 : wa.cell? ⟨w.heap.size, 14, none⟩ = some (.int .i64 ow) := Hwa.out.2.cell 14
  cases b1
  · go_wp2
    go_ret
    exact ⟨rfl, Hwa.out.1⟩
  go_wp2_with (go_at_call 36; fail)
  refine (HH.out.2.1 _ Hwa.out.1 (by first | rfl | trivial)).mono ?_
  rintro e wb ⟨rfl, hbwb⟩
  have Hwb : Hid (Below w.heap.size w wb ∧ Blk wb w.heap.size 50 #[.int .i64 id, .string nm, .string ac, .string sy, .int .i64 sd, .int .i64 ty, .int .i64 lf, .int .i64 pr, .int .i64 sp, .int .i64 q, .int .i64 sh, .int .i64 dn, .int .i64 le, .int .i64 un, .int .i64 ow]) := ⟨Hwa.out.1.trans (hbwb.mono Hwa.out.1.size), Hwa.out.2.below hbwb Hwa.out.2.lt⟩
  clear hbwb
  clear Hwa
  clear wax0 wax1 wax2 wax3 wax4 wax5 wax6 wax7 wax8 wax9 wax10 wax11 wax12 wax13 wax14
  have wbx7 : wb.cell? ⟨w.heap.size, 7, none⟩ = some (.int .i64 pr) := Hwb.out.2.cell 7
  have wbx8 : wb.cell? ⟨w.heap.size, 8, none⟩ = some (.int .i64 sp) := Hwb.out.2.cell 8
  cases b2
  · go_wp2
    go_ret
    exact ⟨rfl, Hwb.out.1⟩
  go_wp2_with (go_at_call 37; fail)
  refine (HH.out.2.2.1 _ Hwb.out.1).mono ?_
  rintro e wc ⟨rfl, hbwc⟩
  have Hwc : Hid (Below w.heap.size w wc ∧ Blk wc w.heap.size 50 #[.int .i64 id, .string nm, .string ac, .string sy, .int .i64 sd, .int .i64 ty, .int .i64 lf, .int .i64 pr, .int .i64 sp, .int .i64 q, .int .i64 sh, .int .i64 dn, .int .i64 le, .int .i64 un, .int .i64 ow]) := ⟨Hwb.out.1.trans (hbwc.mono Hwb.out.1.size), Hwb.out.2.below hbwc Hwb.out.2.lt⟩
  clear hbwc
  clear Hwb
  clear wbx7 wbx8
  have wcx7 : wc.cell? ⟨w.heap.size, 7, none⟩ = some (.int .i64 pr) := Hwc.out.2.cell 7
  have wcx8 : wc.cell? ⟨w.heap.size, 8, none⟩ = some (.int .i64 sp) := Hwc.out.2.cell 8
  cases b3
  · go_wp2
    go_ret
    exact ⟨rfl, Hwc.out.1⟩
  go_wp2_with (go_at_call 37; fail)
  refine (HH.out.2.2.2.1 _ Hwc.out.1).mono ?_
  rintro e wd ⟨rfl, hbwd⟩
  have Hwd : Hid (Below w.heap.size w wd ∧ Blk wd w.heap.size 50 #[.int .i64 id, .string nm, .string ac, .string sy, .int .i64 sd, .int .i64 ty, .int .i64 lf, .int .i64 pr, .int .i64 sp, .int .i64 q, .int .i64 sh, .int .i64 dn, .int .i64 le, .int .i64 un, .int .i64 ow]) := ⟨Hwc.out.1.trans (hbwd.mono Hwc.out.1.size), Hwc.out.2.below hbwd Hwc.out.2.lt⟩
  clear hbwd
  clear Hwc
  clear wcx7 wcx8
  have wdx7 : wd.cell? ⟨w.heap.size, 7, none⟩ = some (.int .i64 pr) := Hwd.out.2.cell 7
  have wdx8 : wd.cell? ⟨w.heap.size, 8, none⟩ = some (.int .i64 sp) := Hwd.out.2.cell 8
  cases b4
  · go_wp2
    go_ret
    exact ⟨rfl, Hwd.out.1⟩
  go_wp2_with (go_at_call 38; fail)
  refine (HH.out.2.2.2.2.1 _ Hwd.out.1).mono ?_
  rintro e we ⟨rfl, hbwe⟩
  have Hwe : Hid (Below w.heap.size w we ∧ Blk we w.heap.size 50 #[.int .i64 id, .string nm, .string ac, .string sy, .int .i64 sd, .int .i64 ty, .int .i64 lf, .int .i64 pr, .int .i64 sp, .int .i64 q, .int .i64 sh, .int .i64 dn, .int .i64 le, .int .i64 un, .int .i64 ow]) := ⟨Hwd.out.1.trans (hbwe.mono Hwd.out.1.size), Hwd.out.2.below hbwe Hwd.out.2.lt⟩
  clear hbwe
  clear Hwd
  clear wdx7 wdx8
  have wex0 : we.cell? ⟨w.heap.size, 0, none⟩ = some (.int .i64 id) := Hwe.out.2.cell 0
  have wex1 : we.cell? ⟨w.heap.size, 1, none⟩ = some (.string nm) := Hwe.out.2.cell 1
  have wex2 : we.cell? ⟨w.heap.size, 2, none⟩ = some (.string ac) := Hwe.out.2.cell 2
  have wex3 : we.cell? ⟨w.heap.size, 3, none⟩ = some (.string sy) := Hwe.out.2.cell 3
  have wex4 : we.cell? ⟨w.heap.size, 4, none⟩ = some (.int .i64 sd) := Hwe.out.2.cell 4
  have wex5 : we.cell? ⟨w.heap.size, 5, none⟩ = some (.int .i64 ty) := Hwe.out.2.cell 5
  have wex6 : we.cell? ⟨w.heap.size, 6, none⟩ = some (.int .i64 lf) := Hwe.out.2.cell 6
  have wex7 : we.cell? ⟨w.heap.size, 7, none⟩ = some (.int .i64 pr) := Hwe.out.2.cell 7
  have wex8 : we.cell? ⟨w.heap.size, 8, none⟩ = some (.int .i64 sp) := Hwe.out.2.cell 8
  have wex9 : we.cell? ⟨w.heap.size, 9, none⟩ = some (.int .i64 q) := Hwe.out.2.cell 9
  have wex10 : we.cell? ⟨w.heap.size, 10, none⟩ = some (.int .i64 sh) := Hwe.out.2.cell 10
  have wex11 : we.cell? ⟨w.heap.size, 11, none⟩ = some (.int .i64 dn) := Hwe.out.2.cell 11
  have wex12 : we.cell? ⟨w.heap.size, 12, none⟩ = some (.int .i64 le) := Hwe.out.2.cell 12
  have wex13 : we.cell? ⟨w.heap.size, 13, none⟩ = some (.int .i64 un) := Hwe.out.2.cell 13
  have wex14 : we.cell? ⟨w.heap.size, 14, none⟩ = some (.int .i64 ow) := Hwe.out.2.cell 14
  cases b5
  · go_wp2
    go_ret
    exact ⟨rfl, Hwe.out.1⟩
  go_wp2_with (go_at_call 39; fail)
  refine (HH.out.2.2.2.2.2 _).mono ?_
  rintro e wf ⟨rfl, hbwf⟩
  have Hwf : Hid (Below w.heap.size w wf ∧ Blk wf w.heap.size 50 #[.int .i64 id, .string nm, .string ac, .string sy, .int .i64 sd, .int .i64 ty, .int .i64 lf, .int .i64 pr, .int .i64 sp, .int .i64 q, .int .i64 sh, .int .i64 dn, .int .i64 le, .int .i64 un, .int .i64 ow]) := ⟨Hwe.out.1.trans (hbwf.mono Hwe.out.1.size), Hwe.out.2.below hbwf Hwe.out.2.lt⟩
  clear hbwf
  clear Hwe
  clear wex0 wex1 wex2 wex3 wex4 wex5 wex6 wex7 wex8 wex9 wex10 wex11 wex12 wex13 wex14
  cases b6
  · go_wp2
    go_ret
    exact ⟨rfl, Hwf.out.1⟩
  go_wp2
  go_ret
  exact ⟨rfl, Hwf.out.1⟩
end Go.Proofs.YtnhkmfofkhhnaaaDoor
