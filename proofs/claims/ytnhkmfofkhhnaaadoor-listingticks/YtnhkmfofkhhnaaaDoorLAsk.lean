/-
  listing: Tick, Round, Band, Fee, Instrument.
-/
import Derived.Test.YtnhkmfofkhhnaaaDoorLPha
import Derived.Test.YtnhkmfofkhhnaaaDoorLMul
import Derived.Test.YtnhkmfofkhhnaaaDoorLNine
namespace Go.Proofs.YtnhkmfofkhhnaaaDoor
set_option linter.unusedVariables false
open Go.Shelf Go.RowKit Go.Sort Go.Lib

/-- The steps of a listing. -/
theorem LisAt.steps {w : World} {L B C : Nat} {I : Ins} (h : LisAt w L B I C) : ∃ aS cS, w.cell? ⟨L, 3, none⟩ = some (.slice aS I.steps.length cS) ∧ SrcT w (.slice aS I.steps.length cS) I.steps := by
  obtain ⟨aS, cS, aT, cT, hb, h1, _⟩ := h.blk
  exact ⟨aS, cS, hb.cell 3, h1.src⟩
theorem LisAt.nums {w : World} {L B C : Nat} {I : Ins} (h : LisAt w L B I C) : w.cell? ⟨L, 1, none⟩ = some (.int .i64 I.lot) ∧ w.cell? ⟨L, 2, none⟩ = some (.int .i64 I.most) ∧ w.cell? ⟨L, 4, none⟩ = some (.int .i64 I.band) ∧ w.cell? ⟨L, 7, none⟩ = some (.int .i64 I.maker) ∧ w.cell? ⟨L, 8, none⟩ = some (.int .i64 I.taker) := by
  obtain ⟨aS, cS, aT, cT, hb, _, _⟩ := h.blk
  exact ⟨hb.cell 1, hb.cell 2, hb.cell 4, hb.cell 7, hb.cell 8⟩
theorem LisAt.okS {w : World} {L B C : Nat} {I : Ins} (h : LisAt w L B I C) : OkS (fN I.steps) (gN I.steps) I.steps.length := (ins_ok h.ok).2.2.1
set_option maxRecDepth 100000 in
set_option maxHeartbeats 400000 in
theorem Tick_any (L B C : Nat) (I : Ins) (p : Int) (w : World) (h : LisAt w L B I C) :
    Calls Tryd.prog 18 #[.pointer (some ⟨L, 0, none⟩), .int .i64 p] w fun e w' => e = .returned (.int .i64 (gN I.steps (stpN (fN I.steps) I.steps.length p))) ∧ Below w.heap.size w w' := by
  obtain ⟨aS, cS, q3, hs⟩ := h.steps
  have hst := stepOf_any _ _ p w hs h.okS.n1 h.okS.n8
  generalize fN I.steps (stpN (fN I.steps) I.steps.length p) = f at *
  generalize gN I.steps (stpN (fN I.steps) I.steps.length p) = t at *
  clear hs h
  have hfld : ∀ w, Sem.run Tryd.prog (Instr.field 55 (.agg #[.int .i64 f, .int .i64 t]) 1) w = .ok (.int .i64 t) w := fun w => by kernel_rfl
  go_enter Tryd.func18, Tryd.ntmps18
  go_wp2_with (go_at_call 34; fail)
  refine hst.mono ?_
  rintro e w1 ⟨rfl, hb1⟩
  have HB : Hid (Below w.heap.size w w1) := hb1
  clear hb1
  go_wp2
  go_ret
  exact ⟨rfl, HB.out⟩
def roV (I : Ins) (p side : Int) : Int := if side = 1 then dnP (fN I.steps) (gN I.steps) I.steps.length p else if side = 2 then upP (fN I.steps) (gN I.steps) I.steps.length p else 0
set_option maxRecDepth 100000 in
set_option maxHeartbeats 400000 in
theorem Round_any (L B C : Nat) (I : Ins) (p side : Int) (w : World) (h : LisAt w L B I C) :
    Calls Tryd.prog 16 #[.pointer (some ⟨L, 0, none⟩), .int .i64 p, .int .i64 side] w fun e w' => e = .returned (.int .i64 (roV I p side)) ∧ Below w.heap.size w w' := by
  obtain ⟨aS, cS, q3, hs⟩ := h.steps
  have h1 := roundDown_any _ _ p w hs h.okS
  have h2 := roundUp_any _ _ p w hs h.okS
  unfold roV
  generalize dnP (fN I.steps) (gN I.steps) I.steps.length p = x at *
  generalize upP (fN I.steps) (gN I.steps) I.steps.length p = y at *
  clear hs h
  rcases Decidable.em (side = 1) with rfl | s1
  · rw [if_pos rfl]
    go_enter Tryd.func16, Tryd.ntmps16
    go_wp2_with (go_at_call 32; fail)
    refine h1.mono ?_
    rintro e w1 ⟨rfl, hb1⟩
    have HB : Hid (Below w.heap.size w w1) := hb1
    clear hb1
    go_wp2
    go_ret
    exact ⟨rfl, HB.out⟩
  rcases Decidable.em (side = 2) with rfl | s2
  · rw [if_neg (by decide), if_pos rfl]
    clear s1
    go_enter Tryd.func16, Tryd.ntmps16
    go_wp2_with (go_at_call 33; fail)
    refine h2.mono ?_
    rintro e w1 ⟨rfl, hb1⟩
    have HB : Hid (Below w.heap.size w w1) := hb1
    clear hb1
    go_wp2
    go_ret
    exact ⟨rfl, HB.out⟩
  · rw [if_neg s1, if_neg s2]
    have b1 : (side == 1) = false := by simp [s1]
    have b2 : (side == 2) = false := by simp [s2]
    clear s1 s2
    go_enter Tryd.func16, Tryd.ntmps16
    go_wp2
    go_ret
    exact ⟨rfl, Below.refl _ _⟩
def bnD (I : Ins) (r : Int) : Int := min r 1000000000 * I.band / 10000
def bnL (I : Ins) (r : Int) : Int := if I.band = 0 ∨ r < 1 then 1 else max (min r 1000000000 - bnD I r) 1
def bnH (I : Ins) (r : Int) : Int := if I.band = 0 ∨ r < 1 then 1000000000 else min (min r 1000000000 + bnD I r) 1000000000
theorem bnD_bd {I : Ins} {r : Int} (h0 : 0 ≤ I.band) (h1 : I.band ≤ 10000) (h2 : 1 ≤ r) : 0 ≤ min r 1000000000 * I.band ∧ min r 1000000000 * I.band ≤ 10000000000000 ∧ 0 ≤ bnD I r ∧ bnD I r ≤ 1000000000 := by
  have a : 0 ≤ min r 1000000000 * I.band := Int.mul_nonneg (by omega) h0
  have b : min r 1000000000 * I.band ≤ 1000000000 * 10000 := Int.mul_le_mul (by omega) h1 h0 (by decide)
  unfold bnD
  omega
set_option maxRecDepth 100000 in
set_option maxHeartbeats 1000000 in
theorem Band_any (L B C : Nat) (I : Ins) (r : Int) (w : World) (h : LisAt w L B I C) :
    Calls Tryd.prog 20 #[.pointer (some ⟨L, 0, none⟩), .int .i64 r] w fun e w' => e = .returned (.tuple #[.int .i64 (bnL I r), .int .i64 (bnH I r)]) ∧ Below w.heap.size w w' := by
  obtain ⟨_, _, q4, _, _⟩ := h.nums
  obtain ⟨b0, b1⟩ := (ins_ok h.ok).2.2.2.1
  unfold bnL bnH
  have hbd := fun h2 => bnD_bd (I := I) (r := r) b0 b1 h2
  unfold bnD at *
  generalize I.band = bd at *
  clear h
  by_cases hz : bd = 0
  · subst hz
    simp only [true_or, if_true]
    clear hbd
    go_enter Tryd.func20, Tryd.ntmps20
    go_wp2
    go_ret2
    exact ⟨rfl, Below.refl _ _⟩
  have hz0 : (bd == 0) = false := by simp [hz]
  by_cases hr : r < 1
  · rw [if_pos (.inr hr), if_pos (.inr hr)]
    clear hbd hz
    go_enter Tryd.func20, Tryd.ntmps20
    go_wp2
    go_ret2
    exact ⟨rfl, Below.refl _ _⟩
  · rw [if_neg (by omega), if_neg (by omega)]
    obtain ⟨p0, p1, d0, d1⟩ := hbd (by omega)
    have hm : magI bd = bd := magI_pos (by omega)
    have hmd := fun w => MulDiv_low (min r 1000000000) bd 10000 w (by omega) (by omega) (by omega) (by omega) (by decide) (by decide) (by rw [hm]; omega) (by rw [hm]; omega)
    obtain ⟨k, hk, k0, k1⟩ : ∃ k, k = min r 1000000000 ∧ 1 ≤ k ∧ k ≤ 1000000000 := ⟨_, rfl, by omega, by omega⟩
    rw [← hk] at d0 d1 hmd ⊢
    generalize k * bd % 10000 = md at *
    generalize k * bd / 10000 = d at *
    clear hbd p0 p1 hm hz
    subst hk
    go_enter Tryd.func20, Tryd.ntmps20
    go_wp2_with (go_at_call 40; fail)
    refine (hmd _).mono ?_
    rintro e w1 ⟨rfl, j, rfl⟩
    go_wp2
    go_ret2
    exact ⟨rfl, below_drewN (Below.refl _ _) _⟩
def feV (I : Ins) (v : Int) (tk : Bool) : Int := if 0 ≤ v ∧ v ≤ 1000000000000000 then v * (if tk then I.taker else I.maker) / 1000000 else 0
set_option maxRecDepth 100000 in
set_option maxHeartbeats 1000000 in
theorem Fee_any (L B C : Nat) (I : Ins) (v : Int) (tk : Bool) (w : World) (h : LisAt w L B I C) :
    Calls Tryd.prog 21 #[.pointer (some ⟨L, 0, none⟩), .int .i64 v, .bool tk] w fun e w' => e = .returned (.int .i64 (feV I v tk)) ∧ Below w.heap.size w w' := by
  obtain ⟨_, _, _, q7, q8⟩ := h.nums
  obtain ⟨_, _, _, _, _, hm, ht, _⟩ := ins_ok h.ok
  have hw := fun w => within64_any v 0 1000000000000000 w
  unfold feV
  generalize I.maker = mk at *
  generalize I.taker = tkr at *
  clear h
  by_cases hv : 0 ≤ v ∧ v ≤ 1000000000000000
  · rw [if_pos hv]
    have hwi : wiB v 0 1000000000000000 = true := wiB_iff.2 hv
    rw [hwi] at hw
    have hrate : ∀ r : Int, -10000 ≤ r → r ≤ 10000 → ∀ w, Calls Tryd.prog 40 #[.int .i64 v, .int .i64 r, .int .i64 1000000] w fun e w' => e = .returned (.tuple #[.int .i64 (v * r / 1000000), .int .i64 (v * r % 1000000), .bool true]) ∧ ∃ k, w' = w.drewN k := fun r r0 r1 w => by
      have m0 : 0 ≤ magI r := by unfold magI; split <;> omega
      have m1 : magI r ≤ 10000 := by unfold magI; split <;> omega
      have hp : v * magI r ≤ 1000000000000000 * 10000 := Int.mul_le_mul hv.2 m1 m0 (by decide)
      exact MulDiv_low v r 1000000 w hv.1 (by omega) (by omega) (by omega) (by decide) (by decide) (by omega) (by omega)
    have h1 := hrate mk hm.1 hm.2
    have h2 := hrate tkr (by omega) ht.2
    clear hrate hwi
    cases tk
    · simp only [if_false, Bool.false_eq_true]
      generalize v * mk / 1000000 = x1 at *
      generalize v * mk % 1000000 = y1 at *
      go_enter Tryd.func21, Tryd.ntmps21
      go_wp2_with (go_at_call 41; fail)
      refine (hw _).mono ?_
      rintro e w1 ⟨rfl, rfl⟩
      go_wp2_with (go_at_call 40; fail)
      refine (h1 _).mono ?_
      rintro e w2 ⟨rfl, k, rfl⟩
      go_wp2
      go_ret
      exact ⟨rfl, below_drewN (Below.refl _ _) _⟩
    · simp only [if_true]
      generalize v * tkr / 1000000 = x2 at *
      generalize v * tkr % 1000000 = y2 at *
      go_enter Tryd.func21, Tryd.ntmps21
      go_wp2_with (go_at_call 41; fail)
      refine (hw _).mono ?_
      rintro e w1 ⟨rfl, rfl⟩
      go_wp2_with (go_at_call 40; fail)
      refine (h2 _).mono ?_
      rintro e w2 ⟨rfl, k, rfl⟩
      go_wp2
      go_ret
      exact ⟨rfl, below_drewN (Below.refl _ _) _⟩
  · rw [if_neg hv]
    have hwi : wiB v 0 1000000000000000 = false := by
      cases hc : wiB v 0 1000000000000000 with
      | false => rfl
      | true => exact absurd (wiB_iff.1 hc) hv
    rw [hwi] at hw
    clear hv hwi
    go_enter Tryd.func21, Tryd.ntmps21
    go_wp2_with (go_at_call 41; fail)
    refine (hw _).mono ?_
    rintro e w1 ⟨rfl, rfl⟩
    go_wp2
    go_ret
    exact ⟨rfl, Below.refl _ _⟩
set_option maxRecDepth 100000 in
set_option maxHeartbeats 1000000 in
theorem Instrument_any (L B C : Nat) (I : Ins) (w : World) (h : LisAt w L B I C) :
    Calls Tryd.prog 17 #[.pointer (some ⟨L, 0, none⟩)] w fun e w' => ∃ aS cS aT cT, e = .returned (.agg (I.cs (.slice aS I.steps.length cS) (.slice aT I.turns.length cT))) ∧ OwnT 55 w' w.heap.size (.slice aS I.steps.length cS) I.steps ∧ OwnT 35 w' w.heap.size (.slice aT I.turns.length cT) I.turns ∧ Below w.heap.size w w' := by
  obtain ⟨aS, cS, aT, cT, hb, h1, h2⟩ := h.blk
  have hn := (ins_ok h.ok).2.2.1.n8
  have hm := (ins_ok h.ok).2.2.2.2.1.m10
  have HC : Hid (∀ w', Below w.heap.size w w' → Calls Tryd.prog 24 #[.agg (I.cs (.slice aS I.steps.length cS) (.slice aT I.turns.length cT))] w' fun e w2 => ∃ uS uT, e = .returned (.agg (I.cs uS uT)) ∧ OwnT 55 w2 w'.heap.size uS I.steps ∧ OwnT 35 w2 w'.heap.size uT I.turns ∧ Below w'.heap.size w' w2) := fun w' hb => copied_any I _ _ w' (h1.src.below hb) (h2.src.below hb) (by omega) (by omega)
  have q : ∀ k, w.cell? ⟨L, k, none⟩ = _ := fun k => hb.cell k
  have hlt := hb.lt
  clear h h1 h2 hn hm hb
  obtain ⟨sym, lot, most, steps, band, ref, turns, maker, taker⟩ := I
  simp only [Ins.cs] at *
  have q0 : w.cell? ⟨L, 0, none⟩ = some (.string sym) := q 0
  have q1 : w.cell? ⟨L, 1, none⟩ = some (.int .i64 lot) := q 1
  have q2 : w.cell? ⟨L, 2, none⟩ = some (.int .i64 most) := q 2
  have q3 : w.cell? ⟨L, 3, none⟩ = some (.slice aS steps.length cS) := q 3
  have q4 : w.cell? ⟨L, 4, none⟩ = some (.int .i64 band) := q 4
  have q5 : w.cell? ⟨L, 5, none⟩ = some (.int .i64 ref) := q 5
  have q6 : w.cell? ⟨L, 6, none⟩ = some (.slice aT turns.length cT) := q 6
  have q7 : w.cell? ⟨L, 7, none⟩ = some (.int .i64 maker) := q 7
  have q8 : w.cell? ⟨L, 8, none⟩ = some (.int .i64 taker) := q 8
  clear q
  have HB : Hid (Below w.heap.size w (w.alloc (.cells #[.string ⟨#[]⟩, .int .i64 0, .int .i64 0, .slice none 0 0, .int .i64 0, .int .i64 0, .slice none 0 0, .int .i64 0, .int .i64 0] 31)) ∧ Blk (w.alloc (.cells #[.string ⟨#[]⟩, .int .i64 0, .int .i64 0, .slice none 0 0, .int .i64 0, .int .i64 0, .slice none 0 0, .int .i64 0, .int .i64 0] 31)) w.heap.size 31 #[.string ⟨#[]⟩, .int .i64 0, .int .i64 0, .slice none 0 0, .int .i64 0, .int .i64 0, .slice none 0 0, .int .i64 0, .int .i64 0]) := ⟨(Below.refl _ w).alloc (Nat.le_refl _) _, Blk.new _ _ _⟩
  go_enter Tryd.func17, Tryd.ntmps17
  go_wp2_with (go_at_call 24; fail)
  refine (HC.out _ HB.out.1).mono ?_
  rintro e w2 ⟨uS, uT, rfl, ho1, ho2, hb2⟩
  obtain ⟨aS2, cS2, rfl⟩ := ho1.form
  obtain ⟨aT2, cT2, rfl⟩ := ho2.form
  have H2 : Hid (OwnT 55 w2 (w.heap.size + 1) (.slice aS2 steps.length cS2) steps ∧ OwnT 35 w2 (w.heap.size + 1) (.slice aT2 turns.length cT2) turns ∧ Below w.heap.size w w2 ∧ Blk w2 w.heap.size 31 #[.string ⟨#[]⟩, .int .i64 0, .int .i64 0, .slice none 0 0, .int .i64 0, .int .i64 0, .slice none 0 0, .int .i64 0, .int .i64 0]) := ⟨ho1.mono HB.out.2.lt, ho2.mono HB.out.2.lt, HB.out.1.trans (hb2.mono HB.out.1.size), HB.out.2.below hb2 HB.out.2.lt⟩
  clear ho1 ho2 hb2 HB HC q0 q1 q2 q3 q4 q5 q6 q7 q8
  have z0 : w2.cell? ⟨w.heap.size, 0, none⟩ = some (.string ⟨#[]⟩) := H2.out.2.2.2.cell 0
  have z1 : w2.cell? ⟨w.heap.size, 1, none⟩ = some (.int .i64 0) := H2.out.2.2.2.cell 1
  have z2 : w2.cell? ⟨w.heap.size, 2, none⟩ = some (.int .i64 0) := H2.out.2.2.2.cell 2
  have z3 : w2.cell? ⟨w.heap.size, 3, none⟩ = some (.slice none 0 0) := H2.out.2.2.2.cell 3
  have z4 : w2.cell? ⟨w.heap.size, 4, none⟩ = some (.int .i64 0) := H2.out.2.2.2.cell 4
  have z5 : w2.cell? ⟨w.heap.size, 5, none⟩ = some (.int .i64 0) := H2.out.2.2.2.cell 5
  have z6 : w2.cell? ⟨w.heap.size, 6, none⟩ = some (.slice none 0 0) := H2.out.2.2.2.cell 6
  have z7 : w2.cell? ⟨w.heap.size, 7, none⟩ = some (.int .i64 0) := H2.out.2.2.2.cell 7
  have z8 : w2.cell? ⟨w.heap.size, 8, none⟩ = some (.int .i64 0) := H2.out.2.2.2.cell 8
  have f : ∀ k, w2.frozen? ⟨w.heap.size, k, none⟩ = false := fun k => H2.out.2.2.2.frozen k
  go_wp2
  have hn := nine (.string sym) (.int .i64 lot) (.int .i64 most) (.slice aS2 steps.length cS2) (.int .i64 band) (.int .i64 ref) (.slice aT2 turns.length cT2) (.int .i64 maker) (.int .i64 taker) H2.out.2.2.2
  generalize (((((((((w2.setCell ⟨w.heap.size, 0, none⟩ (.string sym)).setCell ⟨w.heap.size, 1, none⟩ (.int .i64 lot)).setCell ⟨w.heap.size, 2, none⟩ (.int .i64 most)).setCell ⟨w.heap.size, 3, none⟩ (.slice aS2 steps.length cS2)).setCell ⟨w.heap.size, 4, none⟩ (.int .i64 band)).setCell ⟨w.heap.size, 5, none⟩ (.int .i64 ref)).setCell ⟨w.heap.size, 6, none⟩ (.slice aT2 turns.length cT2)).setCell ⟨w.heap.size, 7, none⟩ (.int .i64 maker)).setCell ⟨w.heap.size, 8, none⟩ (.int .i64 taker)) = W9 at *
  refine bodyPost_ret (results_cell_row (fn := Tryd.f17) (p := 2) (ty := 31) rfl _ _ w.heap.size 31 #[.string sym, .int .i64 lot, .int .i64 most, .slice aS2 steps.length cS2, .int .i64 band, .int .i64 ref, .slice aT2 turns.length cT2, .int .i64 maker, .int .i64 taker] (0, 0) _ (by rfl) hn.1 Tryd.underlying31 rfl (by kernel_rfl)) (by rfl) ?_
  exact ⟨_, _, _, _, rfl, (H2.out.1.keep fun q hq _ => hn.2.1 q (by omega)).mono (by omega), (H2.out.2.1.keep fun q hq _ => hn.2.1 q (by omega)).mono (by omega), H2.out.2.2.1.trans hn.2.2⟩
end Go.Proofs.YtnhkmfofkhhnaaaDoor
