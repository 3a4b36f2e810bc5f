/-
  listing: areTurns, isInstrument, New.
-/
import Derived.Test.YtnhkmfofkhhnaaaDoorLNew2
namespace Go.Proofs.YtnhkmfofkhhnaaaDoor
set_option linter.unusedVariables false
open Go.Shelf Go.RowKit Go.Sort Go.Lib

/-- The least minute of the k-th turn. -/
def leaV (M : Nat → Int) : Nat → Int
  | 0 => 0
  | k + 1 => M k + 1
def turB (M P : Nat → Int) (k : Nat) : Bool := wiB (M k) (leaV M k) 1439 && mtB (P k)
def tuB (l : List (Int × Int)) : Bool := decide (l.length ≤ 10) && okTo (turB (fN l) (gN l)) l.length
theorem mtB_iff {p : Int} : mtB p = true ↔ p = 0 ∨ p = 1 ∨ p = 3 ∨ p = 5 := by simp [mtB, or_assoc]
theorem leaV_nn {M P : Nat → Int} : ∀ {n j : Nat}, okTo (turB M P) n = true → j < n → 0 ≤ leaV M j ∧ 0 ≤ M j
  | n, 0, h, hj => by
    have h1 := okTo_at h hj
    rw [turB, Bool.and_eq_true] at h1
    exact ⟨Int.le_refl _, (wiB_iff.1 h1.1).1⟩
  | n, j + 1, h, hj => by
    have h1 := okTo_at h hj
    rw [turB, Bool.and_eq_true] at h1
    have h2 := leaV_nn h (show j < n by omega)
    have h3 := wiB_iff.1 h1.1
    rw [leaV] at h3 ⊢
    omega
theorem tuB_ok {l : List (Int × Int)} (h : tuB l = true) : OkT (fN l) (gN l) l.length := by
  unfold tuB at h
  rw [Bool.and_eq_true, decide_eq_true_eq] at h
  refine ⟨h.1, fun j hj => ?_, fun j hj => ?_, fun j hj => ?_⟩
  · have h1 := okTo_at h.2 hj
    rw [turB, Bool.and_eq_true] at h1
    exact ⟨(leaV_nn h.2 hj).2, (wiB_iff.1 h1.1).2⟩
  · have h1 := okTo_at h.2 hj
    rw [turB, Bool.and_eq_true] at h1
    have := (wiB_iff.1 h1.1).1
    rw [leaV] at this; omega
  · have h1 := okTo_at h.2 hj
    rw [turB, Bool.and_eq_true] at h1
    exact mtB_iff.1 h1.2
theorem tuB_of {l : List (Int × Int)} (h : OkT (fN l) (gN l) l.length) : tuB l = true := by
  unfold tuB
  rw [Bool.and_eq_true, decide_eq_true_eq]
  refine ⟨h.m10, okTo_all fun k hk => ?_⟩
  rw [turB, Bool.and_eq_true]
  refine ⟨wiB_iff.2 ⟨?_, (h.mn k hk).2⟩, mtB_iff.2 (h.ph k hk)⟩
  cases k with
  | zero => exact (h.mn 0 hk).1
  | succ k => rw [leaV]; have := h.up k hk; omega
set_option maxRecDepth 100000 in
set_option maxHeartbeats 1000000 in
theorem areTurns_any (v : Value) (l : List (Int × Int)) (w : World) (hs : SrcT w v l) :
    Calls Tryd.prog 49 #[v] w fun e w' => e = .returned (.bool (tuB l)) ∧ Below w.heap.size w w' := by
  have HS : Hid (SrcT w v l) := hs
  obtain ⟨ao, cap, rfl, hc, hr⟩ := hs
  clear hr
  generalize hA : tuB l = A
  unfold tuB at hA
  by_cases hn : l.length ≤ 10
  · rw [decide_eq_true hn, Bool.true_and] at hA
    have HA : Hid (okTo (turB (fN l) (gN l)) l.length = A) := hA
    clear hA
    have hni : ¬ (10 : Int) < (l.length : Int) := by omega
    go_enter Tryd.func49, Tryd.ntmps49
    go_wp2
    go_loopw [3, 5, 11] (fun ls _ i wr => ∃ k : Nat, k ≤ l.length ∧ i = .int .i64 (k : Int) ∧ ls = .int .i64 (leaV (fN l) k) ∧ okTo (turB (fN l) (gN l)) k = true ∧ Below w.heap.size w wr) (fun _ _ i _ => l.length - (intOf i).toNat)
    case atStart => exact ⟨0, Nat.zero_le _, rfl, rfl, rfl, Below.refl _ _⟩
    case round =>
      obtain ⟨k, hk, rfl, rfl, hok, hb⟩ := hrel
      have HB : Hid (Below w.heap.size w wr ∧ okTo (turB (fN l) (gN l)) k = true) := ⟨hb, hok⟩
      clear hok hb
      by_cases hlt' : k < l.length
      · have hki : (k : Int) < (l.length : Int) := by omega
        obtain ⟨ao', cap', e1, _, hr⟩ := HS.out.below HB.out.1
        injection e1 with e1 _ e3
        subst e1 e3
        obtain ⟨b, off, rfl, hq⟩ := hr.resolve_left (by intro h; rw [h] at hlt'; simp at hlt')
        obtain ⟨x0, x1⟩ := hq k hlt'
        clear hr hq
        have hbw : b < wr.heap.size := World.block_lt_of_cell? _ _ x0
        have hT := fun w => within_any (fN l k) (leaV (fN l) k) 1439 w
        have hP := fun w => mayTurnTo_any (gN l k) w
        have HE : Hid (turB (fN l) (gN l) k = false → A = false) := fun h => by rw [← HA.out]; exact okTo_false h hlt'
        have HN : Hid (turB (fN l) (gN l) k = true → okTo (turB (fN l) (gN l)) (k + 1) = true) := fun h => by rw [okTo, HB.out.2, h]; rfl
        have HW : Hid (Below w.heap.size w (wr.alloc (.cells #[.int .i64 (fN l k), .int .i64 (gN l k)] 35))) := HB.out.1.alloc HB.out.1.size _
        have HZ : Hid (turB (fN l) (gN l) k = (wiB (fN l k) (leaV (fN l) k) 1439 && mtB (gN l k))) := by show _ = _; rfl
        have HL : Hid (leaV (fN l) (k + 1) = fN l k + 1) := by show _ = _; rfl
        cases hwt : wiB (fN l k) (leaV (fN l) k) 1439
        · rw [hwt] at hT HZ
          clear hwt
          go_wp2_with (go_at_call 47; fail)
          refine (hT _).mono ?_
          rintro e w5 ⟨rfl, rfl⟩
          go_wp2
          go_ret
          exact ⟨ret_bool (HE.out HZ.out).symm, HW.out⟩
        · have hbd := (wiB_iff.1 hwt).2
          have HLN : Hid (0 ≤ leaV (fN l) k) := by
            cases k with
            | zero => exact Int.le_refl _
            | succ j => have := (leaV_nn HB.out.2 (show j < j + 1 by omega)).2; show (0 : Int) ≤ fN l j + 1; omega
          have hbd0 := (wiB_iff.1 hwt).1
          have hge : 0 ≤ fN l k := by have := HLN.out; omega
          rw [hwt] at hT HZ
          clear hwt hbd0 HLN
          cases hpt : mtB (gN l k)
          · rw [hpt] at hP HZ
            clear hpt
            go_wp2_with (go_at_call 47; fail)
            refine (hT _).mono ?_
            rintro e w5 ⟨rfl, rfl⟩
            go_wp2_with (go_at_call 73; fail)
            refine (hP _).mono ?_
            rintro e w5 ⟨rfl, rfl⟩
            go_wp2
            go_ret
            exact ⟨ret_bool (HE.out HZ.out).symm, HW.out⟩
          · rw [hpt] at hP HZ
            clear hpt
            go_wp2_with (go_at_call 47; fail)
            refine (hT _).mono ?_
            rintro e w5 ⟨rfl, rfl⟩
            go_wp2_with (go_at_call 73; fail)
            refine (hP _).mono ?_
            rintro e w5 ⟨rfl, rfl⟩
            go_wp2
            exact ⟨⟨k + 1, by omega, by go_num, by rw [HL.out], HN.out HZ.out, HW.out⟩, by simp [intOf]; omega⟩
      · obtain rfl : k = l.length := by omega
        go_wp2
        go_ret
        exact ⟨ret_bool (by rw [← HA.out, HB.out.2]), HB.out.1⟩
  · rw [decide_eq_false hn, Bool.false_and] at hA
    subst hA
    have hni : (10 : Int) < (l.length : Int) := by omega
    go_enter Tryd.func49, Tryd.ntmps49
    go_wp2
    go_ret
    exact ⟨rfl, Below.refl _ _⟩
def insB (I : Ins) : Bool := ((((((syS I.sym && lotB I.lot I.most) && areB I.steps) && wiB I.band 0 10000) && mayB (fN I.steps) (gN I.steps) I.steps.length I.ref) && tuB I.turns) && feeB I.maker I.taker)
end Go.Proofs.YtnhkmfofkhhnaaaDoor
