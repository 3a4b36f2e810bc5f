/-
  ledger: what a trade books (plain).
-/
import Derived.Test.YtidhahooebepfaaJIdx
namespace Go.Proofs.Ytidhahooebepfaa
set_option linter.unusedVariables false
set_option linter.unusedSimpArgs false
open Go.RowKit

def Bk.plus (b p : Bk) : Bk := ⟨b.ac, b.sy, b.q + p.q, b.c + p.c, b.f + p.f⟩
def putB : List Bk → Bk → List Bk
  | [], p => [p]
  | b :: l, p => if b.ac = p.ac then b.plus p :: l else b :: putB l p
theorem putB_none : ∀ {l : List Bk} {p : Bk}, idxB l p.ac = none → putB l p = l ++ [p]
  | [], p, _ => rfl
  | b :: l, p, h => by
    unfold idxB at h
    rw [List.findIdx?_cons] at h
    by_cases e : b.ac = p.ac
    · rw [decide_eq_true e] at h; simp at h
    · rw [decide_eq_false e] at h
      simp only [Bool.false_eq_true, if_false, Option.map_eq_none_iff] at h
      show (if b.ac = p.ac then _ else _) = _
      rw [if_neg e, putB_none (l := l) h]; rfl
theorem putB_some : ∀ {l : List Bk} {p : Bk} {i : Nat}, idxB l p.ac = some i → ∃ l1 b l2, l = l1 ++ b :: l2 ∧ l1.length = i ∧ putB l p = l1 ++ b.plus p :: l2
  | [], p, i, h => by simp [idxB] at h
  | b :: l, p, i, h => by
    unfold idxB at h
    rw [List.findIdx?_cons] at h
    by_cases e : b.ac = p.ac
    · rw [decide_eq_true e] at h
      simp only [if_true, Option.some.injEq] at h
      exact ⟨[], b, l, rfl, h, by show (if b.ac = p.ac then _ else _) = _; rw [if_pos e]; rfl⟩
    · rw [decide_eq_false e] at h
      simp only [Bool.false_eq_true, if_false, Option.map_eq_some_iff] at h
      obtain ⟨j, hj, rfl⟩ := h
      obtain ⟨l1, b', l2, h1, h2, h3⟩ := putB_some (l := l) hj
      exact ⟨b :: l1, b', l2, by rw [h1]; rfl, by simp [h2], by show (if b.ac = p.ac then _ else _) = _; rw [if_neg e, h3]; rfl⟩
theorem putB_len (l : List Bk) (p : Bk) : (putB l p).length ≤ l.length + 1 := by
  induction l with
  | nil => exact Nat.le_refl _
  | cons b l ih =>
    show (if b.ac = p.ac then b.plus p :: l else b :: putB l p).length ≤ _
    split
    · simp
    · simp only [List.length_cons]; omega
theorem sumB_put (g : Bk → Int) (hg : ∀ b p : Bk, g (b.plus p) = g b + g p) (l : List Bk) (p : Bk) : sumB g (putB l p) = sumB g l + g p := by
  induction l with
  | nil => simp [putB, sumB]
  | cons b l ih =>
    show sumB g (if b.ac = p.ac then b.plus p :: l else b :: putB l p) = _
    split
    · simp only [sumB, hg]; omega
    · simp only [sumB, ih]; omega
theorem putB_all {P : Bk → Prop} (hp : ∀ b p : Bk, P b → P p → b.ac = p.ac → P (b.plus p)) {l : List Bk} {p : Bk} (hl : ∀ b ∈ l, P b) (h : P p) : ∀ b ∈ putB l p, P b := by
  induction l with
  | nil => intro b hb; rw [List.mem_singleton.1 hb]; exact h
  | cons x l ih =>
    have h1 := hl x List.mem_cons_self
    have h2 : ∀ b ∈ l, P b := fun b hb => hl b (List.mem_cons_of_mem _ hb)
    intro b hb
    have hb' : b ∈ (if x.ac = p.ac then x.plus p :: l else x :: putB l p) := hb
    split at hb'
    · rename_i e
      rcases List.mem_cons.1 hb' with rfl | hb'
      · exact hp x p h1 h e
      · exact h2 b hb'
    · rcases List.mem_cons.1 hb' with rfl | hb'
      · exact h1
      · exact ih h2 b hb'
def sE : ByteArray := ⟨#[]⟩
def Tr.p0 (t : Tr) : Bk := ⟨t.bu, t.sy, t.qt, -(t.pr * t.qt), t.bf⟩
def Tr.p1 (t : Tr) : Bk := ⟨t.se, t.sy, -t.qt, t.pr * t.qt, t.sf⟩
def Tr.p2 (t : Tr) : Bk := ⟨sE, t.sy, 0, 0, -t.bf - t.sf⟩
def bkL (t : Tr) : List Bk := putB (putB (putB [] t.p0) t.p1) t.p2
theorem bkL_len (t : Tr) : (bkL t).length ≤ 3 := by
  have h1 := putB_len [] t.p0
  have h2 := putB_len (putB [] t.p0) t.p1
  have h3 := putB_len (putB (putB [] t.p0) t.p1) t.p2
  unfold bkL
  simp only [List.length_nil] at h1
  omega
theorem bkL_sum (g : Bk → Int) (hg : ∀ b p : Bk, g (b.plus p) = g b + g p) (t : Tr) : sumB g (bkL t) = g t.p0 + g t.p1 + g t.p2 := by
  unfold bkL
  rw [sumB_put g hg, sumB_put g hg, sumB_put g hg]
  simp [sumB]
theorem bkL_all {P : Bk → Prop} (hp : ∀ b p : Bk, P b → P p → b.ac = p.ac → P (b.plus p)) {t : Tr} (h0 : P t.p0) (h1 : P t.p1) (h2 : P t.p2) : ∀ b ∈ bkL t, P b :=
  putB_all hp (putB_all hp (putB_all hp (fun b hb => (List.not_mem_nil hb).elim) h0) h1) h2
theorem bkL_sy (t : Tr) : ∀ b ∈ bkL t, b.sy = t.sy := bkL_all (P := fun b => b.sy = t.sy) (fun b p h _ _ => h) rfl rfl rfl
theorem bkL_sz {t : Tr} (h : t.sz) : ∀ b ∈ bkL t, b.sz := bkL_all (P := fun b => b.sz) (fun b p h _ _ => h) ⟨h.2.1, h.1⟩ ⟨h.2.2, h.1⟩ ⟨show sE.size ≤ maxLen by decide, h.1⟩
theorem bkL_inn {t : Tr} {V F : Int} (v0 : 0 ≤ t.pr * t.qt) (v1 : t.pr * t.qt ≤ V) (q0 : 0 ≤ t.qt) (q1 : t.qt ≤ V) (f0 : -F ≤ t.bf ∧ t.bf ≤ F) (f1 : -F ≤ t.sf ∧ t.sf ≤ F) : ∀ b ∈ bkL t, b.inn (V + 2 * F) := by
  have key : ∀ b : Bk, (-V ≤ b.q ∧ b.q ≤ V) → (-V ≤ b.c ∧ b.c ≤ V) → (-(2 * F) ≤ b.f ∧ b.f ≤ 2 * F) → b.inn (V + 2 * F) := fun b h1 h2 h3 => ⟨⟨by show _ ≤ b.q; omega, by show b.q ≤ _; omega, by show _ ≤ b.c; omega, by show b.c ≤ _; omega, by show _ ≤ b.f; omega, by show b.f ≤ _; omega⟩, by omega, by omega⟩
  generalize hv : t.pr * t.qt = v at *
  intro b hb
  have hb' : b ∈ putB (putB (putB [] ⟨t.bu, t.sy, t.qt, -v, t.bf⟩) ⟨t.se, t.sy, -t.qt, v, t.sf⟩) ⟨sE, t.sy, 0, 0, -t.bf - t.sf⟩ := by
    rw [← hv]; exact hb
  clear hb
  by_cases h1 : t.bu = t.se
  · by_cases h2 : t.se = sE
    · simp only [putB, Bk.plus, h1, h2, if_true, List.mem_singleton] at hb'
      subst hb'
      exact key _ (by simp only; omega) (by simp only; omega) (by simp only; omega)
    · simp only [putB, Bk.plus, h1, h2, if_true, if_false, List.mem_cons, List.not_mem_nil, or_false] at hb'
      rcases hb' with rfl | rfl
      · exact key _ (by simp only; omega) (by simp only; omega) (by simp only; omega)
      · exact key _ (by simp only; omega) (by simp only; omega) (by simp only; omega)
  · by_cases h2 : t.bu = sE
    · have h3 : ¬ sE = t.se := fun e => h1 (h2.trans e)
      simp only [putB, Bk.plus, h3, h2, if_true, if_false, List.mem_cons, List.not_mem_nil, or_false] at hb'
      rcases hb' with rfl | rfl
      · exact key _ (by simp only; omega) (by simp only; omega) (by simp only; omega)
      · exact key _ (by simp only; omega) (by simp only; omega) (by simp only; omega)
    · by_cases h3 : t.se = sE
      · have h4 : ¬ t.bu = t.se := h1
        simp only [putB, Bk.plus, h1, h2, h3, if_true, if_false, List.mem_cons, List.not_mem_nil, or_false] at hb'
        rcases hb' with rfl | rfl
        · exact key _ (by simp only; omega) (by simp only; omega) (by simp only; omega)
        · exact key _ (by simp only; omega) (by simp only; omega) (by simp only; omega)
      · simp only [putB, Bk.plus, h1, h2, h3, if_true, if_false, List.mem_cons, List.not_mem_nil, or_false] at hb'
        rcases hb' with rfl | rfl | rfl
        · exact key _ (by simp only; omega) (by simp only; omega) (by simp only; omega)
        · exact key _ (by simp only; omega) (by simp only; omega) (by simp only; omega)
        · exact key _ (by simp only; omega) (by simp only; omega) (by simp only; omega)
/-- The first k of the three parts. -/
def pP (t : Tr) (k : Nat) : Bk := if k = 0 then t.p0 else if k = 1 then t.p1 else t.p2
def upB (t : Tr) : Nat → List Bk
  | 0 => []
  | k + 1 => putB (upB t k) (pP t k)
theorem upB_three (t : Tr) : upB t 3 = bkL t := rfl
theorem upB_len (t : Tr) : ∀ k, (upB t k).length ≤ k
  | 0 => Nat.le_refl _
  | k + 1 => Nat.le_trans (putB_len _ _) (Nat.succ_le_succ (upB_len t k))
theorem may_iff {t : Tr} : t.may = true ↔ (1 ≤ t.pr ∧ t.pr ≤ 1000000000) ∧ (1 ≤ t.qt ∧ t.qt ≤ 1000000) ∧ (-1000000000000000 ≤ t.bf ∧ t.bf ≤ 1000000000000000) ∧ (-1000000000000000 ≤ t.sf ∧ t.sf ≤ 1000000000000000) := by
  unfold Tr.may
  simp only [Bool.and_eq_true, wiB_iff]
  exact ⟨fun h => ⟨h.1.1.1, h.1.1.2, h.1.2, h.2⟩, fun h => ⟨⟨⟨h.1, h.2.1⟩, h.2.2.1⟩, h.2.2.2⟩⟩
theorem val_bd {t : Tr} (h : t.may = true) : 0 ≤ t.pr * t.qt ∧ t.pr * t.qt ≤ 1000000000000000 := by
  obtain ⟨h1, h2, _⟩ := may_iff.1 h
  exact ⟨Int.mul_nonneg (by omega) (by omega), Int.le_trans (Int.mul_le_mul h1.2 h2.2 (by omega) (by omega)) (by decide)⟩
/-- On the way to the three nothing runs over. -/
def Bk.mid (k : Nat) (b : Bk) : Prop := -(k * 2000000000000000 : Int) ≤ b.q ∧ b.q ≤ k * 2000000000000000 ∧ -(k * 2000000000000000 : Int) ≤ b.c ∧ b.c ≤ k * 2000000000000000 ∧ -(k * 2000000000000000 : Int) ≤ b.f ∧ b.f ≤ k * 2000000000000000
theorem pP_mid {t : Tr} (h : t.may = true) (k : Nat) : (pP t k).mid 1 := by
  have hv := val_bd h
  obtain ⟨h1, h2, h3, h4⟩ := may_iff.1 h
  unfold pP
  split
  · unfold Bk.mid Tr.p0; simp only; omega
  · split
    · unfold Bk.mid Tr.p1; simp only; omega
    · unfold Bk.mid Tr.p2; simp only; omega
theorem upB_mid {t : Tr} (h : t.may = true) : ∀ k, ∀ b ∈ upB t k, b.mid k
  | 0, b, hb => (List.not_mem_nil hb).elim
  | k + 1, b, hb => by
    have ih := upB_mid h k
    have hp := pP_mid h k
    have up : ∀ x : Bk, x.mid k → x.mid (k + 1) := fun x hx => by unfold Bk.mid at hx ⊢; omega
    have one : (pP t k).mid (k + 1) := by unfold Bk.mid at hp ⊢; omega
    have h0 : ∀ (l : List Bk), (∀ b ∈ l, b.mid k) → ∀ b ∈ putB l (pP t k), b.mid (k + 1) := by
      intro l
      induction l with
      | nil => intro _ b hb; rw [List.mem_singleton.1 hb]; exact one
      | cons x l ihl =>
        intro hl b hb
        have hb' : b ∈ (if x.ac = (pP t k).ac then x.plus (pP t k) :: l else x :: putB l (pP t k)) := hb
        have hx := hl x List.mem_cons_self
        split at hb'
        · rcases List.mem_cons.1 hb' with rfl | hb'
          · unfold Bk.mid at hx hp ⊢
            simp only [Bk.plus]
            omega
          · exact up b (hl b (List.mem_cons_of_mem _ hb'))
        · rcases List.mem_cons.1 hb' with rfl | hb'
          · exact up _ hx
          · exact ihl (fun y hy => hl y (List.mem_cons_of_mem _ hy)) b hb'
    exact h0 _ ih b hb
end Go.Proofs.Ytidhahooebepfaa
