/-
  store, plain: what belongs to each number, the rows of those that were dropped, the parts.
-/
import Derived.Tactics
namespace Go.Proofs.Ytekkckfoikpljaa
set_option linter.unusedVariables false

/-- One part: from, to, whether it was dropped, the message. -/
structure Pt (M : Type) where
  fr : Nat
  to : Nat
  lost : Bool
  m : Option M
/-- The last part goes up to n. -/
def setTo {M : Type} (n : Nat) : List (Pt M) → List (Pt M)
  | [] => []
  | [x] => [{ x with to := n }]
  | x :: y :: t => x :: setTo n (y :: t)
theorem setTo_snoc {M : Type} (n : Nat) (x : Pt M) : ∀ l : List (Pt M), setTo n (l ++ [x]) = l ++ [{ x with to := n }]
  | [] => rfl
  | [a] => rfl
  | a :: b :: t => by
    show a :: setTo n ((b :: t) ++ [x]) = _
    rw [setTo_snoc n x (b :: t)]; rfl
theorem setTo_len {M : Type} (n : Nat) : ∀ l : List (Pt M), (setTo n l).length = l.length
  | [] => rfl
  | [a] => rfl
  | a :: b :: t => by
    show (setTo n (b :: t)).length + 1 = _
    rw [setTo_len n (b :: t)]; rfl
/-- The parts of k numbers from a number on: c tells what belongs to each (1 kept, 2 dropped, 3 skipped), g its message. -/
def gr {M : Type} (c : Nat → Nat) (g : Nat → Option M) (a : Nat) : Nat → List (Pt M)
  | 0 => []
  | k + 1 => if c (a + k) ≠ 1 ∧ 0 < k ∧ c (a + k - 1) = c (a + k) then setTo (a + k) (gr c g a k) else gr c g a k ++ [⟨a + k, a + k, c (a + k) == 2, g (a + k)⟩]
section Gr
variable {M : Type} {c : Nat → Nat} {g : Nat → Option M}
theorem gr_last (a : Nat) : ∀ k, ∃ i p, gr c g a (k + 1) = i ++ [p] ∧ p.to = a + k ∧ p.lost = (c (a + k) == 2)
  | 0 => ⟨[], _, by unfold gr gr; rw [if_neg (by omega)], rfl, rfl⟩
  | k + 1 => by
    obtain ⟨i, p, h1, h2, h3⟩ := gr_last a k
    rw [gr]
    split
    · next h =>
      refine ⟨i, _, by rw [h1, setTo_snoc], rfl, ?_⟩
      rw [← h.2.2]; exact h3
    · exact ⟨_, _, rfl, rfl, rfl⟩
theorem gr_nil (a k : Nat) : gr c g a k = [] ↔ k = 0 := by
  cases k with
  | zero => exact ⟨fun _ => rfl, fun _ => rfl⟩
  | succ k =>
    obtain ⟨i, p, h1, _⟩ := gr_last (c := c) (g := g) a k
    rw [h1]
    constructor
    · intro h; exact absurd h (by simp)
    · intro h; omega
theorem gr_len (a : Nat) : ∀ k, (gr c g a k).length ≤ k
  | 0 => Nat.le_refl _
  | k + 1 => by
    have := gr_len a k
    rw [gr]
    split
    · rw [setTo_len]; omega
    · rw [List.length_append]; simp; omega
theorem gr_keep (a k : Nat) (h : c (a + k) = 1) : gr c g a (k + 1) = gr c g a k ++ [⟨a + k, a + k, false, g (a + k)⟩] := by
  rw [gr, if_neg (by omega), h]; rfl
/-- A row of one kind. -/
theorem gr_run (a k : Nat) (hg : ∀ n, c n ≠ 1 → g n = none) (v : Nat) (hv : v ≠ 1) (h0 : k = 0 ∨ c (a + k - 1) ≠ v) : ∀ d, (∀ e, e ≤ d → c (a + k + e) = v) → gr c g a (k + d + 1) = gr c g a k ++ [⟨a + k, a + k + d, v == 2, none⟩]
  | 0, h => by
    have e0 : c (a + k) = v := h 0 (Nat.le_refl _)
    show gr c g a (k + 1) = _
    rw [gr, e0, if_neg (by omega), hg (a + k) (by omega)]; rfl
  | d + 1, h => by
    have ih := gr_run a k hg v hv h0 d fun e he => h e (by omega)
    have e1 := h (d + 1) (Nat.le_refl _)
    have e2 := h d (by omega)
    show gr c g a (k + (d + 1) + 1) = _
    rw [gr, if_pos ⟨by rw [show a + (k + (d + 1)) = a + k + (d + 1) by omega, e1]; exact hv, by omega, by rw [show a + (k + (d + 1)) - 1 = a + k + d by omega, show a + (k + (d + 1)) = a + k + (d + 1) by omega, e1, e2]⟩,
      show k + (d + 1) = k + d + 1 by omega, ih, setTo_snoc, show a + (k + d + 1) = a + k + (d + 1) by omega]
/-- Numbers that were skipped, up to the next part. -/
theorem gr_skip (a k n : Nat) (hg : ∀ n, c n ≠ 1 → g n = none) (hn : a + k ≤ n) (h0 : k = 0 ∨ c (a + k - 1) ≠ 3) (h : ∀ q, a + k ≤ q → q < n → c q = 3) : gr c g a (n - a) = if a + k < n then gr c g a k ++ [⟨a + k, n - 1, false, none⟩] else gr c g a k := by
  split
  · next hlt =>
    have := gr_run a k hg 3 (by decide) h0 (n - 1 - (a + k)) fun e he => h _ (by omega) (by omega)
    rw [show n - a = k + (n - 1 - (a + k)) + 1 by omega, this, show a + k + (n - 1 - (a + k)) = n - 1 by omega]; rfl
  · rw [show n - a = k by omega]
/-- What each part is. -/
structure Til (c : Nat → Nat) (g : Nat → Option M) (a k : Nat) (l : List (Pt M)) : Prop where
  ord : ∀ (i : Nat) (p : Pt M), l[i]? = some p → a ≤ p.fr ∧ p.fr ≤ p.to ∧ p.to < a + k
  head : ∀ (p : Pt M), l[0]? = some p → p.fr = a
  next : ∀ (i : Nat) (p q : Pt M), l[i]? = some p → l[i + 1]? = some q → q.fr = p.to + 1 ∧ (c q.fr = 1 ∨ c p.to ≠ c q.fr)
  kind : ∀ (i : Nat) (p : Pt M), l[i]? = some p → (∀ q, p.fr ≤ q → q ≤ p.to → c q = c p.fr) ∧ p.lost = (c p.fr == 2) ∧ p.m = g p.fr ∧ (c p.fr = 1 → p.fr = p.to)
  last : ∀ (i : Nat) (p : Pt M), l[i]? = some p → i + 1 = l.length → p.to + 1 = a + k
theorem get_snoc {α : Type} {l : List α} {x y : α} {i : Nat} (h : (l ++ [x])[i]? = some y) : (i < l.length ∧ l[i]? = some y) ∨ (i = l.length ∧ y = x) := by
  by_cases hi : i < l.length
  · rw [List.getElem?_append_left hi] at h; exact .inl ⟨hi, h⟩
  · rw [List.getElem?_append_right (by omega)] at h
    by_cases h0 : i - l.length = 0
    · rw [h0] at h
      simp at h
      exact .inr ⟨by omega, h.symm⟩
    · rw [List.getElem?_eq_none (by simp; omega)] at h; cases h
theorem get_snoc_last {α : Type} (l : List α) (x : α) : (l ++ [x])[l.length]? = some x := by
  rw [List.getElem?_append_right (Nat.le_refl _)]; simp
theorem gr_til (a : Nat) : ∀ k, Til c g a k (gr c g a k)
  | 0 => ⟨fun i p h => by simp [gr] at h, fun p h => by simp [gr] at h, fun i p q h => by simp [gr] at h, fun i p h => by simp [gr] at h, fun i p h => by simp [gr] at h⟩
  | k + 1 => by
    have ih := gr_til a k
    by_cases hk : k = 0
    · subst hk
      have e : gr c g a (0 + 1) = [⟨a, a, c a == 2, g a⟩] := by unfold gr gr; rw [if_neg (by omega)]; rfl
      rw [e]
      have one : ∀ (i : Nat) (p : Pt M), [(⟨a, a, c a == 2, g a⟩ : Pt M)][i]? = some p → i = 0 ∧ p = ⟨a, a, c a == 2, g a⟩ := fun i p h => by
        rcases get_snoc (l := []) h with ⟨h1, _⟩ | ⟨h1, h2⟩
        · simp at h1
        · exact ⟨h1, h2⟩
      refine ⟨fun i p h => ?_, fun p h => ?_, fun i p q h h2 => ?_, fun i p h => ?_, fun i p h _ => ?_⟩
      · obtain ⟨_, rfl⟩ := one i p h; exact ⟨Nat.le_refl _, Nat.le_refl _, by show a < a + (0 + 1); omega⟩
      · obtain ⟨_, rfl⟩ := one 0 p h; rfl
      · obtain ⟨h3, _⟩ := one _ _ h2; omega
      · obtain ⟨_, rfl⟩ := one i p h
        exact ⟨fun q h1 h2 => by rw [show q = a from by have h1' : a ≤ q := h1; have h2' : q ≤ a := h2; omega], rfl, rfl, fun _ => rfl⟩
      · obtain ⟨_, rfl⟩ := one i p h; rfl
    obtain ⟨k', rfl⟩ : ∃ k', k = k' + 1 := ⟨k - 1, by omega⟩
    obtain ⟨ini, p0, h1, h2, h3⟩ := gr_last (c := c) (g := g) a k'
    rw [gr]
    rw [h1] at ih ⊢
    have hp0 := get_snoc_last ini p0
    have hpre : ∀ i p, ini[i]? = some p → (ini ++ [p0])[i]? = some p := fun i p h => by
      rw [List.getElem?_append_left (List.getElem?_eq_some_iff.1 h).1]; exact h
    split
    · next hc =>
      rw [setTo_snoc]
      have k0 := ih.kind _ _ hp0
      have o0 := ih.ord _ _ hp0
      have hc1 : c p0.fr = c (a + (k' + 1)) := by rw [← hc.2.2, show a + (k' + 1) - 1 = p0.to by omega]; exact (k0.1 p0.to o0.2.1 (Nat.le_refl _)).symm
      refine ⟨fun i p h => ?_, fun p h => ?_, fun i p q h h' => ?_, fun i p h => ?_, fun i p h hi => ?_⟩
      · rcases get_snoc h with ⟨_, h⟩ | ⟨_, rfl⟩
        · have := ih.ord i p (hpre i p h); omega
        · exact ⟨o0.1, by show p0.fr ≤ a + (k' + 1); omega, by show a + (k' + 1) < _; omega⟩
      · rcases get_snoc h with ⟨_, h⟩ | ⟨h0, rfl⟩
        · exact ih.head p (hpre 0 p h)
        · exact ih.head p0 (by rw [h0]; exact hp0)
      · rcases get_snoc h with ⟨h5, h⟩ | ⟨h0, rfl⟩
        · rcases get_snoc h' with ⟨_, h'⟩ | ⟨h0, rfl⟩
          · exact ih.next i p q (hpre i p h) (hpre _ q h')
          · exact ih.next i p p0 (hpre i p h) (by rw [h0]; exact hp0)
        · rcases get_snoc h' with ⟨h6, _⟩ | ⟨h6, _⟩ <;> omega
      · rcases get_snoc h with ⟨_, h⟩ | ⟨_, rfl⟩
        · exact ih.kind i p (hpre i p h)
        · refine ⟨fun q q1 q2 => ?_, k0.2.1, k0.2.2.1, fun e => absurd (hc1 ▸ e) hc.1⟩
          have q2' : q ≤ a + (k' + 1) := q2
          by_cases hq : q = a + (k' + 1)
          · rw [hq]; exact hc1.symm
          · exact k0.1 q q1 (by omega)
      · rcases get_snoc h with ⟨h5, h⟩ | ⟨_, rfl⟩
        · rw [List.length_append] at hi; simp at hi; omega
        · show a + (k' + 1) + 1 = _; omega
    · next hc =>
      refine ⟨fun i p h => ?_, fun p h => ?_, fun i p q h h' => ?_, fun i p h => ?_, fun i p h hi => ?_⟩
      · rcases get_snoc h with ⟨_, h⟩ | ⟨_, rfl⟩
        · have := ih.ord i p h; omega
        · exact ⟨by show a ≤ a + (k' + 1); omega, Nat.le_refl _, by show a + (k' + 1) < _; omega⟩
      · rcases get_snoc h with ⟨_, h⟩ | ⟨h0, _⟩
        · exact ih.head p h
        · rw [List.length_append] at h0; simp at h0
      · rcases get_snoc h with ⟨h5, h⟩ | ⟨h0, rfl⟩
        · rcases get_snoc h' with ⟨_, h'⟩ | ⟨h0, rfl⟩
          · exact ih.next i p q h h'
          · have hl := ih.last i p h h0
            refine ⟨by show a + (k' + 1) = _; omega, ?_⟩
            show c (a + (k' + 1)) = 1 ∨ c p.to ≠ c (a + (k' + 1))
            by_cases h1' : c (a + (k' + 1)) = 1
            · exact .inl h1'
            · right; intro he; apply hc; refine ⟨h1', by omega, ?_⟩; rw [show a + (k' + 1) - 1 = p.to by omega]; exact he
        · rcases get_snoc h' with ⟨h6, _⟩ | ⟨h6, _⟩ <;> omega
      · rcases get_snoc h with ⟨_, h⟩ | ⟨_, rfl⟩
        · exact ih.kind i p h
        · exact ⟨fun q q1 q2 => by have q1' : a + (k' + 1) ≤ q := q1; have q2' : q ≤ a + (k' + 1) := q2; rw [show q = a + (k' + 1) by omega], rfl, rfl, fun _ => rfl⟩
      · rcases get_snoc h with ⟨h5, h⟩ | ⟨_, rfl⟩
        · rw [List.length_append] at hi; simp at hi; simp at h5; omega
        · show a + (k' + 1) + 1 = _; omega
/-- What there is of a row of numbers is what there is of its halves. -/
theorem gr_halves (hg : ∀ n, g n = none ↔ c n ≠ 1) (hc : ∀ n, c n = 1 ∨ c n = 2 ∨ c n = 3) (x k : Nat) : ∀ j, ∃ ini p q rest, gr c g x (k + 1) = ini ++ [p] ∧ gr c g (x + (k + 1)) (j + 1) = q :: rest ∧
    gr c g x (k + 1 + (j + 1)) = (if p.m = none ∧ q.m = none ∧ p.lost = q.lost then ini ++ [{ p with to := q.to }] ++ rest else (ini ++ [p]) ++ (q :: rest))
  | 0 => by
    obtain ⟨ini, p, h1, h2, h3⟩ := gr_last (c := c) (g := g) x k
    have ht := gr_til (c := c) (g := g) x (k + 1)
    rw [h1] at ht
    have hk := ht.kind _ _ (get_snoc_last ini p)
    have ho := ht.ord _ _ (get_snoc_last ini p)
    have hpc : c p.to = c p.fr := hk.1 p.to ho.2.1 (Nat.le_refl _)
    refine ⟨ini, p, ⟨x + (k + 1), x + (k + 1), c (x + (k + 1)) == 2, g (x + (k + 1))⟩, [], h1, by unfold gr gr; rw [if_neg (by omega)]; rfl, ?_⟩
    show gr c g x (k + 1 + 1) = _
    rw [gr, h1, setTo_snoc, List.append_nil]
    have hcond : (c (x + (k + 1)) ≠ 1 ∧ 0 < k + 1 ∧ c (x + (k + 1) - 1) = c (x + (k + 1))) ↔ (p.m = none ∧ g (x + (k + 1)) = none ∧ p.lost = (c (x + (k + 1)) == 2)) := by
      rw [hk.2.2.1, hg, hg, h3, show x + (k + 1) - 1 = x + k by omega]
      rw [h2] at hpc
      rw [← hpc]
      constructor
      · rintro ⟨a1, _, a3⟩; exact ⟨by rw [a3]; exact a1, a1, by rw [a3]⟩
      · rintro ⟨a1, a2, a3⟩
        refine ⟨a2, by omega, ?_⟩
        have h4 := hc (x + k)
        have h5 := hc (x + (k + 1))
        have a4 : (c (x + k) = 2) ↔ (c (x + (k + 1)) = 2) := by
          rw [← beq_iff_eq, a3, beq_iff_eq]
        omega
    by_cases hq : c (x + (k + 1)) ≠ 1 ∧ 0 < k + 1 ∧ c (x + (k + 1) - 1) = c (x + (k + 1))
    · rw [if_pos hq, if_pos (hcond.1 hq)]
    · rw [if_neg hq, if_neg (fun h => hq (hcond.2 h))]
  | j + 1 => by
    obtain ⟨ini, p, q, rest, h1, h2, h3⟩ := gr_halves hg hc x k j
    rw [show k + 1 + (j + 1 + 1) = k + 1 + (j + 1) + 1 from rfl]
    have e1 : gr c g (x + (k + 1)) (j + 1 + 1) = if c (x + (k + 1) + (j + 1)) ≠ 1 ∧ 0 < j + 1 ∧ c (x + (k + 1) + (j + 1) - 1) = c (x + (k + 1) + (j + 1)) then setTo (x + (k + 1) + (j + 1)) (q :: rest) else (q :: rest) ++ [⟨x + (k + 1) + (j + 1), x + (k + 1) + (j + 1), c (x + (k + 1) + (j + 1)) == 2, g (x + (k + 1) + (j + 1))⟩] := by rw [gr, h2]
    have e2 : gr c g x (k + 1 + (j + 1) + 1) = if c (x + (k + 1) + (j + 1)) ≠ 1 ∧ 0 < j + 1 ∧ c (x + (k + 1) + (j + 1) - 1) = c (x + (k + 1) + (j + 1)) then setTo (x + (k + 1) + (j + 1)) (gr c g x (k + 1 + (j + 1))) else gr c g x (k + 1 + (j + 1)) ++ [⟨x + (k + 1) + (j + 1), x + (k + 1) + (j + 1), c (x + (k + 1) + (j + 1)) == 2, g (x + (k + 1) + (j + 1))⟩] := by
      rw [gr]
      rw [show x + (k + 1 + (j + 1)) = x + (k + 1) + (j + 1) by omega]
      by_cases hq : c (x + (k + 1) + (j + 1)) ≠ 1 ∧ 0 < j + 1 ∧ c (x + (k + 1) + (j + 1) - 1) = c (x + (k + 1) + (j + 1))
      · rw [if_pos hq, if_pos ⟨hq.1, by omega, hq.2.2⟩]
      · rw [if_neg hq, if_neg (fun h => hq ⟨h.1, by omega, h.2.2⟩)]
    rw [e1, e2, h3]
    by_cases hq : c (x + (k + 1) + (j + 1)) ≠ 1 ∧ 0 < j + 1 ∧ c (x + (k + 1) + (j + 1) - 1) = c (x + (k + 1) + (j + 1))
    · simp only [if_pos hq]
      rcases List.eq_nil_or_concat rest with rfl | ⟨r2, y, rfl⟩
      · refine ⟨ini, p, { q with to := x + (k + 1) + (j + 1) }, [], h1, rfl, ?_⟩
        by_cases hs : p.m = none ∧ q.m = none ∧ p.lost = q.lost
        · rw [if_pos hs, if_pos hs, List.append_nil, setTo_snoc, List.append_nil]
        · rw [if_neg hs, if_neg hs, setTo_snoc]
      · refine ⟨ini, p, q, r2 ++ [{ y with to := x + (k + 1) + (j + 1) }], h1, ?_, ?_⟩
        · rw [show q :: r2.concat y = (q :: r2) ++ [y] by simp, setTo_snoc]; rfl
        · by_cases hs : p.m = none ∧ q.m = none ∧ p.lost = q.lost
          · rw [if_pos hs, if_pos hs, List.concat_eq_append, ← List.append_assoc, setTo_snoc, List.append_assoc]
          · rw [if_neg hs, if_neg hs, show ini ++ [p] ++ q :: r2.concat y = (ini ++ [p] ++ q :: r2) ++ [y] by simp, setTo_snoc]; simp
    · simp only [if_neg hq]
      refine ⟨ini, p, q, rest ++ [_], h1, rfl, ?_⟩
      by_cases hs : p.m = none ∧ q.m = none ∧ p.lost = q.lost
      · rw [if_pos hs, if_pos hs, List.append_assoc, List.append_assoc]
      · rw [if_neg hs, if_neg hs]; simp
end Gr
end Go.Proofs.Ytekkckfoikpljaa
