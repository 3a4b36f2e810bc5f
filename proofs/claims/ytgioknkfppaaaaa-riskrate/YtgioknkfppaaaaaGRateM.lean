/-
  risk: how many commands are let in a stretch of time (plain).
-/
import Derived.Test.YtgioknkfppaaaaaGShown
namespace Go.Proofs.Ytgioknkfppaaaaa
set_option linter.unusedVariables false
set_option linter.unusedSimpArgs false

/-- Behind commands that were let at times ts: when the next one is due. -/
structure RS (b p : Int) (ts : List Int) (D now : Int) : Prop where
  b0 : 1 ≤ b
  p0 : 1 ≤ p
  n0 : 0 ≤ now
  le : ∀ i, i < ts.length → 0 ≤ ts.getD i 0 ∧ ts.getD i 0 ≤ now
  mono : ∀ i k, i ≤ k → k < ts.length → ts.getD i 0 ≤ ts.getD k 0
  i1 : ∀ i, i < ts.length → D ≤ max (ts.getD i 0 + b * p + ((ts.length : Int) - 1 - i) * p) (now + ((ts.length : Int) - 1 - i) * p)
  i2 : D ≤ now + (ts.length : Int) * p
  i3 : ∀ i, i < ts.length → ts.getD i 0 + ((ts.length : Int) - i) * p ≤ D
  i4 : ∀ i k, i ≤ k → k < ts.length → ((k : Int) - i) * p ≤ ts.getD k 0 - ts.getD i 0 + b * p - p
theorem RS.start {b p : Int} (hb : 1 ≤ b) (hp : 1 ≤ p) : RS b p [] 0 0 :=
  ⟨hb, hp, Int.le_refl _, fun i h => by simp at h, fun i k _ h => by simp at h, fun i h => by simp at h, by simp, fun i h => by simp at h, fun i k _ h => by simp at h⟩
theorem RS.pass {b p D now now' : Int} {ts : List Int} (h : RS b p ts D now) (hn : now ≤ now') : RS b p ts D now' :=
  ⟨h.b0, h.p0, by have := h.n0; omega, fun i hi => by have := h.le i hi; omega, h.mono, fun i hi => by have := h.i1 i hi; omega, by have := h.i2; omega, h.i3, h.i4⟩
theorem getD_app {ts : List Int} {x : Int} {i : Nat} (h : i < ts.length) : (ts ++ [x]).getD i 0 = ts.getD i 0 := by
  rw [List.getD_eq_getElem?_getD, List.getD_eq_getElem?_getD, List.getElem?_append_left h]
theorem getD_last {ts : List Int} {x : Int} : (ts ++ [x]).getD ts.length 0 = x := by
  rw [List.getD_eq_getElem?_getD, List.getElem?_append_right (Nat.le_refl _)]; simp
theorem bp_ge {b p : Int} (hb : 1 ≤ b) (hp : 1 ≤ p) : p ≤ b * p := by
  have := Int.mul_le_mul_of_nonneg_right hb (show 0 ≤ p by omega)
  rw [Int.one_mul] at this
  exact this
theorem RS.more {b p D now : Int} {ts : List Int} (h : RS b p ts D now) (hc : ¬ now + (b - 1) * p < D) : RS b p (ts ++ [now]) (max D now + p) now := by
  have hbp := bp_ge h.b0 h.p0
  have hp := h.p0
  rw [Int.sub_mul, Int.one_mul] at hc
  have hl : ((ts ++ [now]).length : Int) = (ts.length : Int) + 1 := by simp
  have hln : (ts ++ [now]).length = ts.length + 1 := by simp
  have hm0 : 0 ≤ (ts.length : Int) * p := Int.mul_nonneg (by omega) (by omega)
  refine ⟨h.b0, h.p0, h.n0, fun i hi => ?_, fun i k hik hk => ?_, fun i hi => ?_, ?_, fun i hi => ?_, fun i k hik hk => ?_⟩
  · rw [hln] at hi
    rcases (by omega : i < ts.length ∨ i = ts.length) with h1 | rfl
    · rw [getD_app h1]; exact h.le i h1
    · rw [getD_last]; have := h.n0; omega
  · rw [hln] at hk
    rcases (by omega : k < ts.length ∨ k = ts.length) with h1 | rfl
    · rw [getD_app h1, getD_app (by omega)]; exact h.mono i k hik h1
    · rw [getD_last]
      rcases (by omega : i < ts.length ∨ i = ts.length) with h2 | rfl
      · rw [getD_app h2]; exact (h.le i h2).2
      · rw [getD_last]; omega
  · rw [hln] at hi
    rw [hl]
    rcases (by omega : i < ts.length ∨ i = ts.length) with h1 | rfl
    · rw [getD_app h1]
      have := h.i1 i h1
      have hx : 0 ≤ ((ts.length : Int) - 1 - i) * p := Int.mul_nonneg (by omega) (by omega)
      rw [show (ts.length : Int) + 1 - 1 - i = ((ts.length : Int) - 1 - i) + 1 by omega, Int.add_mul, Int.one_mul]
      generalize ((ts.length : Int) - 1 - i) * p = X at *
      generalize b * p = Y at *
      omega
    · rw [getD_last, show (ts.length : Int) + 1 - 1 - ts.length = 0 by omega, Int.zero_mul]
      generalize b * p = Y at *
      omega
  · have := h.i2
    rw [hl, Int.add_mul, Int.one_mul]
    omega
  · rw [hln] at hi
    rw [hl]
    rcases (by omega : i < ts.length ∨ i = ts.length) with h1 | rfl
    · rw [getD_app h1]
      have := h.i3 i h1
      rw [show (ts.length : Int) + 1 - i = ((ts.length : Int) - i) + 1 by omega, Int.add_mul, Int.one_mul]
      generalize ((ts.length : Int) - i) * p = X at *
      omega
    · rw [getD_last, show (ts.length : Int) + 1 - ts.length = 1 by omega, Int.one_mul]
      omega
  · rw [hln] at hk
    rcases (by omega : k < ts.length ∨ k = ts.length) with h1 | rfl
    · rw [getD_app h1, getD_app (by omega)]; exact h.i4 i k hik h1
    · rw [getD_last]
      rcases (by omega : i < ts.length ∨ i = ts.length) with h2 | rfl
      · rw [getD_app h2]
        have := h.i3 i h2
        generalize ((ts.length : Int) - i) * p = X at *
        generalize b * p = Y at *
        omega
      · rw [getD_last, show (ts.length : Int) - ts.length = 0 by omega, Int.zero_mul]
        generalize b * p = Y at *
        omega
/-- Who is refused: so many were let, and the first of the last b not long ago. -/
theorem RS.refused {b p D now : Int} {ts : List Int} (h : RS b p ts D now) (hc : now + (b - 1) * p < D) : b ≤ (ts.length : Int) ∧ ∀ i : Nat, (i : Int) = (ts.length : Int) - b → now - ts.getD i 0 < b * p := by
  rw [Int.sub_mul, Int.one_mul] at hc
  have hp := h.p0
  have hm : b ≤ (ts.length : Int) := by
    rcases Int.lt_or_le (ts.length : Int) b with hlt | hge
    · have := Int.mul_le_mul_of_nonneg_right (show (ts.length : Int) ≤ b - 1 by omega) (show 0 ≤ p by omega)
      rw [Int.sub_mul, Int.one_mul] at this
      have := h.i2
      omega
    · exact hge
  refine ⟨hm, fun i hi => ?_⟩
  have hb := h.b0
  have := h.i1 i (by omega)
  rw [show (ts.length : Int) - 1 - i = b - 1 by omega, Int.sub_mul, Int.one_mul] at this
  generalize b * p = Y at *
  omega
/-- No more are let. -/
theorem RS.most {b p D now : Int} {ts : List Int} (h : RS b p ts D now) {i k : Nat} (hik : i ≤ k) (hk : k < ts.length) : 0 ≤ ts.getD k 0 - ts.getD i 0 ∧ (k : Int) - i + 1 ≤ b + (ts.getD k 0 - ts.getD i 0) / p + 1 := by
  have h4 := h.i4 i k hik hk
  have hm := h.mono i k hik hk
  have hp := h.p0
  refine ⟨by omega, ?_⟩
  have : (k : Int) - i - b + 1 ≤ (ts.getD k 0 - ts.getD i 0) / p := by
    rw [Int.le_ediv_iff_mul_le (by omega)]
    rw [show (k : Int) - i - b + 1 = ((k : Int) - i) - (b - 1) by omega, Int.sub_mul ((k : Int) - i) (b - 1) p, Int.sub_mul b 1 p, Int.one_mul]
    generalize ((k : Int) - i) * p = X at *
    generalize b * p = Y at *
    omega
  omega
end Go.Proofs.Ytgioknkfppaaaaa
