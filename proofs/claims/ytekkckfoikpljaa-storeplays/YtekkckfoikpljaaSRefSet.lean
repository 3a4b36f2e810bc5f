/-
  store: a row of things whose middle is written over.
-/
import Derived.Test.YtekkckfoikpljaaSRefPut
namespace Go.Proofs.Ytekkckfoikpljaa
set_option linter.unusedVariables false
set_option linter.unusedSimpArgs false
open Go.RowKit Go.Great

theorem RowAt.setJ {w : World} {e : TypeId} {size n g off cap : Nat} {xs : List Value} (h : RowAt w e size (.slice (some ⟨g, off, none⟩) n cap) n xs) {j : Nat} (hj : j < xs.length) (u : Value) :
    RowAt (w.setCell ⟨g, off + j, none⟩ u) e size (.slice (some ⟨g, off, none⟩) n cap) n (xs.set j u) := by
  rcases h.2 with ⟨h0, _⟩ | ⟨g', off', cap', cur, h1, h2, h3, h4, h5, h6⟩
  · cases h0
  · injection h1 with h1 _ hc
    injection h1 with h1
    injection h1 with h1 h1' _
    subst h1 h1' hc
    refine ⟨by rw [List.length_set]; exact h.1, .inr ⟨g, off, cap, cur.setIfInBounds (off + j) u, rfl, ?_, h3, h4, by rw [Array.size_setIfInBounds]; exact h5, ?_⟩⟩
    · rw [setCell_eq_setRow w g (off + j) _ _ _ _ h2]; exact setRow_heap _ _ _ _ _ _ h2
    · rw [Array.toList_setIfInBounds, List.drop_set, if_neg (by omega), show off + j - off = j by omega, List.take_set, h6]
theorem RowAt.sets {e : TypeId} {size n g off cap : Nat} : ∀ (us : List Value) {w : World} {xs : List Value} {j : Nat}, RowAt w e size (.slice (some ⟨g, off, none⟩) n cap) n xs → j + us.length ≤ xs.length →
    RowAt (w.setCells g (off + j) us) e size (.slice (some ⟨g, off, none⟩) n cap) n (xs.take j ++ us ++ xs.drop (j + us.length))
  | [], w, xs, j, h, hj => by
    show RowAt w _ _ _ _ _
    rw [List.append_nil, List.length_nil, Nat.add_zero, List.take_append_drop]; exact h
  | u :: r, w, xs, j, h, hj => by
    rw [List.length_cons] at hj
    show RowAt ((w.setCell ⟨g, off + j, none⟩ u).setCells g (off + j + 1) r) _ _ _ _ _
    have h1 := RowAt.sets r (h.setJ (j := j) (by omega) u) (j := j + 1) (by rw [List.length_set]; omega)
    rw [Nat.add_assoc off j 1]
    have e1 : (xs.set j u).take (j + 1) = xs.take j ++ [u] := by
      rw [List.take_succ_eq_append_getElem (by rw [List.length_set]; omega), List.getElem_set_self, List.take_set, List.set_eq_of_length_le (by rw [List.length_take]; omega)]
    have e2 : (xs.set j u).drop (j + 1 + r.length) = xs.drop (j + 1 + r.length) := by rw [List.drop_set, if_pos (by omega)]
    rw [e1, e2] at h1
    rw [List.length_cons, show j + (r.length + 1) = j + 1 + r.length by omega]
    rw [List.append_assoc (xs.take j) [u] r] at h1
    exact h1
theorem flatL_set {α : Type} {f : α → List Value} {size : Nat} (hf : ∀ a, (f a).length = size) {l : List α} {i : Nat} (hi : i < l.length) (a : α) :
    flatL f (l.set i a) = (flatL f l).take (i * size) ++ f a ++ (flatL f l).drop (i * size + size) := by
  rw [flatL_take hf, show i * size + size = (i + 1) * size by rw [Nat.add_mul]; omega, flatL_drop hf, List.set_eq_take_append_cons_drop, if_pos hi, flatL_app, List.append_assoc]
  rfl
/-- A thing of a row is written over. -/
theorem RowAt.over {α : Type} {f : α → List Value} {w : World} {e : TypeId} {size n g off cap : Nat} {l : List α} (hf : ∀ a, (f a).length = size) (h : RowAt w e size (.slice (some ⟨g, off, none⟩) n cap) n (flatL f l)) {i : Nat} (hi : i < l.length) (a : α) :
    RowAt (w.setCells g (off + i * size) (f a)) e size (.slice (some ⟨g, off, none⟩) n cap) n (flatL f (l.set i a)) := by
  have h1 := RowAt.sets (f a) h (j := i * size) (by
    rw [hf, flatL_len hf]
    have := Nat.mul_le_mul_right size (show i + 1 ≤ l.length by omega)
    rw [Nat.add_mul] at this; omega)
  rw [flatL_set hf hi, hf] at *
  exact h1
end Go.Proofs.Ytekkckfoikpljaa
