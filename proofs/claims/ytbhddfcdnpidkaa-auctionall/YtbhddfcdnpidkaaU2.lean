/-
  auction, plain: rows as they stand; what is bought and sold at rising prices.
-/
import Derived.Test.YtbhddfcdnpidkaaU1
namespace Go.Proofs.Ytbhddfcdnpidkaa
set_option linter.unusedVariables false

/-- One stands ahead of another, or as far ahead. -/
def leB (a b : Wn) : Prop := a.m = true ∧ b.m = false ∨ a.m = b.m ∧ (b.p < a.p ∨ a.p = b.p ∧ a.id ≤ b.id)
def leS (a b : Wn) : Prop := a.m = true ∧ b.m = false ∨ a.m = b.m ∧ (a.p < b.p ∨ a.p = b.p ∧ a.id ≤ b.id)
theorem leB_at {a b : Wn} {p : Int} (h : leB a b) (hb : atB p b = true) : atB p a = true := by
  unfold atB at *
  unfold leB at h
  cases ha : a.m with
  | true => rfl
  | false =>
    cases hm : b.m with
    | true => simp_all
    | false =>
      rw [hm] at hb
      have : p ≤ b.p := by simpa using hb
      simp_all
      omega
theorem leS_at {a b : Wn} {p : Int} (h : leS a b) (hb : atS p b = true) : atS p a = true := by
  unfold atS at *
  unfold leS at h
  cases ha : a.m with
  | true => rfl
  | false =>
    cases hm : b.m with
    | true => simp_all
    | false =>
      rw [hm] at hb
      have : b.p ≤ p := by simpa using hb
      simp_all
      omega
theorem sumW_all {f : Wn → Bool} {l : List Wn} (h : ∀ w ∈ l, f w = true) : sumW f l = sumW (fun _ => true) l := sumW_congr fun w hw => h w hw
theorem sumW_none {f : Wn → Bool} : ∀ {l : List Wn}, (∀ w ∈ l, f w = false) → sumW f l = 0
  | [], _ => rfl
  | w :: l, h => by
    simp only [sumW]
    rw [h w List.mem_cons_self, sumW_none fun x hx => h x (List.mem_cons_of_mem _ hx)]
    rfl
def totW (l : List Wn) : Int := sumW (fun _ => true) l
theorem totW_snoc (l : List Wn) (w : Wn) : totW (l ++ [w]) = totW l + w.q := by
  unfold totW
  rw [sumW_app]
  simp [sumW]
theorem totW_cons (l : List Wn) (w : Wn) : totW (w :: l) = w.q + totW l := by
  unfold totW
  simp [sumW]
/-- The rows as far as they were walked: who still buys at p, and who does not yet sell there. -/
structure PB (R : List Wn) (k : Nat) (p : Int) : Prop where
  le : k ≤ R.length
  out : ∀ i w, R[i]? = some w → k ≤ i → atB p w = false
theorem PB.done {R : List Wn} {k : Nat} {p : Int} (h : PB R k p) (hs : R.Pairwise leB) (hk : k = 0 ∨ ∃ w, R[k - 1]? = some w ∧ atB p w = true) : bo R p = totW (R.take k) := by
  have e : bo R p = sumW (atB p) (R.take k ++ R.drop k) := by rw [List.take_append_drop]; rfl
  rw [e, sumW_app, sumW_none (l := R.drop k), Int.add_zero]
  · refine sumW_all fun w hw => ?_
    obtain ⟨i, hi⟩ := List.getElem?_of_mem hw
    rw [List.getElem?_take] at hi
    split at hi
    · rename_i hik
      rcases hk with rfl | ⟨x, hx, ha⟩
      · omega
      · by_cases e : i = k - 1
        · subst e
          rw [hx] at hi
          injection hi with hi
          rw [← hi]; exact ha
        · obtain ⟨h1, h2⟩ := List.getElem?_eq_some_iff.1 hi
          obtain ⟨h3, h4⟩ := List.getElem?_eq_some_iff.1 hx
          have := List.pairwise_iff_getElem.1 hs i (k - 1) h1 h3 (by omega)
          rw [h2, h4] at this
          exact leB_at this ha
    · cases hi
  · intro w hw
    obtain ⟨i, hi⟩ := List.getElem?_of_mem hw
    rw [List.getElem?_drop] at hi
    exact h.out _ w hi (by omega)
theorem PB.start (R : List Wn) (p : Int) : PB R R.length p := ⟨Nat.le_refl _, fun i w hi hk => by
  have := (List.getElem?_eq_some_iff.1 hi).1
  omega⟩
theorem PB.pop {R : List Wn} {k : Nat} {p : Int} {w : Wn} (h : PB R (k + 1) p) (hw : R[k]? = some w) (hn : atB p w = false) : PB R k p := ⟨by have := h.le; omega, fun i x hi hk => by
  by_cases e : i = k
  · subst e; rw [hw] at hi; injection hi with hi; rw [← hi]; exact hn
  · exact h.out i x hi (by omega)⟩
theorem PB.up {R : List Wn} {k : Nat} {p p' : Int} (h : PB R k p) (hp : p ≤ p') : PB R k p' := ⟨h.le, fun i w hi hk => by
  have := h.out i w hi hk
  unfold atB at *
  simp at this ⊢
  exact ⟨this.1, by omega⟩⟩
theorem tot_take {R : List Wn} {k : Nat} {w : Wn} (hw : R[k]? = some w) : totW (R.take (k + 1)) = totW (R.take k) + w.q := by
  obtain ⟨h1, h2⟩ := List.getElem?_eq_some_iff.1 hw
  rw [← totW_snoc]
  congr 1
  rw [List.take_add_one, hw]
  rfl
structure PS (R : List Wn) (k : Nat) (p : Int) : Prop where
  le : k ≤ R.length
  inn : ∀ i w, R[i]? = some w → i < k → atS p w = true
theorem PS.done {R : List Wn} {k : Nat} {p : Int} (h : PS R k p) (hs : R.Pairwise leS) (hk : k = R.length ∨ ∃ w, R[k]? = some w ∧ atS p w = false) : so R p = totW (R.take k) := by
  have e : so R p = sumW (atS p) (R.take k ++ R.drop k) := by rw [List.take_append_drop]; rfl
  rw [e, sumW_app, sumW_none (l := R.drop k), Int.add_zero]
  · refine sumW_all fun w hw => ?_
    obtain ⟨i, hi⟩ := List.getElem?_of_mem hw
    rw [List.getElem?_take] at hi
    split at hi
    · exact h.inn i w hi (by assumption)
    · cases hi
  · intro w hw
    obtain ⟨i, hi⟩ := List.getElem?_of_mem hw
    rw [List.getElem?_drop] at hi
    obtain ⟨h1, h2⟩ := List.getElem?_eq_some_iff.1 hi
    rcases hk with e | ⟨x, hx, ha⟩
    · omega
    · obtain ⟨h3, h4⟩ := List.getElem?_eq_some_iff.1 hx
      by_cases e : i = 0
      · subst e
        rw [Nat.add_zero, hx] at hi
        injection hi with hi
        rw [← hi]; exact ha
      · have := List.pairwise_iff_getElem.1 hs k (k + i) h3 h1 (by omega)
        rw [h2, h4] at this
        cases hw2 : atS p w with
        | false => rfl
        | true =>
          have := leS_at this hw2
          rw [ha] at this; cases this
theorem PS.start (R : List Wn) (p : Int) : PS R 0 p := ⟨Nat.zero_le _, fun i w _ h => by omega⟩
theorem PS.pop {R : List Wn} {k : Nat} {p : Int} {w : Wn} (h : PS R k p) (hw : R[k]? = some w) (hy : atS p w = true) : PS R (k + 1) p := ⟨(List.getElem?_eq_some_iff.1 hw).1, fun i x hi hk => by
  by_cases e : i = k
  · subst e; rw [hw] at hi; injection hi with hi; rw [← hi]; exact hy
  · exact h.inn i x hi (by omega)⟩
theorem PS.up {R : List Wn} {k : Nat} {p p' : Int} (h : PS R k p) (hp : p ≤ p') : PS R k p' := ⟨h.le, fun i w hi hk => by
  have := h.inn i w hi hk
  unfold atS at *
  simp at this ⊢
  rcases this with e | e
  · exact .inl e
  · exact .inr (by omega)⟩
end Go.Proofs.Ytbhddfcdnpidkaa
