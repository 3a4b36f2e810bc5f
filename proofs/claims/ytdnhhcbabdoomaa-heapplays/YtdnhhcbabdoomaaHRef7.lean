/-
  The reference's heap: All.
-/
import Derived.Test.YtdnhhcbabdoomaaHRef6
import Derived.Test.YtdnhhcbabdoomaaHSortM
namespace Go.Proofs.Ytdnhhcbabdoomaa
set_option linter.unusedVariables false
set_option linter.unusedSimpArgs false
open Go.RowKit Go.Great

/-- The things that are there and not left out. -/
def liveF (R : List RIt) (f : Nat → Bool) : List Th := (List.range R.length).filterMap (cnd R f)
theorem fm_congr {α β : Type} {f g : α → Option β} : ∀ {l : List α}, (∀ k, k ∈ l → f k = g k) → l.filterMap f = l.filterMap g
  | [], _ => rfl
  | a :: l, h => by rw [List.filterMap_cons, List.filterMap_cons, h a List.mem_cons_self, fm_congr fun k hk => h k (List.mem_cons_of_mem _ hk)]
theorem fm_mark {c c' : Nat → Option Th} {b : Nat} {z : Th} (hz : c b = some z) (hc : ∀ k, c' k = if k = b then none else c k) : ∀ n, b < n →
    ∃ m, ((List.range n).filterMap c)[m]? = some z ∧ (List.range n).filterMap c' = ((List.range n).filterMap c).eraseIdx m ∧ m = ((List.range b).filterMap c).length := by
  intro n hb
  obtain ⟨d, rfl⟩ : ∃ d, n = b + 1 + d := ⟨n - (b + 1), by omega⟩
  have e0 : List.range (b + 1 + d) = List.range b ++ b :: (List.range d).map (fun i => b + 1 + i) := by
    rw [List.range_add, List.range_succ, List.append_assoc]; rfl
  have h1 : (List.range b).filterMap c' = (List.range b).filterMap c := fm_congr fun k hk => by rw [hc, if_neg]; have := List.mem_range.1 hk; omega
  have h2 : ((List.range d).map (fun i => b + 1 + i)).filterMap c' = ((List.range d).map (fun i => b + 1 + i)).filterMap c := fm_congr fun k hk => by
    obtain ⟨i, _, rfl⟩ := List.mem_map.1 hk
    rw [hc, if_neg (by omega)]
  refine ⟨((List.range b).filterMap c).length, ?_, ?_, rfl⟩
  · rw [e0, List.filterMap_append, List.filterMap_cons, hz, List.getElem?_append_right (Nat.le_refl _), Nat.sub_self]; rfl
  · rw [e0, List.filterMap_append, List.filterMap_append, List.filterMap_cons, List.filterMap_cons, hz, hc b, if_pos rfl, h1, h2, List.eraseIdx_append_of_length_le (Nat.le_refl _), Nat.sub_self]
    rfl
theorem fm_get {c : Nat → Option Th} : ∀ (n j : Nat) (y : Th), ((List.range n).filterMap c)[j]? = some y → ∃ k, k < n ∧ c k = some y ∧ j = ((List.range k).filterMap c).length
  | 0, j, y, h => by simp at h
  | n + 1, j, y, h => by
    rw [List.range_succ, List.filterMap_append] at h
    by_cases hj : j < ((List.range n).filterMap c).length
    · rw [List.getElem?_append_left hj] at h
      obtain ⟨k, h1, h2, h3⟩ := fm_get n j y h
      exact ⟨k, by omega, h2, h3⟩
    · rw [List.getElem?_append_right (by omega)] at h
      cases hc : c n with
      | none => simp [hc] at h
      | some z =>
        simp only [List.filterMap_cons, hc, List.filterMap_nil] at h
        have h0 : j - ((List.range n).filterMap c).length = 0 := by have := get_lt h; simp at this; omega
        rw [h0] at h
        injection h with h
        exact ⟨n, by omega, by rw [hc, h], by omega⟩
theorem fm_mono {c : Nat → Option Th} {a b : Nat} (h : a ≤ b) : ((List.range a).filterMap c).length ≤ ((List.range b).filterMap c).length := by
  obtain ⟨d, rfl⟩ : ∃ d, b = a + d := ⟨b - a, by omega⟩
  rw [List.range_add, List.filterMap_append, List.length_append]
  omega
/-- The one that is sought comes first by the order. -/
theorem bst_min {lt : Th → Th → Bool} (ho : Ordr lt) {c : Nat → Option Th} {n b : Nat} (h : bst lt c n = some b) : ∃ z, c b = some z ∧ b < n ∧ IsMin lt ((List.range n).filterMap c) ((List.range b).filterMap c).length ∧ ((List.range n).filterMap c)[((List.range b).filterMap c).length]? = some z := by
  obtain ⟨h1, z, h2, h3, h4⟩ := bst_some ho c n b h
  obtain ⟨m, g1, _, g3⟩ := fm_mark (c' := fun k => if k = b then none else c k) h2 (fun _ => rfl) n h1
  subst g3
  refine ⟨z, h2, h1, ⟨z, g1, fun j y hj => ?_, fun j y hj hy => ?_⟩, g1⟩
  · obtain ⟨k, k1, k2, _⟩ := fm_get n j y hj
    exact h3 k y k1 k2
  · obtain ⟨k, k1, k2, k3⟩ := fm_get n j y hy
    refine h4 k y ?_ k2
    by_cases e : k < b
    · exact e
    · have := fm_mono (c := c) (show b ≤ k by omega); omega
theorem bst_nil {lt : Th → Th → Bool} {c : Nat → Option Th} {n : Nat} (h : bst lt c n = none) : (List.range n).filterMap c = [] := by
  have hn := bst_none lt c n h
  rw [List.filterMap_eq_nil_iff]
  exact fun k hk => hn k (List.mem_range.1 hk)
/-- What is there, by the filter and by the places. -/
theorem live_tk (R : List RIt) : ∀ n, n ≤ R.length → liveL (R.take n) = (List.range n).filterMap (cnd R fun _ => false)
  | 0, _ => rfl
  | n + 1, h => by
    obtain ⟨a, ha⟩ := get_some R (show n < R.length by omega)
    have e : R.take (n + 1) = R.take n ++ [a] := by rw [List.take_add_one, ha]; rfl
    have ih := live_tk R n (by omega)
    unfold liveL at ih ⊢
    rw [e, List.filter_append, List.map_append, ih, List.range_succ, List.filterMap_append]
    congr 1
    simp only [List.filterMap_cons, List.filterMap_nil]
    unfold cnd
    rw [ha]
    cases hg : a.gone <;> simp [hg]
theorem live_eq (R : List RIt) : liveL R = (List.range R.length).filterMap (cnd R fun _ => false) := by
  have := live_tk R R.length (Nat.le_refl _)
  rwa [List.take_length] at this
end Go.Proofs.Ytdnhhcbabdoomaa
