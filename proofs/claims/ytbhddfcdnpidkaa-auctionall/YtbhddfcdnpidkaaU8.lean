/-
  auction, plain: prices in order, each once, none 0.
-/
import Derived.Test.YtbhddfcdnpidkaaU4
import Derived.Lib.SlicesCompact
namespace Go.Proofs.Ytbhddfcdnpidkaa
set_option linter.unusedVariables false
open Go.Lib

theorem cpt_spec (d : Array Int) (hs : ∀ i j, i < j → j < d.size → d[i]! ≤ d[j]!) : ∀ m, m ≤ d.size → (compactUpTo d m).Pairwise (fun a b => a < b) ∧ (∀ x ∈ compactUpTo d m, ∃ j, j < m ∧ x = d[j]!) ∧ ∀ j, j < m → d[j]! ∈ compactUpTo d m
  | 0, _ => ⟨by simp [compactUpTo], fun x hx => by simp [compactUpTo] at hx, fun j hj => by omega⟩
  | m + 1, hm => by
    obtain ⟨h1, h2, h3⟩ := cpt_spec d hs m (by omega)
    rw [compactUpTo_succ]
    by_cases hk : keeps d m = true
    · rw [if_pos hk]
      unfold keeps at hk
      have hk' := of_decide_eq_true hk
      refine ⟨?_, fun x hx => ?_, fun j hj => ?_⟩
      · rw [List.pairwise_append]
        refine ⟨h1, List.pairwise_singleton _ _, fun a ha b hb => ?_⟩
        rw [List.mem_singleton] at hb
        subst hb
        obtain ⟨j, hj, rfl⟩ := h2 a ha
        rcases hk' with e | e
        · omega
        · have h4 := hs (m - 1) m (by omega) (by omega)
          by_cases hjm : j = m - 1
          · subst hjm; omega
          · have := hs j (m - 1) (by omega) (by omega)
            omega
      · rcases List.mem_append.1 hx with hx | hx
        · obtain ⟨j, hj, e⟩ := h2 x hx
          exact ⟨j, by omega, e⟩
        · exact ⟨m, by omega, List.mem_singleton.1 hx⟩
      · by_cases e : j = m
        · subst e; simp
        · exact List.mem_append_left _ (h3 j (by omega))
    · rw [if_neg hk, List.append_nil]
      unfold keeps at hk
      have hk' : ¬ (m = 0 ∨ d[m]! ≠ d[m - 1]!) := fun h => hk (decide_eq_true h)
      refine ⟨h1, fun x hx => ?_, fun j hj => ?_⟩
      · obtain ⟨j, hj, e⟩ := h2 x hx
        exact ⟨j, by omega, e⟩
      · by_cases e : j = m
        · subst e
          have : d[j]! = d[j - 1]! := by
            refine Decidable.byContradiction fun h => hk' (.inr h)
          rw [this]
          exact h3 (j - 1) (by omega)
        · exact h3 j (by omega)
/-- The candidates, out of all prices. -/
def srtL (L : List Int) : List Int := L.mergeSort fun x y => decide (x ≤ y)
def cptL (L : List Int) : List Int := compactUpTo L.toArray L.toArray.size
def cndL (L : List Int) : List Int := (cptL (srtL L)).filter fun x => !decide (x = 0)
theorem srtL_perm (L : List Int) : (srtL L).Perm L := List.mergeSort_perm _ _
theorem srtL_asc (L : List Int) : (srtL L).Pairwise fun a b => a ≤ b := by
  have := List.pairwise_mergeSort (le := fun x y : Int => decide (x ≤ y)) (fun a b c h1 h2 => by simp at *; omega) (fun a b => by simp; omega) L
  exact this.imp fun h => by simpa using h
theorem cptL_len (L : List Int) : (cptL L).length ≤ L.length := by
  unfold cptL compactUpTo
  rw [List.length_map]
  refine Nat.le_trans (List.length_filter_le _ _) ?_
  simp
theorem cndL_asc (L : List Int) : (cndL L).Pairwise fun a b => a < b := by
  unfold cndL cptL
  refine List.Pairwise.sublist List.filter_sublist (cpt_spec (srtL L).toArray (fun i j hij hj => ?_) _ (Nat.le_refl _)).1
  rw [List.size_toArray] at hj
  have := List.pairwise_iff_getElem.1 (srtL_asc L) i j (by omega) hj hij
  rw [getElem!_pos _ _ (by simpa using (by omega : i < (srtL L).length)), getElem!_pos _ _ (by simpa using hj)]
  simpa using this
theorem cndL_mem (L : List Int) (c : Int) : c ∈ cndL L ↔ c ∈ L ∧ c ≠ 0 := by
  unfold cndL
  rw [List.mem_filter, ← (srtL_perm L).mem_iff]
  have h := cpt_spec (srtL L).toArray (fun i j hij hj => by
    rw [List.size_toArray] at hj
    have := List.pairwise_iff_getElem.1 (srtL_asc L) i j (by omega) hj hij
    rw [getElem!_pos _ _ (by simpa using (by omega : i < (srtL L).length)), getElem!_pos _ _ (by simpa using hj)]
    simpa using this) _ (Nat.le_refl _)
  constructor
  · rintro ⟨h1, h2⟩
    obtain ⟨j, hj, rfl⟩ := h.2.1 c h1
    rw [List.size_toArray] at hj
    refine ⟨?_, by simpa using h2⟩
    rw [getElem!_pos _ _ (by simpa using hj)]
    simp
  · rintro ⟨h1, h2⟩
    refine ⟨?_, by simpa using h2⟩
    obtain ⟨j, hj⟩ := List.getElem?_of_mem h1
    obtain ⟨h3, h4⟩ := List.getElem?_eq_some_iff.1 hj
    have := h.2.2 j (by simpa using h3)
    rw [getElem!_pos _ _ (by simpa using h3)] at this
    simpa [h4, cptL] using this
theorem cndL_len (L : List Int) : (cndL L).length ≤ L.length := by
  unfold cndL
  have h1 := List.length_filter_le (fun x : Int => !decide (x = 0)) (cptL (srtL L))
  have h2 := cptL_len (srtL L)
  rw [(srtL_perm L).length_eq] at h2
  omega
end Go.Proofs.Ytbhddfcdnpidkaa
