/-
  heap, plain: a binary tree in a list, by an order; ranks.
-/
import Derived.Test.YtdnhhcbabdoomaaProg
namespace Go.Proofs.Ytdnhhcbabdoomaa
set_option linter.unusedVariables false

/-- An item: its block, when it was pushed, its thing. -/
structure It (α : Type) where
  p : Nat
  r : Nat
  x : α
/-- What is asked of an order. -/
structure Ordr {α : Type} (lt : α → α → Bool) : Prop where
  irr : ∀ a, lt a a = false
  tr : ∀ a b c, lt a b = true → lt b c = true → lt a c = true
  nt : ∀ a b c, lt a b = false → lt b c = false → lt a c = false
def ahB {α : Type} (lt : α → α → Bool) (i j : It α) : Bool := if i.r < j.r then !lt j.x i.x else lt i.x j.x
def ahAt {α : Type} (lt : α → α → Bool) (t : List (It α)) (i j : Nat) : Bool :=
  match t[i]?, t[j]? with
  | some a, some b => ahB lt a b
  | _, _ => false
def swpL {β : Type} (t : List β) (i j : Nat) : List β :=
  match t[i]?, t[j]? with
  | some a, some b => (t.set j a).set i b
  | _, _ => t
def parI (k : Nat) : Nat := (k - 1) / 2
section
variable {β : Type} {t : List β} {i j k : Nat} {a b : β}
theorem swpL_eq (hi : t[i]? = some a) (hj : t[j]? = some b) : swpL t i j = (t.set j a).set i b := by unfold swpL; rw [hi, hj]
theorem swpL_len (t : List β) (i j : Nat) : (swpL t i j).length = t.length := by
  unfold swpL; split <;> simp
theorem get_lt (h : t[i]? = some a) : i < t.length := (List.getElem?_eq_some_iff.1 h).1
theorem get_some (t : List β) (h : i < t.length) : ∃ a, t[i]? = some a := ⟨t[i], List.getElem?_eq_getElem h⟩
theorem swpL_get (hi : i < t.length) (hj : j < t.length) (k : Nat) : (swpL t i j)[k]? = if k = i then t[j]? else if k = j then t[i]? else t[k]? := by
  obtain ⟨a, ha⟩ := get_some t hi
  obtain ⟨b, hb⟩ := get_some t hj
  rw [swpL_eq ha hb, List.getElem?_set, List.length_set]
  by_cases h1 : i = k
  · subst h1; simp [hi, hb]
  · rw [if_neg h1, if_neg (Ne.symm h1), List.getElem?_set]
    by_cases h2 : j = k
    · subst h2; simp [hj, ha]
    · rw [if_neg h2, if_neg (Ne.symm h2)]
theorem swpL_perm (hi : i < t.length) (hj : j < t.length) : (swpL t i j).Perm t := by
  rw [swpL_eq (List.getElem?_eq_getElem hi) (List.getElem?_eq_getElem hj)]
  exact List.set_set_perm hj hi
end
section
variable {α : Type} {lt : α → α → Bool}
theorem Ordr.asym (o : Ordr lt) {a b : α} (h : lt a b = true) : lt b a = false := by
  cases h2 : lt b a with
  | false => rfl
  | true => have := o.tr a b a h h2; rw [o.irr] at this; cases this
/-- Who is not ahead of one that is not ahead of a third is not ahead of it. -/
theorem ah_nt (o : Ordr lt) {i j k : It α} (h1 : ahB lt j i = false) (h2 : ahB lt k j = false) : ahB lt k i = false := by
  unfold ahB at *
  have a1 := o.tr k.x i.x j.x
  have a2 := o.tr j.x k.x i.x
  have a3 := o.tr i.x j.x k.x
  have b1 := o.nt j.x i.x k.x
  have b2 := o.nt i.x k.x j.x
  have b3 := o.nt k.x j.x i.x
  cases e1 : lt i.x j.x <;> cases e2 : lt j.x i.x <;> cases e3 : lt j.x k.x <;> cases e4 : lt k.x j.x <;> cases e5 : lt i.x k.x <;> cases e6 : lt k.x i.x <;> simp only [e1, e2, e3, e4, e5, e6] at * <;> (repeat' split at h1) <;> (repeat' split at h2) <;> (repeat' split) <;> first | rfl | (exfalso; omega) | (simp at *)
theorem ah_asym (o : Ordr lt) {i j : It α} (h : ahB lt i j = true) : ahB lt j i = false := by
  unfold ahB at *
  by_cases h1 : i.r < j.r
  · rw [if_pos h1] at h; rw [if_neg (by omega)]; simpa using h
  · rw [if_neg h1] at h
    by_cases h2 : j.r < i.r
    · rw [if_pos h2, h]; rfl
    · rw [if_neg h2]; exact o.asym h
/-- No item is ahead of the one above it. -/
def HpL (lt : α → α → Bool) (t : List (It α)) : Prop := ∀ j, 0 < j → j < t.length → ahAt lt t j (parI j) = false
theorem ahAt_eq {t : List (It α)} {i j : Nat} {a b : It α} (hi : t[i]? = some a) (hj : t[j]? = some b) : ahAt lt t i j = ahB lt a b := by unfold ahAt; rw [hi, hj]
theorem ahAt_nt (o : Ordr lt) {t : List (It α)} {i j k : Nat} (hj : j < t.length) (h1 : ahAt lt t j i = false) (h2 : ahAt lt t k j = false) : ahAt lt t k i = false := by
  obtain ⟨b, hb⟩ := get_some t hj
  cases hi : t[i]? with
  | none => unfold ahAt; rw [hi]; split <;> simp_all
  | some a =>
    cases hk : t[k]? with
    | none => unfold ahAt; rw [hk]
    | some c =>
      rw [ahAt_eq hb hi] at h1
      rw [ahAt_eq hk hb] at h2
      rw [ahAt_eq hk hi]
      exact ah_nt o h1 h2
theorem ahAt_refl (o : Ordr lt) (t : List (It α)) (k : Nat) : ahAt lt t k k = false := by
  cases hk : t[k]? with
  | none => unfold ahAt; rw [hk]
  | some c => rw [ahAt_eq hk hk]; unfold ahB; rw [if_neg (by omega)]; exact o.irr _
theorem parI_lt {k : Nat} (h : 0 < k) : parI k < k := by unfold parI; omega
/-- The first one is ahead of all. -/
theorem HpL.root (o : Ordr lt) {t : List (It α)} (h : HpL lt t) : ∀ k, k < t.length → ahAt lt t k 0 = false := by
  intro k
  induction k using Nat.strongRecOn with
  | _ k ih =>
    intro hk
    by_cases h0 : k = 0
    · subst h0; exact ahAt_refl o t 0
    · have hp := parI_lt (k := k) (by omega)
      exact ahAt_nt o (by omega) (ih _ hp (by omega)) (h k (by omega) hk)
/-- All stand right, but for the one at k. -/
structure But (lt : α → α → Bool) (t : List (It α)) (k : Nat) : Prop where
  off : ∀ j, 0 < j → j < t.length → j ≠ k → parI j ≠ k → ahAt lt t j (parI j) = false
  thru : ∀ c, 0 < c → c < t.length → parI c = k → 0 < k → ahAt lt t c (parI k) = false
def riseL (lt : α → α → Bool) (t : List (It α)) (k : Nat) : List (It α) × Nat :=
  if h : k = 0 then (t, k) else if ahAt lt t k (parI k) then riseL lt (swpL t k (parI k)) (parI k) else (t, k)
  termination_by k
  decreasing_by exact parI_lt (by omega)
/-- How often the order is asked meanwhile. -/
def riseN (lt : α → α → Bool) (t : List (It α)) (k : Nat) : Nat :=
  if h : k = 0 then 0 else if ahAt lt t k (parI k) then 1 + riseN lt (swpL t k (parI k)) (parI k) else 1
  termination_by k
  decreasing_by exact parI_lt (by omega)
/-- The one right below that is ahead of the other. -/
def lowI (lt : α → α → Bool) (t : List (It α)) (k : Nat) : Nat := if 2 * k + 2 < t.length ∧ ahAt lt t (2 * k + 2) (2 * k + 1) = true then 2 * k + 2 else 2 * k + 1
def sinkL (lt : α → α → Bool) (t : List (It α)) (k : Nat) : List (It α) :=
  if h : 2 * k + 1 < t.length then (if ahAt lt t (lowI lt t k) k then sinkL lt (swpL t k (lowI lt t k)) (lowI lt t k) else t) else t
  termination_by t.length - k
  decreasing_by rw [swpL_len]; unfold lowI; split <;> omega
def sinkN (lt : α → α → Bool) (t : List (It α)) (k : Nat) : Nat :=
  if h : 2 * k + 1 < t.length then (if 2 * k + 2 < t.length then 1 else 0) + 1 + (if ahAt lt t (lowI lt t k) k then sinkN lt (swpL t k (lowI lt t k)) (lowI lt t k) else 0) else 0
  termination_by t.length - k
  decreasing_by rw [swpL_len]; unfold lowI; split <;> omega
def setlL (lt : α → α → Bool) (t : List (It α)) (k : Nat) : List (It α) := if (riseL lt t k).2 = k then sinkL lt t k else (riseL lt t k).1
def setlN (lt : α → α → Bool) (t : List (It α)) (k : Nat) : Nat := riseN lt t k + if (riseL lt t k).2 = k then sinkN lt t k else 0
theorem lowI_lt {t : List (It α)} {k : Nat} (h : 2 * k + 1 < t.length) : lowI lt t k < t.length ∧ k < lowI lt t k ∧ parI (lowI lt t k) = k := by
  unfold lowI parI; split <;> refine ⟨?_, ?_, ?_⟩ <;> omega
theorem riseL_perm (t : List (It α)) (k : Nat) (hk : k < t.length) : (riseL lt t k).1.Perm t ∧ (riseL lt t k).2 ≤ k ∧ (riseL lt t k).1[(riseL lt t k).2]? = t[k]? := by
  induction k using Nat.strongRecOn generalizing t with
  | _ k ih =>
    rw [riseL]
    split
    · exact ⟨List.Perm.refl _, Nat.le_refl _, rfl⟩
    · have hp := parI_lt (k := k) (by omega)
      split
      · have h2 := ih _ hp (swpL t k (parI k)) (by rw [swpL_len]; omega)
        refine ⟨h2.1.trans (swpL_perm hk (by omega)), by omega, h2.2.2.trans ?_⟩
        rw [swpL_get hk (by omega), if_neg (by omega), if_pos rfl]
      · exact ⟨List.Perm.refl _, Nat.le_refl _, rfl⟩
theorem sinkL_perm (n : Nat) : ∀ (t : List (It α)) (k : Nat), t.length - k ≤ n → (sinkL lt t k).Perm t := by
  induction n with
  | zero =>
    intro t k h
    rw [sinkL, dif_neg (by omega)]
  | succ n ih =>
    intro t k h
    rw [sinkL]
    split
    · rename_i h1
      have h2 := lowI_lt (lt := lt) h1
      split
      · exact (ih _ _ (by rw [swpL_len]; omega)).trans (swpL_perm (by omega) h2.1)
      · exact List.Perm.refl _
    · exact List.Perm.refl _
theorem setlL_perm (t : List (It α)) (k : Nat) (hk : k < t.length) : (setlL lt t k).Perm t := by
  unfold setlL; split
  · exact sinkL_perm _ t k (Nat.le_refl _)
  · exact (riseL_perm t k hk).1
theorem setlL_len (t : List (It α)) (k : Nat) (hk : k < t.length) : (setlL lt t k).length = t.length := (setlL_perm t k hk).length_eq
theorem par_cases {k : Nat} {c : Nat} (h0 : 0 < c) (h : parI c = k) : c = 2 * k + 1 ∨ c = 2 * k + 2 := by unfold parI at h; omega
/-- One up. -/
theorem But.up (o : Ordr lt) {t : List (It α)} {k : Nat} (h : But lt t k) (hk : k < t.length) (h0 : 0 < k) (ha : ahAt lt t k (parI k) = true) :
    But lt (swpL t k (parI k)) (parI k) ∧ ∀ c, 0 < c → c < t.length → parI c = parI k → ahAt lt (swpL t k (parI k)) c (parI k) = false := by
  have hp := parI_lt h0
  generalize hq : parI k = p at *
  have hG := swpL_get (t := t) hk (show p < t.length by omega)
  have hat : ∀ i j i' j', (swpL t k p)[i]? = t[i']? → (swpL t k p)[j]? = t[j']? → ahAt lt (swpL t k p) i j = ahAt lt t i' j' := by
    intro i j i' j' e1 e2; unfold ahAt; rw [e1, e2]
  have gk : (swpL t k p)[k]? = t[p]? := by rw [hG, if_pos rfl]
  have gp : (swpL t k p)[p]? = t[k]? := by rw [hG, if_neg (by omega), if_pos rfl]
  have go : ∀ i, i ≠ k → i ≠ p → (swpL t k p)[i]? = t[i]? := fun i h1 h2 => by rw [hG, if_neg h1, if_neg h2]
  have hD : ∀ c, 0 < c → c < t.length → parI c = p → ahAt lt (swpL t k p) c p = false := by
    intro c c0 c1 c2
    by_cases hc : c = k
    · subst hc
      rw [hat c p p c gk gp]
      obtain ⟨a, e1⟩ := get_some t hk
      obtain ⟨b, e2⟩ := get_some t (show p < t.length by omega)
      rw [ahAt_eq e1 e2] at ha
      rw [ahAt_eq e2 e1]
      exact ah_asym o ha
    · have hcp : c ≠ p := fun e => by have := parI_lt c0; omega
      rw [hat c p c k (go c hc hcp) gp]
      refine ahAt_nt o (j := p) (by omega) ?_ ?_
      · obtain ⟨a, e1⟩ := get_some t hk
        obtain ⟨b, e2⟩ := get_some t (show p < t.length by omega)
        rw [ahAt_eq e1 e2] at ha
        rw [ahAt_eq e2 e1]
        exact ah_asym o ha
      · rw [← c2]; exact h.off c c0 c1 hc (by omega)
  refine ⟨⟨fun j j0 j1 j2 j3 => ?_, fun c c0 c1 c2 p0 => ?_⟩, hD⟩
  · rw [swpL_len] at j1
    have jk : j ≠ k := fun e => by subst e; exact j3 hq
    by_cases hj : parI j = k
    · rw [hj, hat j k j p (go j jk j2) gk]
      exact hq ▸ h.thru j j0 j1 hj h0
    · rw [hat j (parI j) j (parI j) (go j jk j2) (go _ hj j3)]
      exact h.off j j0 j1 jk hj
  · rw [swpL_len] at c1
    have hpp := parI_lt p0
    have hoff := h.off p p0 (by omega) (by omega) (by omega)
    have gpp := go (parI p) (by omega) (by omega)
    by_cases hc : c = k
    · subst hc
      rw [hat c (parI p) p (parI p) gk gpp]
      exact hoff
    · have hcp : c ≠ p := fun e => by have := parI_lt c0; omega
      rw [hat c (parI p) c (parI p) (go c hc hcp) gpp]
      refine ahAt_nt o (j := p) (by omega) hoff ?_
      rw [← c2]; exact h.off c c0 c1 hc (by omega)
/-- One down. -/
theorem But.down (o : Ordr lt) {t : List (It α)} {k : Nat} (h : But lt t k) (hl : 2 * k + 1 < t.length) (hu : 0 < k → ahAt lt t k (parI k) = false) (ha : ahAt lt t (lowI lt t k) k = true) :
    But lt (swpL t k (lowI lt t k)) (lowI lt t k) ∧ ahAt lt (swpL t k (lowI lt t k)) (lowI lt t k) (parI (lowI lt t k)) = false := by
  have hlo := lowI_lt (lt := lt) hl
  have hbest : ∀ c, 0 < c → c < t.length → parI c = k → ahAt lt t c (lowI lt t k) = false := by
    intro c c0 c1 c2
    have hc := par_cases c0 c2
    unfold lowI
    split
    · rename_i hs
      rcases hc with rfl | rfl
      · obtain ⟨a, e1⟩ := get_some t hs.1
        obtain ⟨b, e2⟩ := get_some t hl
        have := hs.2
        rw [ahAt_eq e1 e2] at this
        rw [ahAt_eq e2 e1]
        exact ah_asym o this
      · exact ahAt_refl o t _
    · rename_i hs
      rcases hc with rfl | rfl
      · exact ahAt_refl o t _
      · cases hb : ahAt lt t (2 * k + 2) (2 * k + 1) with
        | false => rfl
        | true => exact absurd ⟨c1, hb⟩ hs
  generalize hq : lowI lt t k = b at *
  have hk : k < t.length := by omega
  have hG := swpL_get (t := t) hk (show b < t.length by omega)
  have hat : ∀ i j i' j', (swpL t k b)[i]? = t[i']? → (swpL t k b)[j]? = t[j']? → ahAt lt (swpL t k b) i j = ahAt lt t i' j' := by
    intro i j i' j' e1 e2; unfold ahAt; rw [e1, e2]
  have gk : (swpL t k b)[k]? = t[b]? := by rw [hG, if_pos rfl]
  have gb : (swpL t k b)[b]? = t[k]? := by rw [hG, if_neg (by omega), if_pos rfl]
  have go : ∀ i, i ≠ k → i ≠ b → (swpL t k b)[i]? = t[i]? := fun i h1 h2 => by rw [hG, if_neg h1, if_neg h2]
  have hasy : ahAt lt t k b = false := by
    obtain ⟨x, e1⟩ := get_some t hk
    obtain ⟨y, e2⟩ := get_some t (show b < t.length by omega)
    rw [ahAt_eq e2 e1] at ha
    rw [ahAt_eq e1 e2]
    exact ah_asym o ha
  refine ⟨⟨fun j j0 j1 j2 j3 => ?_, fun c c0 c1 c2 b0 => ?_⟩, ?_⟩
  · rw [swpL_len] at j1
    by_cases hj : parI j = k
    · have jk : j ≠ k := fun e => by have := parI_lt j0; omega
      rw [hj, hat j k j b (go j jk j2) gk]
      exact hbest j j0 j1 hj
    · by_cases jk : j = k
      · subst jk
        have hpl := parI_lt j0
        rw [hat j (parI j) b (parI j) gk (go _ (by omega) j3)]
        exact h.thru b (by omega) hlo.1 hlo.2.2 j0
      · rw [hat j (parI j) j (parI j) (go j jk j2) (go _ hj j3)]
        exact h.off j j0 j1 jk hj
  · rw [swpL_len] at c1
    have hcl := parI_lt c0
    rw [hlo.2.2, hat c k c b (go c (by omega) (by omega)) gk]
    rw [← c2]
    exact h.off c c0 c1 (by omega) (by omega)
  · rw [hlo.2.2, hat b k k b gb gk]; exact hasy
theorem rise_but (o : Ordr lt) (t : List (It α)) (k : Nat) (hk : k < t.length) (h : But lt t k) (hd : ∀ c, 0 < c → c < t.length → parI c = k → ahAt lt t c k = false) : HpL lt (riseL lt t k).1 := by
  induction k using Nat.strongRecOn generalizing t with
  | _ k ih =>
    have stop : (k = 0 ∨ ahAt lt t k (parI k) = false) → HpL lt t := by
      intro hs j j0 j1
      by_cases e1 : j = k
      · subst e1
        rcases hs with hs | hs
        · omega
        · exact hs
      · by_cases e2 : parI j = k
        · rw [e2]; exact hd j j0 j1 e2
        · exact h.off j j0 j1 e1 e2
    rw [riseL]
    split
    · rename_i h0; exact stop (.inl h0)
    · have hp := parI_lt (k := k) (by omega)
      split
      · rename_i ha
        obtain ⟨u1, u2⟩ := h.up o hk (by omega) ha
        exact ih _ hp _ (by rw [swpL_len]; omega) u1 (fun c c0 c1 c2 => u2 c c0 (by rw [swpL_len] at c1; exact c1) c2)
      · rename_i ha
        exact stop (.inr (by simpa using ha))
theorem sink_but (o : Ordr lt) (n : Nat) : ∀ (t : List (It α)) (k : Nat), t.length - k ≤ n → But lt t k → (0 < k → ahAt lt t k (parI k) = false) → HpL lt (sinkL lt t k) := by
  induction n with
  | zero =>
    intro t k hn h hu
    rw [sinkL, dif_neg (by omega)]
    intro j j0 j1
    exact h.off j j0 j1 (by omega) (by have := parI_lt j0; omega)
  | succ n ih =>
    intro t k hn h hu
    have stop : (∀ c, 0 < c → c < t.length → parI c = k → ahAt lt t c k = false) → HpL lt t := by
      intro hs j j0 j1
      by_cases e1 : j = k
      · subst e1; exact hu j0
      · by_cases e2 : parI j = k
        · rw [e2]; exact hs j j0 j1 e2
        · exact h.off j j0 j1 e1 e2
    rw [sinkL]
    split
    · rename_i hl
      have hlo := lowI_lt (lt := lt) hl
      split
      · rename_i ha
        obtain ⟨u1, u2⟩ := h.down o hl hu ha
        exact ih _ _ (by rw [swpL_len]; omega) u1 (fun _ => u2)
      · rename_i ha
        refine stop fun c c0 c1 c2 => ?_
        have hc := par_cases c0 c2
        have hb : ahAt lt t c (lowI lt t k) = false := by
          unfold lowI
          split
          · rename_i hs
            rcases hc with rfl | rfl
            · obtain ⟨a, e1⟩ := get_some t hs.1
              obtain ⟨b, e2⟩ := get_some t hl
              have := hs.2
              rw [ahAt_eq e1 e2] at this
              rw [ahAt_eq e2 e1]
              exact ah_asym o this
            · exact ahAt_refl o t _
          · rename_i hs
            rcases hc with rfl | rfl
            · exact ahAt_refl o t _
            · cases hb : ahAt lt t (2 * k + 2) (2 * k + 1) with
              | false => rfl
              | true => exact absurd ⟨c1, hb⟩ hs
        exact ahAt_nt o hlo.1 (by simpa using ha) hb
    · rename_i hl
      exact stop fun c c0 c1 c2 => absurd c1 (by have := par_cases c0 c2; omega)
/-- THE TREE STANDS RIGHT AGAIN. -/
theorem setl_but (o : Ordr lt) (t : List (It α)) (k : Nat) (hk : k < t.length) (h : But lt t k) : HpL lt (setlL lt t k) := by
  unfold setlL
  split
  · rename_i he
    refine sink_but o _ t k (Nat.le_refl _) h fun k0 => ?_
    rw [riseL, dif_neg (by omega)] at he
    split at he
    · have := (riseL_perm (lt := lt) (swpL t k (parI k)) (parI k) (by rw [swpL_len]; have := parI_lt k0; omega)).2.1
      have := parI_lt k0
      omega
    · rename_i ha; simpa using ha
  · rename_i he
    rw [riseL] at he ⊢
    split
    · rename_i h0; rw [dif_pos h0] at he; exact absurd rfl he
    · rename_i h0
      rw [dif_neg h0] at he
      have hp := parI_lt (k := k) (by omega)
      split
      · rename_i ha
        obtain ⟨u1, u2⟩ := h.up o hk (by omega) ha
        exact rise_but o _ _ (by rw [swpL_len]; omega) u1 (fun c c0 c1 c2 => u2 c c0 (by rw [swpL_len] at c1; exact c1) c2)
      · rename_i ha; rw [if_neg ha] at he; exact absurd rfl he
end
end Go.Proofs.Ytdnhhcbabdoomaa
