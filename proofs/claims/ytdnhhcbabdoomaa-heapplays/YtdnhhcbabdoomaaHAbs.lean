/-
  heap, plain: what is in the tree, in the order in which it was pushed.
-/
import Derived.Test.YtdnhhcbabdoomaaHPlain
namespace Go.Proofs.Ytdnhhcbabdoomaa
set_option linter.unusedVariables false

section
variable {β : Type} {t L : List β} {k m : Nat} {a v : β}
theorem erase_mid (h : t[k]? = some a) : t.Perm (a :: t.eraseIdx k) := by
  have hk := get_lt h
  have ha : t[k] = a := (List.getElem?_eq_some_iff.1 h).2
  have e : t = t.take k ++ a :: t.drop (k + 1) := by
    rw [← ha, ← List.drop_eq_getElem_cons hk, List.take_append_drop]
  rw [List.eraseIdx_eq_take_drop_succ]
  exact (List.Perm.of_eq e).trans List.perm_middle
theorem set_mid (hk : k < t.length) (v : β) : (t.set k v).Perm (v :: t.eraseIdx k) := by
  rw [List.eraseIdx_eq_take_drop_succ, List.set_eq_take_append_cons_drop, if_pos hk]
  exact List.perm_middle
theorem perm_erase (hp : t.Perm L) (hk : t[k]? = some a) (hm : L[m]? = some a) : (t.eraseIdx k).Perm (L.eraseIdx m) :=
  List.Perm.cons_inv (((erase_mid hk).symm.trans hp).trans (erase_mid hm))
theorem perm_set (hp : t.Perm L) (hk : t[k]? = some a) (hm : L[m]? = some a) (v : β) : (t.set k v).Perm (L.set m v) :=
  (set_mid (get_lt hk) v).trans (((perm_erase hp hk hm).cons v).trans (set_mid (get_lt hm) v).symm)
theorem perm_at (hp : t.Perm L) (hk : t[k]? = some a) : ∃ m : Nat, L[m]? = some a := List.mem_iff_getElem?.1 (hp.mem_iff.1 (List.mem_of_getElem? hk))
/-- The last one is taken away, and put where k was. -/
def cutL (t : List β) (k : Nat) : List β := if k + 1 = t.length then t.dropLast else match t.getLast? with
  | some v => t.dropLast.set k v
  | none => t
theorem cutL_last (h : k + 1 = t.length) : cutL t k = t.dropLast := by unfold cutL; rw [if_pos h]
theorem cutL_mid (h : k + 1 < t.length) (hv : t[t.length - 1]? = some v) : cutL t k = t.dropLast.set k v := by
  unfold cutL; rw [if_neg (by omega), List.getLast?_eq_getElem?, hv]
theorem last_split (hv : t[t.length - 1]? = some v) : t = t.dropLast ++ [v] := by
  have hl := get_lt hv
  have hne : t ≠ [] := fun e => by rw [e] at hl; simp at hl
  have : t.getLast hne = v := by
    have := List.getLast?_eq_getElem? (l := t)
    rw [hv, List.getLast?_eq_some_getLast hne] at this
    exact Option.some.inj this
  rw [← this]; exact (List.dropLast_concat_getLast hne).symm
theorem cutL_len (hk : k < t.length) : (cutL t k).length = t.length - 1 := by
  obtain ⟨v, hv⟩ := get_some t (show t.length - 1 < t.length by omega)
  by_cases h : k + 1 = t.length
  · rw [cutL_last h]; simp
  · rw [cutL_mid (by omega) hv]; simp
theorem cutL_perm (hk : t[k]? = some a) : t.Perm (a :: cutL t k) := by
  have hl := get_lt hk
  obtain ⟨v, hv⟩ := get_some t (show t.length - 1 < t.length by omega)
  have es := last_split hv
  by_cases h : k + 1 = t.length
  · rw [cutL_last h]
    have : a = v := by rw [show t.length - 1 = k by omega, hk] at hv; exact Option.some.inj hv
    subst this
    exact (List.Perm.of_eq es).trans List.perm_append_comm
  · rw [cutL_mid (by omega) hv]
    have hd : t.dropLast[k]? = some a := by rw [List.getElem?_dropLast, if_pos (by omega), hk]
    refine (List.Perm.of_eq es).trans (List.perm_append_comm.trans ?_)
    show (v :: t.dropLast).Perm _
    refine ((erase_mid hd).cons v).trans ((List.Perm.swap a v _).trans ?_)
    exact ((set_mid (get_lt hd) v).symm).cons a
end
section
variable {α : Type} {lt : α → α → Bool}
/-- Which one comes first: the least, and of those that are alike the earliest. -/
def IsMin (lt : α → α → Bool) (xs : List α) (m : Nat) : Prop := ∃ z, xs[m]? = some z ∧ (∀ (j : Nat) y, xs[j]? = some y → lt y z = false) ∧ ∀ (j : Nat) y, j < m → xs[j]? = some y → lt z y = true
theorem IsMin.uniq {xs : List α} {m n : Nat} (h : IsMin lt xs m) (k : IsMin lt xs n) : m = n := by
  obtain ⟨z, h1, h2, h3⟩ := h
  obtain ⟨y, k1, k2, k3⟩ := k
  rcases Nat.lt_trichotomy m n with q | q | q
  · have a := k3 m z q h1; rw [h2 n y k1] at a; cases a
  · exact q
  · have a := h3 n y q k1; rw [k2 m z h1] at a; cases a
/-- The items by their ranks, each another one. -/
structure Rkd (L : List (It α)) (N : Nat) : Prop where
  up : L.Pairwise fun a b => a.r < b.r
  lt : ∀ a, a ∈ L → a.r < N
  ne : L.Pairwise fun a b => a.p ≠ b.p
theorem root_min (o : Ordr lt) {t L : List (It α)} {N : Nat} (h : HpL lt t) (hp : t.Perm L) (hs : Rkd L N) {it : It α} (h0 : t[0]? = some it) : ∃ m : Nat, L[m]? = some it ∧ IsMin lt (L.map (·.x)) m := by
  obtain ⟨m, hm⟩ := perm_at hp h0
  refine ⟨m, hm, it.x, by rw [List.getElem?_map, hm]; rfl, ?_⟩
  have key : ∀ (j : Nat) y, L[j]? = some y → ahB lt y it = false := by
    intro j y hj
    obtain ⟨k, hk⟩ := perm_at hp.symm hj
    have := h.root o k (get_lt hk)
    rwa [ahAt_eq hk h0] at this
  have pw := List.pairwise_iff_getElem.1 hs.up
  have hml := get_lt hm
  have hme : L[m] = it := (List.getElem?_eq_some_iff.1 hm).2
  have low : ∀ (j : Nat) y, j < m → L[j]? = some y → lt it.x y.x = true := by
    intro j y hj hy
    have hjl := get_lt hy
    have hye : L[j] = y := (List.getElem?_eq_some_iff.1 hy).2
    have hr := pw j m hjl hml hj
    rw [hme, hye] at hr
    have := key j y hy
    unfold ahB at this
    rw [if_pos hr] at this
    simpa using this
  refine ⟨fun j y hj => ?_, fun j y hj hy => ?_⟩
  · rw [List.getElem?_map] at hj
    cases hy : L[j]? with
    | none => rw [hy] at hj; cases hj
    | some b =>
      rw [hy] at hj
      have : b.x = y := Option.some.inj hj
      subst this
      rcases Nat.lt_trichotomy j m with q | q | q
      · exact o.asym (low j b q hy)
      · subst q; rw [hm] at hy; injection hy with hy; subst hy; exact o.irr _
      · have hjl := get_lt hy
        have hye : L[j] = b := (List.getElem?_eq_some_iff.1 hy).2
        have hr := pw m j hml hjl q
        rw [hme, hye] at hr
        have := key j b hy
        unfold ahB at this
        rwa [if_neg (by omega)] at this
  · rw [List.getElem?_map] at hy
    cases hb : L[j]? with
    | none => rw [hb] at hy; cases hy
    | some b =>
      rw [hb] at hy
      have : b.x = y := Option.some.inj hy
      subst this
      exact low j b hj hb
theorem Rkd.nil (N : Nat) : Rkd ([] : List (It α)) N := ⟨List.Pairwise.nil, fun _ h => (List.not_mem_nil h).elim, List.Pairwise.nil⟩
theorem Rkd.push {L : List (It α)} {N : Nat} (h : Rkd L N) (p : Nat) (x : α) (hp : ∀ a, a ∈ L → a.p ≠ p) : Rkd (L ++ [⟨p, N, x⟩]) (N + 1) := by
  refine ⟨List.pairwise_append.2 ⟨h.up, List.pairwise_singleton _ _, fun a ha b hb => ?_⟩, fun a ha => ?_, List.pairwise_append.2 ⟨h.ne, List.pairwise_singleton _ _, fun a ha b hb => ?_⟩⟩
  · rw [List.mem_singleton.1 hb]; exact h.lt a ha
  · rcases List.mem_append.1 ha with ha | ha
    · exact Nat.lt_succ_of_lt (h.lt a ha)
    · rw [List.mem_singleton.1 ha]; exact Nat.lt_succ_self _
  · rw [List.mem_singleton.1 hb]; exact hp a ha
theorem Rkd.erase {L : List (It α)} {N : Nat} (h : Rkd L N) (m : Nat) : Rkd (L.eraseIdx m) N :=
  ⟨h.up.sublist (List.eraseIdx_sublist _ _), fun a ha => h.lt a ((List.eraseIdx_sublist _ _).subset ha), h.ne.sublist (List.eraseIdx_sublist _ _)⟩
theorem pw_set {β : Type} {R : β → β → Prop} {L : List β} {m : Nat} {a b : β} (h : L.Pairwise R) (hm : L[m]? = some a) (hl : ∀ c, R c a → R c b) (hr : ∀ c, R a c → R b c) : (L.set m b).Pairwise R := by
  rw [List.pairwise_iff_getElem] at h ⊢
  intro i j hi hj hij
  rw [List.length_set] at hi hj
  have hml := get_lt hm
  have hme : L[m] = a := (List.getElem?_eq_some_iff.1 hm).2
  have hij2 := h i j hi hj hij
  rw [List.getElem_set, List.getElem_set]
  by_cases e1 : m = i
  · subst e1
    rw [if_pos rfl, if_neg (by omega)]
    rw [hme] at hij2
    exact hr _ hij2
  · rw [if_neg e1]
    by_cases e2 : m = j
    · subst e2
      rw [if_pos rfl]
      rw [hme] at hij2
      exact hl _ hij2
    · rw [if_neg e2]; exact hij2
theorem Rkd.set {L : List (It α)} {N m : Nat} {a : It α} (h : Rkd L N) (hm : L[m]? = some a) (x : α) : Rkd (L.set m { a with x := x }) N :=
  ⟨pw_set h.up hm (fun _ q => q) (fun _ q => q), fun b hb => by
    rcases List.mem_or_eq_of_mem_set hb with q | q
    · exact h.lt b q
    · subst q; exact h.lt a (List.mem_of_getElem? hm), pw_set h.ne hm (fun _ q => q) (fun _ q => q)⟩
/-- A thing is pushed. -/
theorem But.push {t : List (It α)} (h : HpL lt t) (it : It α) : But lt (t ++ [it]) t.length := by
  refine ⟨fun j j0 j1 j2 j3 => ?_, fun c c0 c1 c2 _ => ?_⟩
  · rw [List.length_append, List.length_singleton] at j1
    have hp := parI_lt j0
    have := h j j0 (by omega)
    unfold ahAt at this ⊢
    rw [List.getElem?_append_left (by omega), List.getElem?_append_left (by omega)]
    exact this
  · rw [List.length_append, List.length_singleton] at c1
    have := parI_lt c0
    omega
theorem HpL.but {t : List (It α)} (o : Ordr lt) (h : HpL lt t) {k : Nat} (hk : k < t.length) (v : It α) : But lt (t.set k v) k := by
  refine ⟨fun j j0 j1 j2 j3 => ?_, fun c c0 c1 c2 k0 => ?_⟩
  · rw [List.length_set] at j1
    have := h j j0 j1
    unfold ahAt at this ⊢
    rw [List.getElem?_set_ne (by omega), List.getElem?_set_ne (by omega)]
    exact this
  · rw [List.length_set] at c1
    have hp := parI_lt k0
    have hc := parI_lt c0
    have h1 := h c c0 c1
    rw [c2] at h1
    have h2 := ahAt_nt o hk (h k k0 hk) h1
    unfold ahAt at h2 ⊢
    rw [List.getElem?_set_ne (by omega), List.getElem?_set_ne (by omega)]
    exact h2
theorem HpL.cut {t : List (It α)} (h : HpL lt t) : HpL lt t.dropLast := by
  intro j j0 j1
  rw [List.length_dropLast] at j1
  have hp := parI_lt j0
  have := h j j0 (by omega)
  unfold ahAt at this ⊢
  rw [List.getElem?_dropLast, List.getElem?_dropLast, if_pos (by omega), if_pos (by omega)]
  exact this
end
end Go.Proofs.Ytdnhhcbabdoomaa
