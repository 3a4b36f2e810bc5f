/-
  HeapPlays, plain: all items of three heaps in one list.
-/
import Derived.Test.YtdnhhcbabdoomaaHRef8
namespace Go.Proofs.Ytdnhhcbabdoomaa
set_option linter.unusedVariables false
set_option linter.unusedSimpArgs false
open Go.RowKit Go.Great

section
variable {α : Type} {P : α → Bool}
theorem cut_at {C : List α} {m : Nat} {e : α} (h : C[m]? = some e) : C = C.take m ++ e :: C.drop (m + 1) := by
  obtain ⟨hi, e1⟩ := List.getElem?_eq_some_iff.1 h
  rw [← e1, ← List.drop_eq_getElem_cons hi, List.take_append_drop]
theorem set_at {C : List α} {m : Nat} {e e' : α} (h : C[m]? = some e) : C.set m e' = C.take m ++ e' :: C.drop (m + 1) := by
  obtain ⟨hi, e1⟩ := List.getElem?_eq_some_iff.1 h
  rw [List.set_eq_take_append_cons_drop, if_pos hi]
theorem fil_cut {C : List α} {m : Nat} {e : α} (h : C[m]? = some e) : C.filter P = (C.take m).filter P ++ ((if P e = true then [e] else []) ++ (C.drop (m + 1)).filter P) := by
  conv => lhs; rw [cut_at h]
  rw [List.filter_append, List.filter_cons]
  split <;> rfl
theorem fil_cut' {C : List α} {m : Nat} {e e' : α} (h : C[m]? = some e) : (C.set m e').filter P = (C.take m).filter P ++ ((if P e' = true then [e'] else []) ++ (C.drop (m + 1)).filter P) := by
  rw [set_at h, List.filter_append, List.filter_cons]
  split <;> rfl
theorem fil_at {C : List α} {m : Nat} {e : α} (h : C[m]? = some e) (hp : P e = true) : (C.filter P)[((C.take m).filter P).length]? = some e := by
  rw [fil_cut h, if_pos hp, List.getElem?_append_right (Nat.le_refl _), Nat.sub_self]
  rfl
theorem fil_set {C : List α} {m : Nat} {e e' : α} (h : C[m]? = some e) (hp : P e = true) (hp' : P e' = true) : (C.set m e').filter P = (C.filter P).set ((C.take m).filter P).length e' := by
  rw [fil_cut' h, fil_cut h, if_pos hp, if_pos hp', List.set_append_right _ _ (Nat.le_refl _), Nat.sub_self]
  rfl
theorem fil_del {C : List α} {m : Nat} {e e' : α} (h : C[m]? = some e) (hp : P e = true) (hp' : P e' = false) : (C.set m e').filter P = (C.filter P).eraseIdx ((C.take m).filter P).length := by
  rw [fil_cut' h, fil_cut h, if_pos hp, if_neg (by simp [hp']), List.eraseIdx_append_of_length_le (Nat.le_refl _), Nat.sub_self]
  rfl
theorem fil_non {C : List α} {m : Nat} {e e' : α} (h : C[m]? = some e) (hp : P e = false) (hp' : P e' = false) : (C.set m e').filter P = C.filter P := by
  rw [fil_cut' h, fil_cut h, if_neg (by simp [hp']), if_neg (by simp [hp])]
theorem fil_get : ∀ {C : List α} {i : Nat} {e : α}, (C.filter P)[i]? = some e → ∃ m, C[m]? = some e ∧ P e = true ∧ i = ((C.take m).filter P).length
  | [], i, e, h => by simp at h
  | a :: C, i, e, h => by
    rw [List.filter_cons] at h
    by_cases ha : P a = true
    · rw [if_pos ha] at h
      cases i with
      | zero =>
        simp at h
        subst h
        exact ⟨0, rfl, ha, rfl⟩
      | succ i =>
        simp at h
        obtain ⟨m, h1, h2, h3⟩ := fil_get h
        exact ⟨m + 1, by simpa using h1, h2, by rw [List.take_succ_cons, List.filter_cons, if_pos ha, List.length_cons, ← h3]⟩
    · rw [if_neg ha] at h
      obtain ⟨m, h1, h2, h3⟩ := fil_get h
      exact ⟨m + 1, by simpa using h1, h2, by rw [List.take_succ_cons, List.filter_cons, if_neg ha, ← h3]⟩
theorem fil_lt {C : List α} {m n : Nat} {e : α} (h : C[m]? = some e) (hp : P e = true) (hmn : m < n) : ((C.take m).filter P).length < ((C.take n).filter P).length := by
  have h1 : (C.take n)[m]? = some e := by rw [List.getElem?_take, if_pos hmn]; exact h
  have h2 := fil_cut (P := P) h1
  rw [List.take_take, Nat.min_eq_left (by omega), if_pos hp] at h2
  rw [h2, List.length_append, List.length_append, List.length_singleton]
  omega
theorem fil_inj {C : List α} {m n : Nat} {e f : α} (h : C[m]? = some e) (hp : P e = true) (k : C[n]? = some f) (kp : P f = true) (he : ((C.take m).filter P).length = ((C.take n).filter P).length) : m = n := by
  rcases Nat.lt_trichotomy m n with q | q | q
  · have := fil_lt h hp q; omega
  · exact q
  · have := fil_lt k kp q; omega
end
/-- An item: whose it is; its block in the program's heap and in the reference's; its rank; the thing; whether it is gone. -/
structure Ent where
  k : Nat
  p : Nat
  q : Nat
  n : Nat
  x : Th
  gone : Bool
def Ent.it (e : Ent) : It Th := ⟨e.p, e.n, e.x⟩
def Ent.ri (e : Ent) : RIt := ⟨e.q, e.x, e.gone⟩
def isK (k : Nat) (e : Ent) : Bool := e.k == k
def isL (k : Nat) (e : Ent) : Bool := e.k == k && !e.gone
def Lk (C : List Ent) (k : Nat) : List (It Th) := (C.filter (isL k)).map Ent.it
def Rk (C : List Ent) (k : Nat) : List RIt := (C.filter (isK k)).map Ent.ri
def liX (C : List Ent) (k : Nat) : List Th := (C.filter (isL k)).map (·.x)
theorem Lk_x (C : List Ent) (k : Nat) : (Lk C k).map (·.x) = liX C k := by unfold Lk liX; rw [List.map_map]; rfl
theorem liveR (C : List Ent) (k : Nat) : liveL (Rk C k) = liX C k := by
  unfold liveL Rk liX
  rw [List.filter_map, List.map_map, List.filter_filter]
  congr 1
  refine List.filter_congr fun e _ => ?_
  show (!e.gone && (e.k == k)) = (e.k == k && !e.gone)
  exact Bool.and_comm _ _
theorem Lk_app {C : List Ent} {e : Ent} {k : Nat} (hk : e.k = k) (hg : e.gone = false) : Lk (C ++ [e]) k = Lk C k ++ [e.it] := by
  unfold Lk
  rw [List.filter_append, List.map_append]
  simp [isL, hk, hg]
theorem Rk_app {C : List Ent} {e : Ent} {k : Nat} (hk : e.k = k) : Rk (C ++ [e]) k = Rk C k ++ [e.ri] := by
  unfold Rk
  rw [List.filter_append, List.map_append]
  simp [isK, hk]
theorem Lk_oth {C : List Ent} {e : Ent} {k : Nat} (hk : e.k ≠ k) : Lk (C ++ [e]) k = Lk C k := by
  unfold Lk
  rw [List.filter_append, List.map_append]
  simp [isL, hk]
theorem Rk_oth {C : List Ent} {e : Ent} {k : Nat} (hk : e.k ≠ k) : Rk (C ++ [e]) k = Rk C k := by
  unfold Rk
  rw [List.filter_append, List.map_append]
  simp [isK, hk]
theorem set_map {α β : Type} (f : α → β) (l : List α) (i : Nat) (a : α) : (l.set i a).map f = (l.map f).set i (f a) := by rw [List.map_set]
section
variable {C : List Ent} {m k : Nat} {e e' : Ent}
def lix (C : List Ent) (k m : Nat) : Nat := ((C.take m).filter (isL k)).length
def rix (C : List Ent) (k m : Nat) : Nat := ((C.take m).filter (isK k)).length
theorem isL_of (hk : e.k = k) (hg : e.gone = false) : isL k e = true := by simp [isL, hk, hg]
theorem isK_of (hk : e.k = k) : isK k e = true := by simp [isK, hk]
theorem Lk_get (h : C[m]? = some e) (hk : e.k = k) (hg : e.gone = false) : (Lk C k)[lix C k m]? = some e.it := by
  unfold Lk
  rw [List.getElem?_map, show (C.filter (isL k))[lix C k m]? = some e from fil_at h (isL_of hk hg)]
  rfl
theorem Rk_get (h : C[m]? = some e) (hk : e.k = k) : (Rk C k)[rix C k m]? = some e.ri := by
  unfold Rk
  rw [List.getElem?_map, show (C.filter (isK k))[rix C k m]? = some e from fil_at h (isK_of hk)]
  rfl
theorem Lk_inv {i : Nat} {it : It Th} (h : (Lk C k)[i]? = some it) : ∃ m e, C[m]? = some e ∧ e.k = k ∧ e.gone = false ∧ e.it = it ∧ i = lix C k m := by
  unfold Lk at h
  rw [List.getElem?_map] at h
  cases hf : (C.filter (isL k))[i]? with
  | none => rw [hf] at h; cases h
  | some e =>
    rw [hf] at h
    injection h with h
    obtain ⟨m, h1, h2, h3⟩ := fil_get hf
    simp [isL] at h2
    exact ⟨m, e, h1, h2.1, h2.2, h, h3⟩
theorem Rk_inv {i : Nat} {a : RIt} (h : (Rk C k)[i]? = some a) : ∃ m e, C[m]? = some e ∧ e.k = k ∧ e.ri = a ∧ i = rix C k m := by
  unfold Rk at h
  rw [List.getElem?_map] at h
  cases hf : (C.filter (isK k))[i]? with
  | none => rw [hf] at h; cases h
  | some e =>
    rw [hf] at h
    injection h with h
    obtain ⟨m, h1, h2, h3⟩ := fil_get hf
    simp [isK] at h2
    exact ⟨m, e, h1, h2, h, h3⟩
/-- An item goes. -/
theorem Lk_gone (h : C[m]? = some e) (hk : e.k = k) (hg : e.gone = false) : Lk (C.set m { e with gone := true }) k = (Lk C k).eraseIdx (lix C k m) := by
  unfold Lk
  rw [fil_del h (isL_of hk hg) (by simp [isL]), erase_map]
  rfl
theorem Rk_set (h : C[m]? = some e) (hk : e.k = k) (hk' : e'.k = k) : Rk (C.set m e') k = (Rk C k).set (rix C k m) e'.ri := by
  unfold Rk
  rw [fil_set h (isK_of hk) (isK_of hk'), set_map]
  rfl
/-- An item is given another thing. -/
theorem Lk_put (h : C[m]? = some e) (hk : e.k = k) (hg : e.gone = false) (x : Th) : Lk (C.set m { e with x := x }) k = (Lk C k).set (lix C k m) { e.it with x := x } := by
  unfold Lk
  rw [fil_set h (isL_of hk hg) (isL_of (e := { e with x := x }) hk hg), set_map]
  rfl
theorem Lk_else (h : C[m]? = some e) (hk : e.k ≠ k) (hk' : e'.k = e.k) : Lk (C.set m e') k = Lk C k := by
  unfold Lk
  rw [fil_non h (by simp [isL, hk]) (by simp [isL, hk', hk])]
theorem Rk_else (h : C[m]? = some e) (hk : e.k ≠ k) (hk' : e'.k = e.k) : Rk (C.set m e') k = Rk C k := by
  unfold Rk
  rw [fil_non h (by simp [isK, hk]) (by simp [isK, hk', hk])]
theorem Rk_take (h : C[m]? = some e) (hk : e.k = k) : (Rk C k).take (rix C k m) = Rk (C.take m) k := by
  unfold Rk rix
  rw [← List.map_take]
  congr 1
  rw [fil_cut h, List.take_left']
  rfl
theorem lst_none (h : lst k (Rk C k) = none) : Lk C k = [] := by
  have h1 := bst_nil h
  rw [← live_eq, liveR] at h1
  unfold liX at h1
  unfold Lk
  rw [List.map_eq_nil_iff.1 h1]
  rfl
/-- The one that the reference finds is the one that the program gives. -/
theorem lst_same {i j : Nat} {it : It Th} (h : lst k (Rk C k) = some j) (hi : (Lk C k)[i]? = some it) (hm : IsMin (lsB k) ((Lk C k).map (·.x)) i) : ∃ m e, C[m]? = some e ∧ e.k = k ∧ e.gone = false ∧ e.it = it ∧ i = lix C k m ∧ j = rix C k m := by
  obtain ⟨z, h1, h2, h3, h4⟩ := bst_min (lsB_ord k) h
  have h1' := h1
  rw [← live_eq, liveR] at h3
  rw [Lk_x] at hm
  have e1 := hm.uniq h3
  obtain ⟨m, e, k1, k2, k3, k4, k5⟩ := Lk_inv hi
  obtain ⟨a, ha⟩ := lst_at h
  obtain ⟨m2, e2, r1, r2, r3, r4⟩ := Rk_inv ha
  have hag : e2.gone = false := by
    unfold cnd at h1'
    rw [ha] at h1'
    subst r3
    cases hg : e2.gone with
    | false => rfl
    | true => simp [Ent.ri, hg] at h1'
  have e2l : lix C k m2 = i := by
    rw [e1]
    have hl := live_tk (Rk C k) j (Nat.le_of_lt h2)
    rw [← hl, r4, Rk_take r1 r2, liveR]
    unfold liX lix
    rw [List.length_map]
  have : m = m2 := fil_inj k1 (isL_of k2 k3) r1 (isL_of r2 hag) (by
    show lix C k m = lix C k m2
    rw [← k5, e2l])
  subst this
  exact ⟨m, e, k1, k2, k3, k4, k5, r4⟩
end
end Go.Proofs.Ytdnhhcbabdoomaa
