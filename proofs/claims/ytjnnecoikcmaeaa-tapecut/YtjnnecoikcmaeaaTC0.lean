/-
  tape: no command's bytes are the beginning of another one's; records one behind the other, cut anywhere (plain).
-/
import Derived.Test.YtjnnecoikcmaeaaTR1
import Derived.Test.YtjnnecoikcmaeaaTells
namespace Go.Proofs.Ytjnnecoikcmaeaa
set_option linter.unusedVariables false
set_option linter.unusedSimpArgs false
open Go.RowKit Go.Great

theorem drop_app {l x : List Nat} {a : Nat} (h : a ≤ l.length) : (l ++ x).drop a = l.drop a ++ x := List.drop_append_of_le_length h
theorem rn_app {l : List Nat} {a : Nat} {lo hi z : Int} {b : Nat} (hb : BB l) (h : rn l a lo hi = some (z, b)) (h0 : -9223372036854775808 ≤ lo) (h1 : hi ≤ 9223372036854775807) (x : List Nat) : rn (l ++ x) a lo hi = some (z, b) := by
  obtain ⟨k1, k2, k3, k4, k5⟩ := of_rn hb h
  have hlen := congrArg List.length k1
  rw [List.length_append, List.length_drop, List.length_drop] at hlen
  have e : b = a + (varL (foldN z)).length := by omega
  rw [rn_of (r := l.drop b ++ x) (by rw [drop_app (by omega), k1, List.append_assoc]) k2 k3 (by omega) (by omega), ← e]
theorem rt_app {l : List Nat} {a : Nat} {q : Nat × List Nat} (hb : BB l) (h : rt l a = .ok q) (x : List Nat) : rt (l ++ x) a = .ok q := by
  unfold rt at h ⊢
  cases hr : rn l a 1 60 with
  | none => rw [hr] at h; cases h
  | some p =>
    obtain ⟨n, b⟩ := p
    rw [hr] at h
    rw [rn_app hb hr (by omega) (by omega) x]
    simp only at h ⊢
    by_cases hle : b + n.toNat ≤ l.length
    · rw [if_pos hle] at h
      rw [if_pos (by rw [List.length_append]; omega), drop_app (by omega), List.take_append_of_le_length (by rw [List.length_drop]; omega)]
      exact h
    · rw [if_neg hle] at h
      cases h
theorem rdF_app {l : List Nat} {i a : Nat} {c : Cm} {q : Nat × Cm} (hb : BB l) (h : rdF l i a c = .ok q) (x : List Nat) : rdF (l ++ x) i a c = .ok q := by
  unfold rdF at h ⊢
  by_cases ht : isT i = true
  · rw [if_pos ht] at h ⊢
    cases hr : rt l a with
    | error p => rw [hr] at h; cases h
    | ok p => rw [hr] at h; rw [rt_app hb hr x]; exact h
  · rw [if_neg ht] at h ⊢
    cases hr : rn l a 1 1000000000000000000 with
    | none => rw [hr] at h; cases h
    | some p =>
      obtain ⟨z, e⟩ := p
      rw [hr] at h
      rw [rn_app hb hr (by omega) (by omega) x]
      exact h
theorem rdU_app {l : List Nat} {m at0 : Nat} {c0 : Cm} (hb : BB l) (x : List Nat) : ∀ {i : Nat} {q : Nat × Cm}, rdU l m at0 c0 i = .ok q → rdU (l ++ x) m at0 c0 i = .ok q
  | 0, q, h => h
  | i + 1, q, h => by
    simp only [rdU] at h ⊢
    cases hr : rdU l m at0 c0 i with
    | error p => rw [hr] at h; cases h
    | ok p =>
      obtain ⟨a1, c1⟩ := p
      rw [hr] at h
      rw [rdU_app hb x hr]
      simp only at h ⊢
      by_cases hm : m / 2 ^ i % 2 = 0
      · rw [if_pos hm] at h ⊢; exact h
      · rw [if_neg hm] at h ⊢; exact rdF_app hb h x
theorem rdC_app {l : List Nat} {q : Nat × Cm} (hb : BB l) (h : rdC l = .ok q) (x : List Nat) : rdC (l ++ x) = .ok q ∧ q.1 ≤ l.length := by
  unfold rdC at h ⊢
  cases hr : rn l 0 1 9 with
  | none => rw [hr] at h; cases h
  | some p =>
    obtain ⟨k, a1⟩ := p
    rw [hr] at h
    rw [rn_app hb hr (by omega) (by omega) x]
    simp only at h ⊢
    cases hs : rn l a1 0 16777215 with
    | none => rw [hs] at h; cases h
    | some p =>
      obtain ⟨m, a2⟩ := p
      rw [hs] at h
      rw [rn_app hb hs (by omega) (by omega) x]
      simp only at h ⊢
      obtain ⟨a, c⟩ := q
      exact ⟨rdU_app hb x h, (rdU_to hb (rn_bd hb hs).2.2.2 k h).le⟩
/-- No command's bytes are the beginning of another one's. -/
theorem dec_pre {l x : List Nat} {c d : Cm} (hb : BB l) (h : dec l = .ok c) (k : dec (l ++ x) = .ok d) : x = [] := by
  unfold dec at h k
  cases hr : rdC l with
  | error p => rw [hr] at h; cases h
  | ok q =>
    obtain ⟨k1, k2⟩ := rdC_app hb hr x
    obtain ⟨a, c1⟩ := q
    rw [k1] at k
    simp only at k k2
    by_cases hlt : a < (l ++ x).length
    · rw [if_pos hlt] at k; cases k
    · rw [List.length_append] at hlt
      exact List.eq_nil_of_length_eq_zero (by omega)
/-- The bytes behind so many commands. -/
def tpL (cs : Nat → Cm) : Nat → List Nat
  | 0 => magic
  | j + 1 => tpL cs j ++ recL j (encL (cs j))
def enN (cs : Nat → Cm) (j : Nat) : Nat := (tpL cs j).length
theorem enN_zero (cs : Nat → Cm) : enN cs 0 = 4 := rfl
theorem enN_succ (cs : Nat → Cm) (j : Nat) : enN cs (j + 1) = enN cs j + (6 + (encL (cs j)).length) := by
  unfold enN
  show (tpL cs j ++ recL j (encL (cs j))).length = _
  rw [List.length_append, recL_len]
theorem tpL_ext {cs ds : Nat → Cm} : ∀ m, (∀ j, j < m → cs j = ds j) → tpL cs m = tpL ds m
  | 0, _ => rfl
  | m + 1, h => by
    show tpL cs m ++ recL m (encL (cs m)) = tpL ds m ++ recL m (encL (ds m))
    rw [tpL_ext m (fun j hj => h j (by omega)), h m (by omega)]
theorem tpL_bb {cs : Nat → Cm} : ∀ {m : Nat}, (∀ j, j < m → BB (encL (cs j))) → BB (tpL cs m)
  | 0, _ => fun x hx => by
    have : x ∈ [79, 84, 65, 80] := hx
    simp at this
    omega
  | m + 1, h => (tpL_bb fun j hj => h j (by omega)).app (recL_bb m (h m (by omega)))
theorem tpL_pre (cs : Nat → Cm) {j : Nat} : ∀ {m : Nat}, j ≤ m → ∃ t, tpL cs m = tpL cs j ++ t
  | 0, h => by
    have : j = 0 := by omega
    subst this
    exact ⟨[], by rw [List.append_nil]⟩
  | m + 1, h => by
    by_cases e : j = m + 1
    · subst e; exact ⟨[], by rw [List.append_nil]⟩
    · obtain ⟨t, ht⟩ := tpL_pre cs (j := j) (m := m) (by omega)
      exact ⟨t ++ recL m (encL (cs m)), by show tpL cs m ++ _ = _; rw [ht, List.append_assoc]⟩
theorem tpL_at (cs : Nat → Cm) {j m : Nat} (h : j < m) : ∃ t, tpL cs m = tpL cs j ++ (recL j (encL (cs j)) ++ t) := by
  obtain ⟨t, ht⟩ := tpL_pre cs (j := j + 1) (m := m) h
  exact ⟨t, by rw [ht]; show tpL cs j ++ recL j (encL (cs j)) ++ t = _; rw [List.append_assoc]⟩
theorem enN_le (cs : Nat → Cm) {j m : Nat} (h : j ≤ m) : enN cs j ≤ enN cs m := by
  obtain ⟨t, ht⟩ := tpL_pre cs h
  unfold enN
  rw [ht, List.length_append]
  omega
theorem enN_lt (cs : Nat → Cm) {j m : Nat} (h : j < m) : enN cs j + 6 ≤ enN cs m := by
  have h1 := enN_le cs (j := j + 1) (m := m) h
  rw [enN_succ] at h1
  omega
theorem enN_bd {cs : Nat → Cm} : ∀ {m : Nat}, (∀ j, j < m → encE (cs j) = 0) → enN cs m ≤ 4 + 606 * m
  | 0, _ => by rw [enN_zero]; omega
  | m + 1, h => by
    have h1 := enN_bd (m := m) fun j hj => h j (by omega)
    have h2 := (encL_len (h m (by omega))).2
    rw [enN_succ]
    omega
theorem tpL_take4 (cs : Nat → Cm) (m : Nat) {k : Nat} (hk : 4 ≤ k) : ((tpL cs m).take k).take 4 = magic := by
  obtain ⟨t, ht⟩ := tpL_pre cs (Nat.zero_le m)
  rw [List.take_take, Nat.min_eq_left hk, ht]
  show (magic ++ t).take magic.length = magic
  exact List.take_left
/-- Where the records end. -/
def ensL (cs : Nat → Cm) (q : Nat) : List Nat := (List.range q).map fun j => enN cs (j + 1)
theorem ensL_len (cs : Nat → Cm) (q : Nat) : (ensL cs q).length = q := by simp [ensL]
theorem ensL_succ (cs : Nat → Cm) (q : Nat) : ensL cs (q + 1) = ensL cs q ++ [enN cs (q + 1)] := by simp [ensL, List.range_succ]
theorem ensL_get (cs : Nat → Cm) {q j : Nat} (h : j < q) : (ensL cs q)[j]? = some (enN cs (j + 1)) := by simp [ensL, List.getElem?_range h]
theorem ensL_ext {cs ds : Nat → Cm} {m : Nat} (h : ∀ j, j < m → cs j = ds j) : ensL cs m = ensL ds m := by
  unfold ensL
  refine List.map_congr_left fun j hj => ?_
  have hj := List.mem_range.1 hj
  unfold enN
  rw [tpL_ext (j + 1) fun i hi => h i (by omega)]
theorem drop_at {cs : Nat → Cm} {L t : List Nat} {q j : Nat} (hL : L = tpL cs q ++ t) (hj : j < q) : ∃ t', L.drop (enN cs j) = recL j (encL (cs j)) ++ t' := by
  obtain ⟨t', ht⟩ := tpL_at cs hj
  exact ⟨t' ++ t, by rw [hL, ht, List.append_assoc, List.append_assoc]; exact List.drop_left⟩
theorem ch_gen {cs : Nat → Cm} {L t : List Nat} {q : Nat} (hL : L = tpL cs q ++ t) (hE : ∀ j, j < q → encE (cs j) = 0) (hno : ∀ n, ¬ FrOk q (L.drop (enN cs q)) n) : ∀ {r : List Nat} {p : Nat}, ChR L r p → r.length ≤ q ∧ p = enN cs r.length ∧ r = (ensL cs r.length).reverse
  | [], p, h => ⟨Nat.zero_le _, h, rfl⟩
  | e :: r, p, h => by
    obtain ⟨h1, b, n, h2, h3, h4⟩ := h
    obtain ⟨i1, i2, i3⟩ := ch_gen hL hE hno h2
    by_cases hq : r.length = q
    · subst i2
      rw [hq] at h3
      exact absurd h3 (hno n)
    · have hlt : r.length < q := by omega
      obtain ⟨t', hd⟩ := drop_at hL hlt
      have hf := frOk_of (hE _ hlt) r.length t'
      rw [i2, hd] at h3
      have en : n = (encL (cs r.length)).length := h3.len.symm.trans hf.len
      have ee : e = enN cs (r.length + 1) := by rw [h4, i2, en, enN_succ]
      refine ⟨hlt, by rw [h1, ee]; rfl, ?_⟩
      show e :: r = (ensL cs (r.length + 1)).reverse
      rw [ensL_succ, List.reverse_append, ← i3, ee]
      rfl
/-- What Open finds of bytes that begin with q records, behind which there is none. -/
theorem open_gen {cs : Nat → Cm} {L t : List Nat} {q : Nat} (hL : L = tpL cs q ++ t) (hE : ∀ j, j < q → encE (cs j) = 0) (hno : ∀ n, ¬ FrOk q (L.drop (enN cs q)) n) (hq : q < 1000000) {es : List Nat} {p : Nat} (h : Chain L es p) (hm : es.length = 1000000 ∨ ∀ n, ¬ FrOk es.length (L.drop p) n) : es = ensL cs q ∧ p = enN cs q := by
  obtain ⟨i1, i2, i3⟩ := ch_gen hL hE hno h
  rw [List.length_reverse] at i1 i2 i3
  have e : es.length = q := by
    by_cases e : es.length = q
    · exact e
    · exfalso
      have hlt : es.length < q := by omega
      obtain ⟨t', hd⟩ := drop_at hL hlt
      rcases hm with hm | hm
      · omega
      · exact hm _ (by rw [i2, hd]; exact frOk_of (hE _ hlt) _ _)
  have i4 := congrArg List.reverse i3
  rw [List.reverse_reverse, List.reverse_reverse] at i4
  exact ⟨by rw [i4, e], by rw [i2, e]⟩
theorem dN_take {l : List Nat} {x j : Nat} (h : j < x) : dN (l.take x) j = dN l j := by
  unfold dN
  rw [List.getD_eq_getElem?_getD, List.getD_eq_getElem?_getD, List.getElem?_take_of_lt h]
theorem no_short {k : Nat} {L : List Nat} (h : L.length < 2) (n : Nat) : ¬ FrOk k L n := fun hf => by have := hf.two; omega
/-- Cut anywhere: behind the whole ones there is no record. -/
theorem cut_no {cs : Nat → Cm} {m k q : Nat} (hE : ∀ j, j < m → encE (cs j) = 0) (hk : k ≤ enN cs m) (hqk : enN cs q ≤ k) (hq : q ≤ m) (hmax : q = m ∨ k < enN cs (q + 1)) : (∃ t, (tpL cs m).take k = tpL cs q ++ t) ∧ ∀ n, ¬ FrOk q (((tpL cs m).take k).drop (enN cs q)) n := by
  obtain ⟨t, ht⟩ := tpL_pre cs hq
  have e : (tpL cs m).take k = tpL cs q ++ t.take (k - enN cs q) := by
    rw [ht, List.take_append, List.take_of_length_le hqk]
    rfl
  refine ⟨⟨_, e⟩, fun n hf => ?_⟩
  rw [e, show (tpL cs q ++ t.take (k - enN cs q)).drop (enN cs q) = t.take (k - enN cs q) from List.drop_left] at hf
  by_cases hm : q = m
  · subst hm
    have := hf.two
    rw [List.length_take] at this
    omega
  · have hlt : k < enN cs (q + 1) := by rcases hmax with h | h <;> omega
    obtain ⟨t', ht'⟩ := tpL_at cs (show q < m by omega)
    have et : t = recL q (encL (cs q)) ++ t' := List.append_cancel_left (ht.symm.trans ht')
    have h2 := hf.two
    have h3 := hf.len
    have h4 := hf.all
    rw [List.length_take] at h2 h4
    have hf0 := frOk_of (hE q (by omega)) q t'
    rw [getN_ext 2 (fun j hj => dN_take (show j < k - enN cs q by omega)), et, hf0.len] at h3
    rw [enN_succ] at hlt
    omega
end Go.Proofs.Ytjnnecoikcmaeaa
