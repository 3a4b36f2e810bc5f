import Derived.Test.YtjnnecoikcmaeaaTR1
import Derived.Test.YtjnnecoikcmaeaaTells
import Derived.Test.YtjnnecoikcmaeaaTQ7
import Derived.Test.YtjnnecoikcmaeaaTR2

namespace Go.Proofs.Ytjnnecoikcmaeaa
set_option linter.unusedVariables false
set_option linter.unusedSimpArgs false
open Go.RowKit Go.Great

theorem drop_app {l x : List Nat} {a : Nat} (h : a ≤ l.length) : (l ++ x).drop a = l.drop a ++ x := List.drop_append_of_le_length h
theorem rn_app {l : List Nat} {a : Nat} {lo hi z : Int} {b : Nat} (hb : BB l) (h : rn l a lo hi = some (z, b)) (h0 : -9223372036854775808 ≤ lo) (h1 : hi ≤ 9223372036854775807) (x : List Nat) : rn (l ++ x) a lo hi = some (z, b) := by
  obtain ⟨k1, k2, k3, k4, k5⟩ := of_rn hb h
  have hlen := congrArg List.length k1
  rw [List.length_append, List.length_drop, List.length_drop] at hlen
  have e : b = a + (varL (foldN z)).length := by omega
  rw [rn_of (r := l.drop b ++ x) (by rw [drop_app (by omega), k1, List.append_assoc]) k2 k3 (by omega) (by omega), ← e]
theorem rt_app {l : List Nat} {a : Nat} {q : Nat × List Nat} (hb : BB l) (h : rt l a = .ok q) (x : List Nat) : rt (l ++ x) a = .ok q := by
  unfold rt at h ⊢
  cases hr : rn l a 1 60 with
  | none => rw [hr] at h; cases h
  | some p =>
    obtain ⟨n, b⟩ := p
    rw [hr] at h
    rw [rn_app hb hr (by omega) (by omega) x]
    simp only at h ⊢
    by_cases hle : b + n.toNat ≤ l.length
    · rw [if_pos hle] at h
      rw [if_pos (by rw [List.length_append]; omega), drop_app (by omega), List.take_append_of_le_length (by rw [List.length_drop]; omega)]
      exact h
    · rw [if_neg hle] at h
      cases h
theorem rdF_app {l : List Nat} {i a : Nat} {c : Cm} {q : Nat × Cm} (hb : BB l) (h : rdF l i a c = .ok q) (x : List Nat) : rdF (l ++ x) i a c = .ok q := by
  unfold rdF at h ⊢
  by_cases ht : isT i = true
  · rw [if_pos ht] at h ⊢
    cases hr : rt l a with
    | error p => rw [hr] at h; cases h
    | ok p => rw [hr] at h; rw [rt_app hb hr x]; exact h
  · rw [if_neg ht] at h ⊢
    cases hr : rn l a 1 1000000000000000000 with
    | none => rw [hr] at h; cases h
    | some p =>
      obtain ⟨z, e⟩ := p
      rw [hr] at h
      rw [rn_app hb hr (by omega) (by omega) x]
      exact h
theorem rdU_app {l : List Nat} {m at0 : Nat} {c0 : Cm} (hb : BB l) (x : List Nat) : ∀ {i : Nat} {q : Nat × Cm}, rdU l m at0 c0 i = .ok q → rdU (l ++ x) m at0 c0 i = .ok q
  | 0, q, h => h
  | i + 1, q, h => by
    simp only [rdU] at h ⊢
    cases hr : rdU l m at0 c0 i with
    | error p => rw [hr] at h; cases h
    | ok p =>
      obtain ⟨a1, c1⟩ := p
      rw [hr] at h
      rw [rdU_app hb x hr]
      simp only at h ⊢
      by_cases hm : m / 2 ^ i % 2 = 0
      · rw [if_pos hm] at h ⊢; exact h
      · rw [if_neg hm] at h ⊢; exact rdF_app hb h x
theorem rdC_app {l : List Nat} {q : Nat × Cm} (hb : BB l) (h : rdC l = .ok q) (x : List Nat) : rdC (l ++ x) = .ok q ∧ q.1 ≤ l.length := by
  unfold rdC at h ⊢
  cases hr : rn l 0 1 9 with
  | none => rw [hr] at h; cases h
  | some p =>
    obtain ⟨k, a1⟩ := p
    rw [hr] at h
    rw [rn_app hb hr (by omega) (by omega) x]
    simp only at h ⊢
    cases hs : rn l a1 0 16777215 with
    | none => rw [hs] at h; cases h
    | some p =>
      obtain ⟨m, a2⟩ := p
      rw [hs] at h
      rw [rn_app hb hs (by omega) (by omega) x]
      simp only at h ⊢
      obtain ⟨a, c⟩ := q
      exact ⟨rdU_app hb x h, (rdU_to hb (rn_bd hb hs).2.2.2 k h).le⟩
/-- No command's bytes are the beginning of another one's. -/
theorem dec_pre {l x : List Nat} {c d : Cm} (hb : BB l) (h : dec l = .ok c) (k : dec (l ++ x) = .ok d) : x = [] := by
  unfold dec at h k
  cases hr : rdC l with
  | error p => rw [hr] at h; cases h
  | ok q =>
    obtain ⟨k1, k2⟩ := rdC_app hb hr x
    obtain ⟨a, c1⟩ := q
    rw [k1] at k
    simp only at k k2
    by_cases hlt : a < (l ++ x).length
    · rw [if_pos hlt] at k; cases k
    · rw [List.length_append] at hlt
      exact List.eq_nil_of_length_eq_zero (by omega)
/-- The bytes behind so many commands. -/
def tpL (cs : Nat → Cm) : Nat → List Nat
  | 0 => magic
  | j + 1 => tpL cs j ++ recL j (encL (cs j))
def enN (cs : Nat → Cm) (j : Nat) : Nat := (tpL cs j).length
theorem enN_zero (cs : Nat → Cm) : enN cs 0 = 4 := rfl
theorem enN_succ (cs : Nat → Cm) (j : Nat) : enN cs (j + 1) = enN cs j + (6 + (encL (cs j)).length) := by
  unfold enN
  show (tpL cs j ++ recL j (encL (cs j))).length = _
  rw [List.length_append, recL_len]
theorem tpL_ext {cs ds : Nat → Cm} : ∀ m, (∀ j, j < m → cs j = ds j) → tpL cs m = tpL ds m
  | 0, _ => rfl
  | m + 1, h => by
    show tpL cs m ++ recL m (encL (cs m)) = tpL ds m ++ recL m (encL (ds m))
    rw [tpL_ext m (fun j hj => h j (by omega)), h m (by omega)]
theorem tpL_bb {cs : Nat → Cm} : ∀ {m : Nat}, (∀ j, j < m → BB (encL (cs j))) → BB (tpL cs m)
  | 0, _ => fun x hx => by
    have : x ∈ [79, 84, 65, 80] := hx
    simp at this
    omega
  | m + 1, h => (tpL_bb fun j hj => h j (by omega)).app (recL_bb m (h m (by omega)))
theorem tpL_pre (cs : Nat → Cm) {j : Nat} : ∀ {m : Nat}, j ≤ m → ∃ t, tpL cs m = tpL cs j ++ t
  | 0, h => by
    have : j = 0 := by omega
    subst this
    exact ⟨[], by rw [List.append_nil]⟩
  | m + 1, h => by
    by_cases e : j = m + 1
    · subst e; exact ⟨[], by rw [List.append_nil]⟩
    · obtain ⟨t, ht⟩ := tpL_pre cs (j := j) (m := m) (by omega)
      exact ⟨t ++ recL m (encL (cs m)), by show tpL cs m ++ _ = _; rw [ht, List.append_assoc]⟩
theorem tpL_at (cs : Nat → Cm) {j m : Nat} (h : j < m) : ∃ t, tpL cs m = tpL cs j ++ (recL j (encL (cs j)) ++ t) := by
  obtain ⟨t, ht⟩ := tpL_pre cs (j := j + 1) (m := m) h
  exact ⟨t, by rw [ht]; show tpL cs j ++ recL j (encL (cs j)) ++ t = _; rw [List.append_assoc]⟩
theorem enN_le (cs : Nat → Cm) {j m : Nat} (h : j ≤ m) : enN cs j ≤ enN cs m := by
  obtain ⟨t, ht⟩ := tpL_pre cs h
  unfold enN
  rw [ht, List.length_append]
  omega
theorem enN_lt (cs : Nat → Cm) {j m : Nat} (h : j < m) : enN cs j + 6 ≤ enN cs m := by
  have h1 := enN_le cs (j := j + 1) (m := m) h
  rw [enN_succ] at h1
  omega
theorem enN_bd {cs : Nat → Cm} : ∀ {m : Nat}, (∀ j, j < m → encE (cs j) = 0) → enN cs m ≤ 4 + 606 * m
  | 0, _ => by rw [enN_zero]; omega
  | m + 1, h => by
    have h1 := enN_bd (m := m) fun j hj => h j (by omega)
    have h2 := (encL_len (h m (by omega))).2
    rw [enN_succ]
    omega
theorem tpL_take4 (cs : Nat → Cm) (m : Nat) {k : Nat} (hk : 4 ≤ k) : ((tpL cs m).take k).take 4 = magic := by
  obtain ⟨t, ht⟩ := tpL_pre cs (Nat.zero_le m)
  rw [List.take_take, Nat.min_eq_left hk, ht]
  show (magic ++ t).take magic.length = magic
  exact List.take_left
/-- Where the records end. -/
def ensL (cs : Nat → Cm) (q : Nat) : List Nat := (List.range q).map fun j => enN cs (j + 1)
theorem ensL_len (cs : Nat → Cm) (q : Nat) : (ensL cs q).length = q := by simp [ensL]
theorem ensL_succ (cs : Nat → Cm) (q : Nat) : ensL cs (q + 1) = ensL cs q ++ [enN cs (q + 1)] := by simp [ensL, List.range_succ]
theorem ensL_get (cs : Nat → Cm) {q j : Nat} (h : j < q) : (ensL cs q)[j]? = some (enN cs (j + 1)) := by simp [ensL, List.getElem?_range h]
theorem ensL_ext {cs ds : Nat → Cm} {m : Nat} (h : ∀ j, j < m → cs j = ds j) : ensL cs m = ensL ds m := by
  unfold ensL
  refine List.map_congr_left fun j hj => ?_
  have hj := List.mem_range.1 hj
  unfold enN
  rw [tpL_ext (j + 1) fun i hi => h i (by omega)]
theorem drop_at {cs : Nat → Cm} {L t : List Nat} {q j : Nat} (hL : L = tpL cs q ++ t) (hj : j < q) : ∃ t', L.drop (enN cs j) = recL j (encL (cs j)) ++ t' := by
  obtain ⟨t', ht⟩ := tpL_at cs hj
  exact ⟨t' ++ t, by rw [hL, ht, List.append_assoc, List.append_assoc]; exact List.drop_left⟩
theorem ch_gen {cs : Nat → Cm} {L t : List Nat} {q : Nat} (hL : L = tpL cs q ++ t) (hE : ∀ j, j < q → encE (cs j) = 0) (hno : ∀ n, ¬ FrOk q (L.drop (enN cs q)) n) : ∀ {r : List Nat} {p : Nat}, ChR L r p → r.length ≤ q ∧ p = enN cs r.length ∧ r = (ensL cs r.length).reverse
  | [], p, h => ⟨Nat.zero_le _, h, rfl⟩
  | e :: r, p, h => by
    obtain ⟨h1, b, n, h2, h3, h4⟩ := h
    obtain ⟨i1, i2, i3⟩ := ch_gen hL hE hno h2
    by_cases hq : r.length = q
    · subst i2
      rw [hq] at h3
      exact absurd h3 (hno n)
    · have hlt : r.length < q := by omega
      obtain ⟨t', hd⟩ := drop_at hL hlt
      have hf := frOk_of (hE _ hlt) r.length t'
      rw [i2, hd] at h3
      have en : n = (encL (cs r.length)).length := h3.len.symm.trans hf.len
      have ee : e = enN cs (r.length + 1) := by rw [h4, i2, en, enN_succ]
      refine ⟨hlt, by rw [h1, ee]; rfl, ?_⟩
      show e :: r = (ensL cs (r.length + 1)).reverse
      rw [ensL_succ, List.reverse_append, ← i3, ee]
      rfl
/-- What Open finds of bytes that begin with q records, behind which there is none. -/
theorem open_gen {cs : Nat → Cm} {L t : List Nat} {q : Nat} (hL : L = tpL cs q ++ t) (hE : ∀ j, j < q → encE (cs j) = 0) (hno : ∀ n, ¬ FrOk q (L.drop (enN cs q)) n) (hq : q < 1000000) {es : List Nat} {p : Nat} (h : Chain L es p) (hm : es.length = 1000000 ∨ ∀ n, ¬ FrOk es.length (L.drop p) n) : es = ensL cs q ∧ p = enN cs q := by
  obtain ⟨i1, i2, i3⟩ := ch_gen hL hE hno h
  rw [List.length_reverse] at i1 i2 i3
  have e : es.length = q := by
    by_cases e : es.length = q
    · exact e
    · exfalso
      have hlt : es.length < q := by omega
      obtain ⟨t', hd⟩ := drop_at hL hlt
      rcases hm with hm | hm
      · omega
      · exact hm _ (by rw [i2, hd]; exact frOk_of (hE _ hlt) _ _)
  have i4 := congrArg List.reverse i3
  rw [List.reverse_reverse, List.reverse_reverse] at i4
  exact ⟨by rw [i4, e], by rw [i2, e]⟩
theorem dN_take {l : List Nat} {x j : Nat} (h : j < x) : dN (l.take x) j = dN l j := by
  unfold dN
  rw [List.getD_eq_getElem?_getD, List.getD_eq_getElem?_getD, List.getElem?_take_of_lt h]
theorem no_short {k : Nat} {L : List Nat} (h : L.length < 2) (n : Nat) : ¬ FrOk k L n := fun hf => by have := hf.two; omega
/-- Cut anywhere: behind the whole ones there is no record. -/
theorem cut_no {cs : Nat → Cm} {m k q : Nat} (hE : ∀ j, j < m → encE (cs j) = 0) (hk : k ≤ enN cs m) (hqk : enN cs q ≤ k) (hq : q ≤ m) (hmax : q = m ∨ k < enN cs (q + 1)) : (∃ t, (tpL cs m).take k = tpL cs q ++ t) ∧ ∀ n, ¬ FrOk q (((tpL cs m).take k).drop (enN cs q)) n := by
  obtain ⟨t, ht⟩ := tpL_pre cs hq
  have e : (tpL cs m).take k = tpL cs q ++ t.take (k - enN cs q) := by
    rw [ht, List.take_append, List.take_of_length_le hqk]
    rfl
  refine ⟨⟨_, e⟩, fun n hf => ?_⟩
  rw [e, show (tpL cs q ++ t.take (k - enN cs q)).drop (enN cs q) = t.take (k - enN cs q) from List.drop_left] at hf
  by_cases hm : q = m
  · subst hm
    have := hf.two
    rw [List.length_take] at this
    omega
  · have hlt : k < enN cs (q + 1) := by rcases hmax with h | h <;> omega
    obtain ⟨t', ht'⟩ := tpL_at cs (show q < m by omega)
    have et : t = recL q (encL (cs q)) ++ t' := List.append_cancel_left (ht.symm.trans ht')
    have h2 := hf.two
    have h3 := hf.len
    have h4 := hf.all
    rw [List.length_take] at h2 h4
    have hf0 := frOk_of (hE q (by omega)) q t'
    rw [getN_ext 2 (fun j hj => dN_take (show j < k - enN cs q by omega)), et, hf0.len] at h3
    rw [enN_succ] at hlt
    omega
end Go.Proofs.Ytjnnecoikcmaeaa

namespace Go.Proofs.Ytjnnecoikcmaeaa
set_option linter.unusedVariables false
set_option linter.unusedSimpArgs false
open Go.RowKit Go.Great

theorem dN_set_ne {l : List Nat} {p y j : Nat} (h : j ≠ p) : dN (l.set p y) j = dN l j := by
  unfold dN
  rw [List.getD_eq_getElem?_getD, List.getD_eq_getElem?_getD, List.getElem?_set_ne (Ne.symm h)]
theorem dN_set_eq {l : List Nat} {p y : Nat} (h : p < l.length) : dN (l.set p y) p = y := by
  unfold dN
  rw [List.getD_eq_getElem?_getD, List.getElem?_set_self h]
  rfl
theorem putTo4_inj {u v : Nat} (hu : u < 4294967296) (hv : v < 4294967296) (h : putTo u 4 4 = putTo v 4 4) : u = v := by
  have e := getN_put (dN (putTo u 4 4)) u 4 4 (Nat.le_refl _) (fun j hj => by simp [dN, putTo, List.getD_eq_getElem?_getD, hj])
  have f := getN_put (dN (putTo u 4 4)) v 4 4 (Nat.le_refl _) (fun j hj => by rw [h]; simp [dN, putTo, List.getD_eq_getElem?_getD, hj])
  rw [e] at f
  simp at f
  omega
theorem BB.set {l : List Nat} (h : BB l) {p y : Nat} (hy : y < 256) : BB (l.set p y) := fun x hx => by
  rcases List.mem_or_eq_of_mem_set hx with k | k
  · exact h x k
  · omega
theorem turn_no {c : Cm} (hE : encE c = 0) (hb : BB (encL c)) (k : Nat) {p y : Nat} (hp : p < 6 + (encL c).length) (hy : y < 256) (hne : y ≠ dN (recL k (encL c)) p) : ∀ n, ¬ FrOk k ((recL k (encL c)).set p y) n := by
  intro n hf
  obtain ⟨d0, hd0, _⟩ := dec_enc hE
  have hf0 := frOk_of hE k []
  rw [List.append_nil] at hf0
  have hL := recL_len k (encL c)
  have hbr := recL_bb k hb
  have hl2 : ((recL k (encL c)).set p y).length = 6 + (encL c).length := by rw [List.length_set, hL]
  have hall := hf.all
  rw [hl2] at hall
  have hde : ∃ d, dec (cmdL n ((recL k (encL c)).set p y)) = .ok d := by
    have := hf.dc
    cases hx : dec (cmdL n ((recL k (encL c)).set p y)) with
    | error e => rw [hx] at this; cases this
    | ok d => exact ⟨d, rfl⟩
  obtain ⟨d, hd⟩ := hde
  have hcm : cmdL n ((recL k (encL c)).set p y) = (((recL k (encL c)).set p y).drop 6).take n := by
    unfold cmdL
    rw [List.drop_take, Nat.add_sub_cancel_left]
  rw [hcm] at hd
  by_cases h2 : p < 2
  · rw [List.drop_set_of_lt (by omega), recL_drop] at hd
    by_cases hn : n = (encL c).length
    · have e1 := hf.len
      have e2 := hf0.len
      rw [hn, ← e2] at e1
      have b0 : dN ((recL k (encL c)).set p y) 0 < 256 := dN_bb (hbr.set hy) 0 (by rw [hl2]; omega)
      have b1 : dN ((recL k (encL c)).set p y) 1 < 256 := dN_bb (hbr.set hy) 1 (by rw [hl2]; omega)
      have b2 : dN (recL k (encL c)) 0 < 256 := dN_bb hbr 0 (by omega)
      have b3 : dN (recL k (encL c)) 1 < 256 := dN_bb hbr 1 (by omega)
      have b4 : dN ((recL k (encL c)).set p y) p = y := dN_set_eq (by omega)
      simp only [getN] at e1
      have : p = 0 ∨ p = 1 := by omega
      rcases this with rfl | rfl <;> omega
    · have hx : (encL c).take n ++ (encL c).drop n = encL c := List.take_append_drop _ _
      have := dec_pre (x := (encL c).drop n) (hb.take n) hd (by rw [hx]; exact hd0)
      have := congrArg List.length this
      rw [List.length_drop] at this
      simp at this
      omega
  · have hn : n = (encL c).length := by
      have e1 := hf.len
      rw [getN_ext 2 (fun j hj => dN_set_ne (show j ≠ p by omega)), hf0.len] at e1
      exact e1.symm
    have hrc := hf.rc
    rw [hcm, hn, List.take_of_length_le (by rw [hl2]; omega)] at hrc
    by_cases h6 : p < 6
    · rw [List.drop_set_of_lt (by omega), recL_drop, List.take_of_length_le (Nat.le_refl _)] at hrc
      have := dN_set_eq (l := recL k (encL c)) (p := p) (y := y) (by omega)
      rw [hrc] at this
      exact hne this.symm
    · obtain ⟨A, hA⟩ : ∃ A, A = putTo (encL c).length 2 2 := ⟨_, rfl⟩
      obtain ⟨j, hj⟩ : ∃ j, j = p - 6 := ⟨_, rfl⟩
      have hjl : j < (encL c).length := by omega
      have hAl : A.length = 2 := by rw [hA, putTo_length]
      have hset : ∀ B : List Nat, B.length = 4 → (A ++ B ++ encL c).set p y = A ++ B ++ (encL c).set j y := fun B hB => by
        rw [List.set_append_right _ _ (by rw [List.length_append]; omega), List.length_append, hAl, hB, hj]
      have hr1 : (recL k (encL c)).set p y = A ++ putTo (crcN (A ++ putTo k 4 4 ++ encL c)) 4 4 ++ (encL c).set j y := by
        unfold recL
        rw [← hA]
        exact hset _ (putTo_length _ _ _)
      have hd6 : ((recL k (encL c)).set p y).drop 6 = (encL c).set j y := by
        rw [hr1, show (6 : Nat) = (A ++ putTo (crcN (A ++ putTo k 4 4 ++ encL c)) 4 4).length by rw [List.length_append, hAl, putTo_length]]
        exact List.drop_left
      have hr2 : recL k ((encL c).set j y) = A ++ putTo (crcN (A ++ putTo k 4 4 ++ (encL c).set j y)) 4 4 ++ (encL c).set j y := by
        unfold recL
        rw [List.length_set, ← hA]
      rw [hd6, List.take_of_length_le (by rw [List.length_set]; exact Nat.le_refl _), hr1, hr2] at hrc
      have hAB : BB A := by rw [hA]; exact putTo_bb _ _ _
      have hX : BB (A ++ putTo k 4 4 ++ encL c) := (hAB.app (putTo_bb _ _ _)).app hb
      have hY : BB (A ++ putTo k 4 4 ++ (encL c).set j y) := (hAB.app (putTo_bb _ _ _)).app (hb.set hy)
      have h1 := List.append_cancel_right hrc
      have h2 := putTo4_inj (crcN_lt hX) (crcN_lt hY) (List.append_cancel_left h1)
      have hsY : A ++ putTo k 4 4 ++ (encL c).set j y = (A ++ putTo k 4 4 ++ encL c).set p y := (hset _ (putTo_length _ _ _)).symm
      have hlX : (A ++ putTo k 4 4 ++ encL c).length = 6 + (encL c).length := by rw [List.length_append, List.length_append, hAl, putTo_length]
      have hyX : dN (A ++ putTo k 4 4 ++ encL c) p ≠ y := by
        have e1 : dN (recL k (encL c)) p = dN (encL c) j := by
          unfold dN
          rw [List.getD_eq_getElem?_getD, List.getD_eq_getElem?_getD]
          unfold recL
          rw [← hA, List.getElem?_append_right (by rw [List.length_append, hAl, putTo_length]; omega), List.length_append, hAl, putTo_length, hj]
        have e2 : dN (A ++ putTo k 4 4 ++ encL c) p = dN (encL c) j := by
          unfold dN
          rw [List.getD_eq_getElem?_getD, List.getD_eq_getElem?_getD]
          rw [List.getElem?_append_right (by rw [List.length_append, hAl, putTo_length]; omega), List.length_append, hAl, putTo_length, hj]
        rw [e2, ← e1]
        exact fun h => hne h.symm
      unfold crcN at h2
      rw [hsY, List.length_set] at h2
      refine crc_tells_one (d := dN (A ++ putTo k 4 4 ++ encL c)) (f := dN ((A ++ putTo k 4 4 ++ encL c).set p y)) (p := p) (n := (A ++ putTo k 4 4 ++ encL c).length) (by omega) (fun i hi => ⟨dN_bb hX i hi, ?_⟩) (fun i hi hne => (dN_set_ne hne).symm) (by rw [dN_set_eq (by omega)]; exact hyX) (crcEnd_inj h2)
      rw [hsY] at hY
      exact dN_bb hY i (by rw [List.length_set]; exact hi)
end Go.Proofs.Ytjnnecoikcmaeaa

namespace Go.Proofs.Ytjnnecoikcmaeaa
set_option linter.unusedVariables false
set_option linter.unusedSimpArgs false
open Go.RowKit Go.Great

def cmC (c : Cm) : List Value := c.cs.toList
theorem cmC_len (c : Cm) : (cmC c).length = 25 := rfl
theorem Cm.one (c : Cm) : c.cs.all (·.oneCell') = true := by kernel_rfl
theorem cmC_one (c : Cm) : ∀ u ∈ cmC c, u.oneCell' = true := fun u hu => Array.all_eq_true_iff_forall_mem.1 c.one u (by simpa [cmC] using hu)
theorem infoC : (Try.prog.info? 27).map (fun i => (i.zero, i.size, i.bytes)) = some (some (.agg zeroC.cs), 25, 240) := by kernel_rfl
def SrcC (w : World) (a : Option Addr) (n : Nat) (t : Nat → Cm) : Prop := n = 0 ∨ ∃ b off, a = some ⟨b, off, none⟩ ∧ ∀ j, j < n → w.rangeAt b (off + j * 25) (t j).cs.toList ∧ (t j).ok
theorem SrcC.below {w w' : World} {a : Option Addr} {n : Nat} {t : Nat → Cm} (h : SrcC w a n t) (hb : Below w.heap.size w w') : SrcC w' a n t := by
  rcases h with h | ⟨b, off, e, h⟩
  · exact .inl h
  · refine .inr ⟨b, off, e, fun j hj => ⟨fun i v hv => ?_, (h j hj).2⟩⟩
    have hc := (h j hj).1 i v hv
    exact (hb.cell (p := ⟨b, _, none⟩) (World.block_lt_of_cell? _ _ hc)).trans hc
theorem ixC_run {op : Oper} {a : Act} {g o n c i : Nat} (x y : Operand) (ho : op.op = .indexAddr 38 x y) (hx : a.eval x = .slice (some ⟨g, o, none⟩) n c) (hy : a.eval y = .int .i64 (i : Int)) (hi : i < n) (w : World) : (execOp a.eval op).run Try.prog w = .ok (.value (.pointer (some ⟨g, o + i * 25, none⟩))) w := by
  have h1 : (i : Int) < (n : Int) := by omega
  have h2 : ¬ (n : Int) ≤ (i : Int) := by omega
  unfold execOp
  simp only [ho, hx, hy]
  go_simp
theorem ixI_run {op : Oper} {a : Act} {g o n c i : Nat} (x y : Operand) (ho : op.op = .indexAddr 41 x y) (hx : a.eval x = .slice (some ⟨g, o, none⟩) n c) (hy : a.eval y = .int .i64 (i : Int)) (hi : i < n) (w : World) : (execOp a.eval op).run Try.prog w = .ok (.value (.pointer (some ⟨g, o + i, none⟩))) w := by
  have h1 : (i : Int) < (n : Int) := by omega
  have h2 : ¬ (n : Int) ≤ (i : Int) := by omega
  unfold execOp
  simp only [ho, hx, hy]
  go_simp
theorem ldC_run {op : Oper} {a : Act} {w : World} {g o : Nat} {c : Cm} (h : w.rangeAt g o c.cs.toList) (x : Operand) (ho : op.op = .load 27 x) (hx : a.eval x = .pointer (some ⟨g, o, none⟩)) : (execOp a.eval op).run Try.prog w = .ok (.value (.agg c.cs)) w := by
  have hl := run_loadVar_mid (P := Try.prog) w g o 27 c.cs.toList _ h Try.underlying27 rfl (by rw [Array.length_toList, Cm.cs_size]; kernel_rfl)
  unfold execOp
  simp only [ho, hx, Instr.loadAt, Instr.sureAddr, Sem.run_bind, Sem.run_pure, Result.andThen_ok, hl]
theorem row_cmd {w : World} {v : Value} {m : Nat} {L : List Cm} (h : RowAt w 27 25 v m (flatL cmC L)) {g off cap : Nat} (hv : v = .slice (some ⟨g, off, none⟩) m cap) {j : Nat} {c : Cm} (hj : L[j]? = some c) : w.rangeAt g (off + j * 25) c.cs.toList := fun i u hu => by
  have hi : i < 25 := (List.getElem?_eq_some_iff.1 hu).1
  have := h.cell hv (j := j * 25 + i) (u := u) (by rw [flatL_get cmC_len hj hi]; exact hu)
  rw [Nat.add_assoc]
  exact this
theorem row_int {w : World} {v : Value} {m : Nat} {L : List Nat} (h : RowAt w 3 1 v m (flatL intC L)) {g off cap : Nat} (hv : v = .slice (some ⟨g, off, none⟩) m cap) {j x : Nat} (hj : L[j]? = some x) : w.cell? ⟨g, off + j, none⟩ = some (.int .i64 (x : Int)) := by
  have := h.cell hv (j := j * 1 + 0) (u := .int .i64 (x : Int)) (by rw [flatL_get intC_len hj (by decide)]; rfl)
  simpa using this
/-- Where the law's first loop stands. -/
structure CA (w W : World) (t : Tp) (av ev : Value) (cs : Nat → Cm) (mt ma me : Nat) : Prop where
  bel : Below w.heap.size w W
  tp : TpAt W t
  tl : t.l = tpL cs mt
  te : t.es = ensL cs mt
  low : ∀ b, t.own b → w.heap.size ≤ b
  al : RowAt W 27 25 av ma (flatL cmC ((List.range ma).map cs))
  en : RowAt W 3 1 ev me (flatL intC (ensL cs me))
  alow : ∀ q, av.ownBlock = some q → w.heap.size ≤ q ∧ ¬ t.own q
  elow : ∀ q, ev.ownBlock = some q → w.heap.size ≤ q ∧ ¬ t.own q
  ha : ma ≤ mt
  he : me ≤ mt
  hE : ∀ j, j < mt → encE (cs j) = 0 ∧ (cs j).ok
def updC (cs : Nat → Cm) (m : Nat) (c : Cm) : Nat → Cm := fun j => if j = m then c else cs j
theorem updC_lt (cs : Nat → Cm) (c : Cm) {m j : Nat} (h : j < m) : updC cs m c j = cs j := if_neg (by omega)
theorem updC_eq (cs : Nat → Cm) (c : Cm) (m : Nat) : updC cs m c m = c := if_pos rfl
section
variable {w W W' : World} {t : Tp} {av ev : Value} {cs : Nat → Cm} {mt ma me : Nat}
theorem CA.below (h : CA w W t av ev cs mt ma me) (hb : Below W.heap.size W W') : CA w W' t av ev cs mt ma me :=
  ⟨below_step h.bel hb, h.tp.below hb, h.tl, h.te, h.low, h.al.fr (Fr.of_below hb (fun _ => False)) fun _ _ => id, h.en.fr (Fr.of_below hb (fun _ => False)) fun _ _ => id, h.alow, h.elow, h.ha, h.he, h.hE⟩
theorem below_fr {ex : Nat → Prop} (hb : Below w.heap.size w W) (hf : Fr W W' ex) (hn : ∀ b, ex b → w.heap.size ≤ b) : Below w.heap.size w W' :=
  ⟨hf.os.trans hb.os, hf.tape.trans hb.tape, hf.output.trans hb.output, Nat.le_trans hb.size hf.size, fun q hq => (hf.block q (Nat.lt_of_lt_of_le hq hb.size) (fun e => by have := hn q e; omega)).trans (hb.block q hq)⟩
theorem CA.len (h : CA w W t av ev cs mt ma me) : t.es.length = mt := by rw [h.te, ensL_len]
theorem CA.app (h : CA w W t av ev cs mt ma me) {c : Cm} (hc : c.ok) (hz : encE c = 0) {wv ev' : Value} (ht : TpAt W' (t.more (recL t.es.length (encL c)) wv ev')) (hf : Fr W W' t.own) (ho : ∀ b, (t.more (recL t.es.length (encL c)) wv ev').own b → t.own b ∨ W.heap.size ≤ b) : CA w W' (t.more (recL t.es.length (encL c)) wv ev') av ev (updC cs mt c) (mt + 1) ma me := by
  have hcs : ∀ j, j < mt → cs j = updC cs mt c j := fun j hj => (updC_lt cs c hj).symm
  have h1 : tpL (updC cs mt c) (mt + 1) = tpL cs mt ++ recL mt (encL c) := by
    show tpL (updC cs mt c) mt ++ recL mt (encL (updC cs mt c mt)) = _
    rw [updC_eq, ← tpL_ext mt hcs]
  have hltw := h.bel.size
  refine ⟨below_fr h.bel hf h.low, ht, ?_, ?_, fun b hb => ?_, ?_, ?_, fun q hq => ⟨(h.alow q hq).1, fun e => ?_⟩, fun q hq => ⟨(h.elow q hq).1, fun e => ?_⟩, by have := h.ha; omega, by have := h.he; omega, fun j hj => ?_⟩
  · show t.l ++ recL t.es.length (encL c) = _
    rw [h1, h.len, h.tl]
  · show t.es ++ [t.l.length + (recL t.es.length (encL c)).length] = _
    rw [ensL_succ, ← ensL_ext hcs, h.te, ensL_len, h.tl]
    congr 2
    unfold enN
    rw [h1, List.length_append]
  · rcases ho b hb with e | e
    · exact h.low b e
    · omega
  · have := h.al.fr hf fun q hq => (h.alow q hq).2
    rw [show (List.range ma).map (updC cs mt c) = (List.range ma).map cs from List.map_congr_left fun j hj => updC_lt cs c (by have := List.mem_range.1 hj; have := h.ha; omega)]
    exact this
  · have := h.en.fr hf fun q hq => (h.elow q hq).2
    rw [← ensL_ext (m := me) fun j hj => hcs j (by have := h.he; omega)]
    exact this
  · rcases ho q e with e | e
    · exact (h.alow q hq).2 e
    · have := (h.al.lt hq).1; omega
  · rcases ho q e with e | e
    · exact (h.elow q hq).2 e
    · have := (h.en.lt hq).1; omega
  · by_cases e : j = mt
    · rw [e, updC_eq]; exact ⟨hz, hc⟩
    · rw [updC_lt cs c (by omega)]; exact h.hE j (by omega)
theorem CA.all (h : CA w W t av ev cs mt ma me) (hm : ma < mt) (hs : mt ≤ 1000) {zb : Nat} (hc : W.rangeAt zb 0 (cs ma).cs.toList) (ty : TypeId) : ∃ v' W', (Builtin.append_ #[38, 38] ty #[av, .slice (some ⟨zb, 0, none⟩) 1 1]).run Try.prog W = .ok v' W' ∧ CA w W' t v' ev cs mt (ma + 1) me := by
  obtain ⟨i0, hi, hz0, hz1, hz2⟩ := info_parts infoC
  have hmx : 100000000000 ≤ maxLen := by decide
  obtain ⟨v', W', k1, k2, k3, k4⟩ := run_append_row (P := Try.prog) W 38 ty 27 i0 _ 25 240 Try.underlying38 hi hz0 hz1 hz2 (by rw [Value.cells]; exact zeroC.cs_size) av ma _ h.al ⟨zb, 0, none⟩ 1 1 (cmC (cs ma)) (by rw [cmC_len]) (fun j x hj => by
    rw [Addr.add_mid]
    exact hc j x hj) (cmC_one _) (.inl (by decide)) (by omega) (by omega)
  refine ⟨v', W', k1, ⟨below_fr h.bel k3 fun b e => (h.alow b e).1, h.tp.fr k3 fun b hb e => (h.alow b e).2 hb, h.tl, h.te, h.low, ?_, h.en.fr k3 fun q hq e => ?_, fun q hq => ?_, h.elow, hm, h.he, h.hE⟩⟩
  · rw [List.range_succ, List.map_append, flatL_app]
    show RowAt _ _ _ _ _ (_ ++ flatL cmC [cs ma])
    rw [flatL_one]
    exact k2
  · obtain ⟨_, c1, e1⟩ := h.al.lt e
    exact h.en.ne_type e1 (by decide) hq
  · rcases k4 with k4 | ⟨k4, _⟩
    · exact h.alow q (k4 ▸ hq)
    · rw [k4] at hq
      injection hq with hq
      exact ⟨by have := h.bel.size; omega, fun e => by have := h.tp.ltO e; omega⟩
theorem CA.ends (h : CA w W t av ev cs mt ma me) (hm : me < mt) (hs : mt ≤ 1000) {zb : Nat} (hc : W.cell? ⟨zb, 0, none⟩ = some (.int .i64 ((enN cs (me + 1) : Nat) : Int))) (ty : TypeId) : ∃ v' W', (Builtin.append_ #[41, 41] ty #[ev, .slice (some ⟨zb, 0, none⟩) 1 1]).run Try.prog W = .ok v' W' ∧ CA w W' t av v' cs mt ma (me + 1) := by
  obtain ⟨i0, hi, hz0, hz1, hz2⟩ := info_parts info3
  have hmx : 100000000000 ≤ maxLen := by decide
  obtain ⟨v', W', k1, k2, k3, k4⟩ := run_append_row (P := Try.prog) W 41 ty 3 i0 _ 1 8 Try.underlying41 hi hz0 hz1 hz2 rfl ev me _ h.en ⟨zb, 0, none⟩ 1 1 (intC (enN cs (me + 1))) rfl (fun j x hj => by
    rw [Addr.add_mid]
    cases j with
    | zero =>
      have e : .int .i64 ((enN cs (me + 1) : Nat) : Int) = x := by simpa [intC] using hj
      subst e; exact hc
    | succ j => simp [intC] at hj) (fun u hu => by
    have : u = .int .i64 ((enN cs (me + 1) : Nat) : Int) := by simpa [intC] using hu
    rw [this]; rfl) (.inl (by decide)) (by omega) (by omega)
  refine ⟨v', W', k1, ⟨below_fr h.bel k3 fun b e => (h.elow b e).1, h.tp.fr k3 fun b hb e => (h.elow b e).2 hb, h.tl, h.te, h.low, h.al.fr k3 fun q hq e => ?_, ?_, h.alow, fun q hq => ?_, h.ha, hm, h.hE⟩⟩
  · obtain ⟨_, c1, e1⟩ := h.en.lt e
    exact h.al.ne_type e1 (by decide) hq
  · rw [ensL_succ, flatL_app, flatL_one]
    exact k2
  · rcases k4 with k4 | ⟨k4, _⟩
    · exact h.elow q (k4 ▸ hq)
    · rw [k4] at hq
      injection hq with hq
      exact ⟨by have := h.bel.size; omega, fun e => by have := h.tp.ltO e; omega⟩
end
/-- Behind it: the commands, where they end, the bytes, all in blocks below B. -/
structure CB (w W : World) (B : Nat) (av ev bv : Value) (cs : Nat → Cm) (m : Nat) : Prop where
  bel : Below w.heap.size w W
  al : RowAt W 27 25 av m (flatL cmC ((List.range m).map cs))
  en : RowAt W 3 1 ev m (flatL intC (ensL cs m))
  by' : By W bv (tpL cs m)
  alow : ∀ q, av.ownBlock = some q → q < B
  elow : ∀ q, ev.ownBlock = some q → q < B
  blow : ∀ q, bv.ownBlock = some q → q < B
  wB : w.heap.size ≤ B
  BW : B ≤ W.heap.size
  hE : ∀ j, j < m → encE (cs j) = 0 ∧ (cs j).ok
section
variable {w W W' : World} {B : Nat} {av ev bv : Value} {cs : Nat → Cm} {m : Nat}
theorem CB.fr {ex : Nat → Prop} (h : CB w W B av ev bv cs m) (hf : Fr W W' ex) (hn : ∀ b, ex b → B ≤ b) : CB w W' B av ev bv cs m :=
  ⟨below_fr h.bel hf fun b e => Nat.le_trans h.wB (hn b e), h.al.fr hf fun q hq e => by have := h.alow q hq; have := hn q e; omega, h.en.fr hf fun q hq e => by have := h.elow q hq; have := hn q e; omega, h.by'.fr hf fun q hq e => by have := h.blow q hq; have := hn q e; omega, h.alow, h.elow, h.blow, h.wB, Nat.le_trans h.BW hf.size, h.hE⟩
theorem CB.below (h : CB w W B av ev bv cs m) (hb : Below W.heap.size W W') : CB w W' B av ev bv cs m := h.fr (Fr.of_below hb (fun _ => False)) fun _ => False.elim
theorem CA.bytes {t : Tp} (h : CA w W t av ev cs m m m) (hr : RowB W W' bv t.l) : CB w W' W'.heap.size av ev bv cs m := by
  have h1 := h.below hr.bel
  refine ⟨h1.bel, h1.al, h1.en, by have := hr.by'; rw [h.tl] at this; exact this, fun q hq => (h1.al.lt hq).1, fun q hq => (h1.en.lt hq).1, fun q hq => (hr.row.lt hq).1, h1.bel.size, Nat.le_refl _, h.hE⟩
theorem CB.bd (h : CB w W B av ev bv cs m) (hm : m ≤ 60) : enN cs m ≤ 40000 := by
  have := enN_bd (m := m) fun j hj => (h.hE j hj).1
  omega
end
/-- And a tape that has the first i of them. -/
structure CO (w W : World) (B : Nat) (av ev bv : Value) (cs : Nat → Cm) (m : Nat) (o : Tp) (i : Nat) : Prop where
  cb : CB w W B av ev bv cs m
  tp : TpAt W o
  ol : o.l = tpL cs i
  oe : o.es = ensL cs i
  own : ∀ b, o.own b → B ≤ b
  im : i ≤ m
section
variable {w W W' : World} {B : Nat} {av ev bv : Value} {cs : Nat → Cm} {m i : Nat} {o : Tp}
theorem CO.below (h : CO w W B av ev bv cs m o i) (hb : Below W.heap.size W W') : CO w W' B av ev bv cs m o i := ⟨h.cb.below hb, h.tp.below hb, h.ol, h.oe, h.own, h.im⟩
theorem CO.len (h : CO w W B av ev bv cs m o i) : o.es.length = i := by rw [h.oe, ensL_len]
theorem CO.app (h : CO w W B av ev bv cs m o i) (hi : i < m) {wv ev' : Value} (ht : TpAt W' (o.more (recL o.es.length (encL (cs i))) wv ev')) (hf : Fr W W' o.own) (ho : ∀ b, (o.more (recL o.es.length (encL (cs i))) wv ev').own b → o.own b ∨ W.heap.size ≤ b) : CO w W' B av ev bv cs m (o.more (recL o.es.length (encL (cs i))) wv ev') (i + 1) := by
  refine ⟨h.cb.fr hf h.own, ht, ?_, ?_, fun b hb => ?_, hi⟩
  · show o.l ++ recL o.es.length (encL (cs i)) = tpL cs i ++ recL i (encL (cs i))
    rw [h.len, h.ol]
  · show o.es ++ [o.l.length + (recL o.es.length (encL (cs i))).length] = _
    rw [ensL_succ, h.oe, ensL_len, h.ol, recL_len]
    congr 2
    exact (enN_succ cs i).symm
  · rcases ho b hb with e | e
    · exact h.own b e
    · exact Nat.le_trans h.cb.BW e
theorem begE_ens (cs : Nat → Cm) {i j : Nat} (hj : j < i) : begE (ensL cs i) j = enN cs j := by
  unfold begE
  cases j with
  | zero => rfl
  | succ j =>
    rw [if_neg (by omega), Nat.add_sub_cancel, List.getD_eq_getElem?_getD, ensL_get cs (by omega)]
    rfl
theorem CO.cmd (h : CO w W B av ev bv cs m o i) (hm : m ≤ 60) {j : Nat} (hj : j < i) : Calls Try.prog 16 #[.pointer (some ⟨o.g, 0, none⟩), .int .i64 (j : Int)] W fun e w' => e = .returned (.tuple #[.agg (cs j).cs, .int .i64 0]) ∧ Hid (Below W.heap.size W w') := by
  have him := h.im
  have hE := (h.cb.hE j (by omega)).1
  have hbd := h.cb.bd hm
  have hle := enN_le cs (j := i) (m := m) him
  have hlj := enN_le cs (j := j + 1) (m := i) (by omega)
  have hs := enN_succ cs j
  have hel := encL_len hE
  have hlen : o.l.length = enN cs i := by rw [h.ol]; rfl
  obtain ⟨d, hd, hdc⟩ := dec_enc hE
  have := Command_yes h.tp j (enN cs (j + 1)) (by rw [h.oe]; exact ensL_get cs hj) (by rw [h.oe, begE_ens cs hj]; omega) (by rw [hlen]; exact hlj) (by omega) (by rw [h.len]; omega) (by rw [h.oe, begE_ens cs hj]; omega) d (by
    rw [h.oe, begE_ens cs hj, h.ol]
    obtain ⟨t', ht⟩ := drop_at (cs := cs) (L := tpL cs i) (t := []) (q := i) (by rw [List.append_nil]) hj
    rw [ht, List.take_append_of_le_length (by rw [recL_len]; omega), List.take_of_length_le (by rw [recL_len]; omega), recL_drop]
    exact hd)
  rw [hdc] at this
  exact this
theorem exists_q (cs : Nat → Cm) {k : Nat} (hk : 4 ≤ k) : ∀ m, ∃ q, q ≤ m ∧ enN cs q ≤ k ∧ (q = m ∨ k < enN cs (q + 1))
  | 0 => ⟨0, Nat.le_refl _, by rw [enN_zero]; exact hk, .inl rfl⟩
  | m + 1 => by
    obtain ⟨q, h1, h2, h3⟩ := exists_q cs hk m
    rcases h3 with e | h3
    · subst e
      by_cases h : k < enN cs (q + 1)
      · exact ⟨q, by omega, h2, .inr h⟩
      · exact ⟨q + 1, Nat.le_refl _, by omega, .inl rfl⟩
    · exact ⟨q, by omega, h2, .inr h3⟩
/-- What Open finds of the bytes up to k. -/
theorem CB.open (h : CB w W B av ev bv cs m) (hm : m ≤ 60) {k q : Nat} (hk : k ≤ enN cs m) (hq : q ≤ m) (hqk : enN cs q ≤ k) (hmax : q = m ∨ k < enN cs (q + 1)) {e : Ending} (hr : OpR W ((tpL cs m).take k) e W') : ∃ o : Tp, e = .returned (.tuple #[.pointer (some ⟨o.g, 0, none⟩), .int .i64 ((enN cs q : Nat) : Int), .int .i64 0]) ∧ CO w W' B av ev bv cs m o q := by
  obtain ⟨o, p, he, hx⟩ := hr
  obtain ⟨h1, h2, h3, h4, h5, h6, h7, h8⟩ := hx.out
  have hE : ∀ j, j < m → encE (cs j) = 0 := fun j hj => (h.hE j hj).1
  obtain ⟨⟨t, ht⟩, hno⟩ := cut_no hE hk hqk hq hmax
  obtain ⟨g1, g2⟩ := open_gen ht (fun j hj => hE j (by omega)) hno (by omega) h3 h6
  subst g2
  refine ⟨o, he, h.below h7, h1, ?_, g1, fun b hb => Nat.le_trans h.BW (h8 b hb), hq⟩
  rw [h2, ht]
  exact List.take_left
end
set_option maxRecDepth 100000 in
theorem Open_short {w : World} {v : Value} {l : List Nat} (h : By w v l) (hl : l.length < 4) : Calls Try.prog 14 #[v] w fun e w' => e = .returned (.tuple #[.pointer none, .int .i64 0, .int .i64 180]) ∧ w' = w := by
  obtain ⟨va, vc, rfl, hvc⟩ := h.form
  have hl' : (l.length : Int) < 4 := by omega
  clear h
  generalize l.length = n at *
  go_enter Try.func14, Try.ntmps14
  go_wp2
  go_ret3
  exact ⟨rfl, rfl⟩
end Go.Proofs.Ytjnnecoikcmaeaa
