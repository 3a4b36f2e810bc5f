/-
  tape: a command written is read back, and the other way (plain).
-/
import Derived.Test.YtjnnecoikcmaeaaTP7
namespace Go.Proofs.Ytjnnecoikcmaeaa
set_option linter.unusedVariables false
set_option linter.unusedSimpArgs false
open Go.RowKit Go.Great

theorem dN_app {a r : List Nat} {j : Nat} (h : j < a.length) : dN (a ++ r) j = a.getD j 0 := by
  simp [dN, List.getD_eq_getElem?_getD, List.getElem?_append_left h]
theorem rn_of {l r : List Nat} {a : Nat} {z lo hi : Int} (hl : l.drop a = varL (foldN z) ++ r) (h0 : lo ≤ z) (h1 : z ≤ hi) (hz0 : -9223372036854775808 ≤ z) (hz1 : z ≤ 9223372036854775807) : rn l a lo hi = some (z, a + (varL (foldN z)).length) := by
  have hlen : l.length - a = (varL (foldN z)).length + r.length := by
    have := congrArg List.length hl
    rw [List.length_drop, List.length_append] at this
    exact this
  unfold rn
  rw [gvr_of_var _ _ (foldN z) (foldN_lt hz0 hz1) (fun j hj => by rw [hl]; exact dN_app hj) (by omega)]
  simp only [unf_fold]
  rw [if_pos ⟨h0, h1⟩]
theorem of_rn {l : List Nat} {a b : Nat} {z lo hi : Int} (hb : BB l) (h : rn l a lo hi = some (z, b)) : l.drop a = varL (foldN z) ++ l.drop b ∧ lo ≤ z ∧ z ≤ hi ∧ a < b ∧ b ≤ l.length := by
  have hbd := rn_bd hb h
  unfold rn at h
  cases hg : gvr (dN (l.drop a)) (l.length - a) with
  | none => rw [hg] at h; cases h
  | some p =>
    obtain ⟨u, k⟩ := p
    rw [hg] at h
    simp only at h
    split at h
    · injection h with h
      injection h with e1 e2
      have hv := var_of_gvr _ _ u k (fun j hj => by
        have hj' : j < (l.drop a).length := by rw [List.length_drop]; exact hj
        rw [dN_at hj']
        exact (hb.drop a) _ (List.getElem_mem hj')) hg
      obtain ⟨_, hk0, hkn, _, hvl⟩ := hv
      have ht : varL u = (l.drop a).take k := by
        rw [hvl]
        have := rowL_dN (l.drop a)
        apply List.ext_getElem?
        intro j
        by_cases hj : j < k
        · have hj' : j < (l.drop a).length := by rw [List.length_drop]; omega
          rw [List.getElem?_take_of_lt hj, List.getElem?_map, List.getElem?_range hj, Option.map_some, dN_at hj', List.getElem?_eq_getElem hj']
        · rw [List.getElem?_eq_none (by simp; omega), List.getElem?_eq_none (by rw [List.length_take]; omega)]
      refine ⟨?_, hbd⟩
      rw [← e1, fold_unf, ht, ← e2, ← List.drop_drop, List.take_append_drop]
    · cases h
/-- Bits of the mask. -/
theorem mkU_bit (c : Cm) (i : Nat) : ∀ n, i < n → mkU c n / 2 ^ i % 2 = if pZer c i then 0 else 1
  | 0, h => by omega
  | n + 1, h => by
    simp only [mkU]
    by_cases e : i = n
    · subst e
      have := mkU_lt c i
      split
      · rw [Nat.add_zero, Nat.div_eq_of_lt this]
      · rw [Nat.add_div_right _ (Nat.pow_pos (by decide)), Nat.div_eq_of_lt this]
    · have ih := mkU_bit c i n (by omega)
      by_cases hz : pZer c n = true
      · rw [if_pos hz, Nat.add_zero]; exact ih
      · rw [if_neg hz]
        have e2 : 2 ^ n = 2 ^ i * (2 * 2 ^ (n - i - 1)) := by
          rw [← Nat.pow_succ', ← Nat.pow_add]
          congr 1; omega
        rw [e2, Nat.add_mul_div_left _ _ (Nat.pow_pos (by decide)), Nat.add_mul_mod_self_left]
        exact ih
theorem vlU_pre (c : Cm) (i : Nat) : ∀ n, i ≤ n → ∃ t, vlU c n = vlU c i ++ t
  | 0, h => ⟨[], by rw [show i = 0 by omega, List.append_nil]⟩
  | n + 1, h => by
    by_cases e : i = n + 1
    · exact ⟨[], by rw [e, List.append_nil]⟩
    · obtain ⟨t, ht⟩ := vlU_pre c i n (by omega)
      exact ⟨t ++ if pZer c n then [] else pBy c n, by simp only [vlU]; rw [ht, List.append_assoc]⟩
/-- What the first parts of a command are. -/
structure Upto (c d : Cm) (i : Nat) : Prop where
  n1 : ∀ j, j < i → isT j = false → d.n j = c.n j
  s1 : ∀ j, j < i → isT j = true → d.s j = c.s j
  n0 : ∀ j, i ≤ j → d.n j = 0
  s0 : ∀ j, i ≤ j → d.s j = ⟨#[]⟩
theorem ba_nil {s : ByteArray} (h : s.size = 0) : s = ⟨#[]⟩ := by
  cases s with | mk d => exact congrArg ByteArray.mk (Array.eq_empty_of_size_eq_zero h)
theorem rdU_of (c : Cm) (hm : allM c 24 = true) (l : List Nat) (at0 : Nat) (hl : l.drop at0 = vlU c 24) : ∀ i, i ≤ 24 → ∃ d, rdU l (mkU c 24) at0 { zeroC with k := c.k } i = .ok (at0 + (vlU c i).length, d) ∧ d.k = c.k ∧ Upto c d i
  | 0, _ => ⟨_, rfl, rfl, fun j hj => by omega, fun j hj => by omega, fun j _ => rfl, fun j _ => rfl⟩
  | i + 1, h => by
    obtain ⟨d, h1, h2, h3⟩ := rdU_of c hm l at0 hl i (by omega)
    have hb := mkU_bit c i 24 (by omega)
    have hmi := allM_lt hm i (by omega)
    simp only [rdU]
    rw [h1]
    simp only
    rw [hb]
    cases hz : pZer c i with
    | true =>
      rw [if_pos rfl]
      refine ⟨d, by simp only [if_pos, vlU, hz, List.append_nil], h2, fun j hj ht => ?_, fun j hj ht => ?_, fun j hj => h3.n0 j (by omega), fun j hj => h3.s0 j (by omega)⟩
      · by_cases e : j = i
        · subst e
          unfold pZer at hz
          rw [ht] at hz
          rw [h3.n0 j (Nat.le_refl _)]
          exact (of_decide_eq_true hz).symm
        · exact h3.n1 j (by omega) ht
      · by_cases e : j = i
        · subst e
          unfold pZer at hz
          rw [ht] at hz
          rw [h3.s0 j (Nat.le_refl _), ba_nil (of_decide_eq_true hz)]
        · exact h3.s1 j (by omega) ht
    | false =>
      obtain ⟨t, ht⟩ := vlU_pre c (i + 1) 24 (by omega)
      have hv : vlU c (i + 1) = vlU c i ++ pBy c i := by simp only [vlU]; rw [hz]; rfl
      have hd : l.drop (at0 + (vlU c i).length) = pBy c i ++ t := by
        rw [← List.drop_drop, hl, ht, hv, List.append_assoc, List.drop_append_of_le_length (Nat.le_refl _), List.drop_length, List.nil_append]
      have hlen : l.length - at0 = (vlU c i).length + ((pBy c i).length + t.length) := by
        have := congrArg List.length hl
        rw [List.length_drop, ht, hv, List.length_append, List.length_append] at this
        omega
      rw [hv, List.length_append]
      cases hT : isT i with
      | true =>
        have hs : pBy c i = varL (foldN ((c.s i).size : Int)) ++ sB (c.s i) := by unfold pBy; rw [hT]; rfl
        unfold pMay at hmi
        unfold pZer at hz
        rw [hT] at hmi hz
        have x1 := of_decide_eq_true hmi
        have x2 := of_decide_eq_false hz
        rw [hs, List.append_assoc] at hd
        have hr := rn_of (lo := 1) (hi := 60) hd (by omega) (by omega) (by omega) (by omega)
        have hrt : rt l (at0 + (vlU c i).length) = .ok (at0 + (vlU c i).length + (varL (foldN ((c.s i).size : Int))).length + (c.s i).size, sB (c.s i)) := by
          unfold rt
          rw [hr]
          simp only [Int.toNat_natCast]
          have : (pBy c i).length = (varL (foldN ((c.s i).size : Int))).length + (c.s i).size := by rw [hs, List.length_append, sB_len]
          rw [if_pos (by omega)]
          rw [← List.drop_drop, hd, List.drop_append_of_le_length (Nat.le_refl _), List.drop_length, List.nil_append]
          rw [List.take_append_of_le_length (by rw [sB_len]; exact Nat.le_refl _), List.take_of_length_le (by rw [sB_len]; exact Nat.le_refl _)]
        refine ⟨d.setS i (c.s i), ?_, h2, fun j hj ht' => ?_, fun j hj ht' => ?_, fun j hj => h3.n0 j (by omega), fun j hj => ?_⟩
        · rw [if_neg (by simp)]
          unfold rdF
          rw [hT, if_pos rfl, hrt]
          simp only [ofN_sB]
          rw [hs, List.length_append, sB_len]
          simp only [Nat.add_assoc]
        · by_cases e : j = i
          · subst e; rw [hT] at ht'; cases ht'
          · exact h3.n1 j (by omega) ht'
        · by_cases e : j = i
          · subst e; show (if j = j then _ else _) = _; rw [if_pos rfl]
          · show (if j = i then _ else _) = _; rw [if_neg e]; exact h3.s1 j (by omega) ht'
        · show (if j = i then _ else _) = _; rw [if_neg (by omega)]; exact h3.s0 j (by omega)
      | false =>
        have hs : pBy c i = varL (foldN (c.n i)) := by unfold pBy; rw [hT]; rfl
        unfold pMay mbZ at hmi
        unfold pZer at hz
        rw [hT] at hmi hz
        have x1 := of_decide_eq_true hmi
        have x2 := of_decide_eq_false hz
        rw [hs] at hd
        have hr := rn_of (lo := 1) (hi := 1000000000000000000) hd (by omega) (by omega) (by omega) (by omega)
        refine ⟨d.setN i (c.n i), ?_, h2, fun j hj ht' => ?_, fun j hj ht' => ?_, fun j hj => ?_, fun j hj => h3.s0 j (by omega)⟩
        · rw [if_neg (by simp)]
          unfold rdF
          rw [hT, if_neg (by simp), hr]
          simp only
          rw [hs, Nat.add_assoc]
        · by_cases e : j = i
          · subst e; show (if j = j then _ else _) = _; rw [if_pos rfl]
          · show (if j = i then _ else _) = _; rw [if_neg e]; exact h3.n1 j (by omega) ht'
        · by_cases e : j = i
          · subst e; rw [hT] at ht'; cases ht'
          · exact h3.s1 j (by omega) ht'
        · show (if j = i then _ else _) = _; rw [if_neg (by omega)]; exact h3.n0 j (by omega)
theorem Upto.cs {c d : Cm} (hk : d.k = c.k) (h : Upto c d 24) : d.cs = c.cs := by
  unfold Cm.cs
  rw [hk, h.n1 0 (by decide) rfl, h.n1 1 (by decide) rfl, h.n1 3 (by decide) rfl, h.s1 4 (by decide) rfl, h.s1 5 (by decide) rfl, h.s1 6 (by decide) rfl, h.n1 7 (by decide) rfl, h.n1 8 (by decide) rfl, h.n1 9 (by decide) rfl, h.n1 10 (by decide) rfl, h.n1 11 (by decide) rfl, h.n1 12 (by decide) rfl, h.n1 13 (by decide) rfl, h.n1 17 (by decide) rfl, h.n1 14 (by decide) rfl, h.n1 15 (by decide) rfl, h.n1 16 (by decide) rfl, h.s1 2 (by decide) rfl, h.s1 18 (by decide) rfl, h.n1 19 (by decide) rfl, h.n1 20 (by decide) rfl, h.n1 21 (by decide) rfl, h.n1 22 (by decide) rfl, h.n1 23 (by decide) rfl]
theorem encE_zero {c : Cm} (h : encE c = 0) : (1 ≤ c.k ∧ c.k ≤ 9) ∧ allM c 24 = true := by
  unfold encE at h
  split at h
  · rename_i hk
    split at h
    · rename_i hm; exact ⟨hk, hm⟩
    · cases h
  · cases h
/-- What is written is read back. -/
theorem dec_enc {c : Cm} (h : encE c = 0) : ∃ d, dec (encL c) = .ok d ∧ d.cs = c.cs := by
  obtain ⟨hk, hm⟩ := encE_zero h
  have hmk := mkU_lt c 24
  have e1 := rn_of (l := encL c) (a := 0) (lo := 1) (hi := 9) (z := c.k) (r := varL (foldN (mkU c 24 : Int)) ++ vlU c 24) (by unfold encL; rw [List.drop_zero, List.append_assoc]) hk.1 hk.2 (by omega) (by omega)
  have hd1 : (encL c).drop (0 + (varL (foldN c.k)).length) = varL (foldN (mkU c 24 : Int)) ++ vlU c 24 := by
    unfold encL
    rw [Nat.zero_add, List.append_assoc, List.drop_append_of_le_length (Nat.le_refl _), List.drop_length, List.nil_append]
  have e2 := rn_of (lo := 0) (hi := 16777215) hd1 (by omega) (by omega) (by omega) (by omega)
  have hd2 : (encL c).drop (0 + (varL (foldN c.k)).length + (varL (foldN (mkU c 24 : Int))).length) = vlU c 24 := by
    rw [← List.drop_drop, hd1, List.drop_append_of_le_length (Nat.le_refl _), List.drop_length, List.nil_append]
  obtain ⟨d, h1, h2, h3⟩ := rdU_of c hm (encL c) _ hd2 24 (Nat.le_refl _)
  refine ⟨d, ?_, h3.cs h2⟩
  have hlen : (encL c).length = (varL (foldN c.k)).length + (varL (foldN (mkU c 24 : Int))).length + (vlU c 24).length := by
    unfold encL; rw [List.length_append, List.length_append]
  unfold dec rdC
  rw [e1]
  simp only
  rw [e2]
  simp only [Int.toNat_natCast]
  rw [h1]
  simp only
  rw [if_neg (by omega)]
/-- The first parts do not hang on the later ones. -/
theorem parts_ext {c d : Cm} {i : Nat} (hn : ∀ j, j < i → c.n j = d.n j) (hs : ∀ j, j < i → c.s j = d.s j) : mkU c i = mkU d i ∧ vlU c i = vlU d i ∧ allM c i = allM d i := by
  induction i with
  | zero => exact ⟨rfl, rfl, rfl⟩
  | succ i ih =>
    obtain ⟨h1, h2, h3⟩ := ih (fun j hj => hn j (by omega)) (fun j hj => hs j (by omega))
    have a1 := hn i (by omega)
    have a2 := hs i (by omega)
    have z1 : pZer c i = pZer d i := by unfold pZer; rw [a1, a2]
    have z2 : pBy c i = pBy d i := by unfold pBy; rw [a1, a2]
    have z3 : pMay c i = pMay d i := by unfold pMay; rw [a1, a2]
    simp only [mkU, vlU, allM]
    rw [h1, h2, h3, z1, z2, z3]
    exact ⟨rfl, rfl, rfl⟩
/-- What a part that was read is. -/
theorem rdF_to {l : List Nat} {i at_ a : Nat} {c d : Cm} (hb : BB l) (h : rdF l i at_ c = .ok (a, d)) : d.k = c.k ∧ (∀ j, j ≠ i → d.n j = c.n j) ∧ (∀ j, j ≠ i → d.s j = c.s j) ∧ pZer d i = false ∧ pMay d i = true ∧ l.drop at_ = pBy d i ++ l.drop a ∧ a ≤ l.length ∧ (isT i = true → d.n i = c.n i) ∧ (isT i = false → d.s i = c.s i) := by
  unfold rdF at h
  cases hT : isT i with
  | true =>
    rw [hT, if_pos rfl] at h
    unfold rt at h
    cases hr : rn l at_ 1 60 with
    | none => rw [hr] at h; cases h
    | some p =>
      obtain ⟨n, b⟩ := p
      rw [hr] at h
      simp only at h
      obtain ⟨k1, k2, k3, k4, k5⟩ := of_rn hb hr
      by_cases hle : b + n.toNat ≤ l.length
      · rw [if_pos hle] at h
        simp only at h
        injection h with h
        injection h with h1 h2
        subst h1 h2
        have hsz : (ofN ((l.drop b).take n.toNat)).size = n.toNat := by rw [ofN_size, List.length_take, List.length_drop]; omega
        have hs : (c.setS i (ofN ((l.drop b).take n.toNat))).s i = ofN ((l.drop b).take n.toNat) := by show (if i = i then _ else _) = _; rw [if_pos rfl]
        refine ⟨rfl, fun j _ => rfl, fun j hj => ?_, ?_, ?_, ?_, hle, fun _ => rfl, fun e => (by cases e)⟩
        · show (if j = i then _ else _) = _; rw [if_neg hj]
        · unfold pZer
          rw [hT, if_pos rfl, hs, hsz]
          exact decide_eq_false (by omega)
        · unfold pMay
          rw [hT, if_pos rfl, hs, hsz]
          exact decide_eq_true (by omega)
        · unfold pBy
          rw [hT, if_pos rfl, hs, hsz, sB_ofN ((hb.drop _).take _), k1, show ((n.toNat : Nat) : Int) = n by omega, List.append_assoc, ← List.drop_drop, List.take_append_drop]
      · rw [if_neg hle] at h
        cases h
  | false =>
    rw [hT, if_neg (by simp)] at h
    cases hr : rn l at_ 1 1000000000000000000 with
    | none => rw [hr] at h; cases h
    | some p =>
      obtain ⟨z, b⟩ := p
      rw [hr] at h
      simp only at h
      obtain ⟨k1, k2, k3, k4, k5⟩ := of_rn hb hr
      injection h with h
      injection h with h1 h2
      subst h1 h2
      have hs : (c.setN i z).n i = z := by show (if i = i then _ else _) = _; rw [if_pos rfl]
      refine ⟨rfl, fun j hj => ?_, fun j _ => rfl, ?_, ?_, ?_, k5, fun e => (by cases e), fun _ => rfl⟩
      · show (if j = i then _ else _) = _; rw [if_neg hj]
      · unfold pZer
        rw [hT, if_neg (by simp), hs]
        exact decide_eq_false (by omega)
      · unfold pMay mbZ
        rw [hT, if_neg (by simp), hs]
        exact decide_eq_true ⟨by omega, k3⟩
      · unfold pBy
        rw [hT, if_neg (by simp), hs, k1]
/-- What has been read of a command is what would be written of it. -/
structure RdI (l : List Nat) (m at0 : Nat) (k : Int) (i a : Nat) (c : Cm) : Prop where
  kk : c.k = k
  le : a ≤ l.length
  by' : l.drop at0 = vlU c i ++ l.drop a
  mm : mkU c i = m % 2 ^ i
  all : allM c i = true
  n0 : ∀ j, i ≤ j → c.n j = 0
  s0 : ∀ j, i ≤ j → c.s j = ⟨#[]⟩
  nT : ∀ j, isT j = true → c.n j = 0
  sT : ∀ j, isT j = false → c.s j = ⟨#[]⟩
theorem rdU_to {l : List Nat} (hb : BB l) {m at0 : Nat} (h0 : at0 ≤ l.length) (k : Int) : ∀ {i a : Nat} {c : Cm}, rdU l m at0 { zeroC with k := k } i = .ok (a, c) → RdI l m at0 k i a c
  | 0, a, c, h => by
    injection h with h
    injection h with h1 h2
    subst h1 h2
    exact ⟨rfl, h0, rfl, by simp [mkU, Nat.mod_one], rfl, fun _ _ => rfl, fun _ _ => rfl, fun _ _ => rfl, fun _ _ => rfl⟩
  | i + 1, a, c, h => by
    simp only [rdU] at h
    cases hr : rdU l m at0 { zeroC with k := k } i with
    | error p => rw [hr] at h; cases h
    | ok q =>
      obtain ⟨a1, c1⟩ := q
      have ih := rdU_to hb h0 k hr
      rw [hr] at h
      simp only at h
      by_cases hm : m / 2 ^ i % 2 = 0
      · rw [if_pos hm] at h
        injection h with h
        injection h with h1 h2
        subst h1 h2
        have hz : pZer c1 i = true := by
          unfold pZer
          split
          · rw [ih.s0 i (Nat.le_refl _)]; rfl
          · rw [ih.n0 i (Nat.le_refl _)]; rfl
        have hy : pMay c1 i = true := by
          unfold pMay mbZ
          split
          · rw [ih.s0 i (Nat.le_refl _)]; rfl
          · rw [ih.n0 i (Nat.le_refl _)]; rfl
        refine ⟨ih.kk, ih.le, ?_, ?_, ?_, fun j hj => ih.n0 j (by omega), fun j hj => ih.s0 j (by omega), ih.nT, ih.sT⟩
        · simp only [vlU]; rw [hz, if_pos rfl, List.append_nil]; exact ih.by'
        · simp only [mkU]; rw [hz, if_pos rfl, Nat.add_zero, ih.mm, Nat.mod_pow_succ, hm, Nat.mul_zero, Nat.add_zero]
        · simp only [allM]; rw [ih.all, hy]; rfl
      · rw [if_neg hm] at h
        have hm1 : m / 2 ^ i % 2 = 1 := by omega
        obtain ⟨e1, e2, e3, e4, e5, e6, e7, e8, e9⟩ := rdF_to hb h
        obtain ⟨p1, p2, p3⟩ := parts_ext (c := c) (d := c1) (i := i) (fun j hj => e2 j (by omega)) (fun j hj => e3 j (by omega))
        refine ⟨e1.trans ih.kk, e7, ?_, ?_, ?_, fun j hj => (e2 j (by omega)).trans (ih.n0 j (by omega)), fun j hj => (e3 j (by omega)).trans (ih.s0 j (by omega)), fun j hj => ?_, fun j hj => ?_⟩
        · simp only [vlU]; rw [e4, p2, if_neg (by simp), List.append_assoc, ← e6]; exact ih.by'
        · simp only [mkU]; rw [e4, p1, if_neg (by simp), ih.mm, Nat.mod_pow_succ, hm1, Nat.mul_one]
        · simp only [allM]; rw [p3, ih.all, e5]; rfl
        · by_cases e : j = i
          · subst e; exact (e8 hj).trans (ih.nT j hj)
          · exact (e2 j e).trans (ih.nT j hj)
        · by_cases e : j = i
          · subst e; exact (e9 hj).trans (ih.sT j hj)
          · exact (e3 j e).trans (ih.sT j hj)
/-- What is read is written the same. -/
theorem enc_dec {l : List Nat} {c : Cm} (hb : BB l) (h : dec l = .ok c) : encE c = 0 ∧ encL c = l ∧ c.ok := by
  unfold dec at h
  cases hr : rdC l with
  | error p => rw [hr] at h; cases h
  | ok q =>
    obtain ⟨a, c'⟩ := q
    rw [hr] at h
    simp only at h
    by_cases hla : a < l.length
    · rw [if_pos hla] at h; cases h
    · rw [if_neg hla] at h
      injection h with h
      subst h
      unfold rdC at hr
      cases h1 : rn l 0 1 9 with
      | none => rw [h1] at hr; cases hr
      | some p =>
        obtain ⟨k, a1⟩ := p
        rw [h1] at hr
        simp only at hr
        cases h2 : rn l a1 0 16777215 with
        | none => rw [h2] at hr; cases hr
        | some p =>
          obtain ⟨m, a2⟩ := p
          rw [h2] at hr
          simp only at hr
          obtain ⟨k1, k2, k3, k4, k5⟩ := of_rn hb h1
          obtain ⟨m1, m2, m3, m4, m5⟩ := of_rn hb h2
          have R := rdU_to hb m5 k hr
          have hmk : mkU c' 24 = m.toNat := by rw [R.mm]; exact Nat.mod_eq_of_lt (by omega)
          have hmz : ((m.toNat : Nat) : Int) = m := by omega
          refine ⟨?_, ?_, ⟨?_, ?_, fun i hi => ?_, fun i hi => ?_, fun i hi => ?_⟩⟩
          · unfold encE
            rw [R.kk, if_pos ⟨k2, k3⟩, R.all, if_pos rfl]
          · unfold encL
            have e : l.drop a = [] := List.drop_eq_nil_of_le (by omega)
            have hby := R.by'
            rw [e, List.append_nil] at hby
            rw [R.kk, hmk, hmz, ← hby, List.append_assoc, ← m1, ← k1, List.drop_zero]
          · rw [R.kk]; omega
          · rw [R.kk]; omega
          · cases hT : isT i with
            | true => rw [R.nT i hT]; omega
            | false =>
              have := allM_lt R.all i hi
              unfold pMay mbZ at this
              rw [hT, if_neg (by simp)] at this
              have := of_decide_eq_true this
              omega
          · cases hT : isT i with
            | true => rw [R.nT i hT]; omega
            | false =>
              have := allM_lt R.all i hi
              unfold pMay mbZ at this
              rw [hT, if_neg (by simp)] at this
              have := of_decide_eq_true this
              omega
          · have hmx : 60 ≤ maxLen := by decide
            cases hT : isT i with
            | false => rw [R.sT i hT]; exact Nat.zero_le _
            | true =>
              have := allM_lt R.all i hi
              unfold pMay at this
              rw [hT, if_pos rfl] at this
              have := of_decide_eq_true this
              omega
/-- How long it is. -/
def bdU : Nat → Nat
  | 0 => 0
  | i + 1 => bdU i + if isT i then 61 else 9
theorem pBy_le {c : Cm} {i : Nat} (h : pMay c i = true) : (pBy c i).length ≤ if isT i then 61 else 9 := by
  unfold pBy
  unfold pMay at h
  split
  · rename_i e
    rw [if_pos e] at h
    have h1 := of_decide_eq_true h
    rw [List.length_append, sB_len, varL_small (by unfold foldN; split <;> omega)]
    simp only [List.length_singleton]
    omega
  · rename_i e
    rw [if_neg e] at h
    have h1 := of_decide_eq_true h
    exact varL_length 8 _ (by unfold foldN; split <;> omega)
theorem vlU_le {c : Cm} : ∀ {n : Nat}, allM c n = true → (vlU c n).length ≤ bdU n
  | 0, _ => by simp [vlU, bdU]
  | n + 1, h => by
    unfold allM at h
    rw [Bool.and_eq_true] at h
    have h1 := vlU_le h.1
    have h2 := pBy_le h.2
    simp only [vlU, bdU]
    rw [List.length_append]
    cases pZer c n
    · rw [if_neg (by simp)]; omega
    · rw [if_pos rfl, List.length_nil]; omega
theorem varL_pos (u : Nat) : 0 < (varL u).length := by
  rw [varL]; split <;> simp
theorem encL_len {c : Cm} (h : encE c = 0) : 0 < (encL c).length ∧ (encL c).length ≤ 600 := by
  obtain ⟨hk, hm⟩ := encE_zero h
  have h1 := vlU_le hm
  have h2 : bdU 24 = 476 := by decide
  have h3 := mkU_lt c 24
  have h4 : (varL (foldN c.k)).length ≤ 10 := varL_length10 (foldN_lt (by omega) (by omega))
  have h5 : (varL (foldN (mkU c 24 : Int))).length ≤ 10 := varL_length10 (foldN_lt (by omega) (by omega))
  have h6 := varL_pos (foldN c.k)
  unfold encL
  rw [List.length_append, List.length_append]
  omega
end Go.Proofs.Ytjnnecoikcmaeaa
