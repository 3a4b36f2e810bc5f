/-
  Plain mathematics: what is written as bytes is read as it was, and the other way round.
-/
import Derived.Test.YtdncemecnbglaaaVar
namespace Go.Proofs.Ytdncemecnbglaaa
set_option linter.unusedVariables false

theorem gv_of_var (d : Nat → Nat) (n : Nat) : ∀ (u k acc f : Nat), f + k = 10 → k ≤ 9 → u * 2 ^ (7 * k) < 18446744073709551616 → (0 < k → 0 < u) → (∀ j, j < (varL u).length → d (k + j) = (varL u).getD j 0) → k + (varL u).length ≤ n →
    gv d n f k acc = some (acc + u * 2 ^ (7 * k), k + (varL u).length) := fun u => by
  induction u using Nat.strongRecOn with
  | ind u ih =>
    intro k acc f hf hk hu h0 hd hn
    obtain ⟨f, rfl⟩ : ∃ g, f = g + 1 := ⟨f - 1, by omega⟩
    by_cases h : u < 128
    · rw [varL_small h] at hd hn ⊢
      have e := hd 0 (by simp)
      simp at e hn
      have h9 : ¬ (k = 9 ∧ 1 < d k) := fun ⟨a, b⟩ => by subst a; simp at hu; omega
      rw [gv_done (by omega) h9 (by omega) (by omega), e, Nat.mod_eq_of_lt h]
      simp
    · rw [varL_big h] at hd hn ⊢
      have e := hd 0 (by simp)
      simp at e hn
      have k9 : k ≠ 9 := fun a => by subst a; simp at hu; omega
      rw [gv_on (by omega) (by omega) (by omega)]
      have em : d k % 128 = u % 128 := by omega
      have eu : u = 128 * (u / 128) + u % 128 := (Nat.div_add_mod u 128).symm
      have ep : 2 ^ (7 * (k + 1)) = 128 * 2 ^ (7 * k) := by rw [show 7 * (k + 1) = 7 * k + 7 by omega, Nat.pow_add]; omega
      have em2 : u * 2 ^ (7 * k) = u / 128 * 2 ^ (7 * (k + 1)) + u % 128 * 2 ^ (7 * k) := by
        rw [ep]
        have : u * 2 ^ (7 * k) = (128 * (u / 128) + u % 128) * 2 ^ (7 * k) := by rw [← eu]
        rw [this, Nat.add_mul, ← Nat.mul_assoc, Nat.mul_comm (u / 128) 128]
      rw [ih (u / 128) (by omega) (k + 1) _ f (by omega) (by omega) (by omega) (by omega) (fun j hj => by
        have := hd (j + 1) (by simp; omega)
        rw [show k + 1 + j = k + (j + 1) by omega, this]
        rfl) (by omega)]
      rw [em, em2, List.length_cons]
      congr 2
      · omega
      · omega
/-- What was written is read. -/
theorem gvr_of_var (d : Nat → Nat) (n u : Nat) (hu : u < 18446744073709551616) (hd : ∀ j, j < (varL u).length → d j = (varL u).getD j 0) (hn : (varL u).length ≤ n) : gvr d n = some (u, (varL u).length) := by
  have h := gv_of_var d n u 0 0 10 rfl (by omega) (by simpa using hu) (by omega) (fun j hj => by rw [Nat.zero_add]; exact hd j hj) (by omega)
  simpa [gvr] using h
theorem range_map_cons {α : Type} (g : Nat → α) (m : Nat) : (List.range (m + 1)).map g = g 0 :: (List.range m).map fun j => g (j + 1) := by
  rw [List.range_succ_eq_map]; simp [Function.comp_def]
theorem var_of_gv (d : Nat → Nat) (n u m : Nat) (hb : ∀ j, j < n → d j < 256) : ∀ f k acc, f + k = 10 → gv d n f k acc = some (u, m) → ∃ v, u = acc + v * 2 ^ (7 * k) ∧ k < m ∧ m ≤ n ∧ m ≤ 10 ∧ (0 < k → 0 < v) ∧ v * 2 ^ (7 * k) < 18446744073709551616 ∧ varL v = (List.range (m - k)).map fun j => d (k + j)
  | 0, k, acc, hf, h => by simp [gv] at h
  | f + 1, k, acc, hf, h => by
    have hk : k < n := by
      rcases Nat.lt_or_ge k n with h' | h'
      · exact h'
      · rw [gv_end (by omega)] at h; cases h
    have h9 : ¬ (k = 9 ∧ 1 < d k) := fun ⟨a, b⟩ => by subst a; rw [gv_nine b] at h; cases h
    have hbk := hb k hk
    by_cases hc : 128 ≤ d k
    · rw [gv_on hk h9 hc] at h
      obtain ⟨v, e1, e2, e3, e4, e5, e6, e7⟩ := var_of_gv d n u m hb f (k + 1) _ (by omega) h
      have ep : 2 ^ (7 * (k + 1)) = 128 * 2 ^ (7 * k) := by rw [show 7 * (k + 1) = 7 * k + 7 by omega, Nat.pow_add]; omega
      have em : (d k % 128 + 128 * v) * 2 ^ (7 * k) = d k % 128 * 2 ^ (7 * k) + v * 2 ^ (7 * (k + 1)) := by
        rw [ep, Nat.add_mul, ← Nat.mul_assoc, Nat.mul_comm v 128]
      have hv := e5 (by omega)
      refine ⟨d k % 128 + 128 * v, by rw [em, e1]; omega, by omega, e3, e4, by omega, ?_, ?_⟩
      · have hm : d k % 128 < 128 := Nat.mod_lt _ (by decide)
        have h8 : k ≤ 8 := by omega
        have hp : 2 ^ (57 - 7 * k) * 2 ^ (7 * (k + 1)) = 18446744073709551616 := by
          rw [← Nat.pow_add, show 57 - 7 * k + 7 * (k + 1) = 64 by omega]
        have hv2 : v < 2 ^ (57 - 7 * k) := by
          rw [← hp] at e6
          exact Nat.lt_of_mul_lt_mul_right e6
        have h3 : (d k % 128 + 128 * v) < 128 * 2 ^ (57 - 7 * k) := by omega
        have h4 := Nat.mul_lt_mul_of_pos_right h3 (Nat.two_pow_pos (7 * k))
        rw [← hp, ep]
        calc _ < _ := h4
          _ = _ := by rw [Nat.mul_comm 128, Nat.mul_assoc]
      · rw [varL_big (by omega), show m - k = (m - (k + 1)) + 1 by omega, range_map_cons]
        rw [show (d k % 128 + 128 * v) % 128 + 128 = d k by omega, show (d k % 128 + 128 * v) / 128 = v by omega, e7]
        simp only [Nat.add_zero, List.cons.injEq, true_and]
        refine List.map_congr_left fun j _ => ?_
        rw [show k + 1 + j = k + (j + 1) by omega]
    · have h0 : ¬ (d k = 0 ∧ 0 < k) := fun ⟨a, b⟩ => by rw [gv_long a b] at h; cases h
      rw [gv_done hk h9 (by omega) h0] at h
      simp only [Option.some.injEq, Prod.mk.injEq] at h
      obtain ⟨h1, h2⟩ := h
      refine ⟨d k, by rw [← h1, Nat.mod_eq_of_lt (by omega)], by omega, by omega, by omega, by omega, ?_, ?_⟩
      · have : k = 0 ∨ k = 1 ∨ k = 2 ∨ k = 3 ∨ k = 4 ∨ k = 5 ∨ k = 6 ∨ k = 7 ∨ k = 8 ∨ k = 9 := by omega
        rcases this with rfl | rfl | rfl | rfl | rfl | rfl | rfl | rfl | rfl | rfl <;> simp at h9 ⊢ <;> omega
      · rw [varL_small (by omega), show m - k = 0 + 1 by omega, range_map_cons]
        simp
/-- What is read is written again. -/
theorem var_of_gvr (d : Nat → Nat) (n u m : Nat) (hb : ∀ j, j < n → d j < 256) (h : gvr d n = some (u, m)) : u < 18446744073709551616 ∧ 0 < m ∧ m ≤ n ∧ m ≤ 10 ∧ varL u = (List.range m).map d := by
  obtain ⟨v, e1, e2, e3, e4, e5, e6, e7⟩ := var_of_gv d n u m hb 10 0 0 rfl h
  simp at e1 e6 e7
  subst e1
  exact ⟨e6, e2, e3, e4, e7⟩
theorem fold_unf {u : Nat} : foldN (unf u) = u := by unfold unf foldN; split <;> split <;> omega
theorem unf_bounds {u : Nat} (h : u < 18446744073709551616) : -9223372036854775808 ≤ unf u ∧ unf u ≤ 9223372036854775807 := by unfold unf; split <;> omega
/-- Bytes of a number, read again. -/
theorem getN_put (d : Nat → Nat) (n s : Nat) : ∀ m, m ≤ s → (∀ j, j < m → d j = n / 2 ^ (8 * (s - 1 - j)) % 256) → getN d m = n / 2 ^ (8 * (s - m)) % 2 ^ (8 * m)
  | 0, hm, h => by simp [getN, Nat.mod_one]
  | m + 1, hm, h => by
    rw [getN, getN_put d n s m (by omega) fun j hj => h j (by omega), h m (by omega), show s - 1 - m = s - (m + 1) by omega]
    have e1 : n / 2 ^ (8 * (s - m)) = n / 2 ^ (8 * (s - (m + 1))) / 256 := by
      rw [Nat.div_div_eq_div_mul, show 8 * (s - m) = 8 * (s - (m + 1)) + 8 by omega, Nat.pow_add]
    rw [e1]
    generalize n / 2 ^ (8 * (s - (m + 1))) = q
    have e2 : 2 ^ (8 * (m + 1)) = 256 * 2 ^ (8 * m) := by rw [show 8 * (m + 1) = 8 * m + 8 by omega, Nat.pow_add]; omega
    rw [e2, Nat.mod_mul]
    omega
end Go.Proofs.Ytdncemecnbglaaa
