import Derived.Test.YtkpoheknmcepnaaGreatDoorPlain
import Derived.Test.YtkpoheknmcepnaaGreatDoorProg
import Derived.WalkLawsBesides
import Derived.Laws.BitsAllLaws

namespace Go.Proofs.YtkpoheknmcepnaaGreatDoor
set_option linter.unusedVariables false

/-- The first m of the s bytes of a number, the highest first. -/
def putTo (n s m : Nat) : List Nat := (List.range m).map fun k => n / 2 ^ (8 * (s - 1 - k)) % 256
theorem putTo_succ (n s m : Nat) : putTo n s (m + 1) = putTo n s m ++ [n / 2 ^ (8 * (s - 1 - m)) % 256] := by simp [putTo, List.range_succ]
theorem putTo_length (n s m : Nat) : (putTo n s m).length = m := by simp [putTo]
theorem putTo_lt {n s m x : Nat} (h : x ∈ putTo n s m) : x < 256 := by
  simp only [putTo, List.mem_map] at h
  obtain ⟨k, _, rfl⟩ := h
  exact Nat.mod_lt _ (by decide)
/-- A number of bytes, the highest first. -/
def getN (d : Nat → Nat) : Nat → Nat
  | 0 => 0
  | k + 1 => getN d k * 256 + d k
theorem getN_lt (d : Nat → Nat) (k : Nat) (h : ∀ j, j < k → d j < 256) : getN d k < 256 ^ k := by
  induction k with
  | zero => simp [getN]
  | succ k ih =>
    have h1 := ih fun j hj => h j (by omega)
    have h2 := h k (by omega)
    unfold getN
    rw [Nat.pow_succ]
    have h3 : getN d k + 1 ≤ 256 ^ k := h1
    have := Nat.mul_le_mul_right 256 h3
    omega
theorem getN_lt8 (d : Nat → Nat) (k : Nat) (hk : k ≤ 8) (h : ∀ j, j < k → d j < 256) : getN d k < 18446744073709551616 :=
  Nat.lt_of_lt_of_le (getN_lt d k h) (by have := Nat.pow_le_pow_right (n := 256) (by decide) hk; simpa using this)
theorem getN_ext {d e : Nat → Nat} (k : Nat) (h : ∀ j, j < k → d j = e j) : getN d k = getN e k := by
  induction k with
  | zero => rfl
  | succ k ih => unfold getN; rw [ih fun j hj => h j (by omega), h k (by omega)]
/-- A number in as few bytes as may be. -/
def varL (u : Nat) : List Nat := if h : u < 128 then [u] else (u % 128 + 128) :: varL (u / 128)
  termination_by u
  decreasing_by omega
theorem varL_small {u : Nat} (h : u < 128) : varL u = [u] := by rw [varL, dif_pos h]
theorem varL_big {u : Nat} (h : ¬ u < 128) : varL u = (u % 128 + 128) :: varL (u / 128) := by rw [varL, dif_neg h]
theorem varL_length : ∀ (k u : Nat), u < 128 ^ (k + 1) → (varL u).length ≤ k + 1
  | 0, u, h => by rw [varL_small (by simpa using h)]; simp
  | k + 1, u, h => by
    by_cases h1 : u < 128
    · rw [varL_small h1]; simp
    · rw [varL_big h1]
      have := varL_length k (u / 128) (by rw [Nat.div_lt_iff_lt_mul (by decide)]; rw [Nat.pow_succ] at h; exact h)
      simp; omega
theorem varL_length10 {u : Nat} (h : u < 18446744073709551616) : (varL u).length ≤ 10 := varL_length 9 u (by omega)
theorem varL_lt : ∀ (u : Nat), ∀ x ∈ varL u, x < 256 := fun u => by
  induction u using Nat.strongRecOn with
  | ind u ih =>
    intro x hx
    by_cases h : u < 128
    · rw [varL_small h] at hx; simp at hx; omega
    · rw [varL_big h] at hx
      rcases List.mem_cons.1 hx with rfl | hx
      · omega
      · exact ih (u / 128) (by omega) x hx
/-- Numbers near nought on either side as small ones, and back. -/
def foldN (n : Int) : Nat := if n < 0 then (2 * (-(n + 1)) + 1).toNat else (2 * n).toNat
def unf (u : Nat) : Int := if u % 2 = 1 then -((u / 2 : Nat) : Int) - 1 else ((u / 2 : Nat) : Int)
theorem foldN_lt {n : Int} (h0 : -9223372036854775808 ≤ n) (h1 : n ≤ 9223372036854775807) : foldN n < 18446744073709551616 := by
  unfold foldN; split <;> omega
theorem unf_fold (n : Int) : unf (foldN n) = n := by unfold unf foldN; split <;> split <;> omega
/-- What is read of bytes: the number and how many they are. -/
def gv (d : Nat → Nat) (n : Nat) : Nat → Nat → Nat → Option (Nat × Nat)
  | 0, _, _ => none
  | f + 1, k, u => if k < n then (if k = 9 ∧ 1 < d k then none else if 128 ≤ d k then gv d n f (k + 1) (u + d k % 128 * 2 ^ (7 * k)) else if d k = 0 ∧ 0 < k then none else some (u + d k % 128 * 2 ^ (7 * k), k + 1)) else none
def gvr (d : Nat → Nat) (n : Nat) : Option (Nat × Nat) := gv d n 10 0 0
def gvV : Option (Nat × Nat) → Int
  | none => 0
  | some q => unf q.1
def gvK : Option (Nat × Nat) → Nat
  | none => 0
  | some q => q.2
theorem gv_end {d : Nat → Nat} {n f k u : Nat} (h : ¬ k < n) : gv d n f k u = none := by
  cases f with
  | zero => rfl
  | succ f => unfold gv; rw [if_neg h]
theorem gv_nine {d : Nat → Nat} {n f u : Nat} (h : 1 < d 9) : gv d n f 9 u = none := by
  cases f with
  | zero => rfl
  | succ f =>
    unfold gv
    split
    · rw [if_pos ⟨rfl, h⟩]
    · rfl
theorem gv_on {d : Nat → Nat} {n f k u : Nat} (h : k < n) (h9 : ¬ (k = 9 ∧ 1 < d k)) (hc : 128 ≤ d k) : gv d n (f + 1) k u = gv d n f (k + 1) (u + d k % 128 * 2 ^ (7 * k)) := by
  rw [gv, if_pos h, if_neg h9, if_pos hc]
theorem gv_long {d : Nat → Nat} {n f k u : Nat} (hc : d k = 0) (hk : 0 < k) : gv d n f k u = none := by
  cases f with
  | zero => rfl
  | succ f =>
    unfold gv
    split
    · rw [if_neg (by omega), if_neg (by omega), if_pos ⟨hc, hk⟩]
    · rfl
theorem gv_done {d : Nat → Nat} {n f k u : Nat} (h : k < n) (h9 : ¬ (k = 9 ∧ 1 < d k)) (hc : d k < 128) (h0 : ¬ (d k = 0 ∧ 0 < k)) : gv d n (f + 1) k u = some (u + d k % 128 * 2 ^ (7 * k), k + 1) := by
  rw [gv, if_pos h, if_neg h9, if_neg (by omega), if_neg h0]
theorem gv_ext {d e : Nat → Nat} {n : Nat} (h : ∀ j, j < n → d j = e j) : ∀ f k u, gv d n f k u = gv e n f k u
  | 0, k, u => rfl
  | f + 1, k, u => by
    unfold gv
    by_cases hk : k < n
    · rw [if_pos hk, if_pos hk, h k hk, gv_ext h f]
    · rw [if_neg hk, if_neg hk]
/-- How a sum of sevens grows. -/
theorem gv_room {k c u : Nat} (hk : k ≤ 9) (hu : u < 2 ^ (7 * k)) (h9 : ¬ (k = 9 ∧ 1 < c)) : c % 128 * 2 ^ (7 * k) < 18446744073709551616 ∧ u + c % 128 * 2 ^ (7 * k) < 18446744073709551616 ∧ u + c % 128 * 2 ^ (7 * k) < 2 ^ (7 * (k + 1)) := by
  have : k = 0 ∨ k = 1 ∨ k = 2 ∨ k = 3 ∨ k = 4 ∨ k = 5 ∨ k = 6 ∨ k = 7 ∨ k = 8 ∨ k = 9 := by omega
  rcases this with rfl | rfl | rfl | rfl | rfl | rfl | rfl | rfl | rfl | rfl <;> simp at hu h9 ⊢ <;> omega
end Go.Proofs.YtkpoheknmcepnaaGreatDoor

namespace Go.Proofs.YtkpoheknmcepnaaGreatDoor
set_option linter.unusedVariables false

theorem gv_of_var (d : Nat → Nat) (n : Nat) : ∀ (u k acc f : Nat), f + k = 10 → k ≤ 9 → u * 2 ^ (7 * k) < 18446744073709551616 → (0 < k → 0 < u) → (∀ j, j < (varL u).length → d (k + j) = (varL u).getD j 0) → k + (varL u).length ≤ n →
    gv d n f k acc = some (acc + u * 2 ^ (7 * k), k + (varL u).length) := fun u => by
  induction u using Nat.strongRecOn with
  | ind u ih =>
    intro k acc f hf hk hu h0 hd hn
    obtain ⟨f, rfl⟩ : ∃ g, f = g + 1 := ⟨f - 1, by omega⟩
    by_cases h : u < 128
    · rw [varL_small h] at hd hn ⊢
      have e := hd 0 (by simp)
      simp at e hn
      have h9 : ¬ (k = 9 ∧ 1 < d k) := fun ⟨a, b⟩ => by subst a; simp at hu; omega
      rw [gv_done (by omega) h9 (by omega) (by omega), e, Nat.mod_eq_of_lt h]
      simp
    · rw [varL_big h] at hd hn ⊢
      have e := hd 0 (by simp)
      simp at e hn
      have k9 : k ≠ 9 := fun a => by subst a; simp at hu; omega
      rw [gv_on (by omega) (by omega) (by omega)]
      have em : d k % 128 = u % 128 := by omega
      have eu : u = 128 * (u / 128) + u % 128 := (Nat.div_add_mod u 128).symm
      have ep : 2 ^ (7 * (k + 1)) = 128 * 2 ^ (7 * k) := by rw [show 7 * (k + 1) = 7 * k + 7 by omega, Nat.pow_add]; omega
      have em2 : u * 2 ^ (7 * k) = u / 128 * 2 ^ (7 * (k + 1)) + u % 128 * 2 ^ (7 * k) := by
        rw [ep]
        have : u * 2 ^ (7 * k) = (128 * (u / 128) + u % 128) * 2 ^ (7 * k) := by rw [← eu]
        rw [this, Nat.add_mul, ← Nat.mul_assoc, Nat.mul_comm (u / 128) 128]
      rw [ih (u / 128) (by omega) (k + 1) _ f (by omega) (by omega) (by omega) (by omega) (fun j hj => by
        have := hd (j + 1) (by simp; omega)
        rw [show k + 1 + j = k + (j + 1) by omega, this]
        rfl) (by omega)]
      rw [em, em2, List.length_cons]
      congr 2
      · omega
      · omega
/-- What was written is read. -/
theorem gvr_of_var (d : Nat → Nat) (n u : Nat) (hu : u < 18446744073709551616) (hd : ∀ j, j < (varL u).length → d j = (varL u).getD j 0) (hn : (varL u).length ≤ n) : gvr d n = some (u, (varL u).length) := by
  have h := gv_of_var d n u 0 0 10 rfl (by omega) (by simpa using hu) (by omega) (fun j hj => by rw [Nat.zero_add]; exact hd j hj) (by omega)
  simpa [gvr] using h
theorem range_map_cons {α : Type} (g : Nat → α) (m : Nat) : (List.range (m + 1)).map g = g 0 :: (List.range m).map fun j => g (j + 1) := by
  rw [List.range_succ_eq_map]; simp [Function.comp_def]
theorem var_of_gv (d : Nat → Nat) (n u m : Nat) (hb : ∀ j, j < n → d j < 256) : ∀ f k acc, f + k = 10 → gv d n f k acc = some (u, m) → ∃ v, u = acc + v * 2 ^ (7 * k) ∧ k < m ∧ m ≤ n ∧ m ≤ 10 ∧ (0 < k → 0 < v) ∧ v * 2 ^ (7 * k) < 18446744073709551616 ∧ varL v = (List.range (m - k)).map fun j => d (k + j)
  | 0, k, acc, hf, h => by simp [gv] at h
  | f + 1, k, acc, hf, h => by
    have hk : k < n := by
      rcases Nat.lt_or_ge k n with h' | h'
      · exact h'
      · rw [gv_end (by omega)] at h; cases h
    have h9 : ¬ (k = 9 ∧ 1 < d k) := fun ⟨a, b⟩ => by subst a; rw [gv_nine b] at h; cases h
    have hbk := hb k hk
    by_cases hc : 128 ≤ d k
    · rw [gv_on hk h9 hc] at h
      obtain ⟨v, e1, e2, e3, e4, e5, e6, e7⟩ := var_of_gv d n u m hb f (k + 1) _ (by omega) h
      have ep : 2 ^ (7 * (k + 1)) = 128 * 2 ^ (7 * k) := by rw [show 7 * (k + 1) = 7 * k + 7 by omega, Nat.pow_add]; omega
      have em : (d k % 128 + 128 * v) * 2 ^ (7 * k) = d k % 128 * 2 ^ (7 * k) + v * 2 ^ (7 * (k + 1)) := by
        rw [ep, Nat.add_mul, ← Nat.mul_assoc, Nat.mul_comm v 128]
      have hv := e5 (by omega)
      refine ⟨d k % 128 + 128 * v, by rw [em, e1]; omega, by omega, e3, e4, by omega, ?_, ?_⟩
      · have hm : d k % 128 < 128 := Nat.mod_lt _ (by decide)
        have h8 : k ≤ 8 := by omega
        have hp : 2 ^ (57 - 7 * k) * 2 ^ (7 * (k + 1)) = 18446744073709551616 := by
          rw [← Nat.pow_add, show 57 - 7 * k + 7 * (k + 1) = 64 by omega]
        have hv2 : v < 2 ^ (57 - 7 * k) := by
          rw [← hp] at e6
          exact Nat.lt_of_mul_lt_mul_right e6
        have h3 : (d k % 128 + 128 * v) < 128 * 2 ^ (57 - 7 * k) := by omega
        have h4 := Nat.mul_lt_mul_of_pos_right h3 (Nat.two_pow_pos (7 * k))
        rw [← hp, ep]
        calc _ < _ := h4
          _ = _ := by rw [Nat.mul_comm 128, Nat.mul_assoc]
      · rw [varL_big (by omega), show m - k = (m - (k + 1)) + 1 by omega, range_map_cons]
        rw [show (d k % 128 + 128 * v) % 128 + 128 = d k by omega, show (d k % 128 + 128 * v) / 128 = v by omega, e7]
        simp only [Nat.add_zero, List.cons.injEq, true_and]
        refine List.map_congr_left fun j _ => ?_
        rw [show k + 1 + j = k + (j + 1) by omega]
    · have h0 : ¬ (d k = 0 ∧ 0 < k) := fun ⟨a, b⟩ => by rw [gv_long a b] at h; cases h
      rw [gv_done hk h9 (by omega) h0] at h
      simp only [Option.some.injEq, Prod.mk.injEq] at h
      obtain ⟨h1, h2⟩ := h
      refine ⟨d k, by rw [← h1, Nat.mod_eq_of_lt (by omega)], by omega, by omega, by omega, by omega, ?_, ?_⟩
      · have : k = 0 ∨ k = 1 ∨ k = 2 ∨ k = 3 ∨ k = 4 ∨ k = 5 ∨ k = 6 ∨ k = 7 ∨ k = 8 ∨ k = 9 := by omega
        rcases this with rfl | rfl | rfl | rfl | rfl | rfl | rfl | rfl | rfl | rfl <;> simp at h9 ⊢ <;> omega
      · rw [varL_small (by omega), show m - k = 0 + 1 by omega, range_map_cons]
        simp
/-- What is read is written again. -/
theorem var_of_gvr (d : Nat → Nat) (n u m : Nat) (hb : ∀ j, j < n → d j < 256) (h : gvr d n = some (u, m)) : u < 18446744073709551616 ∧ 0 < m ∧ m ≤ n ∧ m ≤ 10 ∧ varL u = (List.range m).map d := by
  obtain ⟨v, e1, e2, e3, e4, e5, e6, e7⟩ := var_of_gv d n u m hb 10 0 0 rfl h
  simp at e1 e6 e7
  subst e1
  exact ⟨e6, e2, e3, e4, e7⟩
theorem fold_unf {u : Nat} : foldN (unf u) = u := by unfold unf foldN; split <;> split <;> omega
theorem unf_bounds {u : Nat} (h : u < 18446744073709551616) : -9223372036854775808 ≤ unf u ∧ unf u ≤ 9223372036854775807 := by unfold unf; split <;> omega
/-- Bytes of a number, read again. -/
theorem getN_put (d : Nat → Nat) (n s : Nat) : ∀ m, m ≤ s → (∀ j, j < m → d j = n / 2 ^ (8 * (s - 1 - j)) % 256) → getN d m = n / 2 ^ (8 * (s - m)) % 2 ^ (8 * m)
  | 0, hm, h => by simp [getN, Nat.mod_one]
  | m + 1, hm, h => by
    rw [getN, getN_put d n s m (by omega) fun j hj => h j (by omega), h m (by omega), show s - 1 - m = s - (m + 1) by omega]
    have e1 : n / 2 ^ (8 * (s - m)) = n / 2 ^ (8 * (s - (m + 1))) / 256 := by
      rw [Nat.div_div_eq_div_mul, show 8 * (s - m) = 8 * (s - (m + 1)) + 8 by omega, Nat.pow_add]
    rw [e1]
    generalize n / 2 ^ (8 * (s - (m + 1))) = q
    have e2 : 2 ^ (8 * (m + 1)) = 256 * 2 ^ (8 * m) := by rw [show 8 * (m + 1) = 8 * m + 8 by omega, Nat.pow_add]; omega
    rw [e2, Nat.mod_mul]
    omega
end Go.Proofs.YtkpoheknmcepnaaGreatDoor

namespace Go.Proofs.YtkpoheknmcepnaaGreatDoor
set_option linter.unusedVariables false
open Go.RowKit

/-- Bytes that lie in a row. -/
def Row (w : World) (b off n : Nat) (d : Nat → Nat) : Prop := ∀ j, j < n → w.cell? ⟨b, off + j, none⟩ = some (.int .u8 (d j : Int)) ∧ d j < 256

set_option maxRecDepth 100000 in
set_option maxHeartbeats 400000 in
theorem Crc_any (b off n cap : Nat) (d : Nat → Nat) (w : World) (hn : n ≤ maxLen) (hr : Row w b off n d) :
    Calls Tryz.prog 51 #[.slice (some ⟨b, off, none⟩) n cap] w fun e w' => e = .returned (.int .u32 (crcEnd (crcRow d n) : Int)) ∧ w' = w := by
  unfold maxLen at hn
  have HR : Hid (Row w b off n d) := hr
  clear hr
  go_enter Tryz.func51, Tryz.ntmps51
  go_wp2
  go_loop [3, 5, 6, 9] (fun c _ _ i => ∃ k : Nat, k ≤ n ∧ i = .int .i64 k ∧ c = .int .u32 (crcRow d k : Int)) (fun _ _ _ i => n - (intOf i).toNat)
  case atStart => exact ⟨0, Nat.zero_le _, rfl, rfl⟩
  case round =>
    obtain ⟨k, hk, rfl, rfl⟩ := hrel
    by_cases hlt : k < n
    · obtain ⟨hc, hd⟩ := HR.out k hlt
      have hlt' : (k : Int) < (n : Int) := by omega
      have hx := crcRow_lt d k (fun j hj => (HR.out j (by omega)).2)
      have hxor : bits .xor .u32 (crcRow d k : Int) (d k : Int) = ((crcRow d k ^^^ d k : Nat) : Int) := u32_xor_nat _ _ hx (by omega)
      have hy : crcRow d k ^^^ d k < 4294967296 := xor_lt32 hx (by omega)
      have HK : Hid (crcRow d (k + 1) = crcBits 8 (crcRow d k ^^^ d k)) := rfl
      go_wp2
      clear hxor hc
      generalize crcRow d k ^^^ d k = y at *
      go_loop [3, 6, 17] (fun c _ i => ∃ m : Nat, m ≤ 8 ∧ i = .int .i64 m ∧ c = .int .u32 (crcBits m y : Int)) (fun _ _ i => 8 - (intOf i).toNat)
      case atStart => exact ⟨0, Nat.zero_le _, rfl, rfl⟩
      case round =>
        obtain ⟨m, hm, rfl, rfl⟩ := hrel
        by_cases hm8 : m < 8
        · have hz := crcBits_lt m hy
          have HZ : Hid (crcBits (m + 1) y = crcBit (crcBits m y)) := rfl
          generalize crcBits m y = z at *
          have hm8' : (m : Int) < 8 := by omega
          by_cases ho : z % 2 = 1
          · have HO : Hid (crcBits (m + 1) y = z / 2 ^^^ 3988292384) := HZ.out.trans (crcBit_odd ho)
            have ha : bits .and .u32 (z : Int) 1 = 1 := by
              have := u32_and_nat z 1 hz (by decide)
              rw [Nat.and_one_is_mod, ho] at this; exact this
            have hx2 : bits .xor .u32 ((z : Int) / 2) 3988292384 = ((z / 2 ^^^ 3988292384 : Nat) : Int) := by
              have := u32_xor_nat (z / 2) 3988292384 (by omega) (by decide)
              rw [← this]; rfl
            go_wp2
            go_round
            case rel => exact ⟨m + 1, by omega, by go_num, by rw [HO.out]⟩
            case measure => simp [intOf]; omega
          · have HO : Hid (crcBits (m + 1) y = z / 2) := HZ.out.trans (crcBit_even ho)
            have ha : bits .and .u32 (z : Int) 1 = 0 := by
              have := u32_and_nat z 1 hz (by decide)
              rw [Nat.and_one_is_mod, show z % 2 = 0 by omega] at this; exact this
            go_wp2
            go_round
            case rel => exact ⟨m + 1, by omega, by go_num, by rw [HO.out]; rfl⟩
            case measure => simp [intOf]; omega
        · have e8 : m = 8 := by omega
          subst e8
          go_wp2
          go_round
          case rel => exact ⟨k + 1, by omega, by go_num, by rw [HK.out]⟩
          case measure => simp [intOf]; omega
    · have ek : k = n := by omega
      subst ek
      have hx := crcRow_lt d k (fun j hj => (HR.out j (by omega)).2)
      have hE : bits .xor .u32 IntKind.u32.max (crcRow d k : Int) = (crcEnd (crcRow d k) : Int) := u32_xor_nat 4294967295 _ (by decide) hx
      go_wp2
      go_ret
      exact ⟨rfl, rfl⟩

/-- The sum of bytes, modulo 256: behind a sum s, of so many of a row; of rows. -/
def sumRow (s : Nat) (d : Nat → Nat) : Nat → Nat
  | 0 => s
  | k + 1 => (sumRow s d k + d k) % 256
theorem sumRow_lt {s : Nat} (h : s < 256) (d : Nat → Nat) (k : Nat) : sumRow s d k < 256 := by
  cases k with
  | zero => exact h
  | succ k => exact Nat.mod_lt _ (by decide)

/-- Lists of bytes in memory: the i-th slice leads to a row. -/
structure Rows2 (w : World) (b off n : Nat) (len : Nat → Nat) (d : Nat → Nat → Nat) : Prop where
  at_ : ∀ i, i < n → ∃ (a : Option Addr) (c : Nat), w.cell? ⟨b, off + i, none⟩ = some (.slice a (len i) c) ∧ len i ≤ maxLen ∧ (len i = 0 ∨ ∃ bb oo, a = some ⟨bb, oo, none⟩ ∧ Row w bb oo (len i) (d i))
def sumRows (len : Nat → Nat) (d : Nat → Nat → Nat) : Nat → Nat
  | 0 => 0
  | i + 1 => sumRow (sumRows len d i) (d i) (len i)
theorem sumRows_lt (len : Nat → Nat) (d : Nat → Nat → Nat) (i : Nat) : sumRows len d i < 256 := by
  induction i with
  | zero => show 0 < 256; decide
  | succ i ih => exact sumRow_lt ih _ _

set_option maxRecDepth 100000 in
set_option maxHeartbeats 400000 in
theorem Sum_any (b off n cap : Nat) (len : Nat → Nat) (d : Nat → Nat → Nat) (w : World) (hn : n ≤ maxLen) (hr : Rows2 w b off n len d) :
    Calls Tryz.prog 34 #[.slice (some ⟨b, off, none⟩) n cap] w fun e w' => e = .returned (.int .i64 (sumRows len d n : Int)) ∧ w' = w := by
  unfold maxLen at hn
  have HR : Hid (Rows2 w b off n len d) := hr
  clear hr
  go_enter Tryz.func34, Tryz.ntmps34
  go_wp2
  go_loop [3, 5, 7, 10] (fun s _ _ i => ∃ k : Nat, k ≤ n ∧ i = .int .i64 k ∧ s = .int .u8 (sumRows len d k : Int)) (fun _ _ _ i => n - (intOf i).toNat)
  case atStart => exact ⟨0, Nat.zero_le _, rfl, rfl⟩
  case round =>
    obtain ⟨k, hk, rfl, rfl⟩ := hrel
    by_cases hlt : k < n
    · obtain ⟨a, c, hc, hl, hrow⟩ := HR.out.at_ k hlt
      unfold maxLen at hl
      have HRow : Hid (len k = 0 ∨ ∃ bb oo, a = some ⟨bb, oo, none⟩ ∧ Row w bb oo (len k) (d k)) := hrow
      clear hrow
      have hlt' : (k : Int) < (n : Int) := by omega
      have HK : Hid (sumRows len d (k + 1) = sumRow (sumRows len d k) (d k) (len k)) := rfl
      have hs0 := sumRows_lt len d k
      go_wp2
      clear hc
      generalize sumRows len d k = s0 at *
      go_loop [3, 7, 16] (fun s _ i => ∃ m : Nat, m ≤ len k ∧ i = .int .i64 m ∧ s = .int .u8 (sumRow s0 (d k) m : Int)) (fun _ _ i => len k - (intOf i).toNat)
      case atStart => exact ⟨0, Nat.zero_le _, rfl, rfl⟩
      case round =>
        obtain ⟨m, hm, rfl, rfl⟩ := hrel
        by_cases hmm : m < len k
        · rcases HRow.out with h0 | ⟨bb, oo, ea, hrw⟩
          · omega
          · obtain ⟨hcm, hdm⟩ := hrw m hmm
            have hm' : (m : Int) < (len k : Int) := by omega
            have HZ : Hid (sumRow s0 (d k) (m + 1) = (sumRow s0 (d k) m + d k m) % 256) := rfl
            subst ea
            go_wp2
            go_round
            case rel => exact ⟨m + 1, by omega, by go_num, by rw [HZ.out]; rfl⟩
            case measure => simp [intOf]; omega
        · have em : m = len k := by omega
          subst em
          go_wp2
          go_round
          case rel => exact ⟨k + 1, by omega, by go_num, by rw [HK.out]⟩
          case measure => simp [intOf]; omega
    · have ek : k = n := by omega
      subst ek
      have hs0 := sumRows_lt len d k
      go_wp2
      go_ret
      exact ⟨rfl, rfl⟩

end Go.Proofs.YtkpoheknmcepnaaGreatDoor

namespace Go.Proofs.YtkpoheknmcepnaaGreatDoor
set_option linter.unusedVariables false

theorem xor_back (a b : Nat) : a ^^^ b ^^^ b = a := by rw [Nat.xor_assoc, Nat.xor_self, Nat.xor_zero]
theorem xor_left_eq {a b c : Nat} (h : a ^^^ c = b ^^^ c) : a = b := by rw [← xor_back a c, h, xor_back]
theorem xor_right_eq {a b c : Nat} (h : c ^^^ a = c ^^^ b) : a = b := xor_left_eq (c := c) (by rw [Nat.xor_comm a, Nat.xor_comm b, h])
theorem xor_zero_eq {a b : Nat} (h : a ^^^ b = 0) : a = b := xor_left_eq (c := b) (by rw [h, Nat.xor_self])
theorem xor_mod2 (u v : Nat) : (u ^^^ v) % 2 = (u % 2) ^^^ (v % 2) := Nat.xor_mod_two_pow (n := 1)
theorem xor_half (u v : Nat) : (u ^^^ v) / 2 = (u / 2) ^^^ (v / 2) := Nat.xor_div_two_pow (n := 1)
theorem crcBit_xor (u v : Nat) : crcBit (u ^^^ v) = crcBit u ^^^ crcBit v := by
  have hm := xor_mod2 u v
  have hh := xor_half u v
  by_cases hu : u % 2 = 1
  · by_cases hv : v % 2 = 1
    · rw [hu, hv] at hm
      rw [crcBit_even (by rw [hm]; decide), crcBit_odd hu, crcBit_odd hv, hh]
      rw [Nat.xor_assoc, Nat.xor_comm 3988292384, Nat.xor_assoc, Nat.xor_self, Nat.xor_zero]
    · rw [hu, show v % 2 = 0 by omega] at hm
      rw [crcBit_odd (by rw [hm]; rfl), crcBit_odd hu, crcBit_even hv, hh]
      rw [Nat.xor_assoc, Nat.xor_comm (v / 2), ← Nat.xor_assoc]
  · by_cases hv : v % 2 = 1
    · rw [hv, show u % 2 = 0 by omega] at hm
      rw [crcBit_odd (by rw [hm]; rfl), crcBit_even hu, crcBit_odd hv, hh, Nat.xor_assoc]
    · rw [show v % 2 = 0 by omega, show u % 2 = 0 by omega] at hm
      rw [crcBit_even (by rw [hm]; decide), crcBit_even hu, crcBit_even hv, hh]
theorem crcBits_xor (m u v : Nat) : crcBits m (u ^^^ v) = crcBits m u ^^^ crcBits m v := by
  induction m with
  | zero => rfl
  | succ m ih => show crcBit (crcBits m (u ^^^ v)) = crcBit _ ^^^ crcBit _; rw [ih, crcBit_xor]
theorem turn_high {x : Nat} (h : x < 2147483648) : 2147483648 ≤ x ^^^ 3988292384 := by
  have h1 : (x ^^^ 3988292384) / 2 ^ 31 = (x / 2 ^ 31) ^^^ (3988292384 / 2 ^ 31) := Nat.xor_div_two_pow
  rw [show x / 2 ^ 31 = 0 from Nat.div_eq_of_lt h, Nat.zero_xor] at h1
  have h2 : 3988292384 / 2 ^ 31 = 1 := by decide
  rw [h2] at h1
  omega
theorem crcBit_low {z : Nat} (hz : z < 4294967296) (h : crcBit z < 2147483648) : z = 2 * crcBit z := by
  by_cases ho : z % 2 = 1
  · rw [crcBit_odd ho] at h
    have := turn_high (x := z / 2) (by omega)
    omega
  · rw [crcBit_even ho]; omega
theorem crcBits_low {z : Nat} (hz : z < 4294967296) : ∀ m, m ≤ 8 → crcBits m z < 2 ^ (32 - m) → z = 2 ^ m * crcBits m z
  | 0, _, _ => by show z = 1 * z; omega
  | m + 1, hm, h => by
    have hu := crcBits_lt m hz
    have e1 : 2 ^ (32 - m) = 2 * 2 ^ (32 - (m + 1)) := by rw [show 32 - m = (32 - (m + 1)) + 1 by omega, Nat.pow_succ, Nat.mul_comm]
    have e2 : 2 ^ (32 - (m + 1)) ≤ 2 ^ 31 := Nat.pow_le_pow_right (by decide) (by omega)
    have h' : crcBit (crcBits m z) < 2 ^ (32 - (m + 1)) := h
    have h1 := crcBit_low hu (Nat.lt_of_lt_of_le h' e2)
    have h2 := crcBits_low hz m (by omega) (by omega)
    rw [h1] at h2
    show z = 2 ^ (m + 1) * crcBit (crcBits m z)
    rw [Nat.pow_succ, Nat.mul_assoc]
    exact h2
theorem crc8_low {z : Nat} (hz : z < 4294967296) (h : crcBits 8 z < 16777216) : z = 256 * crcBits 8 z := crcBits_low hz 8 (by decide) h
theorem crc8_inj {u v : Nat} (hu : u < 4294967296) (hv : v < 4294967296) (h : crcBits 8 u = crcBits 8 v) : u = v := by
  have h1 : crcBits 8 (u ^^^ v) = 0 := by rw [crcBits_xor, h, Nat.xor_self]
  have h2 := crc8_low (xor_lt32 hu hv) (by rw [h1]; decide)
  rw [h1] at h2
  exact xor_zero_eq (h2.trans rfl)
theorem crcRow_same {d f : Nat → Nat} : ∀ k, (∀ j, j < k → d j = f j) → crcRow d k = crcRow f k
  | 0, _ => rfl
  | k + 1, h => by
    show crcBits 8 (crcRow d k ^^^ d k) = crcBits 8 (crcRow f k ^^^ f k)
    rw [crcRow_same k (fun j hj => h j (by omega)), h k (by omega)]
/-- Behind a place from which on the bytes are the same, the sums tell as they do there. -/
theorem crcRow_back {d f : Nat → Nat} (p : Nat) : ∀ n, p ≤ n → (∀ j, j < n → d j < 256 ∧ f j < 256) → (∀ j, p ≤ j → j < n → d j = f j) → crcRow d n = crcRow f n → crcRow d p = crcRow f p
  | 0, hp, _, _, h => by rw [show p = 0 by omega]; exact h
  | n + 1, hp, hb, hs, h => by
    by_cases e : p = n + 1
    · rw [e]; exact h
    · have h1 : crcBits 8 (crcRow d n ^^^ d n) = crcBits 8 (crcRow f n ^^^ f n) := h
      have hd := crcRow_lt d n (fun j hj => (hb j (by omega)).1)
      have hf := crcRow_lt f n (fun j hj => (hb j (by omega)).2)
      have h2 := crc8_inj (xor_lt32 hd (by have := (hb n (by omega)).1; omega)) (xor_lt32 hf (by have := (hb n (by omega)).2; omega)) h1
      rw [hs n (by omega) (by omega)] at h2
      exact crcRow_back p n (by omega) (fun j hj => hb j (by omega)) (fun j h1 h2 => hs j h1 (by omega)) (xor_left_eq h2)
/-- One byte is another one. -/
theorem crc_tells_one {d f : Nat → Nat} {p n : Nat} (hp : p < n) (hb : ∀ j, j < n → d j < 256 ∧ f j < 256) (hs : ∀ j, j < n → j ≠ p → d j = f j) (hne : d p ≠ f p) : crcRow d n ≠ crcRow f n := fun h => by
  have h1 : crcBits 8 (crcRow d p ^^^ d p) = crcBits 8 (crcRow f p ^^^ f p) := crcRow_back (p + 1) n (by omega) hb (fun j h1 h2 => hs j h2 (by omega)) h
  have hd := crcRow_lt d p (fun j hj => (hb j (by omega)).1)
  have hf := crcRow_lt f p (fun j hj => (hb j (by omega)).2)
  have h2 := crc8_inj (xor_lt32 hd (by have := (hb p (by omega)).1; omega)) (xor_lt32 hf (by have := (hb p (by omega)).2; omega)) h1
  rw [crcRow_same p (fun j hj => hs j (by omega) (by omega))] at h2
  exact hne (xor_right_eq h2)
theorem xor_move {a b c e : Nat} (h : a ^^^ b = c ^^^ e) : a ^^^ c = b ^^^ e := by
  have h1 : a = c ^^^ e ^^^ b := by rw [← h, xor_back]
  rw [h1, Nat.xor_comm (c ^^^ e ^^^ b) c, ← Nat.xor_assoc, ← Nat.xor_assoc, Nat.xor_self, Nat.zero_xor, Nat.xor_comm]
/-- Four bytes in a row, of which one at least is another one. -/
theorem crc_tells_four {d f : Nat → Nat} {p n : Nat} (hp : p + 4 ≤ n) (hb : ∀ j, j < n → d j < 256 ∧ f j < 256) (hs : ∀ j, j < n → j < p ∨ p + 4 ≤ j → d j = f j) (h : crcRow d n = crcRow f n) :
    d p = f p ∧ d (p + 1) = f (p + 1) ∧ d (p + 2) = f (p + 2) ∧ d (p + 3) = f (p + 3) := by
  have h4 := crcRow_back (p + 4) n hp hb (fun j h1 h2 => hs j h2 (.inr h1)) h
  have h0 := crcRow_same (d := d) (f := f) p (fun j hj => hs j (by omega) (.inl hj))
  have step : ∀ q, q < n → crcRow d (q + 1) ^^^ crcRow f (q + 1) = crcBits 8 ((crcRow d q ^^^ crcRow f q) ^^^ (d q ^^^ f q)) := fun q hq => by
    have e : (crcRow d q ^^^ crcRow f q) ^^^ (d q ^^^ f q) = (crcRow d q ^^^ d q) ^^^ (crcRow f q ^^^ f q) := by
      rw [Nat.xor_assoc, ← Nat.xor_assoc (crcRow f q), Nat.xor_comm (crcRow f q) (d q), Nat.xor_assoc, ← Nat.xor_assoc]
    rw [e, crcBits_xor]; rfl
  have lt : ∀ q, q ≤ n → crcRow d q ^^^ crcRow f q < 4294967296 := fun q hq => xor_lt32 (crcRow_lt d q fun j hj => (hb j (by omega)).1) (crcRow_lt f q fun j hj => (hb j (by omega)).2)
  have le : ∀ q, q < n → d q ^^^ f q < 256 := fun q hq => Nat.xor_lt_two_pow (n := 8) (hb q hq).1 (hb q hq).2
  have s0 := step p (by omega)
  have s1 := step (p + 1) (by omega)
  have s2 := step (p + 2) (by omega)
  have s3 := step (p + 3) (by omega)
  have l0 := le p (by omega)
  have l1 := le (p + 1) (by omega)
  have l2 := le (p + 2) (by omega)
  have l3 := le (p + 3) (by omega)
  have t1 := lt (p + 1) (by omega)
  have t2 := lt (p + 2) (by omega)
  have t3 := lt (p + 3) (by omega)
  rw [h0, Nat.xor_self, Nat.zero_xor] at s0
  rw [h4, Nat.xor_self] at s3
  show d p = f p ∧ _
  suffices H : d p ^^^ f p = 0 ∧ d (p + 1) ^^^ f (p + 1) = 0 ∧ d (p + 2) ^^^ f (p + 2) = 0 ∧ d (p + 3) ^^^ f (p + 3) = 0 from ⟨xor_zero_eq H.1, xor_zero_eq H.2.1, xor_zero_eq H.2.2.1, xor_zero_eq H.2.2.2⟩
  generalize d p ^^^ f p = e0 at *
  generalize d (p + 1) ^^^ f (p + 1) = e1 at *
  generalize d (p + 2) ^^^ f (p + 2) = e2 at *
  generalize d (p + 3) ^^^ f (p + 3) = e3 at *
  generalize crcRow d (p + 1) ^^^ crcRow f (p + 1) = x1 at *
  generalize crcRow d (p + 1 + 1) ^^^ crcRow f (p + 1 + 1) = x2 at *
  generalize crcRow d (p + 2 + 1) ^^^ crcRow f (p + 2 + 1) = x3 at *
  clear step lt le h0 h4 h hb hs
  have q3 : x3 = e3 := xor_zero_eq (by
    have := crc8_low (z := x3 ^^^ e3) (xor_lt32 t3 (by omega)) (by rw [← s3]; decide)
    rw [← s3] at this; exact this)
  have q2 : x2 ^^^ e2 = 256 * x3 := by
    have := crc8_low (z := x2 ^^^ e2) (xor_lt32 t2 (by omega)) (by rw [← s2]; omega)
    rw [← s2] at this; exact this
  have b2 : x2 < 65536 := by
    rw [← xor_back x2 e2, q2]
    exact Nat.xor_lt_two_pow (n := 16) (by omega) (by omega)
  have q1 : x1 ^^^ e1 = 256 * x2 := by
    have := crc8_low (z := x1 ^^^ e1) (xor_lt32 t1 (by omega)) (by rw [← s1]; omega)
    rw [← s1] at this; exact this
  have b1 : x1 < 16777216 := by
    rw [← xor_back x1 e1, q1]
    exact Nat.xor_lt_two_pow (n := 24) (by omega) (by omega)
  have q0 : e0 = 256 * x1 := by
    have := crc8_low (z := e0) (by omega) (by rw [← s0]; omega)
    rw [← s0] at this; exact this
  have z1 : x1 = 0 := by omega
  rw [z1, Nat.zero_xor] at q1
  have z2 : x2 = 0 := by omega
  rw [z2, Nat.zero_xor] at q2
  omega
theorem crcEnd_inj {x y : Nat} (h : crcEnd x = crcEnd y) : x = y := xor_right_eq h

theorem sumRow_same {d f : Nat → Nat} (s : Nat) : ∀ k, (∀ j, j < k → d j = f j) → sumRow s d k = sumRow s f k
  | 0, _ => rfl
  | k + 1, h => by
    show (sumRow s d k + d k) % 256 = (sumRow s f k + f k) % 256
    rw [sumRow_same s k (fun j hj => h j (by omega)), h k (by omega)]
theorem sumRow_back {d f : Nat → Nat} {s : Nat} (h0 : s < 256) (p : Nat) : ∀ n, p ≤ n → (∀ j, p ≤ j → j < n → d j = f j) → sumRow s d n = sumRow s f n → sumRow s d p = sumRow s f p
  | 0, hp, _, h => by rw [show p = 0 by omega]; exact h
  | n + 1, hp, hs, h => by
    by_cases e : p = n + 1
    · rw [e]; exact h
    · have h1 : (sumRow s d n + d n) % 256 = (sumRow s f n + f n) % 256 := h
      have hd := sumRow_lt h0 d n
      have hf := sumRow_lt h0 f n
      rw [hs n (by omega) (by omega)] at h1
      exact sumRow_back h0 p n (by omega) (fun j h1 h2 => hs j h1 (by omega)) (by omega)
/-- One byte is another one: the sum. -/
theorem sum_tells_one {d f : Nat → Nat} {s p n : Nat} (h0 : s < 256) (hp : p < n) (hb : ∀ j, j < n → d j < 256 ∧ f j < 256) (hs : ∀ j, j < n → j ≠ p → d j = f j) (hne : d p ≠ f p) : sumRow s d n ≠ sumRow s f n := fun h => by
  have h1 : (sumRow s d p + d p) % 256 = (sumRow s f p + f p) % 256 := sumRow_back h0 (p + 1) n (by omega) (fun j h1 h2 => hs j h2 (by omega)) h
  rw [sumRow_same s p (fun j hj => hs j (by omega) (by omega))] at h1
  have hd := (hb p hp).1
  have hf := (hb p hp).2
  have hx := sumRow_lt h0 f p
  omega
end Go.Proofs.YtkpoheknmcepnaaGreatDoor
