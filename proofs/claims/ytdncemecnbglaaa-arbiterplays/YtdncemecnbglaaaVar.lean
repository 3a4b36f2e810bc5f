/-
  Plain mathematics: numbers as bytes, the highest first; numbers in as few bytes as may be.
-/
import Derived.Test.YtdncemecnbglaaaPlain
namespace Go.Proofs.Ytdncemecnbglaaa
set_option linter.unusedVariables false

/-- The first m of the s bytes of a number, the highest first. -/
def putTo (n s m : Nat) : List Nat := (List.range m).map fun k => n / 2 ^ (8 * (s - 1 - k)) % 256
theorem putTo_succ (n s m : Nat) : putTo n s (m + 1) = putTo n s m ++ [n / 2 ^ (8 * (s - 1 - m)) % 256] := by simp [putTo, List.range_succ]
theorem putTo_length (n s m : Nat) : (putTo n s m).length = m := by simp [putTo]
theorem putTo_lt {n s m x : Nat} (h : x ∈ putTo n s m) : x < 256 := by
  simp only [putTo, List.mem_map] at h
  obtain ⟨k, _, rfl⟩ := h
  exact Nat.mod_lt _ (by decide)
/-- A number of bytes, the highest first. -/
def getN (d : Nat → Nat) : Nat → Nat
  | 0 => 0
  | k + 1 => getN d k * 256 + d k
theorem getN_lt (d : Nat → Nat) (k : Nat) (h : ∀ j, j < k → d j < 256) : getN d k < 256 ^ k := by
  induction k with
  | zero => simp [getN]
  | succ k ih =>
    have h1 := ih fun j hj => h j (by omega)
    have h2 := h k (by omega)
    unfold getN
    rw [Nat.pow_succ]
    have h3 : getN d k + 1 ≤ 256 ^ k := h1
    have := Nat.mul_le_mul_right 256 h3
    omega
theorem getN_lt8 (d : Nat → Nat) (k : Nat) (hk : k ≤ 8) (h : ∀ j, j < k → d j < 256) : getN d k < 18446744073709551616 :=
  Nat.lt_of_lt_of_le (getN_lt d k h) (by have := Nat.pow_le_pow_right (n := 256) (by decide) hk; simpa using this)
theorem getN_ext {d e : Nat → Nat} (k : Nat) (h : ∀ j, j < k → d j = e j) : getN d k = getN e k := by
  induction k with
  | zero => rfl
  | succ k ih => unfold getN; rw [ih fun j hj => h j (by omega), h k (by omega)]
/-- A number in as few bytes as may be. -/
def varL (u : Nat) : List Nat := if h : u < 128 then [u] else (u % 128 + 128) :: varL (u / 128)
  termination_by u
  decreasing_by omega
theorem varL_small {u : Nat} (h : u < 128) : varL u = [u] := by rw [varL, dif_pos h]
theorem varL_big {u : Nat} (h : ¬ u < 128) : varL u = (u % 128 + 128) :: varL (u / 128) := by rw [varL, dif_neg h]
theorem varL_length : ∀ (k u : Nat), u < 128 ^ (k + 1) → (varL u).length ≤ k + 1
  | 0, u, h => by rw [varL_small (by simpa using h)]; simp
  | k + 1, u, h => by
    by_cases h1 : u < 128
    · rw [varL_small h1]; simp
    · rw [varL_big h1]
      have := varL_length k (u / 128) (by rw [Nat.div_lt_iff_lt_mul (by decide)]; rw [Nat.pow_succ] at h; exact h)
      simp; omega
theorem varL_length10 {u : Nat} (h : u < 18446744073709551616) : (varL u).length ≤ 10 := varL_length 9 u (by omega)
theorem varL_lt : ∀ (u : Nat), ∀ x ∈ varL u, x < 256 := fun u => by
  induction u using Nat.strongRecOn with
  | ind u ih =>
    intro x hx
    by_cases h : u < 128
    · rw [varL_small h] at hx; simp at hx; omega
    · rw [varL_big h] at hx
      rcases List.mem_cons.1 hx with rfl | hx
      · omega
      · exact ih (u / 128) (by omega) x hx
/-- Numbers near nought on either side as small ones, and back. -/
def foldN (n : Int) : Nat := if n < 0 then (2 * (-(n + 1)) + 1).toNat else (2 * n).toNat
def unf (u : Nat) : Int := if u % 2 = 1 then -((u / 2 : Nat) : Int) - 1 else ((u / 2 : Nat) : Int)
theorem foldN_lt {n : Int} (h0 : -9223372036854775808 ≤ n) (h1 : n ≤ 9223372036854775807) : foldN n < 18446744073709551616 := by
  unfold foldN; split <;> omega
theorem unf_fold (n : Int) : unf (foldN n) = n := by unfold unf foldN; split <;> split <;> omega
/-- What is read of bytes: the number and how many they are. -/
def gv (d : Nat → Nat) (n : Nat) : Nat → Nat → Nat → Option (Nat × Nat)
  | 0, _, _ => none
  | f + 1, k, u => if k < n then (if k = 9 ∧ 1 < d k then none else if 128 ≤ d k then gv d n f (k + 1) (u + d k % 128 * 2 ^ (7 * k)) else if d k = 0 ∧ 0 < k then none else some (u + d k % 128 * 2 ^ (7 * k), k + 1)) else none
def gvr (d : Nat → Nat) (n : Nat) : Option (Nat × Nat) := gv d n 10 0 0
def gvV : Option (Nat × Nat) → Int
  | none => 0
  | some q => unf q.1
def gvK : Option (Nat × Nat) → Nat
  | none => 0
  | some q => q.2
theorem gv_end {d : Nat → Nat} {n f k u : Nat} (h : ¬ k < n) : gv d n f k u = none := by
  cases f with
  | zero => rfl
  | succ f => unfold gv; rw [if_neg h]
theorem gv_nine {d : Nat → Nat} {n f u : Nat} (h : 1 < d 9) : gv d n f 9 u = none := by
  cases f with
  | zero => rfl
  | succ f =>
    unfold gv
    split
    · rw [if_pos ⟨rfl, h⟩]
    · rfl
theorem gv_on {d : Nat → Nat} {n f k u : Nat} (h : k < n) (h9 : ¬ (k = 9 ∧ 1 < d k)) (hc : 128 ≤ d k) : gv d n (f + 1) k u = gv d n f (k + 1) (u + d k % 128 * 2 ^ (7 * k)) := by
  rw [gv, if_pos h, if_neg h9, if_pos hc]
theorem gv_long {d : Nat → Nat} {n f k u : Nat} (hc : d k = 0) (hk : 0 < k) : gv d n f k u = none := by
  cases f with
  | zero => rfl
  | succ f =>
    unfold gv
    split
    · rw [if_neg (by omega), if_neg (by omega), if_pos ⟨hc, hk⟩]
    · rfl
theorem gv_done {d : Nat → Nat} {n f k u : Nat} (h : k < n) (h9 : ¬ (k = 9 ∧ 1 < d k)) (hc : d k < 128) (h0 : ¬ (d k = 0 ∧ 0 < k)) : gv d n (f + 1) k u = some (u + d k % 128 * 2 ^ (7 * k), k + 1) := by
  rw [gv, if_pos h, if_neg h9, if_neg (by omega), if_neg h0]
theorem gv_ext {d e : Nat → Nat} {n : Nat} (h : ∀ j, j < n → d j = e j) : ∀ f k u, gv d n f k u = gv e n f k u
  | 0, k, u => rfl
  | f + 1, k, u => by
    unfold gv
    by_cases hk : k < n
    · rw [if_pos hk, if_pos hk, h k hk, gv_ext h f]
    · rw [if_neg hk, if_neg hk]
/-- How a sum of sevens grows. -/
theorem gv_room {k c u : Nat} (hk : k ≤ 9) (hu : u < 2 ^ (7 * k)) (h9 : ¬ (k = 9 ∧ 1 < c)) : c % 128 * 2 ^ (7 * k) < 18446744073709551616 ∧ u + c % 128 * 2 ^ (7 * k) < 18446744073709551616 ∧ u + c % 128 * 2 ^ (7 * k) < 2 ^ (7 * (k + 1)) := by
  have : k = 0 ∨ k = 1 ∨ k = 2 ∨ k = 3 ∨ k = 4 ∨ k = 5 ∨ k = 6 ∨ k = 7 ∨ k = 8 ∨ k = 9 := by omega
  rcases this with rfl | rfl | rfl | rfl | rfl | rfl | rfl | rfl | rfl | rfl <;> simp at hu h9 ⊢ <;> omega
end Go.Proofs.Ytdncemecnbglaaa
