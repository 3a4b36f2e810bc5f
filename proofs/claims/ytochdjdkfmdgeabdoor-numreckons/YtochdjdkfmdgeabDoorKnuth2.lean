/-
  bits.Div64, MulDiv, Mul, Add: what they tell.
-/
import Derived.Test.YtochdjdkfmdgeabDoorKnuth
import Derived.Lib.BitFns
import Derived.Laws.BitsAllLaws
namespace Go.Proofs.YtochdjdkfmdgeabDoor
set_option linter.unusedVariables false
open Go.RowKit Go.Lib

theorem bitLen_pow : ∀ (x : Nat), x ≠ 0 → x < 2 ^ 64 → 2 ^ (Lib.bitLen x - 1) ≤ x ∧ x < 2 ^ Lib.bitLen x ∧ 1 ≤ Lib.bitLen x := by
  intro x
  induction x using Nat.strongRecOn with
  | _ x ih =>
    intro h0 h
    rw [Lib.bitLen_half x h0 h]
    by_cases h1 : x / 2 = 0
    · rw [h1]
      have hb : Lib.bitLen 0 = 0 := by decide
      rw [hb]
      have : x = 1 := by omega
      subst this
      decide
    · obtain ⟨a, b, c⟩ := ih (x / 2) (by omega) h1 (by omega)
      have e : 1 + Lib.bitLen (x / 2) - 1 = (Lib.bitLen (x / 2) - 1) + 1 := by omega
      refine ⟨?_, ?_, by omega⟩
      · rw [e, Nat.pow_succ]; omega
      · rw [Nat.add_comm, Nat.pow_succ]; omega
theorem bitLen_le (x : Nat) (h : x < 2 ^ 64) : Lib.bitLen x ≤ 64 := by
  by_cases h0 : x = 0
  · subst h0; decide
  · obtain ⟨a, _, _⟩ := bitLen_pow x h0 h
    have h2 : 2 ^ (Lib.bitLen x - 1) < 2 ^ 64 := Nat.lt_of_le_of_lt a h
    have := (Nat.pow_lt_pow_iff_right (by decide : 1 < 2)).1 h2
    omega
/-- How far a number is moved, and what of it comes. -/
theorem shift_of (y : Int) (h0 : 0 < y) (h1 : y ≤ 18446744073709551615) : ∃ s : Nat, (64 : Int) - (Lib.bitLen y.toNat : Int) = s ∧ s < 64 ∧ 9223372036854775808 ≤ y * 2 ^ s ∧ y * 2 ^ s ≤ 18446744073709551615 := by
  obtain ⟨x, rfl⟩ : ∃ x : Nat, y = x := ⟨y.toNat, by omega⟩
  have hx : x < 2 ^ 64 := by omega
  obtain ⟨a, b, c⟩ := bitLen_pow x (by omega) hx
  have hl := bitLen_le x hx
  rw [Int.toNat_natCast]
  refine ⟨64 - Lib.bitLen x, by omega, by omega, ?_, ?_⟩
  · have h2 : 2 ^ (Lib.bitLen x - 1) * 2 ^ (64 - Lib.bitLen x) ≤ x * 2 ^ (64 - Lib.bitLen x) := Nat.mul_le_mul_right _ a
    rw [← Nat.pow_add, show Lib.bitLen x - 1 + (64 - Lib.bitLen x) = 63 by omega] at h2
    have h3 : ((x * 2 ^ (64 - Lib.bitLen x) : Nat) : Int) = (x : Int) * 2 ^ (64 - Lib.bitLen x) := by simp
    rw [← h3]; omega
  · have h2 : x * 2 ^ (64 - Lib.bitLen x) < 2 ^ Lib.bitLen x * 2 ^ (64 - Lib.bitLen x) := Nat.mul_lt_mul_of_pos_right b (Nat.two_pow_pos _)
    rw [← Nat.pow_add, show Lib.bitLen x + (64 - Lib.bitLen x) = 64 by omega] at h2
    have h3 : ((x * 2 ^ (64 - Lib.bitLen x) : Nat) : Int) = (x : Int) * 2 ^ (64 - Lib.bitLen x) := by simp
    rw [← h3]; omega
theorem wrap_id {x : Int} (h0 : 0 ≤ x) (h1 : x ≤ 18446744073709551615) : IntKind.u64.wrap x = x := by
  rw [IntKind.wrap_u64]; omega
theorem and_low (x : Int) (h0 : 0 ≤ x) (h1 : x ≤ 18446744073709551615) : bits .and .u64 x 4294967295 = x % 4294967296 := by
  obtain ⟨n, rfl⟩ : ∃ n : Nat, x = n := ⟨x.toNat, by omega⟩
  have h := u64_and_nat n 4294967295 (by omega) (by decide)
  have e : n &&& 4294967295 = n % 4294967296 := Nat.and_two_pow_sub_one_eq_mod n 32
  rw [e] at h
  exact h
/-- High and low part, moved. -/
theorem or_parts (hi lo : Int) (s : Nat) (hs : s < 64) (h0 : 0 ≤ hi) (hh : hi * 2 ^ s ≤ 18446744073709551615) (l0 : 0 ≤ lo) (l1 : lo ≤ 18446744073709551615) :
    bits .or .u64 (IntKind.u64.wrap (hi * 2 ^ s)) (lo / 2 ^ (64 - s)) = hi * 2 ^ s + lo / 2 ^ (64 - s) := by
  obtain ⟨a, rfl⟩ : ∃ n : Nat, hi = n := ⟨hi.toNat, by omega⟩
  obtain ⟨b, rfl⟩ : ∃ n : Nat, lo = n := ⟨lo.toNat, by omega⟩
  have e1 : (a : Int) * 2 ^ s = ((a * 2 ^ s : Nat) : Int) := by simp
  have e2 : (b : Int) / 2 ^ (64 - s) = ((b / 2 ^ (64 - s) : Nat) : Int) := by simp
  rw [e1] at hh ⊢
  rw [e2, wrap_id (by omega) hh]
  have hb : b / 2 ^ (64 - s) < 2 ^ s := by
    apply Nat.div_lt_of_lt_mul
    rw [← Nat.pow_add, show 64 - s + s = 64 by omega]
    omega
  have hb2 : b / 2 ^ (64 - s) < 18446744073709551616 := Nat.lt_of_le_of_lt (Nat.div_le_self _ _) (by omega)
  have h := u64_or_nat (a * 2 ^ s) (b / 2 ^ (64 - s)) (by omega) hb2
  have e3 : a * 2 ^ s ||| b / 2 ^ (64 - s) = a * 2 ^ s + b / 2 ^ (64 - s) := by
    rw [Nat.mul_comm]
    exact (Nat.two_pow_add_eq_or_of_lt hb a).symm
  rw [e3] at h
  rw [h]; simp
end Go.Proofs.YtochdjdkfmdgeabDoor
