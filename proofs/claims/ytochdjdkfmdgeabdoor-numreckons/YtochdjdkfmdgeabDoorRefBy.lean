/-
  The reference's long division, bit by bit.
-/
import Derived.Test.YtochdjdkfmdgeabDoorProg
import Derived.Test.YtochdjdkfmdgeabDoorPlain
import Derived.WalkLawsBesides
import Derived.Deep.QuietTactic
import Derived.BigQuiet
namespace Go.Proofs.YtochdjdkfmdgeabDoor
set_option linter.unusedVariables false
open Go.RowKit

/-- Four limbs, and their number. -/
def limb (p0 p1 p2 p3 : Int) (j : Nat) : Int := if j = 0 then p0 else if j = 1 then p1 else if j = 2 then p2 else p3
def wideN (p0 p1 p2 p3 : Int) : Int := p0 + p1 * 4294967296 + p2 * 18446744073709551616 + p3 * 79228162514264337593543950336
theorem pow2_pos (j : Nat) : (0 : Int) < 2 ^ j := Int.pow_pos (by decide)
theorem div_div_pow (N : Int) (h : 0 ≤ N) (a b : Nat) : N / 2 ^ (a + b) = N / 2 ^ a / 2 ^ b := by
  rw [Int.pow_add, ← Int.ediv_ediv_of_nonneg (by have := pow2_pos a; omega)]
theorem limb_hi (p0 p1 p2 p3 : Int) (h0 : 0 ≤ p0 ∧ p0 < 4294967296) (h1 : 0 ≤ p1 ∧ p1 < 4294967296) (h2 : 0 ≤ p2 ∧ p2 < 4294967296) (h3 : 0 ≤ p3 ∧ p3 < 4294967296) (m : Nat) (hm : m < 4) :
    wideN p0 p1 p2 p3 / 2 ^ (32 * m) % 4294967296 = limb p0 p1 p2 p3 m := by
  unfold wideN limb
  have : m = 0 ∨ m = 1 ∨ m = 2 ∨ m = 3 := by omega
  rcases this with rfl | rfl | rfl | rfl
  · show _ / 1 % _ = _; simp only [if_true]; omega
  · show _ / 4294967296 % _ = _; simp; omega
  · show _ / 18446744073709551616 % _ = _; simp; omega
  · show _ / 79228162514264337593543950336 % _ = _; simp; omega
/-- A bit of a limb is a bit of the whole. -/
theorem bit_of (X : Int) (h : 0 ≤ X) (i : Nat) (hi : i < 32) : X % 4294967296 / 2 ^ i % 2 = X / 2 ^ i % 2 := by
  have hp := pow2_pos i
  have e : (4294967296 : Int) = 2 ^ i * (2 * 2 ^ (31 - i)) := by
    have : (4294967296 : Int) = 2 ^ (i + (1 + (31 - i))) := by rw [show i + (1 + (31 - i)) = 32 by omega]; rfl
    rw [this, Int.pow_add, Int.pow_add]; rfl
  have d := Int.mul_ediv_add_emod X 4294967296
  have e2 : X = X % 4294967296 + 2 ^ i * (2 * (2 ^ (31 - i) * (X / 4294967296))) := by
    have : 4294967296 * (X / 4294967296) = 2 ^ i * (2 * (2 ^ (31 - i) * (X / 4294967296))) := by
      conv => lhs; rw [e]
      grind
    omega
  have e3 : X / 2 ^ i = X % 4294967296 / 2 ^ i + 2 * (2 ^ (31 - i) * (X / 4294967296)) := by
    conv => lhs; rw [e2]
    rw [Int.add_mul_ediv_left _ _ (by omega)]
  rw [e3]; omega
theorem bit_wide (p0 p1 p2 p3 : Int) (h0 : 0 ≤ p0 ∧ p0 < 4294967296) (h1 : 0 ≤ p1 ∧ p1 < 4294967296) (h2 : 0 ≤ p2 ∧ p2 < 4294967296) (h3 : 0 ≤ p3 ∧ p3 < 4294967296) (j : Nat) (hj : j < 128) :
    limb p0 p1 p2 p3 (j / 32) / 2 ^ (j % 32) % 2 = wideN p0 p1 p2 p3 / 2 ^ j % 2 := by
  have hN : 0 ≤ wideN p0 p1 p2 p3 := by unfold wideN; omega
  rw [← limb_hi p0 p1 p2 p3 h0 h1 h2 h3 (j / 32) (by omega)]
  have hX : 0 ≤ wideN p0 p1 p2 p3 / 2 ^ (32 * (j / 32)) := Int.ediv_nonneg hN (by have := pow2_pos (32 * (j / 32)); omega)
  rw [bit_of _ hX (j % 32) (Nat.mod_lt _ (by decide)), ← div_div_pow _ hN, Nat.div_add_mod]
theorem wide_lt (p0 p1 p2 p3 : Int) (h0 : 0 ≤ p0 ∧ p0 < 4294967296) (h1 : 0 ≤ p1 ∧ p1 < 4294967296) (h2 : 0 ≤ p2 ∧ p2 < 4294967296) (h3 : 0 ≤ p3 ∧ p3 < 4294967296) : wideN p0 p1 p2 p3 / 2 ^ 128 = 0 := by
  have : wideN p0 p1 p2 p3 < 2 ^ 128 := by
    show _ < (340282366920938463463374607431768211456 : Int)
    unfold wideN; omega
  exact Int.ediv_eq_zero_of_lt (by unfold wideN; omega) this
/-- One bit more. -/
theorem by_step (X c q r bit : Int) (hc : 0 < c) (hq : q = X / c) (hr : r = X % c) (hb0 : 0 ≤ bit) (hb1 : bit ≤ 1) :
    (2 * r + bit < c → (2 * X + bit) / c = 2 * q ∧ (2 * X + bit) % c = 2 * r + bit) ∧ (c ≤ 2 * r + bit → (2 * X + bit) / c = 2 * q + 1 ∧ (2 * X + bit) % c = 2 * r + bit - c) := by
  have e := Int.mul_ediv_add_emod X c
  have m0 := Int.emod_nonneg X (by omega : c ≠ 0)
  have m1 := Int.emod_lt_of_pos X hc
  rw [← hq, ← hr] at e
  rw [← hr] at m0 m1
  refine ⟨fun h => ?_, fun h => ?_⟩
  · exact (Int.ediv_emod_unique (a := 2 * X + bit) (r := 2 * r + bit) (q := 2 * q) hc).2 ⟨by grind, by omega, by omega⟩
  · exact (Int.ediv_emod_unique (a := 2 * X + bit) (r := 2 * r + bit - c) (q := 2 * q + 1) hc).2 ⟨by grind, by omega, by omega⟩
theorem half (N : Int) (h : 0 ≤ N) (j : Nat) : N / 2 ^ j = 2 * (N / 2 ^ (j + 1)) + N / 2 ^ j % 2 := by
  rw [div_div_pow N h j 1]
  show N / 2 ^ j = 2 * (N / 2 ^ j / 2) + _
  omega
end Go.Proofs.YtochdjdkfmdgeabDoor
