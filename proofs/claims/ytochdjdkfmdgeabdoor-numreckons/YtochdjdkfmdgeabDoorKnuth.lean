/-
  Plain mathematics of a long division: one digit of the quotient.
-/
import Derived.WalkKit
namespace Go.Proofs.YtochdjdkfmdgeabDoor
set_option linter.unusedVariables false

theorem kn_start {U A B Y C q : Int} (hA : 2147483648 ≤ A) (hB : 0 ≤ B) (hB1 : B < 4294967296) (hY : Y = A * 4294967296 + B) (hU0 : 0 ≤ U) (hU : U < Y) (hC0 : 0 ≤ C) (hC : C < 4294967296) (hq : q = U / A) :
    (U * 4294967296 + C) / Y ≤ q ∧ q ≤ 4294967297 ∧ 0 ≤ q ∧ 0 ≤ U - q * A ∧ U - q * A < A := by
  have hA0 : 0 < A := by omega
  have e := Int.mul_ediv_add_emod U A
  have m0 := Int.emod_nonneg U (by omega : A ≠ 0)
  have m1 := Int.emod_lt_of_pos U hA0
  rw [← hq, Int.mul_comm] at e
  have hq0 : 0 ≤ q := by rw [hq]; exact Int.ediv_nonneg hU0 (by omega)
  refine ⟨?_, ?_, hq0, by omega, by omega⟩
  · have h1 : U * 4294967296 + C < (q + 1) * Y := by
      have h2 : (q + 1) * Y = (q * A + A) * 4294967296 + (q + 1) * B := by rw [hY]; grind
      have h3 : 0 ≤ (q + 1) * B := Int.mul_nonneg (by omega) hB
      rw [h2]; omega
    have := (Int.ediv_lt_iff_lt_mul (by omega : 0 < Y)).2 h1
    omega
  · have h1 : U < 4294967298 * A := by omega
    have := (Int.ediv_lt_iff_lt_mul hA0).2 h1
    omega
theorem kn_mul {U A B Y C q r : Int} (hY : Y = A * 4294967296 + B) (hr : r = U - q * A) :
    U * 4294967296 + C - q * Y = r * 4294967296 + C - q * B := by
  rw [hY, hr]; grind
theorem kn_exit {U A B Y C q r : Int} (hY0 : 0 < Y) (hY : Y = A * 4294967296 + B) (hr : r = U - q * A) (hle : (U * 4294967296 + C) / Y ≤ q) (hc : q * B ≤ 4294967296 * r + C) : q = (U * 4294967296 + C) / Y := by
  have h := kn_mul (C := C) hY hr
  have h1 : q * Y ≤ U * 4294967296 + C := by omega
  have := (Int.le_ediv_iff_mul_le hY0).2 h1
  omega
theorem kn_dec {U A B Y C q r : Int} (hY0 : 0 < Y) (hY : Y = A * 4294967296 + B) (hU : U < Y) (hC : C < 4294967296) (hr : r = U - q * A) (hc : 4294967296 ≤ q ∨ 4294967296 * r + C < q * B) : (U * 4294967296 + C) / Y ≤ q - 1 := by
  have h := kn_mul (C := C) hY hr
  rcases hc with hc | hc
  · have h1 : U * 4294967296 + C < 4294967296 * Y := by omega
    have := (Int.ediv_lt_iff_lt_mul hY0).2 h1
    omega
  · have h1 : U * 4294967296 + C < q * Y := by omega
    have := (Int.ediv_lt_iff_lt_mul hY0).2 h1
    omega
theorem kn_break {U A B Y C q r : Int} (hY0 : 0 < Y) (hY : Y = A * 4294967296 + B) (hB : 0 ≤ B) (hB1 : B < 4294967296) (hC : 0 ≤ C) (hr : r = U - q * A) (hle : (U * 4294967296 + C) / Y ≤ q) (hq : q ≤ 4294967296) (hq0 : 0 ≤ q) (hr1 : 4294967296 ≤ r) : q = (U * 4294967296 + C) / Y := by
  have h1 : q * B ≤ 4294967296 * B := Int.mul_le_mul_of_nonneg_right hq hB
  exact kn_exit hY0 hY hr hle (by omega)
theorem kn_rest {U Y C : Int} (hY0 : 0 < Y) : 0 ≤ U * 4294967296 + C - (U * 4294967296 + C) / Y * Y ∧ U * 4294967296 + C - (U * 4294967296 + C) / Y * Y < Y := by
  have e := Int.mul_ediv_add_emod (U * 4294967296 + C) Y
  have m0 := Int.emod_nonneg (U * 4294967296 + C) (by omega : Y ≠ 0)
  have m1 := Int.emod_lt_of_pos (U * 4294967296 + C) hY0
  rw [Int.mul_comm] at e
  omega
theorem kn_lt {U Y C : Int} (hU0 : 0 ≤ U) (hC0 : 0 ≤ C) (hU : U < Y) (hC : C < 4294967296) : 0 ≤ (U * 4294967296 + C) / Y ∧ (U * 4294967296 + C) / Y < 4294967296 :=
  ⟨Int.ediv_nonneg (by omega) (by omega), (Int.ediv_lt_iff_lt_mul (by omega : 0 < Y)).2 (by omega)⟩
end Go.Proofs.YtochdjdkfmdgeabDoor
