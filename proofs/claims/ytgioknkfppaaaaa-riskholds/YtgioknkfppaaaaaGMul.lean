/-
  num: Add, Mul of small numbers.
-/
import Derived.Test.YtgioknkfppaaaaaHMem
import Derived.Test.YtgioknkfppaaaaaShelf
import Derived.Deep.QuietTactic
import Derived.BigQuiet
namespace Go.Proofs.Ytgioknkfppaaaaa
set_option linter.unusedVariables false
set_option linter.unusedSimpArgs false
open Go.Shelf Go.RowKit

theorem ret_int {k : IntKind} {a b : Int} (h : a = b) : Ending.returned (.int k a) = .returned (.int k b) := by rw [h]
theorem ret_bool {a b : Bool} (h : a = b) : Ending.returned (.bool a) = .returned (.bool b) := by rw [h]
theorem ret2 {a b c d : Value} (h : a = b) (g : c = d) : Ending.returned (.tuple #[a, c]) = .returned (.tuple #[b, d]) := by rw [h, g]
theorem ret3 {a b c d x y : Value} (h : a = b) (g : c = d) (f : x = y) : Ending.returned (.tuple #[a, c, x]) = .returned (.tuple #[b, d, y]) := by rw [h, g, f]
theorem vint {k : IntKind} {a b : Int} (h : a = b) : Value.int k a = .int k b := by rw [h]
theorem magnitude_pos (n : Int) (h0 : 0 ≤ n) (h1 : n ≤ 9223372036854775807) (w : World) :
    Calls Try.prog 57 #[.int .i64 n] w fun e w' => e = .returned (.int .u64 n) ∧ w' = w := by
  have hn : ¬ n < 0 := by omega
  go_enter Try.func57, Try.ntmps57
  go_wp2
  go_ret
  exact ⟨rfl, rfl⟩
set_option maxRecDepth 100000 in
set_option maxHeartbeats 400000 in
theorem Div64_low (lo y : Int) (w : World) (h0 : 0 ≤ lo) (h1 : lo ≤ 18446744073709551615) (hy : 0 < y) (hy1 : y ≤ 18446744073709551615) :
    Calls Try.prog 58 #[.int .u64 0, .int .u64 lo, .int .u64 y] w fun e w' => e = .returned (.tuple #[.int .u64 (lo / y), .int .u64 (lo % y)]) ∧ ∃ k, w' = w.drewN k := by
  have hy0 : (y == 0) = false := by simp; omega
  go_enter Try.func58, Try.ntmps58
  go_wp2
  go_quiet (fail)
  go_wp2
  go_ret2
  exact ⟨rfl, _, rfl⟩
theorem Mul64_low (x y : Int) (w : World) (hx0 : 0 ≤ x) (hx1 : x < 18446744073709551616) (hy0 : 0 ≤ y) (hy1 : y < 18446744073709551616) (hp : x * y < 18446744073709551616) :
    Calls Try.prog 56 #[.int .u64 x, .int .u64 y] w fun e w' => e = .returned (.tuple #[.int .u64 0, .int .u64 (x * y)]) ∧ w' = w := by
  have hp0 : 0 ≤ x * y := Int.mul_nonneg hx0 hy0
  obtain ⟨m, rfl⟩ : ∃ n : Nat, x = n := ⟨x.toNat, by omega⟩
  obtain ⟨n, rfl⟩ : ∃ n : Nat, y = n := ⟨y.toNat, by omega⟩
  have h := Try.bits_Mul64 m n (by omega) (by omega) w
  have e1 : ((m * n / 18446744073709551616 : Nat) : Int) = 0 := by
    have : (m : Int) * n / 18446744073709551616 = 0 := Int.ediv_eq_zero_of_lt hp0 hp
    rw [← this]; simp
  have e2 : ((m * n % 18446744073709551616 : Nat) : Int) = (m : Int) * n := by
    have : (m : Int) * n % 18446744073709551616 = (m : Int) * n := Int.emod_eq_of_lt hp0 hp
    rw [← this]; simp
  rw [e1, e2] at h; exact h
set_option maxRecDepth 100000 in
set_option maxHeartbeats 1000000 in
theorem MulDiv_one (a b : Int) (w : World) (a0 : 0 ≤ a) (a1 : a ≤ 1000000) (b0 : 0 ≤ b) (b1 : b ≤ 1000000000) :
    Calls Try.prog 54 #[.int .i64 a, .int .i64 b, .int .i64 1] w fun e w' => e = .returned (.tuple #[.int .i64 (a * b), .int .i64 0, .bool true]) ∧ ∃ k, w' = w.drewN k := by
  have g1 := fun w => magnitude_pos a a0 (by omega) w
  have g2 := fun w => magnitude_pos b b0 (by omega) w
  have hp0 : 0 ≤ a * b := Int.mul_nonneg a0 b0
  have hp1 : a * b ≤ 1000000 * 1000000000 := Int.mul_le_mul a1 b1 b0 (by omega)
  have g3 := fun w => Mul64_low a b w a0 (by omega) b0 (by omega) (by omega)
  have g4 := fun w => Div64_low (a * b) 1 w hp0 (by omega) (by omega) (by omega)
  rw [Int.ediv_one, Int.emod_one] at g4
  have hs : (!(decide (a < 0) == decide (b < 0))) = false := by rw [decide_eq_false (by omega : ¬ b < 0), decide_eq_false (by omega : ¬ a < 0)]; rfl
  clear a0 b0 a1 b1
  generalize a * b = P at *
  go_enter Try.func54, Try.ntmps54
  go_wp2_with (go_at_call 57; fail)
  refine (g1 _).mono ?_
  rintro e w1 ⟨rfl, rfl⟩
  go_wp2_with (go_at_call 57; fail)
  refine (g2 _).mono ?_
  rintro e w1 ⟨rfl, rfl⟩
  go_wp2_with (go_at_call 56; fail)
  refine (g3 _).mono ?_
  rintro e w1 ⟨rfl, rfl⟩
  go_wp2_with (go_at_call 58; fail)
  refine (g4 _).mono ?_
  rintro e w1 ⟨rfl, k, rfl⟩
  go_wp2
  go_ret3
  exact ⟨rfl, _, rfl⟩
theorem Mul_low (a b : Int) (w : World) (a0 : 0 ≤ a) (a1 : a ≤ 1000000) (b0 : 0 ≤ b) (b1 : b ≤ 1000000000) :
    Calls Try.prog 43 #[.int .i64 a, .int .i64 b] w fun e w' => e = .returned (.tuple #[.int .i64 (a * b), .bool true]) ∧ ∃ k, w' = w.drewN k := by
  have g1 := fun w => MulDiv_one a b w a0 a1 b0 b1
  clear a0 a1 b0 b1
  generalize a * b = P at *
  go_enter Try.func43, Try.ntmps43
  go_wp2_with (go_at_call 54; fail)
  refine (g1 _).mono ?_
  rintro e w1 ⟨rfl, k, rfl⟩
  go_wp2
  go_ret2
  exact ⟨rfl, _, rfl⟩
set_option maxRecDepth 100000 in
theorem Add_low (a b : Int) (w : World) (a0 : -4000000000000000000 ≤ a) (a1 : a ≤ 4000000000000000000) (b0 : -4000000000000000000 ≤ b) (b1 : b ≤ 4000000000000000000) :
    Calls Try.prog 53 #[.int .i64 a, .int .i64 b] w fun e w' => e = .returned (.tuple #[.int .i64 (a + b), .bool true]) ∧ w' = w := by
  have h1 : ¬ (9223372036854775807 - b < a) := by omega
  have h2 : ¬ (a < -9223372036854775808 - b) := by omega
  rcases Int.lt_trichotomy b 0 with h | h | h
  · have h3 : ¬ 0 < b := by omega
    go_enter Try.func53, Try.ntmps53
    go_wp2
    go_ret2
    exact ⟨rfl, rfl⟩
  · subst h
    go_enter Try.func53, Try.ntmps53
    go_wp2
    go_ret2
    exact ⟨ret2 (vint (by omega)) rfl, rfl⟩
  · have h3 : ¬ b < 0 := by omega
    go_enter Try.func53, Try.ntmps53
    go_wp2
    go_ret2
    exact ⟨rfl, rfl⟩
end Go.Proofs.Ytgioknkfppaaaaa
