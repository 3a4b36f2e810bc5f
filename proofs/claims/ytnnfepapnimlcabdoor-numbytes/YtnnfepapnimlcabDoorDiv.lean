/-
  MulDiv, Mul, Add.
-/
import Derived.Test.YtnnfepapnimlcabDoorFmt
import Derived.Deep.QuietTactic
import Derived.BigQuiet
import Derived.Deep.RegionWith
namespace Go.Proofs.YtnnfepapnimlcabDoor
set_option linter.unusedVariables false
open Go.Shelf Go.RowKit Go.Sort Go.Lib

theorem mul_7_3 (w : World) : Calls Tryd.prog 41 #[.int .u64 7, .int .u64 3] w fun e w' => e = .returned (.tuple #[.int .u64 0, .int .u64 21]) ∧ w' = w :=
  Tryd.bits_Mul64 7 3 (by decide) (by decide) w
set_option maxRecDepth 100000 in
set_option maxHeartbeats 400000 in
theorem Div64_low (lo y : Int) (w : World) (h0 : 0 ≤ lo) (h1 : lo ≤ 18446744073709551615) (hy : 0 < y) (hy1 : y ≤ 18446744073709551615) :
    Calls Tryd.prog 43 #[.int .u64 0, .int .u64 lo, .int .u64 y] w fun e w' => e = .returned (.tuple #[.int .u64 (lo / y), .int .u64 (lo % y)]) ∧ ∃ k, w' = w.drewN k := by
  have hy0 : (y == 0) = false := by simp; omega
  go_enter Tryd.func43, Tryd.ntmps43
  go_wp2
  go_quiet (fail)
  go_wp2
  go_ret2
  exact ⟨rfl, _, rfl⟩
set_option maxRecDepth 100000 in
set_option maxHeartbeats 400000 in
theorem downBelow_rest (q r y : Int) (w : World) (h0 : 0 ≤ q) (h1 : q < 9223372036854775808) (hr : 0 < r) (hr1 : r < y) (hy1 : y ≤ 9223372036854775807) :
    Calls Tryd.prog 44 #[.int .u64 q, .int .u64 r, .int .u64 y] w fun e w' => e = .returned (.tuple #[.int .i64 (-(q + 1)), .int .i64 (y - r), .bool true]) ∧ w' = w := by
  have e1 : (q == 9223372036854775808) = false := by simp; omega
  go_enter Tryd.func44, Tryd.ntmps44
  go_wp2
  go_ret3
  refine ⟨ret3 (vint ?_) (vint ?_) rfl, rfl⟩
  · rw [IntKind.wrap_u64]; unfold wrap64; omega
  · rfl
set_option maxRecDepth 100000 in
set_option maxHeartbeats 400000 in
theorem downBelow_whole (q y : Int) (w : World) (h0 : 0 ≤ q) (h1 : q ≤ 9223372036854775808) (hy1 : y ≤ 9223372036854775807) :
    Calls Tryd.prog 44 #[.int .u64 q, .int .u64 0, .int .u64 y] w fun e w' => e = .returned (.tuple #[.int .i64 (-q), .int .i64 0, .bool true]) ∧ w' = w := by
  by_cases e1 : q = 9223372036854775808
  · subst e1
    go_enter Tryd.func44, Tryd.ntmps44
    go_wp2
    go_ret3
    refine ⟨ret3 (vint ?_) rfl rfl, rfl⟩
    rw [IntKind.wrap_u64]; unfold wrap64; omega
  have e1 : (q == 9223372036854775808) = false := by simp; omega
  go_enter Tryd.func44, Tryd.ntmps44
  go_wp2
  go_ret3
  refine ⟨ret3 (vint ?_) (vint ?_) rfl, rfl⟩
  · rw [IntKind.wrap_u64]; unfold wrap64; omega
  · rfl
set_option maxRecDepth 100000 in
set_option maxHeartbeats 400000 in
theorem downBelow_no (q r y : Int) (w : World) (h : 9223372036854775808 < q ∨ q = 9223372036854775808 ∧ 0 < r) :
    Calls Tryd.prog 44 #[.int .u64 q, .int .u64 r, .int .u64 y] w fun e w' => e = .returned (.tuple #[.int .i64 0, .int .i64 0, .bool false]) ∧ w' = w := by
  rcases h with h | ⟨rfl, hr⟩
  all_goals
    go_enter Tryd.func44, Tryd.ntmps44
    go_wp2
    go_ret3
    exact ⟨rfl, rfl⟩
set_option maxRecDepth 100000 in
set_option maxHeartbeats 400000 in
theorem MulDiv_shown (w : World) :
    Calls Tryd.prog 12 #[.int .i64 (-7), .int .i64 3, .int .i64 2] w fun e w' => e = .returned (.tuple #[.int .i64 (-11), .int .i64 1, .bool true]) ∧ ∃ k, w' = w.drewN k := by
  have m1 : magI (-7) = 7 := by kernel_rfl
  have m2 : magI 3 = 3 := by kernel_rfl
  go_enter Tryd.func12, Tryd.ntmps12
  go_wp2_with (first | (go_at_call 42; refine (magnitude_any _ (by decide) (by decide) _).mono ?_; rintro e w' ⟨rfl, rfl⟩) | (go_at_call 41; refine (mul_7_3 _).mono ?_; rintro e w' ⟨rfl, rfl⟩) | (go_at_call 43; refine (Div64_low _ _ _ (by decide) (by decide) (by decide) (by decide)).mono ?_; rintro e w' ⟨rfl, k, rfl⟩) | (go_at_call 44; refine (downBelow_rest _ _ _ _ (by decide) (by decide) (by decide) (by decide) (by decide)).mono ?_; rintro e w' ⟨rfl, rfl⟩))
  go_ret3
  exact ⟨rfl, _, rfl⟩
end Go.Proofs.YtnnfepapnimlcabDoor
