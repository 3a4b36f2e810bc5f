/-
  listing: num.MulDiv of products below 2^64.
-/
import Derived.Test.YtnhkmfofkhhnaaaDoorLMem
import Derived.Test.YtnhkmfofkhhnaaaDoorShelf
import Derived.Deep.QuietTactic
import Derived.BigQuiet
namespace Go.Proofs.YtnhkmfofkhhnaaaDoor
set_option linter.unusedVariables false
open Go.Shelf Go.RowKit Go.Sort Go.Lib

theorem ret3' {a b c a' b' c' : Value} (h : a = a') (g : b = b') (k : c = c') : Ending.returned (.tuple #[a, b, c]) = .returned (.tuple #[a', b', c']) := by rw [h, g, k]
def magI (n : Int) : Int := if n < 0 then -n else n
theorem magI_neg {n : Int} (h : n < 0) : magI n = -n := if_pos h
theorem magI_pos {n : Int} (h : ¬ n < 0) : magI n = n := if_neg h
theorem magnitude_any (n : Int) (h0 : -9223372036854775808 ≤ n) (h1 : n ≤ 9223372036854775807) (w : World) :
    Calls Tryd.prog 64 #[.int .i64 n] w fun e w' => e = .returned (.int .u64 (magI n)) ∧ w' = w := by
  by_cases hn : n < 0
  · have HM : Hid (magI n = -n) := magI_neg hn
    go_enter Tryd.func64, Tryd.ntmps64
    go_wp2
    go_ret
    refine ⟨ret_int ?_, rfl⟩
    rw [HM.out, IntKind.wrap_u64, IntKind.wrap_u64]; omega
  · have HM : Hid (magI n = n) := magI_pos hn
    go_enter Tryd.func64, Tryd.ntmps64
    go_wp2
    go_ret
    refine ⟨ret_int ?_, rfl⟩
    rw [HM.out]
set_option maxRecDepth 100000 in
set_option maxHeartbeats 400000 in
theorem Div64_low (lo y : Int) (w : World) (h0 : 0 ≤ lo) (h1 : lo ≤ 18446744073709551615) (hy : 0 < y) (hy1 : y ≤ 18446744073709551615) :
    Calls Tryd.prog 65 #[.int .u64 0, .int .u64 lo, .int .u64 y] w fun e w' => e = .returned (.tuple #[.int .u64 (lo / y), .int .u64 (lo % y)]) ∧ ∃ k, w' = w.drewN k := by
  have hy0 : (y == 0) = false := by simp; omega
  go_enter Tryd.func65, Tryd.ntmps65
  go_wp2
  go_quiet (fail)
  go_wp2
  go_ret2
  exact ⟨rfl, _, rfl⟩
set_option maxRecDepth 100000 in
set_option maxHeartbeats 400000 in
theorem downBelow_rest (q r y : Int) (w : World) (h0 : 0 ≤ q) (h1 : q < 9223372036854775808) (hr : 0 < r) (hr1 : r < y) (hy1 : y ≤ 9223372036854775807) :
    Calls Tryd.prog 66 #[.int .u64 q, .int .u64 r, .int .u64 y] w fun e w' => e = .returned (.tuple #[.int .i64 (-(q + 1)), .int .i64 (y - r), .bool true]) ∧ w' = w := by
  have e1 : (q == 9223372036854775808) = false := by simp; omega
  go_enter Tryd.func66, Tryd.ntmps66
  go_wp2
  go_ret3
  refine ⟨ret3 (vint ?_) (vint ?_) rfl, rfl⟩
  · rw [IntKind.wrap_u64]; unfold wrap64; omega
  · rfl
set_option maxRecDepth 100000 in
set_option maxHeartbeats 400000 in
theorem downBelow_whole (q y : Int) (w : World) (h0 : 0 ≤ q) (h1 : q < 9223372036854775808) (hy1 : y ≤ 9223372036854775807) :
    Calls Tryd.prog 66 #[.int .u64 q, .int .u64 0, .int .u64 y] w fun e w' => e = .returned (.tuple #[.int .i64 (-q), .int .i64 0, .bool true]) ∧ w' = w := by
  have e1 : (q == 9223372036854775808) = false := by simp; omega
  go_enter Tryd.func66, Tryd.ntmps66
  go_wp2
  go_ret3
  refine ⟨ret3 (vint ?_) (vint ?_) rfl, rfl⟩
  · rw [IntKind.wrap_u64]; unfold wrap64; omega
  · rfl
theorem Mul64_low (x y : Int) (w : World) (hx0 : 0 ≤ x) (hx1 : x < 18446744073709551616) (hy0 : 0 ≤ y) (hy1 : y < 18446744073709551616) (hp : x * y < 18446744073709551616) :
    Calls Tryd.prog 63 #[.int .u64 x, .int .u64 y] w fun e w' => e = .returned (.tuple #[.int .u64 0, .int .u64 (x * y)]) ∧ w' = w := by
  have hp0 : 0 ≤ x * y := Int.mul_nonneg hx0 hy0
  obtain ⟨m, rfl⟩ : ∃ n : Nat, x = n := ⟨x.toNat, by omega⟩
  obtain ⟨n, rfl⟩ : ∃ n : Nat, y = n := ⟨y.toNat, by omega⟩
  have h := Tryd.bits_Mul64 m n (by omega) (by omega) w
  have e1 : ((m * n / 18446744073709551616 : Nat) : Int) = 0 := by
    have : (m : Int) * n / 18446744073709551616 = 0 := Int.ediv_eq_zero_of_lt hp0 hp
    rw [← this]; simp
  have e2 : ((m * n % 18446744073709551616 : Nat) : Int) = (m : Int) * n := by
    have : (m : Int) * n % 18446744073709551616 = (m : Int) * n := Int.emod_eq_of_lt hp0 hp
    rw [← this]; simp
  rw [e1, e2] at h; exact h
theorem neg_div {P c : Int} (hc : 0 < c) (h : 0 < P % c) : -P / c = -(P / c + 1) ∧ -P % c = c - P % c := by
  have e := Int.mul_ediv_add_emod P c
  have m1 := Int.emod_lt_of_pos P hc
  refine (Int.ediv_emod_unique (a := -P) (r := c - P % c) (q := -(P / c + 1)) hc).2 ⟨?_, by omega, by omega⟩
  grind
theorem neg_div0 {P c : Int} (hc : 0 < c) (h : P % c = 0) : -P / c = -(P / c) ∧ -P % c = 0 := by
  have e := Int.mul_ediv_add_emod P c
  refine (Int.ediv_emod_unique (a := -P) (r := 0) (q := -(P / c)) hc).2 ⟨?_, by omega, by omega⟩
  grind
set_option maxRecDepth 100000 in
set_option maxHeartbeats 1000000 in
/-- A number that is not below 0, times another, by one above 0. -/
theorem MulDiv_low (a b c : Int) (w : World) (a0 : 0 ≤ a) (a1 : a ≤ 9223372036854775807) (b0 : -9223372036854775808 < b) (b1 : b ≤ 9223372036854775807) (c0 : 0 < c) (c1 : c ≤ 9223372036854775807) (hp : a * magI b < 18446744073709551616) (hq : a * magI b / c < 9223372036854775807) :
    Calls Tryd.prog 40 #[.int .i64 a, .int .i64 b, .int .i64 c] w fun e w' => e = .returned (.tuple #[.int .i64 (a * b / c), .int .i64 (a * b % c), .bool true]) ∧ ∃ k, w' = w.drewN k := by
  have hma : magI a = a := magI_pos (by omega)
  have hmb0 : 0 ≤ magI b := by unfold magI; split <;> omega
  have hmb1 : magI b ≤ 9223372036854775807 := by unfold magI; split <;> omega
  have g1 := fun w => magnitude_any a (by omega) a1 w
  have g2 := fun w => magnitude_any b (by omega) b1 w
  rw [hma] at g1
  have g3 := fun w => Mul64_low a (magI b) w a0 (by omega) hmb0 (by omega) hp
  have hp0 : 0 ≤ a * magI b := Int.mul_nonneg a0 hmb0
  have g4 := fun w => Div64_low (a * magI b) c w hp0 (by omega) c0 (by omega)
  have hq0 : 0 ≤ a * magI b / c := Int.ediv_nonneg hp0 (by omega)
  have hr0 := Int.emod_nonneg (a * magI b) (by omega : c ≠ 0)
  have hr1 := Int.emod_lt_of_pos (a * magI b) c0
  have hcc : ¬ c ≤ 0 := by omega
  by_cases hb : b < 0
  · have hab : a * b = -(a * magI b) := by rw [magI_neg hb]; grind
    have HAB : Hid (a * b = -(a * magI b)) := hab
    have hs : (!(decide (a < 0) == decide (b < 0))) = true := by
      have : ¬ a < 0 := by omega
      rw [decide_eq_true hb, decide_eq_false this]; rfl
    rw [hab]
    clear hab
    generalize a * magI b = P at *
    clear hma a0 hb
    by_cases hr : 0 < P % c
    · have g5 := fun w => downBelow_rest (P / c) (P % c) c w hq0 (by omega) hr hr1 c1
      have HN : Hid (-P / c = -(P / c + 1) ∧ -P % c = c - P % c) := neg_div c0 hr
      go_enter Tryd.func40, Tryd.ntmps40
      go_wp2_with (go_at_call 64; fail)
      refine (g1 _).mono ?_
      rintro e w1 ⟨rfl, rfl⟩
      go_wp2_with (go_at_call 64; fail)
      refine (g2 _).mono ?_
      rintro e w1 ⟨rfl, rfl⟩
      go_wp2_with (go_at_call 63; fail)
      refine (g3 _).mono ?_
      rintro e w1 ⟨rfl, rfl⟩
      go_wp2_with (go_at_call 65; fail)
      refine (g4 _).mono ?_
      rintro e w1 ⟨rfl, k, rfl⟩
      go_wp2_with (go_at_call 66; fail)
      refine (g5 _).mono ?_
      rintro e w2 ⟨rfl, rfl⟩
      go_wp2_with fail
      go_ret3
      exact ⟨ret3 (vint HN.out.1.symm) (vint HN.out.2.symm) rfl, _, rfl⟩
    · have hrz : P % c = 0 := by omega
      have g5 := fun w => downBelow_whole (P / c) c w hq0 (by omega) c1
      have HN : Hid (-P / c = -(P / c) ∧ -P % c = 0) := neg_div0 c0 hrz
      rw [hrz] at g4
      clear hrz hr hr0 hr1
      go_enter Tryd.func40, Tryd.ntmps40
      go_wp2_with (go_at_call 64; fail)
      refine (g1 _).mono ?_
      rintro e w1 ⟨rfl, rfl⟩
      go_wp2_with (go_at_call 64; fail)
      refine (g2 _).mono ?_
      rintro e w1 ⟨rfl, rfl⟩
      go_wp2_with (go_at_call 63; fail)
      refine (g3 _).mono ?_
      rintro e w1 ⟨rfl, rfl⟩
      go_wp2_with (go_at_call 65; fail)
      refine (g4 _).mono ?_
      rintro e w1 ⟨rfl, k, rfl⟩
      go_wp2_with (go_at_call 66; fail)
      refine (g5 _).mono ?_
      rintro e w2 ⟨rfl, rfl⟩
      go_wp2_with fail
      go_ret3
      exact ⟨ret3 (vint HN.out.1.symm) (vint HN.out.2.symm) rfl, _, rfl⟩
  · have hmb : magI b = b := magI_pos hb
    rw [hmb] at g2 g3 g4 hq hp hp0 hq0 hr0 hr1
    have ha' : ¬ a < 0 := by omega
    have hs : (!(decide (a < 0) == decide (b < 0))) = false := by rw [decide_eq_false hb, decide_eq_false ha']; rfl
    clear hmb hma hmb0 hmb1 ha' a0 hb
    generalize a * b = P at *
    go_enter Tryd.func40, Tryd.ntmps40
    go_wp2_with (go_at_call 64; fail)
    refine (g1 _).mono ?_
    rintro e w1 ⟨rfl, rfl⟩
    go_wp2_with (go_at_call 64; fail)
    refine (g2 _).mono ?_
    rintro e w1 ⟨rfl, rfl⟩
    go_wp2_with (go_at_call 63; fail)
    refine (g3 _).mono ?_
    rintro e w1 ⟨rfl, rfl⟩
    go_wp2_with (go_at_call 65; fail)
    refine (g4 _).mono ?_
    rintro e w1 ⟨rfl, k, rfl⟩
    go_wp2
    go_ret3
    exact ⟨rfl, _, rfl⟩
end Go.Proofs.YtnhkmfofkhhnaaaDoor
