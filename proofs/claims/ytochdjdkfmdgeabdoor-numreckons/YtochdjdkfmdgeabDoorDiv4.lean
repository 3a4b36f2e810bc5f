/-
  MulDiv, Mul, Add: what they tell.
-/
import Derived.Test.YtochdjdkfmdgeabDoorDiv3
namespace Go.Proofs.YtochdjdkfmdgeabDoor
set_option linter.unusedVariables false
open Go.Shelf Go.RowKit Go.Sort Go.Lib

theorem Mul64_int (x y : Int) (w : World) (hx0 : 0 ≤ x) (hx1 : x < 18446744073709551616) (hy0 : 0 ≤ y) (hy1 : y < 18446744073709551616) :
    Calls Tryd.prog 41 #[.int .u64 x, .int .u64 y] w fun e w' => e = .returned (.tuple #[.int .u64 (x * y / 18446744073709551616), .int .u64 (x * y % 18446744073709551616)]) ∧ w' = w := by
  obtain ⟨m, rfl⟩ : ∃ n : Nat, x = n := ⟨x.toNat, by omega⟩
  obtain ⟨n, rfl⟩ : ∃ n : Nat, y = n := ⟨y.toNat, by omega⟩
  have h := Tryd.bits_Mul64 m n (by omega) (by omega) w
  have e1 : ((m * n / 18446744073709551616 : Nat) : Int) = (m : Int) * n / 18446744073709551616 := by simp
  have e2 : ((m * n % 18446744073709551616 : Nat) : Int) = (m : Int) * n % 18446744073709551616 := by simp
  rw [e1, e2] at h; exact h

/-- What MulDiv tells. -/
def mdOk (a b c : Int) : Bool := decide (0 < c) && decide (-9223372036854775808 ≤ a * b / c) && decide (a * b / c ≤ 9223372036854775807)
def mdQ (a b c : Int) : Int := if mdOk a b c = true then a * b / c else 0
def mdR (a b c : Int) : Int := if mdOk a b c = true then a * b % c else 0
theorem md_yes {a b c : Int} (h0 : 0 < c) (h1 : -9223372036854775808 ≤ a * b / c) (h2 : a * b / c ≤ 9223372036854775807) : mdOk a b c = true ∧ mdQ a b c = a * b / c ∧ mdR a b c = a * b % c := by
  have h : mdOk a b c = true := by unfold mdOk; simp [h0, h1, h2]
  unfold mdQ mdR; rw [if_pos h, if_pos h]; exact ⟨h, rfl, rfl⟩
theorem md_no {a b c : Int} (h : ¬ (0 < c ∧ -9223372036854775808 ≤ a * b / c ∧ a * b / c ≤ 9223372036854775807)) : mdOk a b c = false ∧ mdQ a b c = 0 ∧ mdR a b c = 0 := by
  have g : mdOk a b c = false := by
    cases e : mdOk a b c with
    | false => rfl
    | true =>
      unfold mdOk at e
      rw [Bool.and_eq_true, Bool.and_eq_true, decide_eq_true_eq, decide_eq_true_eq, decide_eq_true_eq] at e
      exact absurd ⟨e.1.1, e.1.2, e.2⟩ h
  unfold mdQ mdR; rw [g]; exact ⟨rfl, rfl, rfl⟩
theorem neg_div {P c : Int} (hc : 0 < c) (h : 0 < P % c) : -P / c = -(P / c + 1) ∧ -P % c = c - P % c := by
  have e := Int.mul_ediv_add_emod P c
  have m1 := Int.emod_lt_of_pos P hc
  refine (Int.ediv_emod_unique (a := -P) (r := c - P % c) (q := -(P / c + 1)) hc).2 ⟨?_, by omega, by omega⟩
  grind
theorem neg_div0 {P c : Int} (hc : 0 < c) (h : P % c = 0) : -P / c = -(P / c) ∧ -P % c = 0 := by
  have e := Int.mul_ediv_add_emod P c
  refine (Int.ediv_emod_unique (a := -P) (r := 0) (q := -(P / c)) hc).2 ⟨?_, by omega, by omega⟩
  grind
theorem mag_same {a b : Int} (h : ¬ decide (a < 0) ≠ decide (b < 0)) : magI a * magI b = a * b := by
  have h' : decide (a < 0) = decide (b < 0) := by simpa using h
  by_cases ha : a < 0
  · have hb : b < 0 := by rw [decide_eq_true ha] at h'; exact of_decide_eq_true h'.symm
    rw [magI_neg ha, magI_neg hb]; grind
  · have hb : ¬ b < 0 := by rw [decide_eq_false ha] at h'; exact of_decide_eq_false h'.symm
    rw [magI_pos ha, magI_pos hb]
theorem mag_diff {a b : Int} (h : decide (a < 0) ≠ decide (b < 0)) : a * b = -(magI a * magI b) := by
  by_cases ha : a < 0
  · have hb : ¬ b < 0 := fun hb => h (by rw [decide_eq_true ha, decide_eq_true hb])
    rw [magI_neg ha, magI_pos hb]; grind
  · have hb : b < 0 := by
      rcases Int.lt_or_le b 0 with hb | hb
      · exact hb
      · exact absurd (by rw [decide_eq_false ha, decide_eq_false (by omega)]) h
    rw [magI_pos ha, magI_neg hb]; grind

set_option maxRecDepth 100000 in
set_option maxHeartbeats 1000000 in
theorem MulDiv_any (a b c : Int) (w : World) (a0 : -9223372036854775808 ≤ a) (a1 : a ≤ 9223372036854775807) (b0 : -9223372036854775808 ≤ b) (b1 : b ≤ 9223372036854775807) (c0 : -9223372036854775808 ≤ c) (c1 : c ≤ 9223372036854775807) :
    Calls Tryd.prog 12 #[.int .i64 a, .int .i64 b, .int .i64 c] w fun e w' => e = .returned (.tuple #[.int .i64 (mdQ a b c), .int .i64 (mdR a b c), .bool (mdOk a b c)]) ∧ ∃ k, w' = w.drewN k := by
  by_cases hc : c ≤ 0
  · have HN : Hid (mdOk a b c = false ∧ mdQ a b c = 0 ∧ mdR a b c = 0) := md_no (fun h => by omega)
    go_enter Tryd.func12, Tryd.ntmps12
    go_wp2_with fail
    go_ret3
    exact ⟨ret3 (vint HN.out.2.1.symm) (vint HN.out.2.2.symm) (vbool HN.out.1.symm), 0, by rw [World.drewN_zero]⟩
  have hcp : 0 < c := by omega
  obtain ⟨ma0, ma1⟩ := magI_bd a0 a1
  obtain ⟨mb0, mb1⟩ := magI_bd b0 b1
  have hP0 : 0 ≤ magI a * magI b := Int.mul_nonneg ma0 mb0
  have HP : Hid (magI a * magI b = magI a * magI b / 18446744073709551616 * 18446744073709551616 + magI a * magI b % 18446744073709551616) := by
    show magI a * magI b = _; omega
  have hl0 : 0 ≤ magI a * magI b % 18446744073709551616 := by omega
  have hl1 : magI a * magI b % 18446744073709551616 ≤ 18446744073709551615 := by omega
  have hh0 : 0 ≤ magI a * magI b / 18446744073709551616 := by omega
  have hmul : ∀ wx, Calls Tryd.prog 41 #[.int .u64 (magI a), .int .u64 (magI b)] wx fun e w' => e = .returned (.tuple #[.int .u64 (magI a * magI b / 18446744073709551616), .int .u64 (magI a * magI b % 18446744073709551616)]) ∧ w' = wx := fun wx => Mul64_int _ _ _ ma0 (by omega) mb0 (by omega)
  have HS : Hid (¬ decide (a < 0) ≠ decide (b < 0) → magI a * magI b = a * b) := mag_same
  have HD : Hid (decide (a < 0) ≠ decide (b < 0) → a * b = -(magI a * magI b)) := mag_diff
  by_cases hbig : c ≤ magI a * magI b / 18446744073709551616
  · have HN : Hid (mdOk a b c = false ∧ mdQ a b c = 0 ∧ mdR a b c = 0) := md_no (fun ⟨_, h1, h2⟩ => by
      have hq : 18446744073709551616 ≤ magI a * magI b / c := (Int.le_ediv_iff_mul_le hcp).2 (by
        have := HP.out; omega)
      by_cases hs : decide (a < 0) ≠ decide (b < 0)
      · rw [HD.out hs] at h1
        have := (Int.le_ediv_iff_mul_le hcp).1 h1
        have h3 := (Int.le_ediv_iff_mul_le hcp).1 hq
        omega
      · rw [HS.out hs] at hq; omega)
    clear HS HD
    go_enter Tryd.func12, Tryd.ntmps12
    go_wp2_with (go_at_call 42; fail)
    refine (magnitude_any a a0 a1 _).mono ?_
    rintro e w1 ⟨rfl, rfl⟩
    go_wp2_with (go_at_call 42; fail)
    refine (magnitude_any b b0 b1 _).mono ?_
    rintro e w1 ⟨rfl, rfl⟩
    go_wp2_with (go_at_call 41; fail)
    refine (hmul _).mono ?_
    rintro e w1 ⟨rfl, rfl⟩
    go_wp2_with fail
    go_ret3
    exact ⟨ret3 (vint HN.out.2.1.symm) (vint HN.out.2.2.symm) (vbool HN.out.1.symm), 0, by rw [World.drewN_zero]⟩
  have hsm : magI a * magI b / 18446744073709551616 < c := by omega
  have hdv : ∀ wx, Calls Tryd.prog 43 #[.int .u64 (magI a * magI b / 18446744073709551616), .int .u64 (magI a * magI b % 18446744073709551616), .int .u64 c] wx fun e w' => e = .returned (.tuple #[.int .u64 (magI a * magI b / c), .int .u64 (magI a * magI b % c)]) ∧ ∃ k, w' = wx.drewN k := fun wx => by
    have h := Div64_any _ _ c wx hh0 hsm hl0 hl1 (by omega)
    rw [← HP.out] at h; exact h
  have hq0 : 0 ≤ magI a * magI b / c := Int.ediv_nonneg hP0 (by omega)
  have hq1 : magI a * magI b / c ≤ 18446744073709551615 := by
    have h : magI a * magI b < 18446744073709551616 * c := by
      have := HP.out; omega
    have := (Int.ediv_lt_iff_lt_mul hcp).2 h
    omega
  have hr0 := Int.emod_nonneg (magI a * magI b) (by omega : c ≠ 0)
  have hr1 := Int.emod_lt_of_pos (magI a * magI b) hcp
  have HNR : Hid (0 < magI a * magI b % c → -(magI a * magI b) / c = -(magI a * magI b / c + 1) ∧ -(magI a * magI b) % c = c - magI a * magI b % c) := neg_div hcp
  have HN0 : Hid (magI a * magI b % c = 0 → -(magI a * magI b) / c = -(magI a * magI b / c) ∧ -(magI a * magI b) % c = 0) := neg_div0 hcp
  clear HP hP0
  generalize magI a * magI b = P at *
  by_cases hs : decide (a < 0) ≠ decide (b < 0)
  · have hab := HD.out hs
    have HAB : Hid (a * b = -P) := hab
    have hs' : (!(decide (a < 0) == decide (b < 0))) = true := by simpa using hs
    clear hab HS HD hs
    go_enter Tryd.func12, Tryd.ntmps12
    go_wp2_with (go_at_call 42; fail)
    refine (magnitude_any a a0 a1 _).mono ?_
    rintro e w1 ⟨rfl, rfl⟩
    go_wp2_with (go_at_call 42; fail)
    refine (magnitude_any b b0 b1 _).mono ?_
    rintro e w1 ⟨rfl, rfl⟩
    go_wp2_with (go_at_call 41; fail)
    refine (hmul _).mono ?_
    rintro e w1 ⟨rfl, rfl⟩
    go_wp2_with (go_at_call 43; fail)
    refine (hdv _).mono ?_
    rintro e w1 ⟨rfl, k, rfl⟩
    clear hmul hdv
    by_cases hr : 0 < P % c
    · by_cases hq : P / c < 9223372036854775808
      · have HR : Hid (mdOk a b c = true ∧ mdQ a b c = -(P / c + 1) ∧ mdR a b c = c - P % c) := by
          obtain ⟨n1, n2⟩ := HNR.out hr
          have h := md_yes (a := a) (b := b) hcp (by rw [HAB.out, n1]; omega) (by rw [HAB.out, n1]; omega)
          rw [HAB.out, n1, n2] at h; exact h
        go_wp2_with (go_at_call 44; fail)
        refine (downBelow_rest _ _ _ _ hq0 hq hr hr1 c1).mono ?_
        rintro e w2 ⟨rfl, rfl⟩
        go_wp2_with fail
        go_ret3
        exact ⟨ret3 (vint HR.out.2.1.symm) (vint HR.out.2.2.symm) (vbool HR.out.1.symm), _, rfl⟩
      · have HR : Hid (mdOk a b c = false ∧ mdQ a b c = 0 ∧ mdR a b c = 0) := md_no (fun ⟨_, h1, h2⟩ => by
          obtain ⟨n1, n2⟩ := HNR.out hr
          rw [HAB.out, n1] at h1; omega)
        go_wp2_with (go_at_call 44; fail)
        refine (downBelow_no _ _ _ _ (by omega)).mono ?_
        rintro e w2 ⟨rfl, rfl⟩
        go_wp2_with fail
        go_ret3
        exact ⟨ret3 (vint HR.out.2.1.symm) (vint HR.out.2.2.symm) (vbool HR.out.1.symm), _, rfl⟩
    · have hrz : P % c = 0 := by omega
      rw [hrz]
      by_cases hq : P / c ≤ 9223372036854775808
      · have HR : Hid (mdOk a b c = true ∧ mdQ a b c = -(P / c) ∧ mdR a b c = 0) := by
          obtain ⟨n1, n2⟩ := HN0.out hrz
          have h := md_yes (a := a) (b := b) hcp (by rw [HAB.out, n1]; omega) (by rw [HAB.out, n1]; omega)
          rw [HAB.out, n1, n2] at h; exact h
        clear hrz
        go_wp2_with (go_at_call 44; fail)
        refine (downBelow_whole _ _ _ hq0 hq c1).mono ?_
        rintro e w2 ⟨rfl, rfl⟩
        go_wp2_with fail
        go_ret3
        exact ⟨ret3 (vint HR.out.2.1.symm) (vint HR.out.2.2.symm) (vbool HR.out.1.symm), _, rfl⟩
      · have HR : Hid (mdOk a b c = false ∧ mdQ a b c = 0 ∧ mdR a b c = 0) := md_no (fun ⟨_, h1, h2⟩ => by
          obtain ⟨n1, n2⟩ := HN0.out hrz
          rw [HAB.out, n1] at h1; omega)
        clear hrz
        go_wp2_with (go_at_call 44; fail)
        refine (downBelow_no _ _ _ _ (by omega)).mono ?_
        rintro e w2 ⟨rfl, rfl⟩
        go_wp2_with fail
        go_ret3
        exact ⟨ret3 (vint HR.out.2.1.symm) (vint HR.out.2.2.symm) (vbool HR.out.1.symm), _, rfl⟩
  · have hab := HS.out hs
    have HAB : Hid (P = a * b) := hab
    have hs' : (!(decide (a < 0) == decide (b < 0))) = false := by simpa using hs
    clear hab HS HD hs
    go_enter Tryd.func12, Tryd.ntmps12
    go_wp2_with (go_at_call 42; fail)
    refine (magnitude_any a a0 a1 _).mono ?_
    rintro e w1 ⟨rfl, rfl⟩
    go_wp2_with (go_at_call 42; fail)
    refine (magnitude_any b b0 b1 _).mono ?_
    rintro e w1 ⟨rfl, rfl⟩
    go_wp2_with (go_at_call 41; fail)
    refine (hmul _).mono ?_
    rintro e w1 ⟨rfl, rfl⟩
    go_wp2_with (go_at_call 43; fail)
    refine (hdv _).mono ?_
    rintro e w1 ⟨rfl, k, rfl⟩
    clear hmul hdv
    by_cases hq : P / c ≤ 9223372036854775807
    · have HR : Hid (mdOk a b c = true ∧ mdQ a b c = P / c ∧ mdR a b c = P % c) := by
        have h := md_yes (a := a) (b := b) hcp (by rw [← HAB.out]; omega) (by rw [← HAB.out]; omega)
        rw [← HAB.out] at h; exact h
      go_wp2
      go_ret3
      exact ⟨ret3 (vint HR.out.2.1.symm) (vint HR.out.2.2.symm) (vbool HR.out.1.symm), _, rfl⟩
    · have HR : Hid (mdOk a b c = false ∧ mdQ a b c = 0 ∧ mdR a b c = 0) := md_no (fun ⟨_, h1, h2⟩ => by
        rw [← HAB.out] at h2; omega)
      go_wp2
      go_ret3
      exact ⟨ret3 (vint HR.out.2.1.symm) (vint HR.out.2.2.symm) (vbool HR.out.1.symm), _, rfl⟩
end Go.Proofs.YtochdjdkfmdgeabDoor
