/-
  The reference's Add, Mul, MulDiv: what they tell.
-/
import Derived.Test.YtochdjdkfmdgeabDoorDiv5
import Derived.Test.YtochdjdkfmdgeabDoorRefDiv
import Derived.Test.YtochdjdkfmdgeabDoorRefBy2
namespace Go.Proofs.YtochdjdkfmdgeabDoor
set_option linter.unusedVariables false
open Go.Shelf Go.RowKit Go.Sort Go.Lib

theorem sm_true {n : Int} (h : n ≤ 9223372036854775808) : smN n true = -n ∧ smB n true = true := ⟨by unfold smN; rw [if_pos rfl, if_pos h], by unfold smB; rw [if_pos rfl, decide_eq_true h]⟩
theorem sm_true_no {n : Int} (h : ¬ n ≤ 9223372036854775808) : smN n true = 0 ∧ smB n true = false := ⟨by unfold smN; rw [if_pos rfl, if_neg h], by unfold smB; rw [if_pos rfl, decide_eq_false h]⟩
theorem sm_false {n : Int} (h : n < 9223372036854775808) : smN n false = n ∧ smB n false = true := ⟨by unfold smN; rw [if_neg (by decide), if_pos h], by unfold smB; rw [if_neg (by decide), decide_eq_true h]⟩
theorem sm_false_no {n : Int} (h : ¬ n < 9223372036854775808) : smN n false = 0 ∧ smB n false = false := ⟨by unfold smN; rw [if_neg (by decide), if_neg h], by unfold smB; rw [if_neg (by decide), decide_eq_false h]⟩

theorem size_least (w : World) : Calls Tryd.prog 38 #[.int .i64 (-9223372036854775808)] w fun e w' => e = .returned (.int .u64 9223372036854775808) ∧ w' = w := by
  have h := size_any (-9223372036854775808) (by decide) (by decide) w
  have e : magI (-9223372036854775808) = 9223372036854775808 := by decide
  rw [e] at h; exact h
set_option maxRecDepth 100000 in
set_option maxHeartbeats 400000 in
theorem refAdd_least (w : World) : Calls Tryd.prog 9 #[.int .i64 (-9223372036854775808), .int .i64 (-9223372036854775808)] w fun e w' => e = .returned (.tuple #[.int .i64 (adN (-9223372036854775808) (-9223372036854775808)), .bool (adOk (-9223372036854775808) (-9223372036854775808))]) ∧ w' = w := by
  have HR : Hid (adOk (-9223372036854775808) (-9223372036854775808) = false ∧ adN (-9223372036854775808) (-9223372036854775808) = 0) := ad_no (by omega)
  have hw : IntKind.u64.wrap 18446744073709551616 = 0 := by rw [IntKind.wrap_u64]; omega
  go_enter Tryd.func9, Tryd.ntmps9
  go_wp2_with (go_at_call 38; refine (size_least _).mono ?_; rintro e w1 ⟨rfl, rfl⟩)
  go_ret2
  exact ⟨ret2 (vint HR.out.2.symm) (vbool HR.out.1.symm), rfl⟩
set_option maxRecDepth 100000 in
set_option maxHeartbeats 400000 in
theorem refAdd_any (a b : Int) (w : World) (a0 : -9223372036854775808 ≤ a) (a1 : a ≤ 9223372036854775807) (b0 : -9223372036854775808 ≤ b) (b1 : b ≤ 9223372036854775807) :
    Calls Tryd.prog 9 #[.int .i64 a, .int .i64 b] w fun e w' => e = .returned (.tuple #[.int .i64 (adN a b), .bool (adOk a b)]) ∧ w' = w := by
  by_cases hd : decide (a < 0) ≠ decide (b < 0)
  · have hs' : (!(decide (a < 0) == decide (b < 0))) = true := by simpa using hd
    have hab : -9223372036854775808 ≤ a + b ∧ a + b ≤ 9223372036854775807 := by
      by_cases ha : a < 0
      · have hb : ¬ b < 0 := fun hb => hd (by rw [decide_eq_true ha, decide_eq_true hb])
        omega
      · have hb : b < 0 := by
          rcases Int.lt_or_le b 0 with hb | hb
          · exact hb
          · exact absurd (by rw [decide_eq_false ha, decide_eq_false (by omega)]) hd
        omega
    have HR : Hid (adOk a b = true ∧ adN a b = a + b) := ad_yes hab.1 hab.2
    obtain ⟨g0, g1⟩ := hab
    clear hd
    go_enter Tryd.func9, Tryd.ntmps9
    go_wp2
    go_ret2
    exact ⟨ret2 (vint HR.out.2.symm) (vbool HR.out.1.symm), rfl⟩
  have hs' : (!(decide (a < 0) == decide (b < 0))) = false := by simpa using hd
  have hsz := fun wx => size_any a a0 a1 wx
  have hsb := fun wx => size_any b b0 b1 wx
  by_cases ha : a < 0
  · have hb : b < 0 := by
      rcases Int.lt_or_le b 0 with hb | hb
      · exact hb
      · exact absurd (by rw [decide_eq_true ha, decide_eq_false (by omega)]; decide) hd
    have ea := magI_neg ha
    have eb := magI_neg hb
    rw [ea] at hsz
    rw [eb] at hsb
    have HSA : Hid (∀ wx, Calls Tryd.prog 38 #[.int .i64 a] wx fun e w' => e = .returned (.int .u64 (-a)) ∧ w' = wx) := hsz
    have HSB : Hid (∀ wx, Calls Tryd.prog 38 #[.int .i64 b] wx fun e w' => e = .returned (.int .u64 (-b)) ∧ w' = wx) := hsb
    clear ea eb hsz hsb hd
    by_cases hl : a = -9223372036854775808 ∧ b = -9223372036854775808
    · obtain ⟨rfl, rfl⟩ := hl
      exact refAdd_least w
    · have hw : IntKind.u64.wrap (-a + -b) = -a + -b := by rw [IntKind.wrap_u64]; omega
      have hsm := fun wx => same_any (-a + -b) true wx (by omega) (by omega)
      have HSM : Hid (smN (-a + -b) true = adN a b ∧ smB (-a + -b) true = adOk a b) := by
        by_cases h : -9223372036854775808 ≤ a + b ∧ a + b ≤ 9223372036854775807
        · obtain ⟨e1, e2⟩ := ad_yes h.1 h.2
          obtain ⟨f1, f2⟩ := sm_true (n := -a + -b) (by omega)
          exact ⟨by rw [f1, e2]; omega, by rw [f2, e1]⟩
        · obtain ⟨e1, e2⟩ := ad_no h
          obtain ⟨f1, f2⟩ := sm_true_no (n := -a + -b) (by omega)
          exact ⟨by rw [f1, e2], by rw [f2, e1]⟩
      rw [HSM.out.1, HSM.out.2] at hsm
      have HSX : Hid (∀ wx, Calls Tryd.prog 39 #[.int .u64 (-a + -b), .bool true] wx fun e w' => e = .returned (.tuple #[.int .i64 (adN a b), .bool (adOk a b)]) ∧ w' = wx) := hsm
      have hp : 0 < -a + -b := by omega
      have hge : ¬ -a + -b < -a := by omega
      clear hsm hl
      go_enter Tryd.func9, Tryd.ntmps9
      go_wp2_with (go_at_call 38; fail)
      refine (HSA.out _).mono ?_
      rintro e w1 ⟨rfl, rfl⟩
      go_wp2_with (go_at_call 38; fail)
      refine (HSB.out _).mono ?_
      rintro e w1 ⟨rfl, rfl⟩
      go_wp2_with (go_at_call 38; fail)
      refine (HSA.out _).mono ?_
      rintro e w1 ⟨rfl, rfl⟩
      go_wp2_with (go_at_call 39; fail)
      refine (HSX.out _).mono ?_
      rintro e w1 ⟨rfl, rfl⟩
      go_wp2_with fail
      go_ret2
      exact ⟨rfl, rfl⟩
  · have hb : ¬ b < 0 := fun hb => hd (by rw [decide_eq_false ha, decide_eq_true hb]; decide)
    have ea := magI_pos ha
    have eb := magI_pos hb
    rw [ea] at hsz
    rw [eb] at hsb
    have HSA : Hid (∀ wx, Calls Tryd.prog 38 #[.int .i64 a] wx fun e w' => e = .returned (.int .u64 a) ∧ w' = wx) := hsz
    have HSB : Hid (∀ wx, Calls Tryd.prog 38 #[.int .i64 b] wx fun e w' => e = .returned (.int .u64 b) ∧ w' = wx) := hsb
    clear ea eb hsz hsb hd
    have hsm := fun wx => same_any (a + b) false wx (by omega) (by omega)
    have HSM : Hid (smN (a + b) false = adN a b ∧ smB (a + b) false = adOk a b) := by
      by_cases h : -9223372036854775808 ≤ a + b ∧ a + b ≤ 9223372036854775807
      · obtain ⟨e1, e2⟩ := ad_yes h.1 h.2
        obtain ⟨f1, f2⟩ := sm_false (n := a + b) (by omega)
        exact ⟨by rw [f1, e2], by rw [f2, e1]⟩
      · obtain ⟨e1, e2⟩ := ad_no h
        obtain ⟨f1, f2⟩ := sm_false_no (n := a + b) (by omega)
        exact ⟨by rw [f1, e2], by rw [f2, e1]⟩
    rw [HSM.out.1, HSM.out.2] at hsm
    have HSX : Hid (∀ wx, Calls Tryd.prog 39 #[.int .u64 (a + b), .bool false] wx fun e w' => e = .returned (.tuple #[.int .i64 (adN a b), .bool (adOk a b)]) ∧ w' = wx) := hsm
    have ha' : 0 ≤ a := by omega
    have hb' : 0 ≤ b := by omega
    have hge : ¬ a + b < a := by omega
    clear hsm
    go_enter Tryd.func9, Tryd.ntmps9
    go_wp2_with (go_at_call 38; fail)
    refine (HSA.out _).mono ?_
    rintro e w1 ⟨rfl, rfl⟩
    go_wp2_with (go_at_call 38; fail)
    refine (HSB.out _).mono ?_
    rintro e w1 ⟨rfl, rfl⟩
    go_wp2_with (go_at_call 38; fail)
    refine (HSA.out _).mono ?_
    rintro e w1 ⟨rfl, rfl⟩
    go_wp2_with (go_at_call 39; fail)
    refine (HSX.out _).mono ?_
    rintro e w1 ⟨rfl, rfl⟩
    go_wp2_with fail
    go_ret2
    exact ⟨rfl, rfl⟩
end Go.Proofs.YtochdjdkfmdgeabDoor
