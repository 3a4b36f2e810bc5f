/-
  Mul, Add: what they tell.
-/
import Derived.Test.YtochdjdkfmdgeabDoorDiv4
namespace Go.Proofs.YtochdjdkfmdgeabDoor
set_option linter.unusedVariables false
open Go.Shelf Go.RowKit Go.Sort Go.Lib

theorem Mul_any (a b : Int) (w : World) (a0 : -9223372036854775808 ≤ a) (a1 : a ≤ 9223372036854775807) (b0 : -9223372036854775808 ≤ b) (b1 : b ≤ 9223372036854775807) :
    Calls Tryd.prog 10 #[.int .i64 a, .int .i64 b] w fun e w' => e = .returned (.tuple #[.int .i64 (mdQ a b 1), .bool (mdOk a b 1)]) ∧ ∃ k, w' = w.drewN k := by
  go_enter Tryd.func10, Tryd.ntmps10
  go_wp2_with (go_at_call 12; refine (MulDiv_any a b 1 _ a0 a1 b0 b1 (by decide) (by decide)).mono ?_; rintro e w1 ⟨rfl, k, rfl⟩)
  go_ret2
  exact ⟨rfl, _, rfl⟩
/-- What Add tells. -/
def adOk (a b : Int) : Bool := decide (-9223372036854775808 ≤ a + b) && decide (a + b ≤ 9223372036854775807)
def adN (a b : Int) : Int := if adOk a b = true then a + b else 0
theorem ad_yes {a b : Int} (h0 : -9223372036854775808 ≤ a + b) (h1 : a + b ≤ 9223372036854775807) : adOk a b = true ∧ adN a b = a + b := by
  have h : adOk a b = true := by unfold adOk; simp [h0, h1]
  unfold adN; rw [if_pos h]; exact ⟨h, rfl⟩
theorem ad_no {a b : Int} (h : ¬ (-9223372036854775808 ≤ a + b ∧ a + b ≤ 9223372036854775807)) : adOk a b = false ∧ adN a b = 0 := by
  have g : adOk a b = false := by
    cases e : adOk a b with
    | false => rfl
    | true =>
      unfold adOk at e
      rw [Bool.and_eq_true, decide_eq_true_eq, decide_eq_true_eq] at e
      exact absurd e h
  unfold adN; rw [g]; exact ⟨rfl, rfl⟩
set_option maxRecDepth 100000 in
set_option maxHeartbeats 400000 in
theorem Add_any (a b : Int) (w : World) (a0 : -9223372036854775808 ≤ a) (a1 : a ≤ 9223372036854775807) (b0 : -9223372036854775808 ≤ b) (b1 : b ≤ 9223372036854775807) :
    Calls Tryd.prog 8 #[.int .i64 a, .int .i64 b] w fun e w' => e = .returned (.tuple #[.int .i64 (adN a b), .bool (adOk a b)]) ∧ w' = w := by
  by_cases h : -9223372036854775808 ≤ a + b ∧ a + b ≤ 9223372036854775807
  · have HR : Hid (adOk a b = true ∧ adN a b = a + b) := ad_yes h.1 h.2
    obtain ⟨s0, s1⟩ := h
    by_cases hp : 0 < b
    · have hg : ¬ 9223372036854775807 - b < a := by omega
      have hn : ¬ b < 0 := by omega
      go_enter Tryd.func8, Tryd.ntmps8
      go_wp2
      go_ret2
      exact ⟨ret2 (vint HR.out.2.symm) (vbool HR.out.1.symm), rfl⟩
    · by_cases hn : b < 0
      · have hg : ¬ a < -9223372036854775808 - b := by omega
        go_enter Tryd.func8, Tryd.ntmps8
        go_wp2
        go_ret2
        exact ⟨ret2 (vint HR.out.2.symm) (vbool HR.out.1.symm), rfl⟩
      · go_enter Tryd.func8, Tryd.ntmps8
        go_wp2
        go_ret2
        exact ⟨ret2 (vint HR.out.2.symm) (vbool HR.out.1.symm), rfl⟩
  · have HR : Hid (adOk a b = false ∧ adN a b = 0) := ad_no h
    by_cases hp : 0 < b
    · have hg : 9223372036854775807 - b < a := by omega
      clear h
      go_enter Tryd.func8, Tryd.ntmps8
      go_wp2
      go_ret2
      exact ⟨ret2 (vint HR.out.2.symm) (vbool HR.out.1.symm), rfl⟩
    · have hn : b < 0 := by omega
      have hg : a < -9223372036854775808 - b := by omega
      clear h
      go_enter Tryd.func8, Tryd.ntmps8
      go_wp2
      go_ret2
      exact ⟨ret2 (vint HR.out.2.symm) (vbool HR.out.1.symm), rfl⟩
end Go.Proofs.YtochdjdkfmdgeabDoor
