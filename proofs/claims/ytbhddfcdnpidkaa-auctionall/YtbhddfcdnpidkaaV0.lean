/-
  auction: its leaves.
-/
import Derived.Test.YtbhddfcdnpidkaaProg
import Derived.Test.YtbhddfcdnpidkaaU2
import Derived.Test.YtbhddfcdnpidkaaHMem
namespace Go.Proofs.Ytbhddfcdnpidkaa
set_option linter.unusedVariables false
set_option linter.unusedSimpArgs false
open Go.RowKit Go.Great

def Wn.cs (v : Wn) : Array Value := #[.int .i64 v.id, .bool v.m, .int .i64 v.p, .int .i64 v.q]
def Pt.cs (a : Pt) : Array Value := #[.int .i64 a.c, .int .i64 a.x, .int .i64 a.y]
def atW (s p : Int) (v : Wn) : Bool := if s = 1 then atB p v else atS p v
def cmpV (a b : Int) : Int := if a < b then -1 else if b < a then 1 else 0
theorem isPrice_any (w : World) (p : Int) : Calls Try.prog 23 #[.int .i64 p] w fun e w' => e = .returned (.bool (decide (1 ≤ p ∧ p ≤ 1000000000))) ∧ w' = w := by
  by_cases a1 : 1 ≤ p
  · by_cases a2 : p ≤ 1000000000
    · go_enter Try.func23, Try.ntmps23
      go_wp2
      go_ret
      exact ⟨by simp [a1, a2], rfl⟩
    · go_enter Try.func23, Try.ntmps23
      go_wp2
      go_ret
      exact ⟨by simp [a1, a2], rfl⟩
  · go_enter Try.func23, Try.ntmps23
    go_wp2
    go_ret
    exact ⟨by simp; omega, rfl⟩
theorem lesser_any (w : World) (a b : Int) : Calls Try.prog 11 #[.int .i64 a, .int .i64 b] w fun e w' => e = .returned (.int .i64 (if a < b then a else b)) ∧ w' = w := by
  by_cases h : a < b
  · go_enter Try.func11, Try.ntmps11
    go_wp2
    go_ret
    exact ⟨by simp [h], rfl⟩
  · go_enter Try.func11, Try.ntmps11
    go_wp2
    go_ret
    exact ⟨by simp [h], rfl⟩
theorem at_any (w : World) (v : Wn) (s p : Int) : Calls Try.prog 45 #[.agg v.cs, .int .i64 s, .int .i64 p] w fun e w' => e = .returned (.bool (atW s p v)) ∧ Below w.heap.size w w' := by
  have hb : Below w.heap.size w (w.alloc (.cells v.cs 69)) := (Below.refl _ w).alloc (Nat.le_refl _) _
  obtain ⟨i, m, x, q⟩ := v
  unfold Wn.cs at *
  dsimp only at *
  cases m with
  | true =>
    go_enter Try.func45, Try.ntmps45
    go_wp2
    go_ret
    exact ⟨by unfold atW atB atS; simp, hb⟩
  | false =>
    by_cases hs : s = 1
    · have hs' : (s == 1) = true := by simp [hs]
      go_enter Try.func45, Try.ntmps45
      go_wp2
      go_ret
      exact ⟨by unfold atW atB; simp [hs], hb⟩
    · have hs' : (s == 1) = false := by simp [hs]
      go_enter Try.func45, Try.ntmps45
      go_wp2
      go_ret
      exact ⟨by unfold atW atS; simp [hs], hb⟩
theorem traded_any (w : World) (a : Pt) : Calls Try.prog 28 #[.agg a.cs] w fun e w' => e = .returned (.int .i64 a.tr) ∧ Below w.heap.size w w' := by
  have hb : Below w.heap.size w (w.alloc (.cells a.cs 61)) := (Below.refl _ w).alloc (Nat.le_refl _) _
  obtain ⟨c, x, y⟩ := a
  unfold Pt.cs at *
  dsimp only at *
  by_cases h : x ≤ y
  · go_enter Try.func28, Try.ntmps28
    go_wp2
    go_ret
    exact ⟨by unfold Pt.tr; simp; split <;> omega, hb⟩
  · go_enter Try.func28, Try.ntmps28
    go_wp2
    go_ret
    exact ⟨by unfold Pt.tr; simp; split <;> omega, hb⟩
theorem side_any (w : World) (a : Pt) : Calls Try.prog 30 #[.agg a.cs] w fun e w' => e = .returned (.int .i64 a.sd) ∧ Below w.heap.size w w' := by
  have hb : Below w.heap.size w (w.alloc (.cells a.cs 61)) := (Below.refl _ w).alloc (Nat.le_refl _) _
  obtain ⟨c, x, y⟩ := a
  unfold Pt.cs at *
  dsimp only at *
  by_cases h : y < x
  · go_enter Try.func30, Try.ntmps30
    go_wp2
    go_ret
    exact ⟨by unfold Pt.sd; simp [h], hb⟩
  · by_cases h2 : x < y
    · go_enter Try.func30, Try.ntmps30
      go_wp2
      go_ret
      exact ⟨by unfold Pt.sd; simp [h, h2], hb⟩
    · go_enter Try.func30, Try.ntmps30
      go_wp2
      go_ret
      exact ⟨by unfold Pt.sd; simp; split <;> (try split) <;> omega, hb⟩
theorem cmpI_any (w : World) (a b : Int) : Calls Try.prog 54 #[.int .i64 a, .int .i64 b] w fun e w' => e = .returned (.int .i64 (cmpV a b)) ∧ Below w.heap.size w w' := by
  by_cases h : a < b
  · go_enter Try.func54, Try.ntmps54
    go_wp2
    go_ret
    exact ⟨by unfold cmpV; simp; try omega, Below.refl _ w⟩
  · by_cases h2 : b < a
    · go_enter Try.func54, Try.ntmps54
      go_wp2
      go_ret
      exact ⟨by unfold cmpV; simp; try omega, Below.refl _ w⟩
    · go_enter Try.func54, Try.ntmps54
      go_wp2
      go_ret
      exact ⟨by unfold cmpV; simp; try omega, Below.refl _ w⟩
theorem cmpN_any (w : World) (a b : Int) : Calls Try.prog 61 #[.int .i64 a, .int .i64 b] w fun e w' => e = .returned (.int .i64 (cmpV a b)) ∧ Below w.heap.size w w' := by
  by_cases h : a < b
  · go_enter Try.func61, Try.ntmps61
    go_wp2
    go_ret
    exact ⟨by unfold cmpV; simp; try omega, Below.refl _ w⟩
  · by_cases h2 : b < a
    · go_enter Try.func61, Try.ntmps61
      go_wp2
      go_ret
      exact ⟨by unfold cmpV; simp; try omega, Below.refl _ w⟩
    · go_enter Try.func61, Try.ntmps61
      go_wp2
      go_ret
      exact ⟨by unfold cmpV; simp; try omega, Below.refl _ w⟩
theorem far_any (w : World) (a b : Int) (ha : 0 ≤ a ∧ a ≤ 1000000000) (hb : 0 ≤ b ∧ b ≤ 1000000000) : Calls Try.prog 64 #[.int .i64 a, .int .i64 b] w fun e w' => e = .returned (.int .i64 (far a b)) ∧ w' = w := by
  have e1 : IntKind.i64.wrap (a - b) = a - b := by rw [IntKind.wrap_i64]; omega
  have e2 : IntKind.i64.wrap (b - a) = b - a := by rw [IntKind.wrap_i64]; omega
  by_cases h : a - b ≤ b - a
  · go_enter Try.func64, Try.ntmps64
    go_wp2
    go_ret
    exact ⟨by unfold far; simp; split <;> omega, rfl⟩
  · go_enter Try.func64, Try.ntmps64
    go_wp2
    go_ret
    exact ⟨by unfold far; simp; split <;> omega, rfl⟩
end Go.Proofs.Ytbhddfcdnpidkaa
