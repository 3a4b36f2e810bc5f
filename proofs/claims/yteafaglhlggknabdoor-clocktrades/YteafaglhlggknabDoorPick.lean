/-
  The law's own: pick, time.
-/
import Derived.Test.YteafaglhlggknabDoorDates
namespace Go.Proofs.YteafaglhlggknabDoor
set_option linter.unusedVariables false
open Go.Shelf Go.RowKit Go.Sort Go.Lib

/-- Which of n things a raw number speaks of. -/
def pickN (c : Int) (n : Nat) : Nat := (if c < 0 then (-(c + 1)) % (n : Int) else c % (n : Int)).toNat
theorem pickN_lt (c : Int) {n : Nat} (h : 0 < n) : pickN c n < n := by
  unfold pickN
  have h1 := Int.emod_lt_of_pos (-(c + 1)) (show (0 : Int) < n by omega)
  have h2 := Int.emod_nonneg (-(c + 1)) (show (n : Int) ≠ 0 by omega)
  have h3 := Int.emod_lt_of_pos c (show (0 : Int) < n by omega)
  have h4 := Int.emod_nonneg c (show (n : Int) ≠ 0 by omega)
  split <;> omega
set_option maxRecDepth 100000 in
set_option maxHeartbeats 400000 in
theorem pick_any (c x : Int) (n : Nat) (hx : x = n) (w : World) (hn : 0 < n) (hn1 : n ≤ 9223372036854775807) (h0 : -9223372036854775808 ≤ c) (h1 : c ≤ 9223372036854775807) :
    Calls Tryd.prog 13 #[.int .i64 c, .int .i64 x] w fun e w' => e = .returned (.int .i64 (pickN c n : Int)) ∧ w' = w := by
  subst hx
  have hp := pickN_lt c hn
  have hn' : ¬ (n : Int) = 0 := by omega
  by_cases hc : c < 0
  · have e : (c + 1).tmod (n : Int) = -(pickN c n : Int) := by
      have h2 := Int.emod_nonneg (-(c + 1)) (show (n : Int) ≠ 0 by omega)
      unfold pickN
      rw [if_pos hc, Int.toNat_of_nonneg h2, ← Int.tmod_eq_emod_of_nonneg (by omega), Int.neg_tmod, Int.neg_neg]
    generalize pickN c n = p at *
    go_enter Tryd.func13, Tryd.ntmps13
    go_wp2
    go_ret
    exact ⟨rfl, rfl⟩
  · have hc' : 0 ≤ c := by omega
    have e : c % (n : Int) = (pickN c n : Int) := by
      have h2 := Int.emod_nonneg c (show (n : Int) ≠ 0 by omega)
      unfold pickN
      rw [if_neg hc, Int.toNat_of_nonneg h2]
    generalize pickN c n = p at *
    go_enter Tryd.func13, Tryd.ntmps13
    go_wp2
    go_ret
    exact ⟨rfl, rfl⟩
end Go.Proofs.YteafaglhlggknabDoor
