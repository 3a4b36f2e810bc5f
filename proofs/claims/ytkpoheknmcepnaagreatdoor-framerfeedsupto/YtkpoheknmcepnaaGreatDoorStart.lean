/-
  clock: Start, for msg.
-/
import Derived.Test.YtkpoheknmcepnaaGreatDoorDays
namespace Go.Proofs.YtkpoheknmcepnaaGreatDoor
set_option linter.unusedVariables false
open Go.RowKit

theorem below_drewN {B : Nat} {a w : World} (h : Below B a w) (n : Nat) : Below B a (w.drewN n) := ⟨h.os, h.tape, h.output, h.size, h.block⟩
/-- What the errors of a date are. -/
def dtE (z : Int) : Int := if dnB z then 0 else 21
theorem dn_range {z : Int} (h : dnB z = true) : ∃ n : Nat, dnum z = some n ∧ dnV z = (n : Int) ∧ n ≤ 2932896 := by
  unfold dnB at h
  obtain ⟨n, hn⟩ := Option.isSome_iff_exists.1 h
  exact ⟨n, hn, by unfold dnV; rw [hn], (dnum_some hn).1⟩
theorem dn_zero {z : Int} (h : dnB z = false) : dnV z = 0 := by
  unfold dnB at h
  unfold dnV
  rw [show dnum z = none by simpa using h]
set_option maxRecDepth 100000 in
set_option maxHeartbeats 400000 in
theorem Start_any (z : Int) (w : World) (hM : Mon w) (h0 : -9223372036854775808 ≤ z) (h1 : z ≤ 9223372036854775807) :
    Calls Tryz.prog 144 #[.int .i64 z] w fun e w' => e = .returned (.tuple #[.int .i64 (dnV z * 86400000), .int .i64 (dtE z)]) ∧ w' = w := by
  have hc := dayOfDate_any z w hM h0 h1
  cases hd : dnB z
  · rw [dn_zero hd] at hc ⊢
    rw [hd] at hc
    have e2 : dtE z = 21 := by unfold dtE; rw [hd]; rfl
    rw [e2]
    clear e2 hd
    go_enter Tryz.func144, Tryz.ntmps144
    go_wp2_with (go_at_call 152; refine hc.mono ?_; rintro e w ⟨rfl, rfl⟩)
    go_ret2
    exact ⟨rfl, rfl⟩
  · obtain ⟨n, _, hn, hl⟩ := dn_range hd
    rw [hn] at hc ⊢
    rw [hd] at hc
    have e2 : dtE z = 0 := by unfold dtE; rw [hd]; rfl
    rw [e2]
    clear e2 hd hn
    go_enter Tryz.func144, Tryz.ntmps144
    go_wp2_with (first | (go_at_call 152; refine hc.mono ?_; rintro e w ⟨rfl, rfl⟩) | (go_at_call 153; refine (startOfDay_any _ n rfl _ hl).mono ?_; rintro e w ⟨rfl, rfl⟩))
    go_ret2
    exact ⟨rfl, rfl⟩

end Go.Proofs.YtkpoheknmcepnaaGreatDoor
