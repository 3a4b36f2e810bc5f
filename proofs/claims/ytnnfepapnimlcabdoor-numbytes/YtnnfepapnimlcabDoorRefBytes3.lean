/-
  The law's own: all.
-/
import Derived.Test.YtnnfepapnimlcabDoorBytes5
namespace Go.Proofs.YtnnfepapnimlcabDoor
set_option linter.unusedVariables false
set_option linter.unusedSimpArgs false
open Go.RowKit

set_option maxRecDepth 100000 in
set_option maxHeartbeats 400000 in
theorem all_yes (a : Option Addr) (n cap m : Nat) (d : Nat → Nat) (w : World) (hs : Src w a n d) (hd : ∀ j, j < n → d j = m) (hm : n ≤ 9223372036854775807) :
    Calls Tryd.prog 28 #[.slice a n cap, .int .u8 (m : Int)] w fun e w' => e = .returned (.bool true) ∧ w' = w := by
  have HS : Hid (Src w a n d ∧ ∀ j, j < n → d j = m) := ⟨hs, hd⟩
  clear hs hd
  go_enter Tryd.func28, Tryd.ntmps28
  go_wp2
  go_loopw [5] (fun i wr => ∃ k : Nat, k ≤ n ∧ i = .int .i64 k ∧ wr = w) (fun i _ => n - (intOf i).toNat)
  case atStart => exact ⟨0, by omega, rfl, rfl⟩
  case round =>
    obtain ⟨k, hk, rfl, rfl⟩ := hrel
    by_cases hlt : k < n
    · have hlt' : (k : Int) < (n : Int) := by omega
      rcases HS.out.1 with h0 | ⟨b, off, rfl, hr⟩
      · omega
      · obtain ⟨hc, _⟩ := hr k hlt
        rw [HS.out.2 k hlt] at hc
        clear hr
        have hb : ((m : Int) != (m : Int)) = false := by simp
        go_wp2
        go_roundw
        case rel => exact ⟨k + 1, by omega, by go_num, by first | rfl | trivial⟩
        case measure => simp [intOf]; omega
    · obtain rfl : k = n := by omega
      go_wp2
      go_ret
      exact ⟨rfl, by first | rfl | trivial⟩
end Go.Proofs.YtnnfepapnimlcabDoor
