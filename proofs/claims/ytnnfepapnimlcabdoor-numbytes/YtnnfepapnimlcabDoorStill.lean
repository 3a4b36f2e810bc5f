/-
  still, of which it is said that it only reads.
-/
import Derived.Test.YtnnfepapnimlcabDoorOwn
namespace Go.Proofs.YtnnfepapnimlcabDoor
set_option linter.unusedVariables false
open Go.RowKit

set_option maxRecDepth 100000 in
set_option maxHeartbeats 400000 in
theorem still_same (g n cap : Nat) (a : Option Addr) (cap' : Nat) (d : Nat → Nat) (w : World) (hn : n ≤ 140737488351232) (hs : Src w a n d) (ho : OwnA w g (n + 8) (fun j => if j < n then d j else 201)) :
    Calls Tryd.prog 22 #[.slice (some ⟨g, 0, none⟩) (n + 8) cap, .slice a n cap'] w fun e w' => e = .returned (.bool true) ∧ ∃ q, w' = w.drewN q := by
  have HS : Hid (Src w a n d ∧ OwnA w g (n + 8) (fun j => if j < n then d j else 201)) := ⟨hs, ho⟩
  clear hs ho
  go_enter Tryd.func22, Tryd.ntmps22
  go_wp2
  go_loopw [5] (fun i wr => ∃ k q : Nat, k ≤ n + 8 ∧ i = .int .i64 k ∧ wr = w.drewN q) (fun i _ => n + 8 - (intOf i).toNat)
  case atStart => exact ⟨0, 0, Nat.zero_le _, rfl, rfl⟩
  case round =>
    obtain ⟨k, q, hk, rfl, hw⟩ := hrel
    have hbl : Below w.heap.size w wr := by rw [hw]; exact below_drewN (Below.refl _ _) q
    have HB : Hid (wr = w.drewN q) := hw
    clear hw
    by_cases hlt : k < n + 8
    · have hlt' : (k : Int) < (n : Int) + 8 := by omega
      have hc := (HS.out.2.below hbl HS.out.2.lt).cell k hlt
      by_cases hkn : k < n
      · have hkn' : (k : Int) < (n : Int) := by omega
        rw [if_pos hkn] at hc
        rcases HS.out.1.below hbl with h0 | ⟨b, off, ea, hr⟩
        · omega
        · have hc2 := (hr k hkn).1
          subst ea
          clear hr hbl
          have hge : decide (n ≤ k) = false := decide_eq_false (by omega)
          go_wp2
          go_quiet (fail)
          go_wp2
          exact ⟨⟨k + 1, _, by omega, by go_num, by rw [HB.out, World.drewN_drewN]⟩, by simp [intOf]; omega⟩
      · have hge' : (n : Int) ≤ (k : Int) := by omega
        have hkn' : decide ((k : Int) < (n : Int)) = false := decide_eq_false (by omega)
        rw [if_neg hkn] at hc
        clear hbl
        go_wp2
        go_quiet (fail)
        go_wp2
        exact ⟨⟨k + 1, _, by omega, by go_num, by rw [HB.out, World.drewN_drewN]⟩, by simp [intOf]; omega⟩
    · have ek : k = n + 8 := by omega
      subst ek
      go_wp2
      go_ret
      exact ⟨rfl, q, HB.out⟩
end Go.Proofs.YtnnfepapnimlcabDoor
