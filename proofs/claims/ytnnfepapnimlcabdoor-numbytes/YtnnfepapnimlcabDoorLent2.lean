/-
  lent and still, for lists that are a little longer than what may come in.
-/
import Derived.Test.YtnnfepapnimlcabDoorOwn
namespace Go.Proofs.YtnnfepapnimlcabDoor
set_option linter.unusedVariables false
open Go.RowKit

set_option maxRecDepth 100000 in
set_option maxHeartbeats 400000 in
theorem lent_big (a : Option Addr) (n cap : Nat) (d : Nat → Nat) (w : World) (hn : n ≤ 140737488355000) (hs : Src w a n d) :
    Calls Tryd.prog 20 #[.slice a n cap] w fun e w' => e = .returned (.slice (some ⟨w.heap.size, 0, none⟩) (n + 8) (n + 8)) ∧ OwnA w' w.heap.size (n + 8) (fun j => if j < n then d j else 201) ∧ Below w.heap.size w w' := by
  have hmk := make_bytes n (by omega)
  obtain ⟨W2, hcp, ho, hbl⟩ := copy_bytes a n (n + 8) cap (n + 8) w.heap.size d _ _ (hs.below ((Below.refl _ w).alloc (Nat.le_refl _) _)) (OwnA.made w (n + 8)) (by omega) w.heap.size w ((Below.refl _ w).alloc (Nat.le_refl _) _) (Nat.le_refl _)
  have HO : Hid (OwnA W2 w.heap.size (n + 8) (fun j => if j < n then d j else 0) ∧ Below w.heap.size w W2) := ⟨ho, hbl⟩
  clear hs ho hbl
  go_enter Tryd.func20, Tryd.ntmps20
  go_wp2
  go_loopw [4] (fun i w' => ∃ k : Nat, n ≤ k ∧ k ≤ n + 8 ∧ i = .int .i64 k ∧ OwnA w' w.heap.size (n + 8) (fun j => if j < n then d j else if j < k then 201 else 0) ∧ Below w.heap.size w w') (fun i _ => n + 8 - (intOf i).toNat)
  case atStart => exact ⟨n, Nat.le_refl _, by omega, rfl, HO.out.1.ext fun j hj => by by_cases e : j < n <;> simp [e], HO.out.2⟩
  case round =>
    obtain ⟨k, hk1, hk2, rfl, ho, hbl⟩ := hrel
    by_cases hlt : k < n + 8
    · have hlt' : (k : Int) < (n : Int) + 8 := by omega
      have hc := ho.cell k hlt
      have hf := ho.froz k
      have HP : Hid (OwnA wr w.heap.size (n + 8) (fun j => if j < n then d j else if j < k then 201 else 0) ∧ Below w.heap.size w wr) := ⟨ho, hbl⟩
      clear ho hbl
      go_wp2
      refine ⟨⟨k + 1, by omega, by omega, by go_num, (HP.out.1.set k 201 hlt (by decide)).ext fun j hj => ?_, HP.out.2.setCell (Nat.le_refl _) _⟩, by simp [intOf]; omega⟩
      show (if j = k then 201 else if j < n then d j else if j < k then 201 else 0) = if j < n then d j else if j < k + 1 then 201 else 0
      by_cases e : j = k
      · rw [if_pos e, if_neg (by omega), if_pos (by omega)]
      · rw [if_neg e]
        by_cases e2 : j < n
        · rw [if_pos e2, if_pos e2]
        · rw [if_neg e2, if_neg e2]
          by_cases e3 : j < k
          · rw [if_pos e3, if_pos (by omega)]
          · rw [if_neg e3, if_neg (by omega)]
    · have ek : k = n + 8 := by omega
      subst ek
      have HP : Hid (OwnA wr w.heap.size (n + 8) (fun j => if j < n then d j else if j < n + 8 then 201 else 0) ∧ Below w.heap.size w wr) := ⟨ho, hbl⟩
      clear ho hbl
      go_wp2
      go_ret
      refine ⟨rfl, HP.out.1.ext fun j hj => ?_, HP.out.2⟩
      by_cases e : j < n
      · simp [e]
      · simp [e, hj]

set_option maxRecDepth 100000 in
set_option maxHeartbeats 400000 in
theorem still_big (g n cap : Nat) (a : Option Addr) (cap' : Nat) (d : Nat → Nat) (w : World) (hn : n ≤ 140737488355000) (hs : Src w a n d) (ho : OwnA w g (n + 8) (fun j => if j < n then d j else 201)) :
    Calls Tryd.prog 22 #[.slice (some ⟨g, 0, none⟩) (n + 8) cap, .slice a n cap'] w fun e w' => e = .returned (.bool true) ∧ ∃ q, w' = w.drewN q := by
  have HS : Hid (Src w a n d ∧ OwnA w g (n + 8) (fun j => if j < n then d j else 201)) := ⟨hs, ho⟩
  clear hs ho
  go_enter Tryd.func22, Tryd.ntmps22
  go_wp2
  go_loopw [5] (fun i wr => ∃ k q : Nat, k ≤ n + 8 ∧ i = .int .i64 k ∧ wr = w.drewN q) (fun i _ => n + 8 - (intOf i).toNat)
  case atStart => exact ⟨0, 0, Nat.zero_le _, rfl, rfl⟩
  case round =>
    obtain ⟨k, q, hk, rfl, hw⟩ := hrel
    have hbl : Below w.heap.size w wr := by rw [hw]; exact below_drewN (Below.refl _ _) q
    have HB : Hid (wr = w.drewN q) := hw
    clear hw
    by_cases hlt : k < n + 8
    · have hlt' : (k : Int) < (n : Int) + 8 := by omega
      have hc := (HS.out.2.below hbl HS.out.2.lt).cell k hlt
      by_cases hkn : k < n
      · have hkn' : (k : Int) < (n : Int) := by omega
        rw [if_pos hkn] at hc
        rcases HS.out.1.below hbl with h0 | ⟨b, off, ea, hr⟩
        · omega
        · have hc2 := (hr k hkn).1
          subst ea
          clear hr hbl
          have hge : decide (n ≤ k) = false := decide_eq_false (by omega)
          go_wp2
          go_quiet (fail)
          go_wp2
          exact ⟨⟨k + 1, _, by omega, by go_num, by rw [HB.out, World.drewN_drewN]⟩, by simp [intOf]; omega⟩
      · have hge' : (n : Int) ≤ (k : Int) := by omega
        have hkn' : decide ((k : Int) < (n : Int)) = false := decide_eq_false (by omega)
        rw [if_neg hkn] at hc
        clear hbl
        go_wp2
        go_quiet (fail)
        go_wp2
        exact ⟨⟨k + 1, _, by omega, by go_num, by rw [HB.out, World.drewN_drewN]⟩, by simp [intOf]; omega⟩
    · have ek : k = n + 8 := by omega
      subst ek
      go_wp2
      go_ret
      exact ⟨rfl, q, HB.out⟩
end Go.Proofs.YtnnfepapnimlcabDoor
