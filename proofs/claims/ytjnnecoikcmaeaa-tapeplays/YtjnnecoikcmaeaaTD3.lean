/-
  tape, the law: lent, back.
-/
import Derived.Test.YtjnnecoikcmaeaaTP9
namespace Go.Proofs.Ytjnnecoikcmaeaa
set_option linter.unusedVariables false
set_option linter.unusedSimpArgs false
open Go.RowKit Go.Great

set_option maxRecDepth 100000 in
set_option maxHeartbeats 400000 in
theorem lent8_any (a : Option Addr) (n cap : Nat) (d : Nat → Nat) (w : World) (hn : n ≤ 140737488351232) (hs : Src w a n d) :
    Calls Try.prog 17 #[.slice a n cap] w fun e w' => e = .returned (.slice (some ⟨w.heap.size, 0, none⟩) n (n + 8)) ∧ OwnA w' w.heap.size (n + 8) (fun j => if j < n then d j else 201) ∧ Below w.heap.size w w' := by
  have hmk := make_bytes n (by omega)
  obtain ⟨W2, hcp, ho, hbl⟩ := copy_bytes a n (n + 8) cap (n + 8) w.heap.size d _ _ (hs.below ((Below.refl _ w).alloc (Nat.le_refl _) _)) (OwnA.made w (n + 8)) (by omega) w.heap.size w ((Below.refl _ w).alloc (Nat.le_refl _) _) (Nat.le_refl _)
  have HO : Hid (OwnA W2 w.heap.size (n + 8) (fun j => if j < n then d j else 0) ∧ Below w.heap.size w W2) := ⟨ho, hbl⟩
  clear hs ho hbl
  go_enter Try.func17, Try.ntmps17
  go_wp2
  go_loopw [4] (fun i w' => ∃ k : Nat, n ≤ k ∧ k ≤ n + 8 ∧ i = .int .i64 k ∧ OwnA w' w.heap.size (n + 8) (fun j => if j < n then d j else if j < k then 201 else 0) ∧ Below w.heap.size w w') (fun i _ => n + 8 - (intOf i).toNat)
  case atStart => exact ⟨n, Nat.le_refl _, by omega, rfl, HO.out.1.ext fun j hj => by by_cases e : j < n <;> simp [e], HO.out.2⟩
  case round =>
    obtain ⟨k, hk1, hk2, rfl, ho, hbl⟩ := hrel
    by_cases hlt : k < n + 8
    · have hlt' : (k : Int) < (n : Int) + 8 := by omega
      have hc := ho.cell k hlt
      have hf := ho.froz k
      have HP : Hid (OwnA wr w.heap.size (n + 8) (fun j => if j < n then d j else if j < k then 201 else 0) ∧ Below w.heap.size w wr) := ⟨ho, hbl⟩
      clear ho hbl
      go_wp2
      refine ⟨⟨k + 1, by omega, by omega, by go_num, (HP.out.1.set k 201 hlt (by decide)).ext fun j hj => ?_, HP.out.2.setCell (Nat.le_refl _) _⟩, by simp [intOf]; omega⟩
      show (if j = k then 201 else if j < n then d j else if j < k then 201 else 0) = if j < n then d j else if j < k + 1 then 201 else 0
      by_cases e : j = k
      · rw [if_pos e, if_neg (by omega), if_pos (by omega)]
      · rw [if_neg e]
        by_cases e2 : j < n
        · rw [if_pos e2, if_pos e2]
        · rw [if_neg e2, if_neg e2]
          by_cases e3 : j < k
          · rw [if_pos e3, if_pos (by omega)]
          · rw [if_neg e3, if_neg (by omega)]
    · have ek : k = n + 8 := by omega
      subst ek
      have HP : Hid (OwnA wr w.heap.size (n + 8) (fun j => if j < n then d j else if j < n + 8 then 201 else 0) ∧ Below w.heap.size w wr) := ⟨ho, hbl⟩
      clear ho hbl
      go_wp2
      go_ret
      refine ⟨rfl, HP.out.1.ext fun j hj => ?_, HP.out.2⟩
      by_cases e : j < n
      · simp [e]
      · simp [e, hj]
def stlD (n k : Nat) (d : Nat → Nat) (j : Nat) : Nat := if j < k then 202 else if j < n then d j else 201
set_option maxRecDepth 100000 in
set_option maxHeartbeats 1000000 in
theorem back_any (g n : Nat) (a : Option Addr) (cap' : Nat) (d : Nat → Nat) (w : World) (hn : n ≤ 140737488351232) (hs : Src w a n d) (hg : ∀ b off, a = some ⟨b, off, none⟩ → 0 < n → b ≠ g) (ho : OwnA w g (n + 8) (fun j => if j < n then d j else 201)) :
    Calls Try.prog 18 #[.slice (some ⟨g, 0, none⟩) n (n + 8), .slice a n cap'] w fun e w' => e = .returned (.bool true) ∧ OwnA w' g (n + 8) (fun _ => 202) ∧ Fr w w' (fun b => b = g) := by
  have HS : Hid (Src w a n d ∧ (∀ b off, a = some ⟨b, off, none⟩ → 0 < n → b ≠ g)) := ⟨hs, hg⟩
  have HO : Hid (OwnA w g (n + 8) (stlD n 0 d)) := ho.ext fun j hj => by simp [stlD]
  clear hs ho hg
  go_enter Try.func18, Try.ntmps18
  go_wp2
  go_loopw [6, 7] (fun x5 x6 wr => ∃ k : Nat, k ≤ n + 8 ∧ x5 = .bool true ∧ x6 = .int .i64 (k : Int) ∧ Hid (OwnA wr g (n + 8) (stlD n k d) ∧ Fr w wr (fun b => b = g))) (fun _ x6 _ => n + 8 - (intOf x6).toNat)
  case atStart => exact ⟨0, Nat.zero_le _, rfl, rfl, HO.out, Fr.refl _ _⟩
  case round =>
    obtain ⟨k, hk, rfl, rfl, HP⟩ := hrel
    by_cases hlt : k < n + 8
    · have hlt' : (k : Int) < (n : Int) + 8 := by omega
      have hc := HP.out.1.cell k hlt
      have hf := HP.out.1.froz k
      have hkw : IntKind.i64.wrap ((k : Int) + 1) = (k : Int) + 1 := by rw [IntKind.wrap_i64]; omega
      have HX : Hid (∀ q, OwnA ((wr.drewN q).setCell ⟨g, k, none⟩ (.int .u8 202)) g (n + 8) (stlD n (k + 1) d) ∧ Fr w ((wr.drewN q).setCell ⟨g, k, none⟩ (.int .u8 202)) (fun b => b = g)) := fun q => by
        have hd : OwnA (wr.drewN q) g (n + 8) (stlD n k d) := HP.out.1
        refine ⟨(hd.set k 202 hlt (by decide)).ext fun j hj => ?_, (HP.out.2.drewN q).trans (Fr.setCell _ _ _ (fun b => b = g) rfl) fun _ _ q => q.elim id id⟩
        unfold stlD
        by_cases e : j = k
        · rw [if_pos e, if_pos (show j < k + 1 by omega)]
        · rw [if_neg e]
          by_cases e2 : j < k
          · rw [if_pos e2, if_pos (show j < k + 1 by omega)]
          · rw [if_neg e2, if_neg (show ¬ j < k + 1 by omega)]
      have HX0 : Hid (OwnA (wr.setCell ⟨g, k, none⟩ (.int .u8 202)) g (n + 8) (stlD n (k + 1) d) ∧ Fr w (wr.setCell ⟨g, k, none⟩ (.int .u8 202)) (fun b => b = g)) := by
        refine ⟨(HP.out.1.set k 202 hlt (by decide)).ext fun j hj => ?_, HP.out.2.trans (Fr.setCell _ _ _ (fun b => b = g) rfl) fun _ _ q => q.elim id id⟩
        unfold stlD
        by_cases e : j = k
        · rw [if_pos e, if_pos (show j < k + 1 by omega)]
        · rw [if_neg e]
          by_cases e2 : j < k
          · rw [if_pos e2, if_pos (show j < k + 1 by omega)]
          · rw [if_neg e2, if_neg (show ¬ j < k + 1 by omega)]
      have hek : stlD n k d k = if k < n then d k else 201 := by unfold stlD; rw [if_neg (by omega)]
      rw [hek] at hc
      by_cases hkn : k < n
      · have hkn' : (k : Int) < (n : Int) := by omega
        rw [if_pos hkn] at hc
        rcases HS.out.1 with h0 | ⟨b, off, ea, hr⟩
        · omega
        · have hc2 := (HP.out.2).cell (hr k hkn).1 (HS.out.2 b off ea (by omega))
          subst ea
          clear hr HP hek
          go_wp2
          go_quiet (fail)
          go_wp2
          exact ⟨⟨k + 1, by omega, rfl, by go_num, HX.out _⟩, by simp [intOf]; omega⟩
      · have hge' : ¬ (k : Int) < (n : Int) := by omega
        rw [if_neg hkn] at hc
        clear HP hek
        go_wp2
        exact ⟨⟨k + 1, by omega, rfl, by go_num, HX0.out⟩, by simp [intOf]; omega⟩
    · have ek : k = n + 8 := by omega
      have hnl : ¬ (k : Int) < (n : Int) + 8 := by omega
      have HX : Hid (OwnA wr g (n + 8) (fun _ => 202) ∧ Fr w wr (fun b => b = g)) := ⟨HP.out.1.ext fun j hj => by unfold stlD; rw [if_pos (by omega)], HP.out.2⟩
      clear HP ek
      go_wp2
      go_ret
      exact ⟨rfl, HX.out⟩
end Go.Proofs.Ytjnnecoikcmaeaa
