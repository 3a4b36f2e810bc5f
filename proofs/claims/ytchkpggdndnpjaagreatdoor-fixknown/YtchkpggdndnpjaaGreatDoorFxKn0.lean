/-
  fix: five frames, and what is told of each.
-/
import Derived.Test.YtchkpggdndnpjaaGreatDoorG46
namespace Go.Proofs.YtchkpggdndnpjaaGreatDoor
set_option linter.unusedVariables false
set_option linter.unusedSimpArgs false
open Go.RowKit Go.Great

/-- Which of n things a raw number speaks of. -/
def pickN (c : Int) (n : Nat) : Nat := (if c < 0 then (-(c + 1)) % (n : Int) else c % (n : Int)).toNat
theorem pickN_lt (c : Int) {n : Nat} (h : 0 < n) : pickN c n < n := by
  unfold pickN
  have h1 := Int.emod_lt_of_pos (-(c + 1)) (show (0 : Int) < n by omega)
  have h2 := Int.emod_nonneg (-(c + 1)) (show (n : Int) ≠ 0 by omega)
  have h3 := Int.emod_lt_of_pos c (show (0 : Int) < n by omega)
  have h4 := Int.emod_nonneg c (show (n : Int) ≠ 0 by omega)
  split <;> omega
set_option maxRecDepth 100000 in
set_option maxHeartbeats 400000 in
theorem pick_any (c x : Int) (n : Nat) (hx : x = n) (w : World) (hn : 0 < n) (hn1 : n ≤ 9223372036854775807) (h0 : -9223372036854775808 ≤ c) (h1 : c ≤ 9223372036854775807) :
    Calls Tryz.prog 15 #[.int .i64 c, .int .i64 x] w fun e w' => e = .returned (.int .i64 (pickN c n : Int)) ∧ w' = w := by
  subst hx
  have hp := pickN_lt c hn
  have hn' : ¬ (n : Int) = 0 := by omega
  by_cases hc : c < 0
  · have e : (c + 1).tmod (n : Int) = -(pickN c n : Int) := by
      have h2 := Int.emod_nonneg (-(c + 1)) (show (n : Int) ≠ 0 by omega)
      unfold pickN
      rw [if_pos hc, Int.toNat_of_nonneg h2, ← Int.tmod_eq_emod_of_nonneg (by omega), Int.neg_tmod, Int.neg_neg]
    generalize pickN c n = p at *
    go_enter Tryz.func15, Tryz.ntmps15
    go_wp2
    go_ret
    exact ⟨rfl, rfl⟩
  · have hc' : 0 ≤ c := by omega
    have e : c % (n : Int) = (pickN c n : Int) := by
      have h2 := Int.emod_nonneg c (show (n : Int) ≠ 0 by omega)
      unfold pickN
      rw [if_neg hc, Int.toNat_of_nonneg h2]
    generalize pickN c n = p at *
    go_enter Tryz.func15, Tryz.ntmps15
    go_wp2
    go_ret
    exact ⟨rfl, rfl⟩
def knF : Nat → List Fld
  | 0 => [(35, [49]), (49, [65]), (56, [66]), (34, [55]), (52, [50, 48, 50, 52, 48, 50, 50, 57, 45, 49, 50, 58, 51, 52, 58, 53, 54])]
  | 1 => [(35, [49]), (44, [49]), (49, [65]), (56, [66]), (34, [55]), (52, [50, 48, 50, 52, 48, 50, 50, 57, 45, 49, 50, 58, 51, 52, 58, 53, 54])]
  | 2 => [(35, [49]), (9000, [49]), (49, [65]), (56, [66]), (34, [55]), (52, [50, 48, 50, 52, 48, 50, 50, 57, 45, 49, 50, 58, 51, 52, 58, 53, 54])]
  | 3 => [(35, [49]), (49, [65]), (56, [66]), (34, [48, 55]), (52, [50, 48, 50, 52, 48, 50, 50, 57, 45, 49, 50, 58, 51, 52, 58, 53, 54])]
  | _ => [(35, [90]), (49, [65]), (56, [66]), (34, [55]), (52, [50, 48, 50, 52, 48, 50, 50, 57, 45, 49, 50, 58, 51, 52, 58, 53, 54])]
def knR : Nat → Int
  | 0 => 1
  | 1 => 2
  | 2 => 0
  | 3 => 5
  | _ => 11
def knT : Nat → Int
  | 0 => 112
  | 1 => 44
  | 2 => 9000
  | 3 => 34
  | _ => 35
def knE : Nat → Int
  | 0 => 50
  | 1 => 53
  | 2 => 52
  | 3 => 31
  | _ => 30
def knP : Nat → Nat
  | 0 => 5
  | 1 => 1
  | 2 => 1
  | 3 => 3
  | _ => 0
def knZ (k : Nat) : Int := if k = 4 then 0 else 2
def knQ (k : Nat) : Int := if k = 3 then 0 else 7
theorem five {P : Nat → Prop} (h0 : P 0) (h1 : P 1) (h2 : P 2) (h3 : P 3) (h4 : P 4) : ∀ k : Nat, k < 5 → P k := by
  intro k hk
  rcases (by omega : k = 0 ∨ k = 1 ∨ k = 2 ∨ k = 3 ∨ k = 4) with rfl | rfl | rfl | rfl | rfl
  · exact h0
  · exact h1
  · exact h2
  · exact h3
  · exact h4
def jnB (fs : List Fld) : Bool := match joinL fs with | .ok b => decide (b.length ≤ 1024) | .error _ => false
theorem kn_jn (k : Nat) (hk : k < 5) : jnB (knF k) = true := by
  revert hk
  revert k
  refine five ?_ ?_ ?_ ?_ ?_ <;> kernel_rfl
theorem kn_join (k : Nat) (hk : k < 5) : ∃ b, joinL (knF k) = .ok b ∧ b.length ≤ 1024 := by
  have h := kn_jn k hk
  unfold jnB at h
  cases hj : joinL (knF k) with
  | ok b => rw [hj] at h; exact ⟨b, rfl, of_decide_eq_true h⟩
  | error e => rw [hj] at h; cases h
theorem kn_x (k : Nat) (hk : k < 5) : rdX (knF k) = some (knE k, knP k, knT k) := by
  revert hk
  revert k
  refine five ?_ ?_ ?_ ?_ ?_ <;> kernel_rfl
theorem kn_rs (k : Nat) (hk : k < 5) : rsN (knE k) = knR k := by
  revert hk
  revert k
  refine five ?_ ?_ ?_ ?_ ?_ <;> kernel_rfl
theorem kn_ne (k : Nat) (hk : k < 5) : knE k ≠ 0 := by
  revert hk
  revert k
  refine five ?_ ?_ ?_ ?_ ?_ <;> decide
theorem kn_m (k : Nat) (hk : k < 5) : (rdM (knF k)).z 0 = knZ k ∧ (rdM (knF k)).s 1 = ⟨#[65]⟩ ∧ (rdM (knF k)).s 2 = ⟨#[66]⟩ ∧ (rdM (knF k)).z 3 = knQ k ∧ (rdM (knF k)).z 5 = 1709210096000 ∧ (rdM (knF k)).s 9 = ⟨#[]⟩ := by
  revert hk
  revert k
  refine five ?_ ?_ ?_ ?_ ?_ <;> exact ⟨by kernel_rfl, by kernel_rfl, by kernel_rfl, by kernel_rfl, by kernel_rfl, by kernel_rfl⟩
/-- What Join, Decode and Why tell. -/
theorem kn_all (k : Nat) (hk : k < 5) : ∃ b, joinL (knF k) = .ok b ∧ b.length ≤ 1024 ∧ dcL b = .error (knE k, knP k) ∧ whR b = knR k ∧ whT b = knT k ∧ whM b = rdM (knF k) := by
  obtain ⟨b, hj, hl⟩ := kn_join k hk
  have hs := join_split hj
  have hx := kn_x k hk
  refine ⟨b, hj, hl, ?_, ?_, ?_, ?_⟩
  · unfold dcL; rw [hs]; dsimp only; rw [hx]
  · unfold whR; rw [hs]; dsimp only; rw [hx]; exact kn_rs k hk
  · unfold whT; rw [hs]; dsimp only; rw [hx]
  · unfold whM; rw [hs]
theorem kn_okT (k : Nat) (hk : k < 5) : okT (knF k) := by
  revert hk
  revert k
  refine five ?_ ?_ ?_ ?_ ?_ <;> (intro f hf; simp [knF] at hf; rcases hf with rfl | rfl | rfl | rfl | rfl | rfl <;> decide)
theorem kn_sz (k : Nat) (hk : k < 5) : (bodyB (knF k)).length ≤ 1099511627776 ∧ (knF k).length ≤ 1099511627776 := by
  revert hk
  revert k
  refine five ?_ ?_ ?_ ?_ ?_ <;> exact ⟨by decide +kernel, by decide⟩
end Go.Proofs.YtchkpggdndnpjaaGreatDoor
