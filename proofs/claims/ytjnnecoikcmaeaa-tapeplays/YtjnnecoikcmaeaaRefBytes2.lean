/-
  The reference's GetVar.
-/
import Derived.Test.YtjnnecoikcmaeaaBytes5
namespace Go.Proofs.Ytjnnecoikcmaeaa
set_option linter.unusedVariables false
set_option linter.unusedSimpArgs false
open Go.RowKit

set_option maxRecDepth 100000 in
set_option maxHeartbeats 400000 in
theorem refGetVar_any (a : Option Addr) (n cap : Nat) (d : Nat → Nat) (w : World) (hs : Src w a n d) (hm : n ≤ 9223372036854775807) :
    Calls Try.prog 51 #[.slice a n cap] w fun e w' => e = .returned (.tuple #[.int .i64 (gvV (gvr d n)), .int .i64 (gvK (gvr d n) : Int)]) ∧ w' = w := by
  generalize hR : gvr d n = R
  have HR : Hid (gv d n 10 0 0 = R) := hR
  clear hR
  have HS : Hid (Src w a n d) := hs
  clear hs
  go_enter Try.func51, Try.ntmps51
  go_wp2
  go_loopw [4, 5, 6] (fun x i x6 wr => ∃ k u : Nat, k ≤ 9 ∧ k ≤ n ∧ i = .int .i64 k ∧ x = .int .u64 (u : Int) ∧ u < 2 ^ (7 * k) ∧ gv d n (9 - k + 1) k u = R ∧ wr = w) (fun _ i _ _ => n - (intOf i).toNat)
  case atStart => exact ⟨0, 0, by omega, by omega, rfl, rfl, by simp, HR.out, rfl⟩
  case round =>
    obtain ⟨k, u, hk9, hkn, rfl, rfl, hu, hgv, rfl⟩ := hrel
    clear HR
    by_cases hlt : k < n
    · have hlt' : (k : Int) < (n : Int) := by omega
      rcases HS.out with h0 | ⟨b, off, rfl, hr⟩
      · omega
      · obtain ⟨hc, hc256⟩ := hr k hlt
        clear hr
        by_cases h9 : k = 9 ∧ 1 < d k
        · obtain ⟨rfl, h91⟩ := h9
          rw [gv_nine h91] at hgv
          subst hgv
          have h91' : (1 : Int) < (d 9 : Int) := by omega
          go_wp2
          go_ret2
          exact ⟨rfl, by first | rfl | trivial⟩
        · by_cases e9 : k = 9
          · subst e9
            have h91 : d 9 ≤ 1 := by omega
            have h91' : (d 9 : Int) ≤ 1 := by omega
            obtain ⟨r1, r2, r3⟩ := gv_room hk9 hu h9
            have hY : IntKind.u64.wrap ((d 9 : Int) % 128 * 9223372036854775808) = ((d 9 % 128 * 2 ^ (7 * 9) : Nat) : Int) := wrap_y (d 9) 9 9223372036854775808 (by decide) r1
            have HOn : Hid (128 ≤ d 9 → gv d n (9 - 9 + 1) 9 u = gv d n (9 - 9) (9 + 1) (u + d 9 % 128 * 2 ^ (7 * 9))) := fun h => gv_on hlt h9 h
            have HLong : Hid (d 9 = 0 → 0 < 9 → gv d n (9 - 9 + 1) 9 u = none) := fun h h' => gv_long h h'
            have HDone : Hid (d 9 < 128 → ¬ (d 9 = 0 ∧ 0 < 9) → gv d n (9 - 9 + 1) 9 u = some (u + d 9 % 128 * 2 ^ (7 * 9), 9 + 1)) := fun h h' => gv_done hlt h9 h h'
            have HG : Hid (gv d n (9 - 9 + 1) 9 u = R) := hgv
            have HR3 : Hid (u + d 9 % 128 * 2 ^ (7 * 9) < 2 ^ (7 * (9 + 1))) := r3
            clear hgv r3 hu r1
            have hS : IntKind.u64.wrap ((u : Int) + ((d 9 % 128 * 2 ^ (7 * 9) : Nat) : Int)) = ((u + d 9 % 128 * 2 ^ (7 * 9) : Nat) : Int) := by
              rw [← Int.natCast_add]
              exact IntWalk.u64_in _ ⟨Int.natCast_nonneg _, by omega⟩
            generalize u + d 9 % 128 * 2 ^ (7 * 9) = Z at *
            generalize d 9 % 128 * 2 ^ (7 * 9) = Y at *
            have hk7 : 7 * 9 < 64 := by omega
            have h128' : (d 9 : Int) ≤ 127 := by omega
            by_cases hz : d 9 = 0 ∧ 0 < 9
            · have hz1 : (d 9 : Int) = 0 := by omega
              have e : R = none := by rw [← HG.out, HLong.out hz.1 hz.2]
              subst e
              clear HOn HLong HDone HG
              generalize d 9 = c at *
              go_wp2
              go_ret2
              exact ⟨rfl, by first | rfl | trivial⟩
            · have e : R = some (Z, 9 + 1) := by rw [← HG.out, HDone.out (by omega) hz]
              have e1 : gvV R = unf Z := by rw [e]; rfl
              have e2 : gvK R = 9 + 1 := by rw [e]; rfl
              have HE : Hid (gvV R = unf Z ∧ gvK R = 9 + 1) := ⟨e1, e2⟩
              clear HOn HLong HDone HG e e1 e2
              have hz0 : ¬ (d 9 : Int) = 0 := by omega
              generalize d 9 = c at *
              by_cases hpar : Z % 2 = 1
              · have hpar' : (Z : Int) % 2 = 1 := by omega
                have HU : Hid (unf Z = -((Z : Int) / 2) - 1) := by show unf Z = _; unfold unf; rw [if_pos hpar]; omega
                go_wp2
                go_ret2
                exact ⟨ret2 (vint (by rw [HE.out.1, HU.out]; try omega)) (vint (by rw [HE.out.2]; rfl)), by first | rfl | trivial⟩
              · have hpar' : ¬ (Z : Int) % 2 = 1 := by omega
                have HU : Hid (unf Z = (Z : Int) / 2) := by show unf Z = _; unfold unf; rw [if_neg hpar]; omega
                go_wp2
                go_ret2
                exact ⟨ret2 (vint (by rw [HE.out.1, HU.out]; try omega)) (vint (by rw [HE.out.2]; rfl)), by first | rfl | trivial⟩
          · have e9' : ¬ (k : Int) = 9 := by omega
            obtain ⟨r1, r2, r3⟩ := gv_room hk9 hu h9
            have hY : IntKind.u64.wrap ((d k : Int) % 128 * 2 ^ (7 * k)) = ((d k % 128 * 2 ^ (7 * k) : Nat) : Int) := wrap_y (d k) k (2 ^ (7 * k)) rfl r1
            have HOn : Hid (128 ≤ d k → gv d n (9 - k + 1) k u = gv d n (9 - k) (k + 1) (u + d k % 128 * 2 ^ (7 * k))) := fun h => gv_on hlt h9 h
            have HLong : Hid (d k = 0 → 0 < k → gv d n (9 - k + 1) k u = none) := fun h h' => gv_long h h'
            have HDone : Hid (d k < 128 → ¬ (d k = 0 ∧ 0 < k) → gv d n (9 - k + 1) k u = some (u + d k % 128 * 2 ^ (7 * k), k + 1)) := fun h h' => gv_done hlt h9 h h'
            have HG : Hid (gv d n (9 - k + 1) k u = R) := hgv
            have HR3 : Hid (u + d k % 128 * 2 ^ (7 * k) < 2 ^ (7 * (k + 1))) := r3
            have HU0 : Hid (u < 2 ^ (7 * k)) := hu
            clear hgv r3 hu r1
            generalize hYe : d k % 128 * 2 ^ (7 * k) = Y at *
            generalize hZe : u + Y = Z at *
            have HYZ : Hid (d k % 128 * 2 ^ (7 * k) = Y ∧ u + Y = Z) := ⟨hYe, hZe⟩
            clear hYe hZe
            have hS : IntKind.u64.wrap ((u : Int) + (Y : Int)) = (Z : Int) := by
              have h2 := HYZ.out.2
              rw [← Int.natCast_add, h2]
              exact IntWalk.u64_in _ ⟨Int.natCast_nonneg _, by omega⟩
            have hk7 : 7 * k < 64 := by omega
            by_cases h128 : 128 ≤ d k
            · have h128' : (127 : Int) < (d k : Int) := by omega
              have hk8 : k + 1 ≤ 9 := by omega
              have HH : Hid (gv d n (9 - (k + 1) + 1) (k + 1) Z = R) := by
                have := HOn.out h128
                rw [HG.out] at this
                rw [show 9 - (k + 1) + 1 = 9 - k by omega]
                exact this.symm
              clear HOn HLong HDone HG
              generalize d k = c at *
              go_wp2
              go_roundw
              case rel => exact ⟨k + 1, Z, hk8, by omega, by go_num, by first | rfl | trivial, HR3.out, HH.out, by first | rfl | trivial⟩
              case measure => simp [intOf]; omega
            · have h128' : (d k : Int) ≤ 127 := by omega
              by_cases hz : d k = 0 ∧ 0 < k
              · have hz1 : (d k : Int) = 0 := by omega
                have hz2 : (0 : Int) < (k : Int) := by omega
                have e : R = none := by rw [← HG.out, HLong.out hz.1 hz.2]
                subst e
                clear HOn HLong HDone HG
                generalize d k = c at *
                go_wp2
                go_ret2
                exact ⟨rfl, by first | rfl | trivial⟩
              · by_cases e0 : d k = 0
                · have ek : k = 0 := by omega
                  subst ek
                  have hu0 : u = 0 := by have := HU0.out; simpa using this
                  have e : R = some (Z, 0 + 1) := by rw [← HG.out, HDone.out (by omega) hz]
                  have eZ : Z = 0 := by have h1 := HYZ.out.1; have h2 := HYZ.out.2; rw [e0] at h1; simp at h1; omega
                  have e1 : gvV R = unf 0 := by rw [e, eZ]; rfl
                  have e2 : gvK R = 0 + 1 := by rw [e]; rfl
                  have HE : Hid (gvV R = unf 0 ∧ gvK R = 0 + 1) := ⟨e1, e2⟩
                  clear HOn HLong HDone HG e e1 e2 HR3 eZ hY HYZ HU0 r2 hS
                  rw [e0, Nat.add_zero] at hc
                  subst hu0
                  go_wp2
                  go_ret2
                  exact ⟨ret2 (vint (by rw [HE.out.1]; decide)) (vint (by rw [HE.out.2]; rfl)), by first | rfl | trivial⟩
                · have e0' : ¬ (d k : Int) = 0 := by omega
                  have e : R = some (Z, k + 1) := by rw [← HG.out, HDone.out (by omega) hz]
                  have e1 : gvV R = unf Z := by rw [e]; rfl
                  have e2 : gvK R = k + 1 := by rw [e]; rfl
                  have HE : Hid (gvV R = unf Z ∧ gvK R = k + 1) := ⟨e1, e2⟩
                  clear HOn HLong HDone HG e e1 e2
                  generalize d k = c at *
                  by_cases hpar : Z % 2 = 1
                  · have hpar' : (Z : Int) % 2 = 1 := by omega
                    have HU : Hid (unf Z = -((Z : Int) / 2) - 1) := by show unf Z = _; unfold unf; rw [if_pos hpar]; omega
                    go_wp2
                    go_ret2
                    exact ⟨ret2 (vint (by rw [HE.out.1, HU.out]; try omega)) (vint (by rw [HE.out.2]; rfl)), by first | rfl | trivial⟩
                  · have hpar' : ¬ (Z : Int) % 2 = 1 := by omega
                    have HU : Hid (unf Z = (Z : Int) / 2) := by show unf Z = _; unfold unf; rw [if_neg hpar]; omega
                    go_wp2
                    go_ret2
                    exact ⟨ret2 (vint (by rw [HE.out.1, HU.out]; try omega)) (vint (by rw [HE.out.2]; rfl)), by first | rfl | trivial⟩
    · obtain rfl : k = n := by omega
      rw [gv_end (by omega)] at hgv
      subst hgv
      go_wp2
      go_ret2
      exact ⟨rfl, by first | rfl | trivial⟩
end Go.Proofs.Ytjnnecoikcmaeaa
