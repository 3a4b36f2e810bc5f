/-
  A stable sort over rows of k cells: two stretches side by side change places.
-/
import Derived.Test.YtbhddfcdnpidkaaV11
namespace Go.Proofs.Ytbhddfcdnpidkaa
set_option linter.unusedVariables false
set_option linter.unusedSimpArgs false
set_option linter.unusedSectionVars false
open Go.RowKit Go.Great Go.Shelf Go.Lib Go.Sort
variable {P : Program} {k : Nat} {α : Type} [Inhabited α]

set_option maxHeartbeats 4000000 in
set_option maxRecDepth 1000000 in
theorem rotate_any (L : Ly P k) (enc : α → List Value) (g : Nat) (cb : Array Value) (blk off cap a m b : Nat) (d0 d : Array α) (w0 w : World) (R : RowK enc k w0 blk off d0) (hs : d0.size = d.size) (S : SWK enc k w0 blk off d w) (ham : a < m) (hmb : m < b) (hb : b ≤ d.size) (hsz : d.size < 4611686018427387904) :
    Calls P 84 #[.slice (some ⟨blk, off, none⟩) d.size cap, .int .i64 a, .int .i64 m, .int .i64 b, .func (.func g) #[] cb] w fun e w' => e = .returned (.tuple #[]) ∧ ∃ d', SWK enc k w0 blk off d' w' ∧ Rot d d' a m b ∧ PermIn a b d d' := by
  have mixed := L.mixed; have aE := L.aE; have zE := L.zE; have u58 := run_underlying L.t58; have t3 := L.t3; have a3 := L.a3; have z3 := L.z3; have v3 := L.v3; have t4 := L.t4; have a4 := L.a4; have z4 := L.z4; have v4 := L.v4; have t58 := L.t58; have a58 := L.a58; have z58 := L.z58; have v58 := L.v58; have t79 := L.t79; have a79 := L.a79; have z79 := L.z79; have v79 := L.v79; have t96 := L.t96; have a96 := L.a96; have z96 := L.z96; have v96 := L.v96
  have S0 : Aside (SWK enc k w0 blk off d w) := S
  have e90 : ∀ args w, (callFunc 90 args).run P w = .ok (.enter 90 args) w := enters_of L.f90 (by kernel_rfl) rfl
  clear S
  go_enter L.f84, Try.ntmps84
  go_wp2
  go_loopg [10, 11] (b - a) (fun kx s10 s11 wr => ∃ (i j : Nat) (D : Array α), s10 = .int .i64 i ∧ s11 = .int .i64 j ∧ 0 < i ∧ 0 < j ∧ i ≤ m - a ∧ j ≤ b - m ∧ i + j ≤ kx ∧ D.size = d.size ∧ Aside (SWK enc k w0 blk off D wr) ∧ Hid (PermIn a b d D ∧ ∀ F, Rot D F (m - i) m (m + j) → Rot d F a m b))
  case atStart => exact ⟨m - a, b - m, d, by congr 1; omega, by congr 1; omega, by omega, by omega, Nat.le_refl _, Nat.le_refl _, by omega, rfl, S0, permIn_refl _ _ _, fun F h => by rwa [show m - (m - a) = a by omega, show m + (b - m) = b by omega] at h⟩
  case round =>
    clear S0
    obtain ⟨i, j, D, rfl, rfl, hi0, hj0, him, hjb, hkx, hds, S1, HE⟩ := hrel
    have rmi : IntKind.i64.wrap ((m : Int) - (i : Int)) = (m : Int) - (i : Int) := by rw [IntKind.wrap_i64]; omega
    by_cases hne : i = j
    · have hz : ((i : Int) != (j : Int)) = false := by simp [hne]
      have hz' : ¬ ((i : Int) ≠ (j : Int)) := by omega
      have hc := swapRange_any L enc g cb blk off cap (m - i) m i d0 D w0 wr R (by omega) S1.out (by omega) (by omega) (by omega)
      rw [show ((m - i : Nat) : Int) = (m : Int) - (i : Int) by omega, hds] at hc
      have HF : Hid (PermIn a b d (swapR D (m - i) m i) ∧ Rot d (swapR D (m - i) m i) a m b) := by
        refine ⟨permIn_trans _ _ _ _ _ HE.out.1 (swapR_perm D (by omega) (by omega) (by omega) (by omega)), HE.out.2 _ ?_⟩
        have := rot_same (D := D) (m := m) (i := i) (by omega) (by omega)
        rwa [hne] at this ⊢
      clear HE S1
      subst hne
      go_wp2_with (go_at_fn 90; refine hc.mono ?_; clear hc; rintro e w1 ⟨rfl, S2⟩)
      have S3 : Aside (SWK enc k w0 blk off (swapR D (m - i) m i) w1) := S2
      clear S2
      go_wp2
      go_end0
      exact ⟨rfl, _, S3.out, HF.out.2, HF.out.1⟩
    · have hz : ((i : Int) != (j : Int)) = true := by simp; omega
      have hz' : (i : Int) ≠ (j : Int) := by omega
      by_cases hgt : j < i
      · have hg : (j : Int) < (i : Int) := by omega
        have hc := swapRange_any L enc g cb blk off cap (m - i) m j d0 D w0 wr R (by omega) S1.out (by omega) (by omega) (by omega)
        rw [show ((m - i : Nat) : Int) = (m : Int) - (i : Int) by omega, hds] at hc
        have HF : Hid (PermIn a b d (swapR D (m - i) m j) ∧ ∀ F, Rot (swapR D (m - i) m j) F (m - (i - j)) m (m + j) → Rot d F a m b) :=
          ⟨permIn_trans _ _ _ _ _ HE.out.1 (swapR_perm D (by omega) (by omega) (by omega) (by omega)), fun F h => HE.out.2 _ (rot_more (by omega) hgt (by omega) h)⟩
        clear HE S1
        go_wp2_with (go_at_fn 90; refine hc.mono ?_; clear hc; rintro e w1 ⟨rfl, S2⟩)
        have S3 : Aside (SWK enc k w0 blk off (swapR D (m - i) m j) w1) := S2
        clear S2
        go_wp2
        go_roundg (i - j + j)
        case measure => omega
        case rel => exact ⟨i - j, j, swapR D (m - i) m j, by first | rfl | go_num | (congr 1; omega), rfl, by omega, hj0, by omega, hjb, by omega, by rw [swapR_size]; exact hds, S3, HF⟩
      · have hg : ¬ (j : Int) < (i : Int) := by omega
        have rmj : IntKind.i64.wrap ((m : Int) + (j : Int) - (i : Int)) = (m : Int) + (j : Int) - (i : Int) := by rw [IntKind.wrap_i64]; omega
        have rmk : IntKind.i64.wrap ((m : Int) + (j : Int)) = (m : Int) + (j : Int) := by rw [IntKind.wrap_i64]; omega
        have hc := swapRange_any L enc g cb blk off cap (m - i) (m + j - i) i d0 D w0 wr R (by omega) S1.out (by omega) (by omega) (by omega)
        rw [show ((m - i : Nat) : Int) = (m : Int) - (i : Int) by omega, show ((m + j - i : Nat) : Int) = (m : Int) + (j : Int) - (i : Int) by omega, hds] at hc
        have HF : Hid (PermIn a b d (swapR D (m - i) (m + j - i) i) ∧ ∀ F, Rot (swapR D (m - i) (m + j - i) i) F (m - i) m (m + (j - i)) → Rot d F a m b) :=
          ⟨permIn_trans _ _ _ _ _ HE.out.1 (swapR_perm D (by omega) (by omega) (by omega) (by omega)), fun F h => HE.out.2 _ (rot_less (by omega) (by omega) (by omega) h)⟩
        clear HE S1
        go_wp2_with (go_at_fn 90; refine hc.mono ?_; clear hc; rintro e w1 ⟨rfl, S2⟩)
        have S3 : Aside (SWK enc k w0 blk off (swapR D (m - i) (m + j - i) i) w1) := S2
        clear S2
        go_wp2
        go_roundg (i + (j - i))
        case measure => omega
        case rel => exact ⟨i, j - i, swapR D (m - i) (m + j - i) i, rfl, by first | rfl | go_num | (congr 1; omega), hi0, by omega, him, by omega, by omega, by rw [swapR_size]; exact hds, S3, HF⟩
end Go.Proofs.Ytbhddfcdnpidkaa
