/-
  bits.Div64.
-/
import Derived.Test.YtochdjdkfmdgeabDoorDiv
import Derived.Test.YtochdjdkfmdgeabDoorKnuth
namespace Go.Proofs.YtochdjdkfmdgeabDoor
set_option linter.unusedVariables false
open Go.Shelf Go.RowKit Go.Sort Go.Lib

theorem lz_any (y : Int) (s : Nat) (w : World) (h0 : 0 ≤ y) (h1 : y ≤ 18446744073709551615) (hs : (64 : Int) - (Lib.bitLen y.toNat : Int) = s) :
    Calls Tryd.prog 60 #[.int .u64 y] w fun e w' => e = .returned (.int .i64 (s : Int)) ∧ w' = w := by
  rw [← hs]; exact Tryd.bits_LeadingZeros64 y w h0 h1
set_option maxRecDepth 100000 in
set_option maxHeartbeats 4000000 in
theorem Div64_core (hi lo y : Int) (s : Nat) (w : World) (hh : 0 < hi) (hhy : hi < y) (h0 : 0 ≤ lo) (h1 : lo ≤ 18446744073709551615) (hy1 : y ≤ 18446744073709551615) (HS : Hid ((64 : Int) - (Lib.bitLen y.toNat : Int) = s)) (hs64 : s < 64)
    (Y A B U T C D q r V q' r' Q1 Q0 RQ RR : Int) (hY : IntKind.u64.wrap (y * 2 ^ s) = Y) (hY0 : 9223372036854775808 ≤ Y) (hY1 : Y ≤ 18446744073709551615)
    (hA : Y / 4294967296 = A) (hB : bits .and .u64 Y 4294967295 = B) (hA0 : 2147483648 ≤ A) (hA1 : A < 4294967296) (hB0 : 0 ≤ B) (hB1 : B < 4294967296) (HYAB : Hid (Y = A * 4294967296 + B))
    (hU : bits .or .u64 (IntKind.u64.wrap (hi * 2 ^ s)) (lo / 2 ^ (64 - s)) = U) (hU0 : 0 ≤ U) (hUY : U < Y)
    (hT : IntKind.u64.wrap (lo * 2 ^ s) = T) (hC : T / 4294967296 = C) (hC0 : 0 ≤ C) (hC1 : C < 4294967296) (hD : bits .and .u64 T 4294967295 = D) (hD0 : 0 ≤ D) (hD1 : D < 4294967296)
    (hq : IntKind.u64.wrap (U.tdiv A) = q) (hr : IntKind.u64.wrap (U - IntKind.u64.wrap (q * A)) = r) (HQ : Hid (q = U / A ∧ r = U - q * A)) (HQ1 : Hid (Q1 = (U * 4294967296 + C) / Y))
    (hV : IntKind.u64.wrap (IntKind.u64.wrap (IntKind.u64.wrap (U * 4294967296) + C) - IntKind.u64.wrap (Q1 * Y)) = V) (hV0 : 0 ≤ V) (hVY : V < Y)
    (hq' : IntKind.u64.wrap (V.tdiv A) = q') (hr' : IntKind.u64.wrap (V - IntKind.u64.wrap (q' * A)) = r') (HQ' : Hid (q' = V / A ∧ r' = V - q' * A)) (HQ0 : Hid (Q0 = (V * 4294967296 + D) / Y))
    (hQ1 : 0 ≤ Q1) (hQ1' : Q1 < 4294967296) (hQ0 : 0 ≤ Q0)
    (hres1 : IntKind.u64.wrap (IntKind.u64.wrap (Q1 * 4294967296) + Q0) = RQ) (hres2 : IntKind.u64.wrap (IntKind.u64.wrap (IntKind.u64.wrap (V * 4294967296) + D) - IntKind.u64.wrap (Q0 * Y)) = RR) :
    Calls Tryd.prog 43 #[.int .u64 hi, .int .u64 lo, .int .u64 y] w fun e w' => e = .returned (.tuple #[.int .u64 RQ, .int .u64 (RR / 2 ^ s)]) ∧ w' = w := by
  have hy0 : (y == 0) = false := by simp; omega
  have hi0 : (hi == 0) = false := by simp; omega
  have hAz : ¬ A = 0 := by omega
  have HK : Hid (Q1 ≤ q ∧ q ≤ 4294967297 ∧ 0 ≤ q ∧ 0 ≤ r ∧ r < 4294967296) := by
    obtain ⟨k1, k2, k3, k4, k5⟩ := kn_start (C := C) hA0 hB0 hB1 HYAB.out hU0 hUY hC0 hC1 HQ.out.1
    rw [← HQ1.out] at k1
    have := HQ.out.2
    exact ⟨k1, k2, k3, by omega, by omega⟩
  have HK' : Hid (Q0 ≤ q' ∧ q' ≤ 4294967297 ∧ 0 ≤ q' ∧ 0 ≤ r' ∧ r' < 4294967296) := by
    obtain ⟨k1, k2, k3, k4, k5⟩ := kn_start (C := D) hA0 hB0 hB1 HYAB.out hV0 hVY hD0 hD1 HQ'.out.1
    rw [← HQ0.out] at k1
    have := HQ'.out.2
    exact ⟨k1, k2, k3, by omega, by omega⟩
  have HV : Hid (IntKind.u64.wrap (IntKind.u64.wrap (IntKind.u64.wrap (U * 4294967296) + C) - IntKind.u64.wrap (Q1 * Y)) = V) := hV
  have HR1 : Hid (IntKind.u64.wrap (IntKind.u64.wrap (Q1 * 4294967296) + Q0) = RQ) := hres1
  have HR2 : Hid (IntKind.u64.wrap (IntKind.u64.wrap (IntKind.u64.wrap (V * 4294967296) + D) - IntKind.u64.wrap (Q0 * Y)) = RR) := hres2
  clear hV hres1 hres2
  go_enter Tryd.func43, Tryd.ntmps43
  go_wp2_with (go_at_call 60; refine (lz_any _ s _ (by omega) hy1 HS.out).mono ?_; rintro e w' ⟨rfl, rfl⟩)
  clear hY hU hT hq hr hD hy0 hi0 hh h0 h1 hhy hy1
  go_loop [15, 16] (fun a b => ∃ x z : Int, a = .int .u64 x ∧ b = .int .u64 z ∧ Q1 ≤ x ∧ x ≤ 4294967297 ∧ 0 ≤ x ∧ 0 ≤ z ∧ z < 4294967296 ∧ z = U - x * A) (fun a _ => (RowKit.intOf a).toNat)
  case atStart => exact ⟨q, r, rfl, rfl, HK.out.1, HK.out.2.1, HK.out.2.2.1, HK.out.2.2.2.1, HK.out.2.2.2.2, HQ.out.2⟩
  case round =>
    clear HK HQ
    obtain ⟨x, z, rfl, rfl, hx0, hx1, hx2, hz0, hz1, hz⟩ := hrel
    have HZ : Hid (z = U - x * A) := hz
    clear hz
    have HP : Hid (x < 4294967296 → IntKind.u64.wrap (x * B) = x * B) := fun h => by
      have h1 : x * B ≤ 4294967295 * B := Int.mul_le_mul_of_nonneg_right (by omega) hB0
      have h2 : 0 ≤ x * B := Int.mul_nonneg hx2 hB0
      rw [IntKind.wrap_u64]; omega
    by_cases c1 : 4294967296 ≤ x ∨ 4294967296 * z + C < x * B
    · have HD : Hid (Q1 ≤ x - 1) := by
        show Q1 ≤ x - 1
        rw [HQ1.out]; exact kn_dec (by omega) HYAB.out hUY hC1 HZ.out c1
      have HN : Hid (z + A = U - (x - 1) * A) := by
        show z + A = U - (x - 1) * A
        rw [HZ.out, Int.sub_mul]; omega
      have h1x : 1 ≤ x := by have := HD.out; omega
      have key : 4294967296 ≤ x ∨ (x < 4294967296 ∧ 4294967296 * z + C < x * B) := by omega
      clear c1
      by_cases hbk : 4294967296 ≤ z + A
      · have HE : Hid (x - 1 = Q1) := by
          show x - 1 = Q1
          rw [HQ1.out]; exact kn_break (by omega) HYAB.out hB0 hB1 hC0 HN.out (by rw [← HQ1.out]; exact HD.out) (by omega) (by omega) hbk
        have hV := HV.out
        rw [← HE.out] at hV
        rcases key with c2 | ⟨c2, c3⟩
        · go_wp2
          have hres1 := HR1.out
          have hres2 := HR2.out
          rw [← HE.out] at hres1
          clear hV hq' hr' HR1 HR2 HV c2 hbk HN HD HZ HP
          go_loop [18, 16] (fun a b => ∃ x z : Int, a = .int .u64 x ∧ b = .int .u64 z ∧ Q0 ≤ x ∧ x ≤ 4294967297 ∧ 0 ≤ x ∧ 0 ≤ z ∧ z < 4294967296 ∧ z = V - x * A) (fun a _ => (RowKit.intOf a).toNat)
          case atStart => exact ⟨q', r', rfl, rfl, HK'.out.1, HK'.out.2.1, HK'.out.2.2.1, HK'.out.2.2.2.1, HK'.out.2.2.2.2, HQ'.out.2⟩
          case round =>
            obtain ⟨x', z', rfl, rfl, hx0', hx1', hx2', hz0', hz1', hz'⟩ := hrel
            have HZ' : Hid (z' = V - x' * A) := hz'
            clear hz'
            have HP' : Hid (x' < 4294967296 → IntKind.u64.wrap (x' * B) = x' * B) := fun h => by
              have h1 : x' * B ≤ 4294967295 * B := Int.mul_le_mul_of_nonneg_right (by omega) hB0
              have h2 : 0 ≤ x' * B := Int.mul_nonneg hx2' hB0
              rw [IntKind.wrap_u64]; omega
            by_cases c1' : 4294967296 ≤ x' ∨ 4294967296 * z' + D < x' * B
            · have HD' : Hid (Q0 ≤ x' - 1) := by
                show Q0 ≤ x' - 1
                rw [HQ0.out]; exact kn_dec (by omega) HYAB.out hVY hD1 HZ'.out c1'
              have HN' : Hid (z' + A = V - (x' - 1) * A) := by
                show z' + A = V - (x' - 1) * A
                rw [HZ'.out, Int.sub_mul]; omega
              have h1x : 1 ≤ x' := by have := HD'.out; omega
              have key : 4294967296 ≤ x' ∨ (x' < 4294967296 ∧ 4294967296 * z' + D < x' * B) := by omega
              clear c1'
              by_cases hbk : 4294967296 ≤ z' + A
              · have HE' : Hid (x' - 1 = Q0) := by
                  show x' - 1 = Q0
                  rw [HQ0.out]; exact kn_break (by omega) HYAB.out hB0 hB1 hD0 HN'.out (by rw [← HQ0.out]; exact HD'.out) (by omega) (by omega) hbk
                rcases key with c2 | ⟨c2, c3⟩
                · rw [← HE'.out] at hres1 hres2
                  go_wp2
                  go_ret2
                  refine ⟨ret2 (vint ?_) (vint ?_), rfl⟩ <;> first | rfl | exact hres1 | exact congrArg (· / 2 ^ s) hres2 | (rw [← hres1]; simp only [IntKind.wrap_u64]; omega)
                · have hpr' := HP'.out c2
                  rw [← HE'.out] at hres1 hres2
                  go_wp2
                  go_ret2
                  refine ⟨ret2 (vint ?_) (vint ?_), rfl⟩ <;> first | rfl | exact hres1 | exact congrArg (· / 2 ^ s) hres2 | (rw [← hres1]; simp only [IntKind.wrap_u64]; omega)
              · have hbk' : z' + A < 4294967296 := by omega
                rcases key with c2 | ⟨c2, c3⟩
                · go_wp2
                  go_round
                  case rel => exact ⟨x' - 1, z' + A, rfl, rfl, HD'.out, by omega, by omega, by omega, hbk', HN'.out⟩
                  case measure => simp [RowKit.intOf]; omega
                · have hpr' := HP'.out c2
                  go_wp2
                  go_round
                  case rel => exact ⟨x' - 1, z' + A, rfl, rfl, HD'.out, by omega, by omega, by omega, hbk', HN'.out⟩
                  case measure => simp [RowKit.intOf]; omega
            · have hx3' : x' < 4294967296 := by omega
              have hle' : x' * B ≤ 4294967296 * z' + D := by omega
              have HE' : Hid (x' = Q0) := by
                show x' = Q0
                rw [HQ0.out]; exact kn_exit (by omega) HYAB.out HZ'.out (by rw [← HQ0.out]; exact hx0') hle'
              have hpr' := HP'.out hx3'
              clear c1'
              rw [← HE'.out] at hres1 hres2
              go_wp2
              go_ret2
              refine ⟨ret2 (vint ?_) (vint ?_), rfl⟩ <;> first | rfl | exact hres1 | exact congrArg (· / 2 ^ s) hres2 | (rw [← hres1]; simp only [IntKind.wrap_u64]; omega)
        · have hpr := HP.out c2
          go_wp2
          have hres1 := HR1.out
          have hres2 := HR2.out
          rw [← HE.out] at hres1
          clear hV hq' hr' HR1 HR2 HV c2 c3 hpr hbk HN HD HZ HP
          go_loop [18, 16] (fun a b => ∃ x z : Int, a = .int .u64 x ∧ b = .int .u64 z ∧ Q0 ≤ x ∧ x ≤ 4294967297 ∧ 0 ≤ x ∧ 0 ≤ z ∧ z < 4294967296 ∧ z = V - x * A) (fun a _ => (RowKit.intOf a).toNat)
          case atStart => exact ⟨q', r', rfl, rfl, HK'.out.1, HK'.out.2.1, HK'.out.2.2.1, HK'.out.2.2.2.1, HK'.out.2.2.2.2, HQ'.out.2⟩
          case round =>
            obtain ⟨x', z', rfl, rfl, hx0', hx1', hx2', hz0', hz1', hz'⟩ := hrel
            have HZ' : Hid (z' = V - x' * A) := hz'
            clear hz'
            have HP' : Hid (x' < 4294967296 → IntKind.u64.wrap (x' * B) = x' * B) := fun h => by
              have h1 : x' * B ≤ 4294967295 * B := Int.mul_le_mul_of_nonneg_right (by omega) hB0
              have h2 : 0 ≤ x' * B := Int.mul_nonneg hx2' hB0
              rw [IntKind.wrap_u64]; omega
            by_cases c1' : 4294967296 ≤ x' ∨ 4294967296 * z' + D < x' * B
            · have HD' : Hid (Q0 ≤ x' - 1) := by
                show Q0 ≤ x' - 1
                rw [HQ0.out]; exact kn_dec (by omega) HYAB.out hVY hD1 HZ'.out c1'
              have HN' : Hid (z' + A = V - (x' - 1) * A) := by
                show z' + A = V - (x' - 1) * A
                rw [HZ'.out, Int.sub_mul]; omega
              have h1x : 1 ≤ x' := by have := HD'.out; omega
              have key : 4294967296 ≤ x' ∨ (x' < 4294967296 ∧ 4294967296 * z' + D < x' * B) := by omega
              clear c1'
              by_cases hbk : 4294967296 ≤ z' + A
              · have HE' : Hid (x' - 1 = Q0) := by
                  show x' - 1 = Q0
                  rw [HQ0.out]; exact kn_break (by omega) HYAB.out hB0 hB1 hD0 HN'.out (by rw [← HQ0.out]; exact HD'.out) (by omega) (by omega) hbk
                rcases key with c2 | ⟨c2, c3⟩
                · rw [← HE'.out] at hres1 hres2
                  go_wp2
                  go_ret2
                  refine ⟨ret2 (vint ?_) (vint ?_), rfl⟩ <;> first | rfl | exact hres1 | exact congrArg (· / 2 ^ s) hres2 | (rw [← hres1]; simp only [IntKind.wrap_u64]; omega)
                · have hpr' := HP'.out c2
                  rw [← HE'.out] at hres1 hres2
                  go_wp2
                  go_ret2
                  refine ⟨ret2 (vint ?_) (vint ?_), rfl⟩ <;> first | rfl | exact hres1 | exact congrArg (· / 2 ^ s) hres2 | (rw [← hres1]; simp only [IntKind.wrap_u64]; omega)
              · have hbk' : z' + A < 4294967296 := by omega
                rcases key with c2 | ⟨c2, c3⟩
                · go_wp2
                  go_round
                  case rel => exact ⟨x' - 1, z' + A, rfl, rfl, HD'.out, by omega, by omega, by omega, hbk', HN'.out⟩
                  case measure => simp [RowKit.intOf]; omega
                · have hpr' := HP'.out c2
                  go_wp2
                  go_round
                  case rel => exact ⟨x' - 1, z' + A, rfl, rfl, HD'.out, by omega, by omega, by omega, hbk', HN'.out⟩
                  case measure => simp [RowKit.intOf]; omega
            · have hx3' : x' < 4294967296 := by omega
              have hle' : x' * B ≤ 4294967296 * z' + D := by omega
              have HE' : Hid (x' = Q0) := by
                show x' = Q0
                rw [HQ0.out]; exact kn_exit (by omega) HYAB.out HZ'.out (by rw [← HQ0.out]; exact hx0') hle'
              have hpr' := HP'.out hx3'
              clear c1'
              rw [← HE'.out] at hres1 hres2
              go_wp2
              go_ret2
              refine ⟨ret2 (vint ?_) (vint ?_), rfl⟩ <;> first | rfl | exact hres1 | exact congrArg (· / 2 ^ s) hres2 | (rw [← hres1]; simp only [IntKind.wrap_u64]; omega)
      · have hbk' : z + A < 4294967296 := by omega
        rcases key with c2 | ⟨c2, c3⟩
        · go_wp2
          go_round
          case rel => exact ⟨x - 1, z + A, rfl, rfl, HD.out, by omega, by omega, by omega, hbk', HN.out⟩
          case measure => simp [RowKit.intOf]; omega
        · have hpr := HP.out c2
          go_wp2
          go_round
          case rel => exact ⟨x - 1, z + A, rfl, rfl, HD.out, by omega, by omega, by omega, hbk', HN.out⟩
          case measure => simp [RowKit.intOf]; omega
    · have hx3 : x < 4294967296 := by omega
      have hle : x * B ≤ 4294967296 * z + C := by omega
      have HE : Hid (x = Q1) := by
        show x = Q1
        rw [HQ1.out]; exact kn_exit (by omega) HYAB.out HZ.out (by rw [← HQ1.out]; exact hx0) hle
      have hpr := HP.out hx3
      have hV := HV.out
      rw [← HE.out] at hV
      clear c1
      go_wp2
      have hres1 := HR1.out
      have hres2 := HR2.out
      rw [← HE.out] at hres1
      clear hV hq' hr' HR1 HR2 HV hpr hle HZ HP
      go_loop [18, 16] (fun a b => ∃ x z : Int, a = .int .u64 x ∧ b = .int .u64 z ∧ Q0 ≤ x ∧ x ≤ 4294967297 ∧ 0 ≤ x ∧ 0 ≤ z ∧ z < 4294967296 ∧ z = V - x * A) (fun a _ => (RowKit.intOf a).toNat)
      case atStart => exact ⟨q', r', rfl, rfl, HK'.out.1, HK'.out.2.1, HK'.out.2.2.1, HK'.out.2.2.2.1, HK'.out.2.2.2.2, HQ'.out.2⟩
      case round =>
        obtain ⟨x', z', rfl, rfl, hx0', hx1', hx2', hz0', hz1', hz'⟩ := hrel
        have HZ' : Hid (z' = V - x' * A) := hz'
        clear hz'
        have HP' : Hid (x' < 4294967296 → IntKind.u64.wrap (x' * B) = x' * B) := fun h => by
          have h1 : x' * B ≤ 4294967295 * B := Int.mul_le_mul_of_nonneg_right (by omega) hB0
          have h2 : 0 ≤ x' * B := Int.mul_nonneg hx2' hB0
          rw [IntKind.wrap_u64]; omega
        by_cases c1' : 4294967296 ≤ x' ∨ 4294967296 * z' + D < x' * B
        · have HD' : Hid (Q0 ≤ x' - 1) := by
            show Q0 ≤ x' - 1
            rw [HQ0.out]; exact kn_dec (by omega) HYAB.out hVY hD1 HZ'.out c1'
          have HN' : Hid (z' + A = V - (x' - 1) * A) := by
            show z' + A = V - (x' - 1) * A
            rw [HZ'.out, Int.sub_mul]; omega
          have h1x : 1 ≤ x' := by have := HD'.out; omega
          have key : 4294967296 ≤ x' ∨ (x' < 4294967296 ∧ 4294967296 * z' + D < x' * B) := by omega
          clear c1'
          by_cases hbk : 4294967296 ≤ z' + A
          · have HE' : Hid (x' - 1 = Q0) := by
              show x' - 1 = Q0
              rw [HQ0.out]; exact kn_break (by omega) HYAB.out hB0 hB1 hD0 HN'.out (by rw [← HQ0.out]; exact HD'.out) (by omega) (by omega) hbk
            rcases key with c2 | ⟨c2, c3⟩
            · rw [← HE'.out] at hres1 hres2
              go_wp2
              go_ret2
              refine ⟨ret2 (vint ?_) (vint ?_), rfl⟩ <;> first | rfl | exact hres1 | exact congrArg (· / 2 ^ s) hres2 | (rw [← hres1]; simp only [IntKind.wrap_u64]; omega)
            · have hpr' := HP'.out c2
              rw [← HE'.out] at hres1 hres2
              go_wp2
              go_ret2
              refine ⟨ret2 (vint ?_) (vint ?_), rfl⟩ <;> first | rfl | exact hres1 | exact congrArg (· / 2 ^ s) hres2 | (rw [← hres1]; simp only [IntKind.wrap_u64]; omega)
          · have hbk' : z' + A < 4294967296 := by omega
            rcases key with c2 | ⟨c2, c3⟩
            · go_wp2
              go_round
              case rel => exact ⟨x' - 1, z' + A, rfl, rfl, HD'.out, by omega, by omega, by omega, hbk', HN'.out⟩
              case measure => simp [RowKit.intOf]; omega
            · have hpr' := HP'.out c2
              go_wp2
              go_round
              case rel => exact ⟨x' - 1, z' + A, rfl, rfl, HD'.out, by omega, by omega, by omega, hbk', HN'.out⟩
              case measure => simp [RowKit.intOf]; omega
        · have hx3' : x' < 4294967296 := by omega
          have hle' : x' * B ≤ 4294967296 * z' + D := by omega
          have HE' : Hid (x' = Q0) := by
            show x' = Q0
            rw [HQ0.out]; exact kn_exit (by omega) HYAB.out HZ'.out (by rw [← HQ0.out]; exact hx0') hle'
          have hpr' := HP'.out hx3'
          clear c1'
          rw [← HE'.out] at hres1 hres2
          go_wp2
          go_ret2
          refine ⟨ret2 (vint ?_) (vint ?_), rfl⟩ <;> first | rfl | exact hres1 | exact congrArg (· / 2 ^ s) hres2 | (rw [← hres1]; simp only [IntKind.wrap_u64]; omega)
end Go.Proofs.YtochdjdkfmdgeabDoor
