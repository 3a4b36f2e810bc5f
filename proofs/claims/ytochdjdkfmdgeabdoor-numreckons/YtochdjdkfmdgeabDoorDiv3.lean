/-
  bits.Div64: what it tells.
-/
import Derived.Test.YtochdjdkfmdgeabDoorDiv2
import Derived.Test.YtochdjdkfmdgeabDoorKnuth2
namespace Go.Proofs.YtochdjdkfmdgeabDoor
set_option linter.unusedVariables false
open Go.Shelf Go.RowKit Go.Sort Go.Lib

theorem kn_final {N y p U C D Y V Q1 Q0 : Int} (hp : 0 < p) (hy : 0 < y) (hY : Y = y * p) (hN : U * 18446744073709551616 + (C * 4294967296 + D) = N * p) (hV : V = U * 4294967296 + C - Q1 * Y) (h0 : 0 ≤ V * 4294967296 + D - Q0 * Y) (h1 : V * 4294967296 + D - Q0 * Y < Y) :
    Q1 * 4294967296 + Q0 = N / y ∧ (V * 4294967296 + D - Q0 * Y) / p = N % y := by
  have e : V * 4294967296 + D - Q0 * Y = (N - (Q1 * 4294967296 + Q0) * y) * p := by
    have : V * 4294967296 + D - Q0 * Y = N * p - (Q1 * 4294967296 + Q0) * (y * p) := by rw [← hN, hV, hY]; grind
    rw [this]; grind
  rw [e] at h0 h1 ⊢
  have h2 : 0 ≤ N - (Q1 * 4294967296 + Q0) * y := by
    rcases Int.lt_or_le (N - (Q1 * 4294967296 + Q0) * y) 0 with h | h
    · have := Int.mul_neg_of_neg_of_pos h hp; omega
    · exact h
  have h3 : N - (Q1 * 4294967296 + Q0) * y < y := by
    rw [hY] at h1
    exact Int.lt_of_mul_lt_mul_right h1 (by omega)
  have h4 := (Int.ediv_emod_unique (a := N) (r := N - (Q1 * 4294967296 + Q0) * y) (q := Q1 * 4294967296 + Q0) hy).2 ⟨by grind, h2, h3⟩
  exact ⟨h4.1.symm, by rw [Int.mul_ediv_cancel _ (by omega), h4.2]⟩
theorem low_parts (lo : Int) (s : Nat) (hs : s < 64) (l0 : 0 ≤ lo) : lo * 2 ^ s = lo / 2 ^ (64 - s) * 18446744073709551616 + lo * 2 ^ s % 18446744073709551616 := by
  have e : (18446744073709551616 : Int) = 2 ^ (64 - s) * 2 ^ s := by
    rw [← Int.pow_add, show 64 - s + s = 64 by omega]; rfl
  have h := Int.mul_ediv_add_emod (lo * 2 ^ s) 18446744073709551616
  have h2 : lo * 2 ^ s / 18446744073709551616 = lo / 2 ^ (64 - s) := by
    rw [e]; exact Int.mul_ediv_mul_of_pos_left _ _ (Int.pow_pos (by decide))
  rw [h2] at h
  rw [Int.mul_comm] at h
  exact h.symm
theorem low_lt (lo : Int) (s : Nat) (hs : s < 64) (l0 : 0 ≤ lo) (l1 : lo ≤ 18446744073709551615) : 0 ≤ lo / 2 ^ (64 - s) ∧ lo / 2 ^ (64 - s) < 2 ^ s := by
  have hp : (0 : Int) < 2 ^ (64 - s) := Int.pow_pos (by decide)
  refine ⟨Int.ediv_nonneg l0 (by omega), (Int.ediv_lt_iff_lt_mul hp).2 ?_⟩
  rw [← Int.pow_add, show s + (64 - s) = 64 by omega]
  show lo < 18446744073709551616
  omega

theorem Div64_high (hi lo y : Int) (w : World) (hh : 0 < hi) (hhy : hi < y) (h0 : 0 ≤ lo) (h1 : lo ≤ 18446744073709551615) (hy1 : y ≤ 18446744073709551615) :
    Calls Tryd.prog 43 #[.int .u64 hi, .int .u64 lo, .int .u64 y] w fun e w' => e = .returned (.tuple #[.int .u64 ((hi * 18446744073709551616 + lo) / y), .int .u64 ((hi * 18446744073709551616 + lo) % y)]) ∧ w' = w := by
  obtain ⟨s, hs, hs64, hY0, hY1⟩ := shift_of y (by omega) hy1
  have hp : (0 : Int) < 2 ^ s := Int.pow_pos (by decide)
  obtain ⟨l1, l2⟩ := low_lt lo s hs64 h0 h1
  have hlp := low_parts lo s hs64 h0
  have hhp : hi * 2 ^ s + 2 ^ s ≤ y * 2 ^ s := by
    have := Int.mul_le_mul_of_nonneg_right (show hi + 1 ≤ y by omega) (show (0 : Int) ≤ 2 ^ s by omega)
    rw [Int.add_mul] at this; omega
  have hh0 : 0 ≤ hi * 2 ^ s := Int.mul_nonneg (by omega) (by omega)
  have hor := or_parts hi lo s hs64 (by omega) (by omega) h0 h1
  have hT : IntKind.u64.wrap (lo * 2 ^ s) = lo * 2 ^ s % 18446744073709551616 := IntKind.wrap_u64 _
  obtain ⟨Y, eY⟩ : ∃ Y, Y = y * 2 ^ s := ⟨_, rfl⟩
  obtain ⟨U, eU⟩ : ∃ U, U = hi * 2 ^ s + lo / 2 ^ (64 - s) := ⟨_, rfl⟩
  obtain ⟨T, eT⟩ : ∃ T, T = lo * 2 ^ s % 18446744073709551616 := ⟨_, rfl⟩
  rw [← eU] at hor
  rw [← eT] at hT hlp
  rw [← eY] at hY0 hY1 hhp
  have hUY : U < Y := by omega
  have hU0 : 0 ≤ U := by omega
  have hT0 : 0 ≤ T := by omega
  have hT1 : T < 18446744073709551616 := by omega
  have hA0 : 2147483648 ≤ Y / 4294967296 := by omega
  have hYp : 0 < Y := by omega
  have hN : U * 18446744073709551616 + (T / 4294967296 * 4294967296 + T % 4294967296) = (hi * 18446744073709551616 + lo) * 2 ^ s := by
    rw [Int.add_mul, hlp, eU]; grind
  have hks := kn_start (C := T / 4294967296) (A := Y / 4294967296) (B := Y % 4294967296) (Y := Y) (U := U) (q := U / (Y / 4294967296)) hA0 (by omega) (by omega) (by omega) hU0 hUY (by omega) (by omega) rfl
  obtain ⟨k1, k2, k3, k4, k5⟩ := hks
  have hqa : 0 ≤ U / (Y / 4294967296) * (Y / 4294967296) := Int.mul_nonneg k3 (by omega)
  have hQ1 := kn_lt (U := U) (Y := Y) (C := T / 4294967296) hU0 (by omega) hUY (by omega)
  have hR1 := kn_rest (U := U) (Y := Y) (C := T / 4294967296) hYp
  obtain ⟨Q1, eQ1⟩ : ∃ Q1, Q1 = (U * 4294967296 + T / 4294967296) / Y := ⟨_, rfl⟩
  rw [← eQ1] at hQ1 hR1
  obtain ⟨V, eV⟩ : ∃ V, V = U * 4294967296 + T / 4294967296 - Q1 * Y := ⟨_, rfl⟩
  rw [← eV] at hR1
  have hks' := kn_start (C := T % 4294967296) (A := Y / 4294967296) (B := Y % 4294967296) (Y := Y) (U := V) (q := V / (Y / 4294967296)) hA0 (by omega) (by omega) (by omega) hR1.1 hR1.2 (by omega) (by omega) rfl
  obtain ⟨m1, m2, m3, m4, m5⟩ := hks'
  have hqa' : 0 ≤ V / (Y / 4294967296) * (Y / 4294967296) := Int.mul_nonneg m3 (by omega)
  have hQ0 := kn_lt (U := V) (Y := Y) (C := T % 4294967296) hR1.1 (by omega) hR1.2 (by omega)
  have hR0 := kn_rest (U := V) (Y := Y) (C := T % 4294967296) hYp
  obtain ⟨Q0, eQ0⟩ : ∃ Q0, Q0 = (V * 4294967296 + T % 4294967296) / Y := ⟨_, rfl⟩
  rw [← eQ0] at hQ0 hR0
  obtain ⟨f1, f2⟩ := kn_final (N := hi * 18446744073709551616 + lo) (y := y) hp (by omega) eY hN eV hR0.1 hR0.2
  have core := Div64_core hi lo y s w hh hhy h0 h1 hy1 hs hs64 Y (Y / 4294967296) (Y % 4294967296) U T (T / 4294967296) (T % 4294967296) (U / (Y / 4294967296)) (U - U / (Y / 4294967296) * (Y / 4294967296)) V (V / (Y / 4294967296)) (V - V / (Y / 4294967296) * (Y / 4294967296)) Q1 Q0 (Q1 * 4294967296 + Q0) (V * 4294967296 + T % 4294967296 - Q0 * Y)
    (by rw [← eY]; exact wrap_id (by omega) hY1) hY0 hY1 rfl (and_low Y (by omega) hY1) hA0 (by omega) (by omega) (by omega) (show Y = Y / 4294967296 * 4294967296 + Y % 4294967296 by omega)
    hor hU0 hUY hT rfl (by omega) (by omega) (and_low T (by omega) (by omega)) (by omega) (by omega)
    (by rw [Int.tdiv_eq_ediv_of_nonneg hU0]; exact wrap_id k3 (by omega))
    (by rw [wrap_id hqa (by omega)]; exact wrap_id (by omega) (by omega)) ⟨rfl, rfl⟩ eQ1
    (by simp only [IntKind.wrap_u64]; omega) hR1.1 hR1.2
    (by rw [Int.tdiv_eq_ediv_of_nonneg hR1.1]; exact wrap_id m3 (by omega))
    (by rw [wrap_id hqa' (by omega)]; exact wrap_id (by omega) (by omega)) ⟨rfl, rfl⟩ eQ0
    hQ1.1 hQ1.2 hQ0.1
    (by simp only [IntKind.wrap_u64]; omega)
    (by simp only [IntKind.wrap_u64]; omega)
  rw [f1, f2] at core
  exact core
theorem Div64_any (hi lo y : Int) (w : World) (hh : 0 ≤ hi) (hhy : hi < y) (h0 : 0 ≤ lo) (h1 : lo ≤ 18446744073709551615) (hy1 : y ≤ 18446744073709551615) :
    Calls Tryd.prog 43 #[.int .u64 hi, .int .u64 lo, .int .u64 y] w fun e w' => e = .returned (.tuple #[.int .u64 ((hi * 18446744073709551616 + lo) / y), .int .u64 ((hi * 18446744073709551616 + lo) % y)]) ∧ ∃ k, w' = w.drewN k := by
  by_cases hz : hi = 0
  · subst hz
    have h := Div64_low lo y w h0 h1 hhy hy1
    rw [Int.zero_mul, Int.zero_add]; exact h
  · refine (Div64_high hi lo y w (by omega) hhy h0 h1 hy1).mono ?_
    rintro e w' ⟨rfl, rfl⟩
    exact ⟨rfl, 0, by rw [World.drewN_zero]⟩
#print axioms Div64_any
end Go.Proofs.YtochdjdkfmdgeabDoor
