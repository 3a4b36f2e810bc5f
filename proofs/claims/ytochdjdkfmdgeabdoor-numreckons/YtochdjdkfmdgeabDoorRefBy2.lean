/-
  The walk of the reference's long division.
-/
import Derived.Test.YtochdjdkfmdgeabDoorRefBy
namespace Go.Proofs.YtochdjdkfmdgeabDoor
set_option linter.unusedVariables false
open Go.RowKit

theorem pow_le31 (i : Nat) (h : i < 32) : (2 : Int) ^ i ≤ 2147483648 := by
  have h1 : 2 ^ i ≤ 2 ^ 31 := Nat.pow_le_pow_right (by decide) (by omega)
  have h2 : ((2 ^ i : Nat) : Int) = 2 ^ i := by simp
  rw [← h2]
  omega
set_option maxRecDepth 100000 in
set_option maxHeartbeats 2000000 in
theorem by_any (p0 p1 p2 p3 c : Int) (w : World) (h0 : 0 ≤ p0 ∧ p0 < 4294967296) (h1 : 0 ≤ p1 ∧ p1 < 4294967296) (h2 : 0 ≤ p2 ∧ p2 < 4294967296) (h3 : 0 ≤ p3 ∧ p3 < 4294967296) (hc : 0 < c) (hc1 : c < 9223372036854775808) :
    Calls Tryd.prog 45 #[.agg #[.int .u64 p0, .int .u64 p1, .int .u64 p2, .int .u64 p3], .int .u64 c] w fun e w' => ((wideN p0 p1 p2 p3 / c < 18446744073709551616 ∧ e = .returned (.tuple #[.int .u64 (wideN p0 p1 p2 p3 / c), .int .u64 (wideN p0 p1 p2 p3 % c), .bool true])) ∨ (18446744073709551616 ≤ wideN p0 p1 p2 p3 / c ∧ e = .returned (.tuple #[.int .u64 0, .int .u64 0, .bool false]))) ∧ Below w.heap.size w w' := by
  have HN : Hid (0 ≤ wideN p0 p1 p2 p3) := by show 0 ≤ wideN _ _ _ _; unfold wideN; omega
  have HL : Hid (wideN p0 p1 p2 p3 / 2 ^ 128 = 0) := wide_lt p0 p1 p2 p3 h0 h1 h2 h3
  have HB : Hid (∀ j, j < 128 → limb p0 p1 p2 p3 (j / 32) / 2 ^ (j % 32) % 2 = wideN p0 p1 p2 p3 / 2 ^ j % 2) := bit_wide p0 p1 p2 p3 h0 h1 h2 h3
  have HM : Hid (∀ m, 0 ≤ limb p0 p1 p2 p3 m ∧ limb p0 p1 p2 p3 m < 4294967296) := by
    intro m; unfold limb; split
    · exact h0
    · split
      · exact h1
      · split
        · exact h2
        · exact h3
  clear h0 h1 h2 h3
  generalize wideN p0 p1 p2 p3 = N at *
  go_enter Tryd.func45, Tryd.ntmps45
  go_wp2
  have HW : Hid (∀ m, m < 4 → (w.alloc (.cells #[.int .u64 p0, .int .u64 p1, .int .u64 p2, .int .u64 p3] 61)).cell? ⟨w.heap.size, m, none⟩ = some (.int .u64 (limb p0 p1 p2 p3 m))) := by
    intro m hm
    rw [World.cell?_alloc_new]
    have : m = 0 ∨ m = 1 ∨ m = 2 ∨ m = 3 := by omega
    rcases this with rfl | rfl | rfl | rfl <;> rfl
  generalize limb p0 p1 p2 p3 = lb at *
  go_loopw [7, 8, 9, 10] (fun a b i _ wr => ∃ (k n : Nat) (q r : Int), k ≤ 128 ∧ i = .int .i64 ((k : Int) - 1) ∧ a = .int .u64 q ∧ b = .int .u64 r ∧ q = N / 2 ^ k / c ∧ r = N / 2 ^ k % c ∧ q < 18446744073709551616 ∧ wr = (w.alloc (.cells #[.int .u64 p0, .int .u64 p1, .int .u64 p2, .int .u64 p3] 61)).drewN n)
    (fun _ _ i _ _ => ((RowKit.intOf i) + 1).toNat)
  case atStart => exact ⟨128, 0, 0, 0, Nat.le_refl _, rfl, rfl, rfl, by rw [HL.out]; simp, by rw [HL.out]; simp, by decide, by rw [World.drewN_zero]⟩
  case round =>
    obtain ⟨k, n, q, r, hk, rfl, rfl, rfl, hq, hr, hq1, rfl⟩ := hrel
    have HQ : Hid (q = N / 2 ^ k / c) := hq
    have HR : Hid (r = N / 2 ^ k % c) := hr
    have hX : 0 ≤ N / 2 ^ k := Int.ediv_nonneg HN.out (by have := pow2_pos k; omega)
    have hq0 : 0 ≤ q := by rw [hq]; exact Int.ediv_nonneg hX (by omega)
    have hr0 : 0 ≤ r := by rw [hr]; exact Int.emod_nonneg _ (by omega)
    have hr1 : r < c := by rw [hr]; exact Int.emod_lt_of_pos _ hc
    clear hq hr hX
    by_cases hk0 : k = 0
    · subst hk0
      have HF : Hid (q = N / c ∧ r = N % c) := by
        have e : N / 2 ^ 0 = N := Int.ediv_one N
        exact ⟨by rw [HQ.out, e], by rw [HR.out, e]⟩
      go_wp2
      go_ret3
      refine ⟨.inl ⟨by rw [← HF.out.1]; exact hq1, ret3 (vint HF.out.1) (vint HF.out.2) rfl⟩, ?_⟩
      exact below_drewN ((Below.refl _ _).alloc (Nat.le_refl _) _) _
    · obtain ⟨j, rfl⟩ : ∃ j, k = j + 1 := ⟨k - 1, by omega⟩
      obtain ⟨m, hm⟩ : ∃ m, m = j / 32 := ⟨_, rfl⟩
      obtain ⟨i0, hi0⟩ : ∃ i0, i0 = j % 32 := ⟨_, rfl⟩
      have hcell := HW.out m (by omega)
      have HBit : Hid (lb m / 2 ^ i0 % 2 = N / 2 ^ j % 2) := by
        rw [hm, hi0]; exact HB.out j (by omega)
      have hlb := HM.out m
      obtain ⟨hl0, hl1⟩ := hlb
      obtain ⟨J, hJ⟩ : ∃ J : Int, ((j + 1 : Nat) : Int) - 1 = J := ⟨_, rfl⟩
      have hJ0 : 0 ≤ J := by omega
      have hJ1 : J ≤ 127 := by omega
      have e32 : J / 32 = (m : Int) := by omega
      have f32 : J % 32 = (i0 : Int) := by omega
      have hm4 : (m : Int) < 4 := by omega
      have hi32 : i0 < 32 := by omega
      have hp := pow2_pos i0
      have hp2 : (2 : Int) ^ i0 ≤ 2147483648 := pow_le31 i0 hi32
      have hpw : IntKind.u64.wrap (2 ^ i0) = 2 ^ i0 := by rw [IntKind.wrap_u64]; omega
      have HJ : Hid (J = (j : Int)) := by show J = (j : Int); omega
      have hq32 : IntKind.i64.wrap (J.tdiv 32) = (m : Int) := by
        rw [Int.tdiv_eq_ediv_of_nonneg hJ0, e32, IntKind.wrap_i64]; omega
      have hr32 : IntKind.i64.wrap (J.tmod 32) = (i0 : Int) := by
        rw [Int.tmod_eq_emod_of_nonneg hJ0, f32, IntKind.wrap_i64]; omega
      have hr32' : J.tmod 32 = (i0 : Int) := by rw [Int.tmod_eq_emod_of_nonneg hJ0, f32]
      have h2r : IntKind.u64.wrap (2 * r) = 2 * r := by rw [IntKind.wrap_u64]; omega
      have hle : lb m / 2 ^ i0 ≤ lb m := Int.ediv_le_self _ hl0
      have hge : 0 ≤ lb m / 2 ^ i0 := Int.ediv_nonneg hl0 (by omega)
      obtain ⟨bt, hbt⟩ : ∃ bt, lb m / 2 ^ i0 % 2 = bt := ⟨_, rfl⟩
      have hx1 : IntKind.u64.wrap ((lb m).tdiv (2 ^ i0)) = lb m / 2 ^ i0 := by
        rw [Int.tdiv_eq_ediv_of_nonneg hl0, IntKind.wrap_u64]; omega
      have hx2 : IntKind.u64.wrap ((lb m / 2 ^ i0).tmod 2) = bt := by
        rw [Int.tmod_eq_emod_of_nonneg hge, hbt, IntKind.wrap_u64]; omega
      have hx2' : (lb m / 2 ^ i0).tmod 2 = bt := by rw [Int.tmod_eq_emod_of_nonneg hge, hbt]
      have hb0 : 0 ≤ bt := by omega
      have hb1 : bt ≤ 1 := by omega
      have hx3 : IntKind.u64.wrap (2 * r + bt) = 2 * r + bt := by rw [IntKind.wrap_u64]; omega
      have hx4 : ¬ (2 : Int) ^ i0 = 0 := by omega
      have HBT : Hid (bt = N / 2 ^ j % 2) := by show bt = _; rw [← hbt]; exact HBit.out
      rw [hJ]
      clear hJ hm hi0 hbt HBit e32 f32 hle hge
      go_wp2
      go_quiet (fail)
      have HX : Hid (N / 2 ^ j = 2 * (N / 2 ^ (j + 1)) + bt) := by
        show N / 2 ^ j = _
        rw [HBT.out]; exact half N HN.out j
      have hst := by_step (N / 2 ^ (j + 1)) c q r bt hc HQ.out HR.out hb0 hb1
      rw [← HX.out] at hst
      have HST : Hid ((2 * r + bt < c → N / 2 ^ j / c = 2 * q ∧ N / 2 ^ j % c = 2 * r + bt) ∧ (c ≤ 2 * r + bt → N / 2 ^ j / c = 2 * q + 1 ∧ N / 2 ^ j % c = 2 * r + bt - c)) := hst
      have HBig : Hid (18446744073709551616 ≤ N / 2 ^ j / c → 18446744073709551616 ≤ N / c) := fun h => by
        have h1 : N / 2 ^ j ≤ N := Int.ediv_le_self _ HN.out
        have := Int.ediv_le_ediv hc h1
        omega
      clear hst hcell hq32 hr32 hr32' h2r hx1 hx2 hx2' hx3 hx4 hpw hp hp2 HW HB HM HL HQ HR hl0 hl1 hm4
      by_cases hqq : 9223372036854775808 ≤ q
      · have HF : Hid (18446744073709551616 ≤ N / c) := HBig.out (by
          by_cases hcr : 2 * r + bt < c
          · rw [(HST.out.1 hcr).1]; omega
          · rw [(HST.out.2 (by omega)).1]; omega)
        by_cases hcr : c ≤ 2 * r + bt
        · go_wp2
          go_ret3
          exact ⟨.inr ⟨HF.out, rfl⟩, below_drewN ((Below.refl _ _).alloc (Nat.le_refl _) _) _⟩
        · go_wp2
          go_ret3
          exact ⟨.inr ⟨HF.out, rfl⟩, below_drewN ((Below.refl _ _).alloc (Nat.le_refl _) _) _⟩
      · by_cases hcr : c ≤ 2 * r + bt
        · have hs := HST.out.2 hcr
          have HS : Hid (2 * q + 1 = N / 2 ^ j / c ∧ 2 * r + bt - c = N / 2 ^ j % c) := ⟨hs.1.symm, hs.2.symm⟩
          clear hs
          go_wp2
          go_roundw
          case rel => exact ⟨j, _, 2 * q + 1, 2 * r + bt - c, by omega, vint (by rw [HJ.out]), rfl, rfl, HS.out.1, HS.out.2, by omega, rfl⟩
          case measure => simp [RowKit.intOf]; omega
        · have hs := HST.out.1 (by omega)
          have HS : Hid (2 * q + 0 = N / 2 ^ j / c ∧ 2 * r + bt = N / 2 ^ j % c) := ⟨by rw [hs.1]; omega, hs.2.symm⟩
          clear hs
          go_wp2
          go_roundw
          case rel => exact ⟨j, _, 2 * q, 2 * r + bt, by omega, vint (by rw [HJ.out]), rfl, rfl, by rw [← HS.out.1]; omega, HS.out.2, by omega, rfl⟩
          case measure => simp [RowKit.intOf]; omega
end Go.Proofs.YtochdjdkfmdgeabDoor
