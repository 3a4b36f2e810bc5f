/-
  The reference: the date of a day.
-/
import Derived.Test.YteafaglhlggknabDoorRefDays
namespace Go.Proofs.YteafaglhlggknabDoor
set_option linter.unusedVariables false
open Go.Shelf Go.RowKit Go.Sort Go.Lib

theorem ahead_366 (k : Nat) : ahead (1970 + k) ≤ 366 * k := by
  induction k with
  | zero => rw [ahead_first]; omega
  | succ k ih =>
    rw [show 1970 + (k + 1) = (1970 + k) + 1 by omega, ahead_succ _ (by omega)]
    have := leapN_le (1970 + k)
    omega
set_option maxRecDepth 100000 in
set_option maxHeartbeats 400000 in
theorem refDate_any (z : Int) (n : Nat) (hz : z = n) (w : World) (hn : n ≤ 2932896) :
    Calls Tryd.prog 23 #[.int .i64 z] w fun e w' => e = .returned (.int .i64 (dateN n : Int)) ∧ Below w.heap.size w w' := by
  subst hz
  have hs0 := ahead_366 (n / 366)
  have hs1 : 366 * (n / 366) ≤ n := by omega
  have hs3 : (n : Int) / 366 = ((n / 366 : Nat) : Int) := by omega
  have hs4 : 1970 + n / 366 ≤ 9999 := by
    rcases Nat.lt_or_ge (1970 + n / 366) 10000 with h | h
    · omega
    · omega
  generalize n / 366 = y0 at *
  go_enter Tryd.func23, Tryd.ntmps23
  go_wp2
  go_loopw [3] (fun y wr => ∃ Y : Nat, 1970 ≤ Y ∧ Y ≤ 9999 ∧ ahead Y ≤ n ∧ y = .int .i64 Y ∧ wr = w) (fun y _ => 10000 - (intOf y).toNat)
  case atStart => exact ⟨1970 + y0, by omega, hs4, by omega, vint (by omega), rfl⟩
  case round =>
    obtain ⟨Y, h0, h1, hA, rfl, rfl⟩ := hrel
    clear hs0 hs1 hs3 hs4
    by_cases hlt : ahead (Y + 1) ≤ n
    · have hlt' : (ahead (Y + 1) : Int) ≤ (n : Int) := by omega
      have h9 : Y + 1 ≤ 9999 := by
        rcases Nat.lt_or_ge Y 9999 with h | h
        · omega
        · rw [show Y + 1 = 10000 by omega, ahead_last] at hlt; omega
      go_wp2_with (go_at_call 35; fail)
      refine (refAhead_any _ (Y + 1) (by omega) _ (by omega) (by omega)).mono ?_
      rintro e w ⟨rfl, rfl⟩
      go_wp2
      go_roundw
      case rel => exact ⟨Y + 1, by omega, h9, hlt, by go_num, by first | rfl | trivial⟩
      case measure => simp [intOf]; omega
    · have hlt' : ¬ (ahead (Y + 1) : Int) ≤ (n : Int) := by omega
      have hlt2 : (n : Int) < (ahead (Y + 1) : Int) := by omega
      have hA2 : n < ahead Y + 365 + leapN Y := by rw [ahead_succ Y h0] at hlt; omega
      have hlp := leapN_le Y
      have hA3 : ahead Y ≤ 2932897 := by omega
      have hAi : (ahead Y : Int) ≤ n := by omega
      go_wp2_with (go_at_call 35; fail)
      refine (refAhead_any _ (Y + 1) (by omega) _ (by omega) (by omega)).mono ?_
      rintro e w ⟨rfl, rfl⟩
      go_wp2_with (go_at_call 35; fail)
      refine (refAhead_any _ Y rfl _ h0 (by omega)).mono ?_
      rintro e w ⟨rfl, rfl⟩
      have HA2 : Hid (n < ahead Y + 365 + leapN Y) := hA2
      clear hlt hlt' hlt2 hA2
      go_wp2
      go_loopw [0, 4] (fun a i wr => ∃ k : Nat, k < 12 ∧ i = .int .i64 ((k : Int) + 1) ∧ a = .int .i64 ((n : Int) - (ahead Y : Int) - (msum Y k : Int)) ∧ ahead Y + msum Y k ≤ n ∧ Below w.heap.size w wr) (fun _ i _ => 13 - (intOf i).toNat)
      case atStart => exact ⟨0, by omega, rfl, vint (by simp [msum]), by simp [msum]; omega, Below.refl _ _⟩
      case round =>
        obtain ⟨k, hk, rfl, rfl, hle, hbl⟩ := hrel
        have HB : Hid (Below w.heap.size w wr) := hbl
        clear hbl
        have hs1 := msum_mono Y (j := k) (k := 12) (by omega)
        rw [msum_year] at hs1
        have hs3 := mlen_le Y (k + 1)
        have hs4 : msum Y (k + 1) = msum Y k + mlen Y (k + 1) := rfl
        by_cases hlt : ahead Y + msum Y k + mlen Y (k + 1) ≤ n
        · have hge : (mlen Y (k + 1) : Int) ≤ (n : Int) - (ahead Y : Int) - (msum Y k : Int) := by omega
          have hk2 : k + 1 < 12 := by
            rcases Nat.lt_or_ge (k + 1) 12 with h | h
            · exact h
            · have e12 : k + 1 = 12 := by omega
              have := msum_year Y
              rw [← e12] at this
              have := HA2.out
              omega
          go_wp2_with (go_at_call 36; fail)
          refine (refLong_any _ _ Y (k + 1) rfl (by omega) _ (by omega) (by omega) (by omega)).mono ?_
          rintro e w2 ⟨rfl, hb2⟩
          have HB2 : Hid (Below w.heap.size w w2) := HB.out.trans (hb2.mono HB.out.size)
          clear hb2 HB
          go_wp2_with (go_at_call 36; fail)
          refine (refLong_any _ _ Y (k + 1) rfl (by omega) _ (by omega) (by omega) (by omega)).mono ?_
          rintro e w3 ⟨rfl, hb3⟩
          have HB3 : Hid (Below w.heap.size w w3) := HB2.out.trans (hb3.mono HB2.out.size)
          clear hb3 HB2
          go_wp2
          go_roundw
          case rel => exact ⟨k + 1, by omega, by go_num, vint (by omega), by omega, HB3.out⟩
          case measure => simp [intOf]; omega
        · have hge : ¬ (mlen Y (k + 1) : Int) ≤ (n : Int) - (ahead Y : Int) - (msum Y k : Int) := by omega
          have hge2 : (n : Int) - (ahead Y : Int) - (msum Y k : Int) < (mlen Y (k + 1) : Int) := by omega
          have hD : IsD Y (k + 1) (n - ahead Y - msum Y k + 1) := ⟨h0, h1, by omega, by omega, by omega, by omega⟩
          have eD := dateN_eq hD
          rw [show dayNo Y (k + 1) (n - ahead Y - msum Y k + 1) = n by unfold dayNo; simp only [Nat.add_sub_cancel]; omega] at eD
          have eN : (dateN n : Int) = (Y : Int) * 10000 + ((k : Int) + 1) * 100 + ((n : Int) - (ahead Y : Int) - (msum Y k : Int)) + 1 := by rw [eD]; unfold encD; omega
          have EN : Hid ((dateN n : Int) = (Y : Int) * 10000 + ((k : Int) + 1) * 100 + ((n : Int) - (ahead Y : Int) - (msum Y k : Int)) + 1) := eN
          clear eN eD
          go_wp2_with (go_at_call 36; fail)
          refine (refLong_any _ _ Y (k + 1) rfl (by omega) _ (by omega) (by omega) (by omega)).mono ?_
          rintro e w2 ⟨rfl, hb2⟩
          have HB2 : Hid (Below w.heap.size w w2) := HB.out.trans (hb2.mono HB.out.size)
          clear hb2 HB
          go_wp2
          go_ret
          exact ⟨ret_int (by have := EN.out; omega), HB2.out⟩
/-- The last digit of a number. -/
def dch (n : Nat) : UInt8 := UInt8.ofNat (48 + n % 10)
theorem dig_slice0 (W : World) : ∀ r : Nat, r < 10 → (Instr.slice 9 (.string ⟨#[48, 49, 50, 51, 52, 53, 54, 55, 56, 57]⟩) (some (.int .i64 (r : Int))) (some (.int .i64 ((r : Int) + 1))) none).run Tryd.prog W = .ok (.string ⟨#[UInt8.ofNat (48 + r)]⟩) W
  | 0, _ => by kernel_rfl
  | 1, _ => by kernel_rfl
  | 2, _ => by kernel_rfl
  | 3, _ => by kernel_rfl
  | 4, _ => by kernel_rfl
  | 5, _ => by kernel_rfl
  | 6, _ => by kernel_rfl
  | 7, _ => by kernel_rfl
  | 8, _ => by kernel_rfl
  | 9, _ => by kernel_rfl
  | n + 10, h => absurd h (by omega)
theorem dig_slice (n : Nat) (W : World) : (Instr.slice 9 (.string ⟨#[48, 49, 50, 51, 52, 53, 54, 55, 56, 57]⟩) (some (.int .i64 ((n : Int) % 10))) (some (.int .i64 ((n : Int) % 10 + 1))) none).run Tryd.prog W = .ok (.string ⟨#[dch n]⟩) W := by
  have e : (n : Int) % 10 = ((n % 10 : Nat) : Int) := by omega
  rw [e]
  exact dig_slice0 W (n % 10) (Nat.mod_lt _ (by decide))
theorem cons_bytes (c : UInt8) (t : ByteArray) : ((⟨#[c]⟩ : ByteArray) ++ t).data.toList = c :: t.data.toList := by
  rw [ByteArray.data_append]; simp
end Go.Proofs.YteafaglhlggknabDoor
