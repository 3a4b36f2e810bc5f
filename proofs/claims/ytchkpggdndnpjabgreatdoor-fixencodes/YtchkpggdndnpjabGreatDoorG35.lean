import Derived.Test.YtchkpggdndnpjabGreatDoorG13
import Derived.Test.YtchkpggdndnpjabGreatDoorG01

namespace Go.Proofs.YtchkpggdndnpjabGreatDoor
set_option linter.unusedVariables false
open Go.Shelf Go.RowKit Go.Sort Go.Lib
open Go.RowKit Go.Lib

set_option maxRecDepth 100000 in
set_option maxHeartbeats 400000 in
theorem refLeap_any (z : Int) (y : Nat) (hz : z = y) (w : World) (hy : y ≤ 9999) :
    Calls Tryz.prog 274 #[.int .i64 z] w fun e w' => e = .returned (.bool (leapB y)) ∧ w' = w := by
  subst hz
  go_enter Tryz.func274, Tryz.ntmps274
  go_wp2
  all_goals go_ret
  all_goals refine ⟨congrArg Ending.returned (congrArg Value.bool ?_), rfl⟩
  · by_cases h : y % 400 = 0
    · rw [leapB_true (by omega)]; simp; omega
    · rw [leapB_false (by omega)]; simp; omega
  · rw [leapB_true (by omega)]
  · by_cases h : y % 400 = 0
    · rw [leapB_true (by omega)]; simp; omega
    · rw [leapB_false (by omega)]; simp; omega
theorem lit_cell (w : World) (k : Nat) (hk : k < 12) : (w.alloc (.cells #[.int .i64 31, .int .i64 28, .int .i64 31, .int .i64 30, .int .i64 31, .int .i64 30, .int .i64 31, .int .i64 31, .int .i64 30, .int .i64 31, .int .i64 30, .int .i64 31] 3)).cell? ⟨w.heap.size, k, none⟩ = some (.int .i64 (monTab.getD k 0)) := by
  rw [World.cell?_alloc_at _ _ _ _ (by simp)]
  have : k = 0 ∨ k = 1 ∨ k = 2 ∨ k = 3 ∨ k = 4 ∨ k = 5 ∨ k = 6 ∨ k = 7 ∨ k = 8 ∨ k = 9 ∨ k = 10 ∨ k = 11 := by omega
  rcases this with rfl | rfl | rfl | rfl | rfl | rfl | rfl | rfl | rfl | rfl | rfl | rfl <;> rfl
set_option maxRecDepth 100000 in
set_option maxHeartbeats 400000 in
theorem refLong_any (z x : Int) (y m : Nat) (hz : z = y) (hx : x = m) (w : World) (hy : y ≤ 9999) (h0 : 1 ≤ m) (h1 : m ≤ 12) :
    Calls Tryz.prog 258 #[.int .i64 z, .int .i64 x] w fun e w' => e = .returned (.int .i64 (mlen y m : Int)) ∧ Below w.heap.size w w' := by
  subst hz hx
  have hc := lit_cell w (m - 1) (by omega)
  have em := mon_mlen (y := y) h0 h1
  have hm1 : (1 : Int) ≤ (m : Int) := by omega
  have hm2 : (m : Int) ≤ 12 := by omega
  obtain ⟨k, rfl⟩ : ∃ k, m = k + 1 := ⟨m - 1, by omega⟩
  simp only [Nat.add_sub_cancel] at hc em
  have h28 : k = 1 → monTab.getD k 0 = 28 := fun e => by subst e; rfl
  have HB : Hid (Below w.heap.size w (w.alloc (.cells #[.int .i64 31, .int .i64 28, .int .i64 31, .int .i64 30, .int .i64 31, .int .i64 30, .int .i64 31, .int .i64 31, .int .i64 30, .int .i64 31, .int .i64 30, .int .i64 31] 3))) := (Below.refl _ w).alloc (Nat.le_refl _) _
  have hk12 : (k : Int) < 12 := by omega
  generalize monTab.getD k 0 = v at *
  by_cases h2 : k = 1
  · subst h2
    have hv := h28 rfl
    subst hv
    clear h28
    cases hl : leapB y
    · rw [hl] at em
      have hl' := refLeap_any (y : Int) y rfl (w.alloc (.cells #[.int .i64 31, .int .i64 28, .int .i64 31, .int .i64 30, .int .i64 31, .int .i64 30, .int .i64 31, .int .i64 31, .int .i64 30, .int .i64 31, .int .i64 30, .int .i64 31] 3)) hy
      rw [hl] at hl'
      simp at em
      clear hl
      have EM : Hid ((mlen y 2 : Int) = 28) := em
      clear em
      go_enter Tryz.func258, Tryz.ntmps258
      go_wp2_with (go_at_call 274; fail)
      refine hl'.mono ?_
      rintro e w1 ⟨rfl, hw1⟩
      have HB1 : Hid (Below w.heap.size w w1) := by rw [hw1]; exact HB.out
      clear hw1 hl'
      go_wp2
      go_ret
      exact ⟨ret_int EM.out.symm, HB1.out⟩
    · rw [hl] at em
      have hl' := refLeap_any (y : Int) y rfl (w.alloc (.cells #[.int .i64 31, .int .i64 28, .int .i64 31, .int .i64 30, .int .i64 31, .int .i64 30, .int .i64 31, .int .i64 31, .int .i64 30, .int .i64 31, .int .i64 30, .int .i64 31] 3)) hy
      rw [hl] at hl'
      simp at em
      clear hl
      have EM : Hid ((mlen y 2 : Int) = 29) := em
      clear em
      go_enter Tryz.func258, Tryz.ntmps258
      go_wp2_with (go_at_call 274; fail)
      refine hl'.mono ?_
      rintro e w1 ⟨rfl, hw1⟩
      have HB1 : Hid (Below w.heap.size w w1) := by rw [hw1]; exact HB.out
      clear hw1 hl'
      go_wp2
      go_ret
      exact ⟨ret_int EM.out.symm, HB1.out⟩
  · have h2' : ¬ (k : Int) + 1 = 2 := by omega
    rw [if_neg (by omega)] at em
    have EM : Hid ((mlen y (k + 1) : Int) = v) := em.trans (Int.add_zero v)
    have hl' := refLeap_any (y : Int) y rfl (w.alloc (.cells #[.int .i64 31, .int .i64 28, .int .i64 31, .int .i64 30, .int .i64 31, .int .i64 30, .int .i64 31, .int .i64 31, .int .i64 30, .int .i64 31, .int .i64 30, .int .i64 31] 3)) hy
    clear em h28
    go_enter Tryz.func258, Tryz.ntmps258
    go_wp2_with (go_at_call 274; fail)
    refine hl'.mono ?_
    rintro e w1 ⟨rfl, hw1⟩
    have HB1 : Hid (Below w.heap.size w w1) := by rw [hw1]; exact HB.out
    clear hw1 hl'
    go_wp2
    go_ret
    exact ⟨ret_int EM.out.symm, HB1.out⟩
set_option maxRecDepth 100000 in
set_option maxHeartbeats 400000 in
theorem refAhead_any (z : Int) (y : Nat) (hz : z = y) (w : World) (h0 : 1970 ≤ y) (hy : y ≤ 10000) :
    Calls Tryz.prog 259 #[.int .i64 z] w fun e w' => e = .returned (.int .i64 (ahead y : Int)) ∧ w' = w := by
  subst hz
  obtain ⟨x, rfl⟩ : ∃ x, y = x + 1 := ⟨y - 1, by omega⟩
  have hg := leaps_ge x (by omega)
  have e : Hid (ahead (x + 1) + x / 100 + 477 = (x - 1969) * 365 + x / 4 + x / 400) := by
    show _ = _
    unfold ahead
    rw [show x + 1 - 1970 = x - 1969 by omega, show x + 1 - 1 = x by omega]
    omega
  go_enter Tryz.func259, Tryz.ntmps259
  go_wp2
  go_ret
  exact ⟨ret_int (by have := e.out; omega), rfl⟩
set_option maxRecDepth 100000 in
set_option maxHeartbeats 400000 in
theorem refNumber_none (z : Int) (w : World) (hz0 : -9223372036854775808 ≤ z) (hz : z < 19700000) :
    Calls Tryz.prog 231 #[.int .i64 z] w fun e w' => e = .returned (.tuple #[.int .i64 0, .bool false]) ∧ w' = w := by
  have h1 : z.tdiv 10000 < 1970 := by
    rcases Int.lt_or_le z 0 with h | h
    · have h2 := Int.tdiv_nonneg (a := -z) (b := 10000) (by omega) (by decide)
      rw [Int.neg_tdiv] at h2
      omega
    · rw [Int.tdiv_eq_ediv_of_nonneg h]; omega
  go_enter Tryz.func231, Tryz.ntmps231
  go_wp2
  go_ret2
  exact ⟨rfl, rfl⟩
set_option maxRecDepth 100000 in
set_option maxHeartbeats 400000 in
theorem refNumber_nat (k : Nat) (w : World) (hk : k ≤ 9223372036854775807) (hk0 : 19700000 ≤ k) :
    Calls Tryz.prog 231 #[.int .i64 (k : Int)] w fun e w' => e = .returned (.tuple #[.int .i64 (dnV k), .bool (dnB k)]) ∧ Below w.heap.size w w' := by
  have eP := dn_yes (k := k)
  have eN := dn_no (k := k)
  have q1 : (k : Int) / 10000 = ((k / 10000 : Nat) : Int) := by omega
  have q2 : (k : Int) / 100 % 100 = ((k / 100 % 100 : Nat) : Int) := by omega
  have q3 : (k : Int) % 100 = ((k % 100 : Nat) : Int) := by omega
  have y0 : 1970 ≤ k / 10000 := by omega
  have b2 : k / 100 % 100 < 100 := by omega
  have b3 : k % 100 < 100 := by omega
  generalize k / 10000 = y at *
  generalize k / 100 % 100 = m at *
  generalize k % 100 = d at *
  have hy0 : (1970 : Int) ≤ y := by omega
  by_cases hy : y ≤ 9999
  · have hy1 : (y : Int) ≤ 9999 := by omega
    by_cases hm : 1 ≤ m ∧ m ≤ 12
    · have hm1 : (1 : Int) ≤ m := by omega
      have hm2 : (m : Int) ≤ 12 := by omega
      by_cases hd : 1 ≤ d ∧ d ≤ mlen y m
      · have hD : IsD y m d := ⟨y0, hy, hm.1, hm.2, hd.1, hd.2⟩
        obtain ⟨eV, eB⟩ := eP hD
        rw [eV, eB]
        clear eN eP eV eB
        have hlast := hD.last
        have hd1 : (1 : Int) ≤ d := by omega
        have hd2 : (d : Int) ≤ (mlen y m : Int) := by omega
        have hA : ahead y ≤ 2932897 := by have := hD.lo; omega
        go_enter Tryz.func231, Tryz.ntmps231
        go_wp2_with (go_at_call 258; fail)
        refine (refLong_any _ _ y m rfl rfl _ hy hm.1 hm.2).mono ?_
        rintro e w1 ⟨rfl, hb1⟩
        have HB1 : Hid (Below w.heap.size w w1) := hb1
        clear hb1
        go_wp2_with (go_at_call 259; fail)
        refine (refAhead_any _ y rfl _ y0 (by omega)).mono ?_
        rintro e w1 ⟨rfl, rfl⟩
        go_wp2
        go_loopw [7, 8] (fun a i wr => ∃ j : Nat, 1 ≤ j ∧ j ≤ m ∧ i = .int .i64 j ∧ a = .int .i64 ((ahead y : Int) + (msum y (j - 1) : Int)) ∧ Below w.heap.size w wr) (fun _ i _ => m - (RowKit.intOf i).toNat)
        case atStart => exact ⟨1, by omega, by omega, rfl, vint (by simp [msum]), HB1.out⟩
        case round =>
          obtain ⟨j, hj0, hj1, rfl, rfl, hbl⟩ := hrel
          have HB : Hid (Below w.heap.size w wr) := hbl
          clear hbl HB1
          have hs1 := msum_mono y (j := j - 1) (k := 12) (by omega)
          rw [msum_year] at hs1
          have hs2 := leapN_le y
          have hs3 := mlen_le y j
          by_cases hlt : j < m
          · have hlt' : (j : Int) < (m : Int) := by omega
            have hs4 : msum y (j - 1) + mlen y j = msum y (j + 1 - 1) := by
              obtain ⟨i, rfl⟩ : ∃ i, j = i + 1 := ⟨j - 1, by omega⟩
              simp [msum]
            go_wp2_with (go_at_call 258; fail)
            refine (refLong_any _ _ y j rfl rfl _ hy hj0 (by omega)).mono ?_
            rintro e w3 ⟨rfl, hb3⟩
            have HB3 : Hid (Below w.heap.size w w3) := HB.out.trans (hb3.mono HB.out.size)
            clear hb3
            go_wp2
            go_roundw
            case rel => exact ⟨j + 1, by omega, by omega, by go_num, vint (by omega), HB3.out⟩
            case measure => simp [RowKit.intOf]; omega
          · obtain rfl : j = m := by omega
            have e1 : Hid ((ahead y : Int) + (msum y (j - 1) : Int) + d - 1 = (dayNo y j d : Int)) := by show _ = _; unfold dayNo; omega
            go_wp2
            go_ret2
            exact ⟨ret2 (vint e1.out) rfl, HB.out⟩
      · obtain ⟨eV, eB⟩ := eN (fun h => hd ⟨h.d0, h.d1⟩)
        rw [eV, eB]
        clear eN eP eV eB
        rcases Nat.lt_or_ge d 1 with h1 | h1
        · have hm2 : (d : Int) < 1 := by omega
          go_enter Tryz.func231, Tryz.ntmps231
          go_wp2
          go_ret2
          exact ⟨rfl, Below.refl _ _⟩
        · have hd1 : (1 : Int) ≤ d := by omega
          have hd2 : (mlen y m : Int) < d := by omega
          go_enter Tryz.func231, Tryz.ntmps231
          go_wp2_with (go_at_call 258; fail)
          refine (refLong_any _ _ y m rfl rfl _ hy hm.1 hm.2).mono ?_
          rintro e w1 ⟨rfl, hb1⟩
          have HB1 : Hid (Below w.heap.size w w1) := hb1
          clear hb1
          go_wp2
          go_ret2
          exact ⟨rfl, HB1.out⟩
    · obtain ⟨eV, eB⟩ := eN (fun h => hm ⟨h.m0, h.m1⟩)
      rw [eV, eB]
      clear eN eP eV eB
      rcases Nat.lt_or_ge m 1 with hm1 | hm1
      · have hm2 : (m : Int) < 1 := by omega
        go_enter Tryz.func231, Tryz.ntmps231
        go_wp2
        go_ret2
        exact ⟨rfl, Below.refl _ _⟩
      · have hm2 : (1 : Int) ≤ m := by omega
        have hm3 : (12 : Int) < m := by omega
        go_enter Tryz.func231, Tryz.ntmps231
        go_wp2
        go_ret2
        exact ⟨rfl, Below.refl _ _⟩
  · obtain ⟨eV, eB⟩ := eN (fun h => hy h.y1)
    rw [eV, eB]
    clear eN eP eV eB
    have hy1 : (9999 : Int) < y := by omega
    go_enter Tryz.func231, Tryz.ntmps231
    go_wp2
    go_ret2
    exact ⟨rfl, Below.refl _ _⟩
theorem refNumber_any (z : Int) (w : World) (h0 : -9223372036854775808 ≤ z) (h1 : z ≤ 9223372036854775807) :
    Calls Tryz.prog 231 #[.int .i64 z] w fun e w' => e = .returned (.tuple #[.int .i64 (dnV z), .bool (dnB z)]) ∧ Below w.heap.size w w' := by
  by_cases h : z < 19700000
  · rw [(dn_less h).1, (dn_less h).2]
    exact (refNumber_none z w h0 h).mono fun e w' ⟨he, hw⟩ => ⟨he, by rw [hw]; exact Below.refl _ _⟩
  · obtain ⟨k, rfl⟩ : ∃ k : Nat, z = k := ⟨z.toNat, by omega⟩
    exact refNumber_nat k w (by omega) (by omega)
end Go.Proofs.YtchkpggdndnpjabGreatDoor
