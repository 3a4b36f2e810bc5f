import Derived.Test.YthadnogcocmfgaaGreatDoorStart
import Derived.Test.YthadnogcocmfgaaGreatDoorMsgText
import Derived.Deep.DeepCutAuto
import Derived.Test.YthadnogcocmfgaaGreatDoorRfB
import Derived.Laws.EntriesVeiled

namespace Go.Proofs.YthadnogcocmfgaaGreatDoor
set_option linter.unusedVariables false
open Go.RowKit Go.Lib

set_option maxRecDepth 100000 in
set_option maxHeartbeats 400000 in
theorem refLeap_any (z : Int) (y : Nat) (hz : z = y) (w : World) (hy : y ≤ 9999) :
    Calls Tryz.prog 144 #[.int .i64 z] w fun e w' => e = .returned (.bool (leapB y)) ∧ w' = w := by
  subst hz
  go_enter Tryz.func144, Tryz.ntmps144
  go_wp2
  all_goals go_ret
  all_goals refine ⟨congrArg Ending.returned (congrArg Value.bool ?_), rfl⟩
  · by_cases h : y % 400 = 0
    · rw [leapB_true (by omega)]; simp; omega
    · rw [leapB_false (by omega)]; simp; omega
  · rw [leapB_true (by omega)]
  · by_cases h : y % 400 = 0
    · rw [leapB_true (by omega)]; simp; omega
    · rw [leapB_false (by omega)]; simp; omega
theorem lit_cell (w : World) (k : Nat) (hk : k < 12) : (w.alloc (.cells #[.int .i64 31, .int .i64 28, .int .i64 31, .int .i64 30, .int .i64 31, .int .i64 30, .int .i64 31, .int .i64 31, .int .i64 30, .int .i64 31, .int .i64 30, .int .i64 31] 3)).cell? ⟨w.heap.size, k, none⟩ = some (.int .i64 (monTab.getD k 0)) := by
  rw [World.cell?_alloc_at _ _ _ _ (by simp)]
  have : k = 0 ∨ k = 1 ∨ k = 2 ∨ k = 3 ∨ k = 4 ∨ k = 5 ∨ k = 6 ∨ k = 7 ∨ k = 8 ∨ k = 9 ∨ k = 10 ∨ k = 11 := by omega
  rcases this with rfl | rfl | rfl | rfl | rfl | rfl | rfl | rfl | rfl | rfl | rfl | rfl <;> rfl
set_option maxRecDepth 100000 in
set_option maxHeartbeats 400000 in
theorem refLong_any (z x : Int) (y m : Nat) (hz : z = y) (hx : x = m) (w : World) (hy : y ≤ 9999) (h0 : 1 ≤ m) (h1 : m ≤ 12) :
    Calls Tryz.prog 140 #[.int .i64 z, .int .i64 x] w fun e w' => e = .returned (.int .i64 (mlen y m : Int)) ∧ Below w.heap.size w w' := by
  subst hz hx
  have hc := lit_cell w (m - 1) (by omega)
  have em := mon_mlen (y := y) h0 h1
  have hm1 : (1 : Int) ≤ (m : Int) := by omega
  have hm2 : (m : Int) ≤ 12 := by omega
  obtain ⟨k, rfl⟩ : ∃ k, m = k + 1 := ⟨m - 1, by omega⟩
  simp only [Nat.add_sub_cancel] at hc em
  have h28 : k = 1 → monTab.getD k 0 = 28 := fun e => by subst e; rfl
  have HB : Hid (Below w.heap.size w (w.alloc (.cells #[.int .i64 31, .int .i64 28, .int .i64 31, .int .i64 30, .int .i64 31, .int .i64 30, .int .i64 31, .int .i64 31, .int .i64 30, .int .i64 31, .int .i64 30, .int .i64 31] 3))) := (Below.refl _ w).alloc (Nat.le_refl _) _
  have hk12 : (k : Int) < 12 := by omega
  generalize monTab.getD k 0 = v at *
  by_cases h2 : k = 1
  · subst h2
    have hv := h28 rfl
    subst hv
    clear h28
    cases hl : leapB y
    · rw [hl] at em
      have hl' := refLeap_any (y : Int) y rfl (w.alloc (.cells #[.int .i64 31, .int .i64 28, .int .i64 31, .int .i64 30, .int .i64 31, .int .i64 30, .int .i64 31, .int .i64 31, .int .i64 30, .int .i64 31, .int .i64 30, .int .i64 31] 3)) hy
      rw [hl] at hl'
      simp at em
      clear hl
      have EM : Hid ((mlen y 2 : Int) = 28) := em
      clear em
      go_enter Tryz.func140, Tryz.ntmps140
      go_wp2_with (go_at_call 144; fail)
      refine hl'.mono ?_
      rintro e w1 ⟨rfl, hw1⟩
      have HB1 : Hid (Below w.heap.size w w1) := by rw [hw1]; exact HB.out
      clear hw1 hl'
      go_wp2
      go_ret
      exact ⟨ret_int EM.out.symm, HB1.out⟩
    · rw [hl] at em
      have hl' := refLeap_any (y : Int) y rfl (w.alloc (.cells #[.int .i64 31, .int .i64 28, .int .i64 31, .int .i64 30, .int .i64 31, .int .i64 30, .int .i64 31, .int .i64 31, .int .i64 30, .int .i64 31, .int .i64 30, .int .i64 31] 3)) hy
      rw [hl] at hl'
      simp at em
      clear hl
      have EM : Hid ((mlen y 2 : Int) = 29) := em
      clear em
      go_enter Tryz.func140, Tryz.ntmps140
      go_wp2_with (go_at_call 144; fail)
      refine hl'.mono ?_
      rintro e w1 ⟨rfl, hw1⟩
      have HB1 : Hid (Below w.heap.size w w1) := by rw [hw1]; exact HB.out
      clear hw1 hl'
      go_wp2
      go_ret
      exact ⟨ret_int EM.out.symm, HB1.out⟩
  · have h2' : ¬ (k : Int) + 1 = 2 := by omega
    rw [if_neg (by omega)] at em
    have EM : Hid ((mlen y (k + 1) : Int) = v) := em.trans (Int.add_zero v)
    have hl' := refLeap_any (y : Int) y rfl (w.alloc (.cells #[.int .i64 31, .int .i64 28, .int .i64 31, .int .i64 30, .int .i64 31, .int .i64 30, .int .i64 31, .int .i64 31, .int .i64 30, .int .i64 31, .int .i64 30, .int .i64 31] 3)) hy
    clear em h28
    go_enter Tryz.func140, Tryz.ntmps140
    go_wp2_with (go_at_call 144; fail)
    refine hl'.mono ?_
    rintro e w1 ⟨rfl, hw1⟩
    have HB1 : Hid (Below w.heap.size w w1) := by rw [hw1]; exact HB.out
    clear hw1 hl'
    go_wp2
    go_ret
    exact ⟨ret_int EM.out.symm, HB1.out⟩
set_option maxRecDepth 100000 in
set_option maxHeartbeats 400000 in
theorem refAhead_any (z : Int) (y : Nat) (hz : z = y) (w : World) (h0 : 1970 ≤ y) (hy : y ≤ 10000) :
    Calls Tryz.prog 141 #[.int .i64 z] w fun e w' => e = .returned (.int .i64 (ahead y : Int)) ∧ w' = w := by
  subst hz
  obtain ⟨x, rfl⟩ : ∃ x, y = x + 1 := ⟨y - 1, by omega⟩
  have hg := leaps_ge x (by omega)
  have e : Hid (ahead (x + 1) + x / 100 + 477 = (x - 1969) * 365 + x / 4 + x / 400) := by
    show _ = _
    unfold ahead
    rw [show x + 1 - 1970 = x - 1969 by omega, show x + 1 - 1 = x by omega]
    omega
  go_enter Tryz.func141, Tryz.ntmps141
  go_wp2
  go_ret
  exact ⟨ret_int (by have := e.out; omega), rfl⟩
set_option maxRecDepth 100000 in
set_option maxHeartbeats 400000 in
theorem refNumber_none (z : Int) (w : World) (hz0 : -9223372036854775808 ≤ z) (hz : z < 19700000) :
    Calls Tryz.prog 137 #[.int .i64 z] w fun e w' => e = .returned (.tuple #[.int .i64 0, .bool false]) ∧ w' = w := by
  have h1 : z.tdiv 10000 < 1970 := by
    rcases Int.lt_or_le z 0 with h | h
    · have h2 := Int.tdiv_nonneg (a := -z) (b := 10000) (by omega) (by decide)
      rw [Int.neg_tdiv] at h2
      omega
    · rw [Int.tdiv_eq_ediv_of_nonneg h]; omega
  go_enter Tryz.func137, Tryz.ntmps137
  go_wp2
  go_ret2
  exact ⟨rfl, rfl⟩
set_option maxRecDepth 100000 in
set_option maxHeartbeats 400000 in
theorem refNumber_nat (k : Nat) (w : World) (hk : k ≤ 9223372036854775807) (hk0 : 19700000 ≤ k) :
    Calls Tryz.prog 137 #[.int .i64 (k : Int)] w fun e w' => e = .returned (.tuple #[.int .i64 (dnV k), .bool (dnB k)]) ∧ Below w.heap.size w w' := by
  have eP := dn_yes (k := k)
  have eN := dn_no (k := k)
  have q1 : (k : Int) / 10000 = ((k / 10000 : Nat) : Int) := by omega
  have q2 : (k : Int) / 100 % 100 = ((k / 100 % 100 : Nat) : Int) := by omega
  have q3 : (k : Int) % 100 = ((k % 100 : Nat) : Int) := by omega
  have y0 : 1970 ≤ k / 10000 := by omega
  have b2 : k / 100 % 100 < 100 := by omega
  have b3 : k % 100 < 100 := by omega
  generalize k / 10000 = y at *
  generalize k / 100 % 100 = m at *
  generalize k % 100 = d at *
  have hy0 : (1970 : Int) ≤ y := by omega
  by_cases hy : y ≤ 9999
  · have hy1 : (y : Int) ≤ 9999 := by omega
    by_cases hm : 1 ≤ m ∧ m ≤ 12
    · have hm1 : (1 : Int) ≤ m := by omega
      have hm2 : (m : Int) ≤ 12 := by omega
      by_cases hd : 1 ≤ d ∧ d ≤ mlen y m
      · have hD : IsD y m d := ⟨y0, hy, hm.1, hm.2, hd.1, hd.2⟩
        obtain ⟨eV, eB⟩ := eP hD
        rw [eV, eB]
        clear eN eP eV eB
        have hlast := hD.last
        have hd1 : (1 : Int) ≤ d := by omega
        have hd2 : (d : Int) ≤ (mlen y m : Int) := by omega
        have hA : ahead y ≤ 2932897 := by have := hD.lo; omega
        go_enter Tryz.func137, Tryz.ntmps137
        go_wp2_with (go_at_call 140; fail)
        refine (refLong_any _ _ y m rfl rfl _ hy hm.1 hm.2).mono ?_
        rintro e w1 ⟨rfl, hb1⟩
        have HB1 : Hid (Below w.heap.size w w1) := hb1
        clear hb1
        go_wp2_with (go_at_call 141; fail)
        refine (refAhead_any _ y rfl _ y0 (by omega)).mono ?_
        rintro e w1 ⟨rfl, rfl⟩
        go_wp2
        go_loopw [7, 8] (fun a i wr => ∃ j : Nat, 1 ≤ j ∧ j ≤ m ∧ i = .int .i64 j ∧ a = .int .i64 ((ahead y : Int) + (msum y (j - 1) : Int)) ∧ Below w.heap.size w wr) (fun _ i _ => m - (RowKit.intOf i).toNat)
        case atStart => exact ⟨1, by omega, by omega, rfl, vint (by simp [msum]), HB1.out⟩
        case round =>
          obtain ⟨j, hj0, hj1, rfl, rfl, hbl⟩ := hrel
          have HB : Hid (Below w.heap.size w wr) := hbl
          clear hbl HB1
          have hs1 := msum_mono y (j := j - 1) (k := 12) (by omega)
          rw [msum_year] at hs1
          have hs2 := leapN_le y
          have hs3 := mlen_le y j
          by_cases hlt : j < m
          · have hlt' : (j : Int) < (m : Int) := by omega
            have hs4 : msum y (j - 1) + mlen y j = msum y (j + 1 - 1) := by
              obtain ⟨i, rfl⟩ : ∃ i, j = i + 1 := ⟨j - 1, by omega⟩
              simp [msum]
            go_wp2_with (go_at_call 140; fail)
            refine (refLong_any _ _ y j rfl rfl _ hy hj0 (by omega)).mono ?_
            rintro e w3 ⟨rfl, hb3⟩
            have HB3 : Hid (Below w.heap.size w w3) := HB.out.trans (hb3.mono HB.out.size)
            clear hb3
            go_wp2
            go_roundw
            case rel => exact ⟨j + 1, by omega, by omega, by go_num, vint (by omega), HB3.out⟩
            case measure => simp [RowKit.intOf]; omega
          · obtain rfl : j = m := by omega
            have e1 : Hid ((ahead y : Int) + (msum y (j - 1) : Int) + d - 1 = (dayNo y j d : Int)) := by show _ = _; unfold dayNo; omega
            go_wp2
            go_ret2
            exact ⟨ret2 (vint e1.out) rfl, HB.out⟩
      · obtain ⟨eV, eB⟩ := eN (fun h => hd ⟨h.d0, h.d1⟩)
        rw [eV, eB]
        clear eN eP eV eB
        rcases Nat.lt_or_ge d 1 with h1 | h1
        · have hm2 : (d : Int) < 1 := by omega
          go_enter Tryz.func137, Tryz.ntmps137
          go_wp2
          go_ret2
          exact ⟨rfl, Below.refl _ _⟩
        · have hd1 : (1 : Int) ≤ d := by omega
          have hd2 : (mlen y m : Int) < d := by omega
          go_enter Tryz.func137, Tryz.ntmps137
          go_wp2_with (go_at_call 140; fail)
          refine (refLong_any _ _ y m rfl rfl _ hy hm.1 hm.2).mono ?_
          rintro e w1 ⟨rfl, hb1⟩
          have HB1 : Hid (Below w.heap.size w w1) := hb1
          clear hb1
          go_wp2
          go_ret2
          exact ⟨rfl, HB1.out⟩
    · obtain ⟨eV, eB⟩ := eN (fun h => hm ⟨h.m0, h.m1⟩)
      rw [eV, eB]
      clear eN eP eV eB
      rcases Nat.lt_or_ge m 1 with hm1 | hm1
      · have hm2 : (m : Int) < 1 := by omega
        go_enter Tryz.func137, Tryz.ntmps137
        go_wp2
        go_ret2
        exact ⟨rfl, Below.refl _ _⟩
      · have hm2 : (1 : Int) ≤ m := by omega
        have hm3 : (12 : Int) < m := by omega
        go_enter Tryz.func137, Tryz.ntmps137
        go_wp2
        go_ret2
        exact ⟨rfl, Below.refl _ _⟩
  · obtain ⟨eV, eB⟩ := eN (fun h => hy h.y1)
    rw [eV, eB]
    clear eN eP eV eB
    have hy1 : (9999 : Int) < y := by omega
    go_enter Tryz.func137, Tryz.ntmps137
    go_wp2
    go_ret2
    exact ⟨rfl, Below.refl _ _⟩
theorem refNumber_any (z : Int) (w : World) (h0 : -9223372036854775808 ≤ z) (h1 : z ≤ 9223372036854775807) :
    Calls Tryz.prog 137 #[.int .i64 z] w fun e w' => e = .returned (.tuple #[.int .i64 (dnV z), .bool (dnB z)]) ∧ Below w.heap.size w w' := by
  by_cases h : z < 19700000
  · rw [(dn_less h).1, (dn_less h).2]
    exact (refNumber_none z w h0 h).mono fun e w' ⟨he, hw⟩ => ⟨he, by rw [hw]; exact Below.refl _ _⟩
  · obtain ⟨k, rfl⟩ : ∃ k : Nat, z = k := ⟨z.toNat, by omega⟩
    exact refNumber_nat k w (by omega) (by omega)
end Go.Proofs.YthadnogcocmfgaaGreatDoor

namespace Go.Proofs.YthadnogcocmfgaaGreatDoor
set_option linter.unusedVariables false
open Go.RowKit Go.Lib

set_option maxRecDepth 100000 in
set_option maxHeartbeats 400000 in
theorem refStart_any (z : Int) (w : World) (h0 : -9223372036854775808 ≤ z) (h1 : z ≤ 9223372036854775807) :
    Calls Tryz.prog 131 #[.int .i64 z] w fun e w' => e = .returned (.tuple #[.int .i64 (dnV z * 86400000), .int .i64 (dtE z)]) ∧ Below w.heap.size w w' := by
  have hc := refNumber_any z w h0 h1
  cases hd : dnB z
  · have e1 : dnV z * 86400000 = 0 := by rw [dn_zero hd]; rfl
    rw [hd, dn_zero hd] at hc
    have e2 : dtE z = 21 := by unfold dtE; rw [hd]; rfl
    rw [e1, e2]
    clear e1 e2 hd
    go_enter Tryz.func131, Tryz.ntmps131
    go_wp2_with (go_at_call 137; fail)
    refine hc.mono ?_
    rintro e w1 ⟨rfl, hb1⟩
    have HB1 : Hid (Below w.heap.size w w1) := hb1
    clear hb1
    go_wp2
    go_ret2
    exact ⟨rfl, HB1.out⟩
  · obtain ⟨n, _, hn, hl⟩ := dn_range hd
    have e1 : Hid (dnV z * 86400000 = (n : Int) * 86400000) := by show _ = _; rw [hn]
    rw [hd, hn] at hc
    have e2 : dtE z = 0 := by unfold dtE; rw [hd]; rfl
    rw [e2]
    clear e2 hd hn
    go_enter Tryz.func131, Tryz.ntmps131
    go_wp2_with (go_at_call 137; fail)
    refine hc.mono ?_
    rintro e w1 ⟨rfl, hb1⟩
    have HB1 : Hid (Below w.heap.size w w1) := hb1
    clear hb1
    go_wp2
    go_ret2
    exact ⟨ret2 (vint (by have := e1.out; omega)) rfl, HB1.out⟩
end Go.Proofs.YthadnogcocmfgaaGreatDoor

namespace Go.Proofs.YthadnogcocmfgaaGreatDoor
set_option linter.unusedVariables false
set_option linter.unusedSimpArgs false
open Go.RowKit

def othTo (oth : ByteArray) (c k : Nat) : Bool := (oth.data.toList.take k).any fun d => d.toNat == c
def othHas (oth : ByteArray) (c : Nat) : Bool := oth.data.toList.any fun d => d.toNat == c
theorem othTo_succ (s : ByteArray) (c k : Nat) (h : k < s.size) : othTo s c (k + 1) = (othTo s c k || s[k].toNat == c) := by
  unfold othTo; rw [take_snoc s k h]; simp
theorem othTo_all (s : ByteArray) (c : Nat) : othTo s c s.size = othHas s c := by
  unfold othTo othHas; rw [List.take_of_length_le (by simp)]
def refOk (oth : ByteArray) (c : Nat) : Bool := isNm c || othHas oth c
def refOf (s : ByteArray) (least most : Int) (oth : ByteArray) : Bool := allB (refOk oth) s && (decide (least ≤ (s.size : Int)) && decide ((s.size : Int) ≤ most))
set_option maxRecDepth 100000 in
set_option maxHeartbeats 2000000 in
theorem ofT_any (s oth : ByteArray) (least most : Int) (w : World) (hs : s.size ≤ 9223372036854775807) (ho : oth.size ≤ 100) :
    Calls Tryz.prog 136 #[.string s, .int .i64 least, .int .i64 most, .string oth] w fun e w' => e = .returned (.bool (refOf s least most oth)) ∧ w' = w := by
  go_enter Tryz.func136, Tryz.ntmps136
  go_wp2
  go_loopw [9, 10, 11, 12] (fun i x10 x11 x12 wr => ∃ k : Nat, k ≤ s.size ∧ i = .int .i64 k ∧ Hid (allTo (refOk oth) s k = true) ∧ wr = w) (fun i _ _ _ _ => s.size - (intOf i).toNat)
  case atStart => exact ⟨0, by omega, rfl, by show allTo _ _ _ = _; simp [allTo], rfl⟩
  case round =>
    obtain ⟨k, hk, rfl, ha, rfl⟩ := hrel
    by_cases hlt : k < s.size
    · have hlt' : (k : Int) < (s.size : Int) := by omega
      have HF : Hid (refOk oth s[k].toNat = false → allB (refOk oth) s = false) := fun hp => allB_false hlt hp
      have HT : Hid (refOk oth s[k].toNat = true → allTo (refOk oth) s (k + 1) = true) := fun hp => by rw [allTo_succ _ _ _ hlt, hp, ha.out]; rfl
      clear ha
      go_upto_region 5 with fail
      have hc0 : (0 : Int) ≤ (s[k].toNat : Int) := by omega
      generalize s[k].toNat = c at *
      go_cut [11] from 13 to 51 (fun b wx => b = .bool (isNm c) ∧ wx = wr)
      case first =>
        clear HF HT
        by_cases h1 : 65 ≤ c
        · have h1' : (65 : Int) ≤ (c : Int) := by omega
          by_cases h2 : c ≤ 90
          · have h2' : (c : Int) ≤ 90 := by omega
            have EN : Hid (isNm c = true) := by show isNm c = true; simp [isNm, isCap, h1, h2]
            go_wp2_with fail
            go_meet
            exact ⟨by rw [EN.out]; try simp, rfl⟩
          · have h2' : ¬ (c : Int) ≤ 90 := by omega
            have h3' : (48 : Int) ≤ (c : Int) := by omega
            have h4' : ¬ (c : Int) ≤ 57 := by omega
            have EN : Hid (isNm c = false) := by show isNm c = false; simp [isNm, isCap]; omega
            go_wp2_with fail
            go_meet
            exact ⟨by rw [EN.out]; try simp, rfl⟩
        · have h1' : ¬ (65 : Int) ≤ (c : Int) := by omega
          by_cases h3 : 48 ≤ c
          · have h3' : (48 : Int) ≤ (c : Int) := by omega
            by_cases h4 : c ≤ 57
            · have h4' : (c : Int) ≤ 57 := by omega
              have EN : Hid (isNm c = true) := by show isNm c = true; simp [isNm, h3, h4]
              go_wp2_with fail
              go_meet
              exact ⟨by rw [EN.out]; try simp, rfl⟩
            · have h4' : ¬ (c : Int) ≤ 57 := by omega
              have EN : Hid (isNm c = false) := by show isNm c = false; simp [isNm, isCap]; omega
              go_wp2_with fail
              go_meet
              exact ⟨by rw [EN.out]; try simp, rfl⟩
          · have h3' : ¬ (48 : Int) ≤ (c : Int) := by omega
            have EN : Hid (isNm c = false) := by show isNm c = false; simp [isNm, isCap]; omega
            go_wp2_with fail
            go_meet
            exact ⟨by rw [EN.out]; try simp, rfl⟩
      case rest =>
        obtain ⟨rfl, rfl⟩ := hcut
        have HE : Hid (refOk oth c = (isNm c || othTo oth c oth.size)) := by show refOk oth c = _; rw [othTo_all]; rfl
        go_wp2
        go_loopw [11, 12] (fun b i wr => ∃ j : Nat, j ≤ oth.size ∧ i = .int .i64 j ∧ b = .bool (isNm c || othTo oth c j) ∧ wr = wc) (fun _ i _ => oth.size - (intOf i).toNat)
        case atStart => exact ⟨0, by omega, rfl, by simp [othTo], rfl⟩
        case round =>
          obtain ⟨j, hj, rfl, rfl, rfl⟩ := hrel
          by_cases hlj : j < oth.size
          · have hlj' : (j : Int) < (oth.size : Int) := by omega
            have e1 := othTo_succ oth c j hlj
            cases hb : (isNm c || othTo oth c j)
            · have e2 : (isNm c || othTo oth c (j + 1)) = ((oth[j].toNat : Int) == (c : Int)) := by
                rw [e1, ← Bool.or_assoc, hb, Bool.false_or]
                generalize oth[j].toNat = d
                rw [Bool.eq_iff_iff]
                simp only [beq_iff_eq]
                omega
              have E2 : Hid ((isNm c || othTo oth c (j + 1)) = ((oth[j].toNat : Int) == (c : Int))) := e2
              clear e1 e2 hb
              go_wp2
              go_roundw
              case rel => exact ⟨j + 1, by omega, by go_num, congrArg Value.bool E2.out.symm, by first | rfl | trivial⟩
              case measure => simp [intOf]; omega
            · have E2 : Hid ((isNm c || othTo oth c (j + 1)) = true) := by show (_ || _) = true; rw [e1, ← Bool.or_assoc, hb, Bool.true_or]
              clear e1 hb
              go_wp2
              go_roundw
              case rel => exact ⟨j + 1, by omega, by go_num, congrArg Value.bool E2.out.symm, by first | rfl | trivial⟩
              case measure => simp [intOf]; omega
          · obtain rfl : j = oth.size := by omega
            cases hb : (isNm c || othTo oth c oth.size)
            · have HF2 : Hid (allB (refOk oth) s = false) := HF.out (HE.out.trans hb)
              clear HF HT HE hb
              go_wp2
              go_ret
              exact ⟨ret_bool (by simp [refOf, HF2.out]), rfl⟩
            · have HT2 : Hid (allTo (refOk oth) s (k + 1) = true) := HT.out (HE.out.trans hb)
              clear HF HT HE hb
              go_wp2
              go_roundw
              case rel => exact ⟨k + 1, by omega, by go_num, HT2, by first | rfl | trivial⟩
              case measure => simp [intOf]; omega
    · obtain rfl : k = s.size := by omega
      have HA : Hid (allB (refOk oth) s = true) := by show allB _ _ = _; rw [← allTo_all]; exact ha.out
      clear ha
      by_cases h1 : least ≤ (s.size : Int)
      · go_wp2
        go_ret
        exact ⟨ret_bool (by simp [refOf, HA.out, h1]), by first | rfl | trivial⟩
      · go_wp2
        go_ret
        exact ⟨ret_bool (by simp [refOf, HA.out]; intro h; omega), by first | rfl | trivial⟩

theorem allB_congr {p q : Nat → Bool} (h : ∀ c, c < 256 → p c = q c) (s : ByteArray) : allB p s = allB q s := by
  unfold allB
  have : (fun c : UInt8 => p c.toNat) = fun c : UInt8 => q c.toNat := by
    funext c; exact h _ (UInt8.toNat_lt c)
  rw [this]
def idOth : ByteArray := ⟨#[97, 98, 99, 100, 101, 102, 103, 104, 105, 106, 107, 108, 109, 110, 111, 112, 113, 114, 115, 116, 117, 118, 119, 120, 121, 122, 46, 95, 45]⟩
set_option maxRecDepth 100000 in
theorem refOk_id : ∀ c, c < 256 → refOk idOth c = isIdb c := by decide
theorem refOk_nm (c : Nat) : refOk ⟨#[]⟩ c = isNm c := by unfold refOk othHas; simp
theorem refNm (s : ByteArray) : refOf s 1 12 ⟨#[]⟩ = nmS s := by
  unfold refOf nmS
  rw [allB_congr (fun c _ => refOk_nm c), Bool.and_comm]
  rw [show decide ((1 : Int) ≤ (s.size : Int)) = decide (1 ≤ s.size) by rw [Bool.eq_iff_iff]; simp; omega, show decide ((s.size : Int) ≤ 12) = decide (s.size ≤ 12) by rw [Bool.eq_iff_iff]; simp; omega]
theorem refId (s : ByteArray) : refOf s 1 20 idOth = idS s := by
  unfold refOf idS
  rw [allB_congr refOk_id, Bool.and_comm]
  rw [show decide ((1 : Int) ≤ (s.size : Int)) = decide (1 ≤ s.size) by rw [Bool.eq_iff_iff]; simp; omega, show decide ((s.size : Int) ≤ 20) = decide (s.size ≤ 20) by rw [Bool.eq_iff_iff]; simp; omega]
theorem all0 {p : Nat → Bool} {s : ByteArray} (h : allB p s = true) (h1 : 1 ≤ s.size) : p (byte0 s) = true := by
  rw [byte0_eq s h1]
  unfold allB at h
  rw [List.all_eq_true] at h
  exact h s[0] (by simp [ByteArray.getElem_eq_getElem_data])
theorem refSy (s : ByteArray) : (refOf s 1 8 ⟨#[]⟩ && decide (65 ≤ byte0 s)) = syS s := by
  unfold refOf syS
  rw [allB_congr (fun c _ => refOk_nm c)]
  rw [show decide ((1 : Int) ≤ (s.size : Int)) = decide (1 ≤ s.size) by rw [Bool.eq_iff_iff]; simp; omega, show decide ((s.size : Int) ≤ 8) = decide (s.size ≤ 8) by rw [Bool.eq_iff_iff]; simp; omega]
  by_cases h1 : 1 ≤ s.size
  · cases ha : allB isNm s
    · simp
    · have := all0 ha h1
      have e : decide (65 ≤ byte0 s) = isCap (byte0 s) := by
        rw [Bool.eq_iff_iff]
        unfold isNm at this
        simp [isCap] at this ⊢
        omega
      rw [e]
      simp
  · simp [h1]
set_option maxRecDepth 100000 in
set_option maxHeartbeats 400000 in
theorem refIsName (s : ByteArray) (w : World) (hs : s.size ≤ 9223372036854775807) :
    Calls Tryz.prog 127 #[.string s] w fun e w' => e = .returned (.bool (nmS s)) ∧ w' = w := by
  have hc := ofT_any s ⟨#[]⟩ 1 12 w hs (by decide)
  rw [refNm] at hc
  go_enter Tryz.func127, Tryz.ntmps127
  go_wp2_with (go_at_call 136; refine hc.mono ?_; rintro e w ⟨rfl, rfl⟩)
  go_ret
  exact ⟨rfl, rfl⟩
set_option maxRecDepth 100000 in
set_option maxHeartbeats 400000 in
theorem refIsID (s : ByteArray) (w : World) (hs : s.size ≤ 9223372036854775807) :
    Calls Tryz.prog 128 #[.string s] w fun e w' => e = .returned (.bool (idS s)) ∧ w' = w := by
  have hc := ofT_any s idOth 1 20 w hs (by decide)
  rw [refId] at hc
  go_enter Tryz.func128, Tryz.ntmps128
  go_wp2_with (go_at_call 136; refine hc.mono ?_; rintro e w ⟨rfl, rfl⟩)
  go_ret
  exact ⟨rfl, rfl⟩
set_option maxRecDepth 100000 in
set_option maxHeartbeats 400000 in
theorem refIsSymbol (s : ByteArray) (w : World) (hs : s.size ≤ 9223372036854775807) :
    Calls Tryz.prog 129 #[.string s] w fun e w' => e = .returned (.bool (syS s)) ∧ w' = w := by
  have hc := ofT_any s ⟨#[]⟩ 1 8 w hs (by decide)
  rw [← refSy]
  cases hp : refOf s 1 8 ⟨#[]⟩
  · rw [hp] at hc
    clear hp
    go_enter Tryz.func129, Tryz.ntmps129
    go_wp2_with (go_at_call 136; refine hc.mono ?_; rintro e w ⟨rfl, rfl⟩)
    go_ret
    exact ⟨rfl, rfl⟩
  · rw [hp] at hc
    have h0 : 0 < s.size := by
      unfold refOf at hp
      simp at hp
      omega
    have h0' : (0 : Int) < (s.size : Int) := by omega
    have E : Hid ((true && decide (65 ≤ byte0 s)) = decide ((65 : Int) ≤ (s[0].toNat : Int))) := by
      show (true && decide (65 ≤ byte0 s)) = decide ((65 : Int) ≤ (s[0].toNat : Int))
      rw [byte0_eq s h0, Bool.eq_iff_iff]
      simp
      omega
    clear hp
    go_enter Tryz.func129, Tryz.ntmps129
    go_wp2_with (go_at_call 136; refine hc.mono ?_; rintro e w ⟨rfl, rfl⟩)
    go_ret
    exact ⟨by rw [E.out]; try simp, rfl⟩
set_option maxRecDepth 100000 in
set_option maxHeartbeats 400000 in
theorem refIsText (s : ByteArray) (w : World) (hs : s.size ≤ 9223372036854775807) :
    Calls Tryz.prog 130 #[.string s] w fun e w' => e = .returned (.bool (txS s)) ∧ w' = w := by
  go_enter Tryz.func130, Tryz.ntmps130
  go_wp2
  go_loopw [3] (fun i wr => ∃ k : Nat, k ≤ s.size ∧ i = .int .i64 k ∧ Hid (allTo isTxt s k = true) ∧ wr = w) (fun i _ => s.size - (intOf i).toNat)
  case atStart => exact ⟨0, by omega, rfl, by show allTo _ _ _ = _; simp [allTo], rfl⟩
  case round =>
    obtain ⟨k, hk, rfl, ha, rfl⟩ := hrel
    by_cases hlt : k < s.size
    · have hlt' : (k : Int) < (s.size : Int) := by omega
      have HF : Hid (isTxt s[k].toNat = false → txS s = false) := fun hp => by
        have := allB_false hlt hp
        simp [txS, this]
      have HT : Hid (isTxt s[k].toNat = true → allTo isTxt s (k + 1) = true) := fun hp => by rw [allTo_succ _ _ _ hlt, hp, ha.out]; rfl
      clear ha
      by_cases h1 : s[k].toNat < 32
      · have h1' : (s[k].toNat : Int) < 32 := by omega
        have HR : Hid (txS s = false) := HF.out (by simp [isTxt]; omega)
        clear HF HT
        go_wp2
        go_ret
        exact ⟨ret_bool HR.out.symm, by first | rfl | trivial⟩
      · have h1' : ¬ (s[k].toNat : Int) < 32 := by omega
        by_cases h2 : 126 < s[k].toNat
        · have h2' : (126 : Int) < (s[k].toNat : Int) := by omega
          have HR : Hid (txS s = false) := HF.out (by simp [isTxt]; omega)
          clear HF HT
          go_wp2
          go_ret
          exact ⟨ret_bool HR.out.symm, by first | rfl | trivial⟩
        · have h2' : ¬ (126 : Int) < (s[k].toNat : Int) := by omega
          by_cases h3 : s[k].toNat = 124
          · have h3' : (s[k].toNat : Int) = 124 := by omega
            have h3b : ((s[k].toNat : Int) == 124) = true := by simp [h3]
            have HR : Hid (txS s = false) := HF.out (by rw [h3]; decide)
            clear HF HT
            go_wp2
            go_ret
            exact ⟨ret_bool HR.out.symm, by first | rfl | trivial⟩
          · have h3' : ¬ (s[k].toNat : Int) = 124 := by omega
            have h3b : ((s[k].toNat : Int) == 124) = false := by simp; omega
            have HR : Hid (allTo isTxt s (k + 1) = true) := HT.out (by simp [isTxt, h3]; omega)
            clear HF HT
            go_wp2
            go_roundw
            case rel => exact ⟨k + 1, by omega, by go_num, HR, by first | rfl | trivial⟩
            case measure => simp [intOf]; omega
    · obtain rfl : k = s.size := by omega
      have HA : Hid (txS s = decide ((s.size : Int) ≤ 60)) := by
        have h := ha.out
        rw [allTo_all] at h
        show txS s = _
        unfold txS
        rw [h, Bool.and_true, Bool.eq_iff_iff]
        simp
        omega
      clear ha
      go_wp2
      go_ret
      exact ⟨ret_bool HA.out.symm, by first | rfl | trivial⟩

end Go.Proofs.YthadnogcocmfgaaGreatDoor

namespace Go.Proofs.YthadnogcocmfgaaGreatDoor
set_option linter.unusedVariables false
set_option linter.unusedSimpArgs false
open Go.RowKit Go.Great

def trN (b : Bool) : Int := if b then 1 else 0
set_option maxRecDepth 100000 in
set_option maxHeartbeats 400000 in
theorem truth_any (b : Bool) (w : World) : Calls Tryz.prog 124 #[.bool b] w fun e w' => e = .returned (.int .i64 (trN b)) ∧ w' = w := by
  cases b
  · go_enter Tryz.func124, Tryz.ntmps124
    go_wp2
    go_ret
    exact ⟨rfl, rfl⟩
  · go_enter Tryz.func124, Tryz.ntmps124
    go_wp2
    go_ret
    exact ⟨rfl, rfl⟩
theorem box_own (M : Msg) (w : World) : Hid (OwnM (w.alloc (.cells M.cs 23)) w.heap.size M ∧ Below w.heap.size w (w.alloc (.cells M.cs 23))) := ⟨heap_alloc_new w _, (Below.refl _ w).alloc (Nat.le_refl _) _⟩

end Go.Proofs.YthadnogcocmfgaaGreatDoor

namespace Go.Proofs.YthadnogcocmfgaaGreatDoor
set_option linter.unusedVariables false
set_option linter.unusedSimpArgs false
open Go.RowKit Go.Great

set_option maxRecDepth 100000 in
set_option maxHeartbeats 1000000 in
theorem val0 (M : Msg) (w : World) : Calls Tryz.prog 105 #[.agg M.cs, .int .i64 35] w fun e w' => e = .returned (.tuple #[.int .i64 (M.z 0), .string ⟨#[]⟩]) ∧ Below w.heap.size w w' := by
  have HO := box_own M w
  go_enter Tryz.func105, Tryz.ntmps105
  go_upto_region 1 with fail
  generalize w.alloc (.cells M.cs 23) = w1 at *
  have c : w1.cell? ⟨w.heap.size, 0, none⟩ = some (.int .i64 (M.z 0)) := HO.out.1.cell 0 (by decide)
  generalize M.cs = CS at *
  go_wp2
  go_ret2
  exact ⟨rfl, HO.out.2⟩
set_option maxRecDepth 100000 in
set_option maxHeartbeats 1000000 in
theorem val1 (M : Msg) (w : World) : Calls Tryz.prog 105 #[.agg M.cs, .int .i64 49] w fun e w' => e = .returned (.tuple #[.int .i64 0, .string (M.s 1)]) ∧ Below w.heap.size w w' := by
  have HO := box_own M w
  go_enter Tryz.func105, Tryz.ntmps105
  go_upto_region 1 with fail
  generalize w.alloc (.cells M.cs 23) = w1 at *
  have c : w1.cell? ⟨w.heap.size, 1, none⟩ = some (.string (M.s 1)) := HO.out.1.cell 1 (by decide)
  generalize M.cs = CS at *
  go_wp2
  go_quiet (fail)
  go_wp2
  go_ret2
  exact ⟨rfl, below_drewN HO.out.2 _⟩
set_option maxRecDepth 100000 in
set_option maxHeartbeats 1000000 in
theorem val2 (M : Msg) (w : World) : Calls Tryz.prog 105 #[.agg M.cs, .int .i64 56] w fun e w' => e = .returned (.tuple #[.int .i64 0, .string (M.s 2)]) ∧ Below w.heap.size w w' := by
  have HO := box_own M w
  go_enter Tryz.func105, Tryz.ntmps105
  go_upto_region 1 with fail
  generalize w.alloc (.cells M.cs 23) = w1 at *
  have c : w1.cell? ⟨w.heap.size, 2, none⟩ = some (.string (M.s 2)) := HO.out.1.cell 2 (by decide)
  generalize M.cs = CS at *
  go_wp2
  go_quiet (fail)
  go_wp2
  go_ret2
  exact ⟨rfl, below_drewN HO.out.2 _⟩
set_option maxRecDepth 100000 in
set_option maxHeartbeats 1000000 in
theorem val3 (M : Msg) (w : World) : Calls Tryz.prog 105 #[.agg M.cs, .int .i64 34] w fun e w' => e = .returned (.tuple #[.int .i64 (M.z 3), .string ⟨#[]⟩]) ∧ Below w.heap.size w w' := by
  have HO := box_own M w
  go_enter Tryz.func105, Tryz.ntmps105
  go_upto_region 1 with fail
  generalize w.alloc (.cells M.cs 23) = w1 at *
  have c : w1.cell? ⟨w.heap.size, 3, none⟩ = some (.int .i64 (M.z 3)) := HO.out.1.cell 3 (by decide)
  generalize M.cs = CS at *
  go_wp2
  go_ret2
  exact ⟨rfl, HO.out.2⟩
set_option maxRecDepth 100000 in
set_option maxHeartbeats 1000000 in
theorem val4 (M : Msg) (w : World) : Calls Tryz.prog 105 #[.agg M.cs, .int .i64 43] w fun e w' => e = .returned (.tuple #[.int .i64 (trN (M.b 4)), .string ⟨#[]⟩]) ∧ Below w.heap.size w w' := by
  have HO := box_own M w
  go_enter Tryz.func105, Tryz.ntmps105
  go_upto_region 1 with fail
  generalize w.alloc (.cells M.cs 23) = w1 at *
  have c : w1.cell? ⟨w.heap.size, 4, none⟩ = some (.bool (M.b 4)) := HO.out.1.cell 4 (by decide)
  generalize M.cs = CS at *
  go_wp2_with (go_at_call 124; refine (truth_any _ _).mono ?_; rintro e w1 ⟨rfl, rfl⟩)
  go_ret2
  exact ⟨rfl, HO.out.2⟩
set_option maxRecDepth 100000 in
set_option maxHeartbeats 1000000 in
theorem val5 (M : Msg) (w : World) : Calls Tryz.prog 105 #[.agg M.cs, .int .i64 52] w fun e w' => e = .returned (.tuple #[.int .i64 (M.z 5), .string ⟨#[]⟩]) ∧ Below w.heap.size w w' := by
  have HO := box_own M w
  go_enter Tryz.func105, Tryz.ntmps105
  go_upto_region 1 with fail
  generalize w.alloc (.cells M.cs 23) = w1 at *
  have c : w1.cell? ⟨w.heap.size, 5, none⟩ = some (.int .i64 (M.z 5)) := HO.out.1.cell 5 (by decide)
  generalize M.cs = CS at *
  go_wp2
  go_ret2
  exact ⟨rfl, HO.out.2⟩
set_option maxRecDepth 100000 in
set_option maxHeartbeats 1000000 in
theorem val6 (M : Msg) (w : World) : Calls Tryz.prog 105 #[.agg M.cs, .int .i64 122] w fun e w' => e = .returned (.tuple #[.int .i64 (M.z 6), .string ⟨#[]⟩]) ∧ Below w.heap.size w w' := by
  have HO := box_own M w
  go_enter Tryz.func105, Tryz.ntmps105
  go_upto_region 1 with fail
  generalize w.alloc (.cells M.cs 23) = w1 at *
  have c : w1.cell? ⟨w.heap.size, 6, none⟩ = some (.int .i64 (M.z 6)) := HO.out.1.cell 6 (by decide)
  generalize M.cs = CS at *
  go_wp2
  go_ret2
  exact ⟨rfl, HO.out.2⟩
set_option maxRecDepth 100000 in
set_option maxHeartbeats 1000000 in
theorem val7 (M : Msg) (w : World) : Calls Tryz.prog 105 #[.agg M.cs, .int .i64 108] w fun e w' => e = .returned (.tuple #[.int .i64 (M.z 7), .string ⟨#[]⟩]) ∧ Below w.heap.size w w' := by
  have HO := box_own M w
  go_enter Tryz.func105, Tryz.ntmps105
  go_upto_region 1 with fail
  generalize w.alloc (.cells M.cs 23) = w1 at *
  have c : w1.cell? ⟨w.heap.size, 7, none⟩ = some (.int .i64 (M.z 7)) := HO.out.1.cell 7 (by decide)
  generalize M.cs = CS at *
  go_wp2
  go_ret2
  exact ⟨rfl, HO.out.2⟩
set_option maxRecDepth 100000 in
set_option maxHeartbeats 1000000 in
theorem val8 (M : Msg) (w : World) : Calls Tryz.prog 105 #[.agg M.cs, .int .i64 141] w fun e w' => e = .returned (.tuple #[.int .i64 (trN (M.b 8)), .string ⟨#[]⟩]) ∧ Below w.heap.size w w' := by
  have HO := box_own M w
  go_enter Tryz.func105, Tryz.ntmps105
  go_upto_region 1 with fail
  generalize w.alloc (.cells M.cs 23) = w1 at *
  have c : w1.cell? ⟨w.heap.size, 8, none⟩ = some (.bool (M.b 8)) := HO.out.1.cell 8 (by decide)
  generalize M.cs = CS at *
  go_wp2_with (go_at_call 124; refine (truth_any _ _).mono ?_; rintro e w1 ⟨rfl, rfl⟩)
  go_ret2
  exact ⟨rfl, HO.out.2⟩
set_option maxRecDepth 100000 in
set_option maxHeartbeats 1000000 in
theorem val9 (M : Msg) (w : World) : Calls Tryz.prog 105 #[.agg M.cs, .int .i64 112] w fun e w' => e = .returned (.tuple #[.int .i64 0, .string (M.s 9)]) ∧ Below w.heap.size w w' := by
  have HO := box_own M w
  go_enter Tryz.func105, Tryz.ntmps105
  go_upto_region 1 with fail
  generalize w.alloc (.cells M.cs 23) = w1 at *
  have c : w1.cell? ⟨w.heap.size, 9, none⟩ = some (.string (M.s 9)) := HO.out.1.cell 9 (by decide)
  generalize M.cs = CS at *
  go_wp2
  go_quiet (fail)
  go_wp2
  go_ret2
  exact ⟨rfl, below_drewN HO.out.2 _⟩
set_option maxRecDepth 100000 in
set_option maxHeartbeats 1000000 in
theorem val10 (M : Msg) (w : World) : Calls Tryz.prog 105 #[.agg M.cs, .int .i64 7] w fun e w' => e = .returned (.tuple #[.int .i64 (M.z 10), .string ⟨#[]⟩]) ∧ Below w.heap.size w w' := by
  have HO := box_own M w
  go_enter Tryz.func105, Tryz.ntmps105
  go_upto_region 1 with fail
  generalize w.alloc (.cells M.cs 23) = w1 at *
  have c : w1.cell? ⟨w.heap.size, 10, none⟩ = some (.int .i64 (M.z 10)) := HO.out.1.cell 10 (by decide)
  generalize M.cs = CS at *
  go_wp2
  go_ret2
  exact ⟨rfl, HO.out.2⟩
set_option maxRecDepth 100000 in
set_option maxHeartbeats 1000000 in
theorem val11 (M : Msg) (w : World) : Calls Tryz.prog 105 #[.agg M.cs, .int .i64 16] w fun e w' => e = .returned (.tuple #[.int .i64 (M.z 11), .string ⟨#[]⟩]) ∧ Below w.heap.size w w' := by
  have HO := box_own M w
  go_enter Tryz.func105, Tryz.ntmps105
  go_upto_region 1 with fail
  generalize w.alloc (.cells M.cs 23) = w1 at *
  have c : w1.cell? ⟨w.heap.size, 11, none⟩ = some (.int .i64 (M.z 11)) := HO.out.1.cell 11 (by decide)
  generalize M.cs = CS at *
  go_wp2
  go_ret2
  exact ⟨rfl, HO.out.2⟩

end Go.Proofs.YthadnogcocmfgaaGreatDoor

namespace Go.Proofs.YthadnogcocmfgaaGreatDoor
set_option linter.unusedVariables false
set_option linter.unusedSimpArgs false
open Go.RowKit Go.Great

set_option maxRecDepth 100000 in
set_option maxHeartbeats 1000000 in
theorem val12 (M : Msg) (w : World) : Calls Tryz.prog 105 #[.agg M.cs, .int .i64 36] w fun e w' => e = .returned (.tuple #[.int .i64 (M.z 12), .string ⟨#[]⟩]) ∧ Below w.heap.size w w' := by
  have HO := box_own M w
  go_enter Tryz.func105, Tryz.ntmps105
  go_upto_region 1 with fail
  generalize w.alloc (.cells M.cs 23) = w1 at *
  have c : w1.cell? ⟨w.heap.size, 12, none⟩ = some (.int .i64 (M.z 12)) := HO.out.1.cell 12 (by decide)
  generalize M.cs = CS at *
  go_wp2
  go_ret2
  exact ⟨rfl, HO.out.2⟩
set_option maxRecDepth 100000 in
set_option maxHeartbeats 1000000 in
theorem val13 (M : Msg) (w : World) : Calls Tryz.prog 105 #[.agg M.cs, .int .i64 123] w fun e w' => e = .returned (.tuple #[.int .i64 (trN (M.b 13)), .string ⟨#[]⟩]) ∧ Below w.heap.size w w' := by
  have HO := box_own M w
  go_enter Tryz.func105, Tryz.ntmps105
  go_upto_region 1 with fail
  generalize w.alloc (.cells M.cs 23) = w1 at *
  have c : w1.cell? ⟨w.heap.size, 13, none⟩ = some (.bool (M.b 13)) := HO.out.1.cell 13 (by decide)
  generalize M.cs = CS at *
  go_wp2_with (go_at_call 124; refine (truth_any _ _).mono ?_; rintro e w1 ⟨rfl, rfl⟩)
  go_ret2
  exact ⟨rfl, HO.out.2⟩
set_option maxRecDepth 100000 in
set_option maxHeartbeats 1000000 in
theorem val14 (M : Msg) (w : World) : Calls Tryz.prog 105 #[.agg M.cs, .int .i64 45] w fun e w' => e = .returned (.tuple #[.int .i64 (M.z 14), .string ⟨#[]⟩]) ∧ Below w.heap.size w w' := by
  have HO := box_own M w
  go_enter Tryz.func105, Tryz.ntmps105
  go_upto_region 1 with fail
  generalize w.alloc (.cells M.cs 23) = w1 at *
  have c : w1.cell? ⟨w.heap.size, 14, none⟩ = some (.int .i64 (M.z 14)) := HO.out.1.cell 14 (by decide)
  generalize M.cs = CS at *
  go_wp2
  go_ret2
  exact ⟨rfl, HO.out.2⟩
set_option maxRecDepth 100000 in
set_option maxHeartbeats 1000000 in
theorem val15 (M : Msg) (w : World) : Calls Tryz.prog 105 #[.agg M.cs, .int .i64 372] w fun e w' => e = .returned (.tuple #[.int .i64 (M.z 15), .string ⟨#[]⟩]) ∧ Below w.heap.size w w' := by
  have HO := box_own M w
  go_enter Tryz.func105, Tryz.ntmps105
  go_upto_region 1 with fail
  generalize w.alloc (.cells M.cs 23) = w1 at *
  have c : w1.cell? ⟨w.heap.size, 15, none⟩ = some (.int .i64 (M.z 15)) := HO.out.1.cell 15 (by decide)
  generalize M.cs = CS at *
  go_wp2
  go_ret2
  exact ⟨rfl, HO.out.2⟩
set_option maxRecDepth 100000 in
set_option maxHeartbeats 1000000 in
theorem val16 (M : Msg) (w : World) : Calls Tryz.prog 105 #[.agg M.cs, .int .i64 371] w fun e w' => e = .returned (.tuple #[.int .i64 (M.z 16), .string ⟨#[]⟩]) ∧ Below w.heap.size w w' := by
  have HO := box_own M w
  go_enter Tryz.func105, Tryz.ntmps105
  go_upto_region 1 with fail
  generalize w.alloc (.cells M.cs 23) = w1 at *
  have c : w1.cell? ⟨w.heap.size, 16, none⟩ = some (.int .i64 (M.z 16)) := HO.out.1.cell 16 (by decide)
  generalize M.cs = CS at *
  go_wp2
  go_ret2
  exact ⟨rfl, HO.out.2⟩
set_option maxRecDepth 100000 in
set_option maxHeartbeats 1000000 in
theorem val17 (M : Msg) (w : World) : Calls Tryz.prog 105 #[.agg M.cs, .int .i64 373] w fun e w' => e = .returned (.tuple #[.int .i64 (M.z 17), .string ⟨#[]⟩]) ∧ Below w.heap.size w w' := by
  have HO := box_own M w
  go_enter Tryz.func105, Tryz.ntmps105
  go_upto_region 1 with fail
  generalize w.alloc (.cells M.cs 23) = w1 at *
  have c : w1.cell? ⟨w.heap.size, 17, none⟩ = some (.int .i64 (M.z 17)) := HO.out.1.cell 17 (by decide)
  generalize M.cs = CS at *
  go_wp2
  go_ret2
  exact ⟨rfl, HO.out.2⟩
set_option maxRecDepth 100000 in
set_option maxHeartbeats 1000000 in
theorem val18 (M : Msg) (w : World) : Calls Tryz.prog 105 #[.agg M.cs, .int .i64 58] w fun e w' => e = .returned (.tuple #[.int .i64 0, .string (M.s 18)]) ∧ Below w.heap.size w w' := by
  have HO := box_own M w
  go_enter Tryz.func105, Tryz.ntmps105
  go_upto_region 1 with fail
  generalize w.alloc (.cells M.cs 23) = w1 at *
  have c : w1.cell? ⟨w.heap.size, 18, none⟩ = some (.string (M.s 18)) := HO.out.1.cell 18 (by decide)
  generalize M.cs = CS at *
  go_wp2
  go_quiet (fail)
  go_wp2
  go_ret2
  exact ⟨rfl, below_drewN HO.out.2 _⟩
set_option maxRecDepth 100000 in
set_option maxHeartbeats 1000000 in
theorem val19 (M : Msg) (w : World) : Calls Tryz.prog 105 #[.agg M.cs, .int .i64 11] w fun e w' => e = .returned (.tuple #[.int .i64 0, .string (M.s 19)]) ∧ Below w.heap.size w w' := by
  have HO := box_own M w
  go_enter Tryz.func105, Tryz.ntmps105
  go_upto_region 1 with fail
  generalize w.alloc (.cells M.cs 23) = w1 at *
  have c : w1.cell? ⟨w.heap.size, 19, none⟩ = some (.string (M.s 19)) := HO.out.1.cell 19 (by decide)
  generalize M.cs = CS at *
  go_wp2
  go_quiet (fail)
  go_wp2
  go_ret2
  exact ⟨rfl, below_drewN HO.out.2 _⟩
set_option maxRecDepth 100000 in
set_option maxHeartbeats 1000000 in
theorem val20 (M : Msg) (w : World) : Calls Tryz.prog 105 #[.agg M.cs, .int .i64 41] w fun e w' => e = .returned (.tuple #[.int .i64 0, .string (M.s 20)]) ∧ Below w.heap.size w w' := by
  have HO := box_own M w
  go_enter Tryz.func105, Tryz.ntmps105
  go_upto_region 1 with fail
  generalize w.alloc (.cells M.cs 23) = w1 at *
  have c : w1.cell? ⟨w.heap.size, 20, none⟩ = some (.string (M.s 20)) := HO.out.1.cell 20 (by decide)
  generalize M.cs = CS at *
  go_wp2
  go_quiet (fail)
  go_wp2
  go_ret2
  exact ⟨rfl, below_drewN HO.out.2 _⟩
set_option maxRecDepth 100000 in
set_option maxHeartbeats 1000000 in
theorem val21 (M : Msg) (w : World) : Calls Tryz.prog 105 #[.agg M.cs, .int .i64 1] w fun e w' => e = .returned (.tuple #[.int .i64 0, .string (M.s 21)]) ∧ Below w.heap.size w w' := by
  have HO := box_own M w
  go_enter Tryz.func105, Tryz.ntmps105
  go_upto_region 1 with fail
  generalize w.alloc (.cells M.cs 23) = w1 at *
  have c : w1.cell? ⟨w.heap.size, 21, none⟩ = some (.string (M.s 21)) := HO.out.1.cell 21 (by decide)
  generalize M.cs = CS at *
  go_wp2
  go_quiet (fail)
  go_wp2
  go_ret2
  exact ⟨rfl, below_drewN HO.out.2 _⟩
set_option maxRecDepth 100000 in
set_option maxHeartbeats 1000000 in
theorem val22 (M : Msg) (w : World) : Calls Tryz.prog 105 #[.agg M.cs, .int .i64 55] w fun e w' => e = .returned (.tuple #[.int .i64 0, .string (M.s 22)]) ∧ Below w.heap.size w w' := by
  have HO := box_own M w
  go_enter Tryz.func105, Tryz.ntmps105
  go_upto_region 1 with fail
  generalize w.alloc (.cells M.cs 23) = w1 at *
  have c : w1.cell? ⟨w.heap.size, 22, none⟩ = some (.string (M.s 22)) := HO.out.1.cell 22 (by decide)
  generalize M.cs = CS at *
  go_wp2
  go_quiet (fail)
  go_wp2
  go_ret2
  exact ⟨rfl, below_drewN HO.out.2 _⟩

end Go.Proofs.YthadnogcocmfgaaGreatDoor

namespace Go.Proofs.YthadnogcocmfgaaGreatDoor
set_option linter.unusedVariables false
set_option linter.unusedSimpArgs false
open Go.RowKit Go.Great

set_option maxRecDepth 100000 in
set_option maxHeartbeats 1000000 in
theorem ordv23 (M : Msg) (w : World) : Calls Tryz.prog 125 #[.agg M.cs, .int .i64 54] w fun e w' => e = .returned (.int .i64 (M.z 23)) ∧ Below w.heap.size w w' := by
  have HO := box_own M w
  go_enter Tryz.func125, Tryz.ntmps125
  go_upto_region 1 with fail
  generalize w.alloc (.cells M.cs 23) = w1 at *
  have c : w1.cell? ⟨w.heap.size, 23, none⟩ = some (.int .i64 (M.z 23)) := HO.out.1.cell 23 (by decide)
  generalize M.cs = CS at *
  go_wp2
  go_ret
  exact ⟨rfl, HO.out.2⟩
set_option maxRecDepth 100000 in
set_option maxHeartbeats 1000000 in
theorem val23 (M : Msg) (w : World) : Calls Tryz.prog 105 #[.agg M.cs, .int .i64 54] w fun e w' => e = .returned (.tuple #[.int .i64 (M.z 23), .string ⟨#[]⟩]) ∧ Below w.heap.size w w' := by
  have HO := box_own M w
  go_enter Tryz.func105, Tryz.ntmps105
  go_upto_region 1 with fail
  generalize w.alloc (.cells M.cs 23) = w1 at *
  go_upto_region 48 with fail
  refine wp_region_lit ?_
  refine wpList_loadM HO.out.1 (.tmp 2) rfl rfl rfl ?_
  simp only [Act.put, List.setIfInBounds_toArray, List.set_cons_zero, List.set_cons_succ]
  go_wp2_with (go_at_call 125; fail)
  refine (ordv23 M w1).mono ?_
  rintro e w2 ⟨rfl, hb⟩
  go_wp2
  go_ret2
  exact ⟨rfl, HO.out.2.trans (hb.mono HO.out.2.size)⟩
set_option maxRecDepth 100000 in
set_option maxHeartbeats 1000000 in
theorem ordv24 (M : Msg) (w : World) : Calls Tryz.prog 125 #[.agg M.cs, .int .i64 40] w fun e w' => e = .returned (.int .i64 (M.z 24)) ∧ Below w.heap.size w w' := by
  have HO := box_own M w
  go_enter Tryz.func125, Tryz.ntmps125
  go_upto_region 1 with fail
  generalize w.alloc (.cells M.cs 23) = w1 at *
  have c : w1.cell? ⟨w.heap.size, 24, none⟩ = some (.int .i64 (M.z 24)) := HO.out.1.cell 24 (by decide)
  generalize M.cs = CS at *
  go_wp2
  go_ret
  exact ⟨rfl, HO.out.2⟩
set_option maxRecDepth 100000 in
set_option maxHeartbeats 1000000 in
theorem val24 (M : Msg) (w : World) : Calls Tryz.prog 105 #[.agg M.cs, .int .i64 40] w fun e w' => e = .returned (.tuple #[.int .i64 (M.z 24), .string ⟨#[]⟩]) ∧ Below w.heap.size w w' := by
  have HO := box_own M w
  go_enter Tryz.func105, Tryz.ntmps105
  go_upto_region 1 with fail
  generalize w.alloc (.cells M.cs 23) = w1 at *
  go_upto_region 48 with fail
  refine wp_region_lit ?_
  refine wpList_loadM HO.out.1 (.tmp 2) rfl rfl rfl ?_
  simp only [Act.put, List.setIfInBounds_toArray, List.set_cons_zero, List.set_cons_succ]
  go_wp2_with (go_at_call 125; fail)
  refine (ordv24 M w1).mono ?_
  rintro e w2 ⟨rfl, hb⟩
  go_wp2
  go_ret2
  exact ⟨rfl, HO.out.2.trans (hb.mono HO.out.2.size)⟩
set_option maxRecDepth 100000 in
set_option maxHeartbeats 1000000 in
theorem ordv25 (M : Msg) (w : World) : Calls Tryz.prog 125 #[.agg M.cs, .int .i64 59] w fun e w' => e = .returned (.int .i64 (M.z 25)) ∧ Below w.heap.size w w' := by
  have HO := box_own M w
  go_enter Tryz.func125, Tryz.ntmps125
  go_upto_region 1 with fail
  generalize w.alloc (.cells M.cs 23) = w1 at *
  have c : w1.cell? ⟨w.heap.size, 25, none⟩ = some (.int .i64 (M.z 25)) := HO.out.1.cell 25 (by decide)
  generalize M.cs = CS at *
  go_wp2
  go_ret
  exact ⟨rfl, HO.out.2⟩
set_option maxRecDepth 100000 in
set_option maxHeartbeats 1000000 in
theorem val25 (M : Msg) (w : World) : Calls Tryz.prog 105 #[.agg M.cs, .int .i64 59] w fun e w' => e = .returned (.tuple #[.int .i64 (M.z 25), .string ⟨#[]⟩]) ∧ Below w.heap.size w w' := by
  have HO := box_own M w
  go_enter Tryz.func105, Tryz.ntmps105
  go_upto_region 1 with fail
  generalize w.alloc (.cells M.cs 23) = w1 at *
  go_upto_region 48 with fail
  refine wp_region_lit ?_
  refine wpList_loadM HO.out.1 (.tmp 2) rfl rfl rfl ?_
  simp only [Act.put, List.setIfInBounds_toArray, List.set_cons_zero, List.set_cons_succ]
  go_wp2_with (go_at_call 125; fail)
  refine (ordv25 M w1).mono ?_
  rintro e w2 ⟨rfl, hb⟩
  go_wp2
  go_ret2
  exact ⟨rfl, HO.out.2.trans (hb.mono HO.out.2.size)⟩
set_option maxRecDepth 100000 in
set_option maxHeartbeats 1000000 in
theorem ordv26 (M : Msg) (w : World) : Calls Tryz.prog 125 #[.agg M.cs, .int .i64 44] w fun e w' => e = .returned (.int .i64 (M.z 26)) ∧ Below w.heap.size w w' := by
  have HO := box_own M w
  go_enter Tryz.func125, Tryz.ntmps125
  go_upto_region 1 with fail
  generalize w.alloc (.cells M.cs 23) = w1 at *
  have c : w1.cell? ⟨w.heap.size, 26, none⟩ = some (.int .i64 (M.z 26)) := HO.out.1.cell 26 (by decide)
  generalize M.cs = CS at *
  go_wp2
  go_ret
  exact ⟨rfl, HO.out.2⟩
set_option maxRecDepth 100000 in
set_option maxHeartbeats 1000000 in
theorem val26 (M : Msg) (w : World) : Calls Tryz.prog 105 #[.agg M.cs, .int .i64 44] w fun e w' => e = .returned (.tuple #[.int .i64 (M.z 26), .string ⟨#[]⟩]) ∧ Below w.heap.size w w' := by
  have HO := box_own M w
  go_enter Tryz.func105, Tryz.ntmps105
  go_upto_region 1 with fail
  generalize w.alloc (.cells M.cs 23) = w1 at *
  go_upto_region 48 with fail
  refine wp_region_lit ?_
  refine wpList_loadM HO.out.1 (.tmp 2) rfl rfl rfl ?_
  simp only [Act.put, List.setIfInBounds_toArray, List.set_cons_zero, List.set_cons_succ]
  go_wp2_with (go_at_call 125; fail)
  refine (ordv26 M w1).mono ?_
  rintro e w2 ⟨rfl, hb⟩
  go_wp2
  go_ret2
  exact ⟨rfl, HO.out.2.trans (hb.mono HO.out.2.size)⟩
set_option maxRecDepth 100000 in
set_option maxHeartbeats 1000000 in
theorem ordv27 (M : Msg) (w : World) : Calls Tryz.prog 125 #[.agg M.cs, .int .i64 99] w fun e w' => e = .returned (.int .i64 (M.z 27)) ∧ Below w.heap.size w w' := by
  have HO := box_own M w
  go_enter Tryz.func125, Tryz.ntmps125
  go_upto_region 1 with fail
  generalize w.alloc (.cells M.cs 23) = w1 at *
  have c : w1.cell? ⟨w.heap.size, 27, none⟩ = some (.int .i64 (M.z 27)) := HO.out.1.cell 27 (by decide)
  generalize M.cs = CS at *
  go_wp2
  go_ret
  exact ⟨rfl, HO.out.2⟩
set_option maxRecDepth 100000 in
set_option maxHeartbeats 1000000 in
theorem val27 (M : Msg) (w : World) : Calls Tryz.prog 105 #[.agg M.cs, .int .i64 99] w fun e w' => e = .returned (.tuple #[.int .i64 (M.z 27), .string ⟨#[]⟩]) ∧ Below w.heap.size w w' := by
  have HO := box_own M w
  go_enter Tryz.func105, Tryz.ntmps105
  go_upto_region 1 with fail
  generalize w.alloc (.cells M.cs 23) = w1 at *
  go_upto_region 48 with fail
  refine wp_region_lit ?_
  refine wpList_loadM HO.out.1 (.tmp 2) rfl rfl rfl ?_
  simp only [Act.put, List.setIfInBounds_toArray, List.set_cons_zero, List.set_cons_succ]
  go_wp2_with (go_at_call 125; fail)
  refine (ordv27 M w1).mono ?_
  rintro e w2 ⟨rfl, hb⟩
  go_wp2
  go_ret2
  exact ⟨rfl, HO.out.2.trans (hb.mono HO.out.2.size)⟩
set_option maxRecDepth 100000 in
set_option maxHeartbeats 1000000 in
theorem ordv28 (M : Msg) (w : World) : Calls Tryz.prog 125 #[.agg M.cs, .int .i64 38] w fun e w' => e = .returned (.int .i64 (M.z 28)) ∧ Below w.heap.size w w' := by
  have HO := box_own M w
  go_enter Tryz.func125, Tryz.ntmps125
  go_upto_region 1 with fail
  generalize w.alloc (.cells M.cs 23) = w1 at *
  have c : w1.cell? ⟨w.heap.size, 28, none⟩ = some (.int .i64 (M.z 28)) := HO.out.1.cell 28 (by decide)
  generalize M.cs = CS at *
  go_wp2
  go_ret
  exact ⟨rfl, HO.out.2⟩
set_option maxRecDepth 100000 in
set_option maxHeartbeats 1000000 in
theorem val28 (M : Msg) (w : World) : Calls Tryz.prog 105 #[.agg M.cs, .int .i64 38] w fun e w' => e = .returned (.tuple #[.int .i64 (M.z 28), .string ⟨#[]⟩]) ∧ Below w.heap.size w w' := by
  have HO := box_own M w
  go_enter Tryz.func105, Tryz.ntmps105
  go_upto_region 1 with fail
  generalize w.alloc (.cells M.cs 23) = w1 at *
  go_upto_region 48 with fail
  refine wp_region_lit ?_
  refine wpList_loadM HO.out.1 (.tmp 2) rfl rfl rfl ?_
  simp only [Act.put, List.setIfInBounds_toArray, List.set_cons_zero, List.set_cons_succ]
  go_wp2_with (go_at_call 125; fail)
  refine (ordv28 M w1).mono ?_
  rintro e w2 ⟨rfl, hb⟩
  go_wp2
  go_ret2
  exact ⟨rfl, HO.out.2.trans (hb.mono HO.out.2.size)⟩
set_option maxRecDepth 100000 in
set_option maxHeartbeats 1000000 in
theorem ordv29 (M : Msg) (w : World) : Calls Tryz.prog 125 #[.agg M.cs, .int .i64 111] w fun e w' => e = .returned (.int .i64 (M.z 29)) ∧ Below w.heap.size w w' := by
  have HO := box_own M w
  go_enter Tryz.func125, Tryz.ntmps125
  go_upto_region 1 with fail
  generalize w.alloc (.cells M.cs 23) = w1 at *
  have c : w1.cell? ⟨w.heap.size, 29, none⟩ = some (.int .i64 (M.z 29)) := HO.out.1.cell 29 (by decide)
  generalize M.cs = CS at *
  go_wp2
  go_ret
  exact ⟨rfl, HO.out.2⟩
set_option maxRecDepth 100000 in
set_option maxHeartbeats 1000000 in
theorem val29 (M : Msg) (w : World) : Calls Tryz.prog 105 #[.agg M.cs, .int .i64 111] w fun e w' => e = .returned (.tuple #[.int .i64 (M.z 29), .string ⟨#[]⟩]) ∧ Below w.heap.size w w' := by
  have HO := box_own M w
  go_enter Tryz.func105, Tryz.ntmps105
  go_upto_region 1 with fail
  generalize w.alloc (.cells M.cs 23) = w1 at *
  go_upto_region 48 with fail
  refine wp_region_lit ?_
  refine wpList_loadM HO.out.1 (.tmp 2) rfl rfl rfl ?_
  simp only [Act.put, List.setIfInBounds_toArray, List.set_cons_zero, List.set_cons_succ]
  go_wp2_with (go_at_call 125; fail)
  refine (ordv29 M w1).mono ?_
  rintro e w2 ⟨rfl, hb⟩
  go_wp2
  go_ret2
  exact ⟨rfl, HO.out.2.trans (hb.mono HO.out.2.size)⟩
set_option maxRecDepth 100000 in
set_option maxHeartbeats 1000000 in
theorem ordv30 (M : Msg) (w : World) : Calls Tryz.prog 125 #[.agg M.cs, .int .i64 110] w fun e w' => e = .returned (.int .i64 (M.z 30)) ∧ Below w.heap.size w w' := by
  have HO := box_own M w
  go_enter Tryz.func125, Tryz.ntmps125
  go_upto_region 1 with fail
  generalize w.alloc (.cells M.cs 23) = w1 at *
  have c : w1.cell? ⟨w.heap.size, 30, none⟩ = some (.int .i64 (M.z 30)) := HO.out.1.cell 30 (by decide)
  generalize M.cs = CS at *
  go_wp2
  go_ret
  exact ⟨rfl, HO.out.2⟩
set_option maxRecDepth 100000 in
set_option maxHeartbeats 1000000 in
theorem val30 (M : Msg) (w : World) : Calls Tryz.prog 105 #[.agg M.cs, .int .i64 110] w fun e w' => e = .returned (.tuple #[.int .i64 (M.z 30), .string ⟨#[]⟩]) ∧ Below w.heap.size w w' := by
  have HO := box_own M w
  go_enter Tryz.func105, Tryz.ntmps105
  go_upto_region 1 with fail
  generalize w.alloc (.cells M.cs 23) = w1 at *
  go_upto_region 48 with fail
  refine wp_region_lit ?_
  refine wpList_loadM HO.out.1 (.tmp 2) rfl rfl rfl ?_
  simp only [Act.put, List.setIfInBounds_toArray, List.set_cons_zero, List.set_cons_succ]
  go_wp2_with (go_at_call 125; fail)
  refine (ordv30 M w1).mono ?_
  rintro e w2 ⟨rfl, hb⟩
  go_wp2
  go_ret2
  exact ⟨rfl, HO.out.2.trans (hb.mono HO.out.2.size)⟩
set_option maxRecDepth 100000 in
set_option maxHeartbeats 1000000 in
theorem ordv31 (M : Msg) (w : World) : Calls Tryz.prog 125 #[.agg M.cs, .int .i64 432] w fun e w' => e = .returned (.int .i64 (M.z 31)) ∧ Below w.heap.size w w' := by
  have HO := box_own M w
  go_enter Tryz.func125, Tryz.ntmps125
  go_upto_region 1 with fail
  generalize w.alloc (.cells M.cs 23) = w1 at *
  have c : w1.cell? ⟨w.heap.size, 31, none⟩ = some (.int .i64 (M.z 31)) := HO.out.1.cell 31 (by decide)
  generalize M.cs = CS at *
  go_wp2
  go_ret
  exact ⟨rfl, HO.out.2⟩
set_option maxRecDepth 100000 in
set_option maxHeartbeats 1000000 in
theorem val31 (M : Msg) (w : World) : Calls Tryz.prog 105 #[.agg M.cs, .int .i64 432] w fun e w' => e = .returned (.tuple #[.int .i64 (M.z 31), .string ⟨#[]⟩]) ∧ Below w.heap.size w w' := by
  have HO := box_own M w
  go_enter Tryz.func105, Tryz.ntmps105
  go_upto_region 1 with fail
  generalize w.alloc (.cells M.cs 23) = w1 at *
  go_upto_region 48 with fail
  refine wp_region_lit ?_
  refine wpList_loadM HO.out.1 (.tmp 2) rfl rfl rfl ?_
  simp only [Act.put, List.setIfInBounds_toArray, List.set_cons_zero, List.set_cons_succ]
  go_wp2_with (go_at_call 125; fail)
  refine (ordv31 M w1).mono ?_
  rintro e w2 ⟨rfl, hb⟩
  go_wp2
  go_ret2
  exact ⟨rfl, HO.out.2.trans (hb.mono HO.out.2.size)⟩
set_option maxRecDepth 100000 in
set_option maxHeartbeats 1000000 in
theorem ordv32 (M : Msg) (w : World) : Calls Tryz.prog 125 #[.agg M.cs, .int .i64 37] w fun e w' => e = .returned (.int .i64 (M.z 32)) ∧ Below w.heap.size w w' := by
  have HO := box_own M w
  go_enter Tryz.func125, Tryz.ntmps125
  go_upto_region 1 with fail
  generalize w.alloc (.cells M.cs 23) = w1 at *
  have c : w1.cell? ⟨w.heap.size, 32, none⟩ = some (.int .i64 (M.z 32)) := HO.out.1.cell 32 (by decide)
  generalize M.cs = CS at *
  go_wp2
  go_ret
  exact ⟨rfl, HO.out.2⟩
set_option maxRecDepth 100000 in
set_option maxHeartbeats 1000000 in
theorem val32 (M : Msg) (w : World) : Calls Tryz.prog 105 #[.agg M.cs, .int .i64 37] w fun e w' => e = .returned (.tuple #[.int .i64 (M.z 32), .string ⟨#[]⟩]) ∧ Below w.heap.size w w' := by
  have HO := box_own M w
  go_enter Tryz.func105, Tryz.ntmps105
  go_upto_region 1 with fail
  generalize w.alloc (.cells M.cs 23) = w1 at *
  go_upto_region 48 with fail
  refine wp_region_lit ?_
  refine wpList_loadM HO.out.1 (.tmp 2) rfl rfl rfl ?_
  simp only [Act.put, List.setIfInBounds_toArray, List.set_cons_zero, List.set_cons_succ]
  go_wp2_with (go_at_call 125; fail)
  refine (ordv32 M w1).mono ?_
  rintro e w2 ⟨rfl, hb⟩
  go_wp2
  go_ret2
  exact ⟨rfl, HO.out.2.trans (hb.mono HO.out.2.size)⟩

end Go.Proofs.YthadnogcocmfgaaGreatDoor

namespace Go.Proofs.YthadnogcocmfgaaGreatDoor
set_option linter.unusedVariables false
set_option linter.unusedSimpArgs false
open Go.RowKit Go.Great

set_option maxRecDepth 100000 in
set_option maxHeartbeats 1000000 in
theorem ordv33 (M : Msg) (w : World) : Calls Tryz.prog 125 #[.agg M.cs, .int .i64 17] w fun e w' => e = .returned (.int .i64 (M.z 33)) ∧ Below w.heap.size w w' := by
  have HO := box_own M w
  go_enter Tryz.func125, Tryz.ntmps125
  go_upto_region 1 with fail
  generalize w.alloc (.cells M.cs 23) = w1 at *
  have c : w1.cell? ⟨w.heap.size, 33, none⟩ = some (.int .i64 (M.z 33)) := HO.out.1.cell 33 (by decide)
  generalize M.cs = CS at *
  go_wp2
  go_ret
  exact ⟨rfl, HO.out.2⟩
set_option maxRecDepth 100000 in
set_option maxHeartbeats 1000000 in
theorem val33 (M : Msg) (w : World) : Calls Tryz.prog 105 #[.agg M.cs, .int .i64 17] w fun e w' => e = .returned (.tuple #[.int .i64 (M.z 33), .string ⟨#[]⟩]) ∧ Below w.heap.size w w' := by
  have HO := box_own M w
  go_enter Tryz.func105, Tryz.ntmps105
  go_upto_region 1 with fail
  generalize w.alloc (.cells M.cs 23) = w1 at *
  go_upto_region 48 with fail
  refine wp_region_lit ?_
  refine wpList_loadM HO.out.1 (.tmp 2) rfl rfl rfl ?_
  simp only [Act.put, List.setIfInBounds_toArray, List.set_cons_zero, List.set_cons_succ]
  go_wp2_with (go_at_call 125; fail)
  refine (ordv33 M w1).mono ?_
  rintro e w2 ⟨rfl, hb⟩
  go_wp2
  go_ret2
  exact ⟨rfl, HO.out.2.trans (hb.mono HO.out.2.size)⟩
set_option maxRecDepth 100000 in
set_option maxHeartbeats 1000000 in
theorem ordv34 (M : Msg) (w : World) : Calls Tryz.prog 125 #[.agg M.cs, .int .i64 150] w fun e w' => e = .returned (.int .i64 (M.z 34)) ∧ Below w.heap.size w w' := by
  have HO := box_own M w
  go_enter Tryz.func125, Tryz.ntmps125
  go_upto_region 1 with fail
  generalize w.alloc (.cells M.cs 23) = w1 at *
  have c : w1.cell? ⟨w.heap.size, 34, none⟩ = some (.int .i64 (M.z 34)) := HO.out.1.cell 34 (by decide)
  generalize M.cs = CS at *
  go_wp2
  go_ret
  exact ⟨rfl, HO.out.2⟩
set_option maxRecDepth 100000 in
set_option maxHeartbeats 1000000 in
theorem val34 (M : Msg) (w : World) : Calls Tryz.prog 105 #[.agg M.cs, .int .i64 150] w fun e w' => e = .returned (.tuple #[.int .i64 (M.z 34), .string ⟨#[]⟩]) ∧ Below w.heap.size w w' := by
  have HO := box_own M w
  go_enter Tryz.func105, Tryz.ntmps105
  go_upto_region 1 with fail
  generalize w.alloc (.cells M.cs 23) = w1 at *
  go_upto_region 48 with fail
  refine wp_region_lit ?_
  refine wpList_loadM HO.out.1 (.tmp 2) rfl rfl rfl ?_
  simp only [Act.put, List.setIfInBounds_toArray, List.set_cons_zero, List.set_cons_succ]
  go_wp2_with (go_at_call 125; fail)
  refine (ordv34 M w1).mono ?_
  rintro e w2 ⟨rfl, hb⟩
  go_wp2
  go_ret2
  exact ⟨rfl, HO.out.2.trans (hb.mono HO.out.2.size)⟩
set_option maxRecDepth 100000 in
set_option maxHeartbeats 1000000 in
theorem ordv35 (M : Msg) (w : World) : Calls Tryz.prog 125 #[.agg M.cs, .int .i64 39] w fun e w' => e = .returned (.int .i64 (M.z 35)) ∧ Below w.heap.size w w' := by
  have HO := box_own M w
  go_enter Tryz.func125, Tryz.ntmps125
  go_upto_region 1 with fail
  generalize w.alloc (.cells M.cs 23) = w1 at *
  have c : w1.cell? ⟨w.heap.size, 35, none⟩ = some (.int .i64 (M.z 35)) := HO.out.1.cell 35 (by decide)
  generalize M.cs = CS at *
  go_wp2
  go_ret
  exact ⟨rfl, HO.out.2⟩
set_option maxRecDepth 100000 in
set_option maxHeartbeats 1000000 in
theorem val35 (M : Msg) (w : World) : Calls Tryz.prog 105 #[.agg M.cs, .int .i64 39] w fun e w' => e = .returned (.tuple #[.int .i64 (M.z 35), .string ⟨#[]⟩]) ∧ Below w.heap.size w w' := by
  have HO := box_own M w
  go_enter Tryz.func105, Tryz.ntmps105
  go_upto_region 1 with fail
  generalize w.alloc (.cells M.cs 23) = w1 at *
  go_upto_region 48 with fail
  refine wp_region_lit ?_
  refine wpList_loadM HO.out.1 (.tmp 2) rfl rfl rfl ?_
  simp only [Act.put, List.setIfInBounds_toArray, List.set_cons_zero, List.set_cons_succ]
  go_wp2_with (go_at_call 125; fail)
  refine (ordv35 M w1).mono ?_
  rintro e w2 ⟨rfl, hb⟩
  go_wp2
  go_ret2
  exact ⟨rfl, HO.out.2.trans (hb.mono HO.out.2.size)⟩
set_option maxRecDepth 100000 in
set_option maxHeartbeats 1000000 in
theorem ordv36 (M : Msg) (w : World) : Calls Tryz.prog 125 #[.agg M.cs, .int .i64 31] w fun e w' => e = .returned (.int .i64 (M.z 36)) ∧ Below w.heap.size w w' := by
  have HO := box_own M w
  go_enter Tryz.func125, Tryz.ntmps125
  go_upto_region 1 with fail
  generalize w.alloc (.cells M.cs 23) = w1 at *
  have c : w1.cell? ⟨w.heap.size, 36, none⟩ = some (.int .i64 (M.z 36)) := HO.out.1.cell 36 (by decide)
  generalize M.cs = CS at *
  go_wp2
  go_ret
  exact ⟨rfl, HO.out.2⟩
set_option maxRecDepth 100000 in
set_option maxHeartbeats 1000000 in
theorem val36 (M : Msg) (w : World) : Calls Tryz.prog 105 #[.agg M.cs, .int .i64 31] w fun e w' => e = .returned (.tuple #[.int .i64 (M.z 36), .string ⟨#[]⟩]) ∧ Below w.heap.size w w' := by
  have HO := box_own M w
  go_enter Tryz.func105, Tryz.ntmps105
  go_upto_region 1 with fail
  generalize w.alloc (.cells M.cs 23) = w1 at *
  go_upto_region 48 with fail
  refine wp_region_lit ?_
  refine wpList_loadM HO.out.1 (.tmp 2) rfl rfl rfl ?_
  simp only [Act.put, List.setIfInBounds_toArray, List.set_cons_zero, List.set_cons_succ]
  go_wp2_with (go_at_call 125; fail)
  refine (ordv36 M w1).mono ?_
  rintro e w2 ⟨rfl, hb⟩
  go_wp2
  go_ret2
  exact ⟨rfl, HO.out.2.trans (hb.mono HO.out.2.size)⟩
set_option maxRecDepth 100000 in
set_option maxHeartbeats 1000000 in
theorem ordv37 (M : Msg) (w : World) : Calls Tryz.prog 125 #[.agg M.cs, .int .i64 32] w fun e w' => e = .returned (.int .i64 (M.z 37)) ∧ Below w.heap.size w w' := by
  have HO := box_own M w
  go_enter Tryz.func125, Tryz.ntmps125
  go_upto_region 1 with fail
  generalize w.alloc (.cells M.cs 23) = w1 at *
  have c : w1.cell? ⟨w.heap.size, 37, none⟩ = some (.int .i64 (M.z 37)) := HO.out.1.cell 37 (by decide)
  generalize M.cs = CS at *
  go_wp2
  go_ret
  exact ⟨rfl, HO.out.2⟩
set_option maxRecDepth 100000 in
set_option maxHeartbeats 1000000 in
theorem val37 (M : Msg) (w : World) : Calls Tryz.prog 105 #[.agg M.cs, .int .i64 32] w fun e w' => e = .returned (.tuple #[.int .i64 (M.z 37), .string ⟨#[]⟩]) ∧ Below w.heap.size w w' := by
  have HO := box_own M w
  go_enter Tryz.func105, Tryz.ntmps105
  go_upto_region 1 with fail
  generalize w.alloc (.cells M.cs 23) = w1 at *
  go_upto_region 48 with fail
  refine wp_region_lit ?_
  refine wpList_loadM HO.out.1 (.tmp 2) rfl rfl rfl ?_
  simp only [Act.put, List.setIfInBounds_toArray, List.set_cons_zero, List.set_cons_succ]
  go_wp2_with (go_at_call 125; fail)
  refine (ordv37 M w1).mono ?_
  rintro e w2 ⟨rfl, hb⟩
  go_wp2
  go_ret2
  exact ⟨rfl, HO.out.2.trans (hb.mono HO.out.2.size)⟩
set_option maxRecDepth 100000 in
set_option maxHeartbeats 1000000 in
theorem ordv38 (M : Msg) (w : World) : Calls Tryz.prog 125 #[.agg M.cs, .int .i64 151] w fun e w' => e = .returned (.int .i64 (M.z 38)) ∧ Below w.heap.size w w' := by
  have HO := box_own M w
  go_enter Tryz.func125, Tryz.ntmps125
  go_upto_region 1 with fail
  generalize w.alloc (.cells M.cs 23) = w1 at *
  have c : w1.cell? ⟨w.heap.size, 38, none⟩ = some (.int .i64 (M.z 38)) := HO.out.1.cell 38 (by decide)
  generalize M.cs = CS at *
  go_wp2
  go_ret
  exact ⟨rfl, HO.out.2⟩
set_option maxRecDepth 100000 in
set_option maxHeartbeats 1000000 in
theorem val38 (M : Msg) (w : World) : Calls Tryz.prog 105 #[.agg M.cs, .int .i64 151] w fun e w' => e = .returned (.tuple #[.int .i64 (M.z 38), .string ⟨#[]⟩]) ∧ Below w.heap.size w w' := by
  have HO := box_own M w
  go_enter Tryz.func105, Tryz.ntmps105
  go_upto_region 1 with fail
  generalize w.alloc (.cells M.cs 23) = w1 at *
  go_upto_region 48 with fail
  refine wp_region_lit ?_
  refine wpList_loadM HO.out.1 (.tmp 2) rfl rfl rfl ?_
  simp only [Act.put, List.setIfInBounds_toArray, List.set_cons_zero, List.set_cons_succ]
  go_wp2_with (go_at_call 125; fail)
  refine (ordv38 M w1).mono ?_
  rintro e w2 ⟨rfl, hb⟩
  go_wp2
  go_ret2
  exact ⟨rfl, HO.out.2.trans (hb.mono HO.out.2.size)⟩
set_option maxRecDepth 100000 in
set_option maxHeartbeats 1000000 in
theorem ordv39 (M : Msg) (w : World) : Calls Tryz.prog 125 #[.agg M.cs, .int .i64 14] w fun e w' => e = .returned (.int .i64 (M.z 39)) ∧ Below w.heap.size w w' := by
  have HO := box_own M w
  go_enter Tryz.func125, Tryz.ntmps125
  go_upto_region 1 with fail
  generalize w.alloc (.cells M.cs 23) = w1 at *
  have c : w1.cell? ⟨w.heap.size, 39, none⟩ = some (.int .i64 (M.z 39)) := HO.out.1.cell 39 (by decide)
  generalize M.cs = CS at *
  go_wp2
  go_ret
  exact ⟨rfl, HO.out.2⟩
set_option maxRecDepth 100000 in
set_option maxHeartbeats 1000000 in
theorem val39 (M : Msg) (w : World) : Calls Tryz.prog 105 #[.agg M.cs, .int .i64 14] w fun e w' => e = .returned (.tuple #[.int .i64 (M.z 39), .string ⟨#[]⟩]) ∧ Below w.heap.size w w' := by
  have HO := box_own M w
  go_enter Tryz.func105, Tryz.ntmps105
  go_upto_region 1 with fail
  generalize w.alloc (.cells M.cs 23) = w1 at *
  go_upto_region 48 with fail
  refine wp_region_lit ?_
  refine wpList_loadM HO.out.1 (.tmp 2) rfl rfl rfl ?_
  simp only [Act.put, List.setIfInBounds_toArray, List.set_cons_zero, List.set_cons_succ]
  go_wp2_with (go_at_call 125; fail)
  refine (ordv39 M w1).mono ?_
  rintro e w2 ⟨rfl, hb⟩
  go_wp2
  go_ret2
  exact ⟨rfl, HO.out.2.trans (hb.mono HO.out.2.size)⟩
set_option maxRecDepth 100000 in
set_option maxHeartbeats 1000000 in
theorem ordv40 (M : Msg) (w : World) : Calls Tryz.prog 125 #[.agg M.cs, .int .i64 326] w fun e w' => e = .returned (.int .i64 (M.z 40)) ∧ Below w.heap.size w w' := by
  have HO := box_own M w
  go_enter Tryz.func125, Tryz.ntmps125
  go_upto_region 1 with fail
  generalize w.alloc (.cells M.cs 23) = w1 at *
  have c : w1.cell? ⟨w.heap.size, 40, none⟩ = some (.int .i64 (M.z 40)) := HO.out.1.cell 40 (by decide)
  generalize M.cs = CS at *
  go_wp2
  go_ret
  exact ⟨rfl, HO.out.2⟩
set_option maxRecDepth 100000 in
set_option maxHeartbeats 1000000 in
theorem val40 (M : Msg) (w : World) : Calls Tryz.prog 105 #[.agg M.cs, .int .i64 326] w fun e w' => e = .returned (.tuple #[.int .i64 (M.z 40), .string ⟨#[]⟩]) ∧ Below w.heap.size w w' := by
  have HO := box_own M w
  go_enter Tryz.func105, Tryz.ntmps105
  go_upto_region 1 with fail
  generalize w.alloc (.cells M.cs 23) = w1 at *
  go_upto_region 48 with fail
  refine wp_region_lit ?_
  refine wpList_loadM HO.out.1 (.tmp 2) rfl rfl rfl ?_
  simp only [Act.put, List.setIfInBounds_toArray, List.set_cons_zero, List.set_cons_succ]
  go_wp2_with (go_at_call 125; fail)
  refine (ordv40 M w1).mono ?_
  rintro e w2 ⟨rfl, hb⟩
  go_wp2
  go_ret2
  exact ⟨rfl, HO.out.2.trans (hb.mono HO.out.2.size)⟩
set_option maxRecDepth 100000 in
set_option maxHeartbeats 1000000 in
theorem ordv41 (M : Msg) (w : World) : Calls Tryz.prog 125 #[.agg M.cs, .int .i64 533] w fun e w' => e = .returned (.int .i64 (M.z 41)) ∧ Below w.heap.size w w' := by
  have HO := box_own M w
  go_enter Tryz.func125, Tryz.ntmps125
  go_upto_region 1 with fail
  generalize w.alloc (.cells M.cs 23) = w1 at *
  have c : w1.cell? ⟨w.heap.size, 41, none⟩ = some (.int .i64 (M.z 41)) := HO.out.1.cell 41 (by decide)
  generalize M.cs = CS at *
  go_wp2
  go_ret
  exact ⟨rfl, HO.out.2⟩
set_option maxRecDepth 100000 in
set_option maxHeartbeats 1000000 in
theorem val41 (M : Msg) (w : World) : Calls Tryz.prog 105 #[.agg M.cs, .int .i64 533] w fun e w' => e = .returned (.tuple #[.int .i64 (M.z 41), .string ⟨#[]⟩]) ∧ Below w.heap.size w w' := by
  have HO := box_own M w
  go_enter Tryz.func105, Tryz.ntmps105
  go_upto_region 1 with fail
  generalize w.alloc (.cells M.cs 23) = w1 at *
  go_upto_region 48 with fail
  refine wp_region_lit ?_
  refine wpList_loadM HO.out.1 (.tmp 2) rfl rfl rfl ?_
  simp only [Act.put, List.setIfInBounds_toArray, List.set_cons_zero, List.set_cons_succ]
  go_wp2_with (go_at_call 125; fail)
  refine (ordv41 M w1).mono ?_
  rintro e w2 ⟨rfl, hb⟩
  go_wp2
  go_ret2
  exact ⟨rfl, HO.out.2.trans (hb.mono HO.out.2.size)⟩

end Go.Proofs.YthadnogcocmfgaaGreatDoor

namespace Go.Proofs.YthadnogcocmfgaaGreatDoor
set_option linter.unusedVariables false
set_option linter.unusedSimpArgs false
open Go.RowKit Go.Great

def mayS (what least most n : Int) (s : ByteArray) : Bool :=
  if what = 2 then nmS s else if what = 3 then idS s else if what = 4 then syS s else if what = 5 then txS s else if what = 6 then txS s && decide (s.size ≤ 20) else if what = 1 then true else if what = 7 then dnB n else decide (least ≤ n) && decide (n ≤ most)
set_option maxRecDepth 100000 in
set_option maxHeartbeats 4000000 in
theorem may_any (c0 what least most : Int) (b : Bool) (au aa : Option Addr) (lu cu la ca : Nat) (n : Int) (s : ByteArray) (hs : s.size ≤ 9223372036854775807) (h0 : -9223372036854775808 ≤ n) (h1 : n ≤ 9223372036854775807) (w : World) :
    Calls Tryz.prog 107 #[.agg #[.int .i64 c0, .int .i64 what, .int .i64 least, .int .i64 most, .bool b, .slice au lu cu, .slice aa la ca], .int .i64 n, .string s] w fun e w' => e = .returned (.bool (mayS what least most n s)) ∧ Below w.heap.size w w' := by
  have hb : Below w.heap.size w (w.alloc (Obj.cells #[.int .i64 c0, .int .i64 what, .int .i64 least, .int .i64 most, .bool b, .slice au lu cu, .slice aa la ca] 116)) := (Below.refl _ w).alloc (Nat.le_refl _) _
  have HB : Hid _ := hb
  clear hb
  by_cases x2 : what = 2
  · subst x2
    rw [show mayS 2 least most n s = nmS s by simp [mayS]]
    go_enter Tryz.func107, Tryz.ntmps107
    go_wp2_with (go_at_call 127; fail)
    refine (refIsName s _ hs).mono ?_
    rintro e w2 ⟨rfl, rfl⟩
    go_wp2
    go_ret
    exact ⟨rfl, HB.out⟩
  have y2 : (what == 2) = false := by simp [x2]
  by_cases x3 : what = 3
  · subst x3
    rw [show mayS 3 least most n s = idS s by simp [mayS]]
    go_enter Tryz.func107, Tryz.ntmps107
    go_wp2_with (go_at_call 128; fail)
    refine (refIsID s _ hs).mono ?_
    rintro e w2 ⟨rfl, rfl⟩
    go_wp2
    go_ret
    exact ⟨rfl, HB.out⟩
  have y3 : (what == 3) = false := by simp [x3]
  by_cases x4 : what = 4
  · subst x4
    rw [show mayS 4 least most n s = syS s by simp [mayS]]
    go_enter Tryz.func107, Tryz.ntmps107
    go_wp2_with (go_at_call 129; fail)
    refine (refIsSymbol s _ hs).mono ?_
    rintro e w2 ⟨rfl, rfl⟩
    go_wp2
    go_ret
    exact ⟨rfl, HB.out⟩
  have y4 : (what == 4) = false := by simp [x4]
  by_cases x5 : what = 5
  · subst x5
    rw [show mayS 5 least most n s = txS s by simp [mayS]]
    go_enter Tryz.func107, Tryz.ntmps107
    go_wp2_with (go_at_call 130; fail)
    refine (refIsText s _ hs).mono ?_
    rintro e w2 ⟨rfl, rfl⟩
    go_wp2
    go_ret
    exact ⟨rfl, HB.out⟩
  have y5 : (what == 5) = false := by simp [x5]
  by_cases x6 : what = 6
  · subst x6
    have HV : Hid (mayS 6 least most n s = (txS s && decide (s.size ≤ 20))) := by show mayS 6 least most n s = _; simp [mayS]
    cases ht : txS s
    · rw [ht] at HV
      go_enter Tryz.func107, Tryz.ntmps107
      go_wp2_with (go_at_call 130; fail)
      refine (refIsText s _ hs).mono ?_
      rw [ht]
      rintro e w2 ⟨rfl, rfl⟩
      go_wp2
      go_ret
      exact ⟨ret_bool HV.out.symm, HB.out⟩
    · rw [ht] at HV
      go_enter Tryz.func107, Tryz.ntmps107
      go_wp2_with (go_at_call 130; fail)
      refine (refIsText s _ hs).mono ?_
      rw [ht]
      rintro e w2 ⟨rfl, rfl⟩
      go_wp2
      go_ret
      exact ⟨ret_bool (by rw [HV.out, Bool.true_and, Bool.eq_iff_iff]; simp; try omega), HB.out⟩
  have y6 : (what == 6) = false := by simp [x6]
  by_cases x1 : what = 1
  · subst x1
    rw [show mayS 1 least most n s = true by simp [mayS]]
    go_enter Tryz.func107, Tryz.ntmps107
    go_wp2
    go_ret
    exact ⟨rfl, HB.out⟩
  have y1 : (what == 1) = false := by simp [x1]
  by_cases x7 : what = 7
  · subst x7
    have HV : Hid (mayS 7 least most n s = dnB n) := by show mayS 7 least most n s = _; simp [mayS]
    have hst := fun w' => refStart_any n w' h0 h1
    generalize dnV n * 86400000 = vv at *
    cases hd : dnB n
    · rw [hd] at HV
      rw [show dtE n = 21 by simp [dtE, hd]] at hst
      clear hd
      go_enter Tryz.func107, Tryz.ntmps107
      go_wp2_with (go_at_call 131; fail)
      refine (hst _).mono ?_
      rintro e w2 ⟨rfl, hb2⟩
      go_wp2
      go_ret
      exact ⟨ret_bool HV.out.symm, HB.out.trans (hb2.mono HB.out.size)⟩
    · rw [hd] at HV
      rw [show dtE n = 0 by simp [dtE, hd]] at hst
      clear hd
      go_enter Tryz.func107, Tryz.ntmps107
      go_wp2_with (go_at_call 131; fail)
      refine (hst _).mono ?_
      rintro e w2 ⟨rfl, hb2⟩
      go_wp2
      go_ret
      exact ⟨ret_bool HV.out.symm, HB.out.trans (hb2.mono HB.out.size)⟩
  have y7 : (what == 7) = false := by simp [x7]
  have HV : Hid (mayS what least most n s = (decide (least ≤ n) && decide (n ≤ most))) := by show mayS what least most n s = _; simp [mayS, x1, x2, x3, x4, x5, x6, x7]
  by_cases l0 : least ≤ n
  · go_enter Tryz.func107, Tryz.ntmps107
    go_wp2
    go_ret
    exact ⟨ret_bool (by rw [HV.out]; simp [l0]), HB.out⟩
  · go_enter Tryz.func107, Tryz.ntmps107
    go_wp2
    go_ret
    exact ⟨ret_bool (by rw [HV.out]; simp; omega), HB.out⟩

end Go.Proofs.YthadnogcocmfgaaGreatDoor

namespace Go.Proofs.YthadnogcocmfgaaGreatDoor
set_option linter.unusedVariables false
set_option linter.unusedSimpArgs false
open Go.RowKit Go.Great

def vN (M : Msg) (i : Nat) : Int := if isStr i then 0 else if isBoo i then trN (M.b i) else M.z i
def vS (M : Msg) (i : Nat) : ByteArray := if isStr i then M.s i else ⟨#[]⟩
theorem val_at (M : Msg) (j : Nat) (hj : j < 42) (w : World) : Calls Tryz.prog 105 #[.agg M.cs, .int .i64 (tNum.getD j 0)] w fun e w' => e = .returned (.tuple #[.int .i64 (vN M j), .string (vS M j)]) ∧ Below w.heap.size w w' := by
  rcases cases42 hj with rfl | rfl | rfl | rfl | rfl | rfl | rfl | rfl | rfl | rfl | rfl | rfl | rfl | rfl | rfl | rfl | rfl | rfl | rfl | rfl | rfl | rfl | rfl | rfl | rfl | rfl | rfl | rfl | rfl | rfl | rfl | rfl | rfl | rfl | rfl | rfl | rfl | rfl | rfl | rfl | rfl | rfl
  · exact val0 M w
  · exact val1 M w
  · exact val2 M w
  · exact val3 M w
  · exact val4 M w
  · exact val5 M w
  · exact val6 M w
  · exact val7 M w
  · exact val8 M w
  · exact val9 M w
  · exact val10 M w
  · exact val11 M w
  · exact val12 M w
  · exact val13 M w
  · exact val14 M w
  · exact val15 M w
  · exact val16 M w
  · exact val17 M w
  · exact val18 M w
  · exact val19 M w
  · exact val20 M w
  · exact val21 M w
  · exact val22 M w
  · exact val23 M w
  · exact val24 M w
  · exact val25 M w
  · exact val26 M w
  · exact val27 M w
  · exact val28 M w
  · exact val29 M w
  · exact val30 M w
  · exact val31 M w
  · exact val32 M w
  · exact val33 M w
  · exact val34 M w
  · exact val35 M w
  · exact val36 M w
  · exact val37 M w
  · exact val38 M w
  · exact val39 M w
  · exact val40 M w
  · exact val41 M w
def thB (M : Msg) (i : Nat) : Bool := vN M i != 0 || (vS M i).size != 0
theorem eq_num (z most least : Int) (hl : least = 0 ∨ least = 1) : (z != 0 || (⟨#[]⟩ : ByteArray).size != 0) = (stN z most != 0) ∧ (stN z most ≠ 0 → mayS 0 least most z ⟨#[]⟩ = (stN z most == 1)) := by
  have e0 : ((⟨#[]⟩ : ByteArray).size != 0) = false := rfl
  have em : mayS 0 least most z ⟨#[]⟩ = (decide (least ≤ z) && decide (z ≤ most)) := by simp [mayS]
  rw [e0, Bool.or_false, em]
  unfold stN
  by_cases h0 : z = 0
  · simp [h0]
  · rw [if_neg h0]
    by_cases h1 : z < 0 ∨ most < z
    · rw [if_pos h1]
      refine ⟨by simp [h0], fun _ => ?_⟩
      simp
      omega
    · rw [if_neg h1]
      refine ⟨by simp [h0], fun _ => ?_⟩
      simp
      omega
theorem eq_txt (p : ByteArray → Bool) (what : Int) (s : ByteArray) (hm : mayS what 0 0 0 s = p s) : ((0 : Int) != 0 || s.size != 0) = (stT p s != 0) ∧ (stT p s ≠ 0 → mayS what 0 0 0 s = (stT p s == 1)) := by
  rw [hm]
  unfold stT
  by_cases h0 : s.size = 0
  · simp [h0]
  · rw [if_neg h0]
    cases p s
    · simp [h0]
    · simp [h0]
theorem eqR_boo (b : Bool) : (trN b != 0 || (⟨#[]⟩ : ByteArray).size != 0) = (stB b != 0) ∧ (stB b ≠ 0 → mayS 1 0 0 (trN b) ⟨#[]⟩ = (stB b == 1)) := by
  have em : mayS 1 0 0 (trN b) ⟨#[]⟩ = true := by simp [mayS]
  rw [em]
  cases b
  · exact ⟨rfl, fun h => absurd rfl h⟩
  · exact ⟨rfl, fun _ => rfl⟩
theorem eq_dat (z : Int) : (z != 0 || (⟨#[]⟩ : ByteArray).size != 0) = (stD z != 0) ∧ (stD z ≠ 0 → mayS 7 0 0 z ⟨#[]⟩ = (stD z == 1)) := by
  have e0 : ((⟨#[]⟩ : ByteArray).size != 0) = false := rfl
  have em : mayS 7 0 0 z ⟨#[]⟩ = dnB z := by simp [mayS]
  rw [e0, Bool.or_false, em]
  unfold stD
  by_cases h0 : z = 0
  · simp [h0]
  · rw [if_neg h0]
    cases dnB z
    · simp [h0]
    · simp [h0]
theorem st_at (M : Msg) (j : Nat) (hj : j < 42) : thB M j = (stOf M j != 0) ∧ (stOf M j ≠ 0 → mayS (rWhat.getD j 0) (rLeast.getD j 0) (rMost.getD j 0) (vN M j) (vS M j) = (stOf M j == 1)) := by
  rcases cases42 hj with rfl | rfl | rfl | rfl | rfl | rfl | rfl | rfl | rfl | rfl | rfl | rfl | rfl | rfl | rfl | rfl | rfl | rfl | rfl | rfl | rfl | rfl | rfl | rfl | rfl | rfl | rfl | rfl | rfl | rfl | rfl | rfl | rfl | rfl | rfl | rfl | rfl | rfl | rfl | rfl | rfl | rfl
  · exact eq_num (M.z 0) 17 1 (by decide)
  · exact eq_txt nmS 2 (M.s 1) (by simp [mayS, tiS, Bool.and_comm])
  · exact eq_txt nmS 2 (M.s 2) (by simp [mayS, tiS, Bool.and_comm])
  · exact eq_num (M.z 3) 999999999 1 (by decide)
  · exact eqR_boo (M.b 4)
  · exact eq_num (M.z 5) 253402300799999 0 (by decide)
  · exact eq_num (M.z 6) 253402300799999 1 (by decide)
  · exact eq_num (M.z 7) 3600 1 (by decide)
  · exact eqR_boo (M.b 8)
  · exact eq_txt tiS 6 (M.s 9) (by simp [mayS, tiS, Bool.and_comm])
  · exact eq_num (M.z 10) 999999999 1 (by decide)
  · exact eq_num (M.z 11) 999999999 0 (by decide)
  · exact eq_num (M.z 12) 999999999 1 (by decide)
  · exact eqR_boo (M.b 13)
  · exact eq_num (M.z 14) 999999999 1 (by decide)
  · exact eq_num (M.z 15) 17 1 (by decide)
  · exact eq_num (M.z 16) 9999 1 (by decide)
  · exact eq_num (M.z 17) 999 0 (by decide)
  · exact eq_txt txS 5 (M.s 18) (by simp [mayS, tiS, Bool.and_comm])
  · exact eq_txt idS 3 (M.s 19) (by simp [mayS, tiS, Bool.and_comm])
  · exact eq_txt idS 3 (M.s 20) (by simp [mayS, tiS, Bool.and_comm])
  · exact eq_txt nmS 2 (M.s 21) (by simp [mayS, tiS, Bool.and_comm])
  · exact eq_txt syS 4 (M.s 22) (by simp [mayS, tiS, Bool.and_comm])
  · exact eq_num (M.z 23) 2 1 (by decide)
  · exact eq_num (M.z 24) 4 1 (by decide)
  · exact eq_num (M.z 25) 7 1 (by decide)
  · exact eq_num (M.z 26) 1000000000 1 (by decide)
  · exact eq_num (M.z 27) 1000000000 1 (by decide)
  · exact eq_num (M.z 28) 1000000 1 (by decide)
  · exact eq_num (M.z 29) 1000000 1 (by decide)
  · exact eq_num (M.z 30) 1000000 1 (by decide)
  · exact eq_dat (M.z 31)
  · exact eq_num (M.z 32) 999999999 0 (by decide)
  · exact eq_num (M.z 33) 999999999 1 (by decide)
  · exact eq_num (M.z 34) 8 1 (by decide)
  · exact eq_num (M.z 35) 6 1 (by decide)
  · exact eq_num (M.z 36) 1000000000 1 (by decide)
  · exact eq_num (M.z 37) 1000000 1 (by decide)
  · exact eq_num (M.z 38) 1000000 0 (by decide)
  · exact eq_num (M.z 39) 1000000 0 (by decide)
  · exact eq_num (M.z 40) 5 0 (by decide)
  · exact eq_num (M.z 41) 999999999 0 (by decide)
def refErr (h : Int) (th fi oz : Bool) : Int := if h = 0 ∧ th = true then 32 else if h = 2 ∧ th = false ∧ oz = false then 31 else if th = true ∧ fi = false then 31 else 0
theorem row_err (M : Msg) (hK : isK (M.z 0) = true) (j : Nat) (hj : j < 42) : errAt M j = refErr (hasR (M.z 0) (rMust.getD j []) (rMay.getD j [])) (thB M j) (mayS (rWhat.getD j 0) (rLeast.getD j 0) (rMost.getD j 0) (vN M j) (vS M j)) (tOz.getD j false) := by
  obtain ⟨h1, h2⟩ := st_at M j hj
  have hle := stOf_le M j hj
  have hk2 : 1 ≤ M.z 0 ∧ M.z 0 ≤ 17 := by simpa [isK] using hK
  obtain ⟨y, hy⟩ : ∃ y : Nat, M.z 0 = y := ⟨(M.z 0).toNat, by omega⟩
  have hy2 : (M.z 0).toNat = y := by omega
  unfold errAt hasR
  rw [h1, hy2, hy, must_bit j hj y (by omega) (by omega), may_bit j hj y (by omega) (by omega)]
  have hst : stOf M j = 0 ∨ stOf M j = 1 ∨ stOf M j = 2 := by omega
  generalize mayS (rWhat.getD j 0) (rLeast.getD j 0) (rMost.getD j 0) (vN M j) (vS M j) = fi at *
  generalize tOz.getD j false = oz at *
  generalize (tMust.getD j 0).testBit y = mu at *
  generalize (tMay.getD j 0).testBit y = ma at *
  rcases hst with h | h | h
  · rw [h]
    cases mu <;> cases ma <;> cases oz <;> cases fi <;> rfl
  · rw [h] at h2 ⊢
    rw [h2 (by decide)]
    cases mu <;> cases ma <;> cases oz <;> rfl
  · rw [h] at h2 ⊢
    rw [h2 (by decide)]
    cases mu <;> cases ma <;> cases oz <;> rfl
theorem ordN_nn (a b c d e f g h : Int) : 0 ≤ ordN a b c d e f g h := by unfold ordN; repeat' split <;> try decide
theorem exeN_nn (a b c d e f : Int) : 0 ≤ exeN a b c d e f := by unfold exeN; repeat' split <;> try decide
theorem fitN_nn (M : Msg) : 0 ≤ fitN M := by
  unfold fitN
  split
  · decide
  · split
    · decide
    · split
      · exact ordN_nn _ _ _ _ _ _ _ _
      · split
        · exact exeN_nn _ _ _ _ _ _
        · decide

end Go.Proofs.YthadnogcocmfgaaGreatDoor

namespace Go.Proofs.YthadnogcocmfgaaGreatDoor
set_option linter.unusedVariables false
set_option linter.unusedSimpArgs false
open Go.RowKit Go.Great

theorem bne_t {a b : Bool} (h : (a != b) = true) : (a == b) = false := by cases a <;> cases b <;> simp_all
theorem bne_f {a b : Bool} (h : (a != b) = false) : (a == b) = true := by cases a <;> cases b <;> simp_all
def fitE (ot : Int) (dup : Bool) (k en bg : Int) (p q : Bool) (price stop qty shw least life til ex lp lq left don : Int) : Int :=
  if ot != 0 && !dup then 122 else if k == 3 && (en != 0 && decide (en < bg)) then 16 else
  if k == 8 then (if p != (price != 0) then 44 else if q != (stop != 0) then 99 else if qty < shw then 111 else if qty < least then 110 else if (life == 5) != (til != 0) then 432 else 0) else
  if k == 13 then (if (ex == 3) != (lp != 0) then 31 else if (ex == 3) != (lq != 0) then 32 else if qty < wrap64 (left + don) then 14 else 0) else 0
theorem fit_eq (M : Msg) : fitN M = fitE (M.z 6) (M.b 4) (M.z 0) (M.z 11) (M.z 10) (M.z 24 == 1 || M.z 24 == 4) (M.z 24 == 3 || M.z 24 == 4) (M.z 26) (M.z 27) (M.z 28) (M.z 29) (M.z 30) (M.z 25) (M.z 31) (M.z 34) (M.z 36) (M.z 37) (M.z 38) (M.z 39) := rfl
set_option maxRecDepth 100000 in
set_option maxHeartbeats 8000000 in
theorem fits_any (M : Msg) (w : World) : Calls Tryz.prog 108 #[.agg M.cs] w fun e w' => e = .returned (.int .i64 (fitN M)) ∧ Below w.heap.size w w' := by
  have HO := box_own M w
  rw [fit_eq]
  generalize hRES : fitE (M.z 6) (M.b 4) (M.z 0) (M.z 11) (M.z 10) (M.z 24 == 1 || M.z 24 == 4) (M.z 24 == 3 || M.z 24 == 4) (M.z 26) (M.z 27) (M.z 28) (M.z 29) (M.z 30) (M.z 25) (M.z 31) (M.z 34) (M.z 36) (M.z 37) (M.z 38) (M.z 39) = RES
  have HRES : Hid (_ = RES) := hRES
  clear hRES
  go_enter Tryz.func108, Tryz.ntmps108
  go_upto_region 1 with fail
  generalize w.alloc (.cells M.cs 23) = w1 at *
  have c0 : w1.cell? ⟨w.heap.size, 0, none⟩ = some (.int .i64 (M.z 0)) := HO.out.1.cell 0 (by decide)
  have c6 : w1.cell? ⟨w.heap.size, 6, none⟩ = some (.int .i64 (M.z 6)) := HO.out.1.cell 6 (by decide)
  have c10 : w1.cell? ⟨w.heap.size, 10, none⟩ = some (.int .i64 (M.z 10)) := HO.out.1.cell 10 (by decide)
  have c11 : w1.cell? ⟨w.heap.size, 11, none⟩ = some (.int .i64 (M.z 11)) := HO.out.1.cell 11 (by decide)
  have c24 : w1.cell? ⟨w.heap.size, 24, none⟩ = some (.int .i64 (M.z 24)) := HO.out.1.cell 24 (by decide)
  have c25 : w1.cell? ⟨w.heap.size, 25, none⟩ = some (.int .i64 (M.z 25)) := HO.out.1.cell 25 (by decide)
  have c26 : w1.cell? ⟨w.heap.size, 26, none⟩ = some (.int .i64 (M.z 26)) := HO.out.1.cell 26 (by decide)
  have c27 : w1.cell? ⟨w.heap.size, 27, none⟩ = some (.int .i64 (M.z 27)) := HO.out.1.cell 27 (by decide)
  have c28 : w1.cell? ⟨w.heap.size, 28, none⟩ = some (.int .i64 (M.z 28)) := HO.out.1.cell 28 (by decide)
  have c29 : w1.cell? ⟨w.heap.size, 29, none⟩ = some (.int .i64 (M.z 29)) := HO.out.1.cell 29 (by decide)
  have c30 : w1.cell? ⟨w.heap.size, 30, none⟩ = some (.int .i64 (M.z 30)) := HO.out.1.cell 30 (by decide)
  have c31 : w1.cell? ⟨w.heap.size, 31, none⟩ = some (.int .i64 (M.z 31)) := HO.out.1.cell 31 (by decide)
  have c34 : w1.cell? ⟨w.heap.size, 34, none⟩ = some (.int .i64 (M.z 34)) := HO.out.1.cell 34 (by decide)
  have c36 : w1.cell? ⟨w.heap.size, 36, none⟩ = some (.int .i64 (M.z 36)) := HO.out.1.cell 36 (by decide)
  have c37 : w1.cell? ⟨w.heap.size, 37, none⟩ = some (.int .i64 (M.z 37)) := HO.out.1.cell 37 (by decide)
  have c38 : w1.cell? ⟨w.heap.size, 38, none⟩ = some (.int .i64 (M.z 38)) := HO.out.1.cell 38 (by decide)
  have c39 : w1.cell? ⟨w.heap.size, 39, none⟩ = some (.int .i64 (M.z 39)) := HO.out.1.cell 39 (by decide)
  have c4 : w1.cell? ⟨w.heap.size, 4, none⟩ = some (.bool (M.b 4)) := HO.out.1.cell 4 (by decide)
  have HB : Hid (Below w.heap.size w w1) := HO.out.2
  clear HO
  generalize M.cs = CS at *
  generalize M.z 0 = k at *
  generalize M.z 6 = ot at *
  generalize M.z 10 = bg at *
  generalize M.z 11 = en at *
  generalize M.z 24 = ty at *
  generalize M.z 25 = life at *
  generalize M.z 26 = price at *
  generalize M.z 27 = stop at *
  generalize M.z 28 = qty at *
  generalize M.z 29 = shw at *
  generalize M.z 30 = least at *
  generalize M.z 31 = til at *
  generalize M.z 34 = ex at *
  generalize M.z 36 = lp at *
  generalize M.z 37 = lq at *
  generalize M.z 38 = left at *
  generalize M.z 39 = don at *
  generalize M.b 4 = dup at *
  go_cut [3] (fun b wx => b = .bool (ty == 1 || ty == 4) ∧ wx = w1)
  case first => as_aux_lemma =>
    by_cases t1 : ty = 1
    · subst t1
      go_wp2_with fail
      go_meet
      exact ⟨rfl, rfl⟩
    · have t1b : (ty == 1) = false := by simp [t1]
      go_wp2_with fail
      go_meet
      exact ⟨by rw [t1b]; rfl, rfl⟩
  case rest =>
    obtain ⟨rfl, rfl⟩ := hcut
    go_upto_region 2 with fail
    go_cut [4] (fun b wx => b = .bool (ty == 3 || ty == 4) ∧ wx = wc)
    case first => as_aux_lemma =>
      by_cases t1 : ty = 3
      · subst t1
        go_wp2_with fail
        go_meet
        exact ⟨rfl, rfl⟩
      · have t1b : (ty == 3) = false := by simp [t1]
        go_wp2_with fail
        go_meet
        exact ⟨by rw [t1b]; rfl, rfl⟩
    case rest =>
      obtain ⟨rfl, rfl⟩ := hcut
      go_upto_region 3 with fail
      clear c24
      generalize hp : (ty == 1 || ty == 4) = p at *
      generalize hq : (ty == 3 || ty == 4) = q at *
      clear hp hq
      go_cut [21] (fun b wx => b = .bool (ot != 0 && !dup) ∧ wx = wc)
      case first => as_aux_lemma =>
        cases o0 : (ot != 0)
        · go_wp2_with fail
          go_meet
          exact ⟨by rw [o0]; rfl, rfl⟩
        · go_wp2_with fail
          go_meet
          exact ⟨by rw [o0]; rfl, rfl⟩
      case rest =>
        obtain ⟨rfl, rfl⟩ := hcut
        clear c6 c4
        have HE : Hid (∀ x, (ot != 0 && !dup) = x → fitE ot dup k en bg p q price stop qty shw least life til ex lp lq left don = if x then 122 else if k == 3 && (en != 0 && decide (en < bg)) then 16 else if k == 8 then (if p != (price != 0) then 44 else if q != (stop != 0) then 99 else if qty < shw then 111 else if qty < least then 110 else if (life == 5) != (til != 0) then 432 else 0) else if k == 13 then (if (ex == 3) != (lp != 0) then 31 else if (ex == 3) != (lq != 0) then 32 else if qty < wrap64 (left + don) then 14 else 0) else 0) := fun x hx => by rw [← hx]; rfl
        have HE2 := HE.out _ rfl
        have HE3 : Hid (_ = _) := HE2
        clear HE HE2
        generalize (ot != 0 && !dup) = r at *
        cases r
        · cases k3 : (k == 3)
          · cases k8 : (k == 8)
            · cases k13 : (k == 13)
              · go_wp2
                go_ret
                exact ⟨ret_int (by rw [← HRES.out, HE3.out]; simp only [k3, k8, k13, Bool.false_eq_true, Bool.true_and, Bool.and_true, Bool.false_and, Bool.and_false, reduceIte]; try ((repeat' split) <;> omega)), HB.out⟩
              · cases e1 : ((ex == 3) != (lp != 0))
                · have e1w := bne_f e1
                  cases e2 : ((ex == 3) != (lq != 0))
                  · have e2w := bne_f e2
                    by_cases s0 : qty < wrap64 (left + don)
                    · go_wp2
                      go_ret
                      exact ⟨ret_int (by rw [← HRES.out, HE3.out]; simp only [k3, k8, k13, e1, e2, s0, Bool.false_eq_true, Bool.true_and, Bool.and_true, Bool.false_and, Bool.and_false, reduceIte]; try ((repeat' split) <;> omega)), HB.out⟩
                    · go_wp2
                      go_ret
                      exact ⟨ret_int (by rw [← HRES.out, HE3.out]; simp only [k3, k8, k13, e1, e2, s0, Bool.false_eq_true, Bool.true_and, Bool.and_true, Bool.false_and, Bool.and_false, reduceIte]; try ((repeat' split) <;> omega)), HB.out⟩
                  · have e2w := bne_t e2
                    go_wp2
                    go_ret
                    exact ⟨ret_int (by rw [← HRES.out, HE3.out]; simp only [k3, k8, k13, e1, e2, Bool.false_eq_true, Bool.true_and, Bool.and_true, Bool.false_and, Bool.and_false, reduceIte]; try ((repeat' split) <;> omega)), HB.out⟩
                · have e1w := bne_t e1
                  go_wp2
                  go_ret
                  exact ⟨ret_int (by rw [← HRES.out, HE3.out]; simp only [k3, k8, k13, e1, Bool.false_eq_true, Bool.true_and, Bool.and_true, Bool.false_and, Bool.and_false, reduceIte]; try ((repeat' split) <;> omega)), HB.out⟩
            · have k13 : (k == 13) = false := by
                obtain rfl : k = 8 := by simpa using k8
                rfl
              cases e1 : (p != (price != 0))
              · have e1w := bne_f e1
                cases e2 : (q != (stop != 0))
                · have e2w := bne_f e2
                  by_cases s0 : qty < shw
                  · go_wp2
                    go_ret
                    exact ⟨ret_int (by rw [← HRES.out, HE3.out]; simp only [k3, k8, k13, e1, e2, s0, Bool.false_eq_true, Bool.true_and, Bool.and_true, Bool.false_and, Bool.and_false, reduceIte]; try ((repeat' split) <;> omega)), HB.out⟩
                  · by_cases s1 : qty < least
                    · go_wp2
                      go_ret
                      exact ⟨ret_int (by rw [← HRES.out, HE3.out]; simp only [k3, k8, k13, e1, e2, s0, s1, Bool.false_eq_true, Bool.true_and, Bool.and_true, Bool.false_and, Bool.and_false, reduceIte]; try ((repeat' split) <;> omega)), HB.out⟩
                    · cases e3 : ((life == 5) != (til != 0))
                      · have e3w := bne_f e3
                        go_wp2
                        go_ret
                        exact ⟨ret_int (by rw [← HRES.out, HE3.out]; simp only [k3, k8, k13, e1, e2, s0, s1, e3, Bool.false_eq_true, Bool.true_and, Bool.and_true, Bool.false_and, Bool.and_false, reduceIte]; try ((repeat' split) <;> omega)), HB.out⟩
                      · have e3w := bne_t e3
                        go_wp2
                        go_ret
                        exact ⟨ret_int (by rw [← HRES.out, HE3.out]; simp only [k3, k8, k13, e1, e2, s0, s1, e3, Bool.false_eq_true, Bool.true_and, Bool.and_true, Bool.false_and, Bool.and_false, reduceIte]; try ((repeat' split) <;> omega)), HB.out⟩
                · have e2w := bne_t e2
                  go_wp2
                  go_ret
                  exact ⟨ret_int (by rw [← HRES.out, HE3.out]; simp only [k3, k8, k13, e1, e2, Bool.false_eq_true, Bool.true_and, Bool.and_true, Bool.false_and, Bool.and_false, reduceIte]; try ((repeat' split) <;> omega)), HB.out⟩
              · have e1w := bne_t e1
                go_wp2
                go_ret
                exact ⟨ret_int (by rw [← HRES.out, HE3.out]; simp only [k3, k8, k13, e1, Bool.false_eq_true, Bool.true_and, Bool.and_true, Bool.false_and, Bool.and_false, reduceIte]; try ((repeat' split) <;> omega)), HB.out⟩
          · have k8 : (k == 8) = false := by
              obtain rfl : k = 3 := by simpa using k3
              rfl
            have k13 : (k == 13) = false := by
              obtain rfl : k = 3 := by simpa using k3
              rfl
            cases n0 : (en != 0)
            · go_wp2
              go_ret
              exact ⟨ret_int (by rw [← HRES.out, HE3.out]; simp only [k3, k8, k13, n0, Bool.false_eq_true, Bool.true_and, Bool.and_true, Bool.false_and, Bool.and_false, reduceIte]; try ((repeat' split) <;> omega)), HB.out⟩
            · cases l0 : decide (en < bg)
              · go_wp2
                go_ret
                exact ⟨ret_int (by rw [← HRES.out, HE3.out]; simp only [k3, k8, k13, n0, l0, Bool.false_eq_true, Bool.true_and, Bool.and_true, Bool.false_and, Bool.and_false, reduceIte]; try ((repeat' split) <;> omega)), HB.out⟩
              · go_wp2
                go_ret
                exact ⟨ret_int (by rw [← HRES.out, HE3.out]; simp only [k3, k8, k13, n0, l0, Bool.false_eq_true, Bool.true_and, Bool.and_true, Bool.false_and, Bool.and_false, reduceIte]; try ((repeat' split) <;> omega)), HB.out⟩
        · go_wp2
          go_ret
          exact ⟨ret_int (by rw [← HRES.out, HE3.out]; simp only [Bool.false_eq_true, Bool.true_and, Bool.and_true, Bool.false_and, Bool.and_false, reduceIte]; try ((repeat' split) <;> omega)), HB.out⟩

end Go.Proofs.YthadnogcocmfgaaGreatDoor

namespace Go.Proofs.YthadnogcocmfgaaGreatDoor
set_option linter.unusedVariables false
set_option linter.unusedSimpArgs false
open Go.RowKit Go.Great

theorem TabAt.below {w w' : World} {G : Nat} {mu ma : Nat → Value} (h : TabAt w G mu ma) (hG : G < w.heap.size) (hb : Below w.heap.size w w') : TabAt w' G mu ma :=
  ⟨fun j hj i v hv => by rw [hb.cell (p := ⟨G, j * 7 + i, none⟩) hG]; exact h.1 j hj i v hv, fun j hj => ⟨(h.2 j hj).1.below hb, (h.2 j hj).2.below hb⟩⟩
theorem range_below {w w' : World} {B C : Nat} {l : List Value} (h : w.rangeAt B 0 l) (hb : Below C w w') (hB : B < C) : w'.rangeAt B 0 l := fun j v hv => by rw [hb.cell (p := ⟨B, 0 + j, none⟩) hB]; exact h j v hv
theorem vN_in {M : Msg} (h : M.ok) (i : Nat) : -9223372036854775808 ≤ vN M i ∧ vN M i ≤ 9223372036854775807 := by
  unfold vN
  split
  · decide
  · split
    · unfold trN; split <;> decide
    · exact h i
theorem vS_in {M : Msg} (h : M.okS) (i : Nat) : (vS M i).size ≤ 9223372036854775807 := by
  unfold vS
  split
  · exact Nat.le_trans (h i) (by decide)
  · decide
set_option maxRecDepth 100000 in
set_option maxHeartbeats 8000000 in
theorem refValid_any (M : Msg) (hz : M.ok) (hS : M.okS) (w : World) :
    Calls Tryz.prog 34 #[.agg M.cs] w fun e w' => e = .returned (.tuple #[.int .i64 (valE M), .int .i64 (valN M)]) ∧ Below w.heap.size w w' := by
  have HO := box_own M w
  have HZ : Hid (M.ok ∧ M.okS) := ⟨hz, hS⟩
  clear hz hS
  go_enter Tryz.func34, Tryz.ntmps34
  go_upto_region 1 with fail
  generalize w.alloc (.cells M.cs 23) = w1 at *
  have c0 : w1.cell? ⟨w.heap.size, 0, none⟩ = some (.int .i64 (M.z 0)) := HO.out.1.cell 0 (by decide)
  generalize hcs : M.cs = CS at *
  by_cases k1 : M.z 0 < 1
  · have HV : Hid (valE M = 30 ∧ valN M = 35) := by
      have hK : isK (M.z 0) = false := by simp [isK]; omega
      exact ⟨by simp [valE, hK], by simp [valN, hK]⟩
    go_wp2
    go_ret2
    exact ⟨ret2 (vint HV.out.1.symm) (vint HV.out.2.symm), HO.out.2⟩
  · by_cases k17 : 17 < M.z 0
    · have HV : Hid (valE M = 30 ∧ valN M = 35) := by
        have hK : isK (M.z 0) = false := by simp [isK]; omega
        exact ⟨by simp [valE, hK], by simp [valN, hK]⟩
      go_wp2
      go_ret2
      exact ⟨ret2 (vint HV.out.1.symm) (vint HV.out.2.symm), HO.out.2⟩
    · have HK : Hid (isK (M.z 0) = true) := by show isK (M.z 0) = true; simp [isK]; omega
      go_wp2_with (go_at_call 103; fail)
      refine (Rows_any w1).mono ?_
      rintro e w2 ⟨G, mu, ma, rfl, hG, hT, hb2⟩
      have HT : Hid (TabAt w2 G mu ma ∧ G < w2.heap.size ∧ OwnM w2 w.heap.size M ∧ Below w.heap.size w w2) := ⟨hT, hG, HO.out.1.below hb2 HO.out.1.lt, HO.out.2.trans (hb2.mono HO.out.2.size)⟩
      clear hT hG hb2 HO c0 k1 k17
      go_wp2
      go_loopw [5, 6, 7, 8, 9, 10, 11] (fun i x6 x7 x8 x9 x10 x11 wr => ∃ k : Nat, k ≤ 42 ∧ i = .int .i64 k ∧ Hid (∀ j, j < k → errAt M j = 0) ∧ Hid (Below w2.heap.size w2 wr)) (fun i _ _ _ _ _ _ _ => 42 - (intOf i).toNat)
      case atStart => exact ⟨0, by omega, rfl, fun j hj => by omega, Below.refl _ _⟩
      case round =>
        obtain ⟨k, hk, rfl, he, hb⟩ := hrel
        by_cases hlt : k < 42
        · have hlt' : (k : Int) < 42 := by omega
          have HTr : Hid (TabAt wr G mu ma) := HT.out.1.below HT.out.2.1 hb.out
          have c0 := HTr.out.cell k hlt 0 _ rfl
          have c1 := HTr.out.cell k hlt 1 _ rfl
          have c2 := HTr.out.cell k hlt 2 _ rfl
          have c3 := HTr.out.cell k hlt 3 _ rfl
          have c4 := HTr.out.cell k hlt 4 _ rfl
          have c5 := HTr.out.cell k hlt 5 _ rfl
          have c6 := HTr.out.cell k hlt 6 _ rfl
          rw [Nat.add_zero] at c0
          have hs := HTr.out.2 k hlt
          have hre := row_err M HK.out k hlt
          have HR : Hid (errAt M k ≠ 0 → valE M = errAt M k ∧ valN M = tNum.getD k 0) := fun hne => by
            have hf := firstErr_some hlt he.out hne
            simp [valE, valN, HK.out, hf]
          have HR2 : Hid (errAt M k = 0 → ∀ j, j < k + 1 → errAt M j = 0) := fun h0 j hj => by
            by_cases hjk : j = k
            · rw [hjk, h0]
            · exact he.out j (by omega)
          have HVa : Hid (∀ w', _) := fun w' => val_at M k hlt w'
          have HHa : Hid (∀ w' (c : Bool), SlI w' (mu k) (rMust.getD k []) → SlI w' (ma k) (rMay.getD k []) → _) := fun w' c h1 h2 => refhas_any (M.z 0) (tNum.getD k 0) (rWhat.getD k 0) (rLeast.getD k 0) (rMost.getD k 0) (tOz.getD k false) (mu k) (ma k) _ _ (must_len k hlt) (may_len k hlt) w' h1 h2 h1.form h2.form
          obtain ⟨au, lu, cu, hu⟩ := hs.1.form
          obtain ⟨aa, la, ca, ha⟩ := hs.2.form
          have HMa : Hid (∀ w', _) := fun w' => may_any (tNum.getD k 0) (rWhat.getD k 0) (rLeast.getD k 0) (rMost.getD k 0) (tOz.getD k false) au aa lu cu la ca (vN M k) (vS M k) (vS_in HZ.out.2 k) (vN_in HZ.out.1 k).1 (vN_in HZ.out.1 k).2 w'
          have HSl : Hid (SlI wr (.slice au lu cu) (rMust.getD k []) ∧ SlI wr (.slice aa la ca) (rMay.getD k [])) := by rw [hu, ha] at hs; exact hs
          rw [hu, ha] at HHa
          rw [hu] at c5
          rw [ha] at c6
          clear hs hu ha he HTr
          have hth : thB M k = (vN M k != 0 || (vS M k).size != 0) := rfl
          generalize hhv : hasR (M.z 0) (rMust.getD k []) (rMay.getD k []) = hv at *
          have hv3 : hv = 0 ∨ hv = 1 ∨ hv = 2 := by
            rw [← hhv]; unfold hasR
            split
            · simp
            · split <;> simp
          generalize mayS (rWhat.getD k 0) (rLeast.getD k 0) (rMost.getD k 0) (vN M k) (vS M k) = fi at *
          generalize thB M k = th at *
          generalize vN M k = nn at *
          generalize vS M k = ss at *
          generalize tNum.getD k 0 = n at *
          generalize rWhat.getD k 0 = what at *
          generalize rLeast.getD k 0 = least at *
          generalize rMost.getD k 0 = most at *
          generalize tOz.getD k false = oz at *
          generalize rMust.getD k [] = lmu at *
          generalize rMay.getD k [] = lma at *
          have HRE : Hid (errAt M k = refErr hv th fi oz) := hre
          clear hre hhv
          go_upto_region 8 with fail
          have hb1 : Below w2.heap.size w2 (wr.alloc (Obj.cells #[.int .i64 n, .int .i64 what, .int .i64 least, .int .i64 most, .bool oz, .slice au lu cu, .slice aa la ca] 116)) := hb.out.alloc (hb.out.size) _
          have hr1 : (wr.alloc (Obj.cells #[.int .i64 n, .int .i64 what, .int .i64 least, .int .i64 most, .bool oz, .slice au lu cu, .slice aa la ca] 116)).rangeAt wr.heap.size 0 [.int .i64 n, .int .i64 what, .int .i64 least, .int .i64 most, .bool oz, .slice au lu cu, .slice aa la ca] := fun j v hv => by
            rw [Nat.zero_add, cell_of_row _ _ _ _ _ _ (heap_alloc_new wr _)]
            simpa using hv
          have hsz : wr.heap.size < (wr.alloc (Obj.cells #[.int .i64 n, .int .i64 what, .int .i64 least, .int .i64 most, .bool oz, .slice au lu cu, .slice aa la ca] 116)).heap.size := by simp
          have hsl : SlI (wr.alloc (Obj.cells #[.int .i64 n, .int .i64 what, .int .i64 least, .int .i64 most, .bool oz, .slice au lu cu, .slice aa la ca] 116)) (.slice au lu cu) lmu ∧ SlI (wr.alloc (Obj.cells #[.int .i64 n, .int .i64 what, .int .i64 least, .int .i64 most, .bool oz, .slice au lu cu, .slice aa la ca] 116)) (.slice aa la ca) lma := ⟨HSl.out.1.below ((Below.refl _ _).alloc (Nat.le_refl _) _), HSl.out.2.below ((Below.refl _ _).alloc (Nat.le_refl _) _)⟩
          have HW : Hid ((Below w2.heap.size w2 (wr.alloc (Obj.cells #[.int .i64 n, .int .i64 what, .int .i64 least, .int .i64 most, .bool oz, .slice au lu cu, .slice aa la ca] 116)) ∧ SlI (wr.alloc (Obj.cells #[.int .i64 n, .int .i64 what, .int .i64 least, .int .i64 most, .bool oz, .slice au lu cu, .slice aa la ca] 116)) (.slice au lu cu) lmu ∧ SlI (wr.alloc (Obj.cells #[.int .i64 n, .int .i64 what, .int .i64 least, .int .i64 most, .bool oz, .slice au lu cu, .slice aa la ca] 116)) (.slice aa la ca) lma) ∧ wr.heap.size < (wr.alloc (Obj.cells #[.int .i64 n, .int .i64 what, .int .i64 least, .int .i64 most, .bool oz, .slice au lu cu, .slice aa la ca] 116)).heap.size ∧ (wr.alloc (Obj.cells #[.int .i64 n, .int .i64 what, .int .i64 least, .int .i64 most, .bool oz, .slice au lu cu, .slice aa la ca] 116)).rangeAt wr.heap.size 0 [.int .i64 n, .int .i64 what, .int .i64 least, .int .i64 most, .bool oz, .slice au lu cu, .slice aa la ca]) := ⟨⟨hb1, hsl⟩, hsz, hr1⟩
          clear hb hb1 hr1 hsz hsl HSl c0 c1 c2 c3 c4 c5 c6
          generalize wr.alloc (Obj.cells #[.int .i64 n, .int .i64 what, .int .i64 least, .int .i64 most, .bool oz, .slice au lu cu, .slice aa la ca] 116) = w3 at *
          generalize wr.heap.size = B at *
          have d0 : w3.cell? ⟨B, 0, none⟩ = some (.int .i64 n) := by have h := HW.out.2.2 0 _ rfl; rwa [Nat.zero_add] at h
          have HOw : Hid (OwnM w3 w.heap.size M) := HT.out.2.2.1.below HW.out.1.1 HT.out.2.2.1.lt
          refine wp_region_lit ?_
          refine wpList_loadM HOw.out (.tmp 1) rfl rfl rfl ?_
          simp only [Act.put, List.setIfInBounds_toArray, List.set_cons_zero, List.set_cons_succ]
          rw [hcs]
          have hva := HVa.out w3
          rw [hcs] at hva
          go_wp2_with (go_at_call 105; fail)
          refine hva.mono ?_
          rintro e w4 ⟨rfl, hb4⟩
          have HW4 : Hid ((Below w2.heap.size w2 w4 ∧ SlI w4 (.slice au lu cu) lmu ∧ SlI w4 (.slice aa la ca) lma) ∧ B < w4.heap.size ∧ w4.rangeAt B 0 [.int .i64 n, .int .i64 what, .int .i64 least, .int .i64 most, .bool oz, .slice au lu cu, .slice aa la ca]) :=
            ⟨⟨HW.out.1.1.trans (hb4.mono HW.out.1.1.size), HW.out.1.2.1.below hb4, HW.out.1.2.2.below hb4⟩, Nat.lt_of_lt_of_le HW.out.2.1 hb4.size, range_below HW.out.2.2 hb4 HW.out.2.1⟩
          clear HW HVa hva hb4 d0 HOw
          go_upto_region 9 with fail
          go_cut [9] from 22 to 82 (fun b wx => b = .bool th ∧ wx = w4)
          case first => as_aux_lemma =>
            clear HR HR2 HRE HHa HMa HW4
            cases h1 : (nn != 0)
            · rw [h1, Bool.false_or] at hth
              have HTh : Hid (th = (ss.size != 0)) := hth
              clear hth
              have h2 : ss.toList.isEmpty = (ss.size == 0) := isEmpty_size ss
              go_wp2_with fail
              go_meet
              exact ⟨by rw [HTh.out]; first | rfl | (simp [bne]; done), rfl⟩
            · rw [h1, Bool.true_or] at hth
              have HTh : Hid (th = true) := hth
              clear hth
              go_wp2_with fail
              go_meet
              exact ⟨by rw [HTh.out], rfl⟩
          case rest =>
            obtain ⟨rfl, rfl⟩ := hcut
            clear hth
            have HW : Hid ((Below w2.heap.size w2 wc ∧ SlI wc (.slice au lu cu) lmu ∧ SlI wc (.slice aa la ca) lma) ∧ B < wc.heap.size ∧ wc.rangeAt B 0 [.int .i64 n, .int .i64 what, .int .i64 least, .int .i64 most, .bool oz, .slice au lu cu, .slice aa la ca]) := HW4.out
            clear HW4
            have d0 : wc.cell? ⟨B, 0, none⟩ = some (.int .i64 n) := by have h := HW.out.2.2 0 _ rfl; rwa [Nat.zero_add] at h
            have d1 : wc.cell? ⟨B, 1, none⟩ = some (.int .i64 what) := by have h := HW.out.2.2 1 _ rfl; rwa [Nat.zero_add] at h
            have d2 : wc.cell? ⟨B, 2, none⟩ = some (.int .i64 least) := by have h := HW.out.2.2 2 _ rfl; rwa [Nat.zero_add] at h
            have d3 : wc.cell? ⟨B, 3, none⟩ = some (.int .i64 most) := by have h := HW.out.2.2 3 _ rfl; rwa [Nat.zero_add] at h
            have d4 : wc.cell? ⟨B, 4, none⟩ = some (.bool oz) := by have h := HW.out.2.2 4 _ rfl; rwa [Nat.zero_add] at h
            have d5 : wc.cell? ⟨B, 5, none⟩ = some (.slice au lu cu) := by have h := HW.out.2.2 5 _ rfl; rwa [Nat.zero_add] at h
            have d6 : wc.cell? ⟨B, 6, none⟩ = some (.slice aa la ca) := by have h := HW.out.2.2 6 _ rfl; rwa [Nat.zero_add] at h
            have k0 : wc.cell? ⟨w.heap.size, 0, none⟩ = some (.int .i64 (M.z 0)) := (HT.out.2.2.1.below HW.out.1.1 HT.out.2.2.1.lt).cell 0 (by decide)
            go_wp2_with (go_at_call 106; fail)
            refine (HHa.out wc true HW.out.1.2.1 HW.out.1.2.2).mono ?_
            rintro e w5 ⟨rfl, hb5⟩
            have HW5 : Hid (Below w2.heap.size w2 w5 ∧ B < w5.heap.size ∧ w5.rangeAt B 0 [.int .i64 n, .int .i64 what, .int .i64 least, .int .i64 most, .bool oz, .slice au lu cu, .slice aa la ca]) := ⟨HW.out.1.1.trans (hb5.mono HW.out.1.1.size), Nat.lt_of_lt_of_le HW.out.2.1 hb5.size, range_below HW.out.2.2 hb5 HW.out.2.1⟩
            clear HW hb5 HHa d0 d1 d2 d3 d4 d5 d6 k0
            have HW : Hid (Below w2.heap.size w2 w5 ∧ B < w5.heap.size ∧ w5.rangeAt B 0 [.int .i64 n, .int .i64 what, .int .i64 least, .int .i64 most, .bool oz, .slice au lu cu, .slice aa la ca]) := HW5.out
            have d0 : w5.cell? ⟨B, 0, none⟩ = some (.int .i64 n) := by have h := HW.out.2.2 0 _ rfl; rwa [Nat.zero_add] at h
            have d1 : w5.cell? ⟨B, 1, none⟩ = some (.int .i64 what) := by have h := HW.out.2.2 1 _ rfl; rwa [Nat.zero_add] at h
            have d2 : w5.cell? ⟨B, 2, none⟩ = some (.int .i64 least) := by have h := HW.out.2.2 2 _ rfl; rwa [Nat.zero_add] at h
            have d3 : w5.cell? ⟨B, 3, none⟩ = some (.int .i64 most) := by have h := HW.out.2.2 3 _ rfl; rwa [Nat.zero_add] at h
            have d4 : w5.cell? ⟨B, 4, none⟩ = some (.bool oz) := by have h := HW.out.2.2 4 _ rfl; rwa [Nat.zero_add] at h
            have d5 : w5.cell? ⟨B, 5, none⟩ = some (.slice au lu cu) := by have h := HW.out.2.2 5 _ rfl; rwa [Nat.zero_add] at h
            have d6 : w5.cell? ⟨B, 6, none⟩ = some (.slice aa la ca) := by have h := HW.out.2.2 6 _ rfl; rwa [Nat.zero_add] at h
            go_wp2_with (go_at_call 107; fail)
            refine (HMa.out w5).mono ?_
            rintro e w6 ⟨rfl, hb6⟩
            clear HW
            have HW : Hid (Below w2.heap.size w2 w6 ∧ B < w6.heap.size ∧ w6.rangeAt B 0 [.int .i64 n, .int .i64 what, .int .i64 least, .int .i64 most, .bool oz, .slice au lu cu, .slice aa la ca]) := ⟨HW5.out.1.trans (hb6.mono HW5.out.1.size), Nat.lt_of_lt_of_le HW5.out.2.1 hb6.size, range_below HW5.out.2.2 hb6 HW5.out.2.1⟩
            clear HW5 hb6 HMa d0 d1 d2 d3 d4 d5 d6
            have d0 : w6.cell? ⟨B, 0, none⟩ = some (.int .i64 n) := by have h := HW.out.2.2 0 _ rfl; rwa [Nat.zero_add] at h
            have d4 : w6.cell? ⟨B, 4, none⟩ = some (.bool oz) := by have h := HW.out.2.2 4 _ rfl; rwa [Nat.zero_add] at h
            have HB6 : Hid (Below w2.heap.size w2 w6 ∧ Below w.heap.size w w6) := ⟨HW.out.1, HT.out.2.2.2.trans (HW.out.1.mono HT.out.2.2.2.size)⟩
            clear HW
            rcases hv3 with rfl | rfl | rfl
            · cases th
              · have HV : Hid (∀ j, j < k + 1 → errAt M j = 0) := HR2.out (by rw [HRE.out]; simp [refErr])
                clear HR HR2 HRE
                go_wp2
                go_roundw
                case rel => exact ⟨k + 1, by omega, by go_num, HV, HB6.out.1⟩
                case measure => simp [intOf]; omega
              · have HV : Hid (valE M = 32 ∧ valN M = n) := by
                  have e : errAt M k = 32 := by rw [HRE.out]; simp [refErr]
                  have := HR.out (by rw [e]; decide)
                  rw [e] at this
                  exact this
                clear HR HR2 HRE
                go_wp2
                go_quiet (fail)
                go_wp2
                go_ret2
                exact ⟨ret2 (vint HV.out.1.symm) (vint HV.out.2.symm), below_drewN HB6.out.2 _⟩
            · cases th
              · have HV : Hid (∀ j, j < k + 1 → errAt M j = 0) := HR2.out (by rw [HRE.out]; simp [refErr])
                clear HR HR2 HRE
                go_wp2
                go_roundw
                case rel => exact ⟨k + 1, by omega, by go_num, HV, HB6.out.1⟩
                case measure => simp [intOf]; omega
              · cases fi
                · have HV : Hid (valE M = 31 ∧ valN M = n) := by
                    have e : errAt M k = 31 := by rw [HRE.out]; simp [refErr]
                    have := HR.out (by rw [e]; decide)
                    rw [e] at this
                    exact this
                  clear HR HR2 HRE
                  go_wp2
                  go_quiet (fail)
                  go_wp2
                  go_ret2
                  exact ⟨ret2 (vint HV.out.1.symm) (vint HV.out.2.symm), below_drewN HB6.out.2 _⟩
                · have HV : Hid (∀ j, j < k + 1 → errAt M j = 0) := HR2.out (by rw [HRE.out]; simp [refErr])
                  clear HR HR2 HRE
                  go_wp2
                  go_roundw
                  case rel => exact ⟨k + 1, by omega, by go_num, HV, HB6.out.1⟩
                  case measure => simp [intOf]; omega
            · cases th
              · cases oz
                · have HV : Hid (valE M = 31 ∧ valN M = n) := by
                    have e : errAt M k = 31 := by rw [HRE.out]; simp [refErr]
                    have := HR.out (by rw [e]; decide)
                    rw [e] at this
                    exact this
                  clear HR HR2 HRE
                  go_wp2
                  go_quiet (fail)
                  go_wp2
                  go_ret2
                  exact ⟨ret2 (vint HV.out.1.symm) (vint HV.out.2.symm), below_drewN HB6.out.2 _⟩
                · have HV : Hid (∀ j, j < k + 1 → errAt M j = 0) := HR2.out (by rw [HRE.out]; simp [refErr])
                  clear HR HR2 HRE
                  go_wp2
                  go_roundw
                  case rel => exact ⟨k + 1, by omega, by go_num, HV, HB6.out.1⟩
                  case measure => simp [intOf]; omega
              · cases fi
                · have HV : Hid (valE M = 31 ∧ valN M = n) := by
                    have e : errAt M k = 31 := by rw [HRE.out]; simp [refErr]
                    have := HR.out (by rw [e]; decide)
                    rw [e] at this
                    exact this
                  clear HR HR2 HRE
                  go_wp2
                  go_quiet (fail)
                  go_wp2
                  go_ret2
                  exact ⟨ret2 (vint HV.out.1.symm) (vint HV.out.2.symm), below_drewN HB6.out.2 _⟩
                · have HV : Hid (∀ j, j < k + 1 → errAt M j = 0) := HR2.out (by rw [HRE.out]; simp [refErr])
                  clear HR HR2 HRE
                  go_wp2
                  go_roundw
                  case rel => exact ⟨k + 1, by omega, by go_num, HV, HB6.out.1⟩
                  case measure => simp [intOf]; omega
        · obtain rfl : k = 42 := by omega
          have HR : Hid (valE M = (if fitN M = 0 then 0 else 31) ∧ valN M = fitN M) := by
            have hf := firstErr_none he.out
            show valE M = _ ∧ valN M = _
            simp [valE, valN, HK.out, hf]
          have HOw : Hid (OwnM wr w.heap.size M ∧ Below w.heap.size w wr) := ⟨HT.out.2.2.1.below hb.out HT.out.2.2.1.lt, HT.out.2.2.2.trans (hb.out.mono HT.out.2.2.2.size)⟩
          have hnn := fitN_nn M
          have hft := fits_any M wr
          rw [hcs] at hft
          clear he hb
          go_upto_region 18 with fail
          refine wp_region_lit ?_
          refine wpList_loadM HOw.out.1 (.tmp 1) rfl rfl rfl ?_
          simp only [Act.put, List.setIfInBounds_toArray, List.set_cons_zero, List.set_cons_succ]
          rw [hcs]
          generalize fitN M = fn at *
          go_wp2_with (go_at_call 108; fail)
          refine hft.mono ?_
          rintro e w4 ⟨rfl, hb4⟩
          have HB4 : Hid (Below w.heap.size w w4) := HOw.out.2.trans (hb4.mono HOw.out.2.size)
          clear HOw hb4 hft
          by_cases h0 : fn = 0
          · subst h0
            go_wp2
            go_ret2
            exact ⟨ret2 (vint (by rw [HR.out.1]; rfl)) (vint HR.out.2.symm), HB4.out⟩
          · have h0' : 0 < fn := by omega
            go_wp2
            go_ret2
            exact ⟨ret2 (vint (by rw [HR.out.1, if_neg h0])) (vint HR.out.2.symm), HB4.out⟩
end Go.Proofs.YthadnogcocmfgaaGreatDoor
