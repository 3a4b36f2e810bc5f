/-
  clock: leap years, months, the day of a date.
-/
import Derived.Test.YtkpoheknmcepnaaGreatDoorPlain
import Derived.Test.YtkpoheknmcepnaaGreatDoorProg
import Derived.Test.YtkpoheknmcepnaaGreatDoorCal
import Derived.WalkLawsBesides
import Derived.Lib.LaidTab
import Derived.Deep.QuietTactic
import Derived.BigQuiet
import Derived.BigRegion
namespace Go.Proofs.YtkpoheknmcepnaaGreatDoor
set_option linter.unusedVariables false
open Go.RowKit

/-- The months' days, as the program's text lays them. -/
def monTab : List Int := [31, 28, 31, 30, 31, 30, 31, 31, 30, 31, 30, 31]
def Mon (w : World) : Prop := ∀ k, k < 12 → w.cell? ⟨1, k, none⟩ = some (.int .i64 (monTab.getD k 0))
theorem Mon.drewN {w : World} (h : Mon w) (q : Nat) : Mon (w.drewN q) := h
theorem Mon.below {w w' : World} {B : Nat} (h : Mon w) (hb : Below B w w') (hB : 1 < B) : Mon w' := fun k hk => by rw [hb.cell (p := ⟨1, k, none⟩) hB]; exact h k hk
theorem Mon.lt {w : World} (h : Mon w) : 1 < w.heap.size := World.block_lt_of_cell? _ _ (h 0 (by decide))

def leapB (y : Nat) : Bool := leapN y == 1
theorem leapB_true {y : Nat} (h : y % 4 = 0 ∧ ¬ y % 100 = 0 ∨ y % 400 = 0) : leapB y = true := by unfold leapB leapN; rw [if_pos h]; rfl
theorem leapB_false {y : Nat} (h : ¬ (y % 4 = 0 ∧ ¬ y % 100 = 0 ∨ y % 400 = 0)) : leapB y = false := by unfold leapB leapN; rw [if_neg h]; rfl
set_option maxRecDepth 100000 in
set_option maxHeartbeats 400000 in
theorem isLeap_any (z : Int) (y : Nat) (hz : z = y) (w : World) (hy : y ≤ 9999) :
    Calls Tryz.prog 167 #[.int .i64 z] w fun e w' => e = .returned (.bool (leapB y)) ∧ w' = w := by
  subst hz
  go_enter Tryz.func167, Tryz.ntmps167
  go_wp2
  all_goals go_ret
  all_goals refine ⟨congrArg Ending.returned (congrArg Value.bool ?_), rfl⟩
  · by_cases h : y % 400 = 0
    · rw [leapB_true (by omega)]; simp; omega
    · rw [leapB_false (by omega)]; simp; omega
  · rw [leapB_true (by omega)]
  · by_cases h : y % 400 = 0
    · rw [leapB_true (by omega)]; simp; omega
    · rw [leapB_false (by omega)]; simp; omega
theorem mon_mlen {y m : Nat} (h0 : 1 ≤ m) (h1 : m ≤ 12) : (mlen y m : Int) = monTab.getD (m - 1) 0 + (if m = 2 ∧ leapB y = true then 1 else 0) := by
  have hl : leapN y = if leapB y = true then 1 else 0 := by
    have := leapN_le y
    unfold leapB
    by_cases h : leapN y = 1
    · rw [h]; rfl
    · rw [show leapN y = 0 by omega]; rfl
  have : m = 1 ∨ m = 2 ∨ m = 3 ∨ m = 4 ∨ m = 5 ∨ m = 6 ∨ m = 7 ∨ m = 8 ∨ m = 9 ∨ m = 10 ∨ m = 11 ∨ m = 12 := by omega
  rcases this with rfl | rfl | rfl | rfl | rfl | rfl | rfl | rfl | rfl | rfl | rfl | rfl <;> simp [mlen, monTab, hl]
  split <;> rfl
set_option maxRecDepth 100000 in
set_option maxHeartbeats 400000 in
theorem daysOfMonth_any (z x : Int) (y m : Nat) (hz : z = y) (hx : x = m) (w : World) (hM : Mon w) (hy : y ≤ 9999) (h0 : 1 ≤ m) (h1 : m ≤ 12) :
    Calls Tryz.prog 161 #[.int .i64 z, .int .i64 x] w fun e w' => e = .returned (.int .i64 (mlen y m : Int)) ∧ w' = w := by
  subst hz hx
  have hc := hM (m - 1) (by omega)
  have em := mon_mlen (y := y) h0 h1
  have hm1 : (1 : Int) ≤ (m : Int) := by omega
  have hm2 : (m : Int) ≤ 12 := by omega
  obtain ⟨k, rfl⟩ : ∃ k, m = k + 1 := ⟨m - 1, by omega⟩
  simp only [Nat.add_sub_cancel] at hc em
  have hv : Hid (-100 ≤ monTab.getD k 0 ∧ monTab.getD k 0 ≤ 100) := by
    have := mlen_le y (k + 1); have := mlen_pos y (k + 1)
    have h : -100 ≤ monTab.getD k 0 ∧ monTab.getD k 0 ≤ 100 := by split at em <;> omega
    exact h
  generalize monTab.getD k 0 = v at *
  have hv1 : -100 ≤ v := hv.out.1
  have hv2 : v ≤ 100 := hv.out.2
  clear hM
  by_cases h2 : k = 1
  · subst h2
    cases hl : leapB y
    · rw [hl] at em
      have hl' := isLeap_any (y : Int) y rfl w hy
      rw [hl] at hl'
      simp at em
      clear hl
      go_enter Tryz.func161, Tryz.ntmps161
      go_wp2_with (go_at_call 167; refine hl'.mono ?_; rintro e w' ⟨rfl, rfl⟩)
      go_ret
      exact ⟨ret_int em.symm, rfl⟩
    · rw [hl] at em
      have hl' := isLeap_any (y : Int) y rfl w hy
      rw [hl] at hl'
      simp at em
      clear hl
      go_enter Tryz.func161, Tryz.ntmps161
      go_wp2_with (go_at_call 167; refine hl'.mono ?_; rintro e w' ⟨rfl, rfl⟩)
      go_ret
      exact ⟨ret_int em.symm, rfl⟩
  · have h2' : ¬ (k : Int) + 1 = 2 := by omega
    rw [if_neg (by omega)] at em
    go_enter Tryz.func161, Tryz.ntmps161
    go_wp2
    go_ret
    exact ⟨ret_int (by omega), rfl⟩

/-- The leap years ahead of one, from the year 1 on. -/
def leapsA (y : Nat) : Nat := (y - 1) / 4 + (y - 1) / 400 - (y - 1) / 100
set_option maxRecDepth 100000 in
set_option maxHeartbeats 400000 in
theorem leapsAhead_any (z : Int) (y : Nat) (hz : z = y) (w : World) (h0 : 1970 ≤ y) (hy : y ≤ 10000) :
    Calls Tryz.prog 168 #[.int .i64 z] w fun e w' => e = .returned (.int .i64 (leapsA y : Int)) ∧ w' = w := by
  subst hz
  obtain ⟨x, rfl⟩ : ∃ x, y = x + 1 := ⟨y - 1, by omega⟩
  have hg := leaps_ge x (by omega)
  have e : leapsA (x + 1) = x / 4 + x / 400 - x / 100 := rfl
  go_enter Tryz.func168, Tryz.ntmps168
  go_wp2
  go_ret
  exact ⟨ret_int (by rw [e]; omega), rfl⟩
set_option maxRecDepth 100000 in
set_option maxHeartbeats 400000 in
theorem firstDayOfYear_any (z : Int) (y : Nat) (hz : z = y) (w : World) (h0 : 1970 ≤ y) (hy : y ≤ 10000) :
    Calls Tryz.prog 162 #[.int .i64 z] w fun e w' => e = .returned (.int .i64 (ahead y : Int)) ∧ w' = w := by
  subst hz
  have h1 := leapsAhead_any (y : Int) y rfl w h0 hy
  have h2 := leapsAhead_any 1970 1970 rfl w (by omega) (by omega)
  rw [show leapsA 1970 = 477 by decide] at h2
  have hg := leaps_ge (y - 1) (by omega)
  have e : ahead y + 477 = (y - 1970) * 365 + leapsA y := by unfold ahead leapsA; omega
  have hl : leapsA y ≤ 10000 := by unfold leapsA; omega
  clear hg
  generalize leapsA y = l at *
  go_enter Tryz.func162, Tryz.ntmps162
  go_wp2_with (go_at_call 168; fail)
  refine h1.mono ?_
  rintro e w' ⟨rfl, rfl⟩
  go_wp2_with (go_at_call 168; fail)
  refine h2.mono ?_
  rintro e w' ⟨rfl, rfl⟩
  go_wp2
  go_ret
  exact ⟨ret_int (by omega), rfl⟩
set_option maxRecDepth 100000 in
set_option maxHeartbeats 400000 in
theorem startOfDay_any (z : Int) (n : Nat) (hz : z = n) (w : World) (hn : n ≤ 2932896) :
    Calls Tryz.prog 153 #[.int .i64 z] w fun e w' => e = .returned (.int .i64 ((n : Int) * 86400000)) ∧ w' = w := by
  subst hz
  go_enter Tryz.func153, Tryz.ntmps153
  go_wp2
  go_ret
  exact ⟨rfl, rfl⟩
def isT (z : Int) : Bool := decide (0 ≤ z ∧ z ≤ 253402300799999)
/-- What dayOfDate tells. -/
def dnV (z : Int) : Int := match dnum z with
  | some n => n
  | none => 0
def dnB (z : Int) : Bool := (dnum z).isSome
theorem dnum_neg {z : Int} (h : z < 19700000) : dnum z = none := by
  unfold dnum
  rw [if_neg]
  rintro ⟨h0, h1⟩
  have := h1.y0
  omega
theorem dn_yes {k : Nat} (h : IsD (k / 10000) (k / 100 % 100) (k % 100)) : dnV k = (dayNo (k / 10000) (k / 100 % 100) (k % 100) : Int) ∧ dnB k = true := by
  have e : dnum k = some (dayNo (k / 10000) (k / 100 % 100) (k % 100)) := by
    unfold dnum
    rw [Int.toNat_natCast, if_pos ⟨by omega, h⟩]
  unfold dnV dnB
  rw [e]
  exact ⟨rfl, rfl⟩
theorem dn_no {k : Nat} (h : ¬ IsD (k / 10000) (k / 100 % 100) (k % 100)) : dnV k = 0 ∧ dnB k = false := by
  have e : dnum k = none := by
    unfold dnum
    rw [Int.toNat_natCast, if_neg (fun x => h x.2)]
  unfold dnV dnB
  rw [e]
  exact ⟨rfl, rfl⟩
theorem dn_less {z : Int} (h : z < 19700000) : dnV z = 0 ∧ dnB z = false := by
  unfold dnV dnB
  rw [dnum_neg h]
  exact ⟨rfl, rfl⟩
set_option maxRecDepth 100000 in
set_option maxHeartbeats 400000 in
theorem dayOfDate_none (z : Int) (w : World) (hz0 : -9223372036854775808 ≤ z) (hz : z < 19700000) :
    Calls Tryz.prog 152 #[.int .i64 z] w fun e w' => e = .returned (.tuple #[.int .i64 0, .bool false]) ∧ w' = w := by
  have h1 : z.tdiv 10000 < 1970 := by
    rcases Int.lt_or_le z 0 with h | h
    · have h2 := Int.tdiv_nonneg (a := -z) (b := 10000) (by omega) (by decide)
      rw [Int.neg_tdiv] at h2
      omega
    · rw [Int.tdiv_eq_ediv_of_nonneg h]; omega
  go_enter Tryz.func152, Tryz.ntmps152
  go_wp2
  go_ret2
  exact ⟨rfl, rfl⟩
set_option maxRecDepth 100000 in
set_option maxHeartbeats 400000 in
theorem dayOfDate_nat (k : Nat) (w : World) (hM : Mon w) (hk : k ≤ 9223372036854775807) (hk0 : 19700000 ≤ k) :
    Calls Tryz.prog 152 #[.int .i64 (k : Int)] w fun e w' => e = .returned (.tuple #[.int .i64 (dnV k), .bool (dnB k)]) ∧ w' = w := by
  have eP := dn_yes (k := k)
  have eN := dn_no (k := k)
  have q1 : (k : Int) / 10000 = ((k / 10000 : Nat) : Int) := by omega
  have q2 : (k : Int) / 100 % 100 = ((k / 100 % 100 : Nat) : Int) := by omega
  have q3 : (k : Int) % 100 = ((k % 100 : Nat) : Int) := by omega
  have y0 : 1970 ≤ k / 10000 := by omega
  have b2 : k / 100 % 100 < 100 := by omega
  have b3 : k % 100 < 100 := by omega
  generalize k / 10000 = y at *
  generalize k / 100 % 100 = m at *
  generalize k % 100 = d at *
  by_cases hy : y ≤ 9999
  · by_cases hm : 1 ≤ m ∧ m ≤ 12
    · by_cases hd : 1 ≤ d ∧ d ≤ mlen y m
      · have hD : IsD y m d := ⟨y0, hy, hm.1, hm.2, hd.1, hd.2⟩
        obtain ⟨eV, eB⟩ := eP hD
        rw [eV, eB]
        clear eN eP eV eB
        have hlast := hD.last
        have hy1 : (y : Int) ≤ 9999 := by omega
        have hy0 : (1970 : Int) ≤ y := by omega
        have hm1 : (1 : Int) ≤ m := by omega
        have hm2 : (m : Int) ≤ 12 := by omega
        have hd1 : (1 : Int) ≤ d := by omega
        have hd2 : (d : Int) ≤ (mlen y m : Int) := by omega
        have HM : Hid (Mon w) := hM
        have hA : ahead y ≤ 2932897 := by have := hD.lo; omega
        clear hM
        go_enter Tryz.func152, Tryz.ntmps152
        go_wp2_with (go_at_call 161; fail)
        refine (daysOfMonth_any _ _ y m rfl rfl _ HM.out hy hm.1 hm.2).mono ?_
        rintro e w ⟨rfl, rfl⟩
        go_wp2_with (go_at_call 162; fail)
        refine (firstDayOfYear_any _ y rfl _ y0 (by omega)).mono ?_
        rintro e w ⟨rfl, rfl⟩
        go_wp2
        go_loopw [7, 8] (fun a i wr => ∃ j : Nat, 1 ≤ j ∧ j ≤ m ∧ i = .int .i64 j ∧ a = .int .i64 ((ahead y : Int) + d - 1 + (msum y (j - 1) : Int)) ∧ wr = w) (fun _ i _ => m - (intOf i).toNat)
        case atStart => exact ⟨1, by omega, by omega, rfl, vint (by simp [msum]), rfl⟩
        case round =>
          obtain ⟨j, hj0, hj1, rfl, rfl, rfl⟩ := hrel
          by_cases hlt : j < m
          · have hlt' : (j : Int) < (m : Int) := by omega
            have hs1 := msum_mono y (j := j - 1) (k := 12) (by omega)
            rw [msum_year] at hs1
            have hs2 := leapN_le y
            have hs3 := mlen_le y j
            have hs4 : msum y (j - 1) + mlen y j = msum y (j + 1 - 1) := by
              obtain ⟨i, rfl⟩ : ∃ i, j = i + 1 := ⟨j - 1, by omega⟩
              simp [msum]
            go_wp2_with (go_at_call 161; fail)
            refine (daysOfMonth_any _ _ y j rfl rfl _ HM.out hy hj0 (by omega)).mono ?_
            rintro e w ⟨rfl, rfl⟩
            go_wp2
            go_roundw
            case rel => exact ⟨j + 1, by omega, by omega, by go_num, vint (by omega), by first | rfl | trivial⟩
            case measure => simp [intOf]; omega
          · obtain rfl : j = m := by omega
            have e1 : (ahead y : Int) + d - 1 + (msum y (j - 1) : Int) = (dayNo y j d : Int) := by unfold dayNo; omega
            go_wp2
            go_ret2
            exact ⟨ret2 (vint e1) rfl, by first | rfl | trivial⟩
      · obtain ⟨eV, eB⟩ := eN (fun h => hd ⟨h.d0, h.d1⟩)
        rw [eV, eB]
        clear eN eP eV eB
        have hy1 : (y : Int) ≤ 9999 := by omega
        have hy0 : (1970 : Int) ≤ y := by omega
        have hm1 : (1 : Int) ≤ m := by omega
        have hm2 : (m : Int) ≤ 12 := by omega
        rcases Nat.lt_or_ge d 1 with h1 | h1
        · have hm2 : (d : Int) < 1 := by omega
          go_enter Tryz.func152, Tryz.ntmps152
          go_wp2
          go_ret2
          exact ⟨rfl, rfl⟩
        · have hd1 : (1 : Int) ≤ d := by omega
          have hd2 : (mlen y m : Int) < d := by omega
          go_enter Tryz.func152, Tryz.ntmps152
          go_wp2_with (go_at_call 161; fail)
          refine (daysOfMonth_any _ _ y m rfl rfl _ hM hy hm.1 hm.2).mono ?_
          rintro e w ⟨rfl, rfl⟩
          go_wp2
          go_ret2
          exact ⟨rfl, rfl⟩
    · obtain ⟨eV, eB⟩ := eN (fun h => hm ⟨h.m0, h.m1⟩)
      rw [eV, eB]
      clear eN eP eV eB
      have hy1 : (y : Int) ≤ 9999 := by omega
      have hy0 : (1970 : Int) ≤ y := by omega
      rcases Nat.lt_or_ge m 1 with hm1 | hm1
      · have hm2 : (m : Int) < 1 := by omega
        go_enter Tryz.func152, Tryz.ntmps152
        go_wp2
        go_ret2
        exact ⟨rfl, rfl⟩
      · have hm2 : (1 : Int) ≤ m := by omega
        have hm3 : (12 : Int) < m := by omega
        go_enter Tryz.func152, Tryz.ntmps152
        go_wp2
        go_ret2
        exact ⟨rfl, rfl⟩
  · obtain ⟨eV, eB⟩ := eN (fun h => hy h.y1)
    rw [eV, eB]
    clear eN eP eV eB
    have hy1 : (9999 : Int) < y := by omega
    have hy0 : (1970 : Int) ≤ y := by omega
    go_enter Tryz.func152, Tryz.ntmps152
    go_wp2
    go_ret2
    exact ⟨rfl, rfl⟩
theorem dayOfDate_any (z : Int) (w : World) (hM : Mon w) (h0 : -9223372036854775808 ≤ z) (h1 : z ≤ 9223372036854775807) :
    Calls Tryz.prog 152 #[.int .i64 z] w fun e w' => e = .returned (.tuple #[.int .i64 (dnV z), .bool (dnB z)]) ∧ w' = w := by
  by_cases h : z < 19700000
  · rw [(dn_less h).1, (dn_less h).2]
    exact dayOfDate_none z w h0 h
  · obtain ⟨k, rfl⟩ : ∃ k : Nat, z = k := ⟨z.toNat, by omega⟩
    exact dayOfDate_nat k w hM (by omega) (by omega)
end Go.Proofs.YtkpoheknmcepnaaGreatDoor
