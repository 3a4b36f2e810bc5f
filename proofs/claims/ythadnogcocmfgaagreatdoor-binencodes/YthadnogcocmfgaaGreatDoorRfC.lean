import Derived.Test.YthadnogcocmfgaaGreatDoorBShown
import Derived.BigQuiet
import Derived.Test.YthadnogcocmfgaaGreatDoorRfB
import Derived.Test.YthadnogcocmfgaaGreatDoorOwn
import Derived.Test.YthadnogcocmfgaaGreatDoorBNum
import Derived.Test.YthadnogcocmfgaaGreatDoorMsgUpd
import Derived.Test.YthadnogcocmfgaaGreatDoorRfA

namespace Go.Proofs.YthadnogcocmfgaaGreatDoor
set_option linter.unusedVariables false
open Go.RowKit Go.Great Go.Lib

set_option maxRecDepth 100000 in
set_option maxHeartbeats 400000 in
theorem back_any (g n : Nat) (a : Option Addr) (cap' : Nat) (d : Nat → Nat) (w : World) (hn : n ≤ 140737488351232) (hs : Src w a n d) (ho : OwnA w g (n + 8) (fun j => if j < n then d j else 201)) :
    Calls Tryz.prog 36 #[.slice (some ⟨g, 0, none⟩) n (n + 8), .slice a n cap'] w fun e w' => e = .returned (.bool true) ∧ Below w.heap.size w w' := by
  have HS : Hid (Src w a n d ∧ OwnA w g (n + 8) (fun j => if j < n then d j else 201)) := ⟨hs, ho⟩
  clear hs ho
  go_enter Tryz.func36, Tryz.ntmps36
  go_wp2
  go_loopw [6] (fun i wr => ∃ k : Nat, k ≤ n + 8 ∧ i = .int .i64 k ∧ Below w.heap.size w wr) (fun i _ => n + 8 - (RowKit.intOf i).toNat)
  case atStart => exact ⟨0, Nat.zero_le _, rfl, Below.refl _ _⟩
  case round =>
    obtain ⟨k, hk, rfl, hbl⟩ := hrel
    have HB : Hid (Below w.heap.size w wr) := hbl
    by_cases hlt : k < n + 8
    · have hlt' : (k : Int) < (n : Int) + 8 := by omega
      have hc := (HS.out.2.below hbl HS.out.2.lt).cell k hlt
      by_cases hkn : k < n
      · have hkn' : (k : Int) < (n : Int) := by omega
        rw [if_pos hkn] at hc
        rcases HS.out.1.below hbl with h0 | ⟨b, off, ea, hr⟩
        · omega
        · have hc2 := (hr k hkn).1
          subst ea
          clear hr hbl
          have hge : decide (n ≤ k) = false := decide_eq_false (by omega)
          go_wp2
          go_quiet (fail)
          go_wp2
          exact ⟨⟨k + 1, by omega, by go_num, below_drewN HB.out _⟩, by simp [RowKit.intOf]; omega⟩
      · have hge' : (n : Int) ≤ (k : Int) := by omega
        have hkn' : decide ((k : Int) < (n : Int)) = false := decide_eq_false (by omega)
        rw [if_neg hkn] at hc
        clear hbl
        go_wp2
        go_quiet (fail)
        go_wp2
        exact ⟨⟨k + 1, by omega, by go_num, below_drewN HB.out _⟩, by simp [RowKit.intOf]; omega⟩
    · have ek : k = n + 8 := by omega
      subst ek
      go_wp2
      go_ret
      exact ⟨rfl, HB.out⟩
set_option maxRecDepth 100000 in
set_option maxHeartbeats 400000 in
theorem small_any (a : Option Addr) (n cap : Nat) (d : Nat → Nat) (w : World) (hn : n ≤ 8) (hs : Src w a n d) :
    Calls Tryz.prog 111 #[.slice a n cap] w fun e w' => e = .returned (.int .u64 (getN d n : Nat)) ∧ w' = w := by
  have HS : Hid (Src w a n d) := hs
  clear hs
  go_enter Tryz.func111, Tryz.ntmps111
  go_wp2
  go_loopw [3, 4] (fun v i wr => ∃ k : Nat, k ≤ n ∧ i = .int .i64 k ∧ v = .int .u64 (getN d k : Nat) ∧ wr = w) (fun _ i _ => n - (RowKit.intOf i).toNat)
  case atStart => exact ⟨0, Nat.zero_le _, rfl, rfl, rfl⟩
  case round =>
    obtain ⟨k, hk, rfl, rfl, rfl⟩ := hrel
    by_cases hlt : k < n
    · have hlt' : (k : Int) < (n : Int) := by omega
      rcases HS.out with h0 | ⟨b, off, ea, hr⟩
      · omega
      · obtain ⟨hc, h8⟩ := hr k hlt
        subst ea
        have hN := getN_lt8 d (k + 1) (by omega) (fun j hj => (hr j (by omega)).2)
        have e : getN d (k + 1) = getN d k * 256 + d k := rfl
        have HE : Hid (getN d (k + 1) = getN d k * 256 + d k) := e
        rw [e] at hN
        clear hr e
        generalize getN d k = G at *
        generalize d k = dk at *
        go_wp2
        exact ⟨⟨k + 1, by omega, by go_num, by rw [HE.out]; go_num, trivial⟩, by simp [RowKit.intOf]; omega⟩
    · have ek : k = n := by omega
      subst ek
      go_wp2
      go_ret
      exact ⟨rfl, rfl⟩
end Go.Proofs.YthadnogcocmfgaaGreatDoor

namespace Go.Proofs.YthadnogcocmfgaaGreatDoor
set_option linter.unusedVariables false
open Go.RowKit

set_option maxRecDepth 100000 in
set_option maxHeartbeats 1000000 in
theorem big_any (B : Nat) (v : Value) (n : Nat) (l : List Nat) (u s : Nat) (hs8 : s ≤ 8) (w : World) (hn : n ≤ 140737488351232) (hu : u < 18446744073709551616) (ho : w.ownsRow B 5 1 v n (bvals l)) (hB : B ≤ w.heap.size) :
    Calls Tryz.prog 109 #[v, .int .u64 (u : Int), .int .i64 (s : Int)] w fun e w' => ∃ v', e = .returned v' ∧ w'.ownsRow B 5 1 v' (n + s) (bvals (l ++ putTo u s s)) ∧ Below B w w' := by
  obtain ⟨i0, hi, hz0, hz1, hz2⟩ := info_parts info5
  have hs8' : (s : Int) ≤ 8 := by omega
  have hs0' : (0 : Int) ≤ (s : Int) := by omega
  obtain ⟨a1, c1, rfl⟩ := own_form ho
  have HO : Hid (w.ownsRow B 5 1 (.slice a1 n c1) n (bvals l) ∧ B ≤ w.heap.size) := ⟨ho, hB⟩
  clear ho hB
  go_enter Tryz.func109, Tryz.ntmps109
  go_wp2
  go_loopw [0, 7] (fun o i wr => ∃ (j : Nat) (ao : Option Addr) (cv : Nat) (i' : Int), j ≤ s ∧ i = .int .i64 i' ∧ i' = (s : Int) - 1 - j ∧ o = .slice ao (n + j) cv ∧ wr.ownsRow B 5 1 o (n + j) (bvals (l ++ putTo u s j)) ∧ Below B w wr) (fun _ i _ => (intOf i + 1).toNat)
  case atStart => exact ⟨0, a1, c1, _, by omega, rfl, by omega, rfl, by simpa [putTo] using HO.out.1, Below.refl _ _⟩
  case round =>
    obtain ⟨j, ao, cv, i', hj, rfl, hi', rfl, hown, hbl⟩ := hrel
    by_cases hlt : j < s
    · obtain ⟨k, hk⟩ : ∃ k : Nat, k = s - 1 - j := ⟨_, rfl⟩
      have hik : i' = (k : Int) := by omega
      subst hik
      have hk8 : 8 * k < 64 := by omega
      have hv : (u : Int) / 2 ^ (8 * k) % 256 = ((u / 2 ^ (8 * k) % 256 : Nat) : Int) := by simp
      have HP : Hid (bvals (l ++ putTo u s (j + 1)) = bvals (l ++ putTo u s j) ++ [.int .u8 ((u / 2 ^ (8 * k) % 256 : Nat) : Int)]) := by
        show _ = _
        rw [putTo_succ, ← hk, ← List.append_assoc, bvals_append]
        rfl
      have hx256 : u / 2 ^ (8 * k) % 256 < 256 := Nat.mod_lt _ (by decide)
      have HA : Hid (Below B w wr ∧ B ≤ wr.heap.size ∧ wr.ownsRow B 5 1 (.slice ao (n + j) cv) (n + j) (bvals (l ++ putTo u s j))) := ⟨hbl, Nat.le_trans HO.out.2 hbl.size, hown⟩
      have HK : Hid (k = s - 1 - j) := hk
      clear hown hbl hi' hk
      generalize u / 2 ^ (8 * k) % 256 = X at *
      have hnew : Hid (∀ j u, [Value.int .u8 (X : Int)][j]? = some u → (wr.alloc (.cells #[.int .u8 (X : Int)] 5)).cell? ((⟨wr.heap.size, 0, none⟩ : Addr).add j) = some u) := cell_one_new wr (.int .u8 (X : Int)) 5
      go_wp2_with (at_builtin; refine wpList_append_own _ rfl _ _ 28 rfl B 5 i0 (.int .u8 0) 1 1 Tryz.underlying28 hi hz0 hz1 hz2 rfl (by decide) _ (n + j) (bvals (l ++ putTo u s j)) rfl (HA.out.2.2.alloc _) ⟨wr.heap.size, 0, none⟩ 1 1 [.int .u8 (X : Int)] rfl rfl hnew.out (fun x hx => by simp at hx; subst hx; rfl) (by unfold maxLen; omega) (by omega) (by have := HA.out.2.1; simp; omega) ?_; intro v' w3 hown' hgrow3 hnil3)
      have hg3 : (wr.alloc (.cells #[.int .u8 (X : Int)] 5)).grownBy w3 (Value.slice ao (n + j) cv).ownBlock := hgrow3
      have hb3 : Below B w w3 := below_grownBy (HA.out.1.alloc HA.out.2.1 _) hg3 HO.out.2 (fun q hq => (HA.out.2.2.lt q hq).1)
      rw [← HP.out] at hown'
      obtain ⟨a3, c3, rfl⟩ := own_form hown'
      have HB3 : Hid (Below B w w3 ∧ w3.ownsRow B 5 1 (.slice a3 (n + j + 1) c3) (n + j + 1) (bvals (l ++ putTo u s (j + 1)))) := ⟨hb3, hown'⟩
      clear hb3 hown' hg3 hgrow3 hnil3
      exact ⟨⟨j + 1, a3, c3, _, by omega, rfl, by have := HK.out; omega, rfl, HB3.out.2, HB3.out.1⟩, by simp [intOf]⟩
    · obtain rfl : j = s := by omega
      have hneg : i' = -1 := by omega
      subst hneg
      have HW : Hid (wr.ownsRow B 5 1 (.slice ao (n + j) cv) (n + j) (bvals (l ++ putTo u j j)) ∧ Below B w wr) := ⟨hown, hbl⟩
      clear hown hbl hi'
      go_wp2
      go_ret
      exact ⟨_, rfl, HW.out.1, HW.out.2⟩
end Go.Proofs.YthadnogcocmfgaaGreatDoor

namespace Go.Proofs.YthadnogcocmfgaaGreatDoor
set_option linter.unusedVariables false
open Go.RowKit

def howL : List Int := [0, 2, 2, 0, 1, 0, 0, 0, 1, 2, 0, 0, 0, 1, 0, 0, 0, 0, 2, 2, 2, 2, 2, 0, 0, 0, 0, 0, 0, 0, 0, 0, 0, 0, 0, 0, 0, 0, 0, 0, 0, 0]
set_option maxRecDepth 100000 in
theorem refSize1 (w : World) : Calls Tryz.prog 33 #[.int .i64 49] w fun e w' => e = .returned (.tuple #[.int .i64 12, .int .i64 2]) ∧ w' = w := by
  go_enter Tryz.func33, Tryz.ntmps33
  go_wp2
  go_ret2
  exact ⟨rfl, rfl⟩
set_option maxRecDepth 100000 in
theorem refSize2 (w : World) : Calls Tryz.prog 33 #[.int .i64 56] w fun e w' => e = .returned (.tuple #[.int .i64 12, .int .i64 2]) ∧ w' = w := by
  go_enter Tryz.func33, Tryz.ntmps33
  go_wp2
  go_ret2
  exact ⟨rfl, rfl⟩
set_option maxRecDepth 100000 in
theorem refSize3 (w : World) : Calls Tryz.prog 33 #[.int .i64 34] w fun e w' => e = .returned (.tuple #[.int .i64 4, .int .i64 0]) ∧ w' = w := by
  go_enter Tryz.func33, Tryz.ntmps33
  go_wp2
  go_ret2
  exact ⟨rfl, rfl⟩
set_option maxRecDepth 100000 in
theorem refSize4 (w : World) : Calls Tryz.prog 33 #[.int .i64 43] w fun e w' => e = .returned (.tuple #[.int .i64 1, .int .i64 1]) ∧ w' = w := by
  go_enter Tryz.func33, Tryz.ntmps33
  go_wp2
  go_ret2
  exact ⟨rfl, rfl⟩
set_option maxRecDepth 100000 in
theorem refSize5 (w : World) : Calls Tryz.prog 33 #[.int .i64 52] w fun e w' => e = .returned (.tuple #[.int .i64 8, .int .i64 0]) ∧ w' = w := by
  go_enter Tryz.func33, Tryz.ntmps33
  go_wp2
  go_ret2
  exact ⟨rfl, rfl⟩
set_option maxRecDepth 100000 in
theorem refSize6 (w : World) : Calls Tryz.prog 33 #[.int .i64 122] w fun e w' => e = .returned (.tuple #[.int .i64 8, .int .i64 0]) ∧ w' = w := by
  go_enter Tryz.func33, Tryz.ntmps33
  go_wp2
  go_ret2
  exact ⟨rfl, rfl⟩
set_option maxRecDepth 100000 in
theorem refSize7 (w : World) : Calls Tryz.prog 33 #[.int .i64 108] w fun e w' => e = .returned (.tuple #[.int .i64 2, .int .i64 0]) ∧ w' = w := by
  go_enter Tryz.func33, Tryz.ntmps33
  go_wp2
  go_ret2
  exact ⟨rfl, rfl⟩
set_option maxRecDepth 100000 in
theorem refSize8 (w : World) : Calls Tryz.prog 33 #[.int .i64 141] w fun e w' => e = .returned (.tuple #[.int .i64 1, .int .i64 1]) ∧ w' = w := by
  go_enter Tryz.func33, Tryz.ntmps33
  go_wp2
  go_ret2
  exact ⟨rfl, rfl⟩
set_option maxRecDepth 100000 in
theorem refSize9 (w : World) : Calls Tryz.prog 33 #[.int .i64 112] w fun e w' => e = .returned (.tuple #[.int .i64 20, .int .i64 2]) ∧ w' = w := by
  go_enter Tryz.func33, Tryz.ntmps33
  go_wp2
  go_ret2
  exact ⟨rfl, rfl⟩
set_option maxRecDepth 100000 in
theorem refSize10 (w : World) : Calls Tryz.prog 33 #[.int .i64 7] w fun e w' => e = .returned (.tuple #[.int .i64 4, .int .i64 0]) ∧ w' = w := by
  go_enter Tryz.func33, Tryz.ntmps33
  go_wp2
  go_ret2
  exact ⟨rfl, rfl⟩
set_option maxRecDepth 100000 in
theorem refSize11 (w : World) : Calls Tryz.prog 33 #[.int .i64 16] w fun e w' => e = .returned (.tuple #[.int .i64 4, .int .i64 0]) ∧ w' = w := by
  go_enter Tryz.func33, Tryz.ntmps33
  go_wp2
  go_ret2
  exact ⟨rfl, rfl⟩
set_option maxRecDepth 100000 in
theorem refSize12 (w : World) : Calls Tryz.prog 33 #[.int .i64 36] w fun e w' => e = .returned (.tuple #[.int .i64 4, .int .i64 0]) ∧ w' = w := by
  go_enter Tryz.func33, Tryz.ntmps33
  go_wp2
  go_ret2
  exact ⟨rfl, rfl⟩
set_option maxRecDepth 100000 in
theorem refSize13 (w : World) : Calls Tryz.prog 33 #[.int .i64 123] w fun e w' => e = .returned (.tuple #[.int .i64 1, .int .i64 1]) ∧ w' = w := by
  go_enter Tryz.func33, Tryz.ntmps33
  go_wp2
  go_ret2
  exact ⟨rfl, rfl⟩
set_option maxRecDepth 100000 in
theorem refSize14 (w : World) : Calls Tryz.prog 33 #[.int .i64 45] w fun e w' => e = .returned (.tuple #[.int .i64 4, .int .i64 0]) ∧ w' = w := by
  go_enter Tryz.func33, Tryz.ntmps33
  go_wp2
  go_ret2
  exact ⟨rfl, rfl⟩
set_option maxRecDepth 100000 in
theorem refSize15 (w : World) : Calls Tryz.prog 33 #[.int .i64 372] w fun e w' => e = .returned (.tuple #[.int .i64 1, .int .i64 0]) ∧ w' = w := by
  go_enter Tryz.func33, Tryz.ntmps33
  go_wp2
  go_ret2
  exact ⟨rfl, rfl⟩
set_option maxRecDepth 100000 in
theorem refSize16 (w : World) : Calls Tryz.prog 33 #[.int .i64 371] w fun e w' => e = .returned (.tuple #[.int .i64 2, .int .i64 0]) ∧ w' = w := by
  go_enter Tryz.func33, Tryz.ntmps33
  go_wp2
  go_ret2
  exact ⟨rfl, rfl⟩
set_option maxRecDepth 100000 in
theorem refSize17 (w : World) : Calls Tryz.prog 33 #[.int .i64 373] w fun e w' => e = .returned (.tuple #[.int .i64 2, .int .i64 0]) ∧ w' = w := by
  go_enter Tryz.func33, Tryz.ntmps33
  go_wp2
  go_ret2
  exact ⟨rfl, rfl⟩
set_option maxRecDepth 100000 in
theorem refSize18 (w : World) : Calls Tryz.prog 33 #[.int .i64 58] w fun e w' => e = .returned (.tuple #[.int .i64 60, .int .i64 2]) ∧ w' = w := by
  go_enter Tryz.func33, Tryz.ntmps33
  go_wp2
  go_ret2
  exact ⟨rfl, rfl⟩
set_option maxRecDepth 100000 in
theorem refSize19 (w : World) : Calls Tryz.prog 33 #[.int .i64 11] w fun e w' => e = .returned (.tuple #[.int .i64 20, .int .i64 2]) ∧ w' = w := by
  go_enter Tryz.func33, Tryz.ntmps33
  go_wp2
  go_ret2
  exact ⟨rfl, rfl⟩
set_option maxRecDepth 100000 in
theorem refSize20 (w : World) : Calls Tryz.prog 33 #[.int .i64 41] w fun e w' => e = .returned (.tuple #[.int .i64 20, .int .i64 2]) ∧ w' = w := by
  go_enter Tryz.func33, Tryz.ntmps33
  go_wp2
  go_ret2
  exact ⟨rfl, rfl⟩
set_option maxRecDepth 100000 in
theorem refSize21 (w : World) : Calls Tryz.prog 33 #[.int .i64 1] w fun e w' => e = .returned (.tuple #[.int .i64 12, .int .i64 2]) ∧ w' = w := by
  go_enter Tryz.func33, Tryz.ntmps33
  go_wp2
  go_ret2
  exact ⟨rfl, rfl⟩
set_option maxRecDepth 100000 in
theorem refSize22 (w : World) : Calls Tryz.prog 33 #[.int .i64 55] w fun e w' => e = .returned (.tuple #[.int .i64 8, .int .i64 2]) ∧ w' = w := by
  go_enter Tryz.func33, Tryz.ntmps33
  go_wp2
  go_ret2
  exact ⟨rfl, rfl⟩
set_option maxRecDepth 100000 in
theorem refSize23 (w : World) : Calls Tryz.prog 33 #[.int .i64 54] w fun e w' => e = .returned (.tuple #[.int .i64 1, .int .i64 0]) ∧ w' = w := by
  go_enter Tryz.func33, Tryz.ntmps33
  go_wp2
  go_ret2
  exact ⟨rfl, rfl⟩
set_option maxRecDepth 100000 in
theorem refSize24 (w : World) : Calls Tryz.prog 33 #[.int .i64 40] w fun e w' => e = .returned (.tuple #[.int .i64 1, .int .i64 0]) ∧ w' = w := by
  go_enter Tryz.func33, Tryz.ntmps33
  go_wp2
  go_ret2
  exact ⟨rfl, rfl⟩
set_option maxRecDepth 100000 in
theorem refSize25 (w : World) : Calls Tryz.prog 33 #[.int .i64 59] w fun e w' => e = .returned (.tuple #[.int .i64 1, .int .i64 0]) ∧ w' = w := by
  go_enter Tryz.func33, Tryz.ntmps33
  go_wp2
  go_ret2
  exact ⟨rfl, rfl⟩
set_option maxRecDepth 100000 in
theorem refSize26 (w : World) : Calls Tryz.prog 33 #[.int .i64 44] w fun e w' => e = .returned (.tuple #[.int .i64 4, .int .i64 0]) ∧ w' = w := by
  go_enter Tryz.func33, Tryz.ntmps33
  go_wp2
  go_ret2
  exact ⟨rfl, rfl⟩
set_option maxRecDepth 100000 in
theorem refSize27 (w : World) : Calls Tryz.prog 33 #[.int .i64 99] w fun e w' => e = .returned (.tuple #[.int .i64 4, .int .i64 0]) ∧ w' = w := by
  go_enter Tryz.func33, Tryz.ntmps33
  go_wp2
  go_ret2
  exact ⟨rfl, rfl⟩
set_option maxRecDepth 100000 in
theorem refSize28 (w : World) : Calls Tryz.prog 33 #[.int .i64 38] w fun e w' => e = .returned (.tuple #[.int .i64 4, .int .i64 0]) ∧ w' = w := by
  go_enter Tryz.func33, Tryz.ntmps33
  go_wp2
  go_ret2
  exact ⟨rfl, rfl⟩
set_option maxRecDepth 100000 in
theorem refSize29 (w : World) : Calls Tryz.prog 33 #[.int .i64 111] w fun e w' => e = .returned (.tuple #[.int .i64 4, .int .i64 0]) ∧ w' = w := by
  go_enter Tryz.func33, Tryz.ntmps33
  go_wp2
  go_ret2
  exact ⟨rfl, rfl⟩
set_option maxRecDepth 100000 in
theorem refSize30 (w : World) : Calls Tryz.prog 33 #[.int .i64 110] w fun e w' => e = .returned (.tuple #[.int .i64 4, .int .i64 0]) ∧ w' = w := by
  go_enter Tryz.func33, Tryz.ntmps33
  go_wp2
  go_ret2
  exact ⟨rfl, rfl⟩
set_option maxRecDepth 100000 in
theorem refSize31 (w : World) : Calls Tryz.prog 33 #[.int .i64 432] w fun e w' => e = .returned (.tuple #[.int .i64 4, .int .i64 0]) ∧ w' = w := by
  go_enter Tryz.func33, Tryz.ntmps33
  go_wp2
  go_ret2
  exact ⟨rfl, rfl⟩
set_option maxRecDepth 100000 in
theorem refSize32 (w : World) : Calls Tryz.prog 33 #[.int .i64 37] w fun e w' => e = .returned (.tuple #[.int .i64 4, .int .i64 0]) ∧ w' = w := by
  go_enter Tryz.func33, Tryz.ntmps33
  go_wp2
  go_ret2
  exact ⟨rfl, rfl⟩
set_option maxRecDepth 100000 in
theorem refSize33 (w : World) : Calls Tryz.prog 33 #[.int .i64 17] w fun e w' => e = .returned (.tuple #[.int .i64 4, .int .i64 0]) ∧ w' = w := by
  go_enter Tryz.func33, Tryz.ntmps33
  go_wp2
  go_ret2
  exact ⟨rfl, rfl⟩
set_option maxRecDepth 100000 in
theorem refSize34 (w : World) : Calls Tryz.prog 33 #[.int .i64 150] w fun e w' => e = .returned (.tuple #[.int .i64 1, .int .i64 0]) ∧ w' = w := by
  go_enter Tryz.func33, Tryz.ntmps33
  go_wp2
  go_ret2
  exact ⟨rfl, rfl⟩
set_option maxRecDepth 100000 in
theorem refSize35 (w : World) : Calls Tryz.prog 33 #[.int .i64 39] w fun e w' => e = .returned (.tuple #[.int .i64 1, .int .i64 0]) ∧ w' = w := by
  go_enter Tryz.func33, Tryz.ntmps33
  go_wp2
  go_ret2
  exact ⟨rfl, rfl⟩
set_option maxRecDepth 100000 in
theorem refSize36 (w : World) : Calls Tryz.prog 33 #[.int .i64 31] w fun e w' => e = .returned (.tuple #[.int .i64 4, .int .i64 0]) ∧ w' = w := by
  go_enter Tryz.func33, Tryz.ntmps33
  go_wp2
  go_ret2
  exact ⟨rfl, rfl⟩
set_option maxRecDepth 100000 in
theorem refSize37 (w : World) : Calls Tryz.prog 33 #[.int .i64 32] w fun e w' => e = .returned (.tuple #[.int .i64 4, .int .i64 0]) ∧ w' = w := by
  go_enter Tryz.func33, Tryz.ntmps33
  go_wp2
  go_ret2
  exact ⟨rfl, rfl⟩
set_option maxRecDepth 100000 in
theorem refSize38 (w : World) : Calls Tryz.prog 33 #[.int .i64 151] w fun e w' => e = .returned (.tuple #[.int .i64 4, .int .i64 0]) ∧ w' = w := by
  go_enter Tryz.func33, Tryz.ntmps33
  go_wp2
  go_ret2
  exact ⟨rfl, rfl⟩
set_option maxRecDepth 100000 in
theorem refSize39 (w : World) : Calls Tryz.prog 33 #[.int .i64 14] w fun e w' => e = .returned (.tuple #[.int .i64 4, .int .i64 0]) ∧ w' = w := by
  go_enter Tryz.func33, Tryz.ntmps33
  go_wp2
  go_ret2
  exact ⟨rfl, rfl⟩
set_option maxRecDepth 100000 in
theorem refSize40 (w : World) : Calls Tryz.prog 33 #[.int .i64 326] w fun e w' => e = .returned (.tuple #[.int .i64 1, .int .i64 0]) ∧ w' = w := by
  go_enter Tryz.func33, Tryz.ntmps33
  go_wp2
  go_ret2
  exact ⟨rfl, rfl⟩
set_option maxRecDepth 100000 in
theorem refSize41 (w : World) : Calls Tryz.prog 33 #[.int .i64 533] w fun e w' => e = .returned (.tuple #[.int .i64 4, .int .i64 0]) ∧ w' = w := by
  go_enter Tryz.func33, Tryz.ntmps33
  go_wp2
  go_ret2
  exact ⟨rfl, rfl⟩
theorem refSize_any (j : Nat) (h1 : 1 ≤ j) (h2 : j < 42) (w : World) : Calls Tryz.prog 33 #[.int .i64 (tNum.getD j 0)] w fun e w' => e = .returned (.tuple #[.int .i64 (wd j : Nat), .int .i64 (howL.getD j 0)]) ∧ w' = w := by
  rcases cases42 h2 with rfl | rfl | rfl | rfl | rfl | rfl | rfl | rfl | rfl | rfl | rfl | rfl | rfl | rfl | rfl | rfl | rfl | rfl | rfl | rfl | rfl | rfl | rfl | rfl | rfl | rfl | rfl | rfl | rfl | rfl | rfl | rfl | rfl | rfl | rfl | rfl | rfl | rfl | rfl | rfl | rfl | rfl
  · omega
  · exact refSize1 w
  · exact refSize2 w
  · exact refSize3 w
  · exact refSize4 w
  · exact refSize5 w
  · exact refSize6 w
  · exact refSize7 w
  · exact refSize8 w
  · exact refSize9 w
  · exact refSize10 w
  · exact refSize11 w
  · exact refSize12 w
  · exact refSize13 w
  · exact refSize14 w
  · exact refSize15 w
  · exact refSize16 w
  · exact refSize17 w
  · exact refSize18 w
  · exact refSize19 w
  · exact refSize20 w
  · exact refSize21 w
  · exact refSize22 w
  · exact refSize23 w
  · exact refSize24 w
  · exact refSize25 w
  · exact refSize26 w
  · exact refSize27 w
  · exact refSize28 w
  · exact refSize29 w
  · exact refSize30 w
  · exact refSize31 w
  · exact refSize32 w
  · exact refSize33 w
  · exact refSize34 w
  · exact refSize35 w
  · exact refSize36 w
  · exact refSize37 w
  · exact refSize38 w
  · exact refSize39 w
  · exact refSize40 w
  · exact refSize41 w
end Go.Proofs.YthadnogcocmfgaaGreatDoor

namespace Go.Proofs.YthadnogcocmfgaaGreatDoor
set_option linter.unusedVariables false
open Go.RowKit

theorem info3 : (Tryz.prog.info? 3).map (fun i => (i.zero, i.size, i.bytes)) = some (some (.int .i64 0), 1, 8) := by kernel_rfl
def tagV (l : List Nat) : List Value := l.map fun j => .int .i64 (tNum.getD j 0)
theorem tab_below {w w' : World} {G : Nat} {mu ma : Nat → Value} (h : TabAt w G mu ma) (hG : G < w.heap.size) (hb : Below w.heap.size w w') (j : Nat) (hj : j < 42) : w'.cell? ⟨G, j * 7, none⟩ = some (.int .i64 (tNum.getD j 0)) := by
  have c := h.cell j hj 0 _ rfl
  rw [Nat.add_zero] at c
  rw [hb.cell (p := ⟨G, j * 7, none⟩) hG]
  exact c
theorem own_formR {w : World} {B e n : Nat} {v : Value} {xs : List Value} (h : w.ownsRow B e 1 v n xs) : ∃ ao cv, v = .slice ao n cv := own_form h
theorem num35 : ∀ j, j < 42 → 1 ≤ j → (tNum.getD j 0 != 35) = true := by decide
theorem jsU_lenR (z : Int) : ∀ k, (jsU z k).length ≤ k
  | 0 => Nat.le_refl _
  | k + 1 => by
    have ih := jsU_lenR z k
    show (jsU z k ++ if hasB z (k + 1) then [k + 1] else []).length ≤ k + 1
    rw [List.length_append]
    split <;> simp <;> omega
set_option maxRecDepth 100000 in
set_option maxHeartbeats 1000000 in
theorem Fields_any (z : Int) (w : World) :
    Calls Tryz.prog 32 #[.int .i64 z] w fun e w' => ∃ v B, e = .returned v ∧ w.heap.size ≤ B ∧ w'.ownsRow B 3 1 v (js z).length (tagV (js z)) ∧ Below w.heap.size w w' := by
  obtain ⟨i0, hi, hz0, hz1, hz2⟩ := info_parts info3
  go_enter Tryz.func32, Tryz.ntmps32
  go_wp2_with (go_at_call 103; fail)
  refine (Rows_any w).mono ?_
  rintro e w2 ⟨G, mu, ma, rfl, hG, hT, hb2⟩
  have HT : Hid (TabAt w2 G mu ma ∧ G < w2.heap.size ∧ Below w.heap.size w w2) := ⟨hT, hG, hb2⟩
  clear hT hG hb2
  go_wp2
  go_loopw [3, 5, 6] (fun o i x6 wr => ∃ (k n : Nat) (ao : Option Addr) (cv : Nat), k ≤ 42 ∧ i = .int .i64 k ∧ o = .slice ao n cv ∧ Hid (n = (jsU z (k - 1)).length ∧ wr.ownsRow w2.heap.size 3 1 (.slice ao n cv) n (tagV (jsU z (k - 1))) ∧ Below w2.heap.size w2 wr)) (fun _ i _ _ => 42 - (intOf i).toNat)
  case atStart => exact ⟨0, 0, none, 0, by omega, rfl, rfl, rfl, ⟨rfl, .inl ⟨rfl, rfl⟩⟩, Below.refl _ _⟩
  case round =>
    obtain ⟨k, n, ao, cv, hk, rfl, rfl, HR⟩ := hrel
    by_cases hlt : k < 42
    · have hlt' : (k : Int) < 42 := by omega
      have c0 := tab_below HT.out.1 HT.out.2.1 HR.out.2.2 k hlt
      have HH : Hid (Unit → _) := fun _ => refHas_any z (tNum.getD k 0) wr
      have HB : Hid (0 < hasN z (tNum.getD k 0) ↔ hasB z k = true) := by unfold hasB; exact ⟨fun h => decide_eq_true h, fun h => of_decide_eq_true h⟩
      have H35 : Hid ((k = 0 → tNum.getD k 0 = 35) ∧ (1 ≤ k → (tNum.getD k 0 != 35) = true)) := ⟨fun h => by subst h; rfl, fun h => num35 k hlt h⟩
      have HV : Hid (Value.int .i64 (tNum.getD k 0) = .int .i64 (tNum.getD k 0)) := rfl
      have HTag : Hid (tagV [k] = [.int .i64 (tNum.getD k 0)]) := rfl
      generalize tNum.getD k 0 = T at *
      generalize hasN z T = hv at *
      go_wp2_with (go_at_call 104; fail)
      refine (HH.out ()).mono ?_
      rintro e w3 ⟨rfl, hb3⟩
      have c1 : w3.cell? ⟨G, k * 7, none⟩ = some (.int .i64 T) := by
        rw [hb3.cell (p := ⟨G, k * 7, none⟩) (Nat.lt_of_lt_of_le HT.out.2.1 HR.out.2.2.size)]; exact c0
      have HR3 : Hid (n = (jsU z (k - 1)).length ∧ w3.ownsRow w2.heap.size 3 1 (.slice ao n cv) n (tagV (jsU z (k - 1))) ∧ Below w2.heap.size w2 w3) := by
        refine ⟨HR.out.1, ⟨HR.out.2.1.1, ?_⟩, HR.out.2.2.trans (hb3.mono HR.out.2.2.size)⟩
        rcases HR.out.2.1.2 with h | ⟨g, cap, cur, e1, e2, e3, e4⟩
        · exact .inl h
        · exact .inr ⟨g, cap, cur, e1, e2, (hb3.block g (by have := (Array.getElem?_eq_some_iff.1 e3).1; exact this)).trans e3, e4⟩
      clear hb3 HH HR c0
      by_cases h0 : k = 0
      · have hT35 := H35.out.1 h0
        subst hT35
        subst h0
        go_wp2
        exact ⟨⟨1, n, ao, cv, by omega, rfl, rfl, HR3.out⟩, by simp [intOf]⟩
      · obtain ⟨q, rfl⟩ : ∃ q, k = q + 1 := ⟨k - 1, by omega⟩
        have h35 := H35.out.2 (by omega)
        have hq : q + 1 - 1 = q := rfl
        have hq2 : q + 1 + 1 - 1 = q + 1 := rfl
        by_cases hpos : 0 < hv
        · have hU : jsU z (q + 1) = jsU z q ++ [q + 1] := by
            show jsU z q ++ (if hasB z (q + 1) then [q + 1] else []) = _
            rw [if_pos (HB.out.1 hpos)]
          have HU : Hid (jsU z (q + 1) = jsU z q ++ [q + 1]) := hU
          clear hU
          have HN : Hid (n ≤ 42) := by have h1 := HR3.out.1; have h2 := jsU_lenR z q; rw [hq] at h1; show n ≤ 42; omega
          have hnew : Hid (∀ j u, [Value.int .i64 T][j]? = some u → (w3.alloc (.cells #[.int .i64 T] 3)).cell? ((⟨w3.heap.size, 0, none⟩ : Addr).add j) = some u) := cell_one_new w3 (.int .i64 T) 3
          go_wp2_with (at_builtin; refine wpList_append_own _ rfl _ _ 45 rfl w2.heap.size 3 i0 (.int .i64 0) 1 8 Tryz.underlying45 hi hz0 hz1 hz2 rfl (by decide) _ n (tagV (jsU z q)) rfl (HR3.out.2.1.alloc _) ⟨w3.heap.size, 0, none⟩ 1 1 [.int .i64 T] rfl rfl hnew.out (fun x hx => by simp at hx; subst hx; rfl) (by have := HN.out; unfold maxLen; omega) (by have := HN.out; omega) (by have := HR3.out.2.2.size; simp; omega) ?_; intro v4 w4 hown4 hgrow4 hnil4)
          obtain ⟨a4, c4, rfl⟩ := own_formR hown4
          have hg4 : (w3.alloc (.cells #[.int .i64 T] 3)).grownBy w4 (Value.slice ao n cv).ownBlock := hgrow4
          have hb4 : Below w2.heap.size w2 w4 := below_grownBy (HR3.out.2.2.alloc HR3.out.2.2.size _) hg4 (Nat.le_refl _) (fun q hq => (HR3.out.2.1.lt q hq).1)
          have HR4 : Hid (n + 1 = (jsU z (q + 1 + 1 - 1)).length ∧ w4.ownsRow w2.heap.size 3 1 (.slice a4 (n + 1) c4) (n + 1) (tagV (jsU z (q + 1 + 1 - 1))) ∧ Below w2.heap.size w2 w4) := by
            rw [hq2, HU.out]
            refine ⟨by rw [List.length_append, HR3.out.1]; rfl, ?_, hb4⟩
            have : tagV (jsU z q ++ [q + 1]) = tagV (jsU z q) ++ [.int .i64 T] := by rw [← HTag.out]; unfold tagV; rw [List.map_append]
            rw [this]; exact hown4
          clear hown4 hgrow4 hnil4 hg4 hb4
          exact ⟨⟨q + 1 + 1, n + 1, a4, c4, by omega, by go_num, rfl, HR4.out⟩, by simp [intOf]; omega⟩
        · have hU : jsU z (q + 1) = jsU z q := by
            show jsU z q ++ (if hasB z (q + 1) then [q + 1] else []) = _
            rw [if_neg (fun h => hpos (HB.out.2 h)), List.append_nil]
          have HR4 : Hid (n = (jsU z (q + 1 + 1 - 1)).length ∧ w3.ownsRow w2.heap.size 3 1 (.slice ao n cv) n (tagV (jsU z (q + 1 + 1 - 1))) ∧ Below w2.heap.size w2 w3) := by
            rw [hq2, hU]; exact HR3.out
          clear hU
          go_wp2
          exact ⟨⟨q + 1 + 1, n, ao, cv, by omega, by go_num, rfl, HR4.out⟩, by simp [intOf]; omega⟩
    · obtain rfl : k = 42 := by omega
      have HW : Hid (wr.ownsRow w2.heap.size 3 1 (.slice ao n cv) (js z).length (tagV (js z)) ∧ Below w.heap.size w wr ∧ w.heap.size ≤ w2.heap.size) := by
        refine ⟨?_, HT.out.2.2.trans (HR.out.2.2.mono HT.out.2.2.size), HT.out.2.2.size⟩
        have h := HR.out.2.1
        rw [HR.out.1] at h ⊢
        exact h
      clear HR
      go_wp2
      go_ret
      exact ⟨_, _, rfl, HW.out.2.2, HW.out.1, HW.out.2.1⟩
end Go.Proofs.YthadnogcocmfgaaGreatDoor

namespace Go.Proofs.YthadnogcocmfgaaGreatDoor
set_option linter.unusedVariables false
open Go.RowKit

theorem js_noR {z : Int} (h : isK z = false) : js z = [] := by
  refine List.eq_nil_iff_forall_not_mem.2 fun j hj => ?_
  have h3 := (mem_js.1 hj).2.2
  unfold hasB at h3
  have : hasN z (tNum.getD j 0) = 0 := by simp [hasN, h]
  rw [this] at h3
  simp at h3
theorem wS_take_succ {l : List Nat} {k j : Nat} (h : l[k]? = some j) : wS (l.take (k + 1)) = wS (l.take k) + wd j := by
  rw [List.take_add_one, wS_app, h]
  simp [wS]
theorem wS_take_le (l : List Nat) (k : Nat) : wS (l.take k) ≤ wS l := by
  conv => rhs; rw [← List.take_append_drop k l, wS_app]
  omega
set_option maxRecDepth 100000 in
set_option maxHeartbeats 1000000 in
theorem refSizeOf_any (z : Int) (w : World) : Calls Tryz.prog 15 #[.int .i64 z] w fun e w' => e = .returned (.int .i64 (sizeN z : Nat)) ∧ Below w.heap.size w w' := by
  by_cases k1 : z < 1
  · have e : sizeN z = 0 := by unfold sizeN; rw [js_noR (by simp [isK]; omega), if_pos rfl]
    rw [e]
    clear e
    go_enter Tryz.func15, Tryz.ntmps15
    go_wp2
    go_ret
    exact ⟨rfl, Below.refl _ _⟩
  · by_cases k17 : 17 < z
    · have e : sizeN z = 0 := by unfold sizeN; rw [js_noR (by simp [isK]; omega), if_pos rfl]
      rw [e]
      clear e
      go_enter Tryz.func15, Tryz.ntmps15
      go_wp2
      go_ret
      exact ⟨rfl, Below.refl _ _⟩
    · have hK : isK z = true := by simp [isK]; omega
      have HS : Hid (sizeN z = 10 + (wS (js z) + 7) / 8 * 8 ∧ wS (js z) ≤ 400) := ⟨(size_eq hK).1, (js_yes hK).2⟩
      generalize hSZ : sizeN z = SZ at *
      clear hK hSZ
      go_enter Tryz.func15, Tryz.ntmps15
      go_wp2_with (go_at_call 32; fail)
      refine (Fields_any z w).mono ?_
      rintro e w1 ⟨v, B, rfl, hB, ho, hb1⟩
      obtain ⟨ao, cv, rfl⟩ := own_formR ho
      obtain ⟨n, hn⟩ : ∃ n, n = (js z).length := ⟨_, rfl⟩
      have HL : Hid (n = (js z).length ∧ Below w.heap.size w w1 ∧ ∀ k j, (js z)[k]? = some j → ∃ g, ao = some ⟨g, 0, none⟩ ∧ w1.cell? ⟨g, k, none⟩ = some (.int .i64 (tNum.getD j 0)) ∧ n ≤ cv ∧ 1 ≤ j ∧ j < 42) := by
        refine ⟨hn, hb1, fun k j hkj => ?_⟩
        rcases ho.2 with ⟨_, h0⟩ | ⟨g, cap, cur, e1, _, _, e4, _⟩
        · have := (List.getElem?_eq_some_iff.1 hkj).1; omega
        · injection e1 with e1 _ e3
          subst e1
          have hc := ho.cells (g := g) rfl k (.int .i64 (tNum.getD j 0)) (by simp [tagV, hkj])
          rw [addr_add, Nat.zero_add] at hc
          have hm := mem_js.1 (List.mem_of_getElem? hkj)
          exact ⟨g, rfl, hc, by rw [hn, e3]; exact e4, hm.1, by omega⟩
      rw [← hn]
      have HN42 : n ≤ 41 := by rw [hn]; exact jsU_len z 41
      clear ho hb1 hB hn
      go_wp2
      go_loopw [3, 5, 6, 7] (fun o i x6 x7 wr => ∃ k s : Nat, k ≤ n ∧ i = .int .i64 k ∧ o = .int .i64 s ∧ Hid (s = wS ((js z).take k)) ∧ wr = w1) (fun _ i _ _ _ => n - (intOf i).toNat)
      case atStart => exact ⟨0, 0, by omega, rfl, rfl, rfl, rfl⟩
      case round =>
        obtain ⟨k, s, hk, rfl, rfl, hs, rfl⟩ := hrel
        have hs400 : s ≤ 400 := by have := wS_take_le (js z) k; have := HS.out.2; have := hs.out; omega
        by_cases hlt : k < n
        · have hlt' : (k : Int) < (n : Int) := by omega
          obtain ⟨j, hj⟩ : ∃ j, (js z)[k]? = some j := ⟨_, List.getElem?_eq_getElem (by rw [← HL.out.1]; exact hlt)⟩
          obtain ⟨g, rfl, hc, hcv, j1, j42⟩ := HL.out.2.2 k j hj
          have HJ : Hid (Unit → _) := fun _ => refSize_any j j1 j42 wr
          have HW : Hid (s + wd j = wS ((js z).take (k + 1)) ∧ wd j ≤ 60) := ⟨by rw [wS_take_succ hj, hs.out], by
            have : ∀ j, j < 42 → wd j ≤ 60 := by decide
            exact this j j42⟩
          have hwd := HW.out.2
          clear hj j1 j42
          generalize tNum.getD j 0 = T at *
          generalize howL.getD j 0 = how at *
          generalize wd j = wj at *
          go_wp2_with (go_at_call 33; fail)
          refine (HJ.out ()).mono ?_
          rintro e w3 ⟨rfl, rfl⟩
          go_wp2
          exact ⟨⟨k + 1, s + wj, by omega, by go_num, by go_num, HW.out.1, by first | rfl | trivial⟩, by simp [intOf]; omega⟩
        · obtain rfl : k = n := by omega
          have HF : Hid (s = wS (js z)) := by
            have := hs.out
            rw [HL.out.1, List.take_length] at this
            exact this
          clear hs
          go_wp2
          go_loopw [3] (fun o wq => ∃ t : Nat, s ≤ t ∧ t ≤ (s + 7) / 8 * 8 ∧ o = .int .i64 t ∧ wq = wr) (fun o _ => (s + 7) / 8 * 8 - (intOf o).toNat)
          case atStart => exact ⟨s, Nat.le_refl _, by omega, rfl, rfl⟩
          case round =>
            obtain ⟨t, ht1, ht2, rfl, rfl⟩ := hrel
            by_cases h8 : t % 8 = 0
            · have h8' : (t : Int) % 8 = 0 := by omega
              have h8t : (t : Int).tmod 8 = 0 := by rw [Int.tmod_eq_emod_of_nonneg (by omega)]; exact h8'
              go_wp2
              go_ret
              refine ⟨ret_int ?_, HL.out.2.1⟩
              have := HS.out.1
              have := HF.out
              omega
            · have h8' : ((t : Int) % 8 != 0) = true := by simp; omega
              have h8n : ¬ (t : Int) % 8 = 0 := by omega
              go_wp2
              exact ⟨⟨t + 1, by omega, by omega, by go_num, by first | rfl | trivial⟩, by simp [intOf]; omega⟩
end Go.Proofs.YthadnogcocmfgaaGreatDoor

namespace Go.Proofs.YthadnogcocmfgaaGreatDoor
set_option linter.unusedVariables false
open Go.RowKit

theorem crc_step {t b : Nat} (k : Nat) : crcBit (t ^^^ b / 2 ^ k) = (if t % 2 = b / 2 ^ k % 2 then t / 2 else t / 2 ^^^ 3988292384) ^^^ b / 2 ^ (k + 1) := by
  have hm := xor_mod2 t (b / 2 ^ k)
  have hh := xor_half t (b / 2 ^ k)
  have hd : b / 2 ^ k / 2 = b / 2 ^ (k + 1) := by rw [Nat.div_div_eq_div_mul, Nat.pow_succ]
  rw [hd] at hh
  rcases Nat.mod_two_eq_zero_or_one t with h1 | h1 <;> rcases Nat.mod_two_eq_zero_or_one (b / 2 ^ k) with h2 | h2 <;> rw [h1, h2] at hm
  · rw [crcBit_even (by rw [hm]; decide), if_pos (by rw [h1, h2]), hh]
  · rw [crcBit_odd (by rw [hm]; rfl), if_neg (by rw [h1, h2]; decide), hh, Nat.xor_assoc, Nat.xor_comm (b / _), ← Nat.xor_assoc]
  · rw [crcBit_odd (by rw [hm]; rfl), if_neg (by rw [h1, h2]; decide), hh, Nat.xor_assoc, Nat.xor_comm (b / _), ← Nat.xor_assoc]
  · rw [crcBit_even (by rw [hm]; decide), if_pos (by rw [h1, h2]), hh]
/-- The reference's state behind m bits of a byte. -/
def refBits (s b : Nat) : Nat → Nat
  | 0 => s
  | m + 1 => if refBits s b m % 2 = b / 2 ^ m % 2 then refBits s b m / 2 else refBits s b m / 2 ^^^ 3988292384
theorem refBits_eq (s b m : Nat) : crcBits m (s ^^^ b) = refBits s b m ^^^ b / 2 ^ m := by
  induction m with
  | zero => show s ^^^ b = s ^^^ b / 1; rw [Nat.div_one]
  | succ m ih => show crcBit (crcBits m (s ^^^ b)) = _; rw [ih, crc_step]; rfl
theorem refBits_8 (s b : Nat) (hb : b < 256) : refBits s b 8 = crcBits 8 (s ^^^ b) := by
  rw [refBits_eq, Nat.div_eq_of_lt (by omega : b < 2 ^ 8), Nat.xor_zero]
theorem refBits_lt {s : Nat} (b : Nat) (hs : s < 4294967296) : ∀ m, refBits s b m < 4294967296
  | 0 => hs
  | m + 1 => by
    have h := refBits_lt b hs m
    unfold refBits
    split
    · omega
    · exact xor_lt32 (by omega) (by decide)

theorem bit_cmp (b m z : Nat) : (((b : Int) / 2 ^ m).tmod 2 != (z : Int) % 2) = !decide (z % 2 = b / 2 ^ m % 2) := by
  have h : ((b : Int) / 2 ^ m).tmod 2 = ((b / 2 ^ m % 2 : Nat) : Int) := by
    rw [show (b : Int) / 2 ^ m = ((b / 2 ^ m : Nat) : Int) by simp]; rfl
  rw [h, show (z : Int) % 2 = ((z % 2 : Nat) : Int) by simp]
  by_cases e : z % 2 = b / 2 ^ m % 2
  · rw [e]; simp
  · rw [decide_eq_false e]
    show (_ != _) = true
    rw [bne_iff_ne]
    omega

set_option maxRecDepth 100000 in
set_option maxHeartbeats 400000 in
theorem refCrc_any (a : Option Addr) (n cap : Nat) (d : Nat → Nat) (w : World) (hn : n ≤ 140737488351232) (hs : Src w a n d) :
    Calls Tryz.prog 132 #[.slice a n cap] w fun e w' => e = .returned (.int .u32 (crcEnd (crcRow d n) : Int)) ∧ w' = w := by
  have HS : Hid (Src w a n d) := hs
  clear hs
  go_enter Tryz.func132, Tryz.ntmps132
  go_wp2
  go_loop [3, 4, 5, 6, 7] (fun s i _ _ _ => ∃ k : Nat, k ≤ n ∧ i = .int .i64 k ∧ s = .int .u32 (crcRow d k : Int)) (fun _ i _ _ _ => n - (intOf i).toNat)
  case atStart => exact ⟨0, Nat.zero_le _, rfl, rfl⟩
  case round =>
    obtain ⟨k, hk, rfl, rfl⟩ := hrel
    by_cases hlt : k < n
    · rcases HS.out with h0 | ⟨b, off, ea, hr⟩
      · omega
      · obtain ⟨hc, hd⟩ := hr k hlt
        subst ea
        have hlt' : (k : Int) < (n : Int) := by omega
        have hx := crcRow_lt d k (fun j hj => (hr j (by omega)).2)
        have HK : Hid (crcRow d (k + 1) = refBits (crcRow d k) (d k) 8) := (refBits_8 _ _ hd).symm
        clear hr
        go_wp2
        generalize crcRow d k = s0 at *
        go_loop [3, 5, 6, 7] (fun s i _ _ => ∃ m : Nat, m ≤ 8 ∧ i = .int .i64 m ∧ s = .int .u32 (refBits s0 (d k) m : Int)) (fun _ i _ _ => 8 - (intOf i).toNat)
        case atStart => exact ⟨0, Nat.zero_le _, rfl, rfl⟩
        case round =>
          obtain ⟨m, hm, rfl, rfl⟩ := hrel
          by_cases hm8 : m < 8
          · have hm8' : (m : Int) < 8 := by omega
            have hz := refBits_lt (d k) hx m
            have HZ : Hid (refBits s0 (d k) (m + 1) = if refBits s0 (d k) m % 2 = d k / 2 ^ m % 2 then refBits s0 (d k) m / 2 else refBits s0 (d k) m / 2 ^^^ 3988292384) := rfl
            generalize refBits s0 (d k) m = z at *
            have hx2 : bits .xor .u32 ((z : Int) / 2) 3988292384 = ((z / 2 ^^^ 3988292384 : Nat) : Int) := by
              have := u32_xor_nat (z / 2) 3988292384 (by omega) (by decide)
              rw [← this]; rfl
            have hcmp := bit_cmp (d k) m z
            by_cases hq : z % 2 = d k / 2 ^ m % 2
            · rw [decide_eq_true hq, Bool.not_true] at hcmp
              rw [if_pos hq] at HZ
              clear hq
              go_wp2
              go_round
              case rel => exact ⟨m + 1, by omega, by go_num, by rw [HZ.out]; rfl⟩
              case measure => simp [intOf]; omega
            · rw [decide_eq_false hq, Bool.not_false] at hcmp
              rw [if_neg hq] at HZ
              clear hq
              go_wp2
              go_round
              case rel => exact ⟨m + 1, by omega, by go_num, by rw [HZ.out]⟩
              case measure => simp [intOf]; omega
          · obtain rfl : m = 8 := by omega
            go_wp2
            go_round
            case rel => exact ⟨k + 1, by omega, by go_num, by rw [HK.out]⟩
            case measure => simp [intOf]; omega
    · obtain rfl : k = n := by omega
      have hx : Hid (crcRow d k < 4294967296) := crcRow_lt d k (fun j hj => HS.out.lt j hj)
      have hE : bits .xor .u32 (crcRow d k : Int) 4294967295 = (crcEnd (crcRow d k) : Int) := by
        rw [show crcEnd (crcRow d k) = crcRow d k ^^^ 4294967295 from Nat.xor_comm _ _]
        exact u32_xor_nat _ 4294967295 hx.out (by decide)
      go_wp2
      go_ret
      exact ⟨rfl, rfl⟩

/-- Lists of bytes that came in. -/
def Src2 (w : World) (a : Option Addr) (n : Nat) (len : Nat → Nat) (d : Nat → Nat → Nat) : Prop := n = 0 ∨ ∃ b off, a = some ⟨b, off, none⟩ ∧ ∀ i, i < n → ∃ (ai : Option Addr) (c : Nat), w.cell? ⟨b, off + i, none⟩ = some (.slice ai (len i) c) ∧ len i ≤ 140737488351232 ∧ Src w ai (len i) (d i)

end Go.Proofs.YthadnogcocmfgaaGreatDoor

namespace Go.Proofs.YthadnogcocmfgaaGreatDoor
set_option linter.unusedVariables false
open Go.RowKit Go.Great Go.Lib

def sealL (l : List UInt8) : List UInt8 := l.take 6 ++ be 4 (crcL (l.take 6 ++ l.drop 10)) ++ l.drop 10
theorem bc_be (s u : Nat) : byteCells (be s u) = bvals (putTo u s s) := by
  unfold byteCells be bvals
  rw [List.map_map]
  refine List.map_congr_left fun x hx => ?_
  have : x < 256 := by
    unfold putTo at hx
    obtain ⟨j, _, rfl⟩ := List.mem_map.1 hx
    exact Nat.mod_lt _ (by decide)
  simp only [Function.comp_def, u8_ofNat, Nat.mod_eq_of_lt this]
theorem row_src {w : World} {B n : Nat} {v : Value} {l : List UInt8} (h : w.ownsRow B 5 1 v n (byteCells l)) : ∃ a cap, v = .slice a n cap ∧ n = l.length ∧ Src w a n (dL l) := by
  have hn : n = l.length := by have := h.1; rw [bc_len] at this; omega
  rcases h.2 with ⟨rfl, h0⟩ | ⟨g, cap, cur, rfl, e1, e2, e3, e4, e5, e6⟩
  · exact ⟨none, 0, by rw [h0], hn, .inl h0⟩
  · refine ⟨_, _, rfl, hn, .inr ⟨g, 0, rfl, fun j hj => ?_⟩⟩
    obtain ⟨c, hc, ec⟩ := dL_at (show j < l.length by omega)
    have := h.cells (g := g) rfl j (.int .u8 (c.toNat : Int)) (by simp [byteCells, hc])
    rw [addr_add] at this
    exact ⟨by rw [ec]; exact this, dL_lt _ _⟩
set_option maxRecDepth 100000 in
set_option maxHeartbeats 1000000 in
theorem refcrc_any (g off n cap : Nat) (l : List UInt8) (w : World) (hn : n = l.length) (h10 : 10 ≤ n) (hmax : n ≤ 140737488351232) (hcap : n ≤ cap) (hl : At w g off l) :
    Calls Tryz.prog 112 #[.slice (some ⟨g, off, none⟩) n cap] w fun e w' => e = .returned (.int .u32 (crcL (l.take 6 ++ l.drop 10) : Int)) ∧ Below w.heap.size w w' := by
  obtain ⟨i0, hi, hz0, hz1, hz2⟩ := info_parts info5
  have l1 : (l.take 6).length = 6 := by rw [List.length_take]; omega
  have l2 : (l.drop 10).length = n - 10 := by rw [List.length_drop, hn]
  have HA : Hid (At w g off (l.take 6) ∧ At w g (off + 10) (l.drop 10)) := ⟨hl.take 6, hl.drop 10⟩
  have HL : Hid (crcL (l.take 6 ++ l.drop 10) = crcEnd (crcRow (dL (l.take 6 ++ l.drop 10)) (6 + (n - 10)))) := by
    show crcEnd _ = _
    rw [List.length_append, l1, l2]
  have b1 : Hid ((byteCells (l.take 6)).length = 6) := (bc_len _).trans l1
  have b2 : Hid ((byteCells (l.drop 10)).length = n - 10) := (bc_len _).trans l2
  have h10' : (10 : Int) ≤ (n : Int) := by omega
  have h6' : (6 : Int) ≤ (cap : Int) := by omega
  have hcap' : (n : Int) ≤ (cap : Int) := by omega
  generalize hC : crcL (l.take 6 ++ l.drop 10) = C at *
  have HX : Hid (byteCells (l.take 6 ++ l.drop 10) = byteCells (l.take 6) ++ byteCells (l.drop 10)) := bc_app _ _
  have o1 : Hid (∀ u ∈ byteCells (l.take 6), u.oneCell' = true) := byteCells_one _
  have o2 : Hid (∀ u ∈ byteCells (l.drop 10), u.oneCell' = true) := byteCells_one _
  clear hl hC l1 l2 hn
  go_enter Tryz.func112, Tryz.ntmps112
  go_upto_region 3 with (at_builtin; refine wpList_append_own _ rfl _ _ 28 rfl w.heap.size 5 i0 (.int .u8 0) 1 1 Tryz.underlying28 hi hz0 hz1 hz2 rfl (by decide) (.slice none 0 0) 0 [] rfl ⟨rfl, .inl ⟨rfl, rfl⟩⟩ ⟨g, off, none⟩ 6 cap (byteCells (l.take 6)) rfl (by rw [b1.out]) HA.out.1.cells o1.out (by unfold maxLen; omega) (by omega) (Nat.le_refl _) ?_; intro v5 w5 hown5 hgrow5 hnil5)
  have hb5 : Below w.heap.size w w5 := below_grownBy (Below.refl _ w) hgrow5 (Nat.le_refl _) (fun q hq => by cases hq)
  obtain ⟨a5, c5, rfl⟩ := own_form3 hown5
  have HQ : Hid (w5.ownsRow w.heap.size 5 1 (.slice a5 6 c5) 6 (byteCells (l.take 6)) ∧ Below w.heap.size w w5 ∧ At w5 g (off + 10) (l.drop 10)) := ⟨hown5, hb5, HA.out.2.below hb5 (Nat.le_refl _)⟩
  clear hown5 hgrow5 hnil5 hb5
  by_cases hc10 : cap = 10
  · obtain rfl : n = 10 := by omega
    subst hc10
    have HE : Hid (∀ j u, (byteCells (l.drop 10))[j]? = some u → w5.cell? ((⟨g, off, none⟩ : Addr).add j) = some u) := fun j u hu => by
      have h1 := (List.getElem?_eq_some_iff.1 hu).1
      have h2 := b2.out
      omega
    refine wp_region_lit ?_
    refine wpList_runTo rfl (some 8) rfl (.slice a5 6 c5) w5 (by kernel_rfl) ?_
    refine wpList_runTo rfl (some 9) rfl (.slice (some ⟨g, off, none⟩) 10 10) w5 (by kernel_rfl) ?_
    refine wpList_runTo rfl (some 10) rfl (.slice (some ⟨g, off, none⟩) 0 0) w5 (by kernel_rfl) ?_
    simp only [Act.put, List.setIfInBounds_toArray, List.set_cons_zero, List.set_cons_succ]
    refine wpList_append_own _ rfl _ _ 28 rfl w.heap.size 5 i0 (.int .u8 0) 1 1 Tryz.underlying28 hi hz0 hz1 hz2 rfl (by decide) _ 6 (byteCells (l.take 6)) rfl HQ.out.1 ⟨g, off, none⟩ (0) (0) (byteCells (l.drop 10)) rfl (by rw [b2.out]) HE.out o2.out (by unfold maxLen; omega) (by omega) (by have := HQ.out.2.1.size; omega) ?_
    intro v6 w6 hown6 hgrow6 hnil6
    refine wpList_runTo rfl (some 3) rfl v6 w6 (by kernel_rfl) ?_
    refine wpList_nil ?_
    simp only [Act.put, List.setIfInBounds_toArray, List.set_cons_zero, List.set_cons_succ]
    have hb6 : Below w.heap.size w w6 := below_grownBy HQ.out.2.1 hgrow6 (Nat.le_refl _) (fun q hq => (HQ.out.1.lt q hq).1)
    rw [← HX.out] at hown6
    obtain ⟨a6, c6, rfl, e6, hs6⟩ := row_src hown6
    have HF : Hid (Below w.heap.size w w6) := hb6
    have hCr := refCrc_any a6 (6 + (0)) c6 _ w6 (by omega) hs6
    clear hown6 hgrow6 hnil6 hb6 HQ hs6 e6
    go_wp2_with (go_at_call 132; fail)
    refine hCr.mono ?_
    rintro e w7 ⟨rfl, rfl⟩
    go_wp2
    go_ret
    exact ⟨by rw [HL.out]; rfl, HF.out⟩
  · go_upto_region 4 with (at_builtin; refine wpList_append_own _ rfl _ _ 28 rfl w.heap.size 5 i0 (.int .u8 0) 1 1 Tryz.underlying28 hi hz0 hz1 hz2 rfl (by decide) _ 6 (byteCells (l.take 6)) rfl HQ.out.1 ⟨g, off + 10, none⟩ (n - 10) (cap - 10) (byteCells (l.drop 10)) rfl (by rw [b2.out]; omega) HQ.out.2.2.cells o2.out (by unfold maxLen; omega) (by omega) (by have := HQ.out.2.1.size; omega) ?_; intro v6 w6 hown6 hgrow6 hnil6)
    have hb6 : Below w.heap.size w w6 := below_grownBy HQ.out.2.1 hgrow6 (Nat.le_refl _) (fun q hq => (HQ.out.1.lt q hq).1)
    rw [← HX.out] at hown6
    obtain ⟨a6, c6, rfl, e6, hs6⟩ := row_src hown6
    have HF : Hid (Below w.heap.size w w6) := hb6
    have hCr := refCrc_any a6 (6 + (n - 10)) c6 _ w6 (by omega) hs6
    clear hown6 hgrow6 hnil6 hb6 HQ hs6 e6
    go_wp2_with (go_at_call 132; fail)
    refine hCr.mono ?_
    rintro e w7 ⟨rfl, rfl⟩
    go_wp2
    go_ret
    exact ⟨by rw [HL.out]; rfl, HF.out⟩
theorem row_keep {w w' : World} {B e n : Nat} {v : Value} {xs : List Value} (h : w.ownsRow B e 1 v n xs) (hk : ∀ b, B ≤ b → b < w.heap.size → w'.heap[b]? = w.heap[b]?) : w'.ownsRow B e 1 v n xs := by
  refine ⟨h.1, ?_⟩
  rcases h.2 with h | ⟨g, cap, cur, e1, e2, e3, e4⟩
  · exact .inl h
  · exact .inr ⟨g, cap, cur, e1, e2, (hk g e2 (Array.getElem?_eq_some_iff.1 e3).1).trans e3, e4⟩
theorem seal_length {l : List UInt8} (h : 10 ≤ l.length) : (sealL l).length = l.length := by
  unfold sealL
  rw [List.length_append, List.length_append, be_length, List.length_take, List.length_drop]
  omega
theorem bv_map (l : List UInt8) : bvals (l.map UInt8.toNat) = byteCells l := by
  unfold bvals byteCells
  rw [List.map_map]
  rfl
set_option maxRecDepth 100000 in
set_option maxHeartbeats 1000000 in
theorem Sealed_any (g off n cap : Nat) (l : List UInt8) (w : World) (hn : n = l.length) (h10 : 10 ≤ n) (hmax : n ≤ 140737488351232) (hcap : n ≤ cap) (hl : At w g off l) :
    Calls Tryz.prog 110 #[.slice (some ⟨g, off, none⟩) n cap] w fun e w' => ∃ v, e = .returned v ∧ w'.ownsRow w.heap.size 5 1 v n (byteCells (sealL l)) ∧ Below w.heap.size w w' := by
  obtain ⟨i0, hi, hz0, hz1, hz2⟩ := info_parts info5
  have l1 : (l.take 6).length = 6 := by rw [List.length_take]; omega
  have l2 : (l.drop 10).length = n - 10 := by rw [List.length_drop, hn]
  have HA : Hid (At w g off (l.take 6) ∧ ∀ w', Below w.heap.size w w' → At w' g off l) := ⟨hl.take 6, fun w' hb => hl.below hb (Nat.le_refl _)⟩
  have b1 : Hid ((byteCells (l.take 6)).length = 6) := (bc_len _).trans l1
  have b2 : Hid ((byteCells (l.drop 10)).length = n - 10) := (bc_len _).trans l2
  have HCr : Hid (∀ w', At w' g off l → _) := fun w' h => refcrc_any g off n cap l w' hn h10 hmax hcap h
  have hcr := crcL_lt (l.take 6 ++ l.drop 10)
  have HX : Hid (∀ c, c = crcL (l.take 6 ++ l.drop 10) → byteCells (sealL l) = bvals ((l.take 6).map UInt8.toNat ++ putTo c 4 4) ++ byteCells (l.drop 10)) := fun c hc => by
    subst hc
    unfold sealL
    rw [bc_app, bc_app, bc_be, bvals_append, bv_map]
  have h10' : (10 : Int) ≤ (n : Int) := by omega
  have h6' : (6 : Int) ≤ (cap : Int) := by omega
  have hcap' : (n : Int) ≤ (cap : Int) := by omega
  have o1 : Hid (∀ u ∈ byteCells (l.take 6), u.oneCell' = true) := byteCells_one _
  have o2 : Hid (∀ u ∈ byteCells (l.drop 10), u.oneCell' = true) := byteCells_one _
  have HX2 := HX.out _ rfl
  generalize crcL (l.take 6 ++ l.drop 10) = C at *
  have HXX : Hid (byteCells (sealL l) = bvals ((l.take 6).map UInt8.toNat ++ putTo C 4 4) ++ byteCells (l.drop 10)) := HX2
  clear HX HX2 hl l1 l2
  have hn2 : Hid (n = l.length) := hn
  clear hn
  go_enter Tryz.func110, Tryz.ntmps110
  go_upto_region 3 with (at_builtin; refine wpList_append_own _ rfl _ _ 28 rfl w.heap.size 5 i0 (.int .u8 0) 1 1 Tryz.underlying28 hi hz0 hz1 hz2 rfl (by decide) (.slice none 0 0) 0 [] rfl ⟨rfl, .inl ⟨rfl, rfl⟩⟩ ⟨g, off, none⟩ 6 cap (byteCells (l.take 6)) rfl (by rw [b1.out]) HA.out.1.cells o1.out (by unfold maxLen; omega) (by omega) (Nat.le_refl _) ?_; intro v5 w5 hown5 hgrow5 hnil5)
  have hb5 : Below w.heap.size w w5 := below_grownBy (Below.refl _ w) hgrow5 (Nat.le_refl _) (fun q hq => by cases hq)
  obtain ⟨a5, c5, rfl⟩ := own_form3 hown5
  have HQ : Hid (w5.ownsRow w.heap.size 5 1 (.slice a5 6 c5) 6 (bvals ((l.take 6).map UInt8.toNat)) ∧ Below w.heap.size w w5 ∧ At w5 g off l) := ⟨by rw [bv_map]; exact hown5, hb5, HA.out.2 w5 hb5⟩
  clear hown5 hgrow5 hnil5 hb5
  go_wp2_with (go_at_call 112; fail)
  refine (HCr.out w5 HQ.out.2.2).mono ?_
  rintro e w6 ⟨rfl, hb6⟩
  have HQ6 : Hid (w6.ownsRow w.heap.size 5 1 (.slice a5 6 c5) 6 (bvals ((l.take 6).map UInt8.toNat)) ∧ Below w.heap.size w w6) := ⟨row_keep HQ.out.1 (fun b _ h2 => hb6.block b h2), HQ.out.2.1.trans (hb6.mono HQ.out.2.1.size)⟩
  clear HQ hb6 HCr
  have hwC : IntKind.u64.wrap (C : Int) = (C : Int) := by rw [IntKind.wrap_u64]; omega
  go_wp2_with (go_at_call 109; fail)
  refine (big_any w.heap.size (.slice a5 6 c5) 6 ((l.take 6).map UInt8.toNat) C 4 (by decide) w6 (by omega) (by omega) HQ6.out.1 HQ6.out.2.size).mono ?_
  rintro e w7 ⟨v7, rfl, ho7, hb7⟩
  obtain ⟨a7, c7, rfl⟩ := own_form3 ho7
  have HQ7 : Hid (w7.ownsRow w.heap.size 5 1 (.slice a7 10 c7) 10 (bvals ((l.take 6).map UInt8.toNat ++ putTo C 4 4)) ∧ Below w.heap.size w w7 ∧ At w7 g (off + 10) (l.drop 10)) := ⟨ho7, HQ6.out.2.trans hb7, (HA.out.2 w7 (HQ6.out.2.trans hb7)).drop 10⟩
  clear ho7 hb7 HQ6
  by_cases hc10 : cap = 10
  · obtain rfl : n = 10 := by omega
    subst hc10
    have HE : Hid (∀ j u, (byteCells (l.drop 10))[j]? = some u → w7.cell? ((⟨g, off, none⟩ : Addr).add j) = some u) := fun j u hu => by
      have h1 := (List.getElem?_eq_some_iff.1 hu).1
      have h2 := b2.out
      omega
    go_upto_region 4 with fail
    refine wp_region_lit ?_
    refine wpList_runTo rfl (some 13) rfl (.slice a7 10 c7) w7 (by kernel_rfl) ?_
    refine wpList_runTo rfl (some 14) rfl (.slice (some ⟨g, off, none⟩) 10 10) w7 (by kernel_rfl) ?_
    refine wpList_runTo rfl (some 15) rfl (.slice (some ⟨g, off, none⟩) 0 0) w7 (by kernel_rfl) ?_
    simp only [Act.put, List.setIfInBounds_toArray, List.set_cons_zero, List.set_cons_succ]
    refine wpList_append_own _ rfl _ _ 28 rfl w.heap.size 5 i0 (.int .u8 0) 1 1 Tryz.underlying28 hi hz0 hz1 hz2 rfl (by decide) _ 10 (bvals ((l.take 6).map UInt8.toNat ++ putTo C 4 4)) rfl HQ7.out.1 ⟨g, off, none⟩ (0) (0) (byteCells (l.drop 10)) rfl (by rw [b2.out]) HE.out o2.out (by unfold maxLen; omega) (by omega) (by have := HQ7.out.2.1.size; omega) ?_
    intro v8 w8 hown8 hgrow8 hnil8
    refine wpList_runTo rfl (some 2) rfl v8 w8 (by kernel_rfl) ?_
    refine wpList_nil ?_
    simp only [Act.put, List.setIfInBounds_toArray, List.set_cons_zero, List.set_cons_succ]
    have hb8 : Below w.heap.size w w8 := below_grownBy HQ7.out.2.1 hgrow8 (Nat.le_refl _) (fun q hq => (HQ7.out.1.lt q hq).1)
    rw [← HXX.out] at hown8
    have HF : Hid (w8.ownsRow w.heap.size 5 1 v8 10 (byteCells (sealL l)) ∧ Below w.heap.size w w8) := ⟨hown8, hb8⟩
    clear hown8 hgrow8 hnil8 hb8
    go_wp2
    go_ret
    exact ⟨_, rfl, HF.out.1, HF.out.2⟩
  · go_wp2_with (at_builtin; refine wpList_append_own _ rfl _ _ 28 rfl w.heap.size 5 i0 (.int .u8 0) 1 1 Tryz.underlying28 hi hz0 hz1 hz2 rfl (by decide) _ 10 (bvals ((l.take 6).map UInt8.toNat ++ putTo C 4 4)) rfl HQ7.out.1 ⟨g, off + 10, none⟩ (n - 10) (cap - 10) (byteCells (l.drop 10)) rfl (by rw [b2.out]; omega) HQ7.out.2.2.cells o2.out (by unfold maxLen; omega) (by omega) (by have := HQ7.out.2.1.size; omega) ?_; intro v8 w8 hown8 hgrow8 hnil8)
    have hb8 : Below w.heap.size w w8 := below_grownBy HQ7.out.2.1 hgrow8 (Nat.le_refl _) (fun q hq => (HQ7.out.1.lt q hq).1)
    rw [← HXX.out, show 10 + (n - 10) = n by omega] at hown8
    have HF : Hid (w8.ownsRow w.heap.size 5 1 v8 n (byteCells (sealL l)) ∧ Below w.heap.size w w8) := ⟨hown8, hb8⟩
    clear hown8 hgrow8 hnil8 hb8
    go_ret
    exact ⟨_, rfl, HF.out.1, HF.out.2⟩
end Go.Proofs.YthadnogcocmfgaaGreatDoor

namespace Go.Proofs.YthadnogcocmfgaaGreatDoor
set_option linter.unusedVariables false
open Go.RowKit

theorem rdF_okS {j : Nat} {b : List UInt8} {M M' : Msg} (hM : M.okS) (hb : b.length ≤ 60) (h : rdF j b M = .ok M') : M'.okS := by
  unfold rdF at h
  split at h
  · split at h
    · cases h
    · cases h
      intro i
      show (if i = j then _ else M.s i : ByteArray).size ≤ maxLen
      split
      · show (b.take (txL b)).toArray.size ≤ maxLen
        rw [List.size_toArray, List.length_take]
        unfold maxLen
        omega
      · exact hM i
  · split at h
    · split at h
      · cases h
      · cases h; exact hM
    · cases h; exact hM
theorem rdL_okS {l : List UInt8} {M' : Msg} : ∀ (js : List Nat) (p : Nat) (M : Msg), M.okS → rdL l js p M = .ok M' → M'.okS
  | [], p, M, hM, h => by
    unfold rdL at h
    split at h
    · cases h
    · cases h; exact hM
  | j :: js, p, M, hM, h => by
    unfold rdL at h
    cases h1 : rdF j ((l.drop p).take (wd j)) M with
    | error x => rw [h1] at h; cases h
    | ok M1 =>
      rw [h1] at h
      exact rdL_okS js _ M1 (rdF_okS hM (by rw [List.length_take]; have := wd_le j; omega) h1) h
/-- What was read, and what Valid then says of it. -/
theorem read_val {l : List UInt8} {z : Nat} {M : Msg} (hz : z < 256) (h : rdL l (js z) 10 (kindM z) = .ok M) : M.ok ∧ M.okS :=
  ⟨rdL_ok _ _ _ (kind_ok hz) (fun j hj => by have := (mem_js.1 hj).2.1; omega) h, rdL_okS _ _ _ (fun i => by show (0 : Nat) ≤ maxLen; exact Nat.zero_le _) h⟩
end Go.Proofs.YthadnogcocmfgaaGreatDoor

namespace Go.Proofs.YthadnogcocmfgaaGreatDoor
set_option linter.unusedVariables false
open Go.RowKit

set_option maxRecDepth 100000 in
set_option maxHeartbeats 1000000 in
theorem bput1 (s s' : ByteArray) (B : Nat) (w : World) (hc : w.cell? ⟨B, 1, none⟩ = some (.string s)) (hf : w.frozen? ⟨B, 1, none⟩ = false) :
    Calls Tryz.prog 113 #[.pointer (some ⟨B, 0, none⟩), .int .i64 49, .int .u64 0, .string s'] w fun e w' => e = .returned (.tuple #[]) ∧ w' = w.setCell ⟨B, 1, none⟩ (.string s') := by
  go_enter Tryz.func113, Tryz.ntmps113
  go_wp2
  go_end0
  exact ⟨rfl, rfl⟩
set_option maxRecDepth 100000 in
set_option maxHeartbeats 1000000 in
theorem bput2 (s s' : ByteArray) (B : Nat) (w : World) (hc : w.cell? ⟨B, 2, none⟩ = some (.string s)) (hf : w.frozen? ⟨B, 2, none⟩ = false) :
    Calls Tryz.prog 113 #[.pointer (some ⟨B, 0, none⟩), .int .i64 56, .int .u64 0, .string s'] w fun e w' => e = .returned (.tuple #[]) ∧ w' = w.setCell ⟨B, 2, none⟩ (.string s') := by
  go_enter Tryz.func113, Tryz.ntmps113
  go_wp2
  go_end0
  exact ⟨rfl, rfl⟩
set_option maxRecDepth 100000 in
set_option maxHeartbeats 1000000 in
theorem bput3 (z : Int) (u : Nat) (V : Int) (hV : IntKind.i64.wrap (u : Int) = V) (B : Nat) (w : World) (hc : w.cell? ⟨B, 3, none⟩ = some (.int .i64 z)) (hf : w.frozen? ⟨B, 3, none⟩ = false) :
    Calls Tryz.prog 113 #[.pointer (some ⟨B, 0, none⟩), .int .i64 34, .int .u64 (u : Int), .string ⟨#[]⟩] w fun e w' => e = .returned (.tuple #[]) ∧ w' = w.setCell ⟨B, 3, none⟩ (.int .i64 V) := by
  go_enter Tryz.func113, Tryz.ntmps113
  go_wp2
  go_end0
  exact ⟨rfl, rfl⟩
set_option maxRecDepth 100000 in
set_option maxHeartbeats 1000000 in
theorem bput4 (b bb : Bool) (u : Nat) (V : Int) (hV : IntKind.i64.wrap (u : Int) = V) (hb : ((u : Int) == 1) = bb) (B : Nat) (w : World) (hc : w.cell? ⟨B, 4, none⟩ = some (.bool b)) (hf : w.frozen? ⟨B, 4, none⟩ = false) :
    Calls Tryz.prog 113 #[.pointer (some ⟨B, 0, none⟩), .int .i64 43, .int .u64 (u : Int), .string ⟨#[]⟩] w fun e w' => e = .returned (.tuple #[]) ∧ w' = w.setCell ⟨B, 4, none⟩ (.bool bb) := by
  go_enter Tryz.func113, Tryz.ntmps113
  go_wp2
  go_end0
  exact ⟨rfl, rfl⟩
set_option maxRecDepth 100000 in
set_option maxHeartbeats 1000000 in
theorem bput5 (z : Int) (u : Nat) (V : Int) (hV : IntKind.i64.wrap (u : Int) = V) (B : Nat) (w : World) (hc : w.cell? ⟨B, 5, none⟩ = some (.int .i64 z)) (hf : w.frozen? ⟨B, 5, none⟩ = false) :
    Calls Tryz.prog 113 #[.pointer (some ⟨B, 0, none⟩), .int .i64 52, .int .u64 (u : Int), .string ⟨#[]⟩] w fun e w' => e = .returned (.tuple #[]) ∧ w' = w.setCell ⟨B, 5, none⟩ (.int .i64 V) := by
  go_enter Tryz.func113, Tryz.ntmps113
  go_wp2
  go_end0
  exact ⟨rfl, rfl⟩
set_option maxRecDepth 100000 in
set_option maxHeartbeats 1000000 in
theorem bput6 (z : Int) (u : Nat) (V : Int) (hV : IntKind.i64.wrap (u : Int) = V) (B : Nat) (w : World) (hc : w.cell? ⟨B, 6, none⟩ = some (.int .i64 z)) (hf : w.frozen? ⟨B, 6, none⟩ = false) :
    Calls Tryz.prog 113 #[.pointer (some ⟨B, 0, none⟩), .int .i64 122, .int .u64 (u : Int), .string ⟨#[]⟩] w fun e w' => e = .returned (.tuple #[]) ∧ w' = w.setCell ⟨B, 6, none⟩ (.int .i64 V) := by
  go_enter Tryz.func113, Tryz.ntmps113
  go_wp2
  go_end0
  exact ⟨rfl, rfl⟩
set_option maxRecDepth 100000 in
set_option maxHeartbeats 1000000 in
theorem bput7 (z : Int) (u : Nat) (V : Int) (hV : IntKind.i64.wrap (u : Int) = V) (B : Nat) (w : World) (hc : w.cell? ⟨B, 7, none⟩ = some (.int .i64 z)) (hf : w.frozen? ⟨B, 7, none⟩ = false) :
    Calls Tryz.prog 113 #[.pointer (some ⟨B, 0, none⟩), .int .i64 108, .int .u64 (u : Int), .string ⟨#[]⟩] w fun e w' => e = .returned (.tuple #[]) ∧ w' = w.setCell ⟨B, 7, none⟩ (.int .i64 V) := by
  go_enter Tryz.func113, Tryz.ntmps113
  go_wp2
  go_end0
  exact ⟨rfl, rfl⟩
set_option maxRecDepth 100000 in
set_option maxHeartbeats 1000000 in
theorem bput8 (b bb : Bool) (u : Nat) (V : Int) (hV : IntKind.i64.wrap (u : Int) = V) (hb : ((u : Int) == 1) = bb) (B : Nat) (w : World) (hc : w.cell? ⟨B, 8, none⟩ = some (.bool b)) (hf : w.frozen? ⟨B, 8, none⟩ = false) :
    Calls Tryz.prog 113 #[.pointer (some ⟨B, 0, none⟩), .int .i64 141, .int .u64 (u : Int), .string ⟨#[]⟩] w fun e w' => e = .returned (.tuple #[]) ∧ w' = w.setCell ⟨B, 8, none⟩ (.bool bb) := by
  go_enter Tryz.func113, Tryz.ntmps113
  go_wp2
  go_end0
  exact ⟨rfl, rfl⟩
set_option maxRecDepth 100000 in
set_option maxHeartbeats 1000000 in
theorem bput9 (s s' : ByteArray) (B : Nat) (w : World) (hc : w.cell? ⟨B, 9, none⟩ = some (.string s)) (hf : w.frozen? ⟨B, 9, none⟩ = false) :
    Calls Tryz.prog 113 #[.pointer (some ⟨B, 0, none⟩), .int .i64 112, .int .u64 0, .string s'] w fun e w' => e = .returned (.tuple #[]) ∧ w' = w.setCell ⟨B, 9, none⟩ (.string s') := by
  go_enter Tryz.func113, Tryz.ntmps113
  go_wp2
  go_end0
  exact ⟨rfl, rfl⟩
set_option maxRecDepth 100000 in
set_option maxHeartbeats 1000000 in
theorem bput10 (z : Int) (u : Nat) (V : Int) (hV : IntKind.i64.wrap (u : Int) = V) (B : Nat) (w : World) (hc : w.cell? ⟨B, 10, none⟩ = some (.int .i64 z)) (hf : w.frozen? ⟨B, 10, none⟩ = false) :
    Calls Tryz.prog 113 #[.pointer (some ⟨B, 0, none⟩), .int .i64 7, .int .u64 (u : Int), .string ⟨#[]⟩] w fun e w' => e = .returned (.tuple #[]) ∧ w' = w.setCell ⟨B, 10, none⟩ (.int .i64 V) := by
  go_enter Tryz.func113, Tryz.ntmps113
  go_wp2
  go_end0
  exact ⟨rfl, rfl⟩
set_option maxRecDepth 100000 in
set_option maxHeartbeats 1000000 in
theorem bput11 (z : Int) (u : Nat) (V : Int) (hV : IntKind.i64.wrap (u : Int) = V) (B : Nat) (w : World) (hc : w.cell? ⟨B, 11, none⟩ = some (.int .i64 z)) (hf : w.frozen? ⟨B, 11, none⟩ = false) :
    Calls Tryz.prog 113 #[.pointer (some ⟨B, 0, none⟩), .int .i64 16, .int .u64 (u : Int), .string ⟨#[]⟩] w fun e w' => e = .returned (.tuple #[]) ∧ w' = w.setCell ⟨B, 11, none⟩ (.int .i64 V) := by
  go_enter Tryz.func113, Tryz.ntmps113
  go_wp2
  go_end0
  exact ⟨rfl, rfl⟩
set_option maxRecDepth 100000 in
set_option maxHeartbeats 1000000 in
theorem bput12 (z : Int) (u : Nat) (V : Int) (hV : IntKind.i64.wrap (u : Int) = V) (B : Nat) (w : World) (hc : w.cell? ⟨B, 12, none⟩ = some (.int .i64 z)) (hf : w.frozen? ⟨B, 12, none⟩ = false) :
    Calls Tryz.prog 113 #[.pointer (some ⟨B, 0, none⟩), .int .i64 36, .int .u64 (u : Int), .string ⟨#[]⟩] w fun e w' => e = .returned (.tuple #[]) ∧ w' = w.setCell ⟨B, 12, none⟩ (.int .i64 V) := by
  go_enter Tryz.func113, Tryz.ntmps113
  go_wp2
  go_end0
  exact ⟨rfl, rfl⟩
set_option maxRecDepth 100000 in
set_option maxHeartbeats 1000000 in
theorem bput13 (b bb : Bool) (u : Nat) (V : Int) (hV : IntKind.i64.wrap (u : Int) = V) (hb : ((u : Int) == 1) = bb) (B : Nat) (w : World) (hc : w.cell? ⟨B, 13, none⟩ = some (.bool b)) (hf : w.frozen? ⟨B, 13, none⟩ = false) :
    Calls Tryz.prog 113 #[.pointer (some ⟨B, 0, none⟩), .int .i64 123, .int .u64 (u : Int), .string ⟨#[]⟩] w fun e w' => e = .returned (.tuple #[]) ∧ w' = w.setCell ⟨B, 13, none⟩ (.bool bb) := by
  go_enter Tryz.func113, Tryz.ntmps113
  go_wp2
  go_end0
  exact ⟨rfl, rfl⟩
set_option maxRecDepth 100000 in
set_option maxHeartbeats 1000000 in
theorem bput14 (z : Int) (u : Nat) (V : Int) (hV : IntKind.i64.wrap (u : Int) = V) (B : Nat) (w : World) (hc : w.cell? ⟨B, 14, none⟩ = some (.int .i64 z)) (hf : w.frozen? ⟨B, 14, none⟩ = false) :
    Calls Tryz.prog 113 #[.pointer (some ⟨B, 0, none⟩), .int .i64 45, .int .u64 (u : Int), .string ⟨#[]⟩] w fun e w' => e = .returned (.tuple #[]) ∧ w' = w.setCell ⟨B, 14, none⟩ (.int .i64 V) := by
  go_enter Tryz.func113, Tryz.ntmps113
  go_wp2
  go_end0
  exact ⟨rfl, rfl⟩
set_option maxRecDepth 100000 in
set_option maxHeartbeats 1000000 in
theorem bput15 (z : Int) (u : Nat) (V : Int) (hV : IntKind.i64.wrap (u : Int) = V) (B : Nat) (w : World) (hc : w.cell? ⟨B, 15, none⟩ = some (.int .i64 z)) (hf : w.frozen? ⟨B, 15, none⟩ = false) :
    Calls Tryz.prog 113 #[.pointer (some ⟨B, 0, none⟩), .int .i64 372, .int .u64 (u : Int), .string ⟨#[]⟩] w fun e w' => e = .returned (.tuple #[]) ∧ w' = w.setCell ⟨B, 15, none⟩ (.int .i64 V) := by
  go_enter Tryz.func113, Tryz.ntmps113
  go_wp2
  go_end0
  exact ⟨rfl, rfl⟩
set_option maxRecDepth 100000 in
set_option maxHeartbeats 1000000 in
theorem bput16 (z : Int) (u : Nat) (V : Int) (hV : IntKind.i64.wrap (u : Int) = V) (B : Nat) (w : World) (hc : w.cell? ⟨B, 16, none⟩ = some (.int .i64 z)) (hf : w.frozen? ⟨B, 16, none⟩ = false) :
    Calls Tryz.prog 113 #[.pointer (some ⟨B, 0, none⟩), .int .i64 371, .int .u64 (u : Int), .string ⟨#[]⟩] w fun e w' => e = .returned (.tuple #[]) ∧ w' = w.setCell ⟨B, 16, none⟩ (.int .i64 V) := by
  go_enter Tryz.func113, Tryz.ntmps113
  go_wp2
  go_end0
  exact ⟨rfl, rfl⟩
set_option maxRecDepth 100000 in
set_option maxHeartbeats 1000000 in
theorem bput17 (z : Int) (u : Nat) (V : Int) (hV : IntKind.i64.wrap (u : Int) = V) (B : Nat) (w : World) (hc : w.cell? ⟨B, 17, none⟩ = some (.int .i64 z)) (hf : w.frozen? ⟨B, 17, none⟩ = false) :
    Calls Tryz.prog 113 #[.pointer (some ⟨B, 0, none⟩), .int .i64 373, .int .u64 (u : Int), .string ⟨#[]⟩] w fun e w' => e = .returned (.tuple #[]) ∧ w' = w.setCell ⟨B, 17, none⟩ (.int .i64 V) := by
  go_enter Tryz.func113, Tryz.ntmps113
  go_wp2
  go_end0
  exact ⟨rfl, rfl⟩
set_option maxRecDepth 100000 in
set_option maxHeartbeats 1000000 in
theorem bput18 (s s' : ByteArray) (B : Nat) (w : World) (hc : w.cell? ⟨B, 18, none⟩ = some (.string s)) (hf : w.frozen? ⟨B, 18, none⟩ = false) :
    Calls Tryz.prog 113 #[.pointer (some ⟨B, 0, none⟩), .int .i64 58, .int .u64 0, .string s'] w fun e w' => e = .returned (.tuple #[]) ∧ w' = w.setCell ⟨B, 18, none⟩ (.string s') := by
  go_enter Tryz.func113, Tryz.ntmps113
  go_wp2
  go_end0
  exact ⟨rfl, rfl⟩
set_option maxRecDepth 100000 in
set_option maxHeartbeats 1000000 in
theorem bput19 (s s' : ByteArray) (B : Nat) (w : World) (hc : w.cell? ⟨B, 19, none⟩ = some (.string s)) (hf : w.frozen? ⟨B, 19, none⟩ = false) :
    Calls Tryz.prog 113 #[.pointer (some ⟨B, 0, none⟩), .int .i64 11, .int .u64 0, .string s'] w fun e w' => e = .returned (.tuple #[]) ∧ w' = w.setCell ⟨B, 19, none⟩ (.string s') := by
  go_enter Tryz.func113, Tryz.ntmps113
  go_wp2
  go_end0
  exact ⟨rfl, rfl⟩
set_option maxRecDepth 100000 in
set_option maxHeartbeats 1000000 in
theorem bput20 (s s' : ByteArray) (B : Nat) (w : World) (hc : w.cell? ⟨B, 20, none⟩ = some (.string s)) (hf : w.frozen? ⟨B, 20, none⟩ = false) :
    Calls Tryz.prog 113 #[.pointer (some ⟨B, 0, none⟩), .int .i64 41, .int .u64 0, .string s'] w fun e w' => e = .returned (.tuple #[]) ∧ w' = w.setCell ⟨B, 20, none⟩ (.string s') := by
  go_enter Tryz.func113, Tryz.ntmps113
  go_wp2
  go_end0
  exact ⟨rfl, rfl⟩
set_option maxRecDepth 100000 in
set_option maxHeartbeats 1000000 in
theorem bput21 (s s' : ByteArray) (B : Nat) (w : World) (hc : w.cell? ⟨B, 21, none⟩ = some (.string s)) (hf : w.frozen? ⟨B, 21, none⟩ = false) :
    Calls Tryz.prog 113 #[.pointer (some ⟨B, 0, none⟩), .int .i64 1, .int .u64 0, .string s'] w fun e w' => e = .returned (.tuple #[]) ∧ w' = w.setCell ⟨B, 21, none⟩ (.string s') := by
  go_enter Tryz.func113, Tryz.ntmps113
  go_wp2
  go_end0
  exact ⟨rfl, rfl⟩
set_option maxRecDepth 100000 in
set_option maxHeartbeats 1000000 in
theorem bput22 (s s' : ByteArray) (B : Nat) (w : World) (hc : w.cell? ⟨B, 22, none⟩ = some (.string s)) (hf : w.frozen? ⟨B, 22, none⟩ = false) :
    Calls Tryz.prog 113 #[.pointer (some ⟨B, 0, none⟩), .int .i64 55, .int .u64 0, .string s'] w fun e w' => e = .returned (.tuple #[]) ∧ w' = w.setCell ⟨B, 22, none⟩ (.string s') := by
  go_enter Tryz.func113, Tryz.ntmps113
  go_wp2
  go_end0
  exact ⟨rfl, rfl⟩

end Go.Proofs.YthadnogcocmfgaaGreatDoor

namespace Go.Proofs.YthadnogcocmfgaaGreatDoor
set_option linter.unusedVariables false
open Go.RowKit

set_option maxRecDepth 100000 in
set_option maxHeartbeats 1000000 in
theorem bord23 (z V : Int) (B : Nat) (w : World) (hc : w.cell? ⟨B, 23, none⟩ = some (.int .i64 z)) (hf : w.frozen? ⟨B, 23, none⟩ = false) :
    Calls Tryz.prog 133 #[.pointer (some ⟨B, 0, none⟩), .int .i64 54, .int .i64 V, .int .i64 V] w fun e w' => e = .returned (.tuple #[]) ∧ w' = w.setCell ⟨B, 23, none⟩ (.int .i64 V) := by
  go_enter Tryz.func133, Tryz.ntmps133
  go_wp2
  go_end0
  exact ⟨rfl, rfl⟩
set_option maxRecDepth 100000 in
set_option maxHeartbeats 1000000 in
theorem bput23 (z : Int) (u : Nat) (V : Int) (hV : IntKind.i64.wrap (u : Int) = V) (B : Nat) (w : World) (hc : w.cell? ⟨B, 23, none⟩ = some (.int .i64 z)) (hf : w.frozen? ⟨B, 23, none⟩ = false) :
    Calls Tryz.prog 113 #[.pointer (some ⟨B, 0, none⟩), .int .i64 54, .int .u64 (u : Int), .string ⟨#[]⟩] w fun e w' => e = .returned (.tuple #[]) ∧ w' = w.setCell ⟨B, 23, none⟩ (.int .i64 V) := by
  have ho := bord23 _ V B w hc hf
  go_enter Tryz.func113, Tryz.ntmps113
  go_wp2_with (go_at_call 133; refine ho.mono ?_; rintro e w' ⟨rfl, rfl⟩)
  go_end0
  exact ⟨rfl, rfl⟩
set_option maxRecDepth 100000 in
set_option maxHeartbeats 1000000 in
theorem bord24 (z V : Int) (B : Nat) (w : World) (hc : w.cell? ⟨B, 24, none⟩ = some (.int .i64 z)) (hf : w.frozen? ⟨B, 24, none⟩ = false) :
    Calls Tryz.prog 133 #[.pointer (some ⟨B, 0, none⟩), .int .i64 40, .int .i64 V, .int .i64 V] w fun e w' => e = .returned (.tuple #[]) ∧ w' = w.setCell ⟨B, 24, none⟩ (.int .i64 V) := by
  go_enter Tryz.func133, Tryz.ntmps133
  go_wp2
  go_end0
  exact ⟨rfl, rfl⟩
set_option maxRecDepth 100000 in
set_option maxHeartbeats 1000000 in
theorem bput24 (z : Int) (u : Nat) (V : Int) (hV : IntKind.i64.wrap (u : Int) = V) (B : Nat) (w : World) (hc : w.cell? ⟨B, 24, none⟩ = some (.int .i64 z)) (hf : w.frozen? ⟨B, 24, none⟩ = false) :
    Calls Tryz.prog 113 #[.pointer (some ⟨B, 0, none⟩), .int .i64 40, .int .u64 (u : Int), .string ⟨#[]⟩] w fun e w' => e = .returned (.tuple #[]) ∧ w' = w.setCell ⟨B, 24, none⟩ (.int .i64 V) := by
  have ho := bord24 _ V B w hc hf
  go_enter Tryz.func113, Tryz.ntmps113
  go_wp2_with (go_at_call 133; refine ho.mono ?_; rintro e w' ⟨rfl, rfl⟩)
  go_end0
  exact ⟨rfl, rfl⟩
set_option maxRecDepth 100000 in
set_option maxHeartbeats 1000000 in
theorem bord25 (z V : Int) (B : Nat) (w : World) (hc : w.cell? ⟨B, 25, none⟩ = some (.int .i64 z)) (hf : w.frozen? ⟨B, 25, none⟩ = false) :
    Calls Tryz.prog 133 #[.pointer (some ⟨B, 0, none⟩), .int .i64 59, .int .i64 V, .int .i64 V] w fun e w' => e = .returned (.tuple #[]) ∧ w' = w.setCell ⟨B, 25, none⟩ (.int .i64 V) := by
  go_enter Tryz.func133, Tryz.ntmps133
  go_wp2
  go_end0
  exact ⟨rfl, rfl⟩
set_option maxRecDepth 100000 in
set_option maxHeartbeats 1000000 in
theorem bput25 (z : Int) (u : Nat) (V : Int) (hV : IntKind.i64.wrap (u : Int) = V) (B : Nat) (w : World) (hc : w.cell? ⟨B, 25, none⟩ = some (.int .i64 z)) (hf : w.frozen? ⟨B, 25, none⟩ = false) :
    Calls Tryz.prog 113 #[.pointer (some ⟨B, 0, none⟩), .int .i64 59, .int .u64 (u : Int), .string ⟨#[]⟩] w fun e w' => e = .returned (.tuple #[]) ∧ w' = w.setCell ⟨B, 25, none⟩ (.int .i64 V) := by
  have ho := bord25 _ V B w hc hf
  go_enter Tryz.func113, Tryz.ntmps113
  go_wp2_with (go_at_call 133; refine ho.mono ?_; rintro e w' ⟨rfl, rfl⟩)
  go_end0
  exact ⟨rfl, rfl⟩
set_option maxRecDepth 100000 in
set_option maxHeartbeats 1000000 in
theorem bord26 (z V : Int) (B : Nat) (w : World) (hc : w.cell? ⟨B, 26, none⟩ = some (.int .i64 z)) (hf : w.frozen? ⟨B, 26, none⟩ = false) :
    Calls Tryz.prog 133 #[.pointer (some ⟨B, 0, none⟩), .int .i64 44, .int .i64 V, .int .i64 V] w fun e w' => e = .returned (.tuple #[]) ∧ w' = w.setCell ⟨B, 26, none⟩ (.int .i64 V) := by
  go_enter Tryz.func133, Tryz.ntmps133
  go_wp2
  go_end0
  exact ⟨rfl, rfl⟩
set_option maxRecDepth 100000 in
set_option maxHeartbeats 1000000 in
theorem bput26 (z : Int) (u : Nat) (V : Int) (hV : IntKind.i64.wrap (u : Int) = V) (B : Nat) (w : World) (hc : w.cell? ⟨B, 26, none⟩ = some (.int .i64 z)) (hf : w.frozen? ⟨B, 26, none⟩ = false) :
    Calls Tryz.prog 113 #[.pointer (some ⟨B, 0, none⟩), .int .i64 44, .int .u64 (u : Int), .string ⟨#[]⟩] w fun e w' => e = .returned (.tuple #[]) ∧ w' = w.setCell ⟨B, 26, none⟩ (.int .i64 V) := by
  have ho := bord26 _ V B w hc hf
  go_enter Tryz.func113, Tryz.ntmps113
  go_wp2_with (go_at_call 133; refine ho.mono ?_; rintro e w' ⟨rfl, rfl⟩)
  go_end0
  exact ⟨rfl, rfl⟩
set_option maxRecDepth 100000 in
set_option maxHeartbeats 1000000 in
theorem bord27 (z V : Int) (B : Nat) (w : World) (hc : w.cell? ⟨B, 27, none⟩ = some (.int .i64 z)) (hf : w.frozen? ⟨B, 27, none⟩ = false) :
    Calls Tryz.prog 133 #[.pointer (some ⟨B, 0, none⟩), .int .i64 99, .int .i64 V, .int .i64 V] w fun e w' => e = .returned (.tuple #[]) ∧ w' = w.setCell ⟨B, 27, none⟩ (.int .i64 V) := by
  go_enter Tryz.func133, Tryz.ntmps133
  go_wp2
  go_end0
  exact ⟨rfl, rfl⟩
set_option maxRecDepth 100000 in
set_option maxHeartbeats 1000000 in
theorem bput27 (z : Int) (u : Nat) (V : Int) (hV : IntKind.i64.wrap (u : Int) = V) (B : Nat) (w : World) (hc : w.cell? ⟨B, 27, none⟩ = some (.int .i64 z)) (hf : w.frozen? ⟨B, 27, none⟩ = false) :
    Calls Tryz.prog 113 #[.pointer (some ⟨B, 0, none⟩), .int .i64 99, .int .u64 (u : Int), .string ⟨#[]⟩] w fun e w' => e = .returned (.tuple #[]) ∧ w' = w.setCell ⟨B, 27, none⟩ (.int .i64 V) := by
  have ho := bord27 _ V B w hc hf
  go_enter Tryz.func113, Tryz.ntmps113
  go_wp2_with (go_at_call 133; refine ho.mono ?_; rintro e w' ⟨rfl, rfl⟩)
  go_end0
  exact ⟨rfl, rfl⟩
set_option maxRecDepth 100000 in
set_option maxHeartbeats 1000000 in
theorem bord28 (z V : Int) (B : Nat) (w : World) (hc : w.cell? ⟨B, 28, none⟩ = some (.int .i64 z)) (hf : w.frozen? ⟨B, 28, none⟩ = false) :
    Calls Tryz.prog 133 #[.pointer (some ⟨B, 0, none⟩), .int .i64 38, .int .i64 V, .int .i64 V] w fun e w' => e = .returned (.tuple #[]) ∧ w' = w.setCell ⟨B, 28, none⟩ (.int .i64 V) := by
  go_enter Tryz.func133, Tryz.ntmps133
  go_wp2
  go_end0
  exact ⟨rfl, rfl⟩
set_option maxRecDepth 100000 in
set_option maxHeartbeats 1000000 in
theorem bput28 (z : Int) (u : Nat) (V : Int) (hV : IntKind.i64.wrap (u : Int) = V) (B : Nat) (w : World) (hc : w.cell? ⟨B, 28, none⟩ = some (.int .i64 z)) (hf : w.frozen? ⟨B, 28, none⟩ = false) :
    Calls Tryz.prog 113 #[.pointer (some ⟨B, 0, none⟩), .int .i64 38, .int .u64 (u : Int), .string ⟨#[]⟩] w fun e w' => e = .returned (.tuple #[]) ∧ w' = w.setCell ⟨B, 28, none⟩ (.int .i64 V) := by
  have ho := bord28 _ V B w hc hf
  go_enter Tryz.func113, Tryz.ntmps113
  go_wp2_with (go_at_call 133; refine ho.mono ?_; rintro e w' ⟨rfl, rfl⟩)
  go_end0
  exact ⟨rfl, rfl⟩
set_option maxRecDepth 100000 in
set_option maxHeartbeats 1000000 in
theorem bord29 (z V : Int) (B : Nat) (w : World) (hc : w.cell? ⟨B, 29, none⟩ = some (.int .i64 z)) (hf : w.frozen? ⟨B, 29, none⟩ = false) :
    Calls Tryz.prog 133 #[.pointer (some ⟨B, 0, none⟩), .int .i64 111, .int .i64 V, .int .i64 V] w fun e w' => e = .returned (.tuple #[]) ∧ w' = w.setCell ⟨B, 29, none⟩ (.int .i64 V) := by
  go_enter Tryz.func133, Tryz.ntmps133
  go_wp2
  go_end0
  exact ⟨rfl, rfl⟩
set_option maxRecDepth 100000 in
set_option maxHeartbeats 1000000 in
theorem bput29 (z : Int) (u : Nat) (V : Int) (hV : IntKind.i64.wrap (u : Int) = V) (B : Nat) (w : World) (hc : w.cell? ⟨B, 29, none⟩ = some (.int .i64 z)) (hf : w.frozen? ⟨B, 29, none⟩ = false) :
    Calls Tryz.prog 113 #[.pointer (some ⟨B, 0, none⟩), .int .i64 111, .int .u64 (u : Int), .string ⟨#[]⟩] w fun e w' => e = .returned (.tuple #[]) ∧ w' = w.setCell ⟨B, 29, none⟩ (.int .i64 V) := by
  have ho := bord29 _ V B w hc hf
  go_enter Tryz.func113, Tryz.ntmps113
  go_wp2_with (go_at_call 133; refine ho.mono ?_; rintro e w' ⟨rfl, rfl⟩)
  go_end0
  exact ⟨rfl, rfl⟩
set_option maxRecDepth 100000 in
set_option maxHeartbeats 1000000 in
theorem bord30 (z V : Int) (B : Nat) (w : World) (hc : w.cell? ⟨B, 30, none⟩ = some (.int .i64 z)) (hf : w.frozen? ⟨B, 30, none⟩ = false) :
    Calls Tryz.prog 133 #[.pointer (some ⟨B, 0, none⟩), .int .i64 110, .int .i64 V, .int .i64 V] w fun e w' => e = .returned (.tuple #[]) ∧ w' = w.setCell ⟨B, 30, none⟩ (.int .i64 V) := by
  go_enter Tryz.func133, Tryz.ntmps133
  go_wp2
  go_end0
  exact ⟨rfl, rfl⟩
set_option maxRecDepth 100000 in
set_option maxHeartbeats 1000000 in
theorem bput30 (z : Int) (u : Nat) (V : Int) (hV : IntKind.i64.wrap (u : Int) = V) (B : Nat) (w : World) (hc : w.cell? ⟨B, 30, none⟩ = some (.int .i64 z)) (hf : w.frozen? ⟨B, 30, none⟩ = false) :
    Calls Tryz.prog 113 #[.pointer (some ⟨B, 0, none⟩), .int .i64 110, .int .u64 (u : Int), .string ⟨#[]⟩] w fun e w' => e = .returned (.tuple #[]) ∧ w' = w.setCell ⟨B, 30, none⟩ (.int .i64 V) := by
  have ho := bord30 _ V B w hc hf
  go_enter Tryz.func113, Tryz.ntmps113
  go_wp2_with (go_at_call 133; refine ho.mono ?_; rintro e w' ⟨rfl, rfl⟩)
  go_end0
  exact ⟨rfl, rfl⟩
set_option maxRecDepth 100000 in
set_option maxHeartbeats 1000000 in
theorem bord31 (z V : Int) (B : Nat) (w : World) (hc : w.cell? ⟨B, 31, none⟩ = some (.int .i64 z)) (hf : w.frozen? ⟨B, 31, none⟩ = false) :
    Calls Tryz.prog 133 #[.pointer (some ⟨B, 0, none⟩), .int .i64 432, .int .i64 V, .int .i64 V] w fun e w' => e = .returned (.tuple #[]) ∧ w' = w.setCell ⟨B, 31, none⟩ (.int .i64 V) := by
  go_enter Tryz.func133, Tryz.ntmps133
  go_wp2
  go_end0
  exact ⟨rfl, rfl⟩
set_option maxRecDepth 100000 in
set_option maxHeartbeats 1000000 in
theorem bput31 (z : Int) (u : Nat) (V : Int) (hV : IntKind.i64.wrap (u : Int) = V) (B : Nat) (w : World) (hc : w.cell? ⟨B, 31, none⟩ = some (.int .i64 z)) (hf : w.frozen? ⟨B, 31, none⟩ = false) :
    Calls Tryz.prog 113 #[.pointer (some ⟨B, 0, none⟩), .int .i64 432, .int .u64 (u : Int), .string ⟨#[]⟩] w fun e w' => e = .returned (.tuple #[]) ∧ w' = w.setCell ⟨B, 31, none⟩ (.int .i64 V) := by
  have ho := bord31 _ V B w hc hf
  go_enter Tryz.func113, Tryz.ntmps113
  go_wp2_with (go_at_call 133; refine ho.mono ?_; rintro e w' ⟨rfl, rfl⟩)
  go_end0
  exact ⟨rfl, rfl⟩
set_option maxRecDepth 100000 in
set_option maxHeartbeats 1000000 in
theorem bord32 (z V : Int) (B : Nat) (w : World) (hc : w.cell? ⟨B, 32, none⟩ = some (.int .i64 z)) (hf : w.frozen? ⟨B, 32, none⟩ = false) :
    Calls Tryz.prog 133 #[.pointer (some ⟨B, 0, none⟩), .int .i64 37, .int .i64 V, .int .i64 V] w fun e w' => e = .returned (.tuple #[]) ∧ w' = w.setCell ⟨B, 32, none⟩ (.int .i64 V) := by
  go_enter Tryz.func133, Tryz.ntmps133
  go_wp2
  go_end0
  exact ⟨rfl, rfl⟩
set_option maxRecDepth 100000 in
set_option maxHeartbeats 1000000 in
theorem bput32 (z : Int) (u : Nat) (V : Int) (hV : IntKind.i64.wrap (u : Int) = V) (B : Nat) (w : World) (hc : w.cell? ⟨B, 32, none⟩ = some (.int .i64 z)) (hf : w.frozen? ⟨B, 32, none⟩ = false) :
    Calls Tryz.prog 113 #[.pointer (some ⟨B, 0, none⟩), .int .i64 37, .int .u64 (u : Int), .string ⟨#[]⟩] w fun e w' => e = .returned (.tuple #[]) ∧ w' = w.setCell ⟨B, 32, none⟩ (.int .i64 V) := by
  have ho := bord32 _ V B w hc hf
  go_enter Tryz.func113, Tryz.ntmps113
  go_wp2_with (go_at_call 133; refine ho.mono ?_; rintro e w' ⟨rfl, rfl⟩)
  go_end0
  exact ⟨rfl, rfl⟩
set_option maxRecDepth 100000 in
set_option maxHeartbeats 1000000 in
theorem bord33 (z V : Int) (B : Nat) (w : World) (hc : w.cell? ⟨B, 33, none⟩ = some (.int .i64 z)) (hf : w.frozen? ⟨B, 33, none⟩ = false) :
    Calls Tryz.prog 133 #[.pointer (some ⟨B, 0, none⟩), .int .i64 17, .int .i64 V, .int .i64 V] w fun e w' => e = .returned (.tuple #[]) ∧ w' = w.setCell ⟨B, 33, none⟩ (.int .i64 V) := by
  go_enter Tryz.func133, Tryz.ntmps133
  go_wp2
  go_end0
  exact ⟨rfl, rfl⟩
set_option maxRecDepth 100000 in
set_option maxHeartbeats 1000000 in
theorem bput33 (z : Int) (u : Nat) (V : Int) (hV : IntKind.i64.wrap (u : Int) = V) (B : Nat) (w : World) (hc : w.cell? ⟨B, 33, none⟩ = some (.int .i64 z)) (hf : w.frozen? ⟨B, 33, none⟩ = false) :
    Calls Tryz.prog 113 #[.pointer (some ⟨B, 0, none⟩), .int .i64 17, .int .u64 (u : Int), .string ⟨#[]⟩] w fun e w' => e = .returned (.tuple #[]) ∧ w' = w.setCell ⟨B, 33, none⟩ (.int .i64 V) := by
  have ho := bord33 _ V B w hc hf
  go_enter Tryz.func113, Tryz.ntmps113
  go_wp2_with (go_at_call 133; refine ho.mono ?_; rintro e w' ⟨rfl, rfl⟩)
  go_end0
  exact ⟨rfl, rfl⟩
set_option maxRecDepth 100000 in
set_option maxHeartbeats 1000000 in
theorem bord34 (z V : Int) (B : Nat) (w : World) (hc : w.cell? ⟨B, 34, none⟩ = some (.int .i64 z)) (hf : w.frozen? ⟨B, 34, none⟩ = false) :
    Calls Tryz.prog 133 #[.pointer (some ⟨B, 0, none⟩), .int .i64 150, .int .i64 V, .int .i64 V] w fun e w' => e = .returned (.tuple #[]) ∧ w' = w.setCell ⟨B, 34, none⟩ (.int .i64 V) := by
  go_enter Tryz.func133, Tryz.ntmps133
  go_wp2
  go_end0
  exact ⟨rfl, rfl⟩
set_option maxRecDepth 100000 in
set_option maxHeartbeats 1000000 in
theorem bput34 (z : Int) (u : Nat) (V : Int) (hV : IntKind.i64.wrap (u : Int) = V) (B : Nat) (w : World) (hc : w.cell? ⟨B, 34, none⟩ = some (.int .i64 z)) (hf : w.frozen? ⟨B, 34, none⟩ = false) :
    Calls Tryz.prog 113 #[.pointer (some ⟨B, 0, none⟩), .int .i64 150, .int .u64 (u : Int), .string ⟨#[]⟩] w fun e w' => e = .returned (.tuple #[]) ∧ w' = w.setCell ⟨B, 34, none⟩ (.int .i64 V) := by
  have ho := bord34 _ V B w hc hf
  go_enter Tryz.func113, Tryz.ntmps113
  go_wp2_with (go_at_call 133; refine ho.mono ?_; rintro e w' ⟨rfl, rfl⟩)
  go_end0
  exact ⟨rfl, rfl⟩
set_option maxRecDepth 100000 in
set_option maxHeartbeats 1000000 in
theorem bord35 (z V : Int) (B : Nat) (w : World) (hc : w.cell? ⟨B, 35, none⟩ = some (.int .i64 z)) (hf : w.frozen? ⟨B, 35, none⟩ = false) :
    Calls Tryz.prog 133 #[.pointer (some ⟨B, 0, none⟩), .int .i64 39, .int .i64 V, .int .i64 V] w fun e w' => e = .returned (.tuple #[]) ∧ w' = w.setCell ⟨B, 35, none⟩ (.int .i64 V) := by
  go_enter Tryz.func133, Tryz.ntmps133
  go_wp2
  go_end0
  exact ⟨rfl, rfl⟩
set_option maxRecDepth 100000 in
set_option maxHeartbeats 1000000 in
theorem bput35 (z : Int) (u : Nat) (V : Int) (hV : IntKind.i64.wrap (u : Int) = V) (B : Nat) (w : World) (hc : w.cell? ⟨B, 35, none⟩ = some (.int .i64 z)) (hf : w.frozen? ⟨B, 35, none⟩ = false) :
    Calls Tryz.prog 113 #[.pointer (some ⟨B, 0, none⟩), .int .i64 39, .int .u64 (u : Int), .string ⟨#[]⟩] w fun e w' => e = .returned (.tuple #[]) ∧ w' = w.setCell ⟨B, 35, none⟩ (.int .i64 V) := by
  have ho := bord35 _ V B w hc hf
  go_enter Tryz.func113, Tryz.ntmps113
  go_wp2_with (go_at_call 133; refine ho.mono ?_; rintro e w' ⟨rfl, rfl⟩)
  go_end0
  exact ⟨rfl, rfl⟩
set_option maxRecDepth 100000 in
set_option maxHeartbeats 1000000 in
theorem bord36 (z V : Int) (B : Nat) (w : World) (hc : w.cell? ⟨B, 36, none⟩ = some (.int .i64 z)) (hf : w.frozen? ⟨B, 36, none⟩ = false) :
    Calls Tryz.prog 133 #[.pointer (some ⟨B, 0, none⟩), .int .i64 31, .int .i64 V, .int .i64 V] w fun e w' => e = .returned (.tuple #[]) ∧ w' = w.setCell ⟨B, 36, none⟩ (.int .i64 V) := by
  go_enter Tryz.func133, Tryz.ntmps133
  go_wp2
  go_end0
  exact ⟨rfl, rfl⟩
set_option maxRecDepth 100000 in
set_option maxHeartbeats 1000000 in
theorem bput36 (z : Int) (u : Nat) (V : Int) (hV : IntKind.i64.wrap (u : Int) = V) (B : Nat) (w : World) (hc : w.cell? ⟨B, 36, none⟩ = some (.int .i64 z)) (hf : w.frozen? ⟨B, 36, none⟩ = false) :
    Calls Tryz.prog 113 #[.pointer (some ⟨B, 0, none⟩), .int .i64 31, .int .u64 (u : Int), .string ⟨#[]⟩] w fun e w' => e = .returned (.tuple #[]) ∧ w' = w.setCell ⟨B, 36, none⟩ (.int .i64 V) := by
  have ho := bord36 _ V B w hc hf
  go_enter Tryz.func113, Tryz.ntmps113
  go_wp2_with (go_at_call 133; refine ho.mono ?_; rintro e w' ⟨rfl, rfl⟩)
  go_end0
  exact ⟨rfl, rfl⟩
set_option maxRecDepth 100000 in
set_option maxHeartbeats 1000000 in
theorem bord37 (z V : Int) (B : Nat) (w : World) (hc : w.cell? ⟨B, 37, none⟩ = some (.int .i64 z)) (hf : w.frozen? ⟨B, 37, none⟩ = false) :
    Calls Tryz.prog 133 #[.pointer (some ⟨B, 0, none⟩), .int .i64 32, .int .i64 V, .int .i64 V] w fun e w' => e = .returned (.tuple #[]) ∧ w' = w.setCell ⟨B, 37, none⟩ (.int .i64 V) := by
  go_enter Tryz.func133, Tryz.ntmps133
  go_wp2
  go_end0
  exact ⟨rfl, rfl⟩
set_option maxRecDepth 100000 in
set_option maxHeartbeats 1000000 in
theorem bput37 (z : Int) (u : Nat) (V : Int) (hV : IntKind.i64.wrap (u : Int) = V) (B : Nat) (w : World) (hc : w.cell? ⟨B, 37, none⟩ = some (.int .i64 z)) (hf : w.frozen? ⟨B, 37, none⟩ = false) :
    Calls Tryz.prog 113 #[.pointer (some ⟨B, 0, none⟩), .int .i64 32, .int .u64 (u : Int), .string ⟨#[]⟩] w fun e w' => e = .returned (.tuple #[]) ∧ w' = w.setCell ⟨B, 37, none⟩ (.int .i64 V) := by
  have ho := bord37 _ V B w hc hf
  go_enter Tryz.func113, Tryz.ntmps113
  go_wp2_with (go_at_call 133; refine ho.mono ?_; rintro e w' ⟨rfl, rfl⟩)
  go_end0
  exact ⟨rfl, rfl⟩
set_option maxRecDepth 100000 in
set_option maxHeartbeats 1000000 in
theorem bord38 (z V : Int) (B : Nat) (w : World) (hc : w.cell? ⟨B, 38, none⟩ = some (.int .i64 z)) (hf : w.frozen? ⟨B, 38, none⟩ = false) :
    Calls Tryz.prog 133 #[.pointer (some ⟨B, 0, none⟩), .int .i64 151, .int .i64 V, .int .i64 V] w fun e w' => e = .returned (.tuple #[]) ∧ w' = w.setCell ⟨B, 38, none⟩ (.int .i64 V) := by
  go_enter Tryz.func133, Tryz.ntmps133
  go_wp2
  go_end0
  exact ⟨rfl, rfl⟩
set_option maxRecDepth 100000 in
set_option maxHeartbeats 1000000 in
theorem bput38 (z : Int) (u : Nat) (V : Int) (hV : IntKind.i64.wrap (u : Int) = V) (B : Nat) (w : World) (hc : w.cell? ⟨B, 38, none⟩ = some (.int .i64 z)) (hf : w.frozen? ⟨B, 38, none⟩ = false) :
    Calls Tryz.prog 113 #[.pointer (some ⟨B, 0, none⟩), .int .i64 151, .int .u64 (u : Int), .string ⟨#[]⟩] w fun e w' => e = .returned (.tuple #[]) ∧ w' = w.setCell ⟨B, 38, none⟩ (.int .i64 V) := by
  have ho := bord38 _ V B w hc hf
  go_enter Tryz.func113, Tryz.ntmps113
  go_wp2_with (go_at_call 133; refine ho.mono ?_; rintro e w' ⟨rfl, rfl⟩)
  go_end0
  exact ⟨rfl, rfl⟩
set_option maxRecDepth 100000 in
set_option maxHeartbeats 1000000 in
theorem bord39 (z V : Int) (B : Nat) (w : World) (hc : w.cell? ⟨B, 39, none⟩ = some (.int .i64 z)) (hf : w.frozen? ⟨B, 39, none⟩ = false) :
    Calls Tryz.prog 133 #[.pointer (some ⟨B, 0, none⟩), .int .i64 14, .int .i64 V, .int .i64 V] w fun e w' => e = .returned (.tuple #[]) ∧ w' = w.setCell ⟨B, 39, none⟩ (.int .i64 V) := by
  go_enter Tryz.func133, Tryz.ntmps133
  go_wp2
  go_end0
  exact ⟨rfl, rfl⟩
set_option maxRecDepth 100000 in
set_option maxHeartbeats 1000000 in
theorem bput39 (z : Int) (u : Nat) (V : Int) (hV : IntKind.i64.wrap (u : Int) = V) (B : Nat) (w : World) (hc : w.cell? ⟨B, 39, none⟩ = some (.int .i64 z)) (hf : w.frozen? ⟨B, 39, none⟩ = false) :
    Calls Tryz.prog 113 #[.pointer (some ⟨B, 0, none⟩), .int .i64 14, .int .u64 (u : Int), .string ⟨#[]⟩] w fun e w' => e = .returned (.tuple #[]) ∧ w' = w.setCell ⟨B, 39, none⟩ (.int .i64 V) := by
  have ho := bord39 _ V B w hc hf
  go_enter Tryz.func113, Tryz.ntmps113
  go_wp2_with (go_at_call 133; refine ho.mono ?_; rintro e w' ⟨rfl, rfl⟩)
  go_end0
  exact ⟨rfl, rfl⟩
set_option maxRecDepth 100000 in
set_option maxHeartbeats 1000000 in
theorem bord40 (z V : Int) (B : Nat) (w : World) (hc : w.cell? ⟨B, 40, none⟩ = some (.int .i64 z)) (hf : w.frozen? ⟨B, 40, none⟩ = false) :
    Calls Tryz.prog 133 #[.pointer (some ⟨B, 0, none⟩), .int .i64 326, .int .i64 V, .int .i64 V] w fun e w' => e = .returned (.tuple #[]) ∧ w' = w.setCell ⟨B, 40, none⟩ (.int .i64 V) := by
  go_enter Tryz.func133, Tryz.ntmps133
  go_wp2
  go_end0
  exact ⟨rfl, rfl⟩
set_option maxRecDepth 100000 in
set_option maxHeartbeats 1000000 in
theorem bput40 (z : Int) (u : Nat) (V : Int) (hV : IntKind.i64.wrap (u : Int) = V) (B : Nat) (w : World) (hc : w.cell? ⟨B, 40, none⟩ = some (.int .i64 z)) (hf : w.frozen? ⟨B, 40, none⟩ = false) :
    Calls Tryz.prog 113 #[.pointer (some ⟨B, 0, none⟩), .int .i64 326, .int .u64 (u : Int), .string ⟨#[]⟩] w fun e w' => e = .returned (.tuple #[]) ∧ w' = w.setCell ⟨B, 40, none⟩ (.int .i64 V) := by
  have ho := bord40 _ V B w hc hf
  go_enter Tryz.func113, Tryz.ntmps113
  go_wp2_with (go_at_call 133; refine ho.mono ?_; rintro e w' ⟨rfl, rfl⟩)
  go_end0
  exact ⟨rfl, rfl⟩
set_option maxRecDepth 100000 in
set_option maxHeartbeats 1000000 in
theorem bord41 (z V : Int) (B : Nat) (w : World) (hc : w.cell? ⟨B, 41, none⟩ = some (.int .i64 z)) (hf : w.frozen? ⟨B, 41, none⟩ = false) :
    Calls Tryz.prog 133 #[.pointer (some ⟨B, 0, none⟩), .int .i64 533, .int .i64 V, .int .i64 V] w fun e w' => e = .returned (.tuple #[]) ∧ w' = w.setCell ⟨B, 41, none⟩ (.int .i64 V) := by
  go_enter Tryz.func133, Tryz.ntmps133
  go_wp2
  go_end0
  exact ⟨rfl, rfl⟩
set_option maxRecDepth 100000 in
set_option maxHeartbeats 1000000 in
theorem bput41 (z : Int) (u : Nat) (V : Int) (hV : IntKind.i64.wrap (u : Int) = V) (B : Nat) (w : World) (hc : w.cell? ⟨B, 41, none⟩ = some (.int .i64 z)) (hf : w.frozen? ⟨B, 41, none⟩ = false) :
    Calls Tryz.prog 113 #[.pointer (some ⟨B, 0, none⟩), .int .i64 533, .int .u64 (u : Int), .string ⟨#[]⟩] w fun e w' => e = .returned (.tuple #[]) ∧ w' = w.setCell ⟨B, 41, none⟩ (.int .i64 V) := by
  have ho := bord41 _ V B w hc hf
  go_enter Tryz.func113, Tryz.ntmps113
  go_wp2_with (go_at_call 133; refine ho.mono ?_; rintro e w' ⟨rfl, rfl⟩)
  go_end0
  exact ⟨rfl, rfl⟩
theorem putS_at (M : Msg) (j : Nat) (h1 : 1 ≤ j) (h2 : j < 42) (hs : isStr j = true) (s' : ByteArray) (B : Nat) (w : World) (hc : w.cell? ⟨B, j, none⟩ = some (M.cell j)) (hf : w.frozen? ⟨B, j, none⟩ = false) :
    Calls Tryz.prog 113 #[.pointer (some ⟨B, 0, none⟩), .int .i64 (tNum.getD j 0), .int .u64 0, .string s'] w fun e w' => e = .returned (.tuple #[]) ∧ w' = w.setCell ⟨B, j, none⟩ (.string s') := by
  rcases cases42 h2 with rfl | rfl | rfl | rfl | rfl | rfl | rfl | rfl | rfl | rfl | rfl | rfl | rfl | rfl | rfl | rfl | rfl | rfl | rfl | rfl | rfl | rfl | rfl | rfl | rfl | rfl | rfl | rfl | rfl | rfl | rfl | rfl | rfl | rfl | rfl | rfl | rfl | rfl | rfl | rfl | rfl | rfl
  · omega
  · exact bput1 _ s' B w hc hf
  · exact bput2 _ s' B w hc hf
  · exact absurd hs (by decide)
  · exact absurd hs (by decide)
  · exact absurd hs (by decide)
  · exact absurd hs (by decide)
  · exact absurd hs (by decide)
  · exact absurd hs (by decide)
  · exact bput9 _ s' B w hc hf
  · exact absurd hs (by decide)
  · exact absurd hs (by decide)
  · exact absurd hs (by decide)
  · exact absurd hs (by decide)
  · exact absurd hs (by decide)
  · exact absurd hs (by decide)
  · exact absurd hs (by decide)
  · exact absurd hs (by decide)
  · exact bput18 _ s' B w hc hf
  · exact bput19 _ s' B w hc hf
  · exact bput20 _ s' B w hc hf
  · exact bput21 _ s' B w hc hf
  · exact bput22 _ s' B w hc hf
  · exact absurd hs (by decide)
  · exact absurd hs (by decide)
  · exact absurd hs (by decide)
  · exact absurd hs (by decide)
  · exact absurd hs (by decide)
  · exact absurd hs (by decide)
  · exact absurd hs (by decide)
  · exact absurd hs (by decide)
  · exact absurd hs (by decide)
  · exact absurd hs (by decide)
  · exact absurd hs (by decide)
  · exact absurd hs (by decide)
  · exact absurd hs (by decide)
  · exact absurd hs (by decide)
  · exact absurd hs (by decide)
  · exact absurd hs (by decide)
  · exact absurd hs (by decide)
  · exact absurd hs (by decide)
  · exact absurd hs (by decide)
theorem putB_at (M : Msg) (j : Nat) (h1 : 1 ≤ j) (h2 : j < 42) (hs : isStr j = false) (hb : isBoo j = true) (u : Nat) (bb : Bool) (V : Int) (hV : IntKind.i64.wrap (u : Int) = V) (hu : ((u : Int) == 1) = bb) (B : Nat) (w : World) (hc : w.cell? ⟨B, j, none⟩ = some (M.cell j)) (hf : w.frozen? ⟨B, j, none⟩ = false) :
    Calls Tryz.prog 113 #[.pointer (some ⟨B, 0, none⟩), .int .i64 (tNum.getD j 0), .int .u64 (u : Int), .string ⟨#[]⟩] w fun e w' => e = .returned (.tuple #[]) ∧ w' = w.setCell ⟨B, j, none⟩ (.bool bb) := by
  rcases cases42 h2 with rfl | rfl | rfl | rfl | rfl | rfl | rfl | rfl | rfl | rfl | rfl | rfl | rfl | rfl | rfl | rfl | rfl | rfl | rfl | rfl | rfl | rfl | rfl | rfl | rfl | rfl | rfl | rfl | rfl | rfl | rfl | rfl | rfl | rfl | rfl | rfl | rfl | rfl | rfl | rfl | rfl | rfl
  · omega
  · exact absurd hs (by decide)
  · exact absurd hs (by decide)
  · exact absurd hb (by decide)
  · exact bput4 _ _ u _ hV hu B w hc hf
  · exact absurd hb (by decide)
  · exact absurd hb (by decide)
  · exact absurd hb (by decide)
  · exact bput8 _ _ u _ hV hu B w hc hf
  · exact absurd hs (by decide)
  · exact absurd hb (by decide)
  · exact absurd hb (by decide)
  · exact absurd hb (by decide)
  · exact bput13 _ _ u _ hV hu B w hc hf
  · exact absurd hb (by decide)
  · exact absurd hb (by decide)
  · exact absurd hb (by decide)
  · exact absurd hb (by decide)
  · exact absurd hs (by decide)
  · exact absurd hs (by decide)
  · exact absurd hs (by decide)
  · exact absurd hs (by decide)
  · exact absurd hs (by decide)
  · exact absurd hb (by decide)
  · exact absurd hb (by decide)
  · exact absurd hb (by decide)
  · exact absurd hb (by decide)
  · exact absurd hb (by decide)
  · exact absurd hb (by decide)
  · exact absurd hb (by decide)
  · exact absurd hb (by decide)
  · exact absurd hb (by decide)
  · exact absurd hb (by decide)
  · exact absurd hb (by decide)
  · exact absurd hb (by decide)
  · exact absurd hb (by decide)
  · exact absurd hb (by decide)
  · exact absurd hb (by decide)
  · exact absurd hb (by decide)
  · exact absurd hb (by decide)
  · exact absurd hb (by decide)
  · exact absurd hb (by decide)
theorem putZ_at (M : Msg) (j : Nat) (h1 : 1 ≤ j) (h2 : j < 42) (hs : isStr j = false) (hb : isBoo j = false) (u : Nat) (V : Int) (hV : IntKind.i64.wrap (u : Int) = V) (B : Nat) (w : World) (hc : w.cell? ⟨B, j, none⟩ = some (M.cell j)) (hf : w.frozen? ⟨B, j, none⟩ = false) :
    Calls Tryz.prog 113 #[.pointer (some ⟨B, 0, none⟩), .int .i64 (tNum.getD j 0), .int .u64 (u : Int), .string ⟨#[]⟩] w fun e w' => e = .returned (.tuple #[]) ∧ w' = w.setCell ⟨B, j, none⟩ (.int .i64 V) := by
  rcases cases42 h2 with rfl | rfl | rfl | rfl | rfl | rfl | rfl | rfl | rfl | rfl | rfl | rfl | rfl | rfl | rfl | rfl | rfl | rfl | rfl | rfl | rfl | rfl | rfl | rfl | rfl | rfl | rfl | rfl | rfl | rfl | rfl | rfl | rfl | rfl | rfl | rfl | rfl | rfl | rfl | rfl | rfl | rfl
  · omega
  · exact absurd hs (by decide)
  · exact absurd hs (by decide)
  · exact bput3 _ u _ hV B w hc hf
  · exact absurd hb (by decide)
  · exact bput5 _ u _ hV B w hc hf
  · exact bput6 _ u _ hV B w hc hf
  · exact bput7 _ u _ hV B w hc hf
  · exact absurd hb (by decide)
  · exact absurd hs (by decide)
  · exact bput10 _ u _ hV B w hc hf
  · exact bput11 _ u _ hV B w hc hf
  · exact bput12 _ u _ hV B w hc hf
  · exact absurd hb (by decide)
  · exact bput14 _ u _ hV B w hc hf
  · exact bput15 _ u _ hV B w hc hf
  · exact bput16 _ u _ hV B w hc hf
  · exact bput17 _ u _ hV B w hc hf
  · exact absurd hs (by decide)
  · exact absurd hs (by decide)
  · exact absurd hs (by decide)
  · exact absurd hs (by decide)
  · exact absurd hs (by decide)
  · exact bput23 _ u _ hV B w hc hf
  · exact bput24 _ u _ hV B w hc hf
  · exact bput25 _ u _ hV B w hc hf
  · exact bput26 _ u _ hV B w hc hf
  · exact bput27 _ u _ hV B w hc hf
  · exact bput28 _ u _ hV B w hc hf
  · exact bput29 _ u _ hV B w hc hf
  · exact bput30 _ u _ hV B w hc hf
  · exact bput31 _ u _ hV B w hc hf
  · exact bput32 _ u _ hV B w hc hf
  · exact bput33 _ u _ hV B w hc hf
  · exact bput34 _ u _ hV B w hc hf
  · exact bput35 _ u _ hV B w hc hf
  · exact bput36 _ u _ hV B w hc hf
  · exact bput37 _ u _ hV B w hc hf
  · exact bput38 _ u _ hV B w hc hf
  · exact bput39 _ u _ hV B w hc hf
  · exact bput40 _ u _ hV B w hc hf
  · exact bput41 _ u _ hV B w hc hf

end Go.Proofs.YthadnogcocmfgaaGreatDoor

namespace Go.Proofs.YthadnogcocmfgaaGreatDoor
set_option linter.unusedVariables false
open Go.RowKit Go.Great Go.Lib

theorem eqFields_any {xs ys : Array Value} {w : World} (d : Nat) (q : Field → Prop) : ∀ fs : List Field, (∀ f ∈ fs, f.name ≠ "_" ∧ ∃ u v r, (part f.type xs f.offset).run Tryz.prog w = .ok u w ∧ (part f.type ys f.offset).run Tryz.prog w = .ok v w ∧ (Op.equalIn d f.type u v).run Tryz.prog w = .ok r w ∧ (r = true ↔ q f)) →
    ∃ r, (Op.eqFields d xs ys fs).run Tryz.prog w = .ok r w ∧ (r = true ↔ ∀ f ∈ fs, q f)
  | [], _ => ⟨true, by simp [Op.eqFields], by simp⟩
  | f :: fs, h => by
    obtain ⟨hn, u, v, r, h1, h2, h3, h4⟩ := h f (by simp)
    obtain ⟨r', ih1, ih2⟩ := eqFields_any d q fs (fun g hg => h g (by simp [hg]))
    cases r with
    | true => exact ⟨r', by simp only [Op.eqFields, if_pos hn, Sem.run_bind, Sem.run_ite, h1, h2, h3, Result.andThen_ok, ih1]; simp, by rw [ih2]; simp [h4.1 rfl]⟩
    | false =>
      refine ⟨false, by simp only [Op.eqFields, if_pos hn, Sem.run_bind, Sem.run_ite, h1, h2, h3, Result.andThen_ok]; simp, ?_⟩
      have : ¬ q f := fun hq => by have := h4.2 hq; cases this
      simp [this]
theorem fi_any (M M' : Msg) (w : World) (i t : Nat) (hi : i < 42) (hp : Tryz.prog.plainKey t = true) (ht : Tryz.prog.underlying t = some (.int .i64)) (e : ∀ M : Msg, M.cell i = .int .i64 (M.z i)) :
    ∃ u v r, (part t M.cs i).run Tryz.prog w = .ok u w ∧ (part t M'.cs i).run Tryz.prog w = .ok v w ∧ (Op.equalIn 9999 t u v).run Tryz.prog w = .ok r w ∧ (r = true ↔ M.cell i = M'.cell i) :=
  ⟨_, _, M.z i == M'.z i, run_part_plain w hp (M.cs_get i hi), run_part_plain w hp (M'.cs_get i hi), by rw [e, e]; exact run_equalIn_int w 9998 t .i64 .i64 _ _ ht, by rw [e, e]; simp⟩
theorem str_iff (a b : ByteArray) : (a.toList == b.toList) = true ↔ Value.string a = Value.string b := by
  rw [beq_iff_eq, ByteArray.toList_eq, ByteArray.toList_eq, Value.string.injEq]
  obtain ⟨⟨x⟩⟩ := a
  obtain ⟨⟨y⟩⟩ := b
  simp
theorem fs_any (M M' : Msg) (w : World) (i : Nat) (hi : i < 42) (e : ∀ M : Msg, M.cell i = .string (M.s i)) :
    ∃ u v r, (part 9 M.cs i).run Tryz.prog w = .ok u w ∧ (part 9 M'.cs i).run Tryz.prog w = .ok v w ∧ (Op.equalIn 9999 9 u v).run Tryz.prog w = .ok r w ∧ (r = true ↔ M.cell i = M'.cell i) :=
  ⟨_, _, (M.s i).toList == (M'.s i).toList, run_part_plain w pl9 (M.cs_get i hi), run_part_plain w pl9 (M'.cs_get i hi), by rw [e, e]; exact run_equalIn_string w 9998 9 _ _ Tryz.underlying9, by rw [e, e]; exact str_iff _ _⟩
theorem fb_any (M M' : Msg) (w : World) (i : Nat) (hi : i < 42) (e : ∀ M : Msg, M.cell i = .bool (M.b i)) :
    ∃ u v r, (part 4 M.cs i).run Tryz.prog w = .ok u w ∧ (part 4 M'.cs i).run Tryz.prog w = .ok v w ∧ (Op.equalIn 9999 4 u v).run Tryz.prog w = .ok r w ∧ (r = true ↔ M.cell i = M'.cell i) :=
  ⟨_, _, M.b i == M'.b i, run_part_plain w pl4 (M.cs_get i hi), run_part_plain w pl4 (M'.cs_get i hi), by rw [e, e]; exact run_equalIn_bool' w 9998 4 _ _ Tryz.underlying4, by rw [e, e]; simp⟩
set_option maxRecDepth 100000 in
theorem fld_any (M M' : Msg) (w : World) (i : Nat) (hi : i < 42) : ∃ u v r, (part (tyL.getD i 0) M.cs i).run Tryz.prog w = .ok u w ∧ (part (tyL.getD i 0) M'.cs i).run Tryz.prog w = .ok v w ∧ (Op.equalIn 9999 (tyL.getD i 0) u v).run Tryz.prog w = .ok r w ∧ (r = true ↔ M.cell i = M'.cell i) := by
  rcases cases42 hi with rfl | rfl | rfl | rfl | rfl | rfl | rfl | rfl | rfl | rfl | rfl | rfl | rfl | rfl | rfl | rfl | rfl | rfl | rfl | rfl | rfl | rfl | rfl | rfl | rfl | rfl | rfl | rfl | rfl | rfl | rfl | rfl | rfl | rfl | rfl | rfl | rfl | rfl | rfl | rfl | rfl | rfl
  · exact fi_any M M' w 0 3 hi pl3 Tryz.underlying3 (fun _ => rfl)
  · exact fs_any M M' w 1 hi (fun _ => rfl)
  · exact fs_any M M' w 2 hi (fun _ => rfl)
  · exact fi_any M M' w 3 3 hi pl3 Tryz.underlying3 (fun _ => rfl)
  · exact fb_any M M' w 4 hi (fun _ => rfl)
  · exact fi_any M M' w 5 2 hi pl2 Tryz.underlying2 (fun _ => rfl)
  · exact fi_any M M' w 6 2 hi pl2 Tryz.underlying2 (fun _ => rfl)
  · exact fi_any M M' w 7 3 hi pl3 Tryz.underlying3 (fun _ => rfl)
  · exact fb_any M M' w 8 hi (fun _ => rfl)
  · exact fs_any M M' w 9 hi (fun _ => rfl)
  · exact fi_any M M' w 10 3 hi pl3 Tryz.underlying3 (fun _ => rfl)
  · exact fi_any M M' w 11 3 hi pl3 Tryz.underlying3 (fun _ => rfl)
  · exact fi_any M M' w 12 3 hi pl3 Tryz.underlying3 (fun _ => rfl)
  · exact fb_any M M' w 13 hi (fun _ => rfl)
  · exact fi_any M M' w 14 3 hi pl3 Tryz.underlying3 (fun _ => rfl)
  · exact fi_any M M' w 15 3 hi pl3 Tryz.underlying3 (fun _ => rfl)
  · exact fi_any M M' w 16 3 hi pl3 Tryz.underlying3 (fun _ => rfl)
  · exact fi_any M M' w 17 3 hi pl3 Tryz.underlying3 (fun _ => rfl)
  · exact fs_any M M' w 18 hi (fun _ => rfl)
  · exact fs_any M M' w 19 hi (fun _ => rfl)
  · exact fs_any M M' w 20 hi (fun _ => rfl)
  · exact fs_any M M' w 21 hi (fun _ => rfl)
  · exact fs_any M M' w 22 hi (fun _ => rfl)
  · exact fi_any M M' w 23 3 hi pl3 Tryz.underlying3 (fun _ => rfl)
  · exact fi_any M M' w 24 3 hi pl3 Tryz.underlying3 (fun _ => rfl)
  · exact fi_any M M' w 25 3 hi pl3 Tryz.underlying3 (fun _ => rfl)
  · exact fi_any M M' w 26 2 hi pl2 Tryz.underlying2 (fun _ => rfl)
  · exact fi_any M M' w 27 2 hi pl2 Tryz.underlying2 (fun _ => rfl)
  · exact fi_any M M' w 28 2 hi pl2 Tryz.underlying2 (fun _ => rfl)
  · exact fi_any M M' w 29 2 hi pl2 Tryz.underlying2 (fun _ => rfl)
  · exact fi_any M M' w 30 2 hi pl2 Tryz.underlying2 (fun _ => rfl)
  · exact fi_any M M' w 31 3 hi pl3 Tryz.underlying3 (fun _ => rfl)
  · exact fi_any M M' w 32 3 hi pl3 Tryz.underlying3 (fun _ => rfl)
  · exact fi_any M M' w 33 3 hi pl3 Tryz.underlying3 (fun _ => rfl)
  · exact fi_any M M' w 34 3 hi pl3 Tryz.underlying3 (fun _ => rfl)
  · exact fi_any M M' w 35 3 hi pl3 Tryz.underlying3 (fun _ => rfl)
  · exact fi_any M M' w 36 2 hi pl2 Tryz.underlying2 (fun _ => rfl)
  · exact fi_any M M' w 37 2 hi pl2 Tryz.underlying2 (fun _ => rfl)
  · exact fi_any M M' w 38 2 hi pl2 Tryz.underlying2 (fun _ => rfl)
  · exact fi_any M M' w 39 2 hi pl2 Tryz.underlying2 (fun _ => rfl)
  · exact fi_any M M' w 40 3 hi pl3 Tryz.underlying3 (fun _ => rfl)
  · exact fi_any M M' w 41 3 hi pl3 Tryz.underlying3 (fun _ => rfl)
set_option maxRecDepth 100000 in
theorem fld_nm : (Tryz.prog.fieldsOf 23).toList.all (fun f => f.name != "_") = true := by kernel_rfl
theorem msg_eq_any (M M' : Msg) (w : World) : ∃ r, (Op.equalIn 10000 23 (.agg M.cs) (.agg M'.cs)).run Tryz.prog w = .ok r w ∧ (r = true ↔ M.cs = M'.cs) := by
  rw [run_equalIn_agg w 9999 23 _ _ (by kernel_rfl) (by kernel_rfl)]
  have hl : (Tryz.prog.fieldsOf 23).toList.length = 42 := by kernel_rfl
  have hat : ∀ i (hi : i < (Tryz.prog.fieldsOf 23).toList.length), (Tryz.prog.fieldsOf 23).toList[i].type = tyL.getD i 0 ∧ (Tryz.prog.fieldsOf 23).toList[i].offset = i := fun i hi => by
    have hi' : i < 42 := by omega
    have h1 := congrArg (·[i]?) fld_at
    simp only [List.getElem?_map, List.getElem?_eq_getElem hi, List.getElem?_range hi', Option.map_some, Option.some.injEq, Prod.mk.injEq] at h1
    exact h1
  obtain ⟨r, h1, h2⟩ := eqFields_any (xs := M.cs) (ys := M'.cs) (w := w) 9999 (fun f => M.cell f.offset = M'.cell f.offset) (Tryz.prog.fieldsOf 23).toList fun f hf => by
    refine ⟨by have := List.all_eq_true.1 fld_nm f hf; simpa using this, ?_⟩
    obtain ⟨i, hi, rfl⟩ := List.getElem_of_mem hf
    rw [(hat i hi).1, (hat i hi).2]
    exact fld_any M M' w i (by omega)
  refine ⟨r, h1, h2.trans ⟨fun h => ?_, fun h f hf => ?_⟩⟩
  · apply Array.ext_getElem?
    intro i
    by_cases hi : i < 42
    · rw [M.cs_get i hi, M'.cs_get i hi]
      have hi' : i < (Tryz.prog.fieldsOf 23).toList.length := by omega
      have := h _ (List.getElem_mem hi')
      rw [(hat i hi').2] at this
      rw [this]
    · rw [Array.getElem?_eq_none (by rw [M.cs_size]; omega), Array.getElem?_eq_none (by rw [M'.cs_size]; omega)]
  · obtain ⟨i, hi, rfl⟩ := List.getElem_of_mem hf
    rw [(hat i hi).2]
    have e := congrArg (·[i]?) h
    simp only [M.cs_get i (by omega), M'.cs_get i (by omega), Option.some.injEq] at e
    exact e
/-- Two messages, compared: one answer, in every world. -/
theorem eqM_any (M M' : Msg) {op : Oper} {a : Act} (x y : Operand) (ho : op.op = .binOp .eql 23 x y 23) (hx : a.eval x = .agg M.cs) (hy : a.eval y = .agg M'.cs) (b : Bool) (hb : b = true ↔ M.cs = M'.cs) (w : World) : (execOp a.eval op).run Tryz.prog w = .ok (.value (.bool b)) w := by
  obtain ⟨r, h1, h2⟩ := msg_eq_any M M' w
  obtain rfl : r = b := Bool.eq_iff_iff.2 (h2.trans hb.symm)
  have hgd : (eqGuard .eql 23 x y (.agg M.cs) (.agg M'.cs)).run Tryz.prog w = .ok () w := run_eqGuard_agg (P := Tryz.prog) w .eql 23 x y _ _ (by kernel_rfl)
  have he : (binOp .eql 23 (.agg M.cs) (.agg M'.cs)).run Tryz.prog w = .ok (.bool r) w := by rw [run_eql_struct, h1]; rfl
  unfold execOp
  simp only [ho, hx, hy, Sem.run_bind, hgd, Result.andThen_ok, he]
  rfl
theorem loadM_run {op : Oper} {a : Act} {w : World} {g : Nat} {M : Msg} (h : OwnM w g M) (x : Operand) (ho : op.op = .load 23 x) (hx : a.eval x = .pointer (some ⟨g, 0, none⟩)) : (execOp a.eval op).run Tryz.prog w = .ok (.value (.agg M.cs)) w := by
  have hr := run_loadVar_row (P := Tryz.prog) w g 23 23 M.cs (0, 0) _ h Tryz.underlying23 rfl (by rw [M.cs_size]; kernel_rfl)
  unfold execOp
  simp only [ho, hx, Instr.loadAt, Instr.sureAddr, Sem.run_bind, Sem.run_pure, Result.andThen_ok, hr]
theorem conv_run {op : Oper} {a : Act} {w : World} {g n cap : Nat} {l : List UInt8} (h : OwnL w g l) (hn : n = l.length) (x : Operand) (ho : op.op = .convert 28 9 x) (hx : a.eval x = .slice (some ⟨g, 0, none⟩) n cap) : (execOp a.eval op).run Tryz.prog w = .ok (.value (.string ⟨l.toArray⟩)) w := by
  have hr := conv_at (cap := cap) h.at_ n hn
  unfold execOp
  simp only [ho, hx, Sem.run_bind, Result.andThen_ok, hr]
  rfl
theorem quiet_runTo {P : Program} {ops : Array Oper} {C : World → Prop} {Q : Act → Prop} {a : Act} {o : Oper} {rest : List Oper} (hw : Region.wanted o (yielded ops a.tmps) = true) (dst : Option Tmp) (hdst : o.dst = dst) (v : Value)
    (hrun : ∀ w, C w → (execOp a.eval o).run P w = .ok (.value v) w) (h : wpQuiet P ops C Q rest (a.put dst v)) : wpQuiet P ops C Q (o :: rest) a :=
  BigFrame.wpQuiet_want hw fun K hK => ⟨v, fun w hw => by unfold Oper.quietAt; rw [hrun w hw]; exact ⟨rfl, rfl⟩, by subst hdst; exact hK _ h⟩
end Go.Proofs.YthadnogcocmfgaaGreatDoor

namespace Go.Proofs.YthadnogcocmfgaaGreatDoor
set_option linter.unusedVariables false
open Go.RowKit Go.Great Go.Lib

theorem wrt_set {w : World} {g j : Nat} {M : Msg} (ho : OwnM w g M) (v : Value) : Wrt g w (w.setCell ⟨g, j, none⟩ v) := Wrt.of ho.lt (Below.refl _ _) (ho.stays (Nat.le_refl _)) fun b hb => Below.heap_setCell _ _ _ _ hb
theorem Put_str (M : Msg) (j : Nat) (h1 : 1 ≤ j) (hj : j < 42) (hs : isStr j = true) (s' : ByteArray) (B : Nat) (w : World) (ho : OwnM w B M) :
    Calls Tryz.prog 113 #[.pointer (some ⟨B, 0, none⟩), .int .i64 (tNum.getD j 0), .int .u64 0, .string s'] w fun e w' => e = .returned (.tuple #[]) ∧ OwnM w' B (M.setS j s') ∧ Wrt B w w' := by
  refine (putS_at M j h1 hj hs s' B w (ho.cell j hj) (ho.frozen j)).mono ?_
  rintro e w' ⟨rfl, rfl⟩
  exact ⟨rfl, ho.store (cs_setS M j _ hj hs), wrt_set ho _⟩
theorem Put_boo (M : Msg) (j : Nat) (h1 : 1 ≤ j) (hj : j < 42) (hs : isStr j = false) (hb : isBoo j = true) (u : Nat) (hu : u < 2) (B : Nat) (w : World) (ho : OwnM w B M) :
    Calls Tryz.prog 113 #[.pointer (some ⟨B, 0, none⟩), .int .i64 (tNum.getD j 0), .int .u64 (u : Int), .string ⟨#[]⟩] w fun e w' => e = .returned (.tuple #[]) ∧ OwnM w' B (M.setB j (u == 1)) ∧ Wrt B w w' := by
  have hV : IntKind.i64.wrap (u : Int) = (u : Int) := by rw [IntKind.wrap_i64]; omega
  have hc : ((u : Int) == 1) = (u == 1) := by rw [Bool.eq_iff_iff]; simp; omega
  refine (putB_at M j h1 hj hs hb u _ _ hV hc B w (ho.cell j hj) (ho.frozen j)).mono ?_
  rintro e w' ⟨rfl, rfl⟩
  exact ⟨rfl, ho.store (cs_setB M j _ hj hs hb), wrt_set ho _⟩
theorem Put_num (M : Msg) (j : Nat) (h1 : 1 ≤ j) (hj : j < 42) (hs : isStr j = false) (hb : isBoo j = false) (u : Nat) (hu : u < 18446744073709551616) (B : Nat) (w : World) (ho : OwnM w B M) :
    Calls Tryz.prog 113 #[.pointer (some ⟨B, 0, none⟩), .int .i64 (tNum.getD j 0), .int .u64 (u : Int), .string ⟨#[]⟩] w fun e w' => e = .returned (.tuple #[]) ∧ OwnM w' B (M.setZ j (wr64 u)) ∧ Wrt B w w' := by
  refine (putZ_at M j h1 hj hs hb u _ (wr64_wrap hu) B w (ho.cell j hj) (ho.frozen j)).mono ?_
  rintro e w' ⟨rfl, rfl⟩
  exact ⟨rfl, ho.store (cs_setZ M j _ hj hs hb), wrt_set ho _⟩
theorem how_str {j : Nat} (hj : j < 42) (hs : isStr j = true) : howL.getD j 0 = 2 := by
  have : ∀ j, j < 42 → isStr j = true → howL.getD j 0 = 2 := by decide
  exact this j hj hs
theorem how_boo {j : Nat} (hj : j < 42) (hs : isBoo j = true) : howL.getD j 0 = 1 := by
  have : ∀ j, j < 42 → isBoo j = true → howL.getD j 0 = 1 := by decide
  exact this j hj hs
theorem how_num {j : Nat} (hj : j < 42) (hs : isStr j = false) (hb : isBoo j = false) : howL.getD j 0 = 0 := by
  have : ∀ j, j < 42 → isStr j = false → isBoo j = false → howL.getD j 0 = 0 := by decide
  exact this j hj hs hb
theorem results_cr3 {P : Program} {fn : Func} {p u v : Tmp} {ty : TypeId} (h : fn.results = #[.cell p ty, .tmp u, .tmp v]) (tmps : Array Value) (w : World) (g : Nat) (t : TypeId) (cs : Array Value) (fr : Nat × Nat) (d : TypeDesc)
    (hp : tmps.getD p undef = .pointer (some ⟨g, 0, none⟩)) (hg : w.heap[g]? = some (.cells cs t fr))
    (hu : P.underlying ty = some d) (hd : (match d with | .struct _ | .array _ _ => true | _ => false) = true) (hi : (P.info? ty).map (·.size) = some cs.size) :
    (results fn tmps).run P w = .ok (.tuple #[.agg cs, tmps.getD u undef, tmps.getD v undef]) w := by
  have e : (results fn tmps).run P w = ((asAddr (tmps.getD p undef)).run P w).andThen fun a w₁ => ((loadVar ty a).run P w₁).andThen fun x w₂ => .ok (.tuple #[x, tmps.getD u undef, tmps.getD v undef]) w₂ := by
    simp only [results, h]
    simp [Sem.run_bind, Result.andThen]
  rw [e, hp]
  simp [asAddr, run_loadVar_row w g t ty cs fr d hg hu hd hi, Result.andThen]
/-- The place and the error that the reference tells. -/
def plE (x : Option (Nat × Int)) : Int := match x with | none => 0 | some (k, _) => (k : Int)
def erE (x : Option (Nat × Int)) : Int := match x with | none => 0 | some (_, e) => e
theorem Wrt.lowB {g : Nat} {a b c : World} (h1 : Wrt g a b) (hg : g < a.heap.size) (h2 : Below a.heap.size b c) : Wrt g a c :=
  ⟨h1.below.trans (h2.mono (Nat.le_of_lt hg)), fun k hk hne => (h2.block k hk).trans (h1.other k hk hne)⟩
/-- The places of the first k fields. -/
def plV (l : List Nat) (k : Nat) : List Value := (List.range k).map fun i => .int .i64 ((10 + wS (l.take i) : Nat) : Int)
theorem plV_succ (l : List Nat) (k : Nat) : plV l (k + 1) = plV l k ++ [.int .i64 ((10 + wS (l.take k) : Nat) : Int)] := by
  unfold plV; rw [List.range_succ, List.map_append]; rfl
theorem rdL_at {l : List UInt8} {ls : List Nat} {k j A : Nat} {M : Msg} (hk : ls[k]? = some j) : rdL l (ls.drop k) A M = match rdF j ((l.drop A).take (wd j)) M with
    | .error (i, e) => .error (A + i, e)
    | .ok M' => rdL l (ls.drop (k + 1)) (A + wd j) M' := by
  have hlt := (List.getElem?_eq_some_iff.1 hk).1
  have e : ls.drop k = j :: ls.drop (k + 1) := by
    rw [List.drop_eq_getElem_cons hlt]
    rw [List.getElem?_eq_getElem hlt] at hk
    injection hk with hk
    rw [hk]
  rw [e]
  rfl
end Go.Proofs.YthadnogcocmfgaaGreatDoor
