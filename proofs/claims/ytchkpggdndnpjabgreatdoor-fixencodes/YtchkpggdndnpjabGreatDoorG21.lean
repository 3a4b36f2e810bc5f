import Derived.Test.YtchkpggdndnpjabGreatDoorG18
import Derived.Test.YtchkpggdndnpjabGreatDoorG13
import Derived.OwnWalk
import Derived.Maps.AppendAt
import Derived.Laws.OwnMore
import Derived.Laws.BytesArg
import Derived.Deep.AppendLies

namespace Go.Proofs.YtchkpggdndnpjabGreatDoor
set_option linter.unusedVariables false
open Go.Shelf Go.RowKit Go.Sort Go.Lib

theorem below_grownBy {B : Nat} {a w w' : World} {row : Option Nat} (h : Below B a w) (hg : w.grownBy w' row) (hB : B ≤ a.heap.size) (hr : ∀ k, row = some k → B ≤ k) : Below B a w' :=
  ⟨hg.os.trans h.os, hg.tape.trans h.tape, hg.output.trans h.output, Nat.le_trans h.size hg.size, fun k hk => (hg.block k (by have := h.size; omega) (fun e => by have := hr k e.symm; omega)).trans (h.block k hk)⟩
/-- The first j of the k digits of a number. -/
def digTo (n k j : Nat) : List Value := (List.range j).map fun i => .int .u8 ((48 + n / 10 ^ (k - 1 - i) % 10 : Nat) : Int)
theorem digTo_succ (n k j : Nat) : digTo n k (j + 1) = digTo n k j ++ [.int .u8 ((48 + n / 10 ^ (k - 1 - j) % 10 : Nat) : Int)] := by simp [digTo, List.range_succ]
/-- The unit of the j-th digit. -/
def unitAt (k j : Nat) : Nat := if j < k then 10 ^ (k - 1 - j) else 0
theorem unitAt_step {k j : Nat} (h : j < k) : unitAt k j / 10 = unitAt k (j + 1) := by
  unfold unitAt
  rw [if_pos h]
  by_cases h1 : j + 1 < k
  · rw [if_pos h1, show k - 1 - j = (k - 1 - (j + 1)) + 1 by omega, Nat.pow_succ, Nat.mul_div_cancel _ (by decide)]
  · rw [if_neg h1, show k - 1 - j = 0 by omega]
theorem unitAt_pos {k j : Nat} (h : j < k) : 0 < unitAt k j := by unfold unitAt; rw [if_pos h]; exact Nat.pow_pos (by decide)
theorem unitAt_le {k j : Nat} (hk : k ≤ 9) : unitAt k j ≤ 100000000 := by
  unfold unitAt
  split
  · exact Nat.pow_le_pow_right (by decide) (show k - 1 - j ≤ 8 by omega)
  · omega

set_option maxRecDepth 100000 in
set_option maxHeartbeats 400000 in
theorem appendDigits_any (B : Nat) (a0 : World) (v : Value) (m n k : Nat) (xs : List Value) (w : World) (hb : Below B a0 w) (hB : B ≤ a0.heap.size) (hown : w.ownsRow B 5 1 v m xs) (hm : m ≤ 1000) (hk0 : 1 ≤ k) (hk : k ≤ 9) (hn : n ≤ 100000000) (z x : Int) (hz : z = n) (hx : x = k) :
    Calls Tryz.prog 325 #[v, .int .i64 z, .int .i64 x] w fun e w' => ∃ v', e = .returned v' ∧ w'.ownsRow B 5 1 v' (m + k) (xs ++ digTo n k k) ∧ Below B a0 w' := by
  subst hz hx
  obtain ⟨i0, hi, hz0, hz1, hz2⟩ := info_parts info5
  have HO : Hid (w.ownsRow B 5 1 v m xs ∧ Below B a0 w) := ⟨hown, hb⟩
  clear hown hb
  go_enter Tryz.func325, Tryz.ntmps325
  go_wp2
  go_loopw [7, 10] (fun u c wr => ∃ j : Nat, j ≤ k - 1 ∧ c = .int .i64 j ∧ u = .int .i64 ((10 ^ j : Nat) : Int) ∧ wr = w) (fun _ c _ => k - 1 - (intOf c).toNat)
  case atStart => exact ⟨0, by omega, rfl, rfl, rfl⟩
  case round =>
    obtain ⟨j, hj, rfl, rfl, rfl⟩ := hrel
    have hp : 10 ^ j ≤ 100000000 := Nat.pow_le_pow_right (by decide) (show j ≤ 8 by omega)
    have hp1 : 10 ^ (j + 1) = 10 ^ j * 10 := Nat.pow_succ ..
    generalize hU : 10 ^ j = U at *
    by_cases hlt : j < k - 1
    · have hlt' : (j : Int) < (k : Int) - 1 := by omega
      go_wp2
      go_roundw
      case rel => exact ⟨j + 1, by omega, by go_num, vint (by rw [hp1]; omega), by first | rfl | trivial⟩
      case measure => simp [intOf]; omega
    · obtain rfl : j = k - 1 := by omega
      have hlt' : ¬ ((k - 1 : Nat) : Int) < (k : Int) - 1 := by omega
      have eU : U = unitAt k 0 := by unfold unitAt; rw [if_pos (by omega), ← hU]; rfl
      clear hp hp1 hU
      have hkc : ((k - 1 : Nat) : Int) = (k : Int) - 1 := by omega
      generalize k - 1 = k1 at *
      go_wp2
      go_loopw [0, 7] (fun b u wr => ∃ (j : Nat) (ao : Option Addr) (cv : Nat), j ≤ k ∧ u = .int .i64 (unitAt k j : Int) ∧ b = .slice ao (m + j) cv ∧ wr.ownsRow B 5 1 b (m + j) (xs ++ digTo n k j) ∧ Below B a0 wr) (fun _ u _ => (intOf u).toNat)
      case atStart =>
        obtain ⟨ao, cv, ev⟩ : ∃ ao cv, v = .slice ao m cv := by
          rcases HO.out.1.2 with ⟨h, h2⟩ | ⟨g, cap, _, h, _⟩
          · exact ⟨none, 0, by rw [h, h2]⟩
          · exact ⟨_, _, h⟩
        exact ⟨0, ao, cv, by omega, vint (by have := eU; omega), ev, by simpa [digTo] using HO.out.1, HO.out.2⟩
      case round =>
        obtain ⟨j, ao, cv, hj, rfl, rfl, hown, hbl⟩ := hrel
        clear HO
        have hu := unitAt_le (k := k) (j := j) hk
        by_cases hlt : j < k
        · have hp := unitAt_pos hlt
          have hst := unitAt_step hlt
          have hdg : n / unitAt k j % 10 = n / 10 ^ (k - 1 - j) % 10 := by unfold unitAt; rw [if_pos hlt]
          have hds := digTo_succ n k j
          rw [← hdg] at hds
          have HDS : Hid (digTo n k (j + 1) = digTo n k j ++ [.int .u8 ((48 + n / unitAt k j % 10 : Nat) : Int)]) := hds
          have HST : Hid (unitAt k j / 10 = unitAt k (j + 1)) := hst
          clear hdg hds hst
          generalize unitAt k j = U at *
          have hp' : (0 : Int) < (U : Int) := by omega
          have hp0 : ¬ (U : Int) = 0 := by omega
          have hQ : (n : Int) / (U : Int) = ((n / U : Nat) : Int) := by simp
          have hQ9 : n / U ≤ 100000000 := Nat.le_trans (Nat.div_le_self _ _) hn
          generalize n / U = Q at *
          have hD : (Q : Int) % 10 = ((Q % 10 : Nat) : Int) := by simp
          have hD9 : Q % 10 < 10 := Nat.mod_lt _ (by decide)
          generalize Q % 10 = D at *
          have HA : Hid (Below B a0 wr ∧ B ≤ wr.heap.size ∧ wr.ownsRow B 5 1 (.slice ao (m + j) cv) (m + j) (xs ++ digTo n k j)) := ⟨hbl, Nat.le_trans hB hbl.size, hown⟩
          clear hown hbl
          have hnew : Hid (∀ j u, [Value.int .u8 (48 + (D : Int))][j]? = some u → (wr.alloc (.cells #[.int .u8 (48 + (D : Int))] 5)).cell? ((⟨wr.heap.size, 0, none⟩ : Addr).add j) = some u) := cell_one_new wr (.int .u8 (48 + (D : Int))) 5
          go_wp2_with (at_builtin; refine wpList_append_own _ rfl _ _ 25 rfl B 5 i0 (.int .u8 0) 1 1 Tryz.underlying25 hi hz0 hz1 hz2 rfl (by decide) _ (m + j) (xs ++ digTo n k j) rfl (HA.out.2.2.alloc _) ⟨wr.heap.size, 0, none⟩ 1 1 [.int .u8 (48 + (D : Int))] rfl rfl hnew.out (fun x hx => by simp at hx; subst hx; rfl) (by unfold maxLen; omega) (by omega) (by have := HA.out.2.1; simp; omega) ?_; intro v' w3 hown' hgrow3 hnil3)
          have e1 : (48 : Int) + (D : Int) = ((48 + D : Nat) : Int) := by omega
          have hg3 : (wr.alloc (.cells #[.int .u8 (48 + (D : Int))] 5)).grownBy w3 (Value.slice ao (m + j) cv).ownBlock := hgrow3
          have hb3 : Below B a0 w3 := below_grownBy (HA.out.1.alloc HA.out.2.1 _) hg3 hB (fun q hq => (HA.out.2.2.lt q hq).1)
          rw [e1, List.append_assoc, ← HDS.out] at hown'
          obtain ⟨a3, c3, rfl⟩ : ∃ a3 c3, v' = .slice a3 (m + j + 1) c3 := by
            rcases hown'.2 with ⟨_, h⟩ | ⟨g3, cap3, _, h, _⟩
            · omega
            · exact ⟨_, _, h⟩
          have HB3 : Hid (Below B a0 w3 ∧ w3.ownsRow B 5 1 (.slice a3 (m + j + 1) c3) (m + j + 1) (xs ++ digTo n k (j + 1))) := ⟨hb3, hown'⟩
          clear hb3 hown' hg3 hgrow3 hnil3
          exact ⟨⟨j + 1, a3, c3, by omega, vint (by have := HST.out; omega), rfl, HB3.out.2, HB3.out.1⟩, by simp [intOf]; omega⟩
        · obtain rfl : j = k := by omega
          have e0 : unitAt j j = 0 := by unfold unitAt; rw [if_neg (by omega)]
          have HW : Hid (wr.ownsRow B 5 1 (.slice ao (m + j) cv) (m + j) (xs ++ digTo n j j) ∧ Below B a0 wr) := ⟨hown, hbl⟩
          clear hown hbl
          rw [e0]
          go_wp2
          go_ret
          exact ⟨_, rfl, HW.out.1, HW.out.2⟩
theorem own_form {w : World} {B e n : Nat} {v : Value} {xs : List Value} (h : w.ownsRow B e 1 v n xs) : ∃ ao cv, v = .slice ao n cv := by
  rcases h.2 with ⟨h1, h2⟩ | ⟨g, cap, _, h1, _⟩
  · exact ⟨none, 0, by rw [h1, h2]⟩
  · exact ⟨_, _, h1⟩
/-- Bytes of one's own as a text. -/
theorem own_string {w : World} {B n c : Nat} {a : Option Addr} {xs : List Value} {ns : List Int} (h : w.ownsRow B 5 1 (.slice a n c) n xs) (hx : xs = ns.map (Value.int .u8)) (hn : 0 < n) :
    (convert 25 9 (.slice a n c)).run Tryz.prog w = .ok (.string (strOfNums ns)) w := by
  obtain ⟨g, cap, hv, _, _⟩ := h.form hn
  simp only [Value.slice.injEq, true_and] at hv
  obtain ⟨rfl, rfl⟩ := hv
  subst hx
  have hl : ns.length = n := by have := h.1; simpa using this
  refine run_convert_bytes_arg w 25 5 Tryz.underlying25 Tryz.underlying5 g 0 n c ns hl (fun i hi => ?_) 9 Tryz.underlying9
  rw [Nat.zero_add, h.cellAt i (by omega)]
  simp [List.getElem?_eq_getElem (show i < ns.length by omega)]
/-- The digits as numbers. -/
def digI (n k : Nat) : List Int := (List.range k).map fun i => ((48 + n / 10 ^ (k - 1 - i) % 10 : Nat) : Int)
theorem digTo_map (n k : Nat) : digTo n k k = (digI n k).map (Value.int .u8) := by simp [digTo, digI]
theorem digI_length (n k : Nat) : (digI n k).length = k := by simp [digI]
/-- What Stamp writes. -/
def stampI (t : Nat) : List Int := digI (dateN (t / 86400000)) 8 ++ [45] ++ digI (t % 86400000 / 3600000) 2 ++ [58] ++ digI (t % 3600000 / 60000) 2 ++ [58] ++ digI (t % 60000 / 1000) 2 ++ [46] ++ digI (t % 1000) 3
set_option maxRecDepth 100000 in
set_option maxHeartbeats 400000 in
theorem Stamp_yes (t : Nat) (w : World) (hM : Mon w) (ht : t ≤ 253402300799999) :
    Calls Tryz.prog 321 #[.int .i64 (t : Int)] w fun e w' => e = .returned (.tuple #[.string (strOfNums (stampI t)), .int .i64 0]) ∧ Below w.heap.size w w' := by
  obtain ⟨i0, hi, hz0, hz1, hz2⟩ := info_parts info5
  have hT : isT (t : Int) = true := by rw [isT_iff]; omega
  have hdo := DateOf_any t w hM
  have e1 : doV t = (dateN (t / 86400000) : Int) := by unfold doV; rw [hT, if_pos rfl, show ((t : Int) / 86400000).toNat = t / 86400000 by omega]
  have e2 : stE t = 0 := by unfold stE; rw [hT]; rfl
  rw [e1, e2] at hdo
  have hdb := dateN_bounds (n := t / 86400000) (by omega)
  clear e1 e2 hT
  unfold stampI
  generalize dateN (t / 86400000) = d at *
  go_enter Tryz.func321, Tryz.ntmps321
  have hBw : Hid (w.heap.size ≤ w.heap.size) := Nat.le_refl _
  go_wp2_with (go_at_call 324; fail)
  refine hdo.mono ?_
  rintro e w1 ⟨rfl, hb1⟩
  have HB1 : Hid (Below w.heap.size w w1) := hb1
  clear hb1 hdo
  generalize hBe : w.heap.size = B at *
  have HBe : Hid (w.heap.size = B) := hBe
  clear hBe
  go_wp2_with (at_make; refine wpList_make_own _ rfl _ _ 25 rfl B 5 i0 (.int .u8 0) 1 Tryz.underlying25 hi hz0 hz1 _ _ _ 21 rfl rfl rfl (by rw [hz2]; decide) (by decide) (by rw [← HBe.out]; exact HB1.out.size) ?_; intro w2 hown2 hgrow2)
  have HC : Hid (Below B w w2 ∧ B ≤ w2.heap.size ∧ w2.ownsRow B 5 1 (.slice (some ⟨w1.heap.size, 0, none⟩) 0 21) 0 []) := ⟨below_grownBy HB1.out hgrow2 (by rw [HBe.out]; exact Nat.le_refl _) (fun k hk => by cases hk), Nat.le_trans (by rw [← HBe.out]; exact HB1.out.size) hgrow2.size, hown2⟩
  clear hown2 hgrow2
  go_wp2_with (go_at_call 325; fail)
  refine (appendDigits_any B w (.slice (some ⟨w1.heap.size, 0, none⟩) 0 21) 0 (d) 8 ([]) w2 HC.out.1 (by rw [HBe.out]; exact Nat.le_refl _) HC.out.2.2 (by omega) (by omega) (by omega) (by omega) _ _ (by omega) rfl).mono ?_
  rintro e w3 ⟨v3, rfl, ho3, hb3⟩
  obtain ⟨a3, c3, rfl⟩ := own_form ho3
  have HC : Hid (Below B w w3 ∧ B ≤ w3.heap.size ∧ w3.ownsRow B 5 1 (.slice a3 8 c3) 8 ([] ++ digTo (d) 8 8)) := ⟨hb3, Nat.le_trans (by rw [HBe.out]; exact Nat.le_refl _) hb3.size, ho3⟩
  clear ho3 hb3
  have hnew3 : Hid (∀ j u, [Value.int .u8 45][j]? = some u → (w3.alloc (.cells #[.int .u8 45] 5)).cell? ((⟨w3.heap.size, 0, none⟩ : Addr).add j) = some u) := cell_one_new w3 (.int .u8 45) 5
  go_wp2_with (at_builtin; refine wpList_append_own _ rfl _ _ 25 rfl B 5 i0 (.int .u8 0) 1 1 Tryz.underlying25 hi hz0 hz1 hz2 rfl (by decide) _ 8 ([] ++ digTo (d) 8 8) rfl (HC.out.2.2.alloc _) ⟨w3.heap.size, 0, none⟩ 1 1 [.int .u8 45] rfl rfl hnew3.out (fun x hx => by simp at hx; subst hx; rfl) (by unfold maxLen; omega) (by omega) (by have := HC.out.2.1; simp; omega) ?_; intro v4 w4 hown' hgrow3 hnil3)
  have hb4 : Below B w w4 := below_grownBy (HC.out.1.alloc HC.out.2.1 (.cells #[.int .u8 45] 5)) hgrow3 (by rw [HBe.out]; exact Nat.le_refl _) (fun q hq => (HC.out.2.2.lt q hq).1)
  obtain ⟨a4, c4, rfl⟩ := own_form hown'
  have HC : Hid (Below B w w4 ∧ B ≤ w4.heap.size ∧ w4.ownsRow B 5 1 (.slice a4 9 c4) 9 ([] ++ digTo (d) 8 8 ++ [.int .u8 45])) := ⟨hb4, Nat.le_trans (by rw [HBe.out]; exact Nat.le_refl _) hb4.size, hown'⟩
  clear hown' hgrow3 hnil3 hb4 hnew3
  go_wp2_with (go_at_call 325; fail)
  refine (appendDigits_any B w (.slice a4 9 c4) 9 (t % 86400000 / 3600000) 2 ([] ++ digTo (d) 8 8 ++ [.int .u8 45]) w4 HC.out.1 (by rw [HBe.out]; exact Nat.le_refl _) HC.out.2.2 (by omega) (by omega) (by omega) (by omega) _ _ (by omega) rfl).mono ?_
  rintro e w5 ⟨v5, rfl, ho5, hb5⟩
  obtain ⟨a5, c5, rfl⟩ := own_form ho5
  have HC : Hid (Below B w w5 ∧ B ≤ w5.heap.size ∧ w5.ownsRow B 5 1 (.slice a5 11 c5) 11 ([] ++ digTo (d) 8 8 ++ [.int .u8 45] ++ digTo (t % 86400000 / 3600000) 2 2)) := ⟨hb5, Nat.le_trans (by rw [HBe.out]; exact Nat.le_refl _) hb5.size, ho5⟩
  clear ho5 hb5
  have hnew5 : Hid (∀ j u, [Value.int .u8 58][j]? = some u → (w5.alloc (.cells #[.int .u8 58] 5)).cell? ((⟨w5.heap.size, 0, none⟩ : Addr).add j) = some u) := cell_one_new w5 (.int .u8 58) 5
  go_wp2_with (at_builtin; refine wpList_append_own _ rfl _ _ 25 rfl B 5 i0 (.int .u8 0) 1 1 Tryz.underlying25 hi hz0 hz1 hz2 rfl (by decide) _ 11 ([] ++ digTo (d) 8 8 ++ [.int .u8 45] ++ digTo (t % 86400000 / 3600000) 2 2) rfl (HC.out.2.2.alloc _) ⟨w5.heap.size, 0, none⟩ 1 1 [.int .u8 58] rfl rfl hnew5.out (fun x hx => by simp at hx; subst hx; rfl) (by unfold maxLen; omega) (by omega) (by have := HC.out.2.1; simp; omega) ?_; intro v6 w6 hown' hgrow3 hnil3)
  have hb6 : Below B w w6 := below_grownBy (HC.out.1.alloc HC.out.2.1 (.cells #[.int .u8 58] 5)) hgrow3 (by rw [HBe.out]; exact Nat.le_refl _) (fun q hq => (HC.out.2.2.lt q hq).1)
  obtain ⟨a6, c6, rfl⟩ := own_form hown'
  have HC : Hid (Below B w w6 ∧ B ≤ w6.heap.size ∧ w6.ownsRow B 5 1 (.slice a6 12 c6) 12 ([] ++ digTo (d) 8 8 ++ [.int .u8 45] ++ digTo (t % 86400000 / 3600000) 2 2 ++ [.int .u8 58])) := ⟨hb6, Nat.le_trans (by rw [HBe.out]; exact Nat.le_refl _) hb6.size, hown'⟩
  clear hown' hgrow3 hnil3 hb6 hnew5
  go_wp2_with (go_at_call 325; fail)
  refine (appendDigits_any B w (.slice a6 12 c6) 12 (t % 3600000 / 60000) 2 ([] ++ digTo (d) 8 8 ++ [.int .u8 45] ++ digTo (t % 86400000 / 3600000) 2 2 ++ [.int .u8 58]) w6 HC.out.1 (by rw [HBe.out]; exact Nat.le_refl _) HC.out.2.2 (by omega) (by omega) (by omega) (by omega) _ _ (by omega) rfl).mono ?_
  rintro e w7 ⟨v7, rfl, ho7, hb7⟩
  obtain ⟨a7, c7, rfl⟩ := own_form ho7
  have HC : Hid (Below B w w7 ∧ B ≤ w7.heap.size ∧ w7.ownsRow B 5 1 (.slice a7 14 c7) 14 ([] ++ digTo (d) 8 8 ++ [.int .u8 45] ++ digTo (t % 86400000 / 3600000) 2 2 ++ [.int .u8 58] ++ digTo (t % 3600000 / 60000) 2 2)) := ⟨hb7, Nat.le_trans (by rw [HBe.out]; exact Nat.le_refl _) hb7.size, ho7⟩
  clear ho7 hb7
  have hnew7 : Hid (∀ j u, [Value.int .u8 58][j]? = some u → (w7.alloc (.cells #[.int .u8 58] 5)).cell? ((⟨w7.heap.size, 0, none⟩ : Addr).add j) = some u) := cell_one_new w7 (.int .u8 58) 5
  go_wp2_with (at_builtin; refine wpList_append_own _ rfl _ _ 25 rfl B 5 i0 (.int .u8 0) 1 1 Tryz.underlying25 hi hz0 hz1 hz2 rfl (by decide) _ 14 ([] ++ digTo (d) 8 8 ++ [.int .u8 45] ++ digTo (t % 86400000 / 3600000) 2 2 ++ [.int .u8 58] ++ digTo (t % 3600000 / 60000) 2 2) rfl (HC.out.2.2.alloc _) ⟨w7.heap.size, 0, none⟩ 1 1 [.int .u8 58] rfl rfl hnew7.out (fun x hx => by simp at hx; subst hx; rfl) (by unfold maxLen; omega) (by omega) (by have := HC.out.2.1; simp; omega) ?_; intro v8 w8 hown' hgrow3 hnil3)
  have hb8 : Below B w w8 := below_grownBy (HC.out.1.alloc HC.out.2.1 (.cells #[.int .u8 58] 5)) hgrow3 (by rw [HBe.out]; exact Nat.le_refl _) (fun q hq => (HC.out.2.2.lt q hq).1)
  obtain ⟨a8, c8, rfl⟩ := own_form hown'
  have HC : Hid (Below B w w8 ∧ B ≤ w8.heap.size ∧ w8.ownsRow B 5 1 (.slice a8 15 c8) 15 ([] ++ digTo (d) 8 8 ++ [.int .u8 45] ++ digTo (t % 86400000 / 3600000) 2 2 ++ [.int .u8 58] ++ digTo (t % 3600000 / 60000) 2 2 ++ [.int .u8 58])) := ⟨hb8, Nat.le_trans (by rw [HBe.out]; exact Nat.le_refl _) hb8.size, hown'⟩
  clear hown' hgrow3 hnil3 hb8 hnew7
  go_wp2_with (go_at_call 325; fail)
  refine (appendDigits_any B w (.slice a8 15 c8) 15 (t % 60000 / 1000) 2 ([] ++ digTo (d) 8 8 ++ [.int .u8 45] ++ digTo (t % 86400000 / 3600000) 2 2 ++ [.int .u8 58] ++ digTo (t % 3600000 / 60000) 2 2 ++ [.int .u8 58]) w8 HC.out.1 (by rw [HBe.out]; exact Nat.le_refl _) HC.out.2.2 (by omega) (by omega) (by omega) (by omega) _ _ (by omega) rfl).mono ?_
  rintro e w9 ⟨v9, rfl, ho9, hb9⟩
  obtain ⟨a9, c9, rfl⟩ := own_form ho9
  have HC : Hid (Below B w w9 ∧ B ≤ w9.heap.size ∧ w9.ownsRow B 5 1 (.slice a9 17 c9) 17 ([] ++ digTo (d) 8 8 ++ [.int .u8 45] ++ digTo (t % 86400000 / 3600000) 2 2 ++ [.int .u8 58] ++ digTo (t % 3600000 / 60000) 2 2 ++ [.int .u8 58] ++ digTo (t % 60000 / 1000) 2 2)) := ⟨hb9, Nat.le_trans (by rw [HBe.out]; exact Nat.le_refl _) hb9.size, ho9⟩
  clear ho9 hb9
  have hnew9 : Hid (∀ j u, [Value.int .u8 46][j]? = some u → (w9.alloc (.cells #[.int .u8 46] 5)).cell? ((⟨w9.heap.size, 0, none⟩ : Addr).add j) = some u) := cell_one_new w9 (.int .u8 46) 5
  go_wp2_with (at_builtin; refine wpList_append_own _ rfl _ _ 25 rfl B 5 i0 (.int .u8 0) 1 1 Tryz.underlying25 hi hz0 hz1 hz2 rfl (by decide) _ 17 ([] ++ digTo (d) 8 8 ++ [.int .u8 45] ++ digTo (t % 86400000 / 3600000) 2 2 ++ [.int .u8 58] ++ digTo (t % 3600000 / 60000) 2 2 ++ [.int .u8 58] ++ digTo (t % 60000 / 1000) 2 2) rfl (HC.out.2.2.alloc _) ⟨w9.heap.size, 0, none⟩ 1 1 [.int .u8 46] rfl rfl hnew9.out (fun x hx => by simp at hx; subst hx; rfl) (by unfold maxLen; omega) (by omega) (by have := HC.out.2.1; simp; omega) ?_; intro v10 w10 hown' hgrow3 hnil3)
  have hb10 : Below B w w10 := below_grownBy (HC.out.1.alloc HC.out.2.1 (.cells #[.int .u8 46] 5)) hgrow3 (by rw [HBe.out]; exact Nat.le_refl _) (fun q hq => (HC.out.2.2.lt q hq).1)
  obtain ⟨a10, c10, rfl⟩ := own_form hown'
  have HC : Hid (Below B w w10 ∧ B ≤ w10.heap.size ∧ w10.ownsRow B 5 1 (.slice a10 18 c10) 18 ([] ++ digTo (d) 8 8 ++ [.int .u8 45] ++ digTo (t % 86400000 / 3600000) 2 2 ++ [.int .u8 58] ++ digTo (t % 3600000 / 60000) 2 2 ++ [.int .u8 58] ++ digTo (t % 60000 / 1000) 2 2 ++ [.int .u8 46])) := ⟨hb10, Nat.le_trans (by rw [HBe.out]; exact Nat.le_refl _) hb10.size, hown'⟩
  clear hown' hgrow3 hnil3 hb10 hnew9
  go_wp2_with (go_at_call 325; fail)
  refine (appendDigits_any B w (.slice a10 18 c10) 18 (t % 1000) 3 ([] ++ digTo (d) 8 8 ++ [.int .u8 45] ++ digTo (t % 86400000 / 3600000) 2 2 ++ [.int .u8 58] ++ digTo (t % 3600000 / 60000) 2 2 ++ [.int .u8 58] ++ digTo (t % 60000 / 1000) 2 2 ++ [.int .u8 46]) w10 HC.out.1 (by rw [HBe.out]; exact Nat.le_refl _) HC.out.2.2 (by omega) (by omega) (by omega) (by omega) _ _ (by omega) rfl).mono ?_
  rintro e w11 ⟨v11, rfl, ho11, hb11⟩
  obtain ⟨a11, c11, rfl⟩ := own_form ho11
  have HC : Hid (Below B w w11 ∧ B ≤ w11.heap.size ∧ w11.ownsRow B 5 1 (.slice a11 21 c11) 21 ([] ++ digTo (d) 8 8 ++ [.int .u8 45] ++ digTo (t % 86400000 / 3600000) 2 2 ++ [.int .u8 58] ++ digTo (t % 3600000 / 60000) 2 2 ++ [.int .u8 58] ++ digTo (t % 60000 / 1000) 2 2 ++ [.int .u8 46] ++ digTo (t % 1000) 3 3)) := ⟨hb11, Nat.le_trans (by rw [HBe.out]; exact Nat.le_refl _) hb11.size, ho11⟩
  clear ho11 hb11
  have hcv : (convert 25 9 (.slice a11 21 c11)).run Tryz.prog w11 = .ok (.string (strOfNums (digI d 8 ++ [45] ++ digI (t % 86400000 / 3600000) 2 ++ [58] ++ digI (t % 3600000 / 60000) 2 ++ [58] ++ digI (t % 60000 / 1000) 2 ++ [46] ++ digI (t % 1000) 3))) w11 := own_string HC.out.2.2 (by simp [digTo_map]) (by decide)
  have HZ : Hid (Below B w w11) := HC.out.1
  clear HC
  go_wp2
  go_ret2
  exact ⟨rfl, by rw [HBe.out]; exact HZ.out⟩
end Go.Proofs.YtchkpggdndnpjabGreatDoor
