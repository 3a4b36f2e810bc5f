import Derived.Test.YtjnnecoikcmaeaaBytes2
import Derived.Deep.DeepCutAuto
import Derived.Test.YtjnnecoikcmaeaaBytes3
import Derived.Test.YtjnnecoikcmaeaaOwn
import Derived.Test.YtjnnecoikcmaeaaTells

namespace Go.Proofs.Ytjnnecoikcmaeaa
set_option linter.unusedVariables false
set_option linter.unusedSimpArgs false
open Go.RowKit

set_option maxRecDepth 100000 in
set_option maxHeartbeats 1000000 in
theorem refPut_in (a : Option Addr) (n cap : Nat) (d : Nat → Nat) (u s : Nat) (hs8 : s ≤ 8) (w : World) (hn : n ≤ 140737488351232) (hu : u < 18446744073709551616) (hs : Src w a n d) (ha : a = none → n = 0 ∧ cap = 0) :
    Calls Try.prog 54 #[.slice a n cap, .int .u64 (u : Int), .int .i64 (s : Int)] w fun e w' => ∃ v, e = .returned v ∧ w'.ownsRow w.heap.size 5 1 v (n + s) (bvals (rowL d n ++ putTo u s s)) ∧ Below w.heap.size w w' := by
  obtain ⟨i0, hi, hz0, hz1, hz2⟩ := info_parts info5
  have hs8' : (s : Int) ≤ 8 := by omega
  have hs0' : (0 : Int) ≤ (s : Int) := by omega
  have HS : Hid (Src w a n d ∧ (a = none → n = 0 ∧ cap = 0)) := ⟨hs, ha⟩
  clear hs ha
  go_enter Try.func54, Try.ntmps54
  go_upto_region 6 with fail
  go_cut [2, 7] (fun v2 v wx => v2 = .int .i64 (s : Int) ∧ ∃ a1 c1, v = .slice a1 n c1 ∧ wx.ownsRow w.heap.size 5 1 v n (bvals (rowL d n)) ∧ Below w.heap.size w wx)
  case first =>
    by_cases hn0 : n = 0
    · subst hn0
      obtain h | ⟨ad, h⟩ : a = none ∨ ∃ ad, a = some ad := by
        cases a with
        | none => exact .inl rfl
        | some x => exact .inr ⟨x, rfl⟩
      · subst h
        have hc0 := (HS.out.2 rfl).2
        subst hc0
        go_wp2_with fail
        go_meet
        exact ⟨by first | rfl | (rw [hs0]; rfl), none, 0, rfl, World.ownsRow_nil _ _ _ _, Below.refl _ _⟩
      · subst h
        go_wp2_with fail
        go_meet
        exact ⟨by first | rfl | (rw [hs0]; rfl), none, 0, rfl, World.ownsRow_nil _ _ _ _, Below.refl _ _⟩
    · obtain ⟨b0, off0, rfl⟩ : ∃ b0 off0, a = some ⟨b0, off0, none⟩ := by
        rcases HS.out.1 with h0 | ⟨b, off, h, _⟩
        · exact absurd h0 hn0
        · exact ⟨b, off, h⟩
      have HCL : Hid (∀ j u, (bvals (rowL d n))[j]? = some u → w.cell? ((⟨b0, off0, none⟩ : Addr).add j) = some u) := src_cells HS.out.1 _ rfl
      go_wp2_with (at_builtin; refine wpList_append_own _ rfl _ _ 28 rfl w.heap.size 5 i0 (.int .u8 0) 1 1 Try.underlying28 hi hz0 hz1 hz2 rfl (by decide) (.slice none 0 0) 0 [] rfl (World.ownsRow_nil _ _ _ _) ⟨b0, off0, none⟩ n cap (bvals (rowL d n)) rfl (by rw [bvals_length, rowL_length, Nat.mul_one]) HCL.out (bvals_one _) (by unfold maxLen; omega) (by omega) (Nat.le_refl _) ?_; intro v1 w1 hown1 hgrow1 hnil1)
      have hb1 : Below w.heap.size w w1 := below_grownBy (Below.refl _ w) hgrow1 (Nat.le_refl _) (fun k hk => by cases hk)
      rw [Nat.zero_add, List.nil_append] at hown1
      obtain ⟨a1, c1, rfl⟩ := own_form hown1
      have HX : Hid (w1.ownsRow w.heap.size 5 1 (.slice a1 n c1) n (bvals (rowL d n)) ∧ Below w.heap.size w w1) := ⟨hown1, hb1⟩
      clear hown1 hb1 hgrow1 hnil1
      go_wp2_with fail
      go_meet
      exact ⟨by first | rfl | (rw [hs0]; rfl), a1, c1, rfl, HX.out⟩
  case rest =>
    obtain ⟨rfl, a1, c1, rfl, ho1, hb1⟩ := hcut
    have HO : Hid (wc.ownsRow w.heap.size 5 1 (.slice a1 n c1) n (bvals (rowL d n)) ∧ Below w.heap.size w wc) := ⟨ho1, hb1⟩
    clear ho1 hb1 HS
    generalize hBe : w.heap.size = B at *
    have HBe : Hid (w.heap.size = B) := hBe
    clear hBe
    go_wp2
    go_loopw [7, 8] (fun o i wr => ∃ (j : Nat) (ao : Option Addr) (cv : Nat) (i' : Int), j ≤ s ∧ i = .int .i64 i' ∧ i' = (s : Int) - 1 - j ∧ o = .slice ao (n + j) cv ∧ wr.ownsRow B 5 1 o (n + j) (bvals (rowL d n ++ putTo u s j)) ∧ Below B w wr) (fun _ i _ => (intOf i + 1).toNat)
    case atStart => exact ⟨0, a1, c1, _, by omega, rfl, by omega, rfl, by simpa [putTo] using HO.out.1, HO.out.2⟩
    case round =>
      obtain ⟨j, ao, cv, i', hj, rfl, hi', rfl, hown, hbl⟩ := hrel
      clear HO
      by_cases hlt : j < s
      · obtain ⟨k, hk⟩ : ∃ k : Nat, k = s - 1 - j := ⟨_, rfl⟩
        have hik : i' = (k : Int) := by omega
        subst hik
        have hk8 : 8 * k < 64 := by omega
        have hv : (u : Int) / 2 ^ (8 * k) % 256 = ((u / 2 ^ (8 * k) % 256 : Nat) : Int) := by simp
        have HP : Hid (bvals (rowL d n ++ putTo u s (j + 1)) = bvals (rowL d n ++ putTo u s j) ++ [.int .u8 ((u / 2 ^ (8 * k) % 256 : Nat) : Int)]) := by
          show _ = _
          rw [putTo_succ, ← hk, ← List.append_assoc, bvals_append]
          rfl
        have hx256 : u / 2 ^ (8 * k) % 256 < 256 := Nat.mod_lt _ (by decide)
        have HA : Hid (Below B w wr ∧ B ≤ wr.heap.size ∧ wr.ownsRow B 5 1 (.slice ao (n + j) cv) (n + j) (bvals (rowL d n ++ putTo u s j))) := ⟨hbl, by rw [← HBe.out]; exact hbl.size, hown⟩
        have HK : Hid (k = s - 1 - j) := hk
        clear hown hbl hi' hk
        generalize u / 2 ^ (8 * k) % 256 = X at *
        have hnew : Hid (∀ j u, [Value.int .u8 (X : Int)][j]? = some u → (wr.alloc (.cells #[.int .u8 (X : Int)] 5)).cell? ((⟨wr.heap.size, 0, none⟩ : Addr).add j) = some u) := cell_one_new wr (.int .u8 (X : Int)) 5
        go_wp2_with (at_builtin; refine wpList_append_own _ rfl _ _ 28 rfl B 5 i0 (.int .u8 0) 1 1 Try.underlying28 hi hz0 hz1 hz2 rfl (by decide) _ (n + j) (bvals (rowL d n ++ putTo u s j)) rfl (HA.out.2.2.alloc _) ⟨wr.heap.size, 0, none⟩ 1 1 [.int .u8 (X : Int)] rfl rfl hnew.out (fun x hx => by simp at hx; subst hx; rfl) (by unfold maxLen; omega) (by omega) (by have := HA.out.2.1; simp; omega) ?_; intro v' w3 hown' hgrow3 hnil3)
        have hg3 : (wr.alloc (.cells #[.int .u8 (X : Int)] 5)).grownBy w3 (Value.slice ao (n + j) cv).ownBlock := hgrow3
        have hb3 : Below B w w3 := below_grownBy (HA.out.1.alloc HA.out.2.1 _) hg3 (by rw [HBe.out]; exact Nat.le_refl _) (fun q hq => (HA.out.2.2.lt q hq).1)
        rw [← HP.out] at hown'
        obtain ⟨a3, c3, rfl⟩ := own_form hown'
        have HB3 : Hid (Below B w w3 ∧ w3.ownsRow B 5 1 (.slice a3 (n + j + 1) c3) (n + j + 1) (bvals (rowL d n ++ putTo u s (j + 1)))) := ⟨hb3, hown'⟩
        clear hb3 hown' hg3 hgrow3 hnil3
        exact ⟨⟨j + 1, a3, c3, _, by omega, rfl, by have := HK.out; omega, rfl, HB3.out.2, HB3.out.1⟩, by simp [intOf]⟩
      · obtain rfl : j = s := by omega
        have hneg : i' = -1 := by omega
        subst hneg
        have HW : Hid (wr.ownsRow B 5 1 (.slice ao (n + j) cv) (n + j) (bvals (rowL d n ++ putTo u j j)) ∧ Below B w wr) := ⟨hown, hbl⟩
        clear hown hbl hi'
        go_wp2
        go_ret
        exact ⟨_, rfl, by rw [HBe.out]; exact HW.out.1, by rw [HBe.out]; exact HW.out.2⟩
set_option maxRecDepth 100000 in
set_option maxHeartbeats 1000000 in
theorem refPut_lo (a : Option Addr) (n cap : Nat) (d : Nat → Nat) (u s : Nat) (hs8 : s ≤ 8) (z : Int) (hz : z < 0) (hs0 : s = 0) (w : World) (hn : n ≤ 140737488351232) (hu : u < 18446744073709551616) (hs : Src w a n d) (ha : a = none → n = 0 ∧ cap = 0) :
    Calls Try.prog 54 #[.slice a n cap, .int .u64 (u : Int), .int .i64 z] w fun e w' => ∃ v, e = .returned v ∧ w'.ownsRow w.heap.size 5 1 v (n + s) (bvals (rowL d n ++ putTo u s s)) ∧ Below w.heap.size w w' := by
  obtain ⟨i0, hi, hz0, hz1, hz2⟩ := info_parts info5
  have hs8' : (s : Int) ≤ 8 := by omega
  have hs0' : (0 : Int) ≤ (s : Int) := by omega
  have HS : Hid (Src w a n d ∧ (a = none → n = 0 ∧ cap = 0)) := ⟨hs, ha⟩
  clear hs ha
  go_enter Try.func54, Try.ntmps54
  go_upto_region 6 with fail
  go_cut [2, 7] (fun v2 v wx => v2 = .int .i64 (s : Int) ∧ ∃ a1 c1, v = .slice a1 n c1 ∧ wx.ownsRow w.heap.size 5 1 v n (bvals (rowL d n)) ∧ Below w.heap.size w wx)
  case first =>
    by_cases hn0 : n = 0
    · subst hn0
      obtain h | ⟨ad, h⟩ : a = none ∨ ∃ ad, a = some ad := by
        cases a with
        | none => exact .inl rfl
        | some x => exact .inr ⟨x, rfl⟩
      · subst h
        have hc0 := (HS.out.2 rfl).2
        subst hc0
        go_wp2_with fail
        go_meet
        exact ⟨by first | rfl | (rw [hs0]; rfl), none, 0, rfl, World.ownsRow_nil _ _ _ _, Below.refl _ _⟩
      · subst h
        go_wp2_with fail
        go_meet
        exact ⟨by first | rfl | (rw [hs0]; rfl), none, 0, rfl, World.ownsRow_nil _ _ _ _, Below.refl _ _⟩
    · obtain ⟨b0, off0, rfl⟩ : ∃ b0 off0, a = some ⟨b0, off0, none⟩ := by
        rcases HS.out.1 with h0 | ⟨b, off, h, _⟩
        · exact absurd h0 hn0
        · exact ⟨b, off, h⟩
      have HCL : Hid (∀ j u, (bvals (rowL d n))[j]? = some u → w.cell? ((⟨b0, off0, none⟩ : Addr).add j) = some u) := src_cells HS.out.1 _ rfl
      go_wp2_with (at_builtin; refine wpList_append_own _ rfl _ _ 28 rfl w.heap.size 5 i0 (.int .u8 0) 1 1 Try.underlying28 hi hz0 hz1 hz2 rfl (by decide) (.slice none 0 0) 0 [] rfl (World.ownsRow_nil _ _ _ _) ⟨b0, off0, none⟩ n cap (bvals (rowL d n)) rfl (by rw [bvals_length, rowL_length, Nat.mul_one]) HCL.out (bvals_one _) (by unfold maxLen; omega) (by omega) (Nat.le_refl _) ?_; intro v1 w1 hown1 hgrow1 hnil1)
      have hb1 : Below w.heap.size w w1 := below_grownBy (Below.refl _ w) hgrow1 (Nat.le_refl _) (fun k hk => by cases hk)
      rw [Nat.zero_add, List.nil_append] at hown1
      obtain ⟨a1, c1, rfl⟩ := own_form hown1
      have HX : Hid (w1.ownsRow w.heap.size 5 1 (.slice a1 n c1) n (bvals (rowL d n)) ∧ Below w.heap.size w w1) := ⟨hown1, hb1⟩
      clear hown1 hb1 hgrow1 hnil1
      go_wp2_with fail
      go_meet
      exact ⟨by first | rfl | (rw [hs0]; rfl), a1, c1, rfl, HX.out⟩
  case rest =>
    obtain ⟨rfl, a1, c1, rfl, ho1, hb1⟩ := hcut
    have HO : Hid (wc.ownsRow w.heap.size 5 1 (.slice a1 n c1) n (bvals (rowL d n)) ∧ Below w.heap.size w wc) := ⟨ho1, hb1⟩
    clear ho1 hb1 HS hs0 hz
    generalize hBe : w.heap.size = B at *
    have HBe : Hid (w.heap.size = B) := hBe
    clear hBe
    go_wp2
    go_loopw [7, 8] (fun o i wr => ∃ (j : Nat) (ao : Option Addr) (cv : Nat) (i' : Int), j ≤ s ∧ i = .int .i64 i' ∧ i' = (s : Int) - 1 - j ∧ o = .slice ao (n + j) cv ∧ wr.ownsRow B 5 1 o (n + j) (bvals (rowL d n ++ putTo u s j)) ∧ Below B w wr) (fun _ i _ => (intOf i + 1).toNat)
    case atStart => exact ⟨0, a1, c1, _, by omega, rfl, by omega, rfl, by simpa [putTo] using HO.out.1, HO.out.2⟩
    case round =>
      obtain ⟨j, ao, cv, i', hj, rfl, hi', rfl, hown, hbl⟩ := hrel
      clear HO
      by_cases hlt : j < s
      · obtain ⟨k, hk⟩ : ∃ k : Nat, k = s - 1 - j := ⟨_, rfl⟩
        have hik : i' = (k : Int) := by omega
        subst hik
        have hk8 : 8 * k < 64 := by omega
        have hv : (u : Int) / 2 ^ (8 * k) % 256 = ((u / 2 ^ (8 * k) % 256 : Nat) : Int) := by simp
        have HP : Hid (bvals (rowL d n ++ putTo u s (j + 1)) = bvals (rowL d n ++ putTo u s j) ++ [.int .u8 ((u / 2 ^ (8 * k) % 256 : Nat) : Int)]) := by
          show _ = _
          rw [putTo_succ, ← hk, ← List.append_assoc, bvals_append]
          rfl
        have hx256 : u / 2 ^ (8 * k) % 256 < 256 := Nat.mod_lt _ (by decide)
        have HA : Hid (Below B w wr ∧ B ≤ wr.heap.size ∧ wr.ownsRow B 5 1 (.slice ao (n + j) cv) (n + j) (bvals (rowL d n ++ putTo u s j))) := ⟨hbl, by rw [← HBe.out]; exact hbl.size, hown⟩
        have HK : Hid (k = s - 1 - j) := hk
        clear hown hbl hi' hk
        generalize u / 2 ^ (8 * k) % 256 = X at *
        have hnew : Hid (∀ j u, [Value.int .u8 (X : Int)][j]? = some u → (wr.alloc (.cells #[.int .u8 (X : Int)] 5)).cell? ((⟨wr.heap.size, 0, none⟩ : Addr).add j) = some u) := cell_one_new wr (.int .u8 (X : Int)) 5
        go_wp2_with (at_builtin; refine wpList_append_own _ rfl _ _ 28 rfl B 5 i0 (.int .u8 0) 1 1 Try.underlying28 hi hz0 hz1 hz2 rfl (by decide) _ (n + j) (bvals (rowL d n ++ putTo u s j)) rfl (HA.out.2.2.alloc _) ⟨wr.heap.size, 0, none⟩ 1 1 [.int .u8 (X : Int)] rfl rfl hnew.out (fun x hx => by simp at hx; subst hx; rfl) (by unfold maxLen; omega) (by omega) (by have := HA.out.2.1; simp; omega) ?_; intro v' w3 hown' hgrow3 hnil3)
        have hg3 : (wr.alloc (.cells #[.int .u8 (X : Int)] 5)).grownBy w3 (Value.slice ao (n + j) cv).ownBlock := hgrow3
        have hb3 : Below B w w3 := below_grownBy (HA.out.1.alloc HA.out.2.1 _) hg3 (by rw [HBe.out]; exact Nat.le_refl _) (fun q hq => (HA.out.2.2.lt q hq).1)
        rw [← HP.out] at hown'
        obtain ⟨a3, c3, rfl⟩ := own_form hown'
        have HB3 : Hid (Below B w w3 ∧ w3.ownsRow B 5 1 (.slice a3 (n + j + 1) c3) (n + j + 1) (bvals (rowL d n ++ putTo u s (j + 1)))) := ⟨hb3, hown'⟩
        clear hb3 hown' hg3 hgrow3 hnil3
        exact ⟨⟨j + 1, a3, c3, _, by omega, rfl, by have := HK.out; omega, rfl, HB3.out.2, HB3.out.1⟩, by simp [intOf]⟩
      · obtain rfl : j = s := by omega
        have hneg : i' = -1 := by omega
        subst hneg
        have HW : Hid (wr.ownsRow B 5 1 (.slice ao (n + j) cv) (n + j) (bvals (rowL d n ++ putTo u j j)) ∧ Below B w wr) := ⟨hown, hbl⟩
        clear hown hbl hi'
        go_wp2
        go_ret
        exact ⟨_, rfl, by rw [HBe.out]; exact HW.out.1, by rw [HBe.out]; exact HW.out.2⟩
set_option maxRecDepth 100000 in
set_option maxHeartbeats 1000000 in
theorem refPut_hi (a : Option Addr) (n cap : Nat) (d : Nat → Nat) (u s : Nat) (hs8 : s ≤ 8) (z : Int) (hz : 8 < z) (hs0 : s = 8) (w : World) (hn : n ≤ 140737488351232) (hu : u < 18446744073709551616) (hs : Src w a n d) (ha : a = none → n = 0 ∧ cap = 0) :
    Calls Try.prog 54 #[.slice a n cap, .int .u64 (u : Int), .int .i64 z] w fun e w' => ∃ v, e = .returned v ∧ w'.ownsRow w.heap.size 5 1 v (n + s) (bvals (rowL d n ++ putTo u s s)) ∧ Below w.heap.size w w' := by
  obtain ⟨i0, hi, hz0, hz1, hz2⟩ := info_parts info5
  have hs8' : (s : Int) ≤ 8 := by omega
  have hs0' : (0 : Int) ≤ (s : Int) := by omega
  have HS : Hid (Src w a n d ∧ (a = none → n = 0 ∧ cap = 0)) := ⟨hs, ha⟩
  clear hs ha
  go_enter Try.func54, Try.ntmps54
  go_upto_region 6 with fail
  go_cut [2, 7] (fun v2 v wx => v2 = .int .i64 (s : Int) ∧ ∃ a1 c1, v = .slice a1 n c1 ∧ wx.ownsRow w.heap.size 5 1 v n (bvals (rowL d n)) ∧ Below w.heap.size w wx)
  case first =>
    by_cases hn0 : n = 0
    · subst hn0
      obtain h | ⟨ad, h⟩ : a = none ∨ ∃ ad, a = some ad := by
        cases a with
        | none => exact .inl rfl
        | some x => exact .inr ⟨x, rfl⟩
      · subst h
        have hc0 := (HS.out.2 rfl).2
        subst hc0
        go_wp2_with fail
        go_meet
        exact ⟨by first | rfl | (rw [hs0]; rfl), none, 0, rfl, World.ownsRow_nil _ _ _ _, Below.refl _ _⟩
      · subst h
        go_wp2_with fail
        go_meet
        exact ⟨by first | rfl | (rw [hs0]; rfl), none, 0, rfl, World.ownsRow_nil _ _ _ _, Below.refl _ _⟩
    · obtain ⟨b0, off0, rfl⟩ : ∃ b0 off0, a = some ⟨b0, off0, none⟩ := by
        rcases HS.out.1 with h0 | ⟨b, off, h, _⟩
        · exact absurd h0 hn0
        · exact ⟨b, off, h⟩
      have HCL : Hid (∀ j u, (bvals (rowL d n))[j]? = some u → w.cell? ((⟨b0, off0, none⟩ : Addr).add j) = some u) := src_cells HS.out.1 _ rfl
      go_wp2_with (at_builtin; refine wpList_append_own _ rfl _ _ 28 rfl w.heap.size 5 i0 (.int .u8 0) 1 1 Try.underlying28 hi hz0 hz1 hz2 rfl (by decide) (.slice none 0 0) 0 [] rfl (World.ownsRow_nil _ _ _ _) ⟨b0, off0, none⟩ n cap (bvals (rowL d n)) rfl (by rw [bvals_length, rowL_length, Nat.mul_one]) HCL.out (bvals_one _) (by unfold maxLen; omega) (by omega) (Nat.le_refl _) ?_; intro v1 w1 hown1 hgrow1 hnil1)
      have hb1 : Below w.heap.size w w1 := below_grownBy (Below.refl _ w) hgrow1 (Nat.le_refl _) (fun k hk => by cases hk)
      rw [Nat.zero_add, List.nil_append] at hown1
      obtain ⟨a1, c1, rfl⟩ := own_form hown1
      have HX : Hid (w1.ownsRow w.heap.size 5 1 (.slice a1 n c1) n (bvals (rowL d n)) ∧ Below w.heap.size w w1) := ⟨hown1, hb1⟩
      clear hown1 hb1 hgrow1 hnil1
      go_wp2_with fail
      go_meet
      exact ⟨by first | rfl | (rw [hs0]; rfl), a1, c1, rfl, HX.out⟩
  case rest =>
    obtain ⟨rfl, a1, c1, rfl, ho1, hb1⟩ := hcut
    have HO : Hid (wc.ownsRow w.heap.size 5 1 (.slice a1 n c1) n (bvals (rowL d n)) ∧ Below w.heap.size w wc) := ⟨ho1, hb1⟩
    clear ho1 hb1 HS hs0 hz
    generalize hBe : w.heap.size = B at *
    have HBe : Hid (w.heap.size = B) := hBe
    clear hBe
    go_wp2
    go_loopw [7, 8] (fun o i wr => ∃ (j : Nat) (ao : Option Addr) (cv : Nat) (i' : Int), j ≤ s ∧ i = .int .i64 i' ∧ i' = (s : Int) - 1 - j ∧ o = .slice ao (n + j) cv ∧ wr.ownsRow B 5 1 o (n + j) (bvals (rowL d n ++ putTo u s j)) ∧ Below B w wr) (fun _ i _ => (intOf i + 1).toNat)
    case atStart => exact ⟨0, a1, c1, _, by omega, rfl, by omega, rfl, by simpa [putTo] using HO.out.1, HO.out.2⟩
    case round =>
      obtain ⟨j, ao, cv, i', hj, rfl, hi', rfl, hown, hbl⟩ := hrel
      clear HO
      by_cases hlt : j < s
      · obtain ⟨k, hk⟩ : ∃ k : Nat, k = s - 1 - j := ⟨_, rfl⟩
        have hik : i' = (k : Int) := by omega
        subst hik
        have hk8 : 8 * k < 64 := by omega
        have hv : (u : Int) / 2 ^ (8 * k) % 256 = ((u / 2 ^ (8 * k) % 256 : Nat) : Int) := by simp
        have HP : Hid (bvals (rowL d n ++ putTo u s (j + 1)) = bvals (rowL d n ++ putTo u s j) ++ [.int .u8 ((u / 2 ^ (8 * k) % 256 : Nat) : Int)]) := by
          show _ = _
          rw [putTo_succ, ← hk, ← List.append_assoc, bvals_append]
          rfl
        have hx256 : u / 2 ^ (8 * k) % 256 < 256 := Nat.mod_lt _ (by decide)
        have HA : Hid (Below B w wr ∧ B ≤ wr.heap.size ∧ wr.ownsRow B 5 1 (.slice ao (n + j) cv) (n + j) (bvals (rowL d n ++ putTo u s j))) := ⟨hbl, by rw [← HBe.out]; exact hbl.size, hown⟩
        have HK : Hid (k = s - 1 - j) := hk
        clear hown hbl hi' hk
        generalize u / 2 ^ (8 * k) % 256 = X at *
        have hnew : Hid (∀ j u, [Value.int .u8 (X : Int)][j]? = some u → (wr.alloc (.cells #[.int .u8 (X : Int)] 5)).cell? ((⟨wr.heap.size, 0, none⟩ : Addr).add j) = some u) := cell_one_new wr (.int .u8 (X : Int)) 5
        go_wp2_with (at_builtin; refine wpList_append_own _ rfl _ _ 28 rfl B 5 i0 (.int .u8 0) 1 1 Try.underlying28 hi hz0 hz1 hz2 rfl (by decide) _ (n + j) (bvals (rowL d n ++ putTo u s j)) rfl (HA.out.2.2.alloc _) ⟨wr.heap.size, 0, none⟩ 1 1 [.int .u8 (X : Int)] rfl rfl hnew.out (fun x hx => by simp at hx; subst hx; rfl) (by unfold maxLen; omega) (by omega) (by have := HA.out.2.1; simp; omega) ?_; intro v' w3 hown' hgrow3 hnil3)
        have hg3 : (wr.alloc (.cells #[.int .u8 (X : Int)] 5)).grownBy w3 (Value.slice ao (n + j) cv).ownBlock := hgrow3
        have hb3 : Below B w w3 := below_grownBy (HA.out.1.alloc HA.out.2.1 _) hg3 (by rw [HBe.out]; exact Nat.le_refl _) (fun q hq => (HA.out.2.2.lt q hq).1)
        rw [← HP.out] at hown'
        obtain ⟨a3, c3, rfl⟩ := own_form hown'
        have HB3 : Hid (Below B w w3 ∧ w3.ownsRow B 5 1 (.slice a3 (n + j + 1) c3) (n + j + 1) (bvals (rowL d n ++ putTo u s (j + 1)))) := ⟨hb3, hown'⟩
        clear hb3 hown' hg3 hgrow3 hnil3
        exact ⟨⟨j + 1, a3, c3, _, by omega, rfl, by have := HK.out; omega, rfl, HB3.out.2, HB3.out.1⟩, by simp [intOf]⟩
      · obtain rfl : j = s := by omega
        have hneg : i' = -1 := by omega
        subst hneg
        have HW : Hid (wr.ownsRow B 5 1 (.slice ao (n + j) cv) (n + j) (bvals (rowL d n ++ putTo u j j)) ∧ Below B w wr) := ⟨hown, hbl⟩
        clear hown hbl hi'
        go_wp2
        go_ret
        exact ⟨_, rfl, by rw [HBe.out]; exact HW.out.1, by rw [HBe.out]; exact HW.out.2⟩
end Go.Proofs.Ytjnnecoikcmaeaa

namespace Go.Proofs.Ytjnnecoikcmaeaa
set_option linter.unusedVariables false
set_option linter.unusedSimpArgs false
open Go.RowKit

set_option maxRecDepth 100000 in
set_option maxHeartbeats 400000 in
theorem refSize_any (m : Int) (w : World) (h0 : -9223372036854775808 ≤ m) (h1 : m ≤ 9223372036854775807) :
    Calls Try.prog 58 #[.int .i64 m] w fun e w' => e = .returned (.int .u64 (m.natAbs : Int)) ∧ w' = w := by
  by_cases h : m < 0
  · go_enter Try.func58, Try.ntmps58
    go_wp2
    go_ret
    exact ⟨ret_int (by omega), rfl⟩
  · have h' : 0 ≤ m := by omega
    go_enter Try.func58, Try.ntmps58
    go_wp2
    go_ret
    exact ⟨ret_int (by omega), rfl⟩
set_option maxRecDepth 100000 in
set_option maxHeartbeats 1000000 in
theorem refPutVar_lo (a : Option Addr) (n cap : Nat) (d : Nat → Nat) (m : Int) (hm : m < 0) (w : World) (hn : n ≤ 140737488351232) (hm0 : -9223372036854775808 ≤ m) (hm1 : m ≤ 9223372036854775807) (hs : Src w a n d) (ha : a = none → n = 0 ∧ cap = 0) :
    Calls Try.prog 53 #[.slice a n cap, .int .i64 m] w fun e w' => ∃ v, e = .returned v ∧ w'.ownsRow w.heap.size 5 1 v (n + (varL (foldN m)).length) (bvals (rowL d n ++ varL (foldN m))) ∧ Below w.heap.size w w' := by
  obtain ⟨i0, hi, hz0, hz1, hz2⟩ := info_parts info5
  have hU := foldN_lt hm0 hm1
  have hUe : (foldN m : Int) = 2 * (-(m + 1)) + 1 := by unfold foldN; split <;> omega
  have HS : Hid (Src w a n d ∧ (a = none → n = 0 ∧ cap = 0)) := ⟨hs, ha⟩
  clear hs ha
  have hsz := fun w' => refSize_any m w' hm0 hm1
  generalize hA : m.natAbs = A at *
  have hA2 : (A : Int) = -m := by omega
  generalize foldN m = U at *
  have HUe : Hid ((U : Int) = 2 * (-(m + 1)) + 1) := hUe
  clear hUe hA
  have hl10 := varL_length10 hU
  go_enter Try.func53, Try.ntmps53
  go_wp2_with (go_at_call 58; fail)
  refine (hsz _).mono ?_
  rintro e w ⟨rfl, rfl⟩
  go_upto_region 6 with fail
  go_cut [5, 6] (fun v2 v wx => v2 = .int .u64 (U : Int) ∧ ∃ a1 c1, v = .slice a1 n c1 ∧ wx.ownsRow w.heap.size 5 1 v n (bvals (rowL d n)) ∧ Below w.heap.size w wx)
  case first =>
    by_cases hn0 : n = 0
    · subst hn0
      obtain h | ⟨ad, h⟩ : a = none ∨ ∃ ad, a = some ad := by
        cases a with
        | none => exact .inl rfl
        | some x => exact .inr ⟨x, rfl⟩
      · subst h
        have hc0 := (HS.out.2 rfl).2
        subst hc0
        go_wp2_with fail
        go_meet
        exact ⟨vint (by have := HUe.out; omega), none, 0, rfl, World.ownsRow_nil _ _ _ _, Below.refl _ _⟩
      · subst h
        go_wp2_with fail
        go_meet
        exact ⟨vint (by have := HUe.out; omega), none, 0, rfl, World.ownsRow_nil _ _ _ _, Below.refl _ _⟩
    · obtain ⟨b0, off0, rfl⟩ : ∃ b0 off0, a = some ⟨b0, off0, none⟩ := by
        rcases HS.out.1 with h0 | ⟨b, off, h, _⟩
        · exact absurd h0 hn0
        · exact ⟨b, off, h⟩
      have HCL : Hid (∀ j u, (bvals (rowL d n))[j]? = some u → w.cell? ((⟨b0, off0, none⟩ : Addr).add j) = some u) := src_cells HS.out.1 _ rfl
      go_wp2_with (at_builtin; refine wpList_append_own _ rfl _ _ 28 rfl w.heap.size 5 i0 (.int .u8 0) 1 1 Try.underlying28 hi hz0 hz1 hz2 rfl (by decide) (.slice none 0 0) 0 [] rfl (World.ownsRow_nil _ _ _ _) ⟨b0, off0, none⟩ n cap (bvals (rowL d n)) rfl (by rw [bvals_length, rowL_length, Nat.mul_one]) HCL.out (bvals_one _) (by unfold maxLen; omega) (by omega) (Nat.le_refl _) ?_; intro v1 w1 hown1 hgrow1 hnil1)
      have hb1 : Below w.heap.size w w1 := below_grownBy (Below.refl _ w) hgrow1 (Nat.le_refl _) (fun k hk => by cases hk)
      rw [Nat.zero_add, List.nil_append] at hown1
      obtain ⟨a1, c1, rfl⟩ := own_form hown1
      have HX : Hid (w1.ownsRow w.heap.size 5 1 (.slice a1 n c1) n (bvals (rowL d n)) ∧ Below w.heap.size w w1) := ⟨hown1, hb1⟩
      clear hown1 hb1 hgrow1 hnil1
      go_wp2_with fail
      go_meet
      exact ⟨vint (by have := HUe.out; omega), a1, c1, rfl, HX.out⟩
  case rest =>
    obtain ⟨rfl, a1, c1, rfl, ho1, hb1⟩ := hcut
    have HO : Hid (wc.ownsRow w.heap.size 5 1 (.slice a1 n c1) n (bvals (rowL d n)) ∧ Below w.heap.size w wc) := ⟨ho1, hb1⟩
    clear ho1 hb1 HS hsz
    generalize hBe : w.heap.size = B at *
    have HBe : Hid (w.heap.size = B) := hBe
    clear hBe
    go_wp2
    go_loopw [5, 6] (fun x o wr => ∃ (u : Nat) (pre : List Nat) (ao : Option Addr) (cv : Nat), u < 18446744073709551616 ∧ x = .int .u64 (u : Int) ∧ pre ++ varL u = varL U ∧ o = .slice ao (n + pre.length) cv ∧ wr.ownsRow B 5 1 o (n + pre.length) (bvals (rowL d n ++ pre)) ∧ Below B w wr) (fun x _ _ => (intOf x).toNat)
    case atStart => exact ⟨U, [], a1, c1, hU, rfl, rfl, rfl, by simpa using HO.out.1, HO.out.2⟩
    case round =>
      obtain ⟨u, pre, ao, cv, hu, rfl, hpre, rfl, hown, hbl⟩ := hrel
      clear HO
      have hlen : pre.length + (varL u).length = (varL U).length := by rw [← hpre, List.length_append]
      have hpl : pre.length ≤ 10 := by omega
      have HA : Hid (Below B w wr ∧ B ≤ wr.heap.size ∧ wr.ownsRow B 5 1 (.slice ao (n + pre.length) cv) (n + pre.length) (bvals (rowL d n ++ pre))) := ⟨hbl, by rw [← HBe.out]; exact hbl.size, hown⟩
      clear hown hbl
      by_cases hlt : u < 128
      · have hlt' : (u : Int) < 128 := by omega
        have hm256 : (u : Int) % 256 = (u : Int) := by omega
        rw [varL_small hlt] at hpre hlen
        have HP : Hid (pre ++ [u] = varL U) := hpre
        clear hpre
        generalize hq : pre.length = q at *
        have hnew : Hid (∀ j y, [Value.int .u8 (u : Int)][j]? = some y → (wr.alloc (.cells #[.int .u8 (u : Int)] 5)).cell? ((⟨wr.heap.size, 0, none⟩ : Addr).add j) = some y) := cell_one_new wr (.int .u8 (u : Int)) 5
        go_wp2_with (at_builtin; refine wpList_append_own _ rfl _ _ 28 rfl B 5 i0 (.int .u8 0) 1 1 Try.underlying28 hi hz0 hz1 hz2 rfl (by decide) _ (n + q) (bvals (rowL d n ++ pre)) rfl (HA.out.2.2.alloc _) ⟨wr.heap.size, 0, none⟩ 1 1 [.int .u8 (u : Int)] rfl rfl hnew.out (fun x hx => by simp at hx; subst hx; rfl) (by unfold maxLen; omega) (by omega) (by have := HA.out.2.1; simp; omega) ?_; intro v' w3 hown' hgrow3 hnil3)
        have hg3 : (wr.alloc (.cells #[.int .u8 (u : Int)] 5)).grownBy w3 (Value.slice ao (n + q) cv).ownBlock := hgrow3
        have hb3 : Below B w w3 := below_grownBy (HA.out.1.alloc HA.out.2.1 _) hg3 (by rw [HBe.out]; exact Nat.le_refl _) (fun k hk => (HA.out.2.2.lt k hk).1)
        have e1 : bvals (rowL d n ++ pre) ++ [.int .u8 (u : Int)] = bvals (rowL d n ++ varL U) := by rw [← HP.out, ← List.append_assoc, bvals_append (rowL d n ++ pre)]; rfl
        rw [e1, show n + q + 1 = n + (varL U).length by simp at hlen; omega] at hown'
        have HB3 : Hid (Below B w w3 ∧ w3.ownsRow B 5 1 v' (n + (varL U).length) (bvals (rowL d n ++ varL U))) := ⟨hb3, hown'⟩
        clear hb3 hown' hg3 hgrow3 hnil3
        go_ret
        exact ⟨_, rfl, by rw [HBe.out]; exact HB3.out.2, by rw [HBe.out]; exact HB3.out.1⟩
      · have hlt' : (128 : Int) ≤ (u : Int) := by omega
        have hX : (u : Int) % 128 + 128 = ((u % 128 + 128 : Nat) : Int) := by omega
        rw [varL_big hlt] at hpre
        have HP : Hid ((pre ++ [u % 128 + 128]) ++ varL (u / 128) = varL U) := by show _ = _; rw [List.append_assoc]; exact hpre
        have HX : Hid (bvals (rowL d n ++ (pre ++ [u % 128 + 128])) = bvals (rowL d n ++ pre) ++ [.int .u8 ((u % 128 + 128 : Nat) : Int)]) := by show _ = _; rw [← List.append_assoc, bvals_append (rowL d n ++ pre)]; rfl
        have HL : Hid ((pre ++ [u % 128 + 128]).length = pre.length + 1) := by show _ = _; simp
        clear hpre hlen
        generalize pre ++ [u % 128 + 128] = pre2 at *
        generalize u % 128 + 128 = X at *
        generalize hq : pre.length = q at *
        have hnew : Hid (∀ j y, [Value.int .u8 (X : Int)][j]? = some y → (wr.alloc (.cells #[.int .u8 (X : Int)] 5)).cell? ((⟨wr.heap.size, 0, none⟩ : Addr).add j) = some y) := cell_one_new wr (.int .u8 (X : Int)) 5
        go_wp2_with (at_builtin; refine wpList_append_own _ rfl _ _ 28 rfl B 5 i0 (.int .u8 0) 1 1 Try.underlying28 hi hz0 hz1 hz2 rfl (by decide) _ (n + q) (bvals (rowL d n ++ pre)) rfl (HA.out.2.2.alloc _) ⟨wr.heap.size, 0, none⟩ 1 1 [.int .u8 (X : Int)] rfl rfl hnew.out (fun x hx => by simp at hx; subst hx; rfl) (by unfold maxLen; omega) (by omega) (by have := HA.out.2.1; simp; omega) ?_; intro v' w3 hown' hgrow3 hnil3)
        have hg3 : (wr.alloc (.cells #[.int .u8 (X : Int)] 5)).grownBy w3 (Value.slice ao (n + q) cv).ownBlock := hgrow3
        have hb3 : Below B w w3 := below_grownBy (HA.out.1.alloc HA.out.2.1 _) hg3 (by rw [HBe.out]; exact Nat.le_refl _) (fun k hk => (HA.out.2.2.lt k hk).1)
        rw [← HX.out, show n + q + 1 = n + pre2.length by rw [HL.out]; omega] at hown'
        obtain ⟨a3, c3, rfl⟩ := own_form hown'
        have HB3 : Hid (Below B w w3 ∧ w3.ownsRow B 5 1 (.slice a3 (n + pre2.length) c3) (n + pre2.length) (bvals (rowL d n ++ pre2))) := ⟨hb3, hown'⟩
        clear hb3 hown' hg3 hgrow3 hnil3
        exact ⟨⟨u / 128, pre2, a3, c3, by omega, by go_num, HP.out, rfl, HB3.out.2, HB3.out.1⟩, by simp [intOf]; omega⟩
set_option maxRecDepth 100000 in
set_option maxHeartbeats 1000000 in
theorem refPutVar_hi (a : Option Addr) (n cap : Nat) (d : Nat → Nat) (m : Int) (hm : 0 ≤ m) (w : World) (hn : n ≤ 140737488351232) (hm0 : -9223372036854775808 ≤ m) (hm1 : m ≤ 9223372036854775807) (hs : Src w a n d) (ha : a = none → n = 0 ∧ cap = 0) :
    Calls Try.prog 53 #[.slice a n cap, .int .i64 m] w fun e w' => ∃ v, e = .returned v ∧ w'.ownsRow w.heap.size 5 1 v (n + (varL (foldN m)).length) (bvals (rowL d n ++ varL (foldN m))) ∧ Below w.heap.size w w' := by
  obtain ⟨i0, hi, hz0, hz1, hz2⟩ := info_parts info5
  have hU := foldN_lt hm0 hm1
  have hUe : (foldN m : Int) = 2 * m := by unfold foldN; split <;> omega
  have HS : Hid (Src w a n d ∧ (a = none → n = 0 ∧ cap = 0)) := ⟨hs, ha⟩
  clear hs ha
  have hsz := fun w' => refSize_any m w' hm0 hm1
  generalize hA : m.natAbs = A at *
  have hA2 : (A : Int) = m := by omega
  generalize foldN m = U at *
  have HUe : Hid ((U : Int) = 2 * m) := hUe
  clear hUe hA
  have hl10 := varL_length10 hU
  go_enter Try.func53, Try.ntmps53
  go_wp2_with (go_at_call 58; fail)
  refine (hsz _).mono ?_
  rintro e w ⟨rfl, rfl⟩
  go_upto_region 6 with fail
  go_cut [5, 6] (fun v2 v wx => v2 = .int .u64 (U : Int) ∧ ∃ a1 c1, v = .slice a1 n c1 ∧ wx.ownsRow w.heap.size 5 1 v n (bvals (rowL d n)) ∧ Below w.heap.size w wx)
  case first =>
    by_cases hn0 : n = 0
    · subst hn0
      obtain h | ⟨ad, h⟩ : a = none ∨ ∃ ad, a = some ad := by
        cases a with
        | none => exact .inl rfl
        | some x => exact .inr ⟨x, rfl⟩
      · subst h
        have hc0 := (HS.out.2 rfl).2
        subst hc0
        go_wp2_with fail
        go_meet
        exact ⟨vint (by have := HUe.out; omega), none, 0, rfl, World.ownsRow_nil _ _ _ _, Below.refl _ _⟩
      · subst h
        go_wp2_with fail
        go_meet
        exact ⟨vint (by have := HUe.out; omega), none, 0, rfl, World.ownsRow_nil _ _ _ _, Below.refl _ _⟩
    · obtain ⟨b0, off0, rfl⟩ : ∃ b0 off0, a = some ⟨b0, off0, none⟩ := by
        rcases HS.out.1 with h0 | ⟨b, off, h, _⟩
        · exact absurd h0 hn0
        · exact ⟨b, off, h⟩
      have HCL : Hid (∀ j u, (bvals (rowL d n))[j]? = some u → w.cell? ((⟨b0, off0, none⟩ : Addr).add j) = some u) := src_cells HS.out.1 _ rfl
      go_wp2_with (at_builtin; refine wpList_append_own _ rfl _ _ 28 rfl w.heap.size 5 i0 (.int .u8 0) 1 1 Try.underlying28 hi hz0 hz1 hz2 rfl (by decide) (.slice none 0 0) 0 [] rfl (World.ownsRow_nil _ _ _ _) ⟨b0, off0, none⟩ n cap (bvals (rowL d n)) rfl (by rw [bvals_length, rowL_length, Nat.mul_one]) HCL.out (bvals_one _) (by unfold maxLen; omega) (by omega) (Nat.le_refl _) ?_; intro v1 w1 hown1 hgrow1 hnil1)
      have hb1 : Below w.heap.size w w1 := below_grownBy (Below.refl _ w) hgrow1 (Nat.le_refl _) (fun k hk => by cases hk)
      rw [Nat.zero_add, List.nil_append] at hown1
      obtain ⟨a1, c1, rfl⟩ := own_form hown1
      have HX : Hid (w1.ownsRow w.heap.size 5 1 (.slice a1 n c1) n (bvals (rowL d n)) ∧ Below w.heap.size w w1) := ⟨hown1, hb1⟩
      clear hown1 hb1 hgrow1 hnil1
      go_wp2_with fail
      go_meet
      exact ⟨vint (by have := HUe.out; omega), a1, c1, rfl, HX.out⟩
  case rest =>
    obtain ⟨rfl, a1, c1, rfl, ho1, hb1⟩ := hcut
    have HO : Hid (wc.ownsRow w.heap.size 5 1 (.slice a1 n c1) n (bvals (rowL d n)) ∧ Below w.heap.size w wc) := ⟨ho1, hb1⟩
    clear ho1 hb1 HS hsz
    generalize hBe : w.heap.size = B at *
    have HBe : Hid (w.heap.size = B) := hBe
    clear hBe
    go_wp2
    go_loopw [5, 6] (fun x o wr => ∃ (u : Nat) (pre : List Nat) (ao : Option Addr) (cv : Nat), u < 18446744073709551616 ∧ x = .int .u64 (u : Int) ∧ pre ++ varL u = varL U ∧ o = .slice ao (n + pre.length) cv ∧ wr.ownsRow B 5 1 o (n + pre.length) (bvals (rowL d n ++ pre)) ∧ Below B w wr) (fun x _ _ => (intOf x).toNat)
    case atStart => exact ⟨U, [], a1, c1, hU, rfl, rfl, rfl, by simpa using HO.out.1, HO.out.2⟩
    case round =>
      obtain ⟨u, pre, ao, cv, hu, rfl, hpre, rfl, hown, hbl⟩ := hrel
      clear HO
      have hlen : pre.length + (varL u).length = (varL U).length := by rw [← hpre, List.length_append]
      have hpl : pre.length ≤ 10 := by omega
      have HA : Hid (Below B w wr ∧ B ≤ wr.heap.size ∧ wr.ownsRow B 5 1 (.slice ao (n + pre.length) cv) (n + pre.length) (bvals (rowL d n ++ pre))) := ⟨hbl, by rw [← HBe.out]; exact hbl.size, hown⟩
      clear hown hbl
      by_cases hlt : u < 128
      · have hlt' : (u : Int) < 128 := by omega
        have hm256 : (u : Int) % 256 = (u : Int) := by omega
        rw [varL_small hlt] at hpre hlen
        have HP : Hid (pre ++ [u] = varL U) := hpre
        clear hpre
        generalize hq : pre.length = q at *
        have hnew : Hid (∀ j y, [Value.int .u8 (u : Int)][j]? = some y → (wr.alloc (.cells #[.int .u8 (u : Int)] 5)).cell? ((⟨wr.heap.size, 0, none⟩ : Addr).add j) = some y) := cell_one_new wr (.int .u8 (u : Int)) 5
        go_wp2_with (at_builtin; refine wpList_append_own _ rfl _ _ 28 rfl B 5 i0 (.int .u8 0) 1 1 Try.underlying28 hi hz0 hz1 hz2 rfl (by decide) _ (n + q) (bvals (rowL d n ++ pre)) rfl (HA.out.2.2.alloc _) ⟨wr.heap.size, 0, none⟩ 1 1 [.int .u8 (u : Int)] rfl rfl hnew.out (fun x hx => by simp at hx; subst hx; rfl) (by unfold maxLen; omega) (by omega) (by have := HA.out.2.1; simp; omega) ?_; intro v' w3 hown' hgrow3 hnil3)
        have hg3 : (wr.alloc (.cells #[.int .u8 (u : Int)] 5)).grownBy w3 (Value.slice ao (n + q) cv).ownBlock := hgrow3
        have hb3 : Below B w w3 := below_grownBy (HA.out.1.alloc HA.out.2.1 _) hg3 (by rw [HBe.out]; exact Nat.le_refl _) (fun k hk => (HA.out.2.2.lt k hk).1)
        have e1 : bvals (rowL d n ++ pre) ++ [.int .u8 (u : Int)] = bvals (rowL d n ++ varL U) := by rw [← HP.out, ← List.append_assoc, bvals_append (rowL d n ++ pre)]; rfl
        rw [e1, show n + q + 1 = n + (varL U).length by simp at hlen; omega] at hown'
        have HB3 : Hid (Below B w w3 ∧ w3.ownsRow B 5 1 v' (n + (varL U).length) (bvals (rowL d n ++ varL U))) := ⟨hb3, hown'⟩
        clear hb3 hown' hg3 hgrow3 hnil3
        go_ret
        exact ⟨_, rfl, by rw [HBe.out]; exact HB3.out.2, by rw [HBe.out]; exact HB3.out.1⟩
      · have hlt' : (128 : Int) ≤ (u : Int) := by omega
        have hX : (u : Int) % 128 + 128 = ((u % 128 + 128 : Nat) : Int) := by omega
        rw [varL_big hlt] at hpre
        have HP : Hid ((pre ++ [u % 128 + 128]) ++ varL (u / 128) = varL U) := by show _ = _; rw [List.append_assoc]; exact hpre
        have HX : Hid (bvals (rowL d n ++ (pre ++ [u % 128 + 128])) = bvals (rowL d n ++ pre) ++ [.int .u8 ((u % 128 + 128 : Nat) : Int)]) := by show _ = _; rw [← List.append_assoc, bvals_append (rowL d n ++ pre)]; rfl
        have HL : Hid ((pre ++ [u % 128 + 128]).length = pre.length + 1) := by show _ = _; simp
        clear hpre hlen
        generalize pre ++ [u % 128 + 128] = pre2 at *
        generalize u % 128 + 128 = X at *
        generalize hq : pre.length = q at *
        have hnew : Hid (∀ j y, [Value.int .u8 (X : Int)][j]? = some y → (wr.alloc (.cells #[.int .u8 (X : Int)] 5)).cell? ((⟨wr.heap.size, 0, none⟩ : Addr).add j) = some y) := cell_one_new wr (.int .u8 (X : Int)) 5
        go_wp2_with (at_builtin; refine wpList_append_own _ rfl _ _ 28 rfl B 5 i0 (.int .u8 0) 1 1 Try.underlying28 hi hz0 hz1 hz2 rfl (by decide) _ (n + q) (bvals (rowL d n ++ pre)) rfl (HA.out.2.2.alloc _) ⟨wr.heap.size, 0, none⟩ 1 1 [.int .u8 (X : Int)] rfl rfl hnew.out (fun x hx => by simp at hx; subst hx; rfl) (by unfold maxLen; omega) (by omega) (by have := HA.out.2.1; simp; omega) ?_; intro v' w3 hown' hgrow3 hnil3)
        have hg3 : (wr.alloc (.cells #[.int .u8 (X : Int)] 5)).grownBy w3 (Value.slice ao (n + q) cv).ownBlock := hgrow3
        have hb3 : Below B w w3 := below_grownBy (HA.out.1.alloc HA.out.2.1 _) hg3 (by rw [HBe.out]; exact Nat.le_refl _) (fun k hk => (HA.out.2.2.lt k hk).1)
        rw [← HX.out, show n + q + 1 = n + pre2.length by rw [HL.out]; omega] at hown'
        obtain ⟨a3, c3, rfl⟩ := own_form hown'
        have HB3 : Hid (Below B w w3 ∧ w3.ownsRow B 5 1 (.slice a3 (n + pre2.length) c3) (n + pre2.length) (bvals (rowL d n ++ pre2))) := ⟨hb3, hown'⟩
        clear hb3 hown' hg3 hgrow3 hnil3
        exact ⟨⟨u / 128, pre2, a3, c3, by omega, by go_num, HP.out, rfl, HB3.out.2, HB3.out.1⟩, by simp [intOf]; omega⟩
end Go.Proofs.Ytjnnecoikcmaeaa

namespace Go.Proofs.Ytjnnecoikcmaeaa
set_option linter.unusedVariables false
open Go.RowKit

theorem crc_step {t b : Nat} (k : Nat) : crcBit (t ^^^ b / 2 ^ k) = (if t % 2 = b / 2 ^ k % 2 then t / 2 else t / 2 ^^^ 3988292384) ^^^ b / 2 ^ (k + 1) := by
  have hm := xor_mod2 t (b / 2 ^ k)
  have hh := xor_half t (b / 2 ^ k)
  have hd : b / 2 ^ k / 2 = b / 2 ^ (k + 1) := by rw [Nat.div_div_eq_div_mul, Nat.pow_succ]
  rw [hd] at hh
  rcases Nat.mod_two_eq_zero_or_one t with h1 | h1 <;> rcases Nat.mod_two_eq_zero_or_one (b / 2 ^ k) with h2 | h2 <;> rw [h1, h2] at hm
  · rw [crcBit_even (by rw [hm]; decide), if_pos (by rw [h1, h2]), hh]
  · rw [crcBit_odd (by rw [hm]; rfl), if_neg (by rw [h1, h2]; decide), hh, Nat.xor_assoc, Nat.xor_comm (b / _), ← Nat.xor_assoc]
  · rw [crcBit_odd (by rw [hm]; rfl), if_neg (by rw [h1, h2]; decide), hh, Nat.xor_assoc, Nat.xor_comm (b / _), ← Nat.xor_assoc]
  · rw [crcBit_even (by rw [hm]; decide), if_pos (by rw [h1, h2]), hh]
/-- The reference's state behind m bits of a byte. -/
def refBits (s b : Nat) : Nat → Nat
  | 0 => s
  | m + 1 => if refBits s b m % 2 = b / 2 ^ m % 2 then refBits s b m / 2 else refBits s b m / 2 ^^^ 3988292384
theorem refBits_eq (s b m : Nat) : crcBits m (s ^^^ b) = refBits s b m ^^^ b / 2 ^ m := by
  induction m with
  | zero => show s ^^^ b = s ^^^ b / 1; rw [Nat.div_one]
  | succ m ih => show crcBit (crcBits m (s ^^^ b)) = _; rw [ih, crc_step]; rfl
theorem refBits_8 (s b : Nat) (hb : b < 256) : refBits s b 8 = crcBits 8 (s ^^^ b) := by
  rw [refBits_eq, Nat.div_eq_of_lt (by omega : b < 2 ^ 8), Nat.xor_zero]
theorem refBits_lt {s : Nat} (b : Nat) (hs : s < 4294967296) : ∀ m, refBits s b m < 4294967296
  | 0 => hs
  | m + 1 => by
    have h := refBits_lt b hs m
    unfold refBits
    split
    · omega
    · exact xor_lt32 (by omega) (by decide)

theorem bit_cmp (b m z : Nat) : (((b : Int) / 2 ^ m).tmod 2 != (z : Int) % 2) = !decide (z % 2 = b / 2 ^ m % 2) := by
  have h : ((b : Int) / 2 ^ m).tmod 2 = ((b / 2 ^ m % 2 : Nat) : Int) := by
    rw [show (b : Int) / 2 ^ m = ((b / 2 ^ m : Nat) : Int) by simp]; rfl
  rw [h, show (z : Int) % 2 = ((z % 2 : Nat) : Int) by simp]
  by_cases e : z % 2 = b / 2 ^ m % 2
  · rw [e]; simp
  · rw [decide_eq_false e]
    show (_ != _) = true
    rw [bne_iff_ne]
    omega

set_option maxRecDepth 100000 in
set_option maxHeartbeats 400000 in
theorem refCrc_any (a : Option Addr) (n cap : Nat) (d : Nat → Nat) (w : World) (hn : n ≤ 140737488351232) (hs : Src w a n d) :
    Calls Try.prog 55 #[.slice a n cap] w fun e w' => e = .returned (.int .u32 (crcEnd (crcRow d n) : Int)) ∧ w' = w := by
  have HS : Hid (Src w a n d) := hs
  clear hs
  go_enter Try.func55, Try.ntmps55
  go_wp2
  go_loop [3, 4, 5, 6, 7] (fun s i _ _ _ => ∃ k : Nat, k ≤ n ∧ i = .int .i64 k ∧ s = .int .u32 (crcRow d k : Int)) (fun _ i _ _ _ => n - (intOf i).toNat)
  case atStart => exact ⟨0, Nat.zero_le _, rfl, rfl⟩
  case round =>
    obtain ⟨k, hk, rfl, rfl⟩ := hrel
    by_cases hlt : k < n
    · rcases HS.out with h0 | ⟨b, off, ea, hr⟩
      · omega
      · obtain ⟨hc, hd⟩ := hr k hlt
        subst ea
        have hlt' : (k : Int) < (n : Int) := by omega
        have hx := crcRow_lt d k (fun j hj => (hr j (by omega)).2)
        have HK : Hid (crcRow d (k + 1) = refBits (crcRow d k) (d k) 8) := (refBits_8 _ _ hd).symm
        clear hr
        go_wp2
        generalize crcRow d k = s0 at *
        go_loop [3, 5, 6, 7] (fun s i _ _ => ∃ m : Nat, m ≤ 8 ∧ i = .int .i64 m ∧ s = .int .u32 (refBits s0 (d k) m : Int)) (fun _ i _ _ => 8 - (intOf i).toNat)
        case atStart => exact ⟨0, Nat.zero_le _, rfl, rfl⟩
        case round =>
          obtain ⟨m, hm, rfl, rfl⟩ := hrel
          by_cases hm8 : m < 8
          · have hm8' : (m : Int) < 8 := by omega
            have hz := refBits_lt (d k) hx m
            have HZ : Hid (refBits s0 (d k) (m + 1) = if refBits s0 (d k) m % 2 = d k / 2 ^ m % 2 then refBits s0 (d k) m / 2 else refBits s0 (d k) m / 2 ^^^ 3988292384) := rfl
            generalize refBits s0 (d k) m = z at *
            have hx2 : bits .xor .u32 ((z : Int) / 2) 3988292384 = ((z / 2 ^^^ 3988292384 : Nat) : Int) := by
              have := u32_xor_nat (z / 2) 3988292384 (by omega) (by decide)
              rw [← this]; rfl
            have hcmp := bit_cmp (d k) m z
            by_cases hq : z % 2 = d k / 2 ^ m % 2
            · rw [decide_eq_true hq, Bool.not_true] at hcmp
              rw [if_pos hq] at HZ
              clear hq
              go_wp2
              go_round
              case rel => exact ⟨m + 1, by omega, by go_num, by rw [HZ.out]; rfl⟩
              case measure => simp [intOf]; omega
            · rw [decide_eq_false hq, Bool.not_false] at hcmp
              rw [if_neg hq] at HZ
              clear hq
              go_wp2
              go_round
              case rel => exact ⟨m + 1, by omega, by go_num, by rw [HZ.out]⟩
              case measure => simp [intOf]; omega
          · obtain rfl : m = 8 := by omega
            go_wp2
            go_round
            case rel => exact ⟨k + 1, by omega, by go_num, by rw [HK.out]⟩
            case measure => simp [intOf]; omega
    · obtain rfl : k = n := by omega
      have hx : Hid (crcRow d k < 4294967296) := crcRow_lt d k (fun j hj => HS.out.lt j hj)
      have hE : bits .xor .u32 (crcRow d k : Int) 4294967295 = (crcEnd (crcRow d k) : Int) := by
        rw [show crcEnd (crcRow d k) = crcRow d k ^^^ 4294967295 from Nat.xor_comm _ _]
        exact u32_xor_nat _ 4294967295 hx.out (by decide)
      go_wp2
      go_ret
      exact ⟨rfl, rfl⟩

/-- Lists of bytes that came in. -/
def Src2 (w : World) (a : Option Addr) (n : Nat) (len : Nat → Nat) (d : Nat → Nat → Nat) : Prop := n = 0 ∨ ∃ b off, a = some ⟨b, off, none⟩ ∧ ∀ i, i < n → ∃ (ai : Option Addr) (c : Nat), w.cell? ⟨b, off + i, none⟩ = some (.slice ai (len i) c) ∧ len i ≤ 140737488351232 ∧ Src w ai (len i) (d i)

end Go.Proofs.Ytjnnecoikcmaeaa
