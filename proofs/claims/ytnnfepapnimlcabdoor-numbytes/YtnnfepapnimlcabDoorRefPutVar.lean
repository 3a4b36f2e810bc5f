/-
  The reference's PutVar.
-/
import Derived.Test.YtnnfepapnimlcabDoorBytes3
import Derived.Deep.DeepCutAuto
namespace Go.Proofs.YtnnfepapnimlcabDoor
set_option linter.unusedVariables false
set_option linter.unusedSimpArgs false
open Go.RowKit

set_option maxRecDepth 100000 in
set_option maxHeartbeats 400000 in
theorem refSize_any (m : Int) (w : World) (h0 : -9223372036854775808 ≤ m) (h1 : m ≤ 9223372036854775807) :
    Calls Tryd.prog 38 #[.int .i64 m] w fun e w' => e = .returned (.int .u64 (m.natAbs : Int)) ∧ w' = w := by
  by_cases h : m < 0
  · go_enter Tryd.func38, Tryd.ntmps38
    go_wp2
    go_ret
    exact ⟨ret_int (by omega), rfl⟩
  · have h' : 0 ≤ m := by omega
    go_enter Tryd.func38, Tryd.ntmps38
    go_wp2
    go_ret
    exact ⟨ret_int (by omega), rfl⟩
set_option maxRecDepth 100000 in
set_option maxHeartbeats 1000000 in
theorem refPutVar_lo (a : Option Addr) (n cap : Nat) (d : Nat → Nat) (m : Int) (hm : m < 0) (w : World) (hn : n ≤ 140737488351232) (hm0 : -9223372036854775808 ≤ m) (hm1 : m ≤ 9223372036854775807) (hs : Src w a n d) (ha : a = none → n = 0 ∧ cap = 0) :
    Calls Tryd.prog 26 #[.slice a n cap, .int .i64 m] w fun e w' => ∃ v, e = .returned v ∧ w'.ownsRow w.heap.size 5 1 v (n + (varL (foldN m)).length) (bvals (rowL d n ++ varL (foldN m))) ∧ Below w.heap.size w w' := by
  obtain ⟨i0, hi, hz0, hz1, hz2⟩ := info_parts info5
  have hU := foldN_lt hm0 hm1
  have hUe : (foldN m : Int) = 2 * (-(m + 1)) + 1 := by unfold foldN; split <;> omega
  have HS : Hid (Src w a n d ∧ (a = none → n = 0 ∧ cap = 0)) := ⟨hs, ha⟩
  clear hs ha
  have hsz := fun w' => refSize_any m w' hm0 hm1
  generalize hA : m.natAbs = A at *
  have hA2 : (A : Int) = -m := by omega
  generalize foldN m = U at *
  have HUe : Hid ((U : Int) = 2 * (-(m + 1)) + 1) := hUe
  clear hUe hA
  have hl10 := varL_length10 hU
  go_enter Tryd.func26, Tryd.ntmps26
  go_wp2_with (go_at_call 38; fail)
  refine (hsz _).mono ?_
  rintro e w ⟨rfl, rfl⟩
  go_upto_region 6 with fail
  go_cut [5, 6] (fun v2 v wx => v2 = .int .u64 (U : Int) ∧ ∃ a1 c1, v = .slice a1 n c1 ∧ wx.ownsRow w.heap.size 5 1 v n (bvals (rowL d n)) ∧ Below w.heap.size w wx)
  case first =>
    by_cases hn0 : n = 0
    · subst hn0
      obtain h | ⟨ad, h⟩ : a = none ∨ ∃ ad, a = some ad := by
        cases a with
        | none => exact .inl rfl
        | some x => exact .inr ⟨x, rfl⟩
      · subst h
        have hc0 := (HS.out.2 rfl).2
        subst hc0
        go_wp2_with fail
        go_meet
        exact ⟨vint (by have := HUe.out; omega), none, 0, rfl, World.ownsRow_nil _ _ _ _, Below.refl _ _⟩
      · subst h
        go_wp2_with fail
        go_meet
        exact ⟨vint (by have := HUe.out; omega), none, 0, rfl, World.ownsRow_nil _ _ _ _, Below.refl _ _⟩
    · obtain ⟨b0, off0, rfl⟩ : ∃ b0 off0, a = some ⟨b0, off0, none⟩ := by
        rcases HS.out.1 with h0 | ⟨b, off, h, _⟩
        · exact absurd h0 hn0
        · exact ⟨b, off, h⟩
      have HCL : Hid (∀ j u, (bvals (rowL d n))[j]? = some u → w.cell? ((⟨b0, off0, none⟩ : Addr).add j) = some u) := src_cells HS.out.1 _ rfl
      go_wp2_with (at_builtin; refine wpList_append_own _ rfl _ _ 29 rfl w.heap.size 5 i0 (.int .u8 0) 1 1 Tryd.underlying29 hi hz0 hz1 hz2 rfl (by decide) (.slice none 0 0) 0 [] rfl (World.ownsRow_nil _ _ _ _) ⟨b0, off0, none⟩ n cap (bvals (rowL d n)) rfl (by rw [bvals_length, rowL_length, Nat.mul_one]) HCL.out (bvals_one _) (by unfold maxLen; omega) (by omega) (Nat.le_refl _) ?_; intro v1 w1 hown1 hgrow1 hnil1)
      have hb1 : Below w.heap.size w w1 := below_grownBy (Below.refl _ w) hgrow1 (Nat.le_refl _) (fun k hk => by cases hk)
      rw [Nat.zero_add, List.nil_append] at hown1
      obtain ⟨a1, c1, rfl⟩ := own_form hown1
      have HX : Hid (w1.ownsRow w.heap.size 5 1 (.slice a1 n c1) n (bvals (rowL d n)) ∧ Below w.heap.size w w1) := ⟨hown1, hb1⟩
      clear hown1 hb1 hgrow1 hnil1
      go_wp2_with fail
      go_meet
      exact ⟨vint (by have := HUe.out; omega), a1, c1, rfl, HX.out⟩
  case rest =>
    obtain ⟨rfl, a1, c1, rfl, ho1, hb1⟩ := hcut
    have HO : Hid (wc.ownsRow w.heap.size 5 1 (.slice a1 n c1) n (bvals (rowL d n)) ∧ Below w.heap.size w wc) := ⟨ho1, hb1⟩
    clear ho1 hb1 HS hsz
    generalize hBe : w.heap.size = B at *
    have HBe : Hid (w.heap.size = B) := hBe
    clear hBe
    go_wp2
    go_loopw [5, 6] (fun x o wr => ∃ (u : Nat) (pre : List Nat) (ao : Option Addr) (cv : Nat), u < 18446744073709551616 ∧ x = .int .u64 (u : Int) ∧ pre ++ varL u = varL U ∧ o = .slice ao (n + pre.length) cv ∧ wr.ownsRow B 5 1 o (n + pre.length) (bvals (rowL d n ++ pre)) ∧ Below B w wr) (fun x _ _ => (intOf x).toNat)
    case atStart => exact ⟨U, [], a1, c1, hU, rfl, rfl, rfl, by simpa using HO.out.1, HO.out.2⟩
    case round =>
      obtain ⟨u, pre, ao, cv, hu, rfl, hpre, rfl, hown, hbl⟩ := hrel
      clear HO
      have hlen : pre.length + (varL u).length = (varL U).length := by rw [← hpre, List.length_append]
      have hpl : pre.length ≤ 10 := by omega
      have HA : Hid (Below B w wr ∧ B ≤ wr.heap.size ∧ wr.ownsRow B 5 1 (.slice ao (n + pre.length) cv) (n + pre.length) (bvals (rowL d n ++ pre))) := ⟨hbl, by rw [← HBe.out]; exact hbl.size, hown⟩
      clear hown hbl
      by_cases hlt : u < 128
      · have hlt' : (u : Int) < 128 := by omega
        have hm256 : (u : Int) % 256 = (u : Int) := by omega
        rw [varL_small hlt] at hpre hlen
        have HP : Hid (pre ++ [u] = varL U) := hpre
        clear hpre
        generalize hq : pre.length = q at *
        have hnew : Hid (∀ j y, [Value.int .u8 (u : Int)][j]? = some y → (wr.alloc (.cells #[.int .u8 (u : Int)] 5)).cell? ((⟨wr.heap.size, 0, none⟩ : Addr).add j) = some y) := cell_one_new wr (.int .u8 (u : Int)) 5
        go_wp2_with (at_builtin; refine wpList_append_own _ rfl _ _ 29 rfl B 5 i0 (.int .u8 0) 1 1 Tryd.underlying29 hi hz0 hz1 hz2 rfl (by decide) _ (n + q) (bvals (rowL d n ++ pre)) rfl (HA.out.2.2.alloc _) ⟨wr.heap.size, 0, none⟩ 1 1 [.int .u8 (u : Int)] rfl rfl hnew.out (fun x hx => by simp at hx; subst hx; rfl) (by unfold maxLen; omega) (by omega) (by have := HA.out.2.1; simp; omega) ?_; intro v' w3 hown' hgrow3 hnil3)
        have hg3 : (wr.alloc (.cells #[.int .u8 (u : Int)] 5)).grownBy w3 (Value.slice ao (n + q) cv).ownBlock := hgrow3
        have hb3 : Below B w w3 := below_grownBy (HA.out.1.alloc HA.out.2.1 _) hg3 (by rw [HBe.out]; exact Nat.le_refl _) (fun k hk => (HA.out.2.2.lt k hk).1)
        have e1 : bvals (rowL d n ++ pre) ++ [.int .u8 (u : Int)] = bvals (rowL d n ++ varL U) := by rw [← HP.out, ← List.append_assoc, bvals_append (rowL d n ++ pre)]; rfl
        rw [e1, show n + q + 1 = n + (varL U).length by simp at hlen; omega] at hown'
        have HB3 : Hid (Below B w w3 ∧ w3.ownsRow B 5 1 v' (n + (varL U).length) (bvals (rowL d n ++ varL U))) := ⟨hb3, hown'⟩
        clear hb3 hown' hg3 hgrow3 hnil3
        go_ret
        exact ⟨_, rfl, by rw [HBe.out]; exact HB3.out.2, by rw [HBe.out]; exact HB3.out.1⟩
      · have hlt' : (128 : Int) ≤ (u : Int) := by omega
        have hX : (u : Int) % 128 + 128 = ((u % 128 + 128 : Nat) : Int) := by omega
        rw [varL_big hlt] at hpre
        have HP : Hid ((pre ++ [u % 128 + 128]) ++ varL (u / 128) = varL U) := by show _ = _; rw [List.append_assoc]; exact hpre
        have HX : Hid (bvals (rowL d n ++ (pre ++ [u % 128 + 128])) = bvals (rowL d n ++ pre) ++ [.int .u8 ((u % 128 + 128 : Nat) : Int)]) := by show _ = _; rw [← List.append_assoc, bvals_append (rowL d n ++ pre)]; rfl
        have HL : Hid ((pre ++ [u % 128 + 128]).length = pre.length + 1) := by show _ = _; simp
        clear hpre hlen
        generalize pre ++ [u % 128 + 128] = pre2 at *
        generalize u % 128 + 128 = X at *
        generalize hq : pre.length = q at *
        have hnew : Hid (∀ j y, [Value.int .u8 (X : Int)][j]? = some y → (wr.alloc (.cells #[.int .u8 (X : Int)] 5)).cell? ((⟨wr.heap.size, 0, none⟩ : Addr).add j) = some y) := cell_one_new wr (.int .u8 (X : Int)) 5
        go_wp2_with (at_builtin; refine wpList_append_own _ rfl _ _ 29 rfl B 5 i0 (.int .u8 0) 1 1 Tryd.underlying29 hi hz0 hz1 hz2 rfl (by decide) _ (n + q) (bvals (rowL d n ++ pre)) rfl (HA.out.2.2.alloc _) ⟨wr.heap.size, 0, none⟩ 1 1 [.int .u8 (X : Int)] rfl rfl hnew.out (fun x hx => by simp at hx; subst hx; rfl) (by unfold maxLen; omega) (by omega) (by have := HA.out.2.1; simp; omega) ?_; intro v' w3 hown' hgrow3 hnil3)
        have hg3 : (wr.alloc (.cells #[.int .u8 (X : Int)] 5)).grownBy w3 (Value.slice ao (n + q) cv).ownBlock := hgrow3
        have hb3 : Below B w w3 := below_grownBy (HA.out.1.alloc HA.out.2.1 _) hg3 (by rw [HBe.out]; exact Nat.le_refl _) (fun k hk => (HA.out.2.2.lt k hk).1)
        rw [← HX.out, show n + q + 1 = n + pre2.length by rw [HL.out]; omega] at hown'
        obtain ⟨a3, c3, rfl⟩ := own_form hown'
        have HB3 : Hid (Below B w w3 ∧ w3.ownsRow B 5 1 (.slice a3 (n + pre2.length) c3) (n + pre2.length) (bvals (rowL d n ++ pre2))) := ⟨hb3, hown'⟩
        clear hb3 hown' hg3 hgrow3 hnil3
        exact ⟨⟨u / 128, pre2, a3, c3, by omega, by go_num, HP.out, rfl, HB3.out.2, HB3.out.1⟩, by simp [intOf]; omega⟩
set_option maxRecDepth 100000 in
set_option maxHeartbeats 1000000 in
theorem refPutVar_hi (a : Option Addr) (n cap : Nat) (d : Nat → Nat) (m : Int) (hm : 0 ≤ m) (w : World) (hn : n ≤ 140737488351232) (hm0 : -9223372036854775808 ≤ m) (hm1 : m ≤ 9223372036854775807) (hs : Src w a n d) (ha : a = none → n = 0 ∧ cap = 0) :
    Calls Tryd.prog 26 #[.slice a n cap, .int .i64 m] w fun e w' => ∃ v, e = .returned v ∧ w'.ownsRow w.heap.size 5 1 v (n + (varL (foldN m)).length) (bvals (rowL d n ++ varL (foldN m))) ∧ Below w.heap.size w w' := by
  obtain ⟨i0, hi, hz0, hz1, hz2⟩ := info_parts info5
  have hU := foldN_lt hm0 hm1
  have hUe : (foldN m : Int) = 2 * m := by unfold foldN; split <;> omega
  have HS : Hid (Src w a n d ∧ (a = none → n = 0 ∧ cap = 0)) := ⟨hs, ha⟩
  clear hs ha
  have hsz := fun w' => refSize_any m w' hm0 hm1
  generalize hA : m.natAbs = A at *
  have hA2 : (A : Int) = m := by omega
  generalize foldN m = U at *
  have HUe : Hid ((U : Int) = 2 * m) := hUe
  clear hUe hA
  have hl10 := varL_length10 hU
  go_enter Tryd.func26, Tryd.ntmps26
  go_wp2_with (go_at_call 38; fail)
  refine (hsz _).mono ?_
  rintro e w ⟨rfl, rfl⟩
  go_upto_region 6 with fail
  go_cut [5, 6] (fun v2 v wx => v2 = .int .u64 (U : Int) ∧ ∃ a1 c1, v = .slice a1 n c1 ∧ wx.ownsRow w.heap.size 5 1 v n (bvals (rowL d n)) ∧ Below w.heap.size w wx)
  case first =>
    by_cases hn0 : n = 0
    · subst hn0
      obtain h | ⟨ad, h⟩ : a = none ∨ ∃ ad, a = some ad := by
        cases a with
        | none => exact .inl rfl
        | some x => exact .inr ⟨x, rfl⟩
      · subst h
        have hc0 := (HS.out.2 rfl).2
        subst hc0
        go_wp2_with fail
        go_meet
        exact ⟨vint (by have := HUe.out; omega), none, 0, rfl, World.ownsRow_nil _ _ _ _, Below.refl _ _⟩
      · subst h
        go_wp2_with fail
        go_meet
        exact ⟨vint (by have := HUe.out; omega), none, 0, rfl, World.ownsRow_nil _ _ _ _, Below.refl _ _⟩
    · obtain ⟨b0, off0, rfl⟩ : ∃ b0 off0, a = some ⟨b0, off0, none⟩ := by
        rcases HS.out.1 with h0 | ⟨b, off, h, _⟩
        · exact absurd h0 hn0
        · exact ⟨b, off, h⟩
      have HCL : Hid (∀ j u, (bvals (rowL d n))[j]? = some u → w.cell? ((⟨b0, off0, none⟩ : Addr).add j) = some u) := src_cells HS.out.1 _ rfl
      go_wp2_with (at_builtin; refine wpList_append_own _ rfl _ _ 29 rfl w.heap.size 5 i0 (.int .u8 0) 1 1 Tryd.underlying29 hi hz0 hz1 hz2 rfl (by decide) (.slice none 0 0) 0 [] rfl (World.ownsRow_nil _ _ _ _) ⟨b0, off0, none⟩ n cap (bvals (rowL d n)) rfl (by rw [bvals_length, rowL_length, Nat.mul_one]) HCL.out (bvals_one _) (by unfold maxLen; omega) (by omega) (Nat.le_refl _) ?_; intro v1 w1 hown1 hgrow1 hnil1)
      have hb1 : Below w.heap.size w w1 := below_grownBy (Below.refl _ w) hgrow1 (Nat.le_refl _) (fun k hk => by cases hk)
      rw [Nat.zero_add, List.nil_append] at hown1
      obtain ⟨a1, c1, rfl⟩ := own_form hown1
      have HX : Hid (w1.ownsRow w.heap.size 5 1 (.slice a1 n c1) n (bvals (rowL d n)) ∧ Below w.heap.size w w1) := ⟨hown1, hb1⟩
      clear hown1 hb1 hgrow1 hnil1
      go_wp2_with fail
      go_meet
      exact ⟨vint (by have := HUe.out; omega), a1, c1, rfl, HX.out⟩
  case rest =>
    obtain ⟨rfl, a1, c1, rfl, ho1, hb1⟩ := hcut
    have HO : Hid (wc.ownsRow w.heap.size 5 1 (.slice a1 n c1) n (bvals (rowL d n)) ∧ Below w.heap.size w wc) := ⟨ho1, hb1⟩
    clear ho1 hb1 HS hsz
    generalize hBe : w.heap.size = B at *
    have HBe : Hid (w.heap.size = B) := hBe
    clear hBe
    go_wp2
    go_loopw [5, 6] (fun x o wr => ∃ (u : Nat) (pre : List Nat) (ao : Option Addr) (cv : Nat), u < 18446744073709551616 ∧ x = .int .u64 (u : Int) ∧ pre ++ varL u = varL U ∧ o = .slice ao (n + pre.length) cv ∧ wr.ownsRow B 5 1 o (n + pre.length) (bvals (rowL d n ++ pre)) ∧ Below B w wr) (fun x _ _ => (intOf x).toNat)
    case atStart => exact ⟨U, [], a1, c1, hU, rfl, rfl, rfl, by simpa using HO.out.1, HO.out.2⟩
    case round =>
      obtain ⟨u, pre, ao, cv, hu, rfl, hpre, rfl, hown, hbl⟩ := hrel
      clear HO
      have hlen : pre.length + (varL u).length = (varL U).length := by rw [← hpre, List.length_append]
      have hpl : pre.length ≤ 10 := by omega
      have HA : Hid (Below B w wr ∧ B ≤ wr.heap.size ∧ wr.ownsRow B 5 1 (.slice ao (n + pre.length) cv) (n + pre.length) (bvals (rowL d n ++ pre))) := ⟨hbl, by rw [← HBe.out]; exact hbl.size, hown⟩
      clear hown hbl
      by_cases hlt : u < 128
      · have hlt' : (u : Int) < 128 := by omega
        have hm256 : (u : Int) % 256 = (u : Int) := by omega
        rw [varL_small hlt] at hpre hlen
        have HP : Hid (pre ++ [u] = varL U) := hpre
        clear hpre
        generalize hq : pre.length = q at *
        have hnew : Hid (∀ j y, [Value.int .u8 (u : Int)][j]? = some y → (wr.alloc (.cells #[.int .u8 (u : Int)] 5)).cell? ((⟨wr.heap.size, 0, none⟩ : Addr).add j) = some y) := cell_one_new wr (.int .u8 (u : Int)) 5
        go_wp2_with (at_builtin; refine wpList_append_own _ rfl _ _ 29 rfl B 5 i0 (.int .u8 0) 1 1 Tryd.underlying29 hi hz0 hz1 hz2 rfl (by decide) _ (n + q) (bvals (rowL d n ++ pre)) rfl (HA.out.2.2.alloc _) ⟨wr.heap.size, 0, none⟩ 1 1 [.int .u8 (u : Int)] rfl rfl hnew.out (fun x hx => by simp at hx; subst hx; rfl) (by unfold maxLen; omega) (by omega) (by have := HA.out.2.1; simp; omega) ?_; intro v' w3 hown' hgrow3 hnil3)
        have hg3 : (wr.alloc (.cells #[.int .u8 (u : Int)] 5)).grownBy w3 (Value.slice ao (n + q) cv).ownBlock := hgrow3
        have hb3 : Below B w w3 := below_grownBy (HA.out.1.alloc HA.out.2.1 _) hg3 (by rw [HBe.out]; exact Nat.le_refl _) (fun k hk => (HA.out.2.2.lt k hk).1)
        have e1 : bvals (rowL d n ++ pre) ++ [.int .u8 (u : Int)] = bvals (rowL d n ++ varL U) := by rw [← HP.out, ← List.append_assoc, bvals_append (rowL d n ++ pre)]; rfl
        rw [e1, show n + q + 1 = n + (varL U).length by simp at hlen; omega] at hown'
        have HB3 : Hid (Below B w w3 ∧ w3.ownsRow B 5 1 v' (n + (varL U).length) (bvals (rowL d n ++ varL U))) := ⟨hb3, hown'⟩
        clear hb3 hown' hg3 hgrow3 hnil3
        go_ret
        exact ⟨_, rfl, by rw [HBe.out]; exact HB3.out.2, by rw [HBe.out]; exact HB3.out.1⟩
      · have hlt' : (128 : Int) ≤ (u : Int) := by omega
        have hX : (u : Int) % 128 + 128 = ((u % 128 + 128 : Nat) : Int) := by omega
        rw [varL_big hlt] at hpre
        have HP : Hid ((pre ++ [u % 128 + 128]) ++ varL (u / 128) = varL U) := by show _ = _; rw [List.append_assoc]; exact hpre
        have HX : Hid (bvals (rowL d n ++ (pre ++ [u % 128 + 128])) = bvals (rowL d n ++ pre) ++ [.int .u8 ((u % 128 + 128 : Nat) : Int)]) := by show _ = _; rw [← List.append_assoc, bvals_append (rowL d n ++ pre)]; rfl
        have HL : Hid ((pre ++ [u % 128 + 128]).length = pre.length + 1) := by show _ = _; simp
        clear hpre hlen
        generalize pre ++ [u % 128 + 128] = pre2 at *
        generalize u % 128 + 128 = X at *
        generalize hq : pre.length = q at *
        have hnew : Hid (∀ j y, [Value.int .u8 (X : Int)][j]? = some y → (wr.alloc (.cells #[.int .u8 (X : Int)] 5)).cell? ((⟨wr.heap.size, 0, none⟩ : Addr).add j) = some y) := cell_one_new wr (.int .u8 (X : Int)) 5
        go_wp2_with (at_builtin; refine wpList_append_own _ rfl _ _ 29 rfl B 5 i0 (.int .u8 0) 1 1 Tryd.underlying29 hi hz0 hz1 hz2 rfl (by decide) _ (n + q) (bvals (rowL d n ++ pre)) rfl (HA.out.2.2.alloc _) ⟨wr.heap.size, 0, none⟩ 1 1 [.int .u8 (X : Int)] rfl rfl hnew.out (fun x hx => by simp at hx; subst hx; rfl) (by unfold maxLen; omega) (by omega) (by have := HA.out.2.1; simp; omega) ?_; intro v' w3 hown' hgrow3 hnil3)
        have hg3 : (wr.alloc (.cells #[.int .u8 (X : Int)] 5)).grownBy w3 (Value.slice ao (n + q) cv).ownBlock := hgrow3
        have hb3 : Below B w w3 := below_grownBy (HA.out.1.alloc HA.out.2.1 _) hg3 (by rw [HBe.out]; exact Nat.le_refl _) (fun k hk => (HA.out.2.2.lt k hk).1)
        rw [← HX.out, show n + q + 1 = n + pre2.length by rw [HL.out]; omega] at hown'
        obtain ⟨a3, c3, rfl⟩ := own_form hown'
        have HB3 : Hid (Below B w w3 ∧ w3.ownsRow B 5 1 (.slice a3 (n + pre2.length) c3) (n + pre2.length) (bvals (rowL d n ++ pre2))) := ⟨hb3, hown'⟩
        clear hb3 hown' hg3 hgrow3 hnil3
        exact ⟨⟨u / 128, pre2, a3, c3, by omega, by go_num, HP.out, rfl, HB3.out.2, HB3.out.1⟩, by simp [intOf]; omega⟩
end Go.Proofs.YtnnfepapnimlcabDoor
