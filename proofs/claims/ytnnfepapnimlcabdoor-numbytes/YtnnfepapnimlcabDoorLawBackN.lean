/-
  NumBack: the walk.
-/
import Derived.Test.YtnnfepapnimlcabDoorShown
import Derived.Test.YtnnfepapnimlcabDoorStr3
import Derived.Test.YtnnfepapnimlcabDoorBack2
import Derived.Test.YtnnfepapnimlcabDoorBytes2
import Derived.Test.YtnnfepapnimlcabDoorBytes3
import Derived.Test.YtnnfepapnimlcabDoorBytes5
import Derived.Test.YtnnfepapnimlcabDoorVar2
import Derived.Test.YtnnfepapnimlcabDoorLent2
import Derived.OpenShut
import Derived.BigRegion
import Derived.Deep.RegionHeld
import Derived.Deep.DeepCutAuto
import Derived.Deep.RegionWith
namespace Go.Proofs.YtnnfepapnimlcabDoor
set_option linter.unusedVariables false
open Go.Shelf Go.RowKit Go.Sort Go.Lib

theorem itoa_size (n : Int) (h0 : -9223372036854775808 ≤ n) (h1 : n ≤ 9223372036854775807) : (⟨(itoa n).toArray⟩ : ByteArray).size ≤ maxLen := by
  rw [Lib.size_mk]
  unfold itoa
  have a := nDigits_le n.natAbs (by omega)
  have b := nDigits_le n.toNat (by omega)
  rw [← decDigits_length] at a b
  split
  · rw [List.length_cons]; unfold maxLen; omega
  · unfold maxLen; omega
theorem ppB_size (q : Nat) (hq : q ≤ 1000000000) : (ppB q).size ≤ maxLen := by
  have hm : magI (q : Int) = q := magI_pos (by omega)
  have hS : (ppS (q : Int)).size ≤ 20 := by
    unfold ppS
    rw [if_neg (by omega)]
    exact decI_le _ (by rw [hm]; omega)
  have hT := trim0_le (decI (10000 + magI (q : Int) % 10000))
  have hD := decI_le (10000 + magI (q : Int) % 10000) (by rw [hm]; omega)
  have h46 : (⟨#[46]⟩ : ByteArray).size = 1 := rfl
  unfold ppB
  split
  · unfold maxLen; omega
  · rw [ByteArray.size_append, ByteArray.size_append, h46]; unfold maxLen; omega
theorem own_src {w : World} {B g n c : Nat} {l : List Nat} (h : w.ownsRow B 5 1 (.slice (some ⟨g, 0, none⟩) n c) n (bvals l)) (hl : ∀ x ∈ l, x < 256) : Src w (some ⟨g, 0, none⟩) n (fun j => l.getD j 0) := by
  refine .inr ⟨g, 0, rfl, fun j hj => ?_⟩
  have hlen : l.length = n := by have := h.1; rw [bvals_length] at this; omega
  have hjl : j < l.length := by omega
  refine ⟨?_, ?_⟩
  · rw [Nat.zero_add, h.cellAt j (by omega)]
    simp [bvals, List.getElem?_eq_getElem hjl]
  · show l.getD j 0 < 256
    rw [List.getD_eq_getElem?_getD, List.getElem?_eq_getElem hjl]
    exact hl _ (List.getElem_mem hjl)
theorem own_cap {w : World} {B g n c : Nat} {xs : List Value} (h : w.ownsRow B 5 1 (.slice (some ⟨g, 0, none⟩) n c) n xs) : n ≤ c := by
  rcases h.2 with ⟨h', _⟩ | ⟨g', cap', cur, h', _, _, h3, _⟩
  · cases h'
  · simp only [Value.slice.injEq, Option.some.injEq, Addr.mk.injEq, and_true, true_and] at h'
    omega
theorem rowL_lt {w : World} {a : Option Addr} {m : Nat} {d : Nat → Nat} (h : Src w a m d) : ∀ x ∈ rowL d m, x < 256 := by
  intro x hx
  simp only [rowL, List.mem_map, List.mem_range] at hx
  obtain ⟨j, hj, rfl⟩ := hx
  exact h.lt j hj
theorem own_str {w : World} {B g n c : Nat} {l : List Nat} (h : w.ownsRow B 5 1 (.slice (some ⟨g, 0, none⟩) n c) n (bvals l)) :
    (convert 29 9 (.slice (some ⟨g, 0, none⟩) n c)).run Tryd.prog w = .ok (.string (strOfNums (l.map fun x : Nat => (x : Int)))) w := by
  have hlen : l.length = n := by have := h.1; rw [bvals_length] at this; omega
  refine run_convert_bytes_arg w 29 5 Tryd.underlying29 Tryd.underlying5 g 0 n c _ (by simpa using hlen) (fun i hi => ?_) 9 Tryd.underlying9
  have hjl : i < l.length := by omega
  rw [Nat.zero_add, h.cellAt i (by omega)]
  simp [bvals, List.getElem?_eq_getElem hjl]
theorem src_str {w : World} {a : Option Addr} {m K cap : Nat} {d : Nat → Nat} (h : Src w a m d) (hK : K ≤ m) (hK0 : 0 < K) :
    ∃ b off, a = some ⟨b, off, none⟩ ∧ (convert 29 9 (.slice (some ⟨b, off, none⟩) K cap)).run Tryd.prog w = .ok (.string (strOfNums (((List.range K).map d).map fun x : Nat => (x : Int)))) w := by
  rcases h with h0 | ⟨b, off, rfl, hr⟩
  · omega
  · refine ⟨b, off, rfl, run_convert_bytes_arg w 29 5 Tryd.underlying29 Tryd.underlying5 b off K cap _ (by simp) (fun i hi => ?_) 9 Tryd.underlying9⟩
    rw [(hr i (by omega)).1]
    simp [hi]
theorem put_get (U k : Nat) (l : List Nat) : getN (fun j => (putTo U k k ++ l).getD j 0) k = U % 2 ^ (8 * k) := by
  rw [getN_put _ U k k (Nat.le_refl _) fun j hj => ?_]
  · simp
  · show (putTo U k k ++ l).getD j 0 = _
    rw [List.getD_eq_getElem?_getD, List.getElem?_append_left (by rw [putTo_length]; exact hj)]
    simp [putTo, hj]
set_option maxRecDepth 100000 in
set_option maxHeartbeats 4000000 in
theorem NumBack_law (n : Int) (hn : (Lit.int .i64 n).wf = true) (u : Int) (hu : (Lit.int .u64 u).wf = true) (z : Int) (hz : (Lit.int .i64 z).wf = true) (s : ByteArray) (hs : s.size ≤ maxLen) (a : Option Addr) (m cap : Nat) (d : Nat → Nat) (hm : m ≤ 140737488351232) (hmc : m ≤ cap) (hanil : a = none → m = 0 ∧ cap = 0) (w : World) (hsrc : Src w a m d) (htab : TabIs Tryd.prog w "internal/strconv.uint64pow10" .u64 pow10Tab) :
    Calls Tryd.prog 4 #[.int .i64 n, .int .u64 u, .int .i64 z, .string s, .slice a m cap] w fun e w' => e = .returned (.bool true) ∧ Below w.heap.size w w' := by
  obtain ⟨n0, n1⟩ := bounds_i64 hn
  obtain ⟨z0, z1⟩ := bounds_i64 hz
  have hpp := parse_print n n0 n1
  have hsz := itoa_size n n0 n1
  have hpi := ParseInt_any ⟨(itoa n).toArray⟩ 9223372036854775807
  have el : (⟨(itoa n).toArray⟩ : ByteArray).data.toList = itoa n := rfl
  rw [el] at hpi
  clear el
  have HT : Hid (TabIs Tryd.prog w "internal/strconv.uint64pow10" .u64 pow10Tab) := htab
  have HS : Hid (Src w a m d) := hsrc
  clear htab hsrc hn hz
  go_enter Tryd.func4, Tryd.ntmps4
  go_wp2_with (go_at_call 7; fail)
  refine (shown_any _ HT.out).mono ?_
  rintro e w1 ⟨rfl, hb1⟩
  have HB1 : Hid (Below w.heap.size w w1 ∧ TabIs Tryd.prog w1 "internal/strconv.uint64pow10" .u64 pow10Tab ∧ Src w1 a m d) := ⟨hb1, tabIs_below HT.out hb1, HS.out.below hb1⟩
  clear hb1 HT HS
  go_wp2_with (go_at_call 14; fail)
  refine (Print_any n n0 n1 _ HB1.out.2.1).mono ?_
  rintro e w2 ⟨rfl, hb2⟩
  have HB2 : Hid (Below w.heap.size w w2 ∧ TabIs Tryd.prog w2 "internal/strconv.uint64pow10" .u64 pow10Tab ∧ Src w2 a m d) := ⟨HB1.out.1.trans (hb2.mono HB1.out.1.size), tabIs_below HB1.out.2.1 hb2, HB1.out.2.2.below hb2⟩
  clear hb2 HB1
  go_wp2_with (go_at_call 15; fail)
  refine (hpi _ hsz (by decide)).mono ?_
  rintro e w2 ⟨rfl, rfl⟩
  have hPI : ∃ A E : Int, A = piN (itoa n) 9223372036854775807 ∧ E = piE (itoa n) 9223372036854775807 := ⟨_, _, rfl, rfl⟩
  generalize piN (itoa n) 9223372036854775807 = A at *
  generalize piE (itoa n) 9223372036854775807 = E at *
  generalize (⟨(itoa n).toArray⟩ : ByteArray) = T0 at *
  clear hPI hsz hpi
  have hpu := fun w => ParseUint_any s 9223372036854775807 w hs (by decide)
  have hpr := print_parse s.data.toList
  have hcb := pu_bd s.data.toList 9223372036854775807 (by decide)
  generalize puN s.data.toList 9223372036854775807 = c at *
  generalize puE s.data.toList 9223372036854775807 = f at *
  have HPR : Hid (f = 0 → itoa c = s.data.toList) := hpr
  clear hpr
  go_upto_region 7 with fail
  go_cut [61] (fun b wx => b = .bool false ∧ wx = w2)
  case first => as_aux_lemma =>
    rcases hpp with ⟨h1, h2⟩ | ⟨h1, h2, h3⟩
    · subst h1 h2
      go_wp2_with fail
      all_goals go_meet
      all_goals exact ⟨rfl, rfl⟩
    · have h2b : (A != n) = false := by rw [h2]; simp
      subst h3
      have h1b : (n == -9223372036854775808) = false := by simpa using h1
      subst h2
      go_wp2_with fail
      all_goals go_meet
      all_goals exact ⟨rfl, rfl⟩
  case rest => as_aux_lemma =>
    obtain ⟨rfl, rfl⟩ := hcut
    go_wp2_with (go_at_call 16; fail)
    refine (hpu _).mono ?_
    rintro e w2 ⟨rfl, rfl⟩
    clear hpu hpp
    go_upto_region 10 with fail
    go_cut [74] (fun b wx => b = .bool false ∧ Below w.heap.size w wx ∧ TabIs Tryd.prog wx "internal/strconv.uint64pow10" .u64 pow10Tab ∧ Src wx a m d)
    case first => as_aux_lemma =>
      by_cases hf : f = 0
      · have hpt := Print_any c (by omega) (by omega) w2 HB2.out.2.1
        have es : (⟨(itoa c).toArray⟩ : ByteArray) = s := WideShapes.bytes_inj (HPR.out hf)
        rw [es] at hpt
        subst hf
        go_wp2_with (go_at_call 14; fail)
        refine hpt.mono ?_
        rintro e w3 ⟨rfl, hb3⟩
        have HB3 : Hid (Below w.heap.size w w3 ∧ TabIs Tryd.prog w3 "internal/strconv.uint64pow10" .u64 pow10Tab ∧ Src w3 a m d) := ⟨HB2.out.1.trans (hb3.mono HB2.out.1.size), tabIs_below HB2.out.2.1 hb3, HB2.out.2.2.below hb3⟩
        clear hb3 hpt
        go_wp2_with fail
        all_goals go_meet
        all_goals exact ⟨rfl, HB3.out⟩
      · have hfb : (f == 0) = false := by simpa using hf
        go_wp2_with fail
        all_goals go_meet
        all_goals exact ⟨rfl, HB2.out⟩
    case rest => as_aux_lemma =>
      obtain ⟨rfl, hx1, hx2, hx3⟩ := hcut
      have HB3 : Hid (Below w.heap.size w wc ∧ TabIs Tryd.prog wc "internal/strconv.uint64pow10" .u64 pow10Tab ∧ Src wc a m d) := ⟨hx1, hx2, hx3⟩
      clear hx1 hx2 hx3 HB2 HPR
      have hpc := fun w => ParsePrice_any s w hs
      have hpb := price_bd s
      generalize priceN s = p at *
      generalize priceE s = g at *
      have HPB : Hid (g = 0 → 0 ≤ p ∧ p ≤ 1000000000) := hpb
      clear hpb
      go_wp2_with (go_at_call 17; fail)
      refine (hpc _).mono ?_
      rintro e w4 ⟨rfl, k4, hw4⟩
      have HB4 : Hid (Below w.heap.size w w4 ∧ TabIs Tryd.prog w4 "internal/strconv.uint64pow10" .u64 pow10Tab ∧ Src w4 a m d) := by
        rw [hw4]
        exact ⟨below_drewN HB3.out.1 _, tabIs_below HB3.out.2.1 (below_drewN (Below.refl _ _) _), HB3.out.2.2.below (below_drewN (Below.refl _ _) _)⟩
      clear hw4 HB3 hpc
      go_upto_region 13 with fail
      go_cut [89] (fun b wx => b = .bool false ∧ wx = w4)
      case first => as_aux_lemma =>
        by_cases hg : g = 0
        · obtain ⟨q1, q2⟩ := HPB.out hg
          subst hg
          have q1' : decide (p < 0) = false := decide_eq_false (by omega)
          have q2' : decide (1000000000 < p) = false := decide_eq_false (by omega)
          go_wp2_with fail
          all_goals go_meet
          all_goals exact ⟨rfl, rfl⟩
        · have hgb : (g == 0) = false := by simpa using hg
          go_wp2_with fail
          all_goals go_meet
          all_goals exact ⟨rfl, rfl⟩
      case rest => as_aux_lemma =>
        obtain ⟨rfl, rfl⟩ := hcut
        clear HPB
        have hq0 : -1000000000 ≤ n.tmod 1000000001 ∧ n.tmod 1000000001 ≤ 1000000000 := by
          have h1 := Int.tmod_lt_of_pos n (show (0 : Int) < 1000000001 by decide)
          have h2 := Int.lt_tmod_of_pos n (show (0 : Int) < 1000000001 by decide)
          omega
        generalize hqe : n.tmod 1000000001 = q0 at *
        obtain ⟨hq1, hq2⟩ := hq0
        go_upto_region 16 with fail
        -- STAGE3
        go_upto_if 93 with fail
        go_cut [20] (fun b wx => ∃ Q : Nat, b = .int .i64 Q ∧ Q ≤ 1000000000 ∧ wx = wc)
        case first => as_aux_lemma =>
          by_cases hneg : q0 < 0
          · go_wp2_with fail
            all_goals go_meet
            all_goals exact ⟨(-q0).toNat, by rw [Int.toNat_of_nonneg (by omega)], by omega, rfl⟩
          · have hneg' : 0 ≤ q0 := by omega
            go_wp2_with fail
            all_goals go_meet
            all_goals exact ⟨q0.toNat, by rw [Int.toNat_of_nonneg (by omega)], by omega, rfl⟩
        case rest => as_aux_lemma =>
          obtain ⟨Q, rfl, hQ, rfl⟩ := hcut
          clear hqe hq1 hq2
          have hpp2 := fun w h => PrintPrice_any (Q : Int) (by omega) (by omega) w h
          have hpq := fun w => ParsePrice_any (ppB Q) w (ppB_size Q hQ)
          rw [(price_back Q hQ).1, (price_back Q hQ).2] at hpq
          generalize ppB (Q : Int) = T1 at *
          go_wp2_with (go_at_call 18; fail)
          refine (hpp2 _ HB4.out.2.1).mono ?_
          rintro e w5 ⟨rfl, hb5⟩
          have HB5 : Hid (Below w.heap.size w w5 ∧ Src w5 a m d) := ⟨HB4.out.1.trans (hb5.mono HB4.out.1.size), HB4.out.2.2.below hb5⟩
          clear hb5 HB4 hpp2
          go_wp2_with (go_at_call 17; fail)
          refine (hpq _).mono ?_
          rintro e w6 ⟨rfl, k6, hw6⟩
          have HB6 : Hid (Below w.heap.size w w6 ∧ Src w6 a m d) := by
            rw [hw6]
            exact ⟨below_drewN HB5.out.1 _, HB5.out.2.below (below_drewN (Below.refl _ _) _)⟩
          clear hw6 HB5 hpq
          have hQb : ((Q : Int) != (Q : Int)) = false := by simp
          go_wp2_with (go_at_call 19; fail)
          have hput := PutVar_any none 0 0 (fun _ => 0) n w6 (by omega) n0 n1 (.inl rfl) (fun _ => ⟨rfl, rfl⟩)
          have hU := foldN_lt n0 n1
          have hL10 := varL_length10 hU
          have hL1 : 1 ≤ (varL (foldN n)).length := by
            by_cases h : foldN n < 128
            · rw [varL_small h]; simp
            · rw [varL_big h]; simp
          rw [Nat.zero_add, show rowL (fun _ => 0) 0 ++ varL (foldN n) = varL (foldN n) from rfl] at hput
          refine hput.mono ?_
          rintro e w7 ⟨v7, rfl, ho7, hb7⟩
          obtain ⟨g7, c7, rfl, hg7, hg7'⟩ := ho7.form hL1
          have HB7 : Hid (Below w.heap.size w w7 ∧ Src w7 a m d ∧ w7.ownsRow w6.heap.size 5 1 (.slice (some ⟨g7, 0, none⟩) (varL (foldN n)).length c7) (varL (foldN n)).length (bvals (varL (foldN n)))) := ⟨HB6.out.1.trans (hb7.mono HB6.out.1.size), HB6.out.2.below hb7, ho7⟩
          clear hb7 ho7 hput HB6
          -- STAGE4
          obtain ⟨i0, hi, hz0', hz1', hz2'⟩ := info_parts info5
          have HV : Hid ((∀ x ∈ varL (foldN n), x < 256) ∧ ∀ (d' : Nat → Nat) (N : Nat), (∀ j, j < (varL (foldN n)).length → d' j = (varL (foldN n)).getD j 0) → (varL (foldN n)).length ≤ N → gvr d' N = some (foldN n, (varL (foldN n)).length)) := ⟨varL_lt _, fun d' N h1 h2 => gvr_of_var d' N (foldN n) hU h1 h2⟩
          have HL1 : Hid (1 ≤ (varL (foldN n)).length) := hL1
          have hbl := bvals_length (varL (foldN n))
          generalize varL (foldN n) = l at *
          generalize hLe : l.length = L at *
          have HLe : Hid (l.length = L) := hLe
          clear hLe
          go_upto_region 22 with fail
          go_cut [24] (fun v wx => ∃ g9 c9, v = .slice (some ⟨g9, 0, none⟩) (L + m) c9 ∧ Below w.heap.size w wx ∧ Src wx a m d ∧ Src wx (some ⟨g9, 0, none⟩) (L + m) (fun j => (l ++ rowL d m).getD j 0))
          case first => as_aux_lemma =>
            have hsz7 : w6.heap.size ≤ w7.heap.size := by omega
            cases a with
            | none =>
              obtain ⟨hm0, hc0⟩ := hanil rfl
              subst hm0 hc0
              go_wp2_with (first
                | (at_builtin; refine wpList_append_fits_any _ rfl _ _ 29 rfl w7.heap.size 5 i0 1 Tryd.underlying29 hi hz1' g8 (0 + L) c8 ([] ++ bvals l) rfl hown8 none 0 0 [] rfl rfl (fun _ => ⟨rfl, rfl⟩) (fun ad h => by cases h) (fun x hx => by cases hx) (by have := hcap8; omega) ?_; intro w9 hown9 hgrow9)
                | (at_builtin; refine wpList_append_lies _ rfl _ _ 29 rfl w7.heap.size 5 i0 (.int .u8 0) 1 1 Tryd.underlying29 hi hz0' hz1' hz2' rfl (by decide) _ 0 [] rfl (World.ownsRow_lit w7 #[] 0 (Nat.le_refl _) (Nat.zero_le _) rfl) ⟨g7, 0, none⟩ L c7 (bvals l) rfl (by omega) ((HB7.out.2.2.alloc _).cells rfl) (bvals_one _) HL1.out (by unfold maxLen; omega) (by omega) (by simp) _ rfl ?_; intro g8 c8 w8 hown8 hgrow8 hat8 hlt8; have hcap8 : 0 + L ≤ c8 := own_cap hown8))
              have hbx : Below w.heap.size w w8 := below_grownBy (HB7.out.1.alloc HB7.out.1.size (.cells #[] 5)) hgrow8 (Nat.le_refl _) (fun k hk => by cases hk; exact HB7.out.1.size)
              have hsx := own_src (l := l) (by simpa using hown8) HV.out.1
              have HX : Hid (Below w.heap.size w w8 ∧ Src w8 (some ⟨g8, 0, none⟩) (L + 0) (fun j => (l ++ rowL d 0).getD j 0)) := ⟨hbx, by
                have e : l ++ rowL d 0 = l := by simp [rowL]
                rw [e]
                simpa using hsx⟩
              clear hbx hsx hown8 hgrow8
              go_meet
              exact ⟨g8, c8, rfl, HX.out.1, .inl rfl, HX.out.2⟩
            | some ad =>
              have HF : Hid (∀ w8, (w7.alloc (.cells #[] 5)).grownBy w8 (some w7.heap.size) → Below w.heap.size w w8 ∧ Src w8 (some ad) m d) := fun w8 hg => by
                have h1 : Below w7.heap.size w7 w8 := below_grownBy ((Below.refl _ w7).alloc (Nat.le_refl _) _) hg (Nat.le_refl _) (fun k hk => by cases hk; exact Nat.le_refl _)
                exact ⟨HB7.out.1.trans (h1.mono HB7.out.1.size), HB7.out.2.1.below h1⟩
              go_wp2_with (first
                | (at_builtin; refine wpList_append_own _ rfl _ _ 29 rfl w7.heap.size 5 i0 (.int .u8 0) 1 1 Tryd.underlying29 hi hz0' hz1' hz2' rfl (by decide) _ L (bvals l) rfl hown8 ad m cap (bvals (rowL d m)) rfl (by rw [bvals_length, rowL_length, Nat.mul_one]) (src_cells (HF.out w8 hgrow8).2 ad rfl) (bvals_one _) (by unfold maxLen; omega) (by omega) (Nat.le_trans (by simp) hgrow8.size) ?_; intro v9 w9 hown9 hgrow9 hnil9)
                | (at_builtin; refine wpList_append_lies _ rfl _ _ 29 rfl w7.heap.size 5 i0 (.int .u8 0) 1 1 Tryd.underlying29 hi hz0' hz1' hz2' rfl (by decide) _ 0 [] rfl (World.ownsRow_lit w7 #[] 0 (Nat.le_refl _) (Nat.zero_le _) rfl) ⟨g7, 0, none⟩ L c7 (bvals l) rfl (by omega) ((HB7.out.2.2.alloc _).cells rfl) (bvals_one _) HL1.out (by unfold maxLen; omega) (by omega) (by simp) _ rfl ?_; intro g8 c8 w8 hown8 hgrow8 hat8 hlt8; simp only [Nat.zero_add, List.nil_append] at hown8))
              obtain ⟨g9, c9, rfl, hg9, hg9'⟩ := hown9.form (by have := HL1.out; omega)
              have h8 := HF.out w8 hgrow8
              have hb9 : Below w7.heap.size w8 w9 := below_grownBy (Below.refl _ w8) hgrow9 (Nat.le_trans (by simp) hgrow8.size) (fun k hk => (hown8.lt k hk).1)
              have hx9 : Below w.heap.size w w9 := h8.1.trans (hb9.mono HB7.out.1.size)
              have h78 : Below w7.heap.size w7 w8 := below_grownBy ((Below.refl _ w7).alloc (Nat.le_refl _) (.cells #[] 5)) hgrow8 (Nat.le_refl _) (fun k hk => by cases hk; exact Nat.le_refl _)
              have hs9 : Src w9 (some ad) m d := HB7.out.2.1.below (h78.trans hb9)
              have hsx := own_src (l := l ++ rowL d m) (by rw [bvals_append]; simpa using hown9) (fun x hx => by
                rcases List.mem_append.1 hx with h | h
                · exact HV.out.1 x h
                · exact rowL_lt HB7.out.2.1 x h)
              have HX : Hid (Below w.heap.size w w9 ∧ Src w9 (some ad) m d ∧ Src w9 (some ⟨g9, 0, none⟩) (L + m) (fun j => (l ++ rowL d m).getD j 0)) := ⟨hx9, hs9, by simpa using hsx⟩
              clear hx9 hs9 hsx hown8 hgrow8 hown9 hgrow9 h8 hb9 h78
              go_meet
              exact ⟨g9, c9, rfl, HX.out⟩
          case rest => as_aux_lemma =>
            obtain ⟨g9, c9, rfl, hx1, hx2, hx3⟩ := hcut
            have HB9 : Hid (Below w.heap.size w wc ∧ Src wc a m d ∧ Src wc (some ⟨g9, 0, none⟩) (L + m) (fun j => (l ++ rowL d m).getD j 0)) := ⟨hx1, hx2, hx3⟩
            clear hx1 hx2 hx3 HB7
            generalize hdW : (fun j => (l ++ rowL d m).getD j 0) = dW at *
            have HGV : Hid (gvr (fun j => if j < L + m then dW j else 201) (L + m) = some (foldN n, L)) := HV.out.2 _ _ (fun j hj => by
              show (if j < L + m then dW j else 201) = l.getD j 0
              rw [if_pos (by omega), ← hdW]
              show (l ++ rowL d m).getD j 0 = l.getD j 0
              rw [List.getD_eq_getElem?_getD, List.getElem?_append_left (by rw [HLe.out]; exact hj), ← List.getD_eq_getElem?_getD]) (by omega)
            clear hdW
            generalize hNe : L + m = N at *
            have HNe : Hid (L + m = N) := hNe
            have hN : N ≤ 140737488355000 := by omega
            have hNc : (L : Int) + (m : Int) = (N : Int) := by omega
            clear hNe
            go_wp2_with (go_at_call 20; fail)
            -- STAGE5
            refine (lent_big (some ⟨g9, 0, none⟩) N c9 dW wc hN HB9.out.2.2).mono ?_
            rintro e w10 ⟨rfl, ho10, hb10⟩
            have HB10 : Hid (Below w.heap.size w w10 ∧ Src w10 a m d ∧ Src w10 (some ⟨g9, 0, none⟩) N dW ∧ OwnA w10 wc.heap.size (N + 8) (fun j => if j < N then dW j else 201)) := ⟨HB9.out.1.trans (hb10.mono HB9.out.1.size), HB9.out.2.1.below hb10, HB9.out.2.2.below hb10, ho10⟩
            clear hb10 ho10 HB9
            generalize wc.heap.size = G at *
            have hgvc := GetVar_any (some ⟨G, 0, none⟩) N (N + 8) (fun j => if j < N then dW j else 201) w10 (.inr ⟨G, 0, rfl, HB10.out.2.2.2.row (by omega)⟩) (by omega)
            rw [HGV.out, show gvV (some (foldN n, L)) = n from unf_fold n, show gvK (some (foldN n, L)) = L from rfl] at hgvc
            have hL1' : (1 : Int) ≤ (L : Int) := by have := HL1.out; omega
            have hL10' : (L : Int) ≤ 10 := by omega
            have hnn : (n != n) = false := by simp
            have hLL : ((L : Int) != (L : Int)) = false := by simp
            have hNN : (N : Int) ≤ (N : Int) + 8 := by omega
            have hN8 : N ≤ N + 8 := by omega
            go_wp2_with (go_at_call 21; fail)
            refine hgvc.mono ?_
            rintro e w10 ⟨rfl, rfl⟩
            clear hgvc
            go_wp2_with (go_at_call 22; fail)
            refine (still_big G N _ (some ⟨g9, 0, none⟩) c9 dW _ hN HB10.out.2.2.1 HB10.out.2.2.2).mono ?_
            rintro e w11 ⟨rfl, q11, hw11⟩
            have HB11 : Hid (Below w.heap.size w w11 ∧ Src w11 a m d) := by
              rw [hw11]
              exact ⟨below_drewN HB10.out.1 _, HB10.out.2.1.below (below_drewN (Below.refl _ _) _)⟩
            clear hw11 HB10 HGV
            have hgb := GetVar_any a m cap d w11 HB11.out.2 (by omega)
            generalize hR2 : gvr d m = R2 at *
            go_wp2_with (go_at_call 21; fail)
            refine hgb.mono ?_
            rintro e w11 ⟨rfl, rfl⟩
            clear hgb
            go_upto_region 29 with fail
            go_cut [176] (fun b wx => b = .bool false ∧ Below w.heap.size w wx ∧ Src wx a m d)
            case first => as_aux_lemma =>
              obtain hR | ⟨U, M, hR⟩ : R2 = none ∨ ∃ U M, R2 = some (U, M) := by
                cases R2 with
                | none => exact .inl rfl
                | some q => exact .inr ⟨q.1, q.2, rfl⟩
              · have hK : ((gvK R2 : Nat) : Int) = 0 := by rw [hR]; rfl
                generalize ((gvK R2 : Nat) : Int) = K at *
                subst hK
                clear hR hR2
                generalize gvV R2 = V at *
                have hm0 : decide ((m : Int) < 0) = false := decide_eq_false (by omega)
                go_region
                all_goals go_wp2_with fail
                all_goals go_meet
                all_goals exact ⟨rfl, HB11.out.1.drew, HB11.out.2.below (Below.refl _ _).drew⟩
              · rw [hR] at hR2
                obtain ⟨hU, hM0, hMm, hM10, hVL⟩ := var_of_gvr d m U M HB11.out.2.lt hR2
                obtain ⟨u0, u1⟩ := unf_bounds hU
                have hp : ∀ w', Calls Tryd.prog 19 #[.slice none 0 0, .int .i64 (unf U)] w' fun e w2 => ∃ v, e = .returned v ∧ w2.ownsRow w'.heap.size 5 1 v M (bvals ((List.range M).map d)) ∧ Below w'.heap.size w' w2 := fun w' => by
                  have hp := PutVar_any none 0 0 (fun _ => 0) (unf U) w' (by omega) u0 u1 (.inl rfl) (fun _ => ⟨rfl, rfl⟩)
                  rw [fold_unf, hVL, Nat.zero_add, show rowL (fun _ => 0) 0 ++ (List.range M).map d = (List.range M).map d from rfl, show ((List.range M).map d).length = M by simp] at hp
                  exact hp
                have e1 : gvV R2 = unf U := by rw [hR]; rfl
                have e2 : gvK R2 = M := by rw [hR]; rfl
                clear hR hR2 hVL
                generalize unf U = V at *
                generalize gvV R2 = V' at *
                generalize gvK R2 = K at *
                subst e1 e2
                have hM1 : (1 : Int) ≤ (K : Int) := by omega
                have hMm' : (K : Int) ≤ (m : Int) := by omega
                have hMc : K ≤ cap := by omega
                have q1 : decide ((m : Int) < (K : Int)) = false := decide_eq_false (by omega)
                have q2 : decide ((K : Int) < 0) = false := decide_eq_false (by omega)
                have q3 : decide ((0 : Int) < (K : Int)) = true := decide_eq_true (by omega)
                have q1n : decide (m < K) = false := decide_eq_false (by omega)
                have q3n : decide (0 < K) = true := decide_eq_true (by omega)
                have HK : Hid (0 < K) := hM0
                obtain ⟨b0, off0, rfl⟩ : ∃ b0 off0, a = some ⟨b0, off0, none⟩ := by
                  rcases HB11.out.2 with h0 | ⟨b, off, h, _⟩
                  · omega
                  · exact ⟨b, off, h⟩
                have HCW : Hid (∀ w', Below w11.heap.size w11 w' → (convert 29 9 (.slice (some ⟨b0, off0, none⟩) K cap)).run Tryd.prog w' = .ok (.string (strOfNums (((List.range K).map d).map fun x : Nat => (x : Int)))) w') := fun w' hb => by
                  obtain ⟨b1, off1, e, h⟩ := src_str (cap := cap) (HB11.out.2.below hb) hMm HK.out
                  simp only [Option.some.injEq, Addr.mk.injEq, and_true] at e
                  obtain ⟨rfl, rfl⟩ := e
                  exact h
                have HCV : Hid (∀ w' B g c, w'.ownsRow B 5 1 (.slice (some ⟨g, 0, none⟩) K c) K (bvals ((List.range K).map d)) → (convert 29 9 (.slice (some ⟨g, 0, none⟩) K c)).run Tryd.prog w' = .ok (.string (strOfNums (((List.range K).map d).map fun x : Nat => (x : Int)))) w') := fun w' B g c h => own_str h
                generalize strOfNums (((List.range K).map d).map fun x : Nat => (x : Int)) = SS at *
                generalize bvals ((List.range K).map d) = BV at *
                have hcd := HCW.out _ (Below.refl _ w11).drew
                have HP : Hid (∀ w', Calls Tryd.prog 19 #[.slice none 0 0, .int .i64 V'] w' fun e w2 => ∃ g c, e = .returned (.slice (some ⟨g, 0, none⟩) K c) ∧ (convert 29 9 (.slice (some ⟨g, 0, none⟩) K c)).run Tryd.prog w2 = .ok (.string SS) w2 ∧ Below w'.heap.size w' w2) := fun w' => by
                  refine (hp w').mono ?_
                  rintro e w2 ⟨v, rfl, ho, hb⟩
                  obtain ⟨g, c, rfl, _, _⟩ := ho.form HK.out
                  exact ⟨g, c, rfl, HCV.out _ _ _ _ ho, hb⟩
                clear hp HCV hnn hLL hNN hN8 hL1' hL10' hNc hN hi hz0' hz1' hz2' hQb HV HL1 HLe HNe hanil hu hs
                have hB11 : Below w11.heap.size w11 w11.drew := (Below.refl _ w11).drew
                go_region_held (fun w' => Below w11.heap.size w11 w' ∧ (convert 29 9 (.slice (some ⟨b0, off0, none⟩) K cap)).run Tryd.prog w' = .ok (.string SS) w') (first | exact ⟨hB12, HCW.out _ hB12⟩ | exact ⟨hB11, HCW.out _ hB11⟩) (first | (go_at_call 19; refine (HP.out _).mono ?_; rintro e w12 ⟨g12, c12, rfl, hcv, hb12⟩; have hB12 : Below w11.heap.size w11 w12 := hB11.trans hb12))
                all_goals go_wp2_with fail
                all_goals go_meet
                all_goals exact ⟨rfl, HB11.out.1.trans (hB12.mono HB11.out.1.size), HB11.out.2.below hB12⟩
            case rest => as_aux_lemma =>
              obtain ⟨rfl, hx1, hx2⟩ := hcut
              have HB12 : Hid (Below w.heap.size w wc ∧ Src wc a m d) := ⟨hx1, hx2⟩
              clear hx1 hx2 HB11
              by_cases hzz : 1 ≤ z ∧ z ≤ 8
              · obtain ⟨k, rfl⟩ : ∃ k : Nat, z = k := ⟨z.toNat, by omega⟩
                have f1 : (1 : Int) ≤ (k : Int) := hzz.1
                have f2 : (k : Int) ≤ 8 := hzz.2
                clear hzz
                obtain ⟨x0, x1⟩ := bounds_u64 hu
                obtain ⟨U, rfl⟩ : ∃ U : Nat, u = U := ⟨u.toNat, by omega⟩
                have HPU := Put_any none 0 0 (fun _ => 0) U k (by omega) wc (by omega) (by omega) (.inl rfl) (fun _ => ⟨rfl, rfl⟩)
                rw [Nat.zero_add, show rowL (fun _ => 0) 0 ++ putTo U k k = putTo U k k from rfl] at HPU
                go_upto_region 33 with fail
                go_cut [31, 32] (fun x y wx => x = .int .u64 ((U % 2 ^ (8 * k) : Nat) : Int) ∧ y = .bool true ∧ Below w.heap.size w wx)
                case first => as_aux_lemma =>
                  go_wp2_with (go_at_call 24; fail)
                  refine HPU.mono ?_
                  rintro e w13 ⟨v13, rfl, ho13, hb13⟩
                  obtain ⟨g13, c13, rfl, _, _⟩ := ho13.form (by omega)
                  cases a with
                  | none =>
                    obtain ⟨hm0, hc0⟩ := hanil rfl
                    subst hm0 hc0
                    have hgt := Get_yes (some ⟨g13, 0, none⟩) k c13 _ k w13 (own_src ho13 (fun x hx => putTo_lt hx)) (by omega) (by omega) (Nat.le_refl _) (own_cap ho13) (by omega)
                    rw [show getN (fun j => (putTo U k k).getD j 0) k = U % 2 ^ (8 * k) from by have := put_get U k []; rwa [List.append_nil] at this] at hgt
                    have hcap13 : k ≤ c13 := own_cap ho13
                    go_wp2_with (go_at_call 23; fail)
                    refine hgt.mono ?_
                    rintro e w13 ⟨rfl, rfl⟩
                    go_wp2_with fail
                    all_goals go_meet
                    all_goals exact ⟨rfl, rfl, HB12.out.1.trans (hb13.mono HB12.out.1.size)⟩
                  | some ad =>
                    have HS13 : Hid (Src w13 (some ad) m d) := HB12.out.2.below hb13
                    go_wp2_with (at_builtin; refine wpList_append_own _ rfl _ _ 29 rfl wc.heap.size 5 i0 (.int .u8 0) 1 1 Tryd.underlying29 hi hz0' hz1' hz2' rfl (by decide) _ k (bvals (putTo U k k)) rfl ho13 ad m cap (bvals (rowL d m)) rfl (by rw [bvals_length, rowL_length, Nat.mul_one]) (src_cells HS13.out ad rfl) (bvals_one _) (by unfold maxLen; omega) (by omega) hb13.size ?_; intro v14 w14 hown14 hgrow14 hnil14)
                    obtain ⟨g14, c14, rfl, _, _⟩ := hown14.form (by omega)
                    have hgt := Get_yes (some ⟨g14, 0, none⟩) (k + m) c14 _ k w14 (own_src (l := putTo U k k ++ rowL d m) (by rw [bvals_append]; simpa using hown14) (fun x hx => by
                      rcases List.mem_append.1 hx with h | h
                      · exact putTo_lt h
                      · exact rowL_lt HS13.out x h)) (by omega) (by omega) (by omega) (own_cap hown14) (by omega)
                    rw [put_get U k (rowL d m)] at hgt
                    have hb14 : Below wc.heap.size w13 w14 := below_grownBy (Below.refl _ w13) hgrow14 hb13.size (fun j hj => (ho13.lt j hj).1)
                    refine hgt.mono ?_
                    rintro e w14 ⟨rfl, rfl⟩
                    go_wp2_with fail
                    all_goals go_meet
                    all_goals exact ⟨rfl, rfl, HB12.out.1.trans ((hb13.trans hb14).mono HB12.out.1.size)⟩
                case rest => as_aux_lemma =>
                  obtain ⟨rfl, rfl, hx1⟩ := hcut
                  have HB14 : Hid (Below w.heap.size w wc) := hx1
                  clear hx1
                  by_cases hk8 : k = 8
                  · subst hk8
                    have e : U % 2 ^ (8 * 8) = U := Nat.mod_eq_of_lt (by omega)
                    rw [e]
                    have hUU : ((U : Int) == (U : Int)) = true := by simp
                    go_wp2
                    all_goals go_ret
                    all_goals exact ⟨by simp, HB14.out⟩
                  · have e : ((U % 2 ^ (8 * k) : Nat) : Int) = (U : Int) % 2 ^ (8 * k) := by simp
                    have hk : k = 1 ∨ k = 2 ∨ k = 3 ∨ k = 4 ∨ k = 5 ∨ k = 6 ∨ k = 7 := by omega
                    rw [e]
                    clear e hk8 f1 f2
                    rcases hk with rfl | rfl | rfl | rfl | rfl | rfl | rfl
                    all_goals go_wp2
                    all_goals go_ret
                    all_goals exact ⟨by simp, HB14.out⟩
              · by_cases hz1x : z < 1
                · go_wp2
                  go_ret
                  exact ⟨rfl, HB12.out.1⟩
                · have hz8 : 8 < z := by omega
                  go_wp2
                  go_ret
                  exact ⟨rfl, HB12.out.1⟩
end Go.Proofs.YtnnfepapnimlcabDoor
