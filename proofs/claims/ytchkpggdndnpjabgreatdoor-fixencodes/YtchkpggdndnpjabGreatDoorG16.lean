import Derived.Test.YtchkpggdndnpjabGreatDoorG12
import Derived.Deep.RegionWith
import Derived.Deep.CutBlock
import Derived.Deep.RegionHeld

namespace Go.Proofs.YtchkpggdndnpjabGreatDoor
set_option linter.unusedVariables false
open Go.RowKit

/-- The table of the powers of ten lies there. -/
def Pow (w : World) : Prop := Lib.TabIs Tryz.prog w "internal/strconv.uint64pow10" .u64 Lib.pow10Tab
theorem Pow.below {w w' : World} (h : Pow w) (hb : Below w.heap.size w w') : Pow w' := tabIs_below h hb
theorem bs_tail (l : List UInt8) : (bs l).extract 1 (bs l).size = bs l.tail := by
  have h := tail_data (bs l)
  rw [bs_list] at h
  rw [← h]; rfl
theorem print_thousand {n : Nat} (h : n < 256) : Lib.itoa ((1000 : Int) + (n : Int)) = 49 :: three n := by
  rw [show (1000 : Int) + (n : Int) = ((1000 + n : Nat) : Int) by omega, Lib.itoa_nonneg, dec_thousand h]
set_option maxRecDepth 100000 in
theorem printSum_any (n : Nat) (hn : n < 256) (w : World) (hp : Pow w) :
    Calls Tryz.prog 45 #[.int .i64 (n : Int)] w fun e w' => e = .returned (.string (bs (three n))) ∧ Below w.heap.size w w' := by
  have h1 := Print_any ((1000 : Int) + (n : Int)) (by omega) (by omega) w hp
  rw [print_thousand hn] at h1
  have h2 : (⟨(49 :: three n).toArray⟩ : ByteArray) = bs (49 :: three n) := rfl
  rw [h2] at h1
  have h3 := bs_tail (49 :: three n)
  have h4 : (bs (49 :: three n)).size = 4 := rfl
  rw [h4] at h3
  rw [show (49 :: three n : List UInt8).tail = three n from rfl] at h3
  generalize bs (49 :: three n) = B at *
  generalize bs (three n) = C at *
  go_enter Tryz.func45, Tryz.ntmps45
  go_wp2_with (go_at_call 42; refine h1.mono ?_; rintro e w' ⟨rfl, hb⟩)
  go_ret
  refine ⟨?_, hb⟩
  first | exact rfl | exact ret_str h3 | (rw [← h3]; rfl)

/-- What checkLast tells. -/
def LastRet (r : Option (Int × Nat)) (w : World) (x : Ending) (w' : World) : Prop :=
  Below w.heap.size w w' ∧ match r with
  | none => x = .returned .nilIface
  | some (e, a) => ∃ g, w.heap.size ≤ g ∧ x = .returned (.iface 62 (.pointer (some ⟨g, 0, none⟩))) ∧ FaultAt w' g e a
theorem LastRet.ok {r : Option (Int × Nat)} {w w' : World} {x : Ending} (h : r = none) (hb : Below w.heap.size w w') (hx : x = .returned .nilIface) : LastRet r w x w' := by
  refine ⟨hb, ?_⟩; rw [h]; exact hx
theorem LastRet.bad {r : Option (Int × Nat)} {w w' : World} {x : Ending} {e : Int} {a g : Nat} (h : r = some (e, a)) (hb : Below w.heap.size w w') (hg : w.heap.size ≤ g) (hx : x = .returned (.iface 62 (.pointer (some ⟨g, 0, none⟩)))) (hf : FaultAt w' g e a) : LastRet r w x w' := by
  refine ⟨hb, ?_⟩; rw [h]; exact ⟨g, hg, hx, hf⟩
def tenB : ByteArray := ⟨#[49, 48, 61]⟩
theorem neq_str (a b : List UInt8) : ((bs a).toList == (bs b).toList) = decide (a = b) := by
  rw [Lib.toList_data, Lib.toList_data, bs_list, bs_list]
  by_cases h : a = b <;> simp [h]
set_option maxRecDepth 100000 in
set_option maxHeartbeats 400000 in
theorem checkLast_any (s : ByteArray) (a n : Nat) (w : World) (hs : s.size ≤ 1024) (ha : s.size = a + 7) (hn : n < 256) (hp : Pow w) :
    Calls Tryz.prog 210 #[.string s, .int .i64 (a : Int), .int .i64 (n : Int)] w fun x w' => LastRet (lastL s.data.toList a n) w x w' := by
  have hm : s.size ≤ maxLen := by unfold maxLen; omega
  have ha' : (a : Int) ≤ (s.size : Int) := by omega
  have f1 : (a : Int) + 3 ≤ (s.size : Int) := by omega
  have f2 : (a : Int) + 6 ≤ (s.size : Int) := by omega
  clear ha
  have h1 := samePrefix_any (s.extract a s.size) tenB w (by have := extract_le s a s.size; omega) (by decide)
  rw [drop_data, show tenB.data.toList = tenL from rfl] at h1
  have hpl : pre (s.data.toList.drop a) tenL ≤ 3 := pre_le _ _
  by_cases hA : pre (s.data.toList.drop a) tenL < 3
  · have hB : Hid (lastL s.data.toList a n = some (40, a + pre (s.data.toList.drop a) tenL)) := by show lastL _ _ _ = _; unfold lastL; rw [if_pos hA]
    generalize lastL s.data.toList a n = R at *
    generalize pre (s.data.toList.drop a) tenL = k at *
    have hA' : (k : Int) < 3 := by omega
    go_enter Tryz.func210, Tryz.ntmps210
    go_wp2_with (go_at_call 244; fail)
    refine h1.mono ?_
    rintro e w1 ⟨rfl, q, rfl⟩
    go_wp2_with (go_at_call 208; fail)
    refine (fault_any 40 _ (a + k) (by omega) _).mono ?_
    rintro e w2 ⟨rfl, hf, hb⟩
    have HX : Hid (FaultAt w2 w.heap.size 40 (a + k) ∧ Below w.heap.size w w2) := ⟨hf, (below_drewN (Below.refl _ w) q).trans hb⟩
    clear hf hb
    go_wp2
    go_ret
    exact .bad hB.out HX.out.2 (Nat.le_refl _) rfl HX.out.1
  · have hk3 : pre (s.data.toList.drop a) tenL = 3 := by omega
    rw [hk3] at h1
    have h2 := fun w => count_dig (s.extract (a + 3) (a + 3 + 3)) w (by have := extract_le s (a + 3) (a + 3 + 3); omega)
    have hd3 : (s.extract (a + 3) (a + 3 + 3)).data.toList = (s.data.toList.drop (a + 3)).take 3 := by rw [Lib.extract_data, show a + 3 + 3 - (a + 3) = 3 by omega]
    simp only [hd3] at h2
    have hcl : cnt dig ((s.data.toList.drop (a + 3)).take 3) ≤ 3 := by have := cnt_le dig ((s.data.toList.drop (a + 3)).take 3); simp at this; omega
    by_cases hC : cnt dig ((s.data.toList.drop (a + 3)).take 3) < 3
    · have hB : Hid (lastL s.data.toList a n = some (40, a + 3 + cnt dig ((s.data.toList.drop (a + 3)).take 3))) := by show lastL _ _ _ = _; unfold lastL; rw [if_neg hA, if_pos hC]
      generalize lastL s.data.toList a n = R at *
      clear hA hk3 hpl
      generalize cnt dig ((s.data.toList.drop (a + 3)).take 3) = k at *
      have hC' : (k : Int) < 3 := by omega
      go_enter Tryz.func210, Tryz.ntmps210
      go_wp2_with (go_at_call 244; fail)
      refine h1.mono ?_
      rintro e w1 ⟨rfl, q, rfl⟩
      go_wp2_with (go_at_call 179; fail)
      refine (h2 _).mono ?_
      rintro e w1 ⟨rfl, rfl⟩
      go_wp2_with (go_at_call 208; fail)
      refine (fault_any 40 _ (a + 3 + k) (by omega) _).mono ?_
      rintro e w2 ⟨rfl, hf, hb⟩
      have HX : Hid (FaultAt w2 w.heap.size 40 (a + 3 + k) ∧ Below w.heap.size w w2) := ⟨hf, (below_drewN (Below.refl _ w) q).trans hb⟩
      clear hf hb
      go_wp2
      go_ret
      exact .bad hB.out HX.out.2 (Nat.le_refl _) rfl HX.out.1
    · have hc3 : cnt dig ((s.data.toList.drop (a + 3)).take 3) = 3 := by omega
      simp only [hc3] at h2
      have h3 := fun z hz w => stands_any s (a + 6) z hz 1 1 rfl w hm (by unfold maxLen; omega)
      by_cases hD : s.data.toList[a + 6]? = some 1
      · have hT : isAt s.data.toList (a + 6) 1 = true := decide_eq_true hD
        simp only [hT] at h3
        have hP := fun w' (hb : Below w.heap.size w w') => printSum_any n hn w' (hp.below hb)
        have hq : (s.extract (a + 3) (a + 3 + 3)) = bs ((s.data.toList.drop (a + 3)).take 3) := by rw [← hd3]; rfl
        have hx := neq_str ((s.data.toList.drop (a + 3)).take 3) (three n)
        rw [← hq] at hx
        by_cases hE : (s.data.toList.drop (a + 3)).take 3 = three n
        · have hB : Hid (lastL s.data.toList a n = none) := by show lastL _ _ _ = _; unfold lastL; rw [if_neg hA, if_neg hC, if_neg (fun h => h hD), if_pos hE]
          rw [decide_eq_true hE] at hx
          generalize lastL s.data.toList a n = R at *
          clear hA hk3 hpl hcl hC hc3 hq hE hT hD hd3
          generalize bs (three n) = B at *
          have HP : Hid (∀ w', Below w.heap.size w w' → Calls Tryz.prog 45 #[.int .i64 (n : Int)] w' fun e w2 => e = .returned (.string B) ∧ Below w'.heap.size w' w2) := hP
          clear hP
          go_enter Tryz.func210, Tryz.ntmps210
          go_wp2_with (go_at_call 244; fail)
          refine h1.mono ?_
          rintro e w1 ⟨rfl, q, rfl⟩
          go_wp2_with (go_at_call 179; fail)
          refine (h2 _).mono ?_
          rintro e w1 ⟨rfl, rfl⟩
          go_wp2_with (go_at_call 246; fail)
          refine (h3 _ (by omega) _).mono ?_
          rintro e w1 ⟨rfl, rfl⟩
          go_upto_region 11 with fail
          go_region_with (go_at_call 45; refine (HP.out _ (below_drewN (Below.refl _ w) _)).mono ?_; rintro e w2 ⟨rfl, hb2⟩; have HB2 : Hid (Below w.heap.size w w2) := (below_drewN (Below.refl _ w) _).trans hb2; clear hb2)
          all_goals go_wp2
          all_goals go_ret
          all_goals exact .ok hB.out HB2.out rfl
        · have hB : Hid (lastL s.data.toList a n = some (44, a + 3)) := by show lastL _ _ _ = _; unfold lastL; rw [if_neg hA, if_neg hC, if_neg (fun h => h hD), if_neg hE]
          rw [decide_eq_false hE] at hx
          generalize lastL s.data.toList a n = R at *
          clear hA hk3 hpl hcl hC hc3 hq hE hT hD hd3
          generalize bs (three n) = B at *
          have HP : Hid (∀ w', Below w.heap.size w w' → Calls Tryz.prog 45 #[.int .i64 (n : Int)] w' fun e w2 => e = .returned (.string B) ∧ Below w'.heap.size w' w2) := hP
          clear hP
          go_enter Tryz.func210, Tryz.ntmps210
          go_wp2_with (go_at_call 244; fail)
          refine h1.mono ?_
          rintro e w1 ⟨rfl, q, rfl⟩
          go_wp2_with (go_at_call 179; fail)
          refine (h2 _).mono ?_
          rintro e w1 ⟨rfl, rfl⟩
          go_wp2_with (go_at_call 246; fail)
          refine (h3 _ (by omega) _).mono ?_
          rintro e w1 ⟨rfl, rfl⟩
          go_upto_region 11 with fail
          go_region_with (go_at_call 45; refine (HP.out _ (below_drewN (Below.refl _ w) _)).mono ?_; rintro e w2 ⟨rfl, hb2⟩; have HB2 : Hid (Below w.heap.size w w2) := (below_drewN (Below.refl _ w) _).trans hb2; clear hb2)
          all_goals go_wp2_with (go_at_call 208; fail)
          all_goals (refine (fault_any 44 _ (a + 3) (by omega) _).mono ?_)
          all_goals (rintro e w3 ⟨rfl, hf, hb⟩)
          all_goals (have HX : Hid (FaultAt w3 w2.heap.size 44 (a + 3) ∧ Below w.heap.size w w3 ∧ w.heap.size ≤ w2.heap.size) := ⟨hf, HB2.out.trans (hb.mono HB2.out.size), HB2.out.size⟩)
          all_goals (clear hf hb HB2)
          all_goals go_wp2
          all_goals go_ret
          all_goals exact .bad hB.out HX.out.2.1 HX.out.2.2 rfl HX.out.1
      · have hT : isAt s.data.toList (a + 6) 1 = false := decide_eq_false hD
        simp only [hT] at h3
        have hB : Hid (lastL s.data.toList a n = some (40, a + 6)) := by show lastL _ _ _ = _; unfold lastL; rw [if_neg hA, if_neg hC, if_pos hD]
        generalize lastL s.data.toList a n = R at *
        clear hA hk3 hpl hcl hC hc3 hT hD
        go_enter Tryz.func210, Tryz.ntmps210
        go_wp2_with (go_at_call 244; fail)
        refine h1.mono ?_
        rintro e w1 ⟨rfl, q, rfl⟩
        go_wp2_with (go_at_call 179; fail)
        refine (h2 _).mono ?_
        rintro e w1 ⟨rfl, rfl⟩
        go_wp2_with (go_at_call 246; fail)
        refine (h3 _ (by omega) _).mono ?_
        rintro e w1 ⟨rfl, rfl⟩
        go_wp2_with (go_at_call 208; fail)
        refine (fault_any 40 _ (a + 6) (by omega) _).mono ?_
        rintro e w2 ⟨rfl, hf, hb⟩
        have HX : Hid (FaultAt w2 w.heap.size 40 (a + 6) ∧ Below w.heap.size w w2) := ⟨hf, (below_drewN (Below.refl _ w) q).trans hb⟩
        clear hf hb
        go_wp2
        go_ret
        exact .bad hB.out HX.out.2 (Nat.le_refl _) rfl HX.out.1
end Go.Proofs.YtchkpggdndnpjabGreatDoor
