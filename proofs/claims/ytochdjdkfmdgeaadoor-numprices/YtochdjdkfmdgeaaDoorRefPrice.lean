/-
  The reference's ParsePrice.
-/
import Derived.Test.YtochdjdkfmdgeaaDoorPrice2
namespace Go.Proofs.YtochdjdkfmdgeaaDoor
set_option linter.unusedVariables false
open Go.RowKit

theorem dot_is {s : ByteArray} {k : Nat} (h : s.data.toList[k]? = some 46) (g : ∀ j, j < k → s.data.toList[j]? ≠ some 46) : dotAt s = k := by
  unfold dotAt
  have hge := Lib.indexByte_ge s.data.toList 46
  by_cases h1 : Lib.indexByte s.data.toList 46 = -1
  · exact absurd h (Lib.indexByte_none h1 k)
  · obtain ⟨o, ho⟩ : ∃ o : Nat, Lib.indexByte s.data.toList 46 = o := ⟨(Lib.indexByte s.data.toList 46).toNat, by omega⟩
    obtain ⟨h2, h3⟩ := Lib.indexByte_some ho
    rw [ho]
    have : o = k := by
      rcases Nat.lt_trichotomy o k with h4 | h4 | h4
      · exact absurd h2 (g o h4)
      · exact h4
      · exact absurd h (h3 k h4)
    rw [this]
theorem dot_none {s : ByteArray} (g : ∀ j, j < s.size → s.data.toList[j]? ≠ some 46) : dotAt s < 0 := by
  by_cases h1 : dotAt s < 0
  · exact h1
  · obtain ⟨o, ho⟩ : ∃ o : Nat, dotAt s = o := ⟨(dotAt s).toNat, by omega⟩
    exact absurd (Lib.indexByte_some ho).1 (g o (dot_lt s o ho))
theorem numB_one_more (l : List UInt8) : numB (49 :: l) = digs l := by
  have h : digs (49 :: l) = digs l := by simp [digs, dig]
  cases l with
  | nil => rfl
  | cons d l => unfold numB; rw [h]; simp
theorem one_data (t : ByteArray) : ((⟨#[49]⟩ : ByteArray) ++ t).data.toList = 49 :: t.data.toList := by
  rw [ByteArray.data_append]; simp
theorem one_size (t : ByteArray) : ((⟨#[49]⟩ : ByteArray) ++ t).size = t.size + 1 := by
  rw [Lib.size_eq, one_data, List.length_cons, ← Lib.size_eq]
theorem numeral_more (t : ByteArray) (w : World) (hs : t.size ≤ 4) :
    Calls Tryd.prog 39 #[.string (⟨#[49]⟩ ++ t)] w fun e w' => e = .returned (.bool (digs t.data.toList)) ∧ w' = w := by
  have h := numeral_any (⟨#[49]⟩ ++ t) w (by rw [one_size]; exact Nat.le_trans (Nat.succ_le_succ hs) (by decide))
  rw [one_data, numB_one_more] at h; exact h
theorem puE_three (l : List UInt8) (m : Int) : puE l m = 0 ∨ puE l m = 10 ∨ puE l m = 11 := by
  unfold puE; split
  · split
    · exact .inl rfl
    · exact .inr (.inr rfl)
  · exact .inr (.inl rfl)
/-- Between two rounds of the last loop. -/
def accN (n : Int) (l : List UInt8) : Nat → Int
  | 0 => n
  | k + 1 => 10 * accN n l k + plc l[k]?
theorem accN_succ (n : Int) (l : List UInt8) (k : Nat) : accN n l (k + 1) = 10 * accN n l k + plc l[k]? := rfl
theorem plc_bd {l : List UInt8} (hd : digs l = true) (k : Nat) : 0 ≤ plc l[k]? ∧ plc l[k]? ≤ 9 := by
  cases hc : l[k]? with
  | none => exact ⟨by decide, by decide⟩
  | some c =>
    have := digs_mem hd hc
    have e : plc (some c) = (c.toNat : Int) - 48 := rfl
    omega
theorem accN_bd (n : Int) (h0 : 0 ≤ n) (h1 : n ≤ 100000) (l : List UInt8) (hd : digs l = true) (k : Nat) (hk : k ≤ 4) : 0 ≤ accN n l k ∧ accN n l k ≤ 1000009999 := by
  have z : accN n l 0 = n := rfl
  have s0 := accN_succ n l 0
  have s1 := accN_succ n l 1
  have s2 := accN_succ n l 2
  have s3 := accN_succ n l 3
  have p0 := plc_bd hd 0
  have p1 := plc_bd hd 1
  have p2 := plc_bd hd 2
  have p3 := plc_bd hd 3
  have : k = 0 ∨ k = 1 ∨ k = 2 ∨ k = 3 ∨ k = 4 := by omega
  rcases this with rfl | rfl | rfl | rfl | rfl <;> simp only [Nat.zero_add, Nat.reduceAdd] at * <;> omega
theorem accN_4 (n : Int) (l : List UInt8) : accN n l 4 = n * 10000 + restN l 4 := by
  have z : accN n l 0 = n := rfl
  have s0 := accN_succ n l 0
  have s1 := accN_succ n l 1
  have s2 := accN_succ n l 2
  have s3 := accN_succ n l 3
  have zz : restN l 0 = 0 := rfl
  have r0 := restN_succ l 0
  have r1 := restN_succ l 1
  have r2 := restN_succ l 2
  have r3 := restN_succ l 3
  simp only [Nat.zero_add, Nat.reduceAdd] at *
  omega
theorem accN_at (n : Int) (s : ByteArray) (k : Nat) (h : k < s.size) : accN n s.data.toList (k + 1) = 10 * accN n s.data.toList k + ((s[k].toNat : Int) - 48) := by
  rw [accN_succ, get_at s k h]; rfl
theorem accN_no (n : Int) (s : ByteArray) (k : Nat) (h : ¬ k < s.size) : accN n s.data.toList (k + 1) = 10 * accN n s.data.toList k := by
  rw [accN_succ, get_no s k h]; exact Int.add_zero _

set_option maxRecDepth 100000 in
set_option maxHeartbeats 1000000 in
theorem refParsePrice_any (s : ByteArray) (w : World) (hs : s.size ≤ maxLen) :
    Calls Tryd.prog 18 #[.string s] w fun e w' => e = .returned (.tuple #[.int .i64 (priceN s), .int .i64 (priceE s)]) ∧ w' = w := by
  have hs' := hs
  unfold maxLen at hs
  go_enter Tryd.func18, Tryd.ntmps18
  go_wp2
  go_loop [4, 5, 6] (fun wh pt i => ∃ k : Nat, k ≤ s.size ∧ i = .int .i64 k ∧ wh = .string s ∧ pt = .string ⟨#[]⟩ ∧ ∀ j, j < k → s.data.toList[j]? ≠ some 46) (fun _ _ i => s.size - (intOf i).toNat)
  case atStart => exact ⟨0, Nat.zero_le _, rfl, rfl, rfl, fun j hj => absurd hj (Nat.not_lt_zero _)⟩
  case round =>
    obtain ⟨k, hk, rfl, rfl, rfl, hj⟩ := hrel
    have HJ : Hid (∀ j, j < k → s.data.toList[j]? ≠ some 46) := hj
    clear hj
    by_cases hlt : k < s.size
    · by_cases h46 : (s[k].toNat : Int) = 46
      · have hck : s.data.toList[k]? = some 46 := by
          rw [get_at s k hlt]
          have : s[k] = 46 := UInt8.toNat_inj.1 ((by omega : s[k].toNat = 46).trans rfl)
          rw [this]
        have HI : Hid (dotAt s = k) := dot_is hck HJ.out
        have hpd : (s.extract (k + 1) s.size).data.toList = restL s := by
          rw [post_data]; unfold restL; rw [HI.out]; rfl
        have hwd : (s.extract 0 k).data.toList = wholeL s := by
          rw [pre_data]; unfold wholeL; rw [HI.out]; rfl
        have HPT : Hid ((s.extract (k + 1) s.size).data.toList = restL s) := hpd
        have HWH : Hid ((s.extract 0 k).data.toList = wholeL s) := hwd
        have hsz : (s.extract (k + 1) s.size).size = s.size - (k + 1) := by rw [ByteArray.size_extract]; omega
        have HSZ : Hid ((s.extract (k + 1) s.size).size = s.size - (k + 1)) := hsz
        have hwh : (s.extract 0 k).size ≤ maxLen := Nat.le_trans (pre_size s k) hs'
        clear hck hpd hwd hsz
        by_cases hpe : (s.extract (k + 1) s.size).toList = []
        · have HR : Hid (priceN s = 0 ∧ priceE s = 10) := price_bad (by rw [HI.out]; omega) (by
            rw [← HPT.out, ← Lib.toList_data, hpe]; decide)
          go_wp2_with fail
          go_ret2
          exact ⟨ret2 (vint HR.out.1.symm) (vint HR.out.2.symm), rfl⟩
        have e2 : (s.extract (k + 1) s.size).toList.isEmpty = false := by simpa using hpe
        by_cases h4 : 4 < ((s.size - (k + 1) : Nat) : Int)
        · have HR : Hid (priceN s = 0 ∧ priceE s = 10) := price_bad (by rw [HI.out]; omega) (by
            rw [← HPT.out]
            unfold restB
            rw [decide_eq_false (by rw [← Lib.size_eq, HSZ.out]; omega)]; simp)
          go_wp2_with fail
          go_ret2
          exact ⟨ret2 (vint HR.out.1.symm) (vint HR.out.2.symm), rfl⟩
        have hpt4 : (s.extract (k + 1) s.size).size ≤ 4 := by rw [HSZ.out]; omega
        have HRB : Hid (digs (s.extract (k + 1) s.size).data.toList = true → restB (s.extract (k + 1) s.size).data.toList = true) := fun h => by
          unfold restB
          rw [h, decide_eq_true (by rw [← Lib.size_eq]; exact hpt4), ← Lib.toList_data, e2]; rfl
        go_wp2_with fail
        clear e2 hpe h4 HSZ
        generalize s.extract (k + 1) s.size = pt at *
        generalize s.extract 0 k = wh at *
        refine (numeral_more pt _ hpt4).mono ?_
        rintro e w1 ⟨rfl, hw1⟩
        subst hw1
        by_cases hd : digs pt.data.toList = true
        · have HPR : Hid (priceN s = prcN wh.data.toList pt.data.toList ∧ priceE s = prcE wh.data.toList pt.data.toList) := by
              have h := price_dot (s := s) (by rw [HI.out]; omega) (by rw [← HPT.out]; exact HRB.out hd)
              rw [← HPT.out, ← HWH.out] at h; exact h
          have HD : Hid (digs pt.data.toList = true) := hd
          by_cases h10 : puE wh.data.toList 100000 = 10
          · have HR : Hid (priceN s = 0 ∧ priceE s = 10) := by
              have h := prc_err (wh := wh.data.toList) (r := pt.data.toList) (by rw [h10]; decide)
              exact ⟨HPR.out.1.trans h.1, HPR.out.2.trans (h.2.trans h10)⟩
            have hds : digs pt.data.toList = true := hd
            go_wp2_with (go_at_call 28; refine (refParseUint_any _ _ _ hwh (by decide)).mono ?_; rintro e w2 ⟨rfl, hw2⟩)
            subst hw2
            go_ret2
            exact ⟨ret2 (vint HR.out.1.symm) (vint HR.out.2.symm), rfl⟩
          by_cases hz : puE wh.data.toList 100000 = 0
          · have hb := pu_bd wh.data.toList 100000 (by decide)
            obtain ⟨hb0, hb1⟩ := hb
            have hb2 := pu_le_most wh.data.toList 100000 (by decide)
            clear h10
            go_wp2_with (go_at_call 28; refine (refParseUint_any _ _ _ hwh (by decide)).mono ?_; rintro e w2 ⟨rfl, hw2⟩)
            subst hw2
            clear hd
            have HZ : Hid (puE wh.data.toList 100000 = 0) := hz
            clear hz
            go_loop [8, 10] (fun n i => ∃ m : Nat, m ≤ 4 ∧ i = .int .i64 m ∧ n = .int .i64 (accN (puN wh.data.toList 100000) pt.data.toList m)) (fun _ i => 4 - (intOf i).toNat)
            case atStart => exact ⟨0, Nat.zero_le _, rfl, rfl⟩
            case round =>
              obtain ⟨m, hm, rfl, rfl⟩ := hrel
              have hab := accN_bd _ hb0 hb2 _ HD.out m hm
              obtain ⟨ha0, ha1⟩ := hab
              by_cases hm4 : m < 4
              · have hm4' : (m : Int) < 4 := by omega
                by_cases hmp : m < pt.size
                · have hmp' : (m : Int) < (pt.size : Int) := by omega
                  have hdb := digs_at pt m hmp HD.out
                  obtain ⟨hd1, hd2⟩ := hdb
                  have HA : Hid (accN (puN wh.data.toList 100000) pt.data.toList (m + 1) = 10 * accN (puN wh.data.toList 100000) pt.data.toList m + ((pt[m].toNat : Int) - 48)) := accN_at _ pt m hmp
                  generalize accN (puN wh.data.toList 100000) pt.data.toList m = v at *
                  go_wp2
                  go_round
                  case rel => exact ⟨m + 1, by omega, by go_num, by rw [HA.out]⟩
                  case measure => simp [intOf]; omega
                · have HA : Hid (accN (puN wh.data.toList 100000) pt.data.toList (m + 1) = 10 * accN (puN wh.data.toList 100000) pt.data.toList m) := accN_no _ pt m hmp
                  have hmp' : ¬ (m : Int) < (pt.size : Int) := by omega
                  generalize accN (puN wh.data.toList 100000) pt.data.toList m = v at *
                  go_wp2
                  go_round
                  case rel => exact ⟨m + 1, by omega, by go_num, by rw [HA.out]⟩
                  case measure => simp [intOf]; omega
              · have em : m = 4 := by omega
                subst em
                have H4 : Hid (accN (puN wh.data.toList 100000) pt.data.toList 4 = puN wh.data.toList 100000 * 10000 + restN pt.data.toList 4) := accN_4 (puN wh.data.toList 100000) pt.data.toList
                by_cases hmax : accN (puN wh.data.toList 100000) pt.data.toList 4 ≤ 1000000000
                · have HR : Hid (priceN s = accN (puN wh.data.toList 100000) pt.data.toList 4 ∧ priceE s = 0) := by
                    have h := prc_ok (wh := wh.data.toList) (r := pt.data.toList) HZ.out (by rw [← H4.out]; exact hmax)
                    exact ⟨HPR.out.1.trans (h.1.trans H4.out.symm), HPR.out.2.trans h.2⟩
                  generalize accN (puN wh.data.toList 100000) pt.data.toList 4 = v at *
                  go_wp2
                  go_ret2
                  exact ⟨ret2 (vint HR.out.1.symm) (vint HR.out.2.symm), rfl⟩
                · have HR : Hid (priceN s = 0 ∧ priceE s = 11) := by
                    have h := prc_gt (wh := wh.data.toList) (r := pt.data.toList) HZ.out (by rw [← H4.out]; exact hmax)
                    exact ⟨HPR.out.1.trans h.1, HPR.out.2.trans h.2⟩
                  generalize accN (puN wh.data.toList 100000) pt.data.toList 4 = v at *
                  go_wp2
                  go_ret2
                  exact ⟨ret2 (vint HR.out.1.symm) (vint HR.out.2.symm), rfl⟩
          · have h11 : puE wh.data.toList 100000 = 11 := by
              have := puE_three wh.data.toList 100000
              rcases this with h | h | h
              · exact absurd h hz
              · exact absurd h h10
              · exact h
            have HR : Hid (priceN s = 0 ∧ priceE s = 11) := by
              have h := prc_err (wh := wh.data.toList) (r := pt.data.toList) hz
              exact ⟨HPR.out.1.trans h.1, HPR.out.2.trans (h.2.trans h11)⟩
            clear hz h10
            go_wp2_with (go_at_call 28; refine (refParseUint_any _ _ _ hwh (by decide)).mono ?_; rintro e w2 ⟨rfl, hw2⟩)
            subst hw2
            go_ret2
            exact ⟨ret2 (vint HR.out.1.symm) (vint HR.out.2.symm), rfl⟩
        · have hd' : digs pt.data.toList = false := by simpa using hd
          have hd0 : Hid (¬ digs pt.data.toList = true) := hd
          have HR : Hid (priceN s = 0 ∧ priceE s = 10) := price_bad (by rw [HI.out]; omega) (by rw [← HPT.out]; exact fun h => hd0.out (restB_digs h))
          clear hd
          go_wp2_with (go_at_call 28; refine (refParseUint_any _ _ _ hwh (by decide)).mono ?_; rintro e w2 ⟨rfl, hw2⟩)
          subst hw2
          go_ret2
          exact ⟨ret2 (vint HR.out.1.symm) (vint HR.out.2.symm), rfl⟩
      · have h46' : ((s[k].toNat : Int) == 46) = false := by simpa using h46
        have HN : Hid (∀ j, j < k + 1 → s.data.toList[j]? ≠ some 46) := by
          intro j hj
          by_cases hjk : j = k
          · subst hjk
            rw [get_at s j hlt]
            intro h
            have h2 : s[j] = 46 := Option.some.inj h
            exact h46 (by rw [h2]; rfl)
          · exact HJ.out j (by omega)
        clear h46
        go_wp2
        go_round
        case rel => exact ⟨k + 1, by omega, by go_num, rfl, rfl, HN.out⟩
        case measure => simp [intOf]; omega
    · have ek : k = s.size := by omega
      subst ek
      go_wp2_with fail
      generalize hpt : (⟨#[]⟩ : ByteArray) = pt at *
      have HPT : Hid (pt.data.toList = []) := by rw [← hpt]; rfl
      have hpt4 : pt.size ≤ 4 := by rw [← hpt]; decide
      clear hpt
      refine (numeral_more pt _ hpt4).mono ?_
      rintro e w1 ⟨rfl, hw1⟩
      subst hw1
      by_cases hd : digs pt.data.toList = true
      · have HPR : Hid (priceN s = prcN s.data.toList pt.data.toList ∧ priceE s = prcE s.data.toList pt.data.toList) := by
          have h := price_no (dot_none HJ.out)
          rw [← HPT.out] at h; exact h
        have HD : Hid (digs pt.data.toList = true) := hd
        by_cases h10 : puE s.data.toList 100000 = 10
        · have HR : Hid (priceN s = 0 ∧ priceE s = 10) := by
            have h := prc_err (wh := s.data.toList) (r := pt.data.toList) (by rw [h10]; decide)
            exact ⟨HPR.out.1.trans h.1, HPR.out.2.trans (h.2.trans h10)⟩
          have hds : digs pt.data.toList = true := hd
          go_wp2_with (go_at_call 28; refine (refParseUint_any _ _ _ hs' (by decide)).mono ?_; rintro e w2 ⟨rfl, hw2⟩)
          subst hw2
          go_ret2
          exact ⟨ret2 (vint HR.out.1.symm) (vint HR.out.2.symm), rfl⟩
        by_cases hz : puE s.data.toList 100000 = 0
        · have hb := pu_bd s.data.toList 100000 (by decide)
          obtain ⟨hb0, hb1⟩ := hb
          have hb2 := pu_le_most s.data.toList 100000 (by decide)
          clear h10
          go_wp2_with (go_at_call 28; refine (refParseUint_any _ _ _ hs' (by decide)).mono ?_; rintro e w2 ⟨rfl, hw2⟩)
          subst hw2
          clear hd
          have HZ : Hid (puE s.data.toList 100000 = 0) := hz
          clear hz
          go_loop [8, 10] (fun n i => ∃ m : Nat, m ≤ 4 ∧ i = .int .i64 m ∧ n = .int .i64 (accN (puN s.data.toList 100000) pt.data.toList m)) (fun _ i => 4 - (intOf i).toNat)
          case atStart => exact ⟨0, Nat.zero_le _, rfl, rfl⟩
          case round =>
            obtain ⟨m, hm, rfl, rfl⟩ := hrel
            have hab := accN_bd _ hb0 hb2 _ HD.out m hm
            obtain ⟨ha0, ha1⟩ := hab
            by_cases hm4 : m < 4
            · have hm4' : (m : Int) < 4 := by omega
              by_cases hmp : m < pt.size
              · have hmp' : (m : Int) < (pt.size : Int) := by omega
                have hdb := digs_at pt m hmp HD.out
                obtain ⟨hd1, hd2⟩ := hdb
                have HA : Hid (accN (puN s.data.toList 100000) pt.data.toList (m + 1) = 10 * accN (puN s.data.toList 100000) pt.data.toList m + ((pt[m].toNat : Int) - 48)) := accN_at _ pt m hmp
                generalize accN (puN s.data.toList 100000) pt.data.toList m = v at *
                go_wp2
                go_round
                case rel => exact ⟨m + 1, by omega, by go_num, by rw [HA.out]⟩
                case measure => simp [intOf]; omega
              · have HA : Hid (accN (puN s.data.toList 100000) pt.data.toList (m + 1) = 10 * accN (puN s.data.toList 100000) pt.data.toList m) := accN_no _ pt m hmp
                have hmp' : ¬ (m : Int) < (pt.size : Int) := by omega
                generalize accN (puN s.data.toList 100000) pt.data.toList m = v at *
                go_wp2
                go_round
                case rel => exact ⟨m + 1, by omega, by go_num, by rw [HA.out]⟩
                case measure => simp [intOf]; omega
            · have em : m = 4 := by omega
              subst em
              have H4 : Hid (accN (puN s.data.toList 100000) pt.data.toList 4 = puN s.data.toList 100000 * 10000 + restN pt.data.toList 4) := accN_4 (puN s.data.toList 100000) pt.data.toList
              by_cases hmax : accN (puN s.data.toList 100000) pt.data.toList 4 ≤ 1000000000
              · have HR : Hid (priceN s = accN (puN s.data.toList 100000) pt.data.toList 4 ∧ priceE s = 0) := by
                  have h := prc_ok (wh := s.data.toList) (r := pt.data.toList) HZ.out (by rw [← H4.out]; exact hmax)
                  exact ⟨HPR.out.1.trans (h.1.trans H4.out.symm), HPR.out.2.trans h.2⟩
                generalize accN (puN s.data.toList 100000) pt.data.toList 4 = v at *
                go_wp2
                go_ret2
                exact ⟨ret2 (vint HR.out.1.symm) (vint HR.out.2.symm), rfl⟩
              · have HR : Hid (priceN s = 0 ∧ priceE s = 11) := by
                  have h := prc_gt (wh := s.data.toList) (r := pt.data.toList) HZ.out (by rw [← H4.out]; exact hmax)
                  exact ⟨HPR.out.1.trans h.1, HPR.out.2.trans h.2⟩
                generalize accN (puN s.data.toList 100000) pt.data.toList 4 = v at *
                go_wp2
                go_ret2
                exact ⟨ret2 (vint HR.out.1.symm) (vint HR.out.2.symm), rfl⟩
        · have h11 : puE s.data.toList 100000 = 11 := by
            have := puE_three s.data.toList 100000
            rcases this with h | h | h
            · exact absurd h hz
            · exact absurd h h10
            · exact h
          have HR : Hid (priceN s = 0 ∧ priceE s = 11) := by
            have h := prc_err (wh := s.data.toList) (r := pt.data.toList) hz
            exact ⟨HPR.out.1.trans h.1, HPR.out.2.trans (h.2.trans h11)⟩
          clear hz h10
          go_wp2_with (go_at_call 28; refine (refParseUint_any _ _ _ hs' (by decide)).mono ?_; rintro e w2 ⟨rfl, hw2⟩)
          subst hw2
          go_ret2
          exact ⟨ret2 (vint HR.out.1.symm) (vint HR.out.2.symm), rfl⟩
      · rw [HPT.out] at hd; exact absurd rfl hd
end Go.Proofs.YtochdjdkfmdgeaaDoor
