import Derived.Test.YtchkpggdndnpjabGreatDoorG09
import Derived.Test.YtchkpggdndnpjabGreatDoorG13
import Derived.Test.YtchkpggdndnpjabGreatDoorG12
import Derived.Test.YtchkpggdndnpjabGreatDoorG21
import Derived.Test.YtchkpggdndnpjabGreatDoorG15
import Derived.Test.YtchkpggdndnpjabGreatDoorG24
import Derived.Test.YtchkpggdndnpjabGreatDoorG25

namespace Go.Proofs.YtchkpggdndnpjabGreatDoor
set_option linter.unusedVariables false
open Go.Lib

theorem digs_no_dot {l : List UInt8} (h : digs l = true) : ∀ c ∈ l, c ≠ 46 := by
  intro c hc e
  unfold digs at h
  rw [List.all_eq_true] at h
  have := (dig_iff c).1 (h c hc)
  rw [e] at this
  revert this
  decide
theorem ib_none : ∀ (l : List UInt8), (∀ c ∈ l, c ≠ 46) → indexByte l 46 = -1
  | [], _ => rfl
  | b :: l, h => by
    have ih := ib_none l (fun c hc => h c (by simp [hc]))
    have hb : (b == 46) = false := by simpa using h b (by simp)
    rw [indexByte, hb, ih]
    rfl
theorem ib_app : ∀ (l r : List UInt8), (∀ c ∈ l, c ≠ 46) → indexByte (l ++ 46 :: r) 46 = (l.length : Int)
  | [], r, _ => by simp [indexByte]
  | b :: l, r, h => by
    have ih := ib_app l r (fun c hc => h c (by simp [hc]))
    have hb : (b == 46) = false := by simpa using h b (by simp)
    rw [List.cons_append, indexByte, hb, ih]
    have hne : ((l.length : Int) == -1) = false := by simp
    rw [hne]
    simp
theorem dec_four {r : Nat} (h : r < 10000) : decDigits (10000 + r) = [49, UInt8.ofNat (48 + r / 1000), UInt8.ofNat (48 + r / 100 % 10), UInt8.ofNat (48 + r / 10 % 10), UInt8.ofNat (48 + r % 10)] := by
  rw [decDigits, dif_neg (by omega), decDigits, dif_neg (by omega), decDigits, dif_neg (by omega), decDigits, dif_neg (by omega), decDigits_one (by omega)]
  simp only [List.cons_append, List.nil_append]
  rw [show 48 + (10000 + r) / 10 / 10 / 10 / 10 = 49 by omega, show (10000 + r) / 10 / 10 / 10 % 10 = r / 1000 by omega, show (10000 + r) / 10 / 10 % 10 = r / 100 % 10 by omega, show (10000 + r) / 10 % 10 = r / 10 % 10 by omega, show (10000 + r) % 10 = r % 10 by omega]
  rfl
theorem plc_chr {i : Nat} (h : i < 10) : plc (some (UInt8.ofNat (48 + i))) = (i : Int) := by
  show (((UInt8.ofNat (48 + i)).toNat : Nat) : Int) - 48 = _
  rw [chr_nat h]
  omega
theorem chr_eq {i : Nat} (h : i < 10) : (UInt8.ofNat (48 + i) == 48) = decide (i = 0) := by
  by_cases e : i = 0
  · subst e; rfl
  · have : UInt8.ofNat (48 + i) ≠ 48 := fun h' => by
      have := congrArg UInt8.toNat h'
      rw [chr_nat h] at this
      have h48 : (48 : UInt8).toNat = 48 := rfl
      omega
    rw [decide_eq_false e]
    exact beq_eq_false_iff_ne.2 this
/-- The digits behind the point, without the noughts at their end. -/
theorem trim_bytes {a b c d : Nat} {A B C D : UInt8} (da : dig A = true) (db : dig B = true) (dc : dig C = true) (dd : dig D = true) (pa : plc (some A) = (a : Int)) (pb : plc (some B) = (b : Int)) (pc : plc (some C) = (c : Int)) (pd : plc (some D) = (d : Int))
    (ea : (A == 48) = decide (a = 0)) (eb : (B == 48) = decide (b = 0)) (ec : (C == 48) = decide (c = 0)) (ed : (D == 48) = decide (d = 0)) (h : ¬ (a = 0 ∧ b = 0 ∧ c = 0 ∧ d = 0)) :
    restB (trimRightB [A, B, C, D] 48) = true ∧ restN (trimRightB [A, B, C, D] 48) 4 = (a * 1000 + b * 100 + c * 10 + d : Nat) := by
  have pn : plc none = 0 := rfl
  have t : trimRightB [A, B, C, D] 48 = if d = 0 then (if c = 0 then (if b = 0 then [A] else [A, B]) else [A, B, C]) else [A, B, C, D] := by
    have r : [A, B, C, D].reverse = [D, C, B, A] := rfl
    unfold trimRightB
    rw [r]
    by_cases d0 : d = 0
    · rw [if_pos d0, List.dropWhile_cons, ed, decide_eq_true d0, if_pos rfl]
      by_cases c0 : c = 0
      · rw [if_pos c0, List.dropWhile_cons, ec, decide_eq_true c0, if_pos rfl]
        by_cases b0 : b = 0
        · rw [if_pos b0, List.dropWhile_cons, eb, decide_eq_true b0, if_pos rfl, List.dropWhile_cons, ea, decide_eq_false (by omega), if_neg (by decide)]
          rfl
        · rw [if_neg b0, List.dropWhile_cons, eb, decide_eq_false b0, if_neg (by decide)]
          rfl
      · rw [if_neg c0, List.dropWhile_cons, ec, decide_eq_false c0, if_neg (by decide)]
        rfl
    · rw [if_neg d0, List.dropWhile_cons, ed, decide_eq_false d0, if_neg (by decide)]
      rfl
  rw [t]
  by_cases d0 : d = 0
  · rw [if_pos d0]
    by_cases c0 : c = 0
    · rw [if_pos c0]
      by_cases b0 : b = 0
      · rw [if_pos b0]
        exact ⟨by simp [restB, digs, da], by simp [restN, pa, pn]; omega⟩
      · rw [if_neg b0]
        exact ⟨by simp [restB, digs, da, db], by simp [restN, pa, pb, pn]; omega⟩
    · rw [if_neg c0]
      exact ⟨by simp [restB, digs, da, db, dc], by simp [restN, pa, pb, pc, pn]; omega⟩
  · rw [if_neg d0]
    exact ⟨by simp [restB, digs, da, db, dc, dd], by simp [restN, pa, pb, pc, pd]; omega⟩
theorem trim_four {a b c d : Nat} (ha : a < 10) (hb : b < 10) (hc : c < 10) (hd : d < 10) (h : ¬ (a = 0 ∧ b = 0 ∧ c = 0 ∧ d = 0)) :
    restB (trimRightB [UInt8.ofNat (48 + a), UInt8.ofNat (48 + b), UInt8.ofNat (48 + c), UInt8.ofNat (48 + d)] 48) = true ∧ restN (trimRightB [UInt8.ofNat (48 + a), UInt8.ofNat (48 + b), UInt8.ofNat (48 + c), UInt8.ofNat (48 + d)] 48) 4 = (a * 1000 + b * 100 + c * 10 + d : Nat) :=
  trim_bytes (dig_chr ha) (dig_chr hb) (dig_chr hc) (dig_chr hd) (plc_chr ha) (plc_chr hb) (plc_chr hc) (plc_chr hd) (chr_eq ha) (chr_eq hb) (chr_eq hc) (chr_eq hd) h
/-- ParsePrice of PrintPrice. -/
theorem price_back (q : Nat) (hq : q ≤ 1000000000) : priceN (ppB q) = (q : Int) ∧ priceE (ppB q) = 0 := by
  have hm : magI (q : Int) = q := magI_pos (by omega)
  have hW : q / 10000 ≤ 100000 := by omega
  have hS : ppS (q : Int) = ⟨(decDigits (q / 10000)).toArray⟩ := by
    unfold ppS
    rw [if_neg (by omega), hm]
    unfold decI
    rw [show ((q : Int) / 10000).toNat = q / 10000 by omega]
  have hpu := pu_dec (u := q / 10000) (m := 100000) (by omega)
  have hdot := digs_no_dot (digs_dec (q / 10000))
  by_cases hr : q % 10000 = 0
  · have hB : ppB (q : Int) = ⟨(decDigits (q / 10000)).toArray⟩ := by
      unfold ppB
      rw [hm, if_pos (by omega), hS]
    rw [hB]
    have hd : dotAt ⟨(decDigits (q / 10000)).toArray⟩ < 0 := by
      unfold dotAt
      rw [show (⟨(decDigits (q / 10000)).toArray⟩ : ByteArray).data.toList = decDigits (q / 10000) from rfl, ib_none _ hdot]
      decide
    rw [(price_no hd).1, (price_no hd).2]
    have := prc_ok (wh := decDigits (q / 10000)) (r := []) hpu.2 (by rw [hpu.1, restN_nil]; omega)
    rw [show (⟨(decDigits (q / 10000)).toArray⟩ : ByteArray).data.toList = decDigits (q / 10000) from rfl, this.1, this.2, hpu.1, restN_nil]
    exact ⟨by omega, rfl⟩
  · have hT := trim_four (a := q % 10000 / 1000) (b := q % 10000 / 100 % 10) (c := q % 10000 / 10 % 10) (d := q % 10000 % 10) (by omega) (by omega) (by omega) (by omega) (by omega)
    have hB : (ppB (q : Int)).data.toList = decDigits (q / 10000) ++ 46 :: trimRightB [UInt8.ofNat (48 + q % 10000 / 1000), UInt8.ofNat (48 + q % 10000 / 100 % 10), UInt8.ofNat (48 + q % 10000 / 10 % 10), UInt8.ofNat (48 + q % 10000 % 10)] 48 := by
      unfold ppB
      rw [hm, if_neg (by omega), hS]
      unfold trim0 decI
      rw [show ((10000 : Int) + (q : Int) % 10000).toNat = 10000 + q % 10000 by omega, dec_four (Nat.mod_lt _ (by decide))]
      simp only [ByteArray.data_append, Array.toList_append, List.append_assoc]
      rfl
    generalize ppB (q : Int) = S at *
    generalize trimRightB [UInt8.ofNat (48 + q % 10000 / 1000), UInt8.ofNat (48 + q % 10000 / 100 % 10), UInt8.ofNat (48 + q % 10000 / 10 % 10), UInt8.ofNat (48 + q % 10000 % 10)] 48 = T at *
    have hd : dotAt S = ((decDigits (q / 10000)).length : Int) := by
      unfold dotAt
      rw [hB, ib_app _ _ hdot]
    have hw : wholeL S = decDigits (q / 10000) := by
      unfold wholeL
      rw [hd, Int.toNat_natCast, hB, List.take_left]
    have hre : restL S = T := by
      unfold restL
      rw [hd, Int.toNat_natCast, hB]
      rw [show decDigits (q / 10000) ++ 46 :: T = (decDigits (q / 10000) ++ [46]) ++ T by simp]
      rw [show (decDigits (q / 10000)).length + 1 = (decDigits (q / 10000) ++ [46]).length by simp, List.drop_left]
    have hb : restB (restL S) = true := by rw [hre]; exact hT.1
    rw [(price_dot (by omega) hb).1, (price_dot (by omega) hb).2, hw, hre]
    have := prc_ok (wh := decDigits (q / 10000)) (r := T) hpu.2 (by rw [hpu.1, hT.2]; omega)
    rw [this.1, this.2, hpu.1, hT.2]
    exact ⟨by omega, rfl⟩
theorem price_list (q : Nat) (hq : q ≤ 1000000000) : ∃ T, (ppB (q : Int)).data.toList = decDigits (q / 10000) ++ T ∧ (T = [] ∨ ∃ T', T = 46 :: T' ∧ restB T' = true) := by
  have hm : magI (q : Int) = q := magI_pos (by omega)
  have hW : q / 10000 ≤ 100000 := by omega
  have hS : ppS (q : Int) = ⟨(decDigits (q / 10000)).toArray⟩ := by
    unfold ppS
    rw [if_neg (by omega), hm]
    unfold decI
    rw [show ((q : Int) / 10000).toNat = q / 10000 by omega]
  by_cases hr : q % 10000 = 0
  · have hB : ppB (q : Int) = ⟨(decDigits (q / 10000)).toArray⟩ := by
      unfold ppB
      rw [hm, if_pos (by omega), hS]
    refine ⟨[], ?_, .inl rfl⟩
    rw [hB, List.append_nil]
  · have hT := trim_four (a := q % 10000 / 1000) (b := q % 10000 / 100 % 10) (c := q % 10000 / 10 % 10) (d := q % 10000 % 10) (by omega) (by omega) (by omega) (by omega) (by omega)
    have hB : (ppB (q : Int)).data.toList = decDigits (q / 10000) ++ 46 :: trimRightB [UInt8.ofNat (48 + q % 10000 / 1000), UInt8.ofNat (48 + q % 10000 / 100 % 10), UInt8.ofNat (48 + q % 10000 / 10 % 10), UInt8.ofNat (48 + q % 10000 % 10)] 48 := by
      unfold ppB
      rw [hm, if_neg (by omega), hS]
      unfold trim0 decI
      rw [show ((10000 : Int) + (q : Int) % 10000).toNat = 10000 + q % 10000 by omega, dec_four (Nat.mod_lt _ (by decide))]
      simp only [ByteArray.data_append, Array.toList_append, List.append_assoc]
      rfl
    exact ⟨_, hB, .inr ⟨_, rfl, hT.1⟩⟩
end Go.Proofs.YtchkpggdndnpjabGreatDoor

namespace Go.Proofs.YtchkpggdndnpjabGreatDoor
set_option linter.unusedVariables false
open Go.Shelf Go.RowKit Go.Sort Go.Lib

def u8 (n : Int) : UInt8 := UInt8.ofNat n.toNat
def digB (n k : Nat) : List UInt8 := (digI n k).map u8
theorem digB_length (n k : Nat) : (digB n k).length = k := by simp [digB, digI]
theorem u8_dig {x : Nat} (h : x < 10) : (u8 ((48 + x : Nat) : Int)).toNat = 48 + x := by
  unfold u8
  rw [Int.toNat_natCast]
  simp
  omega
theorem digI_snoc (n k : Nat) : digI n (k + 1) = digI (n / 10) k ++ [((48 + n % 10 : Nat) : Int)] := by
  unfold digI
  rw [List.range_succ, List.map_append]
  congr 1
  · refine List.map_congr_left fun i hi => ?_
    have hi' : i < k := by simpa using hi
    rw [Nat.div_div_eq_div_mul, show k + 1 - 1 - i = (k - 1 - i) + 1 by omega, Nat.pow_succ, Nat.mul_comm (10 ^ (k - 1 - i)) 10]
  · simp
theorem digB_snoc (n k : Nat) : digB n (k + 1) = digB (n / 10) k ++ [u8 ((48 + n % 10 : Nat) : Int)] := by
  unfold digB
  rw [digI_snoc, List.map_append]
  rfl
theorem rd_digB (k : Nat) : ∀ n, rdNc (digB n k) = n % 10 ^ k := by
  induction k with
  | zero => intro n; simp [digB, digI, rdNc, Nat.mod_one]
  | succ k ih =>
    intro n
    rw [digB_snoc, rdNc_snoc, ih, u8_dig (Nat.mod_lt _ (by decide)), Nat.pow_succ, Nat.mul_comm (10 ^ k) 10, Nat.mod_mul]
    omega
theorem digB_dig (k : Nat) : ∀ n, ∀ c ∈ digB n k, isDig c = true := by
  induction k with
  | zero => intro n c hc; simp [digB, digI] at hc
  | succ k ih =>
    intro n c hc
    rw [digB_snoc, List.mem_append] at hc
    rcases hc with hc | hc
    · exact ih _ c hc
    · simp only [List.mem_singleton] at hc
      subst hc
      have := u8_dig (x := n % 10) (Nat.mod_lt _ (by decide))
      unfold isDig
      rw [this]
      have : n % 10 < 10 := Nat.mod_lt _ (by decide)
      simp
      omega
theorem mid {α : Type} (A B C : List α) {a n : Nat} (hA : A.length = a) (hB : B.length = n) : ((A ++ B ++ C).drop a).take n = B := by
  subst hA hB
  rw [List.append_assoc, List.drop_left, List.take_left]
/-- The text of a stamp, of numbers. -/
def txt (d h m s x : Nat) : List UInt8 := digB d 8 ++ [45] ++ digB h 2 ++ [58] ++ digB m 2 ++ [58] ++ digB s 2 ++ [46] ++ digB x 3
theorem txt_length (d h m s x : Nat) : (txt d h m s x).length = 21 := by simp [txt, digB_length]
theorem txt_d (d h m s x : Nat) : ((txt d h m s x).drop 0).take 8 = digB d 8 := by
  have := mid [] (digB d 8) ([45] ++ digB h 2 ++ [58] ++ digB m 2 ++ [58] ++ digB s 2 ++ [46] ++ digB x 3) rfl (digB_length d 8)
  simpa [txt] using this
theorem txt_h (d h m s x : Nat) : ((txt d h m s x).drop 9).take 2 = digB h 2 := by
  have := mid (digB d 8 ++ [45]) (digB h 2) ([58] ++ digB m 2 ++ [58] ++ digB s 2 ++ [46] ++ digB x 3) (a := 9) (by simp [digB_length]) (digB_length h 2)
  simpa [txt] using this
theorem txt_m (d h m s x : Nat) : ((txt d h m s x).drop 12).take 2 = digB m 2 := by
  have := mid (digB d 8 ++ [45] ++ digB h 2 ++ [58]) (digB m 2) ([58] ++ digB s 2 ++ [46] ++ digB x 3) (a := 12) (by simp [digB_length]) (digB_length m 2)
  simpa [txt] using this
theorem txt_s (d h m s x : Nat) : ((txt d h m s x).drop 15).take 2 = digB s 2 := by
  have := mid (digB d 8 ++ [45] ++ digB h 2 ++ [58] ++ digB m 2 ++ [58]) (digB s 2) ([46] ++ digB x 3) (a := 15) (by simp [digB_length]) (digB_length s 2)
  simpa [txt] using this
theorem txt_x (d h m s x : Nat) : ((txt d h m s x).drop 18).take 3 = digB x 3 := by
  have := mid (digB d 8 ++ [45] ++ digB h 2 ++ [58] ++ digB m 2 ++ [58] ++ digB s 2 ++ [46]) (digB x 3) [] (a := 18) (by simp [digB_length]) (digB_length x 3)
  simpa [txt] using this
/-- A digit's place. -/
theorem get_of_part {l : List UInt8} {a n : Nat} {B : List UInt8} (h : (l.drop a).take n = B) (hB : ∀ c ∈ B, isDig c = true) (hl : a + n ≤ l.length) {j : Nat} (h0 : a ≤ j) (h1 : j < a + n) : isDig (l.getD j 0) = true := by
  refine hB _ ?_
  rw [← h, List.getD_eq_getElem?_getD, List.getElem?_eq_getElem (by omega)]
  simp only [Option.getD_some]
  have : l[j] = ((l.drop a).take n)[j - a]'(by simp; omega) := by
    simp only [List.getElem_take, List.getElem_drop]
    congr 1
    omega
  rw [this]
  exact List.getElem_mem _
theorem txt_sign (d h m s x : Nat) : (txt d h m s x).getD 8 0 = 45 ∧ (txt d h m s x).getD 11 0 = 58 ∧ (txt d h m s x).getD 14 0 = 58 ∧ (txt d h m s x).getD 17 0 = 46 := by
  have e1 := mid (digB d 8) [45] (digB h 2 ++ [58] ++ digB m 2 ++ [58] ++ digB s 2 ++ [46] ++ digB x 3) (digB_length d 8) rfl
  have e2 := mid (digB d 8 ++ [45] ++ digB h 2) [58] (digB m 2 ++ [58] ++ digB s 2 ++ [46] ++ digB x 3) (a := 11) (by simp [digB_length]) rfl
  have e3 := mid (digB d 8 ++ [45] ++ digB h 2 ++ [58] ++ digB m 2) [58] (digB s 2 ++ [46] ++ digB x 3) (a := 14) (by simp [digB_length]) rfl
  have e4 := mid (digB d 8 ++ [45] ++ digB h 2 ++ [58] ++ digB m 2 ++ [58] ++ digB s 2) [46] (digB x 3) (a := 17) (by simp [digB_length]) rfl
  have key : ∀ (l : List UInt8) (a : Nat) (c : UInt8), (l.drop a).take 1 = [c] → l.getD a 0 = c := fun l a c h => by
    have h2 : (l.drop a).head? = some c := by
      cases hd : l.drop a with
      | nil => rw [hd] at h; simp at h
      | cons y ys => rw [hd] at h; simp at h; simp [h]
    rw [List.head?_drop] at h2
    rw [List.getD_eq_getElem?_getD, h2]
    rfl
  refine ⟨key _ _ _ ?_, key _ _ _ ?_, key _ _ _ ?_, key _ _ _ ?_⟩
  · simpa [txt] using e1
  · simpa [txt] using e2
  · simpa [txt] using e3
  · simpa [txt] using e4
theorem txt_form (t : ByteArray) (d h m s x : Nat) (ht : t.data.toList = txt d h m s x) : formTo t 21 = true := by
  have hl := txt_length d h m s x
  simp only [formTo, List.all_eq_true, List.mem_range]
  intro j hj
  rw [ht]
  have hs := txt_sign d h m s x
  by_cases h48 : formAt j = 48
  · rw [okAt_dig h48]
    have hc : (0 ≤ j ∧ j < 0 + 8) ∨ (9 ≤ j ∧ j < 9 + 2) ∨ (12 ≤ j ∧ j < 12 + 2) ∨ (15 ≤ j ∧ j < 15 + 2) ∨ (18 ≤ j ∧ j < 18 + 3) :=
      (by decide : ∀ j, j < 21 → formAt j = 48 → (0 ≤ j ∧ j < 0 + 8) ∨ (9 ≤ j ∧ j < 9 + 2) ∨ (12 ≤ j ∧ j < 12 + 2) ∨ (15 ≤ j ∧ j < 15 + 2) ∨ (18 ≤ j ∧ j < 18 + 3)) j hj h48
    rcases hc with hc | hc | hc | hc | hc
    · exact get_of_part (txt_d d h m s x) (digB_dig 8 d) (by omega) hc.1 hc.2
    · exact get_of_part (txt_h d h m s x) (digB_dig 2 h) (by omega) hc.1 hc.2
    · exact get_of_part (txt_m d h m s x) (digB_dig 2 m) (by omega) hc.1 hc.2
    · exact get_of_part (txt_s d h m s x) (digB_dig 2 s) (by omega) hc.1 hc.2
    · exact get_of_part (txt_x d h m s x) (digB_dig 3 x) (by omega) hc.1 hc.2
  · rw [okAt_sign h48]
    have hc : j = 8 ∨ j = 11 ∨ j = 14 ∨ j = 17 := (by decide : ∀ j, j < 21 → ¬ formAt j = 48 → j = 8 ∨ j = 11 ∨ j = 14 ∨ j = 17) j hj h48
    rcases hc with rfl | rfl | rfl | rfl
    · rw [hs.1]; rfl
    · rw [hs.2.1]; rfl
    · rw [hs.2.2.1]; rfl
    · rw [hs.2.2.2]; rfl
theorem stamp_txt (t : Nat) : (strOfNums (stampI t)).data.toList = txt (dateN (t / 86400000)) (t % 86400000 / 3600000) (t % 3600000 / 60000) (t % 60000 / 1000) (t % 1000) := by
  rw [strOfNums_data]
  unfold stampI txt digB
  simp only [List.map_append]
  rfl
theorem stamp_size (t : Nat) : (strOfNums (stampI t)).size = 21 := by
  rw [strOfNums_size]
  simp [stampI, digI_length]
/-- What Stamp writes is read. -/
theorem ps_stamp (t : Nat) (ht : t ≤ 253402300799999) : psV (strOfNums (stampI t)) = (t : Int) ∧ psE (strOfNums (stampI t)) = 0 := by
  have hx := stamp_txt t
  have hz := stamp_size t
  generalize strOfNums (stampI t) = S at *
  have hd := dateN_bounds (n := t / 86400000) (by omega)
  have hnum := dnum_date (n := t / 86400000) (by omega)
  have p1 : part S 0 8 = dateN (t / 86400000) := by
    unfold part rdBc; rw [extract_list, hx, txt_d, rd_digB]; exact Nat.mod_eq_of_lt (by omega)
  have p2 : part S 9 11 = t % 86400000 / 3600000 := by
    unfold part rdBc; rw [extract_list, hx, txt_h, rd_digB]; exact Nat.mod_eq_of_lt (by omega)
  have p3 : part S 12 14 = t % 3600000 / 60000 := by
    unfold part rdBc; rw [extract_list, hx, txt_m, rd_digB]; exact Nat.mod_eq_of_lt (by omega)
  have p4 : part S 15 17 = t % 60000 / 1000 := by
    unfold part rdBc; rw [extract_list, hx, txt_s, rd_digB]; exact Nat.mod_eq_of_lt (by omega)
  have p5 : part S 18 21 = t % 1000 := by
    unfold part rdBc; rw [extract_list, hx, txt_x, rd_digB]; exact Nat.mod_eq_of_lt (by omega)
  have hb : dnB (dateN (t / 86400000) : Int) = true := by unfold dnB; rw [hnum]; rfl
  have hv : dnV (dateN (t / 86400000) : Int) = ((t / 86400000 : Nat) : Int) := by unfold dnV; rw [hnum]
  have hok : psOk S = true := by
    unfold psOk formOk
    rw [p1, p2, p3, p4, hb, hz, txt_form S _ _ _ _ _ hx, decide_eq_true (by omega), decide_eq_true (by omega), decide_eq_true (by omega)]
    rfl
  unfold psV psE
  rw [hok, if_pos rfl, if_pos rfl, hz, if_pos (by decide), p1, p2, p3, p4, p5, hv]
  exact ⟨by omega, rfl⟩
theorem cut_part (S : ByteArray) (a b : Nat) (hb : b ≤ 17) : part (S.extract 0 17) a b = part S a b := by
  unfold part rdBc
  rw [extract_list, extract_list, extract_list, List.drop_zero, List.drop_take, List.take_take]
  congr 2
  omega
theorem cut_form (S : ByteArray) (h : formTo S 21 = true) (hz : S.size = 21) : formTo (S.extract 0 17) 17 = true := by
  simp only [formTo, List.all_eq_true, List.mem_range] at h ⊢
  intro j hj
  have := h j (by omega)
  rw [extract_list, List.drop_zero, List.getD_eq_getElem?_getD, List.getElem?_take_of_lt (by omega), ← List.getD_eq_getElem?_getD]
  exact this
/-- .. without the milliseconds as the second. -/
theorem ps_cut (t : Nat) (ht : t ≤ 253402300799999) : psV ((strOfNums (stampI t)).extract 0 17) = (t : Int) - (t : Int) % 1000 ∧ psE ((strOfNums (stampI t)).extract 0 17) = 0 := by
  have hx := stamp_txt t
  have hz := stamp_size t
  generalize strOfNums (stampI t) = S at *
  have hd := dateN_bounds (n := t / 86400000) (by omega)
  have hnum := dnum_date (n := t / 86400000) (by omega)
  have p1 : part S 0 8 = dateN (t / 86400000) := by
    unfold part rdBc; rw [extract_list, hx, txt_d, rd_digB]; exact Nat.mod_eq_of_lt (by omega)
  have p2 : part S 9 11 = t % 86400000 / 3600000 := by
    unfold part rdBc; rw [extract_list, hx, txt_h, rd_digB]; exact Nat.mod_eq_of_lt (by omega)
  have p3 : part S 12 14 = t % 3600000 / 60000 := by
    unfold part rdBc; rw [extract_list, hx, txt_m, rd_digB]; exact Nat.mod_eq_of_lt (by omega)
  have p4 : part S 15 17 = t % 60000 / 1000 := by
    unfold part rdBc; rw [extract_list, hx, txt_s, rd_digB]; exact Nat.mod_eq_of_lt (by omega)
  have hb : dnB (dateN (t / 86400000) : Int) = true := by unfold dnB; rw [hnum]; rfl
  have hv : dnV (dateN (t / 86400000) : Int) = ((t / 86400000 : Nat) : Int) := by unfold dnV; rw [hnum]
  have hz2 : (S.extract 0 17).size = 17 := by rw [ByteArray.size_extract]; omega
  have hok : psOk (S.extract 0 17) = true := by
    unfold psOk formOk
    rw [cut_part S 0 8 (by omega), cut_part S 9 11 (by omega), cut_part S 12 14 (by omega), cut_part S 15 17 (by omega), p1, p2, p3, p4, hb, hz2, cut_form S (txt_form S _ _ _ _ _ hx) hz, decide_eq_true (by omega), decide_eq_true (by omega), decide_eq_true (by omega)]
    rfl
  unfold psV psE
  rw [hok, if_pos rfl, if_pos rfl, hz2, if_neg (by decide), cut_part S 0 8 (by omega), cut_part S 9 11 (by omega), cut_part S 12 14 (by omega), cut_part S 15 17 (by omega), p1, p2, p3, p4, hv]
  exact ⟨by omega, rfl⟩
end Go.Proofs.YtchkpggdndnpjabGreatDoor

namespace Go.Proofs.YtchkpggdndnpjabGreatDoor
set_option linter.unusedVariables false
set_option linter.unusedSimpArgs false
open Go.RowKit

structure Vld (M : Msg) : Prop where
  k : isK (M.z 0) = true
  e : ∀ j, j < 42 → errAt M j = 0
  fit : fitN M = 0
theorem vld_of {M : Msg} (h : valE M = 0) : Vld M := by obtain ⟨a, b, c⟩ := val_ok h; exact ⟨a, b, c⟩
theorem Vld.kind {M : Msg} (h : Vld M) : ∃ k : Nat, k < 17 ∧ M.z 0 = ((k + 1 : Nat) : Int) := by
  have h0 : 1 ≤ M.z 0 ∧ M.z 0 ≤ 17 := by simpa [isK] using h.k
  exact ⟨(M.z 0).toNat - 1, by omega, by omega⟩
def hasK (k : Int) (r : Nat) : Int := hasR k (xNum.getD r 0)
def tblB (k r : Nat) : Bool :=
  (!(hasK ((k + 1 : Nat) : Int) r == 0) || (!((tMust.getD (xCe.getD r 0) 0).testBit (k + 1)) && !((tMay.getD (xCe.getD r 0) 0).testBit (k + 1)))) && (!(hasK ((k + 1 : Nat) : Int) r == 2) || (tMust.getD (xCe.getD r 0) 0).testBit (k + 1))
set_option maxRecDepth 100000 in
theorem tbl_all : ((List.range 17).all fun k => (List.range 45).all fun r => (r == 7 || r == 27 || r == 44) || tblB k r) = true := by kernel_rfl
theorem row_facts {M : Msg} (h : Vld M) (r : Nat) (hr : r < 45) (hn : (r == 7 || r == 27 || r == 44) = false) (hc : xCe.getD r 0 < 42) :
    (hasK (M.z 0) r = 0 → stOf M (xCe.getD r 0) = 0) ∧ stOf M (xCe.getD r 0) ≠ 2 ∧ (hasK (M.z 0) r = 2 → tOz.getD (xCe.getD r 0) false = false → stOf M (xCe.getD r 0) ≠ 0) := by
  obtain ⟨k, hk, e⟩ := h.kind
  have ht := List.all_eq_true.1 (List.all_eq_true.1 tbl_all k (List.mem_range.2 hk)) r (List.mem_range.2 hr)
  rw [hn, Bool.false_or] at ht
  have he := h.e _ hc
  unfold errAt at he
  rw [e] at he ⊢
  unfold tblB at ht
  simp only [Int.toNat_natCast] at he
  generalize hasK ((k + 1 : Nat) : Int) r = H at *
  generalize (tMust.getD (xCe.getD r 0) 0).testBit (k + 1) = mu at *
  generalize (tMay.getD (xCe.getD r 0) 0).testBit (k + 1) = ma at *
  generalize tOz.getD (xCe.getD r 0) false = oz at *
  generalize stOf M (xCe.getD r 0) = st at *
  simp only [Bool.and_eq_true, Bool.or_eq_true, Bool.not_eq_true', beq_eq_false_iff_ne, ne_eq] at ht
  unfold rowErr at he
  split at he
  · cases he
  · rename_i h1
    split at he
    · cases he
    · rename_i h2
      simp only [Bool.or_eq_true, Bool.and_eq_true, Bool.not_eq_true', beq_iff_eq, bne_iff_ne, ne_eq, not_or, not_and, Bool.not_eq_true] at h1 h2
      refine ⟨fun h0 => ?_, h2.1, fun h3 hoz => ?_⟩
      · have := ht.1.resolve_left (fun q => q h0)
        exact Decidable.byContradiction fun q => h1 ⟨this.1, this.2⟩ q
      · have := ht.2.resolve_left (fun q => q h3)
        exact h2.2 ⟨this, hoz⟩
def stepR (M : Msg) (r : Nat) (A : Msg) : Msg := if hasK (M.z 0) r = 0 then A else cond ((hasK (M.z 0) r == 2) || thB r M) (ruM r (wrS r M) A) A
structure Good (M : Msg) (r : Nat) : Prop where
  ok : hasK (M.z 0) r ≠ 0 → ((hasK (M.z 0) r == 2) || thB r M) = true → rdBo r (wrS r M) = true ∧ wrOk r M
  self : ∀ A : Msg, A.cell (xCe.getD r 0) = zeroM.cell (xCe.getD r 0) → (stepR M r A).cell (xCe.getD r 0) = M.cell (xCe.getD r 0)
theorem good_of {M : Msg} (h : Vld M) (r : Nat) (hr : r < 45) (hn : (r == 7 || r == 27 || r == 44) = false) (hc : xCe.getD r 0 < 42)
    (h1 : stOf M (xCe.getD r 0) = 0 → M.cell (xCe.getD r 0) = zeroM.cell (xCe.getD r 0))
    (h2 : thB r M = false → M.cell (xCe.getD r 0) = zeroM.cell (xCe.getD r 0))
    (h3 : stOf M (xCe.getD r 0) = 1 ∨ (stOf M (xCe.getD r 0) = 0 ∧ tOz.getD (xCe.getD r 0) false = true) → rdBo r (wrS r M) = true ∧ wrOk r M ∧ ∀ A : Msg, (ruM r (wrS r M) A).cell (xCe.getD r 0) = M.cell (xCe.getD r 0))
    (h4 : thB r M = true → stOf M (xCe.getD r 0) ≠ 0) : Good M r := by
  obtain ⟨f1, f2, f3⟩ := row_facts h r hr hn hc
  have hle := stOf_le M (xCe.getD r 0) hc
  have key : ((hasK (M.z 0) r == 2) || thB r M) = true → stOf M (xCe.getD r 0) = 1 ∨ (stOf M (xCe.getD r 0) = 0 ∧ tOz.getD (xCe.getD r 0) false = true) := fun hb => by
    rw [Bool.or_eq_true, beq_iff_eq] at hb
    rcases hb with hb | hb
    · cases hz : tOz.getD (xCe.getD r 0) false with
      | false => left; have := f3 hb hz; omega
      | true => by_cases hs : stOf M (xCe.getD r 0) = 0
                · exact .inr ⟨hs, rfl⟩
                · left; omega
    · left; have := h4 hb; omega
  refine ⟨fun h0 hb => ?_, fun A hA => ?_⟩
  · have := h3 (key hb); exact ⟨this.1, this.2.1⟩
  · unfold stepR
    split
    · rename_i h0; rw [hA, h1 (f1 h0)]
    · cases hb : ((hasK (M.z 0) r == 2) || thB r M) with
      | true => exact (h3 (key hb)).2.2 A
      | false => rw [Bool.or_eq_false_iff] at hb; show A.cell _ = _; rw [hA, h2 hb.2]
theorem setZ_cell (A : Msg) (c : Nat) (z : Int) (hs : isStr c = false) (hb : isBoo c = false) : (A.setZ c z).cell c = .int .i64 z := by simp [Msg.cell, Msg.setZ, hs, hb]
theorem setS_cell (A : Msg) (c : Nat) (s : ByteArray) (hs : isStr c = true) : (A.setS c s).cell c = .string s := by simp [Msg.cell, Msg.setS, hs]
theorem setB_cell (A : Msg) (c : Nat) (b : Bool) (hs : isStr c = false) (hb : isBoo c = true) : (A.setB c b).cell c = .bool b := by simp [Msg.cell, Msg.setB, hs, hb]
theorem stN_0 {z m : Int} (h : stN z m = 0) : z = 0 := by
  unfold stN at h; split at h
  · assumption
  · split at h <;> cases h
theorem stN_1 {z m : Int} (h : stN z m = 1) : 1 ≤ z ∧ z ≤ m := by
  unfold stN at h; split at h
  · cases h
  · split at h
    · cases h
    · omega
theorem stN_ne {z m : Int} (h : (z != 0) = true) : stN z m ≠ 0 := fun e => by rw [stN_0 e] at h; cases h
theorem ne_zero {z : Int} (h : (z != 0) = false) : z = 0 := by simpa using h
theorem nr_back {z lo m : Int} (h0 : 0 ≤ z) (h1 : lo ≤ z) (h2 : z ≤ m) : nrB (Lib.itoa z) lo m = true ∧ puN (Lib.itoa z) m = z := by
  have e : Lib.itoa z = Lib.decDigits z.toNat := by unfold Lib.itoa; rw [if_neg (by omega)]
  have hp := pu_dec (u := z.toNat) (m := m) (by omega)
  rw [e]
  unfold nrB
  rw [hp.1, hp.2]
  exact ⟨by simp; omega, by omega⟩
theorem goodNum {M : Msg} (h : Vld M) (r c : Nat) (lo m : Int) (hr : r < 45) (hn : (r == 7 || r == 27 || r == 44) = false) (ec : xCe.getD r 0 = c) (hc : c < 42) (hs : isStr c = false) (hb : isBoo c = false)
    (e1 : thB r M = (M.z c != 0)) (e2 : wrS r M = ⟨(Lib.itoa (M.z c)).toArray⟩) (e3 : ∀ s, rdBo r s = nrB s.data.toList lo m) (e4 : ∀ s A, ruM r s A = A.setZ c (puN s.data.toList m)) (e5 : wrOk r M)
    (e6 : stOf M c = stN (M.z c) m) (hl : lo ≤ 1) (hm : 0 ≤ m) (hoz : tOz.getD c false = true → lo ≤ 0) : Good M r := by
  have hcz : M.z c = 0 → M.cell c = zeroM.cell c := fun e => by simp [Msg.cell, hs, hb, e, zeroM]
  refine good_of h r hr hn (by rw [ec]; exact hc) ?_ ?_ ?_ ?_ <;> rw [ec]
  · rw [e6]; exact fun q => hcz (stN_0 q)
  · rw [e1]; exact fun q => hcz (ne_zero q)
  · rw [e6, e2, e3]
    intro q
    have hz : 0 ≤ M.z c ∧ lo ≤ M.z c ∧ M.z c ≤ m := by
      rcases q with q | ⟨q, qo⟩
      · have := stN_1 q; omega
      · have := stN_0 q; have := hoz qo; omega
    have hn := nr_back hz.1 hz.2.1 hz.2.2
    refine ⟨hn.1, e5, fun A => ?_⟩
    rw [e4]
    show (A.setZ c (puN (Lib.itoa (M.z c)) m)).cell c = _
    rw [hn.2, setZ_cell _ _ _ hs hb]; simp [Msg.cell, hs, hb]
  · rw [e1, e6]; exact stN_ne
theorem goodFlag {M : Msg} (h : Vld M) (r c : Nat) (hr : r < 45) (hn : (r == 7 || r == 27 || r == 44) = false) (ec : xCe.getD r 0 = c) (hc : c < 42) (hs : isStr c = false) (hb : isBoo c = true)
    (e1 : thB r M = M.b c) (e2 : wrS r M = ynS (M.b c)) (e3 : ∀ s, rdBo r s = ynB s) (e4 : ∀ s A, ruM r s A = A.setB c (eqB s ⟨#[89]⟩)) (e5 : wrOk r M) (e6 : stOf M c = stB (M.b c)) : Good M r := by
  have hcz : M.b c = false → M.cell c = zeroM.cell c := fun e => by simp [Msg.cell, hs, hb, e, zeroM]
  refine good_of h r hr hn (by rw [ec]; exact hc) ?_ ?_ ?_ ?_ <;> rw [ec]
  · rw [e6]; exact fun q => hcz (by unfold stB at q; cases hx : M.b c with | false => rfl | true => rw [hx] at q; cases q)
  · rw [e1]; exact hcz
  · intro _
    rw [e2, e3]
    refine ⟨?_, e5, fun A => ?_⟩
    · cases M.b c
      · show ynB ⟨#[78]⟩ = true; rw [ynB, eqB_self, Bool.or_true]
      · show ynB ⟨#[89]⟩ = true; rw [ynB, eqB_self]; rfl
    · rw [e4, setB_cell _ _ _ hs hb]
      have : eqB (ynS (M.b c)) ⟨#[89]⟩ = M.b c := by
        cases M.b c
        · exact eqB_ne (by decide)
        · exact eqB_self _
      rw [this]; simp [Msg.cell, hs, hb]
  · rw [e1, e6]; intro q; rw [q]; decide
theorem goodText {M : Msg} (h : Vld M) (r c : Nat) (p : ByteArray → Bool) (hr : r < 45) (hn : (r == 7 || r == 27 || r == 44) = false) (ec : xCe.getD r 0 = c) (hc : c < 42) (hs : isStr c = true)
    (e1 : thB r M = !((M.s c).size == 0)) (e2 : wrS r M = M.s c) (e3 : ∀ s, rdBo r s = p s) (e4 : ∀ s A, ruM r s A = A.setS c s) (e5 : wrOk r M) (e6 : stOf M c = stT p (M.s c)) (hoz : tOz.getD c false = false) : Good M r := by
  have hcz : (M.s c).size = 0 → M.cell c = zeroM.cell c := fun e => by
    have : M.s c = ⟨#[]⟩ := by
      have h2 : (M.s c).data.size = 0 := e
      have h3 : (M.s c).data = #[] := Array.eq_empty_of_size_eq_zero h2
      show (⟨(M.s c).data⟩ : ByteArray) = _
      rw [h3]
    simp [Msg.cell, hs, this, zeroM]
  have st0 : stT p (M.s c) = 0 → (M.s c).size = 0 := fun q => by
    unfold stT at q; split at q
    · assumption
    · split at q <;> cases q
  refine good_of h r hr hn (by rw [ec]; exact hc) ?_ ?_ ?_ ?_ <;> rw [ec]
  · rw [e6]; exact fun q => hcz (st0 q)
  · rw [e1]; exact fun q => hcz (by simpa using q)
  · rw [e6, e2, e3]
    intro q
    have hp : p (M.s c) = true := by
      rcases q with q | ⟨_, qo⟩
      · unfold stT at q; split at q
        · cases q
        · split at q
          · assumption
          · cases q
      · rw [hoz] at qo; cases qo
    refine ⟨hp, e5, fun A => ?_⟩
    rw [e4, setS_cell _ _ _ hs]; simp [Msg.cell, hs]
  · rw [e1, e6]; intro q e; rw [st0 e] at q; cases q
theorem goodStamp {M : Msg} (h : Vld M) (r c : Nat) (lo : Int) (hr : r < 45) (hn : (r == 7 || r == 27 || r == 44) = false) (ec : xCe.getD r 0 = c) (hc : c < 42) (hs : isStr c = false) (hb : isBoo c = false)
    (e1 : thB r M = (M.z c != 0)) (e2 : wrS r M = strOfNums (stampI (M.z c).toNat)) (e3 : ∀ s, rdBo r s = stmB s lo) (e4 : ∀ s A, ruM r s A = A.setZ c (psV s)) (e5 : 0 ≤ M.z c ∧ M.z c ≤ 253402300799999 → wrOk r M)
    (e6 : stOf M c = stN (M.z c) 253402300799999) (hl : lo ≤ 1) (hoz : tOz.getD c false = true → lo ≤ 0) : Good M r := by
  have hcz : M.z c = 0 → M.cell c = zeroM.cell c := fun e => by simp [Msg.cell, hs, hb, e, zeroM]
  refine good_of h r hr hn (by rw [ec]; exact hc) ?_ ?_ ?_ ?_ <;> rw [ec]
  · rw [e6]; exact fun q => hcz (stN_0 q)
  · rw [e1]; exact fun q => hcz (ne_zero q)
  · rw [e6, e2, e3]
    intro q
    have hz : 0 ≤ M.z c ∧ lo ≤ M.z c ∧ M.z c ≤ 253402300799999 := by
      rcases q with q | ⟨q, qo⟩
      · have := stN_1 q; omega
      · have := stN_0 q; have := hoz qo; omega
    have hp := ps_stamp (M.z c).toNat (by omega)
    refine ⟨?_, e5 ⟨hz.1, hz.2.2⟩, fun A => ?_⟩
    · unfold stmB; rw [hp.1, hp.2]; simp; omega
    · rw [e4, setZ_cell _ _ _ hs hb, hp.1]; simp [Msg.cell, hs, hb]; omega
  · rw [e1, e6]; exact stN_ne
theorem goodPrice {M : Msg} (h : Vld M) (r c : Nat) (hr : r < 45) (hn : (r == 7 || r == 27 || r == 44) = false) (ec : xCe.getD r 0 = c) (hc : c < 42) (hs : isStr c = false) (hb : isBoo c = false)
    (e1 : thB r M = (M.z c != 0)) (e2 : wrS r M = ppB (M.z c)) (e3 : ∀ s, rdBo r s = prB s) (e4 : ∀ s A, ruM r s A = A.setZ c (priceN s)) (e5 : wrOk r M)
    (e6 : stOf M c = stN (M.z c) 1000000000) (hoz : tOz.getD c false = false) : Good M r := by
  have hcz : M.z c = 0 → M.cell c = zeroM.cell c := fun e => by simp [Msg.cell, hs, hb, e, zeroM]
  refine good_of h r hr hn (by rw [ec]; exact hc) ?_ ?_ ?_ ?_ <;> rw [ec]
  · rw [e6]; exact fun q => hcz (stN_0 q)
  · rw [e1]; exact fun q => hcz (ne_zero q)
  · rw [e6, e2, e3]
    intro q
    have hz : 1 ≤ M.z c ∧ M.z c ≤ 1000000000 := by
      rcases q with q | ⟨q, qo⟩
      · exact stN_1 q
      · rw [hoz] at qo; cases qo
    have hp := price_back (M.z c).toNat (by omega)
    rw [Int.toNat_of_nonneg (by omega)] at hp
    refine ⟨?_, e5, fun A => ?_⟩
    · unfold prB; rw [hp.1, hp.2]; simp; omega
    · rw [e4, setZ_cell _ _ _ hs hb, hp.1]; simp [Msg.cell, hs, hb]
  · rw [e1, e6]; exact stN_ne
theorem dn_bd {z : Int} (h : dnB z = true) : 0 ≤ z ∧ z ≤ 99991231 := by
  unfold dnB at h
  obtain ⟨n, hn⟩ := Option.isSome_iff_exists.1 h
  obtain ⟨h1, h2⟩ := dnum_some hn
  have := dateN_bounds h1
  omega
theorem goodDate {M : Msg} (h : Vld M) (r c : Nat) (hr : r < 45) (hn : (r == 7 || r == 27 || r == 44) = false) (ec : xCe.getD r 0 = c) (hc : c < 42) (hs : isStr c = false) (hb : isBoo c = false)
    (e1 : thB r M = (M.z c != 0)) (e2 : wrS r M = ⟨(Lib.itoa (M.z c)).toArray⟩) (e3 : ∀ s, rdBo r s = dtB s) (e4 : ∀ s A, ruM r s A = A.setZ c (puN s.data.toList 99991231)) (e5 : wrOk r M)
    (e6 : stOf M c = stD (M.z c)) (hoz : tOz.getD c false = false) : Good M r := by
  have hcz : M.z c = 0 → M.cell c = zeroM.cell c := fun e => by simp [Msg.cell, hs, hb, e, zeroM]
  have st0 : stD (M.z c) = 0 → M.z c = 0 := fun q => by
    unfold stD at q; split at q
    · assumption
    · split at q <;> cases q
  refine good_of h r hr hn (by rw [ec]; exact hc) ?_ ?_ ?_ ?_ <;> rw [ec]
  · rw [e6]; exact fun q => hcz (st0 q)
  · rw [e1]; exact fun q => hcz (ne_zero q)
  · rw [e6, e2, e3]
    intro q
    have hd : dnB (M.z c) = true := by
      rcases q with q | ⟨q, qo⟩
      · unfold stD at q; split at q
        · cases q
        · split at q
          · assumption
          · cases q
      · rw [hoz] at qo; cases qo
    have hz : 0 ≤ M.z c ∧ M.z c ≤ 99991231 := dn_bd hd
    have hp := nr_back (lo := 0) hz.1 hz.1 hz.2
    have hpe : puE (Lib.itoa (M.z c)) 99991231 = 0 := by have := hp.1; unfold nrB at this; simp only [Bool.and_eq_true, decide_eq_true_eq] at this; exact this.1
    refine ⟨?_, e5, fun A => ?_⟩
    · unfold dtB
      show (decide (puE (Lib.itoa (M.z c)) 99991231 = 0) && decide (dtE (puN (Lib.itoa (M.z c)) 99991231) = 0)) = true
      rw [hp.2, hpe]; simp [dtE, hd]
    · rw [e4]
      show (A.setZ c (puN (Lib.itoa (M.z c)) 99991231)).cell c = _
      rw [hp.2, setZ_cell _ _ _ hs hb]; simp [Msg.cell, hs, hb]
  · rw [e1, e6]; intro q e; rw [st0 e] at q; cases q
theorem goodOrd {M : Msg} (h : Vld M) (r c : Nat) (hr : r < 45) (hn : (r == 7 || r == 27 || r == 44) = false) (ec : xCe.getD r 0 = c) (hc : c < 42) (hs : isStr c = false) (hb : isBoo c = false)
    (e1 : thB r M = (M.z c != 0)) (e2 : wrS r M = onS (M.z c)) (e3 : ∀ s, rdBo r s = onB s) (e4 : ∀ s A, ruM r s A = A.setZ c (onV s)) (e5 : wrOk r M) (e6 : stOf M c = stN (M.z c) 999999999) : Good M r := by
  have hcz : M.z c = 0 → M.cell c = zeroM.cell c := fun e => by simp [Msg.cell, hs, hb, e, zeroM]
  refine good_of h r hr hn (by rw [ec]; exact hc) ?_ ?_ ?_ ?_ <;> rw [ec]
  · rw [e6]; exact fun q => hcz (stN_0 q)
  · rw [e1]; exact fun q => hcz (ne_zero q)
  · rw [e6, e2, e3]
    intro q
    by_cases h0 : M.z c = 0
    · rw [h0]
      refine ⟨?_, e5, fun A => ?_⟩
      · show onB noneS = true; rw [onB, eqB_self]; rfl
      · rw [e4, setZ_cell _ _ _ hs hb, show onV (onS 0) = 0 by show onV noneS = 0; rw [onV, eqB_self]; rfl]; simp [Msg.cell, hs, hb, h0]
    · have hz : 1 ≤ M.z c ∧ M.z c ≤ 999999999 := by
        rcases q with q | ⟨q, qo⟩
        · exact stN_1 q
        · exact absurd (stN_0 q) h0
      have hp := nr_back (lo := 1) (by omega) hz.1 hz.2
      have eS : onS (M.z c) = ⟨(Lib.itoa (M.z c)).toArray⟩ := by rw [onS, show (M.z c == 0) = false by simpa using h0]; rfl
      have hne : eqB (⟨(Lib.itoa (M.z c)).toArray⟩ : ByteArray) noneS = false := eqB_ne fun e => by
        have e2 : Lib.itoa (M.z c) = [78, 79, 78, 69] := by have := congrArg (fun x : ByteArray => x.data.toList) e; simpa [noneS] using this
        rw [e2] at hp
        exact absurd hp.1 (by decide)
      rw [eS]
      refine ⟨?_, e5, fun A => ?_⟩
      · rw [onB, hne, Bool.false_or]; exact hp.1
      · rw [e4, setZ_cell _ _ _ hs hb, onV, hne]
        show Value.int .i64 (puN (Lib.itoa (M.z c)) 999999999) = _
        rw [hp.2]; simp [Msg.cell, hs, hb]
  · rw [e1, e6]; exact stN_ne
theorem goodCode {M : Msg} (h : Vld M) (r c : Nat) (lo m : Int) (hr : r < 45) (hn : (r == 7 || r == 27 || r == 44) = false) (ec : xCe.getD r 0 = c) (hc : c < 42) (hs : isStr c = false) (hb : isBoo c = false)
    (e1 : thB r M = (M.z c != 0)) (e2 : wrS r M = (xwd r).getD (M.z c - lo).toNat ⟨#[]⟩) (e3 : ∀ s, rdBo r s = decide (0 ≤ idS_ (xwd r) s)) (e4 : ∀ s A, ruM r s A = A.setZ c (lo + idS_ (xwd r) s)) (e5 : lo ≤ M.z c ∧ M.z c - lo < (xwd r).length → wrOk r M)
    (e6 : stOf M c = stN (M.z c) m) (hl : lo ≤ 1) (hlen : m - lo < ((xwd r).length : Int)) (hm : 0 ≤ m) (hoz : tOz.getD c false = true → lo ≤ 0) (hd : (List.range (xwd r).length).all (fun i => decide (idS_ (xwd r) ((xwd r).getD i ⟨#[]⟩) = (i : Int))) = true) : Good M r := by
  have hcz : M.z c = 0 → M.cell c = zeroM.cell c := fun e => by simp [Msg.cell, hs, hb, e, zeroM]
  refine good_of h r hr hn (by rw [ec]; exact hc) ?_ ?_ ?_ ?_ <;> rw [ec]
  · rw [e6]; exact fun q => hcz (stN_0 q)
  · rw [e1]; exact fun q => hcz (ne_zero q)
  · rw [e6, e2, e3]
    intro q
    have hz : lo ≤ M.z c ∧ M.z c ≤ m := by
      rcases q with q | ⟨q, qo⟩
      · have := stN_1 q; omega
      · have := stN_0 q; have := hoz qo; omega
    have hi : (M.z c - lo).toNat < (xwd r).length := by omega
    have hx := of_decide_eq_true (List.all_eq_true.1 hd _ (List.mem_range.2 hi))
    refine ⟨?_, e5 ⟨hz.1, by omega⟩, fun A => ?_⟩
    · rw [hx]; exact decide_eq_true (by omega)
    · rw [e4, setZ_cell _ _ _ hs hb, hx]; simp [Msg.cell, hs, hb]; omega
  · rw [e1, e6]; exact stN_ne

set_option maxRecDepth 100000 in
theorem good_0 {M : Msg} (h : Vld M) : Good M 0 := goodCode h 0 0 1 17 (by decide) (by decide) rfl (by decide) (by decide) (by decide) rfl rfl (fun _ => rfl) (fun _ _ => rfl) (fun q => q) rfl (by decide) (by decide) (by decide) (fun q => by cases q) (by kernel_rfl)
set_option maxRecDepth 100000 in
theorem good_1 {M : Msg} (h : Vld M) : Good M 1 := goodText h 1 1 nmS (by decide) (by decide) rfl (by decide) (by decide) rfl rfl (fun _ => rfl) (fun _ _ => rfl) trivial rfl rfl
set_option maxRecDepth 100000 in
theorem good_2 {M : Msg} (h : Vld M) : Good M 2 := goodText h 2 2 nmS (by decide) (by decide) rfl (by decide) (by decide) rfl rfl (fun _ => rfl) (fun _ _ => rfl) trivial rfl rfl
set_option maxRecDepth 100000 in
theorem good_3 {M : Msg} (h : Vld M) : Good M 3 := goodNum h 3 3 1 999999999 (by decide) (by decide) rfl (by decide) (by decide) (by decide) rfl rfl (fun _ => rfl) (fun _ _ => rfl) trivial rfl (by decide) (by decide) (fun q => by cases q)
set_option maxRecDepth 100000 in
theorem good_4 {M : Msg} (h : Vld M) : Good M 4 := goodFlag h 4 4 (by decide) (by decide) rfl (by decide) (by decide) (by decide) rfl rfl (fun _ => rfl) (fun _ _ => rfl) trivial rfl
set_option maxRecDepth 100000 in
theorem good_5 {M : Msg} (h : Vld M) : Good M 5 := goodStamp h 5 5 0 (by decide) (by decide) rfl (by decide) (by decide) (by decide) rfl rfl (fun _ => rfl) (fun _ _ => rfl) (fun q => q) rfl (by decide) (fun _ => by decide)
set_option maxRecDepth 100000 in
theorem good_6 {M : Msg} (h : Vld M) : Good M 6 := goodStamp h 6 6 1 (by decide) (by decide) rfl (by decide) (by decide) (by decide) rfl rfl (fun _ => rfl) (fun _ _ => rfl) (fun q => q) rfl (by decide) (fun q => by cases q)
set_option maxRecDepth 100000 in
theorem good_8 {M : Msg} (h : Vld M) : Good M 8 := goodNum h 8 7 1 3600 (by decide) (by decide) rfl (by decide) (by decide) (by decide) rfl rfl (fun _ => rfl) (fun _ _ => rfl) trivial rfl (by decide) (by decide) (fun q => by cases q)
set_option maxRecDepth 100000 in
theorem good_9 {M : Msg} (h : Vld M) : Good M 9 := goodFlag h 9 8 (by decide) (by decide) rfl (by decide) (by decide) (by decide) rfl rfl (fun _ => rfl) (fun _ _ => rfl) trivial rfl
set_option maxRecDepth 100000 in
theorem good_10 {M : Msg} (h : Vld M) : Good M 10 := goodText h 10 9 tiS (by decide) (by decide) rfl (by decide) (by decide) rfl rfl (fun _ => rfl) (fun _ _ => rfl) trivial rfl rfl
set_option maxRecDepth 100000 in
theorem good_11 {M : Msg} (h : Vld M) : Good M 11 := goodNum h 11 10 1 999999999 (by decide) (by decide) rfl (by decide) (by decide) (by decide) rfl rfl (fun _ => rfl) (fun _ _ => rfl) trivial rfl (by decide) (by decide) (fun q => by cases q)
set_option maxRecDepth 100000 in
theorem good_12 {M : Msg} (h : Vld M) : Good M 12 := goodNum h 12 11 0 999999999 (by decide) (by decide) rfl (by decide) (by decide) (by decide) rfl rfl (fun _ => rfl) (fun _ _ => rfl) trivial rfl (by decide) (by decide) (fun _ => by decide)
set_option maxRecDepth 100000 in
theorem good_13 {M : Msg} (h : Vld M) : Good M 13 := goodNum h 13 12 1 999999999 (by decide) (by decide) rfl (by decide) (by decide) (by decide) rfl rfl (fun _ => rfl) (fun _ _ => rfl) trivial rfl (by decide) (by decide) (fun q => by cases q)
set_option maxRecDepth 100000 in
theorem good_14 {M : Msg} (h : Vld M) : Good M 14 := goodFlag h 14 13 (by decide) (by decide) rfl (by decide) (by decide) (by decide) rfl rfl (fun _ => rfl) (fun _ _ => rfl) trivial rfl
set_option maxRecDepth 100000 in
theorem good_15 {M : Msg} (h : Vld M) : Good M 15 := goodNum h 15 14 1 999999999 (by decide) (by decide) rfl (by decide) (by decide) (by decide) rfl rfl (fun _ => rfl) (fun _ _ => rfl) trivial rfl (by decide) (by decide) (fun q => by cases q)
set_option maxRecDepth 100000 in
theorem good_16 {M : Msg} (h : Vld M) : Good M 16 := goodCode h 16 15 1 17 (by decide) (by decide) rfl (by decide) (by decide) (by decide) rfl rfl (fun _ => rfl) (fun _ _ => rfl) (fun q => q) rfl (by decide) (by decide) (by decide) (fun q => by cases q) (by kernel_rfl)
set_option maxRecDepth 100000 in
theorem good_17 {M : Msg} (h : Vld M) : Good M 17 := goodNum h 17 16 1 9999 (by decide) (by decide) rfl (by decide) (by decide) (by decide) rfl rfl (fun _ => rfl) (fun _ _ => rfl) trivial rfl (by decide) (by decide) (fun q => by cases q)
set_option maxRecDepth 100000 in
theorem good_18 {M : Msg} (h : Vld M) : Good M 18 := goodNum h 18 17 0 999 (by decide) (by decide) rfl (by decide) (by decide) (by decide) rfl rfl (fun _ => rfl) (fun _ _ => rfl) trivial rfl (by decide) (by decide) (fun _ => by decide)
set_option maxRecDepth 100000 in
theorem good_19 {M : Msg} (h : Vld M) : Good M 19 := goodText h 19 18 txS (by decide) (by decide) rfl (by decide) (by decide) rfl rfl (fun _ => rfl) (fun _ _ => rfl) trivial rfl rfl
set_option maxRecDepth 100000 in
theorem good_20 {M : Msg} (h : Vld M) : Good M 20 := goodText h 20 19 idS (by decide) (by decide) rfl (by decide) (by decide) rfl rfl (fun _ => rfl) (fun _ _ => rfl) trivial rfl rfl
set_option maxRecDepth 100000 in
theorem good_21 {M : Msg} (h : Vld M) : Good M 21 := goodText h 21 20 idS (by decide) (by decide) rfl (by decide) (by decide) rfl rfl (fun _ => rfl) (fun _ _ => rfl) trivial rfl rfl
set_option maxRecDepth 100000 in
theorem good_22 {M : Msg} (h : Vld M) : Good M 22 := goodText h 22 21 nmS (by decide) (by decide) rfl (by decide) (by decide) rfl rfl (fun _ => rfl) (fun _ _ => rfl) trivial rfl rfl
set_option maxRecDepth 100000 in
theorem good_23 {M : Msg} (h : Vld M) : Good M 23 := goodText h 23 22 syS (by decide) (by decide) rfl (by decide) (by decide) rfl rfl (fun _ => rfl) (fun _ _ => rfl) trivial rfl rfl
set_option maxRecDepth 100000 in
theorem good_24 {M : Msg} (h : Vld M) : Good M 24 := goodCode h 24 23 1 2 (by decide) (by decide) rfl (by decide) (by decide) (by decide) rfl rfl (fun _ => rfl) (fun _ _ => rfl) (fun q => q) rfl (by decide) (by decide) (by decide) (fun q => by cases q) (by kernel_rfl)
set_option maxRecDepth 100000 in
theorem good_25 {M : Msg} (h : Vld M) : Good M 25 := goodCode h 25 24 1 4 (by decide) (by decide) rfl (by decide) (by decide) (by decide) rfl rfl (fun _ => rfl) (fun _ _ => rfl) (fun q => q) rfl (by decide) (by decide) (by decide) (fun q => by cases q) (by kernel_rfl)
set_option maxRecDepth 100000 in
theorem good_28 {M : Msg} (h : Vld M) : Good M 28 := goodPrice h 28 26 (by decide) (by decide) rfl (by decide) (by decide) (by decide) rfl rfl (fun _ => rfl) (fun _ _ => rfl) trivial rfl rfl
set_option maxRecDepth 100000 in
theorem good_29 {M : Msg} (h : Vld M) : Good M 29 := goodPrice h 29 27 (by decide) (by decide) rfl (by decide) (by decide) (by decide) rfl rfl (fun _ => rfl) (fun _ _ => rfl) trivial rfl rfl
set_option maxRecDepth 100000 in
theorem good_30 {M : Msg} (h : Vld M) : Good M 30 := goodNum h 30 28 1 1000000 (by decide) (by decide) rfl (by decide) (by decide) (by decide) rfl rfl (fun _ => rfl) (fun _ _ => rfl) trivial rfl (by decide) (by decide) (fun q => by cases q)
set_option maxRecDepth 100000 in
theorem good_31 {M : Msg} (h : Vld M) : Good M 31 := goodNum h 31 29 1 1000000 (by decide) (by decide) rfl (by decide) (by decide) (by decide) rfl rfl (fun _ => rfl) (fun _ _ => rfl) trivial rfl (by decide) (by decide) (fun q => by cases q)
set_option maxRecDepth 100000 in
theorem good_32 {M : Msg} (h : Vld M) : Good M 32 := goodNum h 32 30 1 1000000 (by decide) (by decide) rfl (by decide) (by decide) (by decide) rfl rfl (fun _ => rfl) (fun _ _ => rfl) trivial rfl (by decide) (by decide) (fun q => by cases q)
set_option maxRecDepth 100000 in
theorem good_33 {M : Msg} (h : Vld M) : Good M 33 := goodDate h 33 31 (by decide) (by decide) rfl (by decide) (by decide) (by decide) rfl rfl (fun _ => rfl) (fun _ _ => rfl) trivial rfl rfl
set_option maxRecDepth 100000 in
theorem good_34 {M : Msg} (h : Vld M) : Good M 34 := goodOrd h 34 32 (by decide) (by decide) rfl (by decide) (by decide) (by decide) rfl rfl (fun _ => rfl) (fun _ _ => rfl) trivial rfl
set_option maxRecDepth 100000 in
theorem good_35 {M : Msg} (h : Vld M) : Good M 35 := goodNum h 35 33 1 999999999 (by decide) (by decide) rfl (by decide) (by decide) (by decide) rfl rfl (fun _ => rfl) (fun _ _ => rfl) trivial rfl (by decide) (by decide) (fun q => by cases q)
set_option maxRecDepth 100000 in
theorem good_36 {M : Msg} (h : Vld M) : Good M 36 := goodCode h 36 34 1 8 (by decide) (by decide) rfl (by decide) (by decide) (by decide) rfl rfl (fun _ => rfl) (fun _ _ => rfl) (fun q => q) rfl (by decide) (by decide) (by decide) (fun q => by cases q) (by kernel_rfl)
set_option maxRecDepth 100000 in
theorem good_37 {M : Msg} (h : Vld M) : Good M 37 := goodCode h 37 35 1 6 (by decide) (by decide) rfl (by decide) (by decide) (by decide) rfl rfl (fun _ => rfl) (fun _ _ => rfl) (fun q => q) rfl (by decide) (by decide) (by decide) (fun q => by cases q) (by kernel_rfl)
set_option maxRecDepth 100000 in
theorem good_38 {M : Msg} (h : Vld M) : Good M 38 := goodPrice h 38 36 (by decide) (by decide) rfl (by decide) (by decide) (by decide) rfl rfl (fun _ => rfl) (fun _ _ => rfl) trivial rfl rfl
set_option maxRecDepth 100000 in
theorem good_39 {M : Msg} (h : Vld M) : Good M 39 := goodNum h 39 37 1 1000000 (by decide) (by decide) rfl (by decide) (by decide) (by decide) rfl rfl (fun _ => rfl) (fun _ _ => rfl) trivial rfl (by decide) (by decide) (fun q => by cases q)
set_option maxRecDepth 100000 in
theorem good_40 {M : Msg} (h : Vld M) : Good M 40 := goodNum h 40 38 0 1000000 (by decide) (by decide) rfl (by decide) (by decide) (by decide) rfl rfl (fun _ => rfl) (fun _ _ => rfl) trivial rfl (by decide) (by decide) (fun _ => by decide)
set_option maxRecDepth 100000 in
theorem good_41 {M : Msg} (h : Vld M) : Good M 41 := goodNum h 41 39 0 1000000 (by decide) (by decide) rfl (by decide) (by decide) (by decide) rfl rfl (fun _ => rfl) (fun _ _ => rfl) trivial rfl (by decide) (by decide) (fun _ => by decide)
set_option maxRecDepth 100000 in
theorem good_42 {M : Msg} (h : Vld M) : Good M 42 := goodCode h 42 40 0 5 (by decide) (by decide) rfl (by decide) (by decide) (by decide) rfl rfl (fun _ => rfl) (fun _ _ => rfl) (fun q => q) rfl (by decide) (by decide) (by decide) (fun _ => by decide) (by kernel_rfl)
set_option maxRecDepth 100000 in
theorem good_43 {M : Msg} (h : Vld M) : Good M 43 := goodNum h 43 41 0 999999999 (by decide) (by decide) rfl (by decide) (by decide) (by decide) rfl rfl (fun _ => rfl) (fun _ _ => rfl) trivial rfl (by decide) (by decide) (fun _ => by decide)
end Go.Proofs.YtchkpggdndnpjabGreatDoor

namespace Go.Proofs.YtchkpggdndnpjabGreatDoor
set_option linter.unusedVariables false
set_option linter.unusedSimpArgs false
open Go.RowKit

set_option maxRecDepth 100000 in
theorem tbl_life : ((List.range 17).all fun k => (hasK ((k + 1 : Nat) : Int) 26 == 0 || hasK ((k + 1 : Nat) : Int) 27 == 1) && (hasK ((k + 1 : Nat) : Int) 27 == 0 || hasK ((k + 1 : Nat) : Int) 27 == 1)) = true := by kernel_rfl
theorem life_facts {M : Msg} (h : Vld M) : (hasK (M.z 0) 26 = 0 ∨ hasK (M.z 0) 27 = 1) ∧ (hasK (M.z 0) 27 = 0 ∨ hasK (M.z 0) 27 = 1) := by
  obtain ⟨k, hk, e⟩ := h.kind
  have := List.all_eq_true.1 tbl_life k (List.mem_range.2 hk)
  rw [e]
  simpa using this
theorem life_z {M : Msg} (h : Vld M) : 0 ≤ M.z 25 ∧ M.z 25 ≤ 7 ∧ (hasK (M.z 0) 26 = 0 → M.z 25 = 0) ∧ (hasK (M.z 0) 26 = 2 → M.z 25 ≠ 0) := by
  obtain ⟨f1, f2, f3⟩ := row_facts h 26 (by decide) (by decide) (by decide)
  change (hasK (M.z 0) 26 = 0 → stN (M.z 25) 7 = 0) at f1
  change stN (M.z 25) 7 ≠ 2 at f2
  change (hasK (M.z 0) 26 = 2 → false = false → stN (M.z 25) 7 ≠ 0) at f3
  have hs : M.z 25 = 0 ∨ (1 ≤ M.z 25 ∧ M.z 25 ≤ 7) := by
    by_cases h0 : M.z 25 = 0
    · exact .inl h0
    · right
      unfold stN at f2
      rw [if_neg h0] at f2
      split at f2
      · exact absurd rfl f2
      · omega
  refine ⟨by omega, by omega, fun q => stN_0 (f1 q), fun q e => f3 q rfl (by rw [e]; rfl)⟩
def lifeI (z : Int) : Int := if z = 7 then 1 else z
theorem life_tab : ((List.range 7).all fun i => decide (idS_ (xwd 26) ((xwd 26).getD i ⟨#[]⟩) = lifeI ((i : Int) + 1) - 1)) = true := by kernel_rfl
theorem life_read {z : Int} (h0 : 1 ≤ z) (h1 : z ≤ 7) : idS_ (xwd 26) ((xwd 26).getD (z - 1).toNat ⟨#[]⟩) = lifeI z - 1 := by
  have h := of_decide_eq_true (List.all_eq_true.1 life_tab (z - 1).toNat (List.mem_range.2 (by omega)))
  rw [h, show (((z - 1).toNat : Nat) : Int) + 1 = z by omega]
theorem good26 {M : Msg} (h : Vld M) (h0 : hasK (M.z 0) 26 ≠ 0) (hb : ((hasK (M.z 0) 26 == 2) || thB 26 M) = true) : rdBo 26 (wrS 26 M) = true ∧ wrOk 26 M ∧ 1 ≤ M.z 25 := by
  obtain ⟨z0, z1, z2, z3⟩ := life_z h
  have hz : M.z 25 ≠ 0 := by
    rw [Bool.or_eq_true, beq_iff_eq] at hb
    rcases hb with hb | hb
    · exact z3 hb
    · change (M.z 25 != 0) = true at hb; simpa using hb
  have hr := life_read (z := M.z 25) (by omega) z1
  refine ⟨?_, ?_, by omega⟩
  · show decide (0 ≤ idS_ (xwd 26) ((xwd 26).getD (M.z 25 - 1).toNat ⟨#[]⟩)) = true
    rw [hr]
    unfold lifeI
    exact decide_eq_true (by split <;> omega)
  · show (1 : Int) ≤ M.z 25 ∧ M.z 25 - 1 < ((xwd 26).length : Int)
    rw [show (xwd 26).length = 7 from rfl]
    omega
theorem step26 {M : Msg} (h : Vld M) (A : Msg) (hA : A.cell 25 = zeroM.cell 25) : (stepR M 26 A).z 25 = lifeI (M.z 25) := by
  obtain ⟨z0, z1, z2, z3⟩ := life_z h
  have ha : A.z 25 = 0 := by
    have : Value.int .i64 (A.z 25) = .int .i64 0 := hA
    injection this
  unfold stepR
  split
  · rename_i q; rw [ha, z2 q]; rfl
  · rename_i q
    cases hb : ((hasK (M.z 0) 26 == 2) || thB 26 M) with
    | true =>
      have hz := (good26 h q hb).2.2
      show ((1 : Int) + idS_ (xwd 26) ((xwd 26).getD (M.z 25 - 1).toNat ⟨#[]⟩)) = _
      rw [life_read hz z1]; omega
    | false =>
      rw [Bool.or_eq_false_iff] at hb
      have : M.z 25 = 0 := by have := hb.2; change (M.z 25 != 0) = false at this; simpa using this
      show A.z 25 = _
      rw [ha, this]; rfl
theorem step27 {M : Msg} (h : Vld M) (A : Msg) (hA : A.z 25 = lifeI (M.z 25)) : (stepR M 27 A).cell 25 = M.cell 25 := by
  obtain ⟨z0, z1, z2, z3⟩ := life_z h
  obtain ⟨l1, l2⟩ := life_facts h
  by_cases h7 : M.z 25 = 7
  · have h27 : hasK (M.z 0) 27 = 1 := l1.resolve_left (fun q => by have := z2 q; omega)
    unfold stepR
    rw [if_neg (by rw [h27]; decide), h27]
    have : thB 27 M = true := by show (M.z 25 == 7) = true; rw [h7]; rfl
    rw [this]
    show (cond (A.z 25 == 1) (A.setZ 25 7) A).cell 25 = _
    rw [hA, h7]
    show Value.int .i64 7 = .int .i64 (M.z 25)
    rw [h7]
  · have : thB 27 M = false := by show (M.z 25 == 7) = false; simpa using h7
    unfold stepR
    have e : A.cell 25 = M.cell 25 := by
      show Value.int .i64 (A.z 25) = .int .i64 (M.z 25)
      rw [hA, lifeI, if_neg h7]
    split
    · exact e
    · rename_i q
      have h27 : hasK (M.z 0) 27 = 1 := l2.resolve_left q
      rw [this, h27]; exact e
theorem setZ_other {A : Msg} {c j : Nat} {z : Int} (h : j ≠ c) : (A.setZ c z).cell j = A.cell j := by simp [Msg.cell, Msg.setZ, h]
theorem setS_other {A : Msg} {c j : Nat} {z : ByteArray} (h : j ≠ c) : (A.setS c z).cell j = A.cell j := by simp [Msg.cell, Msg.setS, h]
theorem setB_other {A : Msg} {c j : Nat} {z : Bool} (h : j ≠ c) : (A.setB c z).cell j = A.cell j := by simp [Msg.cell, Msg.setB, h]
theorem ru_other (r : Nat) (s : ByteArray) (A : Msg) (j : Nat) (h : j ≠ xCe.getD r 0) : (ruM r s A).cell j = A.cell j := by
  have h' : j ≠ xce r := h
  unfold ruM
  split
  · exact setB_other h'
  · exact setS_other h'
  · exact setZ_other h'
  · exact setZ_other h'
  · exact setZ_other h'
  · exact setZ_other h'
  · exact setZ_other h'
  · rfl
  · cases A.z (xce r) == 1
    · rfl
    · exact setZ_other h'
  · rfl
  · exact setZ_other h'
theorem step_other (M : Msg) (r : Nat) (A : Msg) (j : Nat) (h : j ≠ xCe.getD r 0 ∨ r = 7 ∨ r = 44) : (stepR M r A).cell j = A.cell j := by
  unfold stepR
  split
  · rfl
  · cases ((hasK (M.z 0) r == 2) || thB r M) with
    | false => rfl
    | true =>
      rcases h with h | rfl | rfl
      · exact ru_other r _ A j h
      · rfl
      · rfl
theorem fold_other (M : Msg) (j : Nat) : ∀ (l : List Nat) (A : Msg), (∀ r ∈ l, j ≠ xCe.getD r 0 ∨ r = 7 ∨ r = 44) → (l.foldl (fun A r => stepR M r A) A).cell j = A.cell j
  | [], A, _ => rfl
  | r :: l, A, h => by
    show (l.foldl _ (stepR M r A)).cell j = _
    rw [fold_other M j l _ (fun u hu => h u (by simp [hu])), step_other M r A j (h r (by simp))]
def goAll (M : Msg) : Msg := (List.range 45).foldl (fun A r => stepR M r A) zeroM
theorem fold_at (M : Msg) (j ρ : Nat) (hρ : ρ < 45) (hg : ∀ A : Msg, A.cell j = zeroM.cell j → (stepR M ρ A).cell j = M.cell j) (hu : ((List.range 45).all fun r => decide (r = ρ) || decide (j ≠ xCe.getD r 0 ∨ r = 7 ∨ r = 44)) = true) : (goAll M).cell j = M.cell j := by
  have hu' : ∀ r, r < 45 → r ≠ ρ → (j ≠ xCe.getD r 0 ∨ r = 7 ∨ r = 44) := fun r hr hne => by
    have := List.all_eq_true.1 hu r (List.mem_range.2 hr)
    rw [Bool.or_eq_true, decide_eq_true_eq, decide_eq_true_eq] at this
    exact this.resolve_left hne
  obtain ⟨m, hm⟩ : ∃ m, 45 = ρ + 1 + m := ⟨44 - ρ, by omega⟩
  unfold goAll
  rw [hm, List.range_add, List.range_succ, List.foldl_append, List.foldl_append]
  rw [fold_other M j _ _ (fun r hr => by
    obtain ⟨i, hi, rfl⟩ := List.mem_map.1 hr
    have := List.mem_range.1 hi
    exact hu' _ (by omega) (by omega))]
  exact hg _ (fold_other M j _ _ (fun r hr => by have := List.mem_range.1 hr; exact hu' _ (by omega) (by omega)))
theorem life_at {M : Msg} (h : Vld M) : (goAll M).cell 25 = M.cell 25 := by
  have hu : ((List.range 45).all fun r => decide (r = 26) || decide (r = 27) || decide (25 ≠ xCe.getD r 0 ∨ r = 7 ∨ r = 44)) = true := by decide
  have hu' : ∀ r, r < 45 → r ≠ 26 → r ≠ 27 → (25 ≠ xCe.getD r 0 ∨ r = 7 ∨ r = 44) := fun r hr h1 h2 => by
    have := List.all_eq_true.1 hu r (List.mem_range.2 hr)
    simp only [Bool.or_eq_true, decide_eq_true_eq] at this
    rcases this with (q | q) | q
    · exact absurd q h1
    · exact absurd q h2
    · exact q
  unfold goAll
  rw [show (45 : Nat) = 28 + 17 from rfl, List.range_add, List.range_succ, List.range_succ, List.foldl_append, List.foldl_append, List.foldl_append]
  rw [fold_other M 25 _ _ (fun r hr => by
    obtain ⟨i, hi, rfl⟩ := List.mem_map.1 hr
    have := List.mem_range.1 hi
    exact hu' _ (by omega) (by omega) (by omega))]
  exact step27 h _ (step26 h _ (fold_other M 25 _ _ (fun r hr => by have := List.mem_range.1 hr; exact hu' _ (by omega) (by omega) (by omega))))
set_option maxRecDepth 100000 in
theorem go_all {M : Msg} (h : Vld M) (j : Nat) (hj : j < 42) : (goAll M).cell j = M.cell j := by
  rcases cases42 hj with rfl | rfl | rfl | rfl | rfl | rfl | rfl | rfl | rfl | rfl | rfl | rfl | rfl | rfl | rfl | rfl | rfl | rfl | rfl | rfl | rfl | rfl | rfl | rfl | rfl | rfl | rfl | rfl | rfl | rfl | rfl | rfl | rfl | rfl | rfl | rfl | rfl | rfl | rfl | rfl | rfl | rfl
  · exact fold_at M 0 0 (by decide) (good_0 h).self (by decide)
  · exact fold_at M 1 1 (by decide) (good_1 h).self (by decide)
  · exact fold_at M 2 2 (by decide) (good_2 h).self (by decide)
  · exact fold_at M 3 3 (by decide) (good_3 h).self (by decide)
  · exact fold_at M 4 4 (by decide) (good_4 h).self (by decide)
  · exact fold_at M 5 5 (by decide) (good_5 h).self (by decide)
  · exact fold_at M 6 6 (by decide) (good_6 h).self (by decide)
  · exact fold_at M 7 8 (by decide) (good_8 h).self (by decide)
  · exact fold_at M 8 9 (by decide) (good_9 h).self (by decide)
  · exact fold_at M 9 10 (by decide) (good_10 h).self (by decide)
  · exact fold_at M 10 11 (by decide) (good_11 h).self (by decide)
  · exact fold_at M 11 12 (by decide) (good_12 h).self (by decide)
  · exact fold_at M 12 13 (by decide) (good_13 h).self (by decide)
  · exact fold_at M 13 14 (by decide) (good_14 h).self (by decide)
  · exact fold_at M 14 15 (by decide) (good_15 h).self (by decide)
  · exact fold_at M 15 16 (by decide) (good_16 h).self (by decide)
  · exact fold_at M 16 17 (by decide) (good_17 h).self (by decide)
  · exact fold_at M 17 18 (by decide) (good_18 h).self (by decide)
  · exact fold_at M 18 19 (by decide) (good_19 h).self (by decide)
  · exact fold_at M 19 20 (by decide) (good_20 h).self (by decide)
  · exact fold_at M 20 21 (by decide) (good_21 h).self (by decide)
  · exact fold_at M 21 22 (by decide) (good_22 h).self (by decide)
  · exact fold_at M 22 23 (by decide) (good_23 h).self (by decide)
  · exact fold_at M 23 24 (by decide) (good_24 h).self (by decide)
  · exact fold_at M 24 25 (by decide) (good_25 h).self (by decide)
  · exact life_at h
  · exact fold_at M 26 28 (by decide) (good_28 h).self (by decide)
  · exact fold_at M 27 29 (by decide) (good_29 h).self (by decide)
  · exact fold_at M 28 30 (by decide) (good_30 h).self (by decide)
  · exact fold_at M 29 31 (by decide) (good_31 h).self (by decide)
  · exact fold_at M 30 32 (by decide) (good_32 h).self (by decide)
  · exact fold_at M 31 33 (by decide) (good_33 h).self (by decide)
  · exact fold_at M 32 34 (by decide) (good_34 h).self (by decide)
  · exact fold_at M 33 35 (by decide) (good_35 h).self (by decide)
  · exact fold_at M 34 36 (by decide) (good_36 h).self (by decide)
  · exact fold_at M 35 37 (by decide) (good_37 h).self (by decide)
  · exact fold_at M 36 38 (by decide) (good_38 h).self (by decide)
  · exact fold_at M 37 39 (by decide) (good_39 h).self (by decide)
  · exact fold_at M 38 40 (by decide) (good_40 h).self (by decide)
  · exact fold_at M 39 41 (by decide) (good_41 h).self (by decide)
  · exact fold_at M 40 42 (by decide) (good_42 h).self (by decide)
  · exact fold_at M 41 43 (by decide) (good_43 h).self (by decide)
end Go.Proofs.YtchkpggdndnpjabGreatDoor

namespace Go.Proofs.YtchkpggdndnpjabGreatDoor
set_option linter.unusedVariables false
open Go.RowKit

def knA (t : Int) : Bool := (List.range 45).any fun r => xNum.getD r 0 == t
def knC (t : Int) : Bool := (List.range 17).any fun k => tagR ((k : Int) + 1) 373 == t
def knB (t : Int) : Bool := knA t || knC t
set_option maxRecDepth 100000 in
set_option maxHeartbeats 800000 in
theorem isKnown_any (t : Int) (w : World) : Calls Tryz.prog 217 #[.int .i64 t] w fun e w' => e = .returned (.bool (knB t)) ∧ Below w.heap.size w w' := by
  generalize hR : knB t = R
  have HR : Hid (knB t = R) := hR
  clear hR
  go_enter Tryz.func217, Tryz.ntmps217
  go_wp2_with (go_at_call 35; fail)
  refine (xrows_any _).mono ?_
  rintro e w2 ⟨rfl, hb2⟩
  have HB2 : Hid (Below w.heap.size w w2) := hb2
  clear hb2
  generalize hRC : xrowsCs.toArray = RC
  go_wp2
  go_loopw [7] (fun i wr => ∃ k : Nat, k ≤ 45 ∧ i = .int .i64 k ∧ (∀ j, j < k → ¬ xNum.getD j 0 = t) ∧ Below w.heap.size w wr) (fun i _ => 45 - (intOf i).toNat)
  case atStart => exact ⟨0, by omega, rfl, fun j hj => by omega, HB2.out⟩
  case round =>
    obtain ⟨k, hk, rfl, hp, hb⟩ := hrel
    have HA : Hid ((∀ j, j < k → ¬ xNum.getD j 0 = t) ∧ Below w.heap.size w wr) := ⟨hp, hb⟩
    clear hp hb HB2
    by_cases hlt : k < 45
    · have hlt' : (k : Int) < 45 := by omega
      have hx := xindex_at k hlt
      rw [hRC] at hx
      clear hRC
      have HB3 : Hid (∀ N F, Below w.heap.size w (wr.alloc (.cells #[.int .i64 N, .func (.func F) #[] #[]] 83))) := fun N F => HA.out.2.trans (((Below.refl _ wr).alloc (Nat.le_refl _) _).mono HA.out.2.size)
      by_cases he : xNum.getD k 0 = t
      · have HX : Hid (R = true) := by
          show _ = _
          rw [← HR.out]; unfold knB knA
          rw [show ((List.range 45).any fun r => xNum.getD r 0 == t) = true from List.any_eq_true.2 ⟨k, List.mem_range.2 hlt, by simpa using he⟩]; rfl
        have heb : (xNum.getD k 0 == t) = true := by simpa using he
        clear he
        generalize xNum.getD k 0 = N at *
        generalize xFn.getD k 0 = F at *
        go_wp2
        go_ret
        exact ⟨ret_bool HX.out.symm, HB3.out _ _⟩
      · have HX : Hid (∀ j, j < k + 1 → ¬ xNum.getD j 0 = t) := fun j hj => by
          by_cases e : j < k
          · exact HA.out.1 j e
          · obtain rfl : j = k := by omega
            exact he
        have heb : (xNum.getD k 0 == t) = false := by simpa using he
        clear he
        generalize hN : xNum.getD k 0 = N at *
        generalize xFn.getD k 0 = F at *
        go_wp2
        go_roundw
        case rel => exact ⟨k + 1, by omega, by go_num, HX.out, HB3.out _ _⟩
        case measure => simp [intOf]; omega
    · have HK : Hid (k = 45) := by show _ = _; omega
      have hnl : ¬ (k : Int) < 45 := by omega
      clear hRC hlt hk
      have HNA : Hid (knA t = false) := by
        show _ = _
        unfold knA
        rw [List.any_eq_false]
        intro j hj
        have := HA.out.1 j (by rw [HK.out]; exact List.mem_range.1 hj)
        simpa using this
      have HT := fun (k : Int) w' => tagOf_any k 373 w'
      go_wp2
      go_loopw [5] (fun i wr => ∃ k : Nat, k ≤ 17 ∧ i = .int .i64 ((k : Int) + 1) ∧ (∀ j : Nat, j < k → ¬ tagR ((j : Int) + 1) 373 = t) ∧ Below w.heap.size w wr) (fun i _ => 18 - (intOf i).toNat)
      case atStart => exact ⟨0, by omega, rfl, fun j hj => by omega, HA.out.2⟩
      case round =>
        obtain ⟨m, hm, rfl, hp, hb⟩ := hrel
        have HC : Hid ((∀ j : Nat, j < m → ¬ tagR ((j : Int) + 1) 373 = t) ∧ Below w.heap.size w wr) := ⟨hp, hb⟩
        clear hp hb HA
        by_cases hlt : m < 17
        · have hlt' : (m : Int) + 1 ≤ 17 := by omega
          have hT := HT ((m : Int) + 1)
          clear HT
          by_cases he : tagR ((m : Int) + 1) 373 = t
          · have HX : Hid (R = true) := by
              show _ = _
              rw [← HR.out]; unfold knB knC
              rw [show ((List.range 17).any fun k => tagR ((k : Int) + 1) 373 == t) = true from List.any_eq_true.2 ⟨m, List.mem_range.2 hlt, by simpa using he⟩, Bool.or_true]
            have heb : (tagR ((m : Int) + 1) 373 == t) = true := by simpa using he
            clear he
            generalize tagR ((m : Int) + 1) 373 = G at *
            go_wp2_with (go_at_call 37; refine (hT _).mono ?_; rintro e w5 ⟨rfl, rfl⟩)
            go_ret
            exact ⟨ret_bool HX.out.symm, HC.out.2⟩
          · have HX : Hid (∀ j : Nat, j < m + 1 → ¬ tagR ((j : Int) + 1) 373 = t) := fun j hj => by
              by_cases e : j < m
              · exact HC.out.1 j e
              · obtain rfl : j = m := by omega
                exact he
            have heb : (tagR ((m : Int) + 1) 373 == t) = false := by simpa using he
            clear he
            generalize hG : tagR ((m : Int) + 1) 373 = G at *
            go_wp2_with (go_at_call 37; refine (hT _).mono ?_; rintro e w5 ⟨rfl, rfl⟩)
            exact ⟨⟨m + 1, by omega, by go_num, HX.out, HC.out.2⟩, by simp [intOf]; omega⟩
        · obtain rfl : m = 17 := by omega
          have HX : Hid (R = false) := by
            show _ = _
            rw [← HR.out]; unfold knB knC
            rw [HNA.out, Bool.false_or, List.any_eq_false]
            intro j hj
            have := HC.out.1 j (List.mem_range.1 hj)
            simpa using this
          go_wp2
          go_ret
          exact ⟨ret_bool HX.out.symm, HC.out.2⟩
end Go.Proofs.YtchkpggdndnpjabGreatDoor
