/-
  Plain mathematics: what Stamp writes is read as it was.
-/
import Derived.Test.YteafaglhlggknaaDoorStamps
import Derived.Test.YteafaglhlggknaaDoorReads2
namespace Go.Proofs.YteafaglhlggknaaDoor
set_option linter.unusedVariables false
open Go.Shelf Go.RowKit Go.Sort Go.Lib

def u8 (n : Int) : UInt8 := UInt8.ofNat n.toNat
def digB (n k : Nat) : List UInt8 := (digI n k).map u8
theorem digB_length (n k : Nat) : (digB n k).length = k := by simp [digB, digI]
theorem u8_dig {x : Nat} (h : x < 10) : (u8 ((48 + x : Nat) : Int)).toNat = 48 + x := by
  unfold u8
  rw [Int.toNat_natCast]
  simp
  omega
theorem digI_snoc (n k : Nat) : digI n (k + 1) = digI (n / 10) k ++ [((48 + n % 10 : Nat) : Int)] := by
  unfold digI
  rw [List.range_succ, List.map_append]
  congr 1
  · refine List.map_congr_left fun i hi => ?_
    have hi' : i < k := by simpa using hi
    rw [Nat.div_div_eq_div_mul, show k + 1 - 1 - i = (k - 1 - i) + 1 by omega, Nat.pow_succ, Nat.mul_comm (10 ^ (k - 1 - i)) 10]
  · simp
theorem digB_snoc (n k : Nat) : digB n (k + 1) = digB (n / 10) k ++ [u8 ((48 + n % 10 : Nat) : Int)] := by
  unfold digB
  rw [digI_snoc, List.map_append]
  rfl
theorem rd_digB (k : Nat) : ∀ n, rdN (digB n k) = n % 10 ^ k := by
  induction k with
  | zero => intro n; simp [digB, digI, rdN, Nat.mod_one]
  | succ k ih =>
    intro n
    rw [digB_snoc, rdN_snoc, ih, u8_dig (Nat.mod_lt _ (by decide)), Nat.pow_succ, Nat.mul_comm (10 ^ k) 10, Nat.mod_mul]
    omega
theorem digB_dig (k : Nat) : ∀ n, ∀ c ∈ digB n k, isDig c = true := by
  induction k with
  | zero => intro n c hc; simp [digB, digI] at hc
  | succ k ih =>
    intro n c hc
    rw [digB_snoc, List.mem_append] at hc
    rcases hc with hc | hc
    · exact ih _ c hc
    · simp only [List.mem_singleton] at hc
      subst hc
      have := u8_dig (x := n % 10) (Nat.mod_lt _ (by decide))
      unfold isDig
      rw [this]
      have : n % 10 < 10 := Nat.mod_lt _ (by decide)
      simp
      omega
theorem mid {α : Type} (A B C : List α) {a n : Nat} (hA : A.length = a) (hB : B.length = n) : ((A ++ B ++ C).drop a).take n = B := by
  subst hA hB
  rw [List.append_assoc, List.drop_left, List.take_left]
/-- The text of a stamp, of numbers. -/
def txt (d h m s x : Nat) : List UInt8 := digB d 8 ++ [45] ++ digB h 2 ++ [58] ++ digB m 2 ++ [58] ++ digB s 2 ++ [46] ++ digB x 3
theorem txt_length (d h m s x : Nat) : (txt d h m s x).length = 21 := by simp [txt, digB_length]
theorem txt_d (d h m s x : Nat) : ((txt d h m s x).drop 0).take 8 = digB d 8 := by
  have := mid [] (digB d 8) ([45] ++ digB h 2 ++ [58] ++ digB m 2 ++ [58] ++ digB s 2 ++ [46] ++ digB x 3) rfl (digB_length d 8)
  simpa [txt] using this
theorem txt_h (d h m s x : Nat) : ((txt d h m s x).drop 9).take 2 = digB h 2 := by
  have := mid (digB d 8 ++ [45]) (digB h 2) ([58] ++ digB m 2 ++ [58] ++ digB s 2 ++ [46] ++ digB x 3) (a := 9) (by simp [digB_length]) (digB_length h 2)
  simpa [txt] using this
theorem txt_m (d h m s x : Nat) : ((txt d h m s x).drop 12).take 2 = digB m 2 := by
  have := mid (digB d 8 ++ [45] ++ digB h 2 ++ [58]) (digB m 2) ([58] ++ digB s 2 ++ [46] ++ digB x 3) (a := 12) (by simp [digB_length]) (digB_length m 2)
  simpa [txt] using this
theorem txt_s (d h m s x : Nat) : ((txt d h m s x).drop 15).take 2 = digB s 2 := by
  have := mid (digB d 8 ++ [45] ++ digB h 2 ++ [58] ++ digB m 2 ++ [58]) (digB s 2) ([46] ++ digB x 3) (a := 15) (by simp [digB_length]) (digB_length s 2)
  simpa [txt] using this
theorem txt_x (d h m s x : Nat) : ((txt d h m s x).drop 18).take 3 = digB x 3 := by
  have := mid (digB d 8 ++ [45] ++ digB h 2 ++ [58] ++ digB m 2 ++ [58] ++ digB s 2 ++ [46]) (digB x 3) [] (a := 18) (by simp [digB_length]) (digB_length x 3)
  simpa [txt] using this
/-- A digit's place. -/
theorem get_of_part {l : List UInt8} {a n : Nat} {B : List UInt8} (h : (l.drop a).take n = B) (hB : ∀ c ∈ B, isDig c = true) (hl : a + n ≤ l.length) {j : Nat} (h0 : a ≤ j) (h1 : j < a + n) : isDig (l.getD j 0) = true := by
  refine hB _ ?_
  rw [← h, List.getD_eq_getElem?_getD, List.getElem?_eq_getElem (by omega)]
  simp only [Option.getD_some]
  have : l[j] = ((l.drop a).take n)[j - a]'(by simp; omega) := by
    simp only [List.getElem_take, List.getElem_drop]
    congr 1
    omega
  rw [this]
  exact List.getElem_mem _
theorem txt_sign (d h m s x : Nat) : (txt d h m s x).getD 8 0 = 45 ∧ (txt d h m s x).getD 11 0 = 58 ∧ (txt d h m s x).getD 14 0 = 58 ∧ (txt d h m s x).getD 17 0 = 46 := by
  have e1 := mid (digB d 8) [45] (digB h 2 ++ [58] ++ digB m 2 ++ [58] ++ digB s 2 ++ [46] ++ digB x 3) (digB_length d 8) rfl
  have e2 := mid (digB d 8 ++ [45] ++ digB h 2) [58] (digB m 2 ++ [58] ++ digB s 2 ++ [46] ++ digB x 3) (a := 11) (by simp [digB_length]) rfl
  have e3 := mid (digB d 8 ++ [45] ++ digB h 2 ++ [58] ++ digB m 2) [58] (digB s 2 ++ [46] ++ digB x 3) (a := 14) (by simp [digB_length]) rfl
  have e4 := mid (digB d 8 ++ [45] ++ digB h 2 ++ [58] ++ digB m 2 ++ [58] ++ digB s 2) [46] (digB x 3) (a := 17) (by simp [digB_length]) rfl
  have key : ∀ (l : List UInt8) (a : Nat) (c : UInt8), (l.drop a).take 1 = [c] → l.getD a 0 = c := fun l a c h => by
    have h2 : (l.drop a).head? = some c := by
      cases hd : l.drop a with
      | nil => rw [hd] at h; simp at h
      | cons y ys => rw [hd] at h; simp at h; simp [h]
    rw [List.head?_drop] at h2
    rw [List.getD_eq_getElem?_getD, h2]
    rfl
  refine ⟨key _ _ _ ?_, key _ _ _ ?_, key _ _ _ ?_, key _ _ _ ?_⟩
  · simpa [txt] using e1
  · simpa [txt] using e2
  · simpa [txt] using e3
  · simpa [txt] using e4
theorem txt_form (t : ByteArray) (d h m s x : Nat) (ht : t.data.toList = txt d h m s x) : formTo t 21 = true := by
  have hl := txt_length d h m s x
  simp only [formTo, List.all_eq_true, List.mem_range]
  intro j hj
  rw [ht]
  have hs := txt_sign d h m s x
  by_cases h48 : formAt j = 48
  · rw [okAt_dig h48]
    have hc : (0 ≤ j ∧ j < 0 + 8) ∨ (9 ≤ j ∧ j < 9 + 2) ∨ (12 ≤ j ∧ j < 12 + 2) ∨ (15 ≤ j ∧ j < 15 + 2) ∨ (18 ≤ j ∧ j < 18 + 3) :=
      (by decide : ∀ j, j < 21 → formAt j = 48 → (0 ≤ j ∧ j < 0 + 8) ∨ (9 ≤ j ∧ j < 9 + 2) ∨ (12 ≤ j ∧ j < 12 + 2) ∨ (15 ≤ j ∧ j < 15 + 2) ∨ (18 ≤ j ∧ j < 18 + 3)) j hj h48
    rcases hc with hc | hc | hc | hc | hc
    · exact get_of_part (txt_d d h m s x) (digB_dig 8 d) (by omega) hc.1 hc.2
    · exact get_of_part (txt_h d h m s x) (digB_dig 2 h) (by omega) hc.1 hc.2
    · exact get_of_part (txt_m d h m s x) (digB_dig 2 m) (by omega) hc.1 hc.2
    · exact get_of_part (txt_s d h m s x) (digB_dig 2 s) (by omega) hc.1 hc.2
    · exact get_of_part (txt_x d h m s x) (digB_dig 3 x) (by omega) hc.1 hc.2
  · rw [okAt_sign h48]
    have hc : j = 8 ∨ j = 11 ∨ j = 14 ∨ j = 17 := (by decide : ∀ j, j < 21 → ¬ formAt j = 48 → j = 8 ∨ j = 11 ∨ j = 14 ∨ j = 17) j hj h48
    rcases hc with rfl | rfl | rfl | rfl
    · rw [hs.1]; rfl
    · rw [hs.2.1]; rfl
    · rw [hs.2.2.1]; rfl
    · rw [hs.2.2.2]; rfl
theorem stamp_txt (t : Nat) : (strOfNums (stampI t)).data.toList = txt (dateN (t / 86400000)) (t % 86400000 / 3600000) (t % 3600000 / 60000) (t % 60000 / 1000) (t % 1000) := by
  rw [strOfNums_data]
  unfold stampI txt digB
  simp only [List.map_append]
  rfl
theorem stamp_size (t : Nat) : (strOfNums (stampI t)).size = 21 := by
  rw [strOfNums_size]
  simp [stampI, digI_length]
/-- What Stamp writes is read. -/
theorem ps_stamp (t : Nat) (ht : t ≤ 253402300799999) : psV (strOfNums (stampI t)) = (t : Int) ∧ psE (strOfNums (stampI t)) = 0 := by
  have hx := stamp_txt t
  have hz := stamp_size t
  generalize strOfNums (stampI t) = S at *
  have hd := dateN_bounds (n := t / 86400000) (by omega)
  have hnum := dnum_date (n := t / 86400000) (by omega)
  have p1 : part S 0 8 = dateN (t / 86400000) := by
    unfold part rdB; rw [extract_list, hx, txt_d, rd_digB]; exact Nat.mod_eq_of_lt (by omega)
  have p2 : part S 9 11 = t % 86400000 / 3600000 := by
    unfold part rdB; rw [extract_list, hx, txt_h, rd_digB]; exact Nat.mod_eq_of_lt (by omega)
  have p3 : part S 12 14 = t % 3600000 / 60000 := by
    unfold part rdB; rw [extract_list, hx, txt_m, rd_digB]; exact Nat.mod_eq_of_lt (by omega)
  have p4 : part S 15 17 = t % 60000 / 1000 := by
    unfold part rdB; rw [extract_list, hx, txt_s, rd_digB]; exact Nat.mod_eq_of_lt (by omega)
  have p5 : part S 18 21 = t % 1000 := by
    unfold part rdB; rw [extract_list, hx, txt_x, rd_digB]; exact Nat.mod_eq_of_lt (by omega)
  have hb : dnB (dateN (t / 86400000) : Int) = true := by unfold dnB; rw [hnum]; rfl
  have hv : dnV (dateN (t / 86400000) : Int) = ((t / 86400000 : Nat) : Int) := by unfold dnV; rw [hnum]
  have hok : psOk S = true := by
    unfold psOk formOk
    rw [p1, p2, p3, p4, hb, hz, txt_form S _ _ _ _ _ hx, decide_eq_true (by omega), decide_eq_true (by omega), decide_eq_true (by omega)]
    rfl
  unfold psV psE
  rw [hok, if_pos rfl, if_pos rfl, hz, if_pos (by decide), p1, p2, p3, p4, p5, hv]
  exact ⟨by omega, rfl⟩
theorem cut_part (S : ByteArray) (a b : Nat) (hb : b ≤ 17) : part (S.extract 0 17) a b = part S a b := by
  unfold part rdB
  rw [extract_list, extract_list, extract_list, List.drop_zero, List.drop_take, List.take_take]
  congr 2
  omega
theorem cut_form (S : ByteArray) (h : formTo S 21 = true) (hz : S.size = 21) : formTo (S.extract 0 17) 17 = true := by
  simp only [formTo, List.all_eq_true, List.mem_range] at h ⊢
  intro j hj
  have := h j (by omega)
  rw [extract_list, List.drop_zero, List.getD_eq_getElem?_getD, List.getElem?_take_of_lt (by omega), ← List.getD_eq_getElem?_getD]
  exact this
/-- .. without the milliseconds as the second. -/
theorem ps_cut (t : Nat) (ht : t ≤ 253402300799999) : psV ((strOfNums (stampI t)).extract 0 17) = (t : Int) - (t : Int) % 1000 ∧ psE ((strOfNums (stampI t)).extract 0 17) = 0 := by
  have hx := stamp_txt t
  have hz := stamp_size t
  generalize strOfNums (stampI t) = S at *
  have hd := dateN_bounds (n := t / 86400000) (by omega)
  have hnum := dnum_date (n := t / 86400000) (by omega)
  have p1 : part S 0 8 = dateN (t / 86400000) := by
    unfold part rdB; rw [extract_list, hx, txt_d, rd_digB]; exact Nat.mod_eq_of_lt (by omega)
  have p2 : part S 9 11 = t % 86400000 / 3600000 := by
    unfold part rdB; rw [extract_list, hx, txt_h, rd_digB]; exact Nat.mod_eq_of_lt (by omega)
  have p3 : part S 12 14 = t % 3600000 / 60000 := by
    unfold part rdB; rw [extract_list, hx, txt_m, rd_digB]; exact Nat.mod_eq_of_lt (by omega)
  have p4 : part S 15 17 = t % 60000 / 1000 := by
    unfold part rdB; rw [extract_list, hx, txt_s, rd_digB]; exact Nat.mod_eq_of_lt (by omega)
  have hb : dnB (dateN (t / 86400000) : Int) = true := by unfold dnB; rw [hnum]; rfl
  have hv : dnV (dateN (t / 86400000) : Int) = ((t / 86400000 : Nat) : Int) := by unfold dnV; rw [hnum]
  have hz2 : (S.extract 0 17).size = 17 := by rw [ByteArray.size_extract]; omega
  have hok : psOk (S.extract 0 17) = true := by
    unfold psOk formOk
    rw [cut_part S 0 8 (by omega), cut_part S 9 11 (by omega), cut_part S 12 14 (by omega), cut_part S 15 17 (by omega), p1, p2, p3, p4, hb, hz2, cut_form S (txt_form S _ _ _ _ _ hx) hz, decide_eq_true (by omega), decide_eq_true (by omega), decide_eq_true (by omega)]
    rfl
  unfold psV psE
  rw [hok, if_pos rfl, if_pos rfl, hz2, if_neg (by decide), cut_part S 0 8 (by omega), cut_part S 9 11 (by omega), cut_part S 12 14 (by omega), cut_part S 15 17 (by omega), p1, p2, p3, p4, hv]
  exact ⟨by omega, rfl⟩
end Go.Proofs.YteafaglhlggknaaDoor
