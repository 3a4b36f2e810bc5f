/-
  Plain mathematics: ParsePrice of PrintPrice.
-/
import Derived.Test.YtnnfepapnimlcabDoorBack
namespace Go.Proofs.YtnnfepapnimlcabDoor
set_option linter.unusedVariables false
open Go.Lib

theorem digs_no_dot {l : List UInt8} (h : digs l = true) : ∀ c ∈ l, c ≠ 46 := by
  intro c hc e
  unfold digs at h
  rw [List.all_eq_true] at h
  have := (dig_iff c).1 (h c hc)
  rw [e] at this
  revert this
  decide
theorem ib_none : ∀ (l : List UInt8), (∀ c ∈ l, c ≠ 46) → indexByte l 46 = -1
  | [], _ => rfl
  | b :: l, h => by
    have ih := ib_none l (fun c hc => h c (by simp [hc]))
    have hb : (b == 46) = false := by simpa using h b (by simp)
    rw [indexByte, hb, ih]
    rfl
theorem ib_app : ∀ (l r : List UInt8), (∀ c ∈ l, c ≠ 46) → indexByte (l ++ 46 :: r) 46 = (l.length : Int)
  | [], r, _ => by simp [indexByte]
  | b :: l, r, h => by
    have ih := ib_app l r (fun c hc => h c (by simp [hc]))
    have hb : (b == 46) = false := by simpa using h b (by simp)
    rw [List.cons_append, indexByte, hb, ih]
    have hne : ((l.length : Int) == -1) = false := by simp
    rw [hne]
    simp
theorem dec_four {r : Nat} (h : r < 10000) : decDigits (10000 + r) = [49, UInt8.ofNat (48 + r / 1000), UInt8.ofNat (48 + r / 100 % 10), UInt8.ofNat (48 + r / 10 % 10), UInt8.ofNat (48 + r % 10)] := by
  rw [decDigits, dif_neg (by omega), decDigits, dif_neg (by omega), decDigits, dif_neg (by omega), decDigits, dif_neg (by omega), decDigits_one (by omega)]
  simp only [List.cons_append, List.nil_append]
  rw [show 48 + (10000 + r) / 10 / 10 / 10 / 10 = 49 by omega, show (10000 + r) / 10 / 10 / 10 % 10 = r / 1000 by omega, show (10000 + r) / 10 / 10 % 10 = r / 100 % 10 by omega, show (10000 + r) / 10 % 10 = r / 10 % 10 by omega, show (10000 + r) % 10 = r % 10 by omega]
  rfl
theorem plc_chr {i : Nat} (h : i < 10) : plc (some (UInt8.ofNat (48 + i))) = (i : Int) := by
  show (((UInt8.ofNat (48 + i)).toNat : Nat) : Int) - 48 = _
  rw [chr_nat h]
  omega
theorem chr_eq {i : Nat} (h : i < 10) : (UInt8.ofNat (48 + i) == 48) = decide (i = 0) := by
  by_cases e : i = 0
  · subst e; rfl
  · have : UInt8.ofNat (48 + i) ≠ 48 := fun h' => by
      have := congrArg UInt8.toNat h'
      rw [chr_nat h] at this
      have h48 : (48 : UInt8).toNat = 48 := rfl
      omega
    rw [decide_eq_false e]
    exact beq_eq_false_iff_ne.2 this
/-- The digits behind the point, without the noughts at their end. -/
theorem trim_bytes {a b c d : Nat} {A B C D : UInt8} (da : dig A = true) (db : dig B = true) (dc : dig C = true) (dd : dig D = true) (pa : plc (some A) = (a : Int)) (pb : plc (some B) = (b : Int)) (pc : plc (some C) = (c : Int)) (pd : plc (some D) = (d : Int))
    (ea : (A == 48) = decide (a = 0)) (eb : (B == 48) = decide (b = 0)) (ec : (C == 48) = decide (c = 0)) (ed : (D == 48) = decide (d = 0)) (h : ¬ (a = 0 ∧ b = 0 ∧ c = 0 ∧ d = 0)) :
    restB (trimRightB [A, B, C, D] 48) = true ∧ restN (trimRightB [A, B, C, D] 48) 4 = (a * 1000 + b * 100 + c * 10 + d : Nat) := by
  have pn : plc none = 0 := rfl
  have t : trimRightB [A, B, C, D] 48 = if d = 0 then (if c = 0 then (if b = 0 then [A] else [A, B]) else [A, B, C]) else [A, B, C, D] := by
    have r : [A, B, C, D].reverse = [D, C, B, A] := rfl
    unfold trimRightB
    rw [r]
    by_cases d0 : d = 0
    · rw [if_pos d0, List.dropWhile_cons, ed, decide_eq_true d0, if_pos rfl]
      by_cases c0 : c = 0
      · rw [if_pos c0, List.dropWhile_cons, ec, decide_eq_true c0, if_pos rfl]
        by_cases b0 : b = 0
        · rw [if_pos b0, List.dropWhile_cons, eb, decide_eq_true b0, if_pos rfl, List.dropWhile_cons, ea, decide_eq_false (by omega), if_neg (by decide)]
          rfl
        · rw [if_neg b0, List.dropWhile_cons, eb, decide_eq_false b0, if_neg (by decide)]
          rfl
      · rw [if_neg c0, List.dropWhile_cons, ec, decide_eq_false c0, if_neg (by decide)]
        rfl
    · rw [if_neg d0, List.dropWhile_cons, ed, decide_eq_false d0, if_neg (by decide)]
      rfl
  rw [t]
  by_cases d0 : d = 0
  · rw [if_pos d0]
    by_cases c0 : c = 0
    · rw [if_pos c0]
      by_cases b0 : b = 0
      · rw [if_pos b0]
        exact ⟨by simp [restB, digs, da], by simp [restN, pa, pn]; omega⟩
      · rw [if_neg b0]
        exact ⟨by simp [restB, digs, da, db], by simp [restN, pa, pb, pn]; omega⟩
    · rw [if_neg c0]
      exact ⟨by simp [restB, digs, da, db, dc], by simp [restN, pa, pb, pc, pn]; omega⟩
  · rw [if_neg d0]
    exact ⟨by simp [restB, digs, da, db, dc, dd], by simp [restN, pa, pb, pc, pd]; omega⟩
theorem trim_four {a b c d : Nat} (ha : a < 10) (hb : b < 10) (hc : c < 10) (hd : d < 10) (h : ¬ (a = 0 ∧ b = 0 ∧ c = 0 ∧ d = 0)) :
    restB (trimRightB [UInt8.ofNat (48 + a), UInt8.ofNat (48 + b), UInt8.ofNat (48 + c), UInt8.ofNat (48 + d)] 48) = true ∧ restN (trimRightB [UInt8.ofNat (48 + a), UInt8.ofNat (48 + b), UInt8.ofNat (48 + c), UInt8.ofNat (48 + d)] 48) 4 = (a * 1000 + b * 100 + c * 10 + d : Nat) :=
  trim_bytes (dig_chr ha) (dig_chr hb) (dig_chr hc) (dig_chr hd) (plc_chr ha) (plc_chr hb) (plc_chr hc) (plc_chr hd) (chr_eq ha) (chr_eq hb) (chr_eq hc) (chr_eq hd) h
/-- ParsePrice of PrintPrice. -/
theorem price_back (q : Nat) (hq : q ≤ 1000000000) : priceN (ppB q) = (q : Int) ∧ priceE (ppB q) = 0 := by
  have hm : magI (q : Int) = q := magI_pos (by omega)
  have hW : q / 10000 ≤ 100000 := by omega
  have hS : ppS (q : Int) = ⟨(decDigits (q / 10000)).toArray⟩ := by
    unfold ppS
    rw [if_neg (by omega), hm]
    unfold decI
    rw [show ((q : Int) / 10000).toNat = q / 10000 by omega]
  have hpu := pu_dec (u := q / 10000) (m := 100000) (by omega)
  have hdot := digs_no_dot (digs_dec (q / 10000))
  by_cases hr : q % 10000 = 0
  · have hB : ppB (q : Int) = ⟨(decDigits (q / 10000)).toArray⟩ := by
      unfold ppB
      rw [hm, if_pos (by omega), hS]
    rw [hB]
    have hd : dotAt ⟨(decDigits (q / 10000)).toArray⟩ < 0 := by
      unfold dotAt
      rw [show (⟨(decDigits (q / 10000)).toArray⟩ : ByteArray).data.toList = decDigits (q / 10000) from rfl, ib_none _ hdot]
      decide
    rw [(price_no hd).1, (price_no hd).2]
    have := prc_ok (wh := decDigits (q / 10000)) (r := []) hpu.2 (by rw [hpu.1, restN_nil]; omega)
    rw [show (⟨(decDigits (q / 10000)).toArray⟩ : ByteArray).data.toList = decDigits (q / 10000) from rfl, this.1, this.2, hpu.1, restN_nil]
    exact ⟨by omega, rfl⟩
  · have hT := trim_four (a := q % 10000 / 1000) (b := q % 10000 / 100 % 10) (c := q % 10000 / 10 % 10) (d := q % 10000 % 10) (by omega) (by omega) (by omega) (by omega) (by omega)
    have hB : (ppB (q : Int)).data.toList = decDigits (q / 10000) ++ 46 :: trimRightB [UInt8.ofNat (48 + q % 10000 / 1000), UInt8.ofNat (48 + q % 10000 / 100 % 10), UInt8.ofNat (48 + q % 10000 / 10 % 10), UInt8.ofNat (48 + q % 10000 % 10)] 48 := by
      unfold ppB
      rw [hm, if_neg (by omega), hS]
      unfold trim0 decI
      rw [show ((10000 : Int) + (q : Int) % 10000).toNat = 10000 + q % 10000 by omega, dec_four (Nat.mod_lt _ (by decide))]
      simp only [ByteArray.data_append, Array.toList_append, List.append_assoc]
      rfl
    generalize ppB (q : Int) = S at *
    generalize trimRightB [UInt8.ofNat (48 + q % 10000 / 1000), UInt8.ofNat (48 + q % 10000 / 100 % 10), UInt8.ofNat (48 + q % 10000 / 10 % 10), UInt8.ofNat (48 + q % 10000 % 10)] 48 = T at *
    have hd : dotAt S = ((decDigits (q / 10000)).length : Int) := by
      unfold dotAt
      rw [hB, ib_app _ _ hdot]
    have hw : wholeL S = decDigits (q / 10000) := by
      unfold wholeL
      rw [hd, Int.toNat_natCast, hB, List.take_left]
    have hre : restL S = T := by
      unfold restL
      rw [hd, Int.toNat_natCast, hB]
      rw [show decDigits (q / 10000) ++ 46 :: T = (decDigits (q / 10000) ++ [46]) ++ T by simp]
      rw [show (decDigits (q / 10000)).length + 1 = (decDigits (q / 10000) ++ [46]).length by simp, List.drop_left]
    have hb : restB (restL S) = true := by rw [hre]; exact hT.1
    rw [(price_dot (by omega) hb).1, (price_dot (by omega) hb).2, hw, hre]
    have := prc_ok (wh := decDigits (q / 10000)) (r := T) hpu.2 (by rw [hpu.1, hT.2]; omega)
    rw [this.1, this.2, hpu.1, hT.2]
    exact ⟨by omega, rfl⟩
theorem price_bd (s : ByteArray) : priceE s = 0 → 0 ≤ priceN s ∧ priceN s ≤ 1000000000 := by
  have key : ∀ wh r, digs r = true → prcE wh r = 0 → 0 ≤ prcN wh r ∧ prcN wh r ≤ 1000000000 := by
    intro wh r hr h
    by_cases h1 : puE wh 100000 = 0
    · by_cases h2 : puN wh 100000 * 10000 + restN r 4 ≤ 1000000000
      · rw [(prc_ok h1 h2).1]
        have := pu_bd wh 100000 (by decide)
        have := restN_bd r hr 4 (by decide)
        omega
      · rw [(prc_gt h1 h2).2] at h; cases h
    · rw [(prc_err h1).2] at h; exact absurd h h1
  intro h
  by_cases hd : dotAt s < 0
  · rw [(price_no hd).1]; rw [(price_no hd).2] at h
    exact key _ _ rfl h
  · by_cases hb : restB (restL s) = true
    · rw [(price_dot hd hb).1]; rw [(price_dot hd hb).2] at h
      exact key _ _ (restB_digs hb) h
    · rw [(price_bad hd hb).2] at h; cases h
end Go.Proofs.YtnnfepapnimlcabDoor
