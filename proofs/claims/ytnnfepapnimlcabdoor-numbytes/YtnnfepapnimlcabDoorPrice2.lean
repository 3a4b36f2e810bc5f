/-
  ParsePrice: what it tells.
-/
import Derived.Test.YtnnfepapnimlcabDoorPrice
namespace Go.Proofs.YtnnfepapnimlcabDoor
set_option linter.unusedVariables false
open Go.RowKit

def prcN (wh r : List UInt8) : Int := if puE wh 100000 = 0 ∧ puN wh 100000 * 10000 + restN r 4 ≤ 1000000000 then puN wh 100000 * 10000 + restN r 4 else 0
def prcE (wh r : List UInt8) : Int := if puE wh 100000 = 0 then (if puN wh 100000 * 10000 + restN r 4 ≤ 1000000000 then 0 else 11) else puE wh 100000
def wholeL (s : ByteArray) : List UInt8 := s.data.toList.take (dotAt s).toNat
def restL (s : ByteArray) : List UInt8 := s.data.toList.drop ((dotAt s).toNat + 1)
/-- What ParsePrice tells. -/
def priceN (s : ByteArray) : Int := if dotAt s < 0 then prcN s.data.toList [] else if restB (restL s) = true then prcN (wholeL s) (restL s) else 0
def priceE (s : ByteArray) : Int := if dotAt s < 0 then prcE s.data.toList [] else if restB (restL s) = true then prcE (wholeL s) (restL s) else 10
theorem price_no {s : ByteArray} (h : dotAt s < 0) : priceN s = prcN s.data.toList [] ∧ priceE s = prcE s.data.toList [] := ⟨if_pos h, if_pos h⟩
theorem price_bad {s : ByteArray} (h : ¬ dotAt s < 0) (g : ¬ restB (restL s) = true) : priceN s = 0 ∧ priceE s = 10 := by
  unfold priceN priceE; rw [if_neg h, if_neg h, if_neg g, if_neg g]; exact ⟨rfl, rfl⟩
theorem price_dot {s : ByteArray} (h : ¬ dotAt s < 0) (g : restB (restL s) = true) : priceN s = prcN (wholeL s) (restL s) ∧ priceE s = prcE (wholeL s) (restL s) := by
  unfold priceN priceE; rw [if_neg h, if_neg h, if_pos g, if_pos g]; exact ⟨rfl, rfl⟩
theorem prc_err {wh r : List UInt8} (h : ¬ puE wh 100000 = 0) : prcN wh r = 0 ∧ prcE wh r = puE wh 100000 := by
  unfold prcN prcE; rw [if_neg (fun g => h g.1), if_neg h]; exact ⟨rfl, rfl⟩
theorem prc_ok {wh r : List UInt8} (h : puE wh 100000 = 0) (g : puN wh 100000 * 10000 + restN r 4 ≤ 1000000000) : prcN wh r = puN wh 100000 * 10000 + restN r 4 ∧ prcE wh r = 0 := by
  unfold prcN prcE; rw [if_pos ⟨h, g⟩, if_pos h, if_pos g]; exact ⟨rfl, rfl⟩
theorem prc_gt {wh r : List UInt8} (h : puE wh 100000 = 0) (g : ¬ puN wh 100000 * 10000 + restN r 4 ≤ 1000000000) : prcN wh r = 0 ∧ prcE wh r = 11 := by
  unfold prcN prcE; rw [if_neg (fun k => g k.2), if_pos h, if_neg g]; exact ⟨rfl, rfl⟩
theorem pu_le_most (l : List UInt8) (m : Int) (hm : 0 ≤ m) : puN l m ≤ m := by
  unfold puN; split
  · rename_i h; exact h.2
  · exact hm
theorem restN_nil : restN [] 4 = 0 := rfl
theorem restB_digs {l : List UInt8} (h : restB l = true) : digs l = true := by
  unfold restB at h; rw [Bool.and_eq_true] at h; exact h.2

theorem pre_data (s : ByteArray) (i : Nat) : (s.extract 0 i).data.toList = s.data.toList.take i := by
  rw [Lib.extract_data]; simp
theorem post_data (s : ByteArray) (i : Nat) : (s.extract (i + 1) s.size).data.toList = s.data.toList.drop (i + 1) := by
  rw [Lib.extract_data, List.take_of_length_le (by rw [List.length_drop, ← Lib.size_eq]; omega)]
theorem pre_size (s : ByteArray) (i : Nat) : (s.extract 0 i).size ≤ s.size := by
  have h : (s.extract 0 i).data.toList.length ≤ s.data.toList.length := by rw [pre_data]; simp; omega
  rw [← Lib.size_eq, ← Lib.size_eq] at h; exact h
theorem post_size (s : ByteArray) (i : Nat) : (s.extract (i + 1) s.size).size ≤ s.size := by
  have h : (s.extract (i + 1) s.size).data.toList.length ≤ s.data.toList.length := by rw [post_data]; simp
  rw [← Lib.size_eq, ← Lib.size_eq] at h; exact h
theorem ParseUint_pre (s : ByteArray) (i : Nat) (m : Int) (w : World) (hs : s.size ≤ maxLen) (hm : m ≤ 9223372036854775807) (l : List UInt8) (hl : l = s.data.toList.take i) :
    Calls Tryd.prog 16 #[.string (s.extract 0 i), .int .i64 m] w fun e w' => e = .returned (.tuple #[.int .i64 (puN l m), .int .i64 (puE l m)]) ∧ w' = w := by
  have h := ParseUint_any (s.extract 0 i) m w (Nat.le_trans (pre_size s i) hs) hm
  rw [pre_data, ← hl] at h; exact h
theorem isPriceRest_post (s : ByteArray) (i : Nat) (w : World) (hs : s.size ≤ maxLen) (l : List UInt8) (hl : l = s.data.toList.drop (i + 1)) :
    Calls Tryd.prog 51 #[.string (s.extract (i + 1) s.size)] w fun e w' => e = .returned (.bool (restB l)) ∧ w' = w := by
  have h := isPriceRest_any (s.extract (i + 1) s.size) w (Nat.le_trans (post_size s i) hs)
  rw [post_data, ← hl] at h; exact h
theorem readPriceRest_post (s : ByteArray) (i : Nat) (w : World) (hs : s.size ≤ maxLen) (l : List UInt8) (hl : l = s.data.toList.drop (i + 1)) (hd : digs l = true) :
    Calls Tryd.prog 52 #[.string (s.extract (i + 1) s.size)] w fun e w' => e = .returned (.int .i64 (restN l 4)) ∧ w' = w := by
  have h := readPriceRest_any (s.extract (i + 1) s.size) w (Nat.le_trans (post_size s i) hs) (by rw [post_data, ← hl]; exact hd)
  rw [post_data, ← hl] at h; exact h
theorem readPriceRest_nil (w : World) : Calls Tryd.prog 52 #[.string ⟨#[]⟩] w fun e w' => e = .returned (.int .i64 0) ∧ w' = w :=
  readPriceRest_any ⟨#[]⟩ w (by decide) rfl

set_option maxRecDepth 100000 in
set_option maxHeartbeats 400000 in
theorem ParsePrice_any (s : ByteArray) (w : World) (hs : s.size ≤ maxLen) :
    Calls Tryd.prog 17 #[.string s] w fun e w' => e = .returned (.tuple #[.int .i64 (priceN s), .int .i64 (priceE s)]) ∧ ∃ k, w' = w.drewN k := by
  by_cases hdot : dotAt s < 0
  · have HP : Hid (priceN s = prcN s.data.toList [] ∧ priceE s = prcE s.data.toList []) := price_no hdot
    have hb := pu_bd s.data.toList 100000 (by decide)
    obtain ⟨hb0, hb1⟩ := hb
    have hb2 := pu_le_most s.data.toList 100000 (by decide)
    by_cases hE : puE s.data.toList 100000 = 0
    · have HQ : Hid (prcN s.data.toList [] = puN s.data.toList 100000 * 10000 + 0 ∧ prcE s.data.toList [] = 0) := prc_ok (r := []) hE (by rw [restN_nil]; omega)
      go_enter Tryd.func17, Tryd.ntmps17
      go_wp2_with (first | (go_at_call 50; refine (cutDot_no _ _ hdot).mono ?_; rintro e w' ⟨rfl, rfl⟩) | (go_at_call 16; refine (ParseUint_any _ _ _ hs (by decide)).mono ?_; rintro e w' ⟨rfl, rfl⟩) | (go_at_call 52; refine (readPriceRest_nil _).mono ?_; rintro e w' ⟨rfl, rfl⟩))
      go_ret2
      exact ⟨ret2 (vint (by rw [HP.out.1, HQ.out.1]; omega)) (vint (by rw [HP.out.2, HQ.out.2])), 0, by rw [World.drewN_zero]⟩
    · have HQ : Hid (prcN s.data.toList [] = 0 ∧ prcE s.data.toList [] = puE s.data.toList 100000) := prc_err hE
      have hE' : (puE s.data.toList 100000 != 0) = true := by simpa using hE
      go_enter Tryd.func17, Tryd.ntmps17
      go_wp2_with (first | (go_at_call 50; refine (cutDot_no _ _ hdot).mono ?_; rintro e w' ⟨rfl, rfl⟩) | (go_at_call 16; refine (ParseUint_any _ _ _ hs (by decide)).mono ?_; rintro e w' ⟨rfl, rfl⟩))
      go_ret2
      exact ⟨ret2 (vint (by rw [HP.out.1, HQ.out.1])) (vint (by rw [HP.out.2, HQ.out.2])), 0, by rw [World.drewN_zero]⟩
  · obtain ⟨i, hi⟩ : ∃ i : Nat, dotAt s = i := ⟨(dotAt s).toNat, by omega⟩
    have hr : restL s = s.data.toList.drop (i + 1) := by unfold restL; rw [hi]; rfl
    have hw : wholeL s = s.data.toList.take i := by unfold wholeL; rw [hi]; rfl
    by_cases hg : restB (restL s) = true
    · have HP : Hid (priceN s = prcN (wholeL s) (restL s) ∧ priceE s = prcE (wholeL s) (restL s)) := price_dot hdot hg
      have hd := restB_digs hg
      have hrb := restN_bd _ hd 4 (by decide)
      obtain ⟨hr0, hr1⟩ := hrb
      have hb := pu_bd (wholeL s) 100000 (by decide)
      obtain ⟨hb0, hb1⟩ := hb
      have hb2 := pu_le_most (wholeL s) 100000 (by decide)
      have HI := hi; have HR : Hid (restL s = s.data.toList.drop (i + 1)) := hr; have HW : Hid (wholeL s = s.data.toList.take i) := hw
      clear hi hr hw hdot
      by_cases hE : puE (wholeL s) 100000 = 0
      · by_cases hm : puN (wholeL s) 100000 * 10000 + restN (restL s) 4 ≤ 1000000000
        · have HQ : Hid (prcN (wholeL s) (restL s) = puN (wholeL s) 100000 * 10000 + restN (restL s) 4 ∧ prcE (wholeL s) (restL s) = 0) := prc_ok hE hm
          go_enter Tryd.func17, Tryd.ntmps17
          go_wp2_with (first | (go_at_call 50; refine (cutDot_yes _ _ i HI hs).mono ?_; rintro e w' ⟨rfl, k, rfl⟩) | (go_at_call 51; refine (isPriceRest_post _ _ _ hs _ HR.out).mono ?_; rintro e w' ⟨rfl, rfl⟩) | (go_at_call 16; refine (ParseUint_pre _ _ _ _ hs (by decide) _ HW.out).mono ?_; rintro e w' ⟨rfl, rfl⟩) | (go_at_call 52; refine (readPriceRest_post _ _ _ hs _ HR.out hd).mono ?_; rintro e w' ⟨rfl, rfl⟩))
          go_ret2
          exact ⟨ret2 (vint (by rw [HP.out.1, HQ.out.1])) (vint (by rw [HP.out.2, HQ.out.2])), _, rfl⟩
        · have HQ : Hid (prcN (wholeL s) (restL s) = 0 ∧ prcE (wholeL s) (restL s) = 11) := prc_gt hE hm
          go_enter Tryd.func17, Tryd.ntmps17
          go_wp2_with (first | (go_at_call 50; refine (cutDot_yes _ _ i HI hs).mono ?_; rintro e w' ⟨rfl, k, rfl⟩) | (go_at_call 51; refine (isPriceRest_post _ _ _ hs _ HR.out).mono ?_; rintro e w' ⟨rfl, rfl⟩) | (go_at_call 16; refine (ParseUint_pre _ _ _ _ hs (by decide) _ HW.out).mono ?_; rintro e w' ⟨rfl, rfl⟩) | (go_at_call 52; refine (readPriceRest_post _ _ _ hs _ HR.out hd).mono ?_; rintro e w' ⟨rfl, rfl⟩))
          go_ret2
          exact ⟨ret2 (vint (by rw [HP.out.1, HQ.out.1])) (vint (by rw [HP.out.2, HQ.out.2])), _, rfl⟩
      · have HQ : Hid (prcN (wholeL s) (restL s) = 0 ∧ prcE (wholeL s) (restL s) = puE (wholeL s) 100000) := prc_err hE
        have hE' : (puE (wholeL s) 100000 != 0) = true := by simpa using hE
        go_enter Tryd.func17, Tryd.ntmps17
        go_wp2_with (first | (go_at_call 50; refine (cutDot_yes _ _ i HI hs).mono ?_; rintro e w' ⟨rfl, k, rfl⟩) | (go_at_call 51; refine (isPriceRest_post _ _ _ hs _ HR.out).mono ?_; rintro e w' ⟨rfl, rfl⟩) | (go_at_call 16; refine (ParseUint_pre _ _ _ _ hs (by decide) _ HW.out).mono ?_; rintro e w' ⟨rfl, rfl⟩))
        go_ret2
        exact ⟨ret2 (vint (by rw [HP.out.1, HQ.out.1])) (vint (by rw [HP.out.2, HQ.out.2])), _, rfl⟩
    · have HP : Hid (priceN s = 0 ∧ priceE s = 10) := price_bad hdot hg
      have hg' : restB (restL s) = false := by simpa using hg
      have HI := hi; have HR : Hid (restL s = s.data.toList.drop (i + 1)) := hr
      clear hi hr hw hdot hg
      go_enter Tryd.func17, Tryd.ntmps17
      go_wp2_with (first | (go_at_call 50; refine (cutDot_yes _ _ i HI hs).mono ?_; rintro e w' ⟨rfl, k, rfl⟩) | (go_at_call 51; refine (isPriceRest_post _ _ _ hs _ HR.out).mono ?_; rintro e w' ⟨rfl, rfl⟩))
      go_ret2
      exact ⟨ret2 (vint HP.out.1.symm) (vint HP.out.2.symm), _, rfl⟩
end Go.Proofs.YtnnfepapnimlcabDoor
