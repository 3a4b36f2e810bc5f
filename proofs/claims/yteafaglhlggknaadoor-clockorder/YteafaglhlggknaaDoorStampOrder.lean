/-
  Plain mathematics: texts of stamps stand as their times do.
-/
import Derived.Test.YteafaglhlggknaaDoorStampBack
import Derived.WalkKit
namespace Go.Proofs.YteafaglhlggknaaDoor
set_option linter.unusedVariables false
open Go.Shelf Go.RowKit Go.Sort Go.Lib

theorem bl_append : ∀ (A B x y : List UInt8), A.length = B.length → Op.bytesLess (A ++ x) (B ++ y) = (Op.bytesLess A B || (decide (A = B) && Op.bytesLess x y))
  | [], [], x, y, _ => by simp [Op.bytesLess]
  | a :: A, b :: B, x, y, h => by
    have ih := bl_append A B x y (by simpa using h)
    simp only [List.cons_append, Op.bytesLess, ih]
    by_cases h1 : a < b
    · simp [h1]
    · by_cases h2 : a = b
      · subst h2; simp
      · have hb : (a == b) = false := by simpa using h2
        simp [h1, h2, hb]
  | [], b :: B, x, y, h => by simp at h
  | a :: A, [], x, y, h => by simp at h
theorem bl_self : ∀ A : List UInt8, Op.bytesLess A A = false
  | [] => rfl
  | a :: A => by simp [Op.bytesLess, bl_self A, UInt8.lt_irrefl]
theorem bl_same (A x y : List UInt8) : Op.bytesLess (A ++ x) (A ++ y) = Op.bytesLess x y := by
  rw [bl_append A A x y rfl, bl_self]
  simp
theorem digB_inj {k n m : Nat} (hn : n < 10 ^ k) (hm : m < 10 ^ k) : digB n k = digB m k ↔ n = m := by
  constructor
  · intro h
    have h1 := rd_digB k n
    have h2 := rd_digB k m
    rw [Nat.mod_eq_of_lt hn] at h1
    rw [Nat.mod_eq_of_lt hm] at h2
    rw [← h1, ← h2, h]
  · intro h; rw [h]
theorem bl_dig (k : Nat) : ∀ n m, n < 10 ^ k → m < 10 ^ k → Op.bytesLess (digB n k) (digB m k) = decide (n < m) := by
  induction k with
  | zero => intro n m hn hm; simp [digB, digI, Op.bytesLess]; simp at hn hm; omega
  | succ k ih =>
    intro n m hn hm
    rw [Nat.pow_succ] at hn hm
    rw [digB_snoc, digB_snoc, bl_append _ _ _ _ (by rw [digB_length, digB_length]), ih _ _ (by omega) (by omega)]
    have e1 : decide (digB (n / 10) k = digB (m / 10) k) = decide (n / 10 = m / 10) := decide_eq_decide.2 (digB_inj (by omega) (by omega))
    have e2 : Op.bytesLess [u8 ((48 + n % 10 : Nat) : Int)] [u8 ((48 + m % 10 : Nat) : Int)] = decide (n % 10 < m % 10) := by
      have a1 := u8_dig (x := n % 10) (Nat.mod_lt _ (by decide))
      have a2 := u8_dig (x := m % 10) (Nat.mod_lt _ (by decide))
      simp only [Op.bytesLess, Bool.and_false, Bool.or_false]
      refine decide_eq_decide.2 ?_
      rw [UInt8.lt_iff_toNat_lt, a1, a2]
      omega
    rw [e1, e2]
    by_cases h1 : n / 10 < m / 10
    · have : n < m := by omega
      simp [h1, this]
    · by_cases h2 : n / 10 = m / 10
      · by_cases h3 : n % 10 < m % 10
        · have : n < m := by omega
          simp [h2, h3, this]
        · have : ¬ n < m := by omega
          simp [h2, h3, this]
      · have : ¬ n < m := by omega
        simp [h1, h2, this]
/-- One number ahead of the rest. -/
theorem bl_num {k n m : Nat} (hn : n < 10 ^ k) (hm : m < 10 ^ k) (x y : List UInt8) : Op.bytesLess (digB n k ++ x) (digB m k ++ y) = (decide (n < m) || (decide (n = m) && Op.bytesLess x y)) := by
  rw [bl_append _ _ _ _ (by rw [digB_length, digB_length]), bl_dig k n m hn hm, decide_eq_decide.2 (digB_inj hn hm)]
theorem bl_txt {d h m s x d' h' m' s' x' : Nat} (h1 : d < 10 ^ 8) (h2 : h < 10 ^ 2) (h3 : m < 10 ^ 2) (h4 : s < 10 ^ 2) (h5 : x < 10 ^ 3) (g1 : d' < 10 ^ 8) (g2 : h' < 10 ^ 2) (g3 : m' < 10 ^ 2) (g4 : s' < 10 ^ 2) (g5 : x' < 10 ^ 3) :
    Op.bytesLess (txt d h m s x) (txt d' h' m' s' x') = decide (d < d' ∨ d = d' ∧ (h < h' ∨ h = h' ∧ (m < m' ∨ m = m' ∧ (s < s' ∨ s = s' ∧ x < x')))) := by
  unfold txt
  simp only [List.append_assoc]
  rw [bl_num h1 g1, bl_same, bl_num h2 g2, bl_same, bl_num h3 g3, bl_same, bl_num h4 g4, bl_same, bl_dig 3 x x' h5 g5]
  simp only [Bool.decide_or, Bool.decide_and]
theorem date_lt_iff {n m : Nat} (hn : n ≤ 2932896) (hm : m ≤ 2932896) : (dateN n < dateN m ↔ n < m) ∧ (dateN n = dateN m ↔ n = m) := by
  rcases Nat.lt_trichotomy n m with h | h | h
  · have := dateN_lt h hm
    exact ⟨⟨fun _ => h, fun _ => this⟩, ⟨fun e => by omega, fun e => by omega⟩⟩
  · subst h; simp
  · have := dateN_lt h hn
    exact ⟨⟨fun e => by omega, fun e => by omega⟩, ⟨fun e => by omega, fun e => by omega⟩⟩
/-- Texts stand as times do. -/
theorem bl_stamp (t u : Nat) (ht : t ≤ 253402300799999) (hu : u ≤ 253402300799999) : Op.bytesLess (strOfNums (stampI t)).toList (strOfNums (stampI u)).toList = decide (t < u) := by
  rw [ByteArray.toList_eq, ByteArray.toList_eq, stamp_txt, stamp_txt]
  have b1 := dateN_bounds (n := t / 86400000) (by omega)
  have b2 := dateN_bounds (n := u / 86400000) (by omega)
  obtain ⟨i1, i2⟩ := date_lt_iff (n := t / 86400000) (m := u / 86400000) (by omega) (by omega)
  rw [bl_txt (by omega) (by omega) (by omega) (by omega) (by omega) (by omega) (by omega) (by omega) (by omega) (by omega)]
  refine decide_eq_decide.2 ?_
  rw [i1, i2]
  have e1 : t % 3600000 / 60000 = t % 86400000 % 3600000 / 60000 := by omega
  have e2 : u % 3600000 / 60000 = u % 86400000 % 3600000 / 60000 := by omega
  omega
end Go.Proofs.YteafaglhlggknaaDoor
