/-
  Plain mathematics for package clock: years, months, days, and dates as numbers. Nothing of the dump is imported.
-/
import Derived.WalkKit
namespace Go.Proofs.YtkpoheknmcepnaaGreatDoor
set_option linter.unusedVariables false

def leapN (y : Nat) : Nat := if y % 4 = 0 ∧ ¬ y % 100 = 0 ∨ y % 400 = 0 then 1 else 0
theorem leapN_le (y : Nat) : leapN y ≤ 1 := by unfold leapN; split <;> omega
/-- How long a month is. -/
def mlen (y m : Nat) : Nat := if m = 2 then 28 + leapN y else if m = 4 ∨ m = 6 ∨ m = 9 ∨ m = 11 then 30 else 31
theorem mlen_pos (y m : Nat) : 28 ≤ mlen y m := by unfold mlen; split <;> (try split) <;> omega
theorem mlen_le (y m : Nat) : mlen y m ≤ 31 := by have := leapN_le y; unfold mlen; split <;> (try split) <;> omega
/-- The days ahead of a year, from 1970 on. -/
def ahead (y : Nat) : Nat := (y - 1970) * 365 + (y - 1) / 4 + (y - 1) / 400 - (y - 1) / 100 - 477
theorem step4 (y : Nat) (h : 1 ≤ y) : y / 4 = (y - 1) / 4 + (if y % 4 = 0 then 1 else 0) := by split <;> omega
theorem step100 (y : Nat) (h : 1 ≤ y) : y / 100 = (y - 1) / 100 + (if y % 100 = 0 then 1 else 0) := by split <;> omega
theorem step400 (y : Nat) (h : 1 ≤ y) : y / 400 = (y - 1) / 400 + (if y % 400 = 0 then 1 else 0) := by split <;> omega
theorem leaps_ge (x : Nat) (h : 1969 ≤ x) : x / 100 + 477 ≤ x / 4 + x / 400 := by
  have e1 : x / 100 = x / 4 / 25 := by rw [Nat.div_div_eq_div_mul]
  have e2 : x / 400 = x / 4 / 100 := by rw [Nat.div_div_eq_div_mul]
  rw [e1, e2]
  have : 492 ≤ x / 4 := by omega
  omega
theorem leapN_eq (y : Nat) : (if y % 4 = 0 then 1 else 0) + (if y % 400 = 0 then 1 else 0) = (if y % 100 = 0 then 1 else 0) + leapN y := by
  unfold leapN
  have h1 : y % 400 = 0 → y % 100 = 0 := by omega
  have h2 : y % 100 = 0 → y % 4 = 0 := by omega
  by_cases a : y % 4 = 0 <;> by_cases b : y % 100 = 0 <;> by_cases c : y % 400 = 0 <;> simp [a, b, c] <;> simp_all
theorem ahead_succ (y : Nat) (h : 1970 ≤ y) : ahead (y + 1) = ahead y + 365 + leapN y := by
  have h1 := step4 y (by omega)
  have h2 := step100 y (by omega)
  have h3 := step400 y (by omega)
  have h4 := leapN_eq y
  have h5 := leaps_ge (y - 1) (by omega)
  unfold ahead
  rw [show y + 1 - 1 = y by omega, h1, h2, h3]
  generalize (y - 1) / 4 = a at *
  generalize (y - 1) / 100 = b at *
  generalize (y - 1) / 400 = c at *
  generalize (if y % 4 = 0 then 1 else 0) = d at *
  generalize (if y % 100 = 0 then 1 else 0) = e at *
  generalize (if y % 400 = 0 then 1 else 0) = f at *
  generalize leapN y = g at *
  omega
theorem ahead_le {y z : Nat} (h : 1970 ≤ y) (hz : y ≤ z) : ahead y ≤ ahead z := by
  induction hz with
  | refl => exact Nat.le_refl _
  | @step k hk ih => rw [ahead_succ k (Nat.le_trans h hk)]; omega
theorem ahead_first : ahead 1970 = 0 := by decide
theorem ahead_last : ahead 10000 = 2932897 := by decide
/-- The days ahead of a month. -/
def msum (y : Nat) : Nat → Nat
  | 0 => 0
  | k + 1 => msum y k + mlen y (k + 1)
theorem msum_mono (y : Nat) {j k : Nat} (h : j ≤ k) : msum y j ≤ msum y k := by
  induction h with
  | refl => exact Nat.le_refl _
  | step _ ih => exact Nat.le_trans ih (by rw [msum]; omega)
theorem msum_year (y : Nat) : msum y 12 = 365 + leapN y := by
  simp [msum, mlen]; omega
/-- A date. -/
structure IsD (y m d : Nat) : Prop where
  y0 : 1970 ≤ y
  y1 : y ≤ 9999
  m0 : 1 ≤ m
  m1 : m ≤ 12
  d0 : 1 ≤ d
  d1 : d ≤ mlen y m
theorem IsD.day {y m d : Nat} (h : IsD y m d) : d ≤ 31 := Nat.le_trans h.d1 (mlen_le y m)
def dayNo (y m d : Nat) : Nat := ahead y + msum y (m - 1) + (d - 1)
theorem IsD.lo {y m d : Nat} (h : IsD y m d) : ahead y ≤ dayNo y m d := by unfold dayNo; omega
theorem IsD.in_month {y m d : Nat} (h : IsD y m d) : dayNo y m d < ahead y + msum y m := by
  have h1 := h.m0; have h2 := h.d1; have h3 := h.d0
  obtain ⟨k, rfl⟩ : ∃ k, m = k + 1 := ⟨m - 1, by omega⟩
  unfold dayNo
  simp only [Nat.add_sub_cancel, msum]
  omega
theorem IsD.hi {y m d : Nat} (h : IsD y m d) : dayNo y m d < ahead (y + 1) := by
  have h1 := h.in_month
  have h2 := msum_mono y h.m1
  rw [msum_year] at h2
  rw [ahead_succ y h.y0]
  omega
theorem IsD.last {y m d : Nat} (h : IsD y m d) : dayNo y m d ≤ 2932896 := by
  have h1 := h.hi
  have h2 := ahead_le (y := y + 1) (z := 10000) (by have := h.y0; omega) (by have := h.y1; omega)
  rw [ahead_last] at h2
  omega
def encD (y m d : Nat) : Nat := y * 10000 + m * 100 + d
theorem IsD.enc {y m d : Nat} (h : IsD y m d) : encD y m d / 10000 = y ∧ encD y m d / 100 % 100 = m ∧ encD y m d % 100 = d := by
  have := h.m1; have := h.day; unfold encD; omega
/-- Dates stand as their days do. -/
theorem IsD.lt {y m d y' m' d' : Nat} (h : IsD y m d) (h' : IsD y' m' d') (hlt : encD y m d < encD y' m' d') : dayNo y m d < dayNo y' m' d' := by
  have a1 := h.m1; have a2 := h.day; have a3 := h.m0; have a4 := h.d0
  have b1 := h'.m1; have b2 := h'.day; have b3 := h'.m0; have b4 := h'.d0
  unfold encD at hlt
  rcases Nat.lt_or_ge y y' with hy | hy
  · have h1 := h.hi
    have h2 := h'.lo
    have h3 := ahead_le (y := y + 1) (z := y') (by have := h.y0; omega) hy
    omega
  · obtain rfl : y = y' := by omega
    rcases Nat.lt_or_ge m m' with hm | hm
    · have h1 := h.in_month
      have h2 := msum_mono y (j := m) (k := m' - 1) (by omega)
      unfold dayNo at *
      omega
    · obtain rfl : m = m' := by omega
      unfold dayNo; omega
theorem IsD.uniq {y m d y' m' d' : Nat} (h : IsD y m d) (h' : IsD y' m' d') (he : dayNo y m d = dayNo y' m' d') : encD y m d = encD y' m' d' := by
  rcases Nat.lt_trichotomy (encD y m d) (encD y' m' d') with h1 | h1 | h1
  · have := h.lt h' h1; omega
  · exact h1
  · have := h'.lt h h1; omega
/-- The date of a day. -/
def DayIs (n : Nat) (q : Nat × Nat × Nat) : Prop := IsD q.1 q.2.1 q.2.2 ∧ dayNo q.1 q.2.1 q.2.2 = n
def isDb (y m d : Nat) : Bool := decide (1970 ≤ y) && decide (y ≤ 9999) && decide (1 ≤ m) && decide (m ≤ 12) && decide (1 ≤ d) && decide (d ≤ mlen y m)
theorem isDb_iff (y m d : Nat) : isDb y m d = true ↔ IsD y m d := by
  simp only [isDb, Bool.and_eq_true, decide_eq_true_eq]
  constructor
  · rintro ⟨⟨⟨⟨⟨h1, h2⟩, h3⟩, h4⟩, h5⟩, h6⟩
    exact ⟨h1, h2, h3, h4, h5, h6⟩
  · rintro ⟨h1, h2, h3, h4, h5, h6⟩
    exact ⟨⟨⟨⟨⟨h1, h2⟩, h3⟩, h4⟩, h5⟩, h6⟩
def decD (y m d : Nat) : Decidable (IsD y m d) := decidable_of_iff _ (isDb_iff y m d)
def dayB (n k : Nat) : Bool := isDb (k / 10000) (k / 100 % 100) (k % 100) && dayNo (k / 10000) (k / 100 % 100) (k % 100) == n
def dateN (n : Nat) : Nat := ((List.range (100000000 + n)).find? (dayB n)).getD 0
theorem dateN_eq {y m d : Nat} (h : IsD y m d) : dateN (dayNo y m d) = encD y m d := by
  obtain ⟨e1, e2, e3⟩ := h.enc
  have hlt : encD y m d < 100000000 := by
    have a := h.y1; have b := h.m1; have c := h.day
    unfold encD
    omega
  have hf : (List.range (100000000 + dayNo y m d)).find? (dayB (dayNo y m d)) = some (encD y m d) := by
    rw [List.find?_range_eq_some]
    refine ⟨?_, List.mem_range.2 (by omega), fun j hj => ?_⟩
    · unfold dayB
      rw [e1, e2, e3, (isDb_iff y m d).2 h]
      simp
    · cases hb : dayB (dayNo y m d) j
      · rfl
      · unfold dayB at hb
        simp only [Bool.and_eq_true, beq_iff_eq] at hb
        have h2 := (isDb_iff _ _ _).1 hb.1
        have h3 := h2.uniq h hb.2
        have h4 : encD (j / 10000) (j / 100 % 100) (j % 100) = j := by unfold encD; omega
        omega
  unfold dateN
  rw [hf]
  rfl
theorem year_of (n : Nat) (h : n ≤ 2932896) : ∃ y, 1970 ≤ y ∧ y ≤ 9999 ∧ ahead y ≤ n ∧ n < ahead (y + 1) := by
  have key : ∀ k, n < ahead (1970 + k) → ∃ y, 1970 ≤ y ∧ y + 1 ≤ 1970 + k ∧ ahead y ≤ n ∧ n < ahead (y + 1) := by
    intro k
    induction k with
    | zero => intro h; rw [ahead_first] at h; omega
    | succ k ih =>
      intro h
      rcases Nat.lt_or_ge n (ahead (1970 + k)) with h1 | h1
      · obtain ⟨y, a, b, c, e⟩ := ih h1
        exact ⟨y, a, by omega, c, e⟩
      · exact ⟨1970 + k, by omega, by omega, h1, h⟩
  obtain ⟨y, a, b, c, e⟩ := key 8030 (by show n < ahead 10000; rw [ahead_last]; omega)
  exact ⟨y, a, by omega, c, e⟩
theorem month_of (y r : Nat) (h : r < msum y 12) : ∃ k, k < 12 ∧ msum y k ≤ r ∧ r < msum y (k + 1) := by
  have key : ∀ k, r < msum y k → ∃ j, j < k ∧ msum y j ≤ r ∧ r < msum y (j + 1) := by
    intro k
    induction k with
    | zero => intro h; simp [msum] at h
    | succ k ih =>
      intro h
      rcases Nat.lt_or_ge r (msum y k) with h1 | h1
      · obtain ⟨j, a, b, c⟩ := ih h1
        exact ⟨j, by omega, b, c⟩
      · exact ⟨k, by omega, h1, h⟩
  exact key 12 h
theorem date_of (n : Nat) (h : n ≤ 2932896) : ∃ y m d, IsD y m d ∧ dayNo y m d = n := by
  obtain ⟨y, h0, h1, h2, h3⟩ := year_of n h
  rw [ahead_succ y h0] at h3
  obtain ⟨k, hk, h4, h5⟩ := month_of y (n - ahead y) (by rw [msum_year]; omega)
  rw [msum] at h5
  exact ⟨y, k + 1, n - ahead y - msum y k + 1, ⟨h0, h1, by omega, by omega, by omega, by omega⟩, by unfold dayNo; simp only [Nat.add_sub_cancel]; omega⟩
theorem dateN_spec (n : Nat) (h : n ≤ 2932896) : ∃ y m d, IsD y m d ∧ dayNo y m d = n ∧ dateN n = encD y m d := by
  obtain ⟨y, m, d, h1, rfl⟩ := date_of n h
  exact ⟨y, m, d, h1, rfl, dateN_eq h1⟩
theorem dateN_lt {n n' : Nat} (h : n < n') (h' : n' ≤ 2932896) : dateN n < dateN n' := by
  obtain ⟨y, m, d, h1, h2, h3⟩ := dateN_spec n (by omega)
  obtain ⟨y', m', d', h1', h2', h3'⟩ := dateN_spec n' h'
  rw [h3, h3']
  rcases Nat.lt_trichotomy (encD y m d) (encD y' m' d') with e | e | e
  · exact e
  · have a := h1.enc; have b := h1'.enc
    rw [e] at a
    obtain ⟨a1, a2, a3⟩ := a
    obtain ⟨b1, b2, b3⟩ := b
    rw [a1] at b1; rw [a2] at b2; rw [a3] at b3
    subst b1 b2 b3
    omega
  · have := h1'.lt h1 e; omega
theorem dateN_bounds {n : Nat} (h : n ≤ 2932896) : 19700101 ≤ dateN n ∧ dateN n ≤ 99991231 := by
  obtain ⟨y, m, d, h1, h2, h3⟩ := dateN_spec n h
  have a := h1.y0; have b := h1.y1; have c := h1.m0; have e := h1.m1; have f := h1.d0; have g := h1.day
  rw [h3]; unfold encD; omega
/-- The day of a number that may be a date. -/
def dnum (z : Int) : Option Nat := @ite _ (0 ≤ z ∧ IsD (z.toNat / 10000) (z.toNat / 100 % 100) (z.toNat % 100)) (@instDecidableAnd _ _ _ (decD _ _ _)) (some (dayNo (z.toNat / 10000) (z.toNat / 100 % 100) (z.toNat % 100))) none
theorem dnum_of {y m d : Nat} (h : IsD y m d) : dnum (encD y m d : Int) = some (dayNo y m d) := by
  obtain ⟨a, b, c⟩ := h.enc
  unfold dnum
  rw [Int.toNat_natCast, a, b, c, if_pos ⟨by omega, h⟩]
theorem dnum_date {n : Nat} (h : n ≤ 2932896) : dnum (dateN n : Int) = some n := by
  obtain ⟨y, m, d, h1, h2, h3⟩ := dateN_spec n h
  rw [h3, dnum_of h1, h2]
theorem dnum_some {z : Int} {n : Nat} (h : dnum z = some n) : n ≤ 2932896 ∧ z = (dateN n : Int) := by
  unfold dnum at h
  split at h
  · rename_i hc
    simp only [Option.some.injEq] at h
    refine ⟨h ▸ hc.2.last, ?_⟩
    rw [← h, dateN_eq hc.2]
    unfold encD
    omega
  · cases h
theorem dnum_inj {z z' : Int} {n : Nat} (h : dnum z = some n) (h' : dnum z' = some n) : z = z' := by
  rw [(dnum_some h).2, (dnum_some h').2]
end Go.Proofs.YtkpoheknmcepnaaGreatDoor
