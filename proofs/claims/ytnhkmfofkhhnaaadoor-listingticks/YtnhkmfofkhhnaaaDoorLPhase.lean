/-
  listing: phases (plain).
-/
import Derived.Test.YtnhkmfofkhhnaaaDoorAdds
namespace Go.Proofs.YtnhkmfofkhhnaaaDoor
set_option linter.unusedVariables false

/-- How many turns have begun: the first turn that has not. -/
def nxJ (M : Nat → Int) : Nat → Int → Nat
  | 0, _ => 0
  | m + 1, x => if nxJ M m x < m then nxJ M m x else if M m ≤ x then m + 1 else m
theorem nxJ_spec (M : Nat → Int) (x : Int) : ∀ m, nxJ M m x ≤ m ∧ (∀ i, i < nxJ M m x → M i ≤ x) ∧ (nxJ M m x < m → x < M (nxJ M m x))
  | 0 => ⟨Nat.le_refl _, fun i h => by simp [nxJ] at h, fun h => by simp at h⟩
  | m + 1 => by
    obtain ⟨a, b, c⟩ := nxJ_spec M x m
    unfold nxJ
    split
    · rename_i h; exact ⟨by omega, b, fun _ => c h⟩
    · rename_i h
      have e : nxJ M m x = m := by omega
      rw [e] at b
      split
      · rename_i h2
        exact ⟨Nat.le_refl _, fun i hi => by
          rcases Nat.lt_or_ge i m with h3 | h3
          · exact b i h3
          · obtain rfl : i = m := by omega
            exact h2, fun h4 => by omega⟩
      · rename_i h2
        exact ⟨by omega, b, fun _ => by omega⟩
theorem nxJ_eq {M : Nat → Int} {x : Int} {m j : Nat} (h1 : j ≤ m) (h2 : ∀ i, i < j → M i ≤ x) (h3 : j < m → x < M j) : nxJ M m x = j := by
  obtain ⟨a, b, c⟩ := nxJ_spec M x m
  rcases Nat.lt_trichotomy (nxJ M m x) j with h | h | h
  · have := h2 _ h; have := c (by omega); omega
  · exact h
  · have := b _ h; have := h3 (by omega); omega
/-- The phase behind so many turns. -/
def phV (P : Nat → Int) (j : Nat) : Int := if j = 0 then 0 else P (j - 1)
def dyN (z : Int) : Nat := (z / 86400000).toNat
def mnV (z : Int) : Int := z % 86400000 / 60000
/-- The first turn behind a day. -/
def fbV (S : Int → Bool) (M : Nat → Int) (m : Nat) (D : Nat) : Int := if m = 0 then 0 else match goUp S D 1 with
  | none => 0
  | some K => (K : Int) * 86400000 + M 0 * 60000
def phF (S : Int → Bool) (M P : Nat → Int) (m : Nat) (z : Int) : Int := if isT z = true then (if isOpen S (dyN z) = true then phV P (nxJ M m (mnV z)) else 0) else 0
def nxF (S : Int → Bool) (M : Nat → Int) (m : Nat) (z : Int) : Int := if isT z = true then (if isOpen S (dyN z) = true ∧ nxJ M m (mnV z) < m then (dyN z : Int) * 86400000 + M (nxJ M m (mnV z)) * 60000 else fbV S M m (dyN z)) else 0
/-- Turns that may be. -/
structure OkT (M P : Nat → Int) (m : Nat) : Prop where
  m10 : m ≤ 10
  mn : ∀ j, j < m → 0 ≤ M j ∧ M j ≤ 1439
  up : ∀ j, j + 1 < m → M j < M (j + 1)
  ph : ∀ j, j < m → P j = 0 ∨ P j = 1 ∨ P j = 3 ∨ P j = 5
theorem OkT.mono {M P : Nat → Int} {m : Nat} (h : OkT M P m) : ∀ {i j : Nat}, i < j → j < m → M i < M j
  | i, 0, h1, _ => by omega
  | i, j + 1, h1, h2 => by
    have := h.up j h2
    rcases Nat.lt_or_ge i j with h3 | h3
    · have := OkT.mono h h3 (by omega); omega
    · obtain rfl : i = j := by omega
      exact this
/-- Behind a day there is one of trade within three, unless the calendar ends. -/
theorem goUp_some {S : Int → Bool} {D K : Nat} (h : goUp S D 1 = some K) : D < K ∧ K ≤ 2932896 ∧ isOpen S K = true := by
  by_cases hD : 2932896 ≤ D
  · rw [goUp_end S (by decide) hD] at h; cases h
  · rw [goUp_step S (by decide) hD] at h
    split at h
    · rename_i ho
      rw [goUp_zero] at h
      cases h
      exact ⟨by omega, by omega, ho⟩
    · have := goUp_some h
      exact ⟨by omega, this.2⟩
  termination_by 2932896 - D
theorem goUp_none {S : Int → Bool} {D K : Nat} (h : goUp S D 1 = none) (h1 : D < K) (h2 : K ≤ 2932896) : isOpen S K = false := by
  have hD : ¬ 2932896 ≤ D := by omega
  rw [goUp_step S (by decide) hD] at h
  split at h
  · rw [goUp_zero] at h; cases h
  · rename_i ho
    rcases Nat.lt_or_ge (D + 1) K with h3 | h3
    · exact goUp_none h h3 h2
    · obtain rfl : K = D + 1 := by omega
      simpa using ho
  termination_by 2932896 - D
/-- With no holidays: of three days in a row one is of trade. -/
theorem open_three {S : Int → Bool} (hS : ∀ x, S x = false) (D : Nat) : isOpen S (D + 1) = true ∨ isOpen S (D + 2) = true ∨ isOpen S (D + 3) = true := by
  unfold isOpen
  simp only [hS]
  have : (D + 1 + 4) % 7 < 7 := Nat.mod_lt _ (by decide)
  have e1 : (D + 2 + 4) % 7 = ((D + 1 + 4) % 7 + 1) % 7 := by omega
  have e2 : (D + 3 + 4) % 7 = ((D + 1 + 4) % 7 + 2) % 7 := by omega
  rw [e1, e2]
  generalize (D + 1 + 4) % 7 = k at *
  have : k = 0 ∨ k = 1 ∨ k = 2 ∨ k = 3 ∨ k = 4 ∨ k = 5 ∨ k = 6 := by omega
  rcases this with rfl | rfl | rfl | rfl | rfl | rfl | rfl <;> simp
theorem goUp_end3 {S : Int → Bool} (hS : ∀ x, S x = false) {D : Nat} (h : goUp S D 1 = none) : 2932893 < D := by
  rcases Nat.lt_or_ge 2932893 D with h1 | h1
  · exact h1
  · rcases open_three hS D with h2 | h2 | h2
    · rw [goUp_none h (by omega) (by omega)] at h2; cases h2
    · rw [goUp_none h (by omega) (by omega)] at h2; cases h2
    · rw [goUp_none h (by omega) (by omega)] at h2; cases h2
/-- The parts of a time on a day. -/
theorem dy_of {D : Nat} {r : Int} (h0 : 0 ≤ r) (h1 : r < 86400000) : dyN ((D : Int) * 86400000 + r) = D ∧ mnV ((D : Int) * 86400000 + r) = r / 60000 := by
  unfold dyN mnV
  constructor
  · rw [show ((D : Int) * 86400000 + r) / 86400000 = D by omega]; simp
  · rw [show ((D : Int) * 86400000 + r) % 86400000 = r by omega]
theorem isT_day {D : Nat} {r : Int} (hD : D ≤ 2932896) (h0 : 0 ≤ r) (h1 : r < 86400000) : isT ((D : Int) * 86400000 + r) = true := by
  unfold isT; simp; omega
theorem time_parts {z : Int} (h : isT z = true) : dyN z ≤ 2932896 ∧ ∃ r : Int, 0 ≤ r ∧ r < 86400000 ∧ z = (dyN z : Int) * 86400000 + r ∧ mnV z = r / 60000 := by
  have h := (isT_iff z).1 h
  unfold dyN mnV
  exact ⟨by omega, z % 86400000, by omega, by omega, by omega, rfl⟩
/-- What ListingPhases asks. -/
theorem ph_none {S : Int → Bool} {M P : Nat → Int} {z : Int} : phF S M P 0 z = 0 ∧ nxF S M 0 z = 0 := by
  constructor
  · unfold phF nxJ phV; simp
  · unfold nxF fbV nxJ; simp
theorem ph_shut {S : Int → Bool} {M P : Nat → Int} {m : Nat} {z : Int} (h : isOpen S (dyN z) = false) : phF S M P m z = 0 := by
  unfold phF; rw [h]; simp
/-- Where the next turn lies. -/
theorem nx_cases {S : Int → Bool} {M P : Nat → Int} {m : Nat} {z : Int} (hT : isT z = true) (hO : OkT M P m) (hm : 0 < m) :
    (isOpen S (dyN z) = true ∧ nxJ M m (mnV z) < m ∧ nxF S M m z = (dyN z : Int) * 86400000 + M (nxJ M m (mnV z)) * 60000) ∨
    (nxF S M m z = 0 ∧ goUp S (dyN z) 1 = none) ∨
    (∃ K, goUp S (dyN z) 1 = some K ∧ nxF S M m z = (K : Int) * 86400000 + M 0 * 60000) := by
  unfold nxF
  rw [if_pos hT]
  split
  · rename_i h; exact .inl ⟨h.1, h.2, rfl⟩
  · refine .inr ?_
    unfold fbV
    rw [if_neg (by omega)]
    cases hg : goUp S (dyN z) 1 with
    | none => exact .inl ⟨rfl, rfl⟩
    | some K => exact .inr ⟨K, rfl, rfl⟩
/-- On the same day. -/
theorem ph_same {S : Int → Bool} {M P : Nat → Int} {m : Nat} {z : Int} (hT : isT z = true) (hO : OkT M P m) (ho : isOpen S (dyN z) = true) (hj : nxJ M m (mnV z) < m) :
    ∃ x : Nat, x < m ∧ x = nxJ M m (mnV z) ∧ z < (dyN z : Int) * 86400000 + M x * 60000 ∧ phF S M P m ((dyN z : Int) * 86400000 + M x * 60000) = P x ∧ phF S M P m ((dyN z : Int) * 86400000 + M x * 60000 - 1) = phF S M P m z := by
  obtain ⟨hd, r, r0, r1, hz, hm⟩ := time_parts hT
  obtain ⟨_, b, c⟩ := nxJ_spec M (mnV z) m
  have c := c hj
  refine ⟨nxJ M m (mnV z), hj, rfl, ?_, ?_, ?_⟩
  · rw [hm] at c ⊢; omega
  · have hr := hO.mn _ hj
    have h1 : 0 ≤ M (nxJ M m (mnV z)) * 60000 := by omega
    have h2 : M (nxJ M m (mnV z)) * 60000 < 86400000 := by omega
    obtain ⟨e1, e2⟩ := dy_of (D := dyN z) h1 h2
    unfold phF
    rw [if_pos (isT_day hd h1 h2), e1, if_pos ho, e2, show M (nxJ M m (mnV z)) * 60000 / 60000 = M (nxJ M m (mnV z)) by omega]
    rw [nxJ_eq (j := nxJ M m (mnV z) + 1) (by omega) (fun i hi => by
      rcases Nat.lt_or_ge i (nxJ M m (mnV z)) with h3 | h3
      · have := hO.mono h3 hj; omega
      · rw [show i = nxJ M m (mnV z) by omega]; exact Int.le_refl _) (fun h3 => hO.up _ h3)]
    unfold phV
    rw [if_neg (by omega)]; rfl
  · have hr := hO.mn _ hj
    have hmz : 0 ≤ mnV z := by rw [hm]; omega
    have h1 : 0 ≤ M (nxJ M m (mnV z)) * 60000 - 1 := by omega
    have h2 : M (nxJ M m (mnV z)) * 60000 - 1 < 86400000 := by omega
    obtain ⟨e1, e2⟩ := dy_of (D := dyN z) h1 h2
    rw [show (dyN z : Int) * 86400000 + M (nxJ M m (mnV z)) * 60000 - 1 = (dyN z : Int) * 86400000 + (M (nxJ M m (mnV z)) * 60000 - 1) by omega]
    unfold phF
    rw [if_pos (isT_day hd h1 h2), e1, if_pos ho, e2, if_pos hT, if_pos ho]
    rw [nxJ_eq (j := nxJ M m (mnV z)) (x := (M (nxJ M m (mnV z)) * 60000 - 1) / 60000) (by omega) (fun i hi => by have := b i hi; omega) (fun h3 => by omega)]
/-- On another day. -/
theorem ph_other {S : Int → Bool} {M P : Nat → Int} {m : Nat} {K : Nat} (hO : OkT M P m) (hm : 0 < m) (hK : K ≤ 2932896) (ho : isOpen S K = true) :
    phF S M P m ((K : Int) * 86400000 + M 0 * 60000) = P 0 ∧
    ((M 0 = 0 ∧ (nxF S M m ((K : Int) * 86400000) = 0 ∨ (K : Int) * 86400000 + M 0 * 60000 < nxF S M m ((K : Int) * 86400000))) ∨ (M 0 ≠ 0 ∧ nxF S M m ((K : Int) * 86400000) = (K : Int) * 86400000 + M 0 * 60000 ∧ phF S M P m ((K : Int) * 86400000) = 0)) := by
  have hr := hO.mn 0 hm
  have h1 : 0 ≤ M 0 * 60000 := by omega
  have h2 : M 0 * 60000 < 86400000 := by omega
  obtain ⟨e1, e2⟩ := dy_of (D := K) h1 h2
  obtain ⟨f1, f2⟩ := dy_of (D := K) (r := 0) (by decide) (by decide)
  have hT0 := isT_day (D := K) (r := 0) hK (by decide) (by decide)
  rw [Int.add_zero] at f1 f2 hT0
  rw [show (0 : Int) / 60000 = 0 by decide] at f2
  constructor
  · unfold phF
    rw [if_pos (isT_day hK h1 h2), e1, if_pos ho, e2, show M 0 * 60000 / 60000 = M 0 by omega]
    rw [nxJ_eq (j := 1) (by omega) (fun i hi => by rw [show i = 0 by omega]; exact Int.le_refl _) (fun h3 => hO.up 0 h3)]
    rfl
  · by_cases h0 : M 0 = 0
    · refine .inl ⟨h0, ?_⟩
      rw [h0]
      unfold nxF
      rw [if_pos hT0, f1, f2]
      have e : nxJ M m 0 = 1 := nxJ_eq (by omega) (fun i hi => by rw [show i = 0 by omega, h0]; exact Int.le_refl _) (fun h3 => by have : M 0 < M 1 := hO.up 0 h3; omega)
      rw [e]
      split
      · rename_i h3
        have : M 0 < M 1 := hO.up 0 h3.2
        right; omega
      · unfold fbV
        rw [if_neg (by omega)]
        cases hg : goUp S K 1 with
        | none => exact .inl rfl
        | some K' =>
          right
          have := goUp_some hg
          simp only []
          omega
    · refine .inr ⟨h0, ?_, ?_⟩
      · unfold nxF
        have e : nxJ M m 0 = 0 := nxJ_eq (by omega) (fun i hi => by omega) (fun h3 => by omega)
        rw [if_pos hT0, f1, f2, e, if_pos ⟨ho, hm⟩]
      · unfold phF
        have e : nxJ M m 0 = 0 := nxJ_eq (by omega) (fun i hi => by omega) (fun h3 => by omega)
        rw [if_pos hT0, f1, f2, e, if_pos ho]
        rfl
end Go.Proofs.YtnhkmfofkhhnaaaDoor
