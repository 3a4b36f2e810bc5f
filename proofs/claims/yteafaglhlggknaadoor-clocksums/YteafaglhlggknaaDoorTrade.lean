/-
  Plain mathematics: days of trade, forth and back.
-/
import Derived.Test.YteafaglhlggknaaDoorAdds
namespace Go.Proofs.YteafaglhlggknaaDoor
set_option linter.unusedVariables false

theorem goUp_add (S : Int → Bool) (q : Nat) : ∀ (m k p : Nat), 2932896 - k ≤ m → (goUp S k p = none → goUp S k (p + q) = none) ∧ ∀ k', goUp S k p = some k' → goUp S k (p + q) = goUp S k' q := by
  intro m
  induction m with
  | zero =>
    intro k p hk
    by_cases hp : p = 0
    · subst hp
      rw [goUp_zero, Nat.zero_add]
      exact ⟨(fun h => by cases h), (fun k' h => by cases h; rfl)⟩
    · rw [goUp_end S hp (by omega), goUp_end S (show ¬ p + q = 0 by omega) (by omega)]
      exact ⟨(fun _ => rfl), (fun k' h => by cases h)⟩
  | succ m ih =>
    intro k p hk
    by_cases hp : p = 0
    · subst hp
      rw [goUp_zero, Nat.zero_add]
      exact ⟨(fun h => by cases h), (fun k' h => by cases h; rfl)⟩
    · by_cases he : 2932896 ≤ k
      · rw [goUp_end S hp he, goUp_end S (show ¬ p + q = 0 by omega) he]
        exact ⟨(fun _ => rfl), (fun k' h => by cases h)⟩
      · rw [goUp_step S hp he, goUp_step S (show ¬ p + q = 0 by omega) he]
        have e : (if isOpen S (k + 1) then p + q - 1 else p + q) = (if isOpen S (k + 1) then p - 1 else p) + q := by split <;> omega
        rw [e]
        exact ih (k + 1) _ (by omega)
/-- How many days of trade there are from a day up to another one. -/
def cnt (S : Int → Bool) (a : Nat) : Nat → Nat
  | 0 => 0
  | b + 1 => cnt S a b + (if a ≤ b ∧ isOpen S b = true then 1 else 0)
theorem cnt_empty (S : Int → Bool) {a b : Nat} (h : b ≤ a) : cnt S a b = 0 := by
  induction b with
  | zero => rfl
  | succ b ih => rw [cnt, ih (by omega), if_neg (by omega)]
theorem cnt_low (S : Int → Bool) {a b : Nat} (h : a < b) : cnt S a b = (if isOpen S a = true then 1 else 0) + cnt S (a + 1) b := by
  induction b with
  | zero => omega
  | succ b ih =>
    rcases Nat.lt_or_ge a b with h1 | h1
    · rw [cnt, cnt, ih h1]
      have e : (if a ≤ b ∧ isOpen S b = true then 1 else 0) = (if a + 1 ≤ b ∧ isOpen S b = true then 1 else 0) := by
        by_cases ho : isOpen S b = true
        · rw [if_pos ⟨by omega, ho⟩, if_pos ⟨by omega, ho⟩]
        · rw [if_neg (fun x => ho x.2), if_neg (fun x => ho x.2)]
      rw [e]
      omega
    · obtain rfl : a = b := by omega
      rw [cnt, cnt_empty S (Nat.le_refl a), cnt_empty S (show a + 1 ≤ a + 1 by omega)]
      by_cases ho : isOpen S a = true
      · rw [if_pos ⟨by omega, ho⟩, if_pos ho]
      · rw [if_neg (fun x => ho x.2), if_neg ho]
theorem goUp_some (S : Int → Bool) : ∀ (m k p k' : Nat), 2932896 - k ≤ m → k ≤ 2932896 → goUp S k p = some k' → k ≤ k' ∧ k' ≤ 2932896 ∧ cnt S (k + 1) (k' + 1) = p ∧ (1 ≤ p → k < k' ∧ isOpen S k' = true) := by
  intro m
  induction m with
  | zero =>
    intro k p k' hk hl h
    by_cases hp : p = 0
    · subst hp
      rw [goUp_zero] at h
      cases h
      exact ⟨Nat.le_refl _, hl, cnt_empty S (Nat.le_refl _), fun h => by omega⟩
    · rw [goUp_end S hp (by omega)] at h; cases h
  | succ m ih =>
    intro k p k' hk hl h
    by_cases hp : p = 0
    · subst hp
      rw [goUp_zero] at h
      cases h
      exact ⟨Nat.le_refl _, hl, cnt_empty S (Nat.le_refl _), fun h => by omega⟩
    · by_cases he : 2932896 ≤ k
      · rw [goUp_end S hp he] at h; cases h
      · rw [goUp_step S hp he] at h
        obtain ⟨h1, h2, h3, h4⟩ := ih (k + 1) _ k' (by omega) (by omega) h
        have hc := cnt_low S (a := k + 1) (b := k' + 1) (by omega)
        rw [h3] at hc
        by_cases ho : isOpen S (k + 1) = true
        · rw [if_pos ho] at hc h3 h4
          refine ⟨by omega, h2, by rw [hc, if_pos ho]; omega, fun _ => ⟨by omega, ?_⟩⟩
          by_cases hp1 : p = 1
          · subst hp1
            rw [if_pos ho] at h
            simp only [Nat.sub_self] at h
            rw [goUp_zero] at h
            cases h
            exact ho
          · exact (h4 (by omega)).2
        · rw [if_neg ho] at hc h3 h4
          refine ⟨by omega, h2, by rw [hc, if_neg ho]; omega, fun _ => ⟨by omega, (h4 (by omega)).2⟩⟩
theorem goDn_cnt (S : Int → Bool) (k : Nat) (hk : isOpen S k = true) : ∀ (k' p : Nat), k < k' → cnt S k k' = p → goDn S k' p = some k := by
  intro k'
  induction k' with
  | zero => intro p h; omega
  | succ b ih =>
    intro p h hc
    have hp : ¬ p = 0 := by
      have := cnt_low S h
      rw [if_pos hk] at this
      omega
    rw [goDn_step S hp]
    rw [cnt] at hc
    rcases Nat.lt_or_ge k b with h1 | h1
    · by_cases ho : isOpen S b = true
      · rw [if_pos ⟨by omega, ho⟩] at hc
        rw [if_pos ho]
        exact ih _ h1 (by omega)
      · rw [if_neg (fun x => ho x.2)] at hc
        rw [if_neg ho]
        exact ih _ h1 (by omega)
    · obtain rfl : k = b := by omega
      rw [if_pos ⟨Nat.le_refl _, hk⟩, cnt_empty S (Nat.le_refl _)] at hc
      rw [if_pos hk, show p - 1 = 0 by omega, goDn_zero]
/-- So many days of trade behind a day of trade, and as many back, is that day. -/
theorem back_again (S : Int → Bool) {k k' p : Nat} (hl : k ≤ 2932896) (hp : 1 ≤ p) (h : goUp S k p = some k') (hk : isOpen S k = true) : goDn S k' p = some k := by
  obtain ⟨h1, h2, h3, h4⟩ := goUp_some S _ k p k' (Nat.le_refl _) hl h
  obtain ⟨h5, h6⟩ := h4 hp
  refine goDn_cnt S k hk k' p h5 ?_
  have e1 := cnt_low S h5
  rw [if_pos hk] at e1
  rw [cnt, if_pos ⟨by omega, h6⟩] at h3
  omega
end Go.Proofs.YteafaglhlggknaaDoor
