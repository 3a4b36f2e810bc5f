/-
  listing: prices that may be (plain).
-/
import Derived.WalkKit
namespace Go.Proofs.YtnhkmfofkhhnaaaDoor
set_option linter.unusedVariables false

/-- The step of a price: the last one whose From is not above it; else the first. -/
def stpN (F : Nat → Int) : Nat → Int → Nat
  | 0, _ => 0
  | n + 1, p => if F n ≤ p then n else stpN F n p
/-- Steps that may be. -/
structure OkS (F T : Nat → Int) (n : Nat) : Prop where
  n1 : 1 ≤ n
  n8 : n ≤ 8
  f0 : F 0 = 0
  t1 : ∀ j, j < n → 1 ≤ T j ∧ T j ≤ 1000000000
  fM : ∀ j, j < n → F j ≤ 1000000000
  up : ∀ j, j + 1 < n → F j < F (j + 1) ∧ (F (j + 1) - F j) % T j = 0
theorem stpN_lt {F : Nat → Int} {p : Int} : ∀ {n : Nat}, 1 ≤ n → stpN F n p < n
  | 0, h => by omega
  | n + 1, _ => by
    unfold stpN
    split
    · omega
    · rcases Nat.eq_zero_or_pos n with rfl | h
      · simp [stpN]
      · have := stpN_lt (F := F) (p := p) h; omega
theorem stpN_le {F : Nat → Int} {p : Int} (h0 : F 0 ≤ p) : ∀ (n : Nat), F (stpN F n p) ≤ p
  | 0 => h0
  | n + 1 => by
    unfold stpN
    split
    · assumption
    · exact stpN_le h0 n
theorem stpN_next {F : Nat → Int} {p : Int} : ∀ {n j : Nat}, stpN F n p < j → j < n → p < F j
  | 0, j, _, h => by omega
  | n + 1, j, h, hj => by
    unfold stpN at h
    split at h
    · omega
    · rename_i hn
      rcases Nat.lt_or_ge j n with h1 | h1
      · exact stpN_next h h1
      · obtain rfl : j = n := by omega
        omega
theorem OkS.mono {F T : Nat → Int} {n : Nat} (h : OkS F T n) : ∀ {i j : Nat}, i ≤ j → j < n → F i ≤ F j
  | i, 0, h1, _ => by obtain rfl : i = 0 := by omega
                      exact Int.le_refl _
  | i, j + 1, h1, h2 => by
    rcases Nat.lt_or_ge i (j + 1) with h3 | h3
    · have := OkS.mono h (i := i) (j := j) (by omega) (by omega)
      have := (h.up j h2).1
      omega
    · obtain rfl : i = j + 1 := by omega
      exact Int.le_refl _
theorem OkS.nn {F T : Nat → Int} {n j : Nat} (h : OkS F T n) (hj : j < n) : 0 ≤ F j := by
  have := h.mono (i := 0) (j := j) (by omega) hj
  rw [h.f0] at this; exact this
/-- Which step it is. -/
theorem OkS.stpN_eq {F T : Nat → Int} {n s : Nat} {p : Int} (h : OkS F T n) (hs : s < n) (h1 : F s ≤ p) (h2 : s + 1 < n → p < F (s + 1)) : stpN F n p = s := by
  have hl := stpN_lt (F := F) (p := p) h.n1
  rcases Nat.lt_trichotomy (stpN F n p) s with h3 | h3 | h3
  · have := stpN_next h3 hs; omega
  · exact h3
  · have h4 := h.mono (i := s + 1) (j := stpN F n p) (by omega) hl
    have h5 := stpN_le (F := F) (p := p) (by rw [h.f0]; have := h.nn hs; omega) n
    have h6 := h2 (by omega)
    omega
/-- Down to a whole number of ticks. -/
def onT (f t p : Int) : Int := p - (p - f).tmod t
theorem onT_eq {f t p : Int} (h : f ≤ p) : onT f t p = f + t * ((p - f) / t) := by
  unfold onT
  rw [Int.tmod_eq_emod_of_nonneg (by omega)]
  have := Int.mul_ediv_add_emod (p - f) t
  omega
theorem onT_le {f t p : Int} (ht : 1 ≤ t) (h : f ≤ p) : f ≤ onT f t p ∧ onT f t p ≤ p ∧ p < onT f t p + t ∧ (onT f t p - f) % t = 0 := by
  rw [onT_eq h]
  have h1 := Int.mul_ediv_add_emod (p - f) t
  have h2 := Int.emod_nonneg (p - f) (show t ≠ 0 by omega)
  have h3 := Int.emod_lt_of_pos (p - f) (show 0 < t by omega)
  have h4 : 0 ≤ t * ((p - f) / t) := Int.mul_nonneg (by omega) (Int.ediv_nonneg (by omega) (by omega))
  refine ⟨by omega, by omega, by omega, ?_⟩
  rw [show f + t * ((p - f) / t) - f = t * ((p - f) / t) by omega]
  exact Int.mul_emod_right _ _
theorem onT_self {f t p : Int} (h : f ≤ p) (h1 : (p - f) % t = 0) : onT f t p = p := by
  unfold onT
  rw [Int.tmod_eq_emod_of_nonneg (by omega), h1]; omega
/-- May a price be? -/
def mayB (F T : Nat → Int) (n : Nat) (p : Int) : Bool := (decide (1 ≤ p) && decide (p ≤ 1000000000)) && decide (onT (F (stpN F n p)) (T (stpN F n p)) p = p)
def May (F T : Nat → Int) (n : Nat) (p : Int) : Prop := 1 ≤ p ∧ p ≤ 1000000000 ∧ (p - F (stpN F n p)) % T (stpN F n p) = 0
theorem OkS.may_iff {F T : Nat → Int} {n : Nat} (h : OkS F T n) (p : Int) : mayB F T n p = true ↔ May F T n p := by
  unfold mayB May
  simp only [Bool.and_eq_true, decide_eq_true_eq, and_assoc]
  refine and_congr_right fun h1 => and_congr_right fun h2 => ?_
  have hle := stpN_le (F := F) (p := p) (by rw [h.f0]; omega) n
  have ht := h.t1 _ (stpN_lt (F := F) (p := p) h.n1)
  constructor
  · intro e
    have := (onT_le ht.1 hle).2.2.2
    rw [e] at this; exact this
  · intro e; exact onT_self hle e
/-- On a step's ticks, up to the next step. -/
theorem OkS.may_of {F T : Nat → Int} {n s : Nat} {x : Int} (h : OkS F T n) (hs : s < n) (h1 : 1 ≤ x) (h2 : x ≤ 1000000000) (h3 : F s ≤ x) (h4 : (x - F s) % T s = 0) (h5 : s + 1 < n → x ≤ F (s + 1)) : May F T n x := by
  refine ⟨h1, h2, ?_⟩
  by_cases hx : s + 1 < n ∧ x = F (s + 1)
  · obtain ⟨hn, rfl⟩ := hx
    rw [h.stpN_eq hn (Int.le_refl _) (fun h6 => (h.up (s + 1) h6).1)]
    simp
  · rw [h.stpN_eq hs h3 (fun h6 => by
      have := h5 h6
      rcases Int.lt_or_lt_of_ne (show x ≠ F (s + 1) from fun e => hx ⟨h6, e⟩) with h7 | h7
      · exact h7
      · omega)]
    exact h4
/-- The next price for a buyer, for a seller. -/
def dnP (F T : Nat → Int) (n : Nat) (p : Int) : Int := if p < 1 then 0 else onT (F (stpN F n (min p 1000000000))) (T (stpN F n (min p 1000000000))) (min p 1000000000)
def upQ (F T : Nat → Int) (n : Nat) (p : Int) : Int := onT (F (stpN F n p)) (T (stpN F n p)) (p + T (stpN F n p) - 1)
def upP (F T : Nat → Int) (n : Nat) (p : Int) : Int := if 1000000000 < p then 0 else if 1000000000 < upQ F T n (max p 1) then 0 else upQ F T n (max p 1)
theorem dnP_in {F T : Nat → Int} {n : Nat} {p : Int} (h1 : 1 ≤ p) (h2 : p ≤ 1000000000) : dnP F T n p = onT (F (stpN F n p)) (T (stpN F n p)) p := by
  unfold dnP
  rw [if_neg (by omega), show min p 1000000000 = p by omega]
theorem upP_in {F T : Nat → Int} {n : Nat} {p : Int} (h1 : 1 ≤ p) (h2 : p ≤ 1000000000) : upP F T n p = if 1000000000 < upQ F T n p then 0 else upQ F T n p := by
  unfold upP
  rw [if_neg (by omega), show max p 1 = p by omega]
/-- A price that may be is its own. -/
theorem OkS.dn_self {F T : Nat → Int} {n : Nat} {p : Int} (h : OkS F T n) (hp : May F T n p) : dnP F T n p = p := by
  obtain ⟨h1, h2, h3⟩ := hp
  rw [dnP_in h1 h2]
  exact onT_self (stpN_le (by rw [h.f0]; omega) n) h3
theorem upQ_self {f t p : Int} (ht : 1 ≤ t) (hf : f ≤ p) (h3 : (p - f) % t = 0) : onT f t (p + t - 1) = p := by
  rw [onT_eq (by omega)]
  have h1 := Int.mul_ediv_add_emod (p - f) t
  have e : p + t - 1 - f = (t - 1) + t * ((p - f) / t) := by omega
  rw [e, Int.add_mul_ediv_left _ _ (show t ≠ 0 by omega), Int.ediv_eq_zero_of_lt (by omega) (by omega), Int.zero_add]
  omega
theorem OkS.up_self {F T : Nat → Int} {n : Nat} {p : Int} (h : OkS F T n) (hp : May F T n p) : upP F T n p = p := by
  obtain ⟨h1, h2, h3⟩ := hp
  have e : upQ F T n p = p := upQ_self (h.t1 _ (stpN_lt h.n1)).1 (stpN_le (by rw [h.f0]; omega) n) h3
  rw [upP_in h1 h2, e, if_neg (by omega)]
/-- Below a price. -/
theorem OkS.low {F T : Nat → Int} {n : Nat} {p : Int} (h : OkS F T n) (h1 : 1 ≤ p) (h2 : p ≤ 1000000000) : 0 ≤ dnP F T n p ∧ dnP F T n p ≤ p ∧ (dnP F T n p ≠ 0 → stpN F n (dnP F T n p) = stpN F n p ∧ p - dnP F T n p < T (stpN F n p) ∧ May F T n (dnP F T n p)) := by
  have hle := stpN_le (F := F) (p := p) (by rw [h.f0]; omega) n
  have hl := stpN_lt (F := F) (p := p) h.n1
  have ht := h.t1 _ hl
  obtain ⟨a, b, c, d⟩ := onT_le ht.1 hle
  have hn := h.nn hl
  rw [dnP_in h1 h2]
  have hnx : stpN F n p + 1 < n → p < F (stpN F n p + 1) := fun h6 => stpN_next (by omega) h6
  refine ⟨by omega, b, fun hx => ⟨h.stpN_eq hl a (fun h6 => by have := hnx h6; omega), by omega, h.may_of hl (by omega) (by omega) a d (fun h6 => by have := hnx h6; omega)⟩⟩
theorem OkS.up_le {F T : Nat → Int} {n : Nat} {p : Int} (h : OkS F T n) (h1 : 1 ≤ p) : F (stpN F n p) ≤ upQ F T n p ∧ p ≤ upQ F T n p ∧ upQ F T n p < p + T (stpN F n p) ∧ (upQ F T n p - F (stpN F n p)) % T (stpN F n p) = 0 ∧ (stpN F n p + 1 < n → upQ F T n p ≤ F (stpN F n p + 1)) := by
  have hle := stpN_le (F := F) (p := p) (by rw [h.f0]; omega) n
  have hl := stpN_lt (F := F) (p := p) h.n1
  have ht := h.t1 _ hl
  obtain ⟨a, b, c, d⟩ := onT_le (f := F (stpN F n p)) (p := p + T (stpN F n p) - 1) ht.1 (by omega)
  refine ⟨a, by unfold upQ; omega, by unfold upQ; omega, d, fun h6 => ?_⟩
  have hx := stpN_next (F := F) (p := p) (j := stpN F n p + 1) (by omega) h6
  obtain ⟨u1, u2⟩ := h.up _ h6
  unfold upQ
  generalize onT (F (stpN F n p)) (T (stpN F n p)) (p + T (stpN F n p) - 1) = x at *
  generalize F (stpN F n p) = f at *
  generalize F (stpN F n p + 1) = g at *
  generalize T (stpN F n p) = t at *
  -- x - f and g - f are whole numbers of ticks; x < g + t
  obtain ⟨i, hi⟩ := Int.dvd_of_emod_eq_zero d
  obtain ⟨j, hj⟩ := Int.dvd_of_emod_eq_zero u2
  have h7 : t * i < t * (j + 1) := by rw [Int.mul_add, Int.mul_one]; omega
  have h8 : i < j + 1 := Int.lt_of_mul_lt_mul_left h7 (by omega)
  have h9 : t * i ≤ t * j := Int.mul_le_mul_of_nonneg_left (by omega) (by omega)
  omega
/-- Above a price. -/
theorem OkS.high {F T : Nat → Int} {n : Nat} {p : Int} (h : OkS F T n) (h1 : 1 ≤ p) (h2 : p ≤ 1000000000) : 0 ≤ upP F T n p ∧ (upP F T n p ≠ 0 → p ≤ upP F T n p ∧ upP F T n p - p < T (stpN F n p) ∧ May F T n (upP F T n p)) := by
  obtain ⟨a, b, c, d, e⟩ := h.up_le (p := p) h1
  have hl := stpN_lt (F := F) (p := p) h.n1
  rw [upP_in h1 h2]
  split
  · exact ⟨Int.le_refl _, fun hx => absurd rfl hx⟩
  · rename_i hM
    exact ⟨by omega, fun _ => ⟨b, by omega, h.may_of hl (by omega) (by omega) a d e⟩⟩
theorem dnP_lt {F T : Nat → Int} {n : Nat} {p : Int} (h : OkS F T n) (h2 : p ≤ 1000000001) (h0 : 1 ≤ p) : dnP F T n (p - 1) < p := by
  by_cases h1 : p - 1 < 1
  · unfold dnP; rw [if_pos h1]; omega
  · have := h.low (p := p - 1) (by omega) (by omega); omega
theorem upP_ne {F T : Nat → Int} {n : Nat} {p : Int} (h : OkS F T n) (h2 : p < 1000000000) (h0 : 1 ≤ p) : upP F T n (p + 1) ≠ p := by
  have := h.high (p := p + 1) (by omega) (by omega)
  intro e
  have := this.2 (by omega)
  omega
/-- Between two prices. -/
theorem OkS.between {F T : Nat → Int} {n : Nat} {p : Int} (h : OkS F T n) (h1 : 1 ≤ p) (h2 : p ≤ 1000000000) (hne : dnP F T n p ≠ upP F T n p) (h0 : dnP F T n p ≠ 0) : ¬ May F T n p ∧ (upP F T n p = 0 ∨ upP F T n (dnP F T n p + 1) = upP F T n p) := by
  have hm : ¬ May F T n p := fun hp => hne (by rw [h.dn_self hp, h.up_self hp])
  refine ⟨hm, ?_⟩
  obtain ⟨a, b, c⟩ := h.low h1 h2
  obtain ⟨c1, c2, c3⟩ := c h0
  have hlt : dnP F T n p < p := by
    rcases Int.lt_or_lt_of_ne (show dnP F T n p ≠ p from fun e => hm (by rw [e] at c3; exact c3)) with h7 | h7
    · exact h7
    · omega
  have hle := stpN_le (F := F) (p := p) (by rw [h.f0]; omega) n
  have hl := stpN_lt (F := F) (p := p) h.n1
  have ht := h.t1 _ hl
  have hdn := dnP_in (F := F) (T := T) (n := n) h1 h2
  have hnx : stpN F n p + 1 < n → p < F (stpN F n p + 1) := fun h6 => stpN_next (by omega) h6
  have hs1 : stpN F n (dnP F T n p + 1) = stpN F n p := h.stpN_eq hl (by have := (onT_le ht.1 hle).1; omega) (fun h6 => by have := hnx h6; omega)
  have key : upQ F T n (dnP F T n p + 1) = upQ F T n p := by
    have d := onT_le ht.1 hle
    have e1 := onT_eq (t := T (stpN F n p)) hle
    have e2 : upQ F T n (dnP F T n p + 1) = onT (F (stpN F n p)) (T (stpN F n p)) (dnP F T n p + T (stpN F n p)) := by
      show onT (F (stpN F n (dnP F T n p + 1))) (T (stpN F n (dnP F T n p + 1))) (dnP F T n p + 1 + T (stpN F n (dnP F T n p + 1)) - 1) = _
      rw [hs1]
      congr 1
      omega
    have e3 : upQ F T n p = onT (F (stpN F n p)) (T (stpN F n p)) (p + T (stpN F n p) - 1) := rfl
    rw [e2, e3]
    rw [hdn] at hlt ⊢
    generalize F (stpN F n p) = f at *
    generalize T (stpN F n p) = t at *
    rw [onT_eq (by omega), onT_eq (show f ≤ p + t - 1 by omega)]
    generalize onT f t p = y at *
    generalize (p - f) / t = k at *
    have q1 : y + t - f = 0 + t * (k + 1) := by rw [Int.mul_add, Int.mul_one]; omega
    have q2 : p + t - 1 - f = (p - y - 1) + t * (k + 1) := by rw [Int.mul_add, Int.mul_one]; omega
    rw [q1, q2, Int.add_mul_ediv_left _ _ (show t ≠ 0 by omega), Int.add_mul_ediv_left _ _ (show t ≠ 0 by omega), Int.ediv_eq_zero_of_lt (by omega) (by omega), Int.ediv_eq_zero_of_lt (by omega) (by omega)]
  right
  rw [upP_in h1 h2, upP_in (by omega) (by omega), key]
end Go.Proofs.YtnhkmfofkhhnaaaDoor
