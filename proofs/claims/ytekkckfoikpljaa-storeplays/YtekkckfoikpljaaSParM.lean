/-
  store, plain: the parts that Parts puts together are the parts of the numbers.
-/
import Derived.Test.YtekkckfoikpljaaSSkip
namespace Go.Proofs.Ytekkckfoikpljaa
set_option linter.unusedVariables false

theorem lastTo_gr (c : Nat → Nat) (g : Nat → Option Msg) (a k : Nat) : lastTo (gr c g a k) a = a + k := by
  cases k with
  | zero => rfl
  | succ k =>
    obtain ⟨i, p, h1, h2, _⟩ := gr_last (c := c) (g := g) a k
    rw [h1]
    simp [lastTo, h2]
    omega
theorem skipL_gr {c : Nat → Nat} {g : Nat → Option Msg} (hg : ∀ n, c n ≠ 1 → g n = none) (a cu nx : Nat) (h1 : a ≤ cu) (hn : cu ≤ nx) (h0 : cu = a ∨ c (cu - 1) ≠ 3) (h : ∀ q, cu ≤ q → q < nx → c q = 3) : skipL (gr c g a (cu - a)) a nx = gr c g a (nx - a) := by
  have := gr_skip a (cu - a) nx hg (by omega) (by rcases h0 with h0 | h0; exact .inl (by omega); right; rw [show a + (cu - a) - 1 = cu - 1 by omega]; exact h0) fun q q1 q2 => h q (by omega) q2
  rw [this]
  unfold skipL
  rw [lastTo_gr]
section
variable {n : Nat} {c : Nat → Nat} {g : Nat → Option Msg} {K : List Msg} {L : List (Nat × Nat)} {a b f e : Nat}
/-- Where the loop over the rows stands behind t of them. -/
def GA (c : Nat → Nat) (L : List (Nat × Nat)) (a b f t cu : Nat) : Prop := a ≤ cu ∧ cu ≤ b + 1 ∧ (cu = a ∨ c (cu - 1) = 2) ∧ (t = 0 → cu = a) ∧ (0 < t → ∃ r, L[f + t - 1]? = some r ∧ cu = min r.2 b + 1)
theorem ga_zero (hab : a ≤ b) : GA c L a b f 0 a := ⟨Nat.le_refl _, by omega, .inl rfl, fun _ => rfl, fun h => by omega⟩
theorem ga_step (hI : Inv seqM n c g K L) (ha : 1 ≤ a) (hab : a ≤ b) (hb : b ≤ n) (hF : ∀ (i : Nat) (r : Nat × Nat), L[i]? = some r → (i < f ↔ r.2 < a)) (hE : ∀ (i : Nat) (r : Nat × Nat), L[i]? = some r → (i < e ↔ r.1 ≤ b)) {t cu : Nat} (h : GA c L a b f t cu) {r : Nat × Nat} (hr : L[f + t]? = some r) (ht : f + t < e) :
    skipL (gr c g a (cu - a)) a (max r.1 a) ++ [⟨max r.1 a, min r.2 b, true, none⟩] = gr c g a (min r.2 b + 1 - a) ∧ GA c L a b f (t + 1) (min r.2 b + 1) ∧ max r.1 a ≤ min r.2 b ∧ cu ≤ max r.1 a := by
  have hr1 := (hE _ _ hr).1 ht
  have hr2 : ¬ r.2 < a := fun h => by have := (hF _ _ hr).2 h; omega
  obtain ⟨l1, l2, l3, l4⟩ := hI.lin _ _ hr
  have hxy : max r.1 a ≤ min r.2 b := by omega
  obtain ⟨g1, g2, g3, g4, g5⟩ := h
  have hcu : cu ≤ max r.1 a := by
    by_cases h0 : t = 0
    · have := g4 h0; omega
    · obtain ⟨r', h1, h2⟩ := g5 (by omega)
      have := hI.lup (f + t - 1) (f + t) r' r (by omega) h1 hr
      omega
  have hskip : ∀ q, cu ≤ q → q < max r.1 a → c q = 3 := fun q q1 q2 => by
    have hqr : q < r.1 := by omega
    rcases hI.cthree q with h1 | h1 | h1
    · obtain ⟨j, m, h2, h3⟩ := hI.kall q (by omega) (by omega) h1
      have := hI.low _ _ _ _ hr h2
      omega
    · exfalso
      obtain ⟨i, s, h2, h3, h4⟩ := hI.lall q (by omega) (by omega) h1
      rcases Nat.lt_trichotomy i (f + t) with h5 | h5 | h5
      · by_cases h0 : t = 0
        · have := (hF i s h2).1 (by omega); omega
        · obtain ⟨r', h6, h7⟩ := g5 (by omega)
          rcases Nat.lt_or_ge i (f + t - 1) with h8 | h8
          · have := hI.lup i (f + t - 1) s r' h8 h2 h6
            have := (hI.lin _ _ h6)
            have h9 := hI.lup (f + t - 1) (f + t) r' r (by omega) h6 hr
            omega
          · have : i = f + t - 1 := by omega
            subst this
            rw [h6] at h2
            injection h2 with h2
            subst h2
            omega
      · subst h5
        rw [hr] at h2
        injection h2 with h2
        subst h2
        omega
      · have := hI.lup _ _ _ _ h5 hr h2; omega
    · exact h1
  refine ⟨?_, ⟨by omega, by omega, .inr ?_, fun h => by omega, fun _ => ⟨r, hr, rfl⟩⟩, hxy, hcu⟩
  · rw [skipL_gr hI.gnone a cu (max r.1 a) g1 hcu (by rcases g3 with g3 | g3; exact .inl g3; exact .inr (by rw [g3]; decide)) hskip]
    have := gr_run (c := c) (g := g) a (max r.1 a - a) hI.gnone 2 (by decide) (by
      by_cases h0 : max r.1 a = a
      · exact .inl (by omega)
      · right
        rw [show a + (max r.1 a - a) - 1 = max r.1 a - 1 by omega]
        by_cases h1 : cu = max r.1 a
        · intro h2
          obtain ⟨i, s, h3, h4, h5⟩ := hI.lall (max r.1 a - 1) (by omega) (by omega) h2
          rcases Nat.lt_trichotomy i (f + t) with h6 | h6 | h6
          · have := hI.lup _ _ _ _ h6 h3 hr; omega
          · subst h6; rw [hr] at h3; injection h3 with h3; subst h3; omega
          · have := hI.lup _ _ _ _ h6 hr h3; omega
        · rw [hskip _ (by omega) (by omega)]; decide) (min r.2 b - max r.1 a) fun q hq => l4 _ (by omega) (by omega)
    rw [show max r.1 a - a + (min r.2 b - max r.1 a) + 1 = min r.2 b + 1 - a by omega] at this
    rw [this, show a + (max r.1 a - a) = max r.1 a by omega, show max r.1 a + (min r.2 b - max r.1 a) = min r.2 b by omega]; rfl
  · exact l4 _ (by omega) (by omega)
theorem ga_end (hI : Inv seqM n c g K L) (ha : 1 ≤ a) (hb : b ≤ n) (hF : ∀ (i : Nat) (r : Nat × Nat), L[i]? = some r → (i < f ↔ r.2 < a)) (hE : ∀ (i : Nat) (r : Nat × Nat), L[i]? = some r → (i < e ↔ r.1 ≤ b)) (hfe : f ≤ e) {cu : Nat} (h : GA c L a b f (e - f) cu) : ∀ q, cu ≤ q → q ≤ b → c q ≠ 2 := fun q q1 q2 hc => by
  obtain ⟨g1, g2, g3, g4, g5⟩ := h
  obtain ⟨i, s, h2, h3, h4⟩ := hI.lall q (by omega) (by omega) hc
  have hie := (hE i s h2).2 (by omega)
  by_cases hif : i < f
  · have := (hF i s h2).1 hif; omega
  · obtain ⟨r', h6, h7⟩ := g5 (by omega)
    rcases Nat.lt_or_ge i (f + (e - f) - 1) with h8 | h8
    · have := hI.lup _ _ _ _ h8 h2 h6
      have := hI.lin _ _ h6
      omega
    · have : i = f + (e - f) - 1 := by omega
      subst this
      rw [h6] at h2
      injection h2 with h2
      subst h2
      omega
/-- Where the loop over the messages stands behind t of them. -/
def GB (c : Nat → Nat) (K : List Msg) (a b c0 f t cu : Nat) : Prop := c0 ≤ cu ∧ cu ≤ b + 1 ∧ (cu = a ∨ c (cu - 1) ≠ 3) ∧ (t = 0 → cu = c0) ∧ (0 < t → ∃ m, K[f + t - 1]? = some m ∧ cu = seqM m + 1)
theorem gb_zero {c0 : Nat} (h1 : c0 ≤ b + 1) (h2 : c0 = a ∨ c (c0 - 1) = 2) : GB c K a b c0 f 0 c0 := ⟨Nat.le_refl _, h1, by rcases h2 with h2 | h2; exact .inl h2; exact .inr (by rw [h2]; decide), fun _ => rfl, fun h => by omega⟩
theorem gb_skip (hI : Inv seqM n c g K L) (ha : 1 ≤ a) (hb : b ≤ n) {c0 : Nat} (hc0 : a ≤ c0) (hno : ∀ q, c0 ≤ q → q ≤ b → c q ≠ 2) (hF : ∀ (i : Nat) (m : Msg), K[i]? = some m → (i < f ↔ seqM m < a)) {t cu : Nat} (h : GB c K a b c0 f t cu) {q : Nat} (q1 : cu ≤ q) (q2 : q ≤ b) (hq : ∀ (i : Nat) (m : Msg), K[i]? = some m → f + t ≤ i → q < seqM m) : c q = 3 := by
  obtain ⟨g1, g2, g3, g4, g5⟩ := h
  rcases hI.cthree q with h1 | h1 | h1
  · exfalso
    obtain ⟨j, m, h2, h3⟩ := hI.kall q (by omega) (by omega) h1
    rcases Nat.lt_or_ge j (f + t) with h5 | h5
    · by_cases hj : j < f
      · have := (hF j m h2).1 hj; omega
      · obtain ⟨m', h6, h7⟩ := g5 (by omega)
        rcases Nat.lt_or_ge j (f + t - 1) with h8 | h8
        · have := hI.kup _ _ _ _ h8 h2 h6; omega
        · have : j = f + t - 1 := by omega
          subst this
          rw [h6] at h2
          injection h2 with h2
          subst h2
          omega
    · have := hq j m h2 h5; omega
  · exact absurd h1 (hno q (by omega) q2)
  · exact h1
theorem gb_step (hI : Inv seqM n c g K L) (ha : 1 ≤ a) (hab : a ≤ b) (hb : b ≤ n) {c0 : Nat} (hc0 : a ≤ c0) (hc02 : c0 = a ∨ c (c0 - 1) = 2) (hno : ∀ q, c0 ≤ q → q ≤ b → c q ≠ 2) (hF : ∀ (i : Nat) (m : Msg), K[i]? = some m → (i < f ↔ seqM m < a)) (hE : ∀ (i : Nat) (m : Msg), K[i]? = some m → (i < e ↔ seqM m ≤ b)) {t cu : Nat} (h : GB c K a b c0 f t cu) {m : Msg} (hm : K[f + t]? = some m) (ht : f + t < e) :
    skipL (gr c g a (cu - a)) a (seqM m) ++ [⟨seqM m, seqM m, false, some m⟩] = gr c g a (seqM m + 1 - a) ∧ GB c K a b c0 f (t + 1) (seqM m + 1) ∧ cu ≤ seqM m ∧ a ≤ seqM m ∧ seqM m ≤ b := by
  have hs1 := (hE _ _ hm).1 ht
  have hs2 : ¬ seqM m < a := fun h => by have := (hF _ _ hm).2 h; omega
  obtain ⟨k1, k2, k3, k4⟩ := hI.kin _ _ hm
  have h' := h
  obtain ⟨g1, g2, g3, g4, g5⟩ := h
  have hcu : cu ≤ seqM m := by
    by_cases h0 : t = 0
    · have h3 := g4 h0
      rcases hc02 with h1 | h1
      · omega
      · rcases Nat.lt_or_ge a c0 with h9 | h9
        · obtain ⟨i, s, h5, h6, h7⟩ := hI.lall (c0 - 1) (by omega) (by omega) h1
          have := hI.low _ _ _ _ h5 hm
          omega
        · omega
    · obtain ⟨m', h1, h2⟩ := g5 (by omega)
      have := hI.kup _ _ _ _ (show f + t - 1 < f + t by omega) h1 hm
      omega
  have hup : ∀ (i : Nat) (m' : Msg), K[i]? = some m' → f + t ≤ i → seqM m ≤ seqM m' := fun i m' hi hle => by
    rcases Nat.lt_or_ge (f + t) i with h1 | h1
    · have := hI.kup _ _ _ _ h1 hm hi; omega
    · have : i = f + t := by omega
      subst this; rw [hm] at hi; injection hi with hi; rw [hi]; exact Nat.le_refl _
  refine ⟨?_, ⟨by omega, by omega, .inr ?_, fun h => by omega, fun _ => ⟨m, hm, rfl⟩⟩, hcu, by omega, hs1⟩
  · rw [skipL_gr hI.gnone a cu (seqM m) (by omega) hcu g3 fun q q1 q2 => gb_skip hI ha hb hc0 hno hF h' q1 (by omega) fun i m' hi hle => by have := hup i m' hi hle; omega]
    have := gr_keep (c := c) (g := g) a (seqM m - a) (by rw [show a + (seqM m - a) = seqM m by omega]; exact k3)
    rw [show seqM m - a + 1 = seqM m + 1 - a by omega, show a + (seqM m - a) = seqM m by omega, k4] at this
    exact this.symm
  · rw [show seqM m + 1 - 1 = seqM m by omega, k3]; decide
theorem gb_end (hI : Inv seqM n c g K L) (ha : 1 ≤ a) (hab : a ≤ b) (hb : b ≤ n) {c0 : Nat} (hc0 : a ≤ c0) (hno : ∀ q, c0 ≤ q → q ≤ b → c q ≠ 2) (hF : ∀ (i : Nat) (m : Msg), K[i]? = some m → (i < f ↔ seqM m < a)) (hE : ∀ (i : Nat) (m : Msg), K[i]? = some m → (i < e ↔ seqM m ≤ b)) (hfe : f ≤ e) {cu : Nat} (h : GB c K a b c0 f (e - f) cu) :
    skipL (gr c g a (cu - a)) a (b + 1) = gr c g a (b + 1 - a) := by
  have h' := h
  obtain ⟨g1, g2, g3, g4, g5⟩ := h
  exact skipL_gr hI.gnone a cu (b + 1) (by omega) g2 g3 fun q q1 q2 => gb_skip hI ha hb hc0 hno hF h' q1 (by omega) fun i m hi hle => by
    have : ¬ seqM m ≤ b := fun h => by have := (hE i m hi).2 h; omega
    omega
/-- No part goes beyond its end. -/
theorem gr_to {a k : Nat} {p : Pt Msg} (h : p ∈ gr c g a k) : p.to < a + k := by
  obtain ⟨i, hi⟩ := List.getElem?_of_mem h
  exact ((gr_til (c := c) (g := g) a k).ord i p hi).2.2
end
end Go.Proofs.Ytekkckfoikpljaa
