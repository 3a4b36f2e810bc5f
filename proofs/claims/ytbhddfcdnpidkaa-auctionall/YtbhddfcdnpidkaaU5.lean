/-
  A stable sort by merging in place, plain: what a rotation does; when a merge of two sorted halves is sorted.
-/
import Derived.Sort.LotA
namespace Go.Proofs.Ytbhddfcdnpidkaa
set_option linter.unusedVariables false
set_option linter.unusedSectionVars false
open Go.Sort
variable {α : Type} [Inhabited α]

/-- The places [a, m) and [m, b) change places. -/
structure Rot (d d' : Array α) (a m b : Nat) : Prop where
  size : d'.size = d.size
  out : ∀ i, i < a ∨ b ≤ i → d'[i]! = d[i]!
  lo : ∀ i, a ≤ i → i < a + (b - m) → d'[i]! = d[i + (m - a)]!
  hi : ∀ i, a + (b - m) ≤ i → i < b → d'[i]! = d[i - (b - m)]!
theorem Rot.left (d : Array α) {m b : Nat} : Rot d d m m b := ⟨rfl, fun _ _ => rfl, fun i _ _ => by rw [Nat.sub_self, Nat.add_zero], fun i h1 h2 => absurd h1 (by omega)⟩
theorem Rot.right (d : Array α) {a m : Nat} : Rot d d a m m := ⟨rfl, fun _ _ => rfl, fun i h1 h2 => absurd h2 (by omega), fun i _ _ => by rw [Nat.sub_self, Nat.sub_zero]⟩
/-- [x, x + n) and [y, y + n) exchanged, so far. -/
def swapR (d : Array α) (x y : Nat) : Nat → Array α
  | 0 => d
  | n + 1 => swp (swapR d x y n) (x + n) (y + n)
theorem swapR_size (d : Array α) (x y : Nat) : ∀ n, (swapR d x y n).size = d.size
  | 0 => rfl
  | n + 1 => by unfold swapR; rw [swp_size, swapR_size d x y n]
theorem swapR_get (d : Array α) {x y : Nat} : ∀ {n : Nat}, x + n ≤ y → y + n ≤ d.size → ∀ i, (swapR d x y n)[i]! = if x ≤ i ∧ i < x + n then d[i - x + y]! else if y ≤ i ∧ i < y + n then d[i - y + x]! else d[i]!
  | 0, _, _, i => by unfold swapR; rw [if_neg (by omega), if_neg (by omega)]
  | n + 1, h1, h2, i => by
    unfold swapR
    rw [swp_get _ (by rw [swapR_size]; omega) (by rw [swapR_size]; omega)]
    rw [swapR_get d (by omega) (by omega) (x + n), swapR_get d (by omega) (by omega) (y + n), swapR_get d (by omega) (by omega) i]
    by_cases e1 : i = y + n
    · subst e1
      rw [if_pos rfl, if_neg (by omega), if_neg (by omega), if_neg (by omega), if_pos (by omega)]
      congr 1; omega
    · by_cases e2 : i = x + n
      · subst e2
        rw [if_neg e1, if_pos rfl, if_neg (by omega), if_neg (by omega), if_pos (by omega)]
        congr 1; omega
      · rw [if_neg e1, if_neg e2]
        by_cases c1 : x ≤ i ∧ i < x + n
        · rw [if_pos c1, if_pos (by omega)]
        · rw [if_neg c1, if_neg (c := x ≤ i ∧ i < x + (n + 1)) (by omega)]
          by_cases c2 : y ≤ i ∧ i < y + n
          · rw [if_pos c2, if_pos (by omega)]
          · rw [if_neg c2, if_neg (by omega)]
theorem swapR_perm (d : Array α) {x y a b : Nat} (ha : a ≤ x) : ∀ {n : Nat}, x + n ≤ y → y + n ≤ b → b ≤ d.size → PermIn a b d (swapR d x y n)
  | 0, _, _, _ => permIn_refl d a b
  | n + 1, h1, h2, h3 => permIn_trans _ _ _ a b (swapR_perm d ha (n := n) (by omega) (by omega) h3) (swp_permIn _ a b (x + n) (y + n) (by omega) (by omega) (by omega) (by omega) (by rw [swapR_size]; exact h3))
/-- The rotation's rounds. -/
theorem rot_more {D F : Array α} {m i j : Nat} (hi : i ≤ m) (hj : j < i) (hb : m + j ≤ D.size) (h : Rot (swapR D (m - i) m j) F (m - (i - j)) m (m + j)) : Rot D F (m - i) m (m + j) := by
  have g := fun k => swapR_get D (x := m - i) (y := m) (n := j) (by omega) (by omega) k
  refine ⟨by rw [h.size, swapR_size], fun k hk => ?_, fun k h1 h2 => ?_, fun k h1 h2 => ?_⟩
  · rw [h.out k (by omega), g, if_neg (by omega), if_neg (by omega)]
  · rw [h.out k (by omega), g, if_pos (by omega)]
    congr 1; omega
  · by_cases e : k < m - (i - j) + j
    · rw [h.lo k (by omega) (by omega), g, if_neg (by omega), if_pos (by omega)]
      congr 1; omega
    · rw [h.hi k (by omega) h2, g, if_neg (by omega), if_neg (by omega)]
theorem rot_less {D F : Array α} {m i j : Nat} (hi : i ≤ m) (hj : i < j) (hb : m + j ≤ D.size) (h : Rot (swapR D (m - i) (m + j - i) i) F (m - i) m (m + (j - i))) : Rot D F (m - i) m (m + j) := by
  have g := fun k => swapR_get D (x := m - i) (y := m + j - i) (n := i) (by omega) (by omega) k
  refine ⟨by rw [h.size, swapR_size], fun k hk => ?_, fun k h1 h2 => ?_, fun k h1 h2 => ?_⟩
  · rw [h.out k (by omega), g, if_neg (by omega), if_neg (by omega)]
  · by_cases e : k < m - i + (j - i)
    · rw [h.lo k (by omega) (by omega), g, if_neg (by omega), if_neg (by omega)]
    · rw [h.hi k (by omega) (by omega), g, if_pos (by omega)]
      congr 1; omega
  · rw [h.out k (by omega), g, if_neg (by omega), if_pos (by omega)]
    congr 1; omega
theorem rot_same {D : Array α} {m i : Nat} (hi : i ≤ m) (hb : m + i ≤ D.size) : Rot D (swapR D (m - i) m i) (m - i) m (m + i) := by
  have g := fun k => swapR_get D (x := m - i) (y := m) (n := i) (by omega) (by omega) k
  refine ⟨swapR_size _ _ _ _, fun k hk => ?_, fun k h1 h2 => ?_, fun k h1 h2 => ?_⟩
  · rw [g, if_neg (by omega), if_neg (by omega)]
  · rw [g, if_pos (by omega)]
    congr 1; omega
  · rw [g, if_neg (by omega), if_pos (by omega)]
    congr 1; omega
/-- One that goes behind those after it; one that comes ahead of those before it. -/
theorem rot_up {d D : Array α} {a k : Nat} (ha : a ≤ k) (hk : k + 1 < d.size) (h : Rot d D a (a + 1) (k + 1)) : Rot d (swp D k (k + 1)) a (a + 1) (k + 2) := by
  have hs := h.size
  have g := fun i => swp_get D (i := k) (j := k + 1) (by omega) (by omega) i
  refine ⟨by rw [swp_size, hs], fun i hi => ?_, fun i h1 h2 => ?_, fun i h1 h2 => ?_⟩
  · rw [g, if_neg (by omega), if_neg (by omega), h.out i (by omega)]
  · by_cases e : i = k
    · subst e
      rw [g, if_neg (by omega), if_pos rfl, h.out _ (by omega)]
      congr 1; omega
    · rw [g, if_neg (by omega), if_neg e, h.lo i h1 (by omega)]
  · have e : i = k + 1 := by omega
    subst e
    rw [g, if_pos rfl, h.hi k (by omega) (by omega)]
    congr 1; omega
theorem rot_down {d D : Array α} {m k : Nat} (hk : k + 1 ≤ m) (hm : m < d.size) (h : Rot d D (k + 1) m (m + 1)) : Rot d (swp D (k + 1) k) k m (m + 1) := by
  have hs := h.size
  have g := fun i => swp_get D (i := k + 1) (j := k) (by omega) (by omega) i
  refine ⟨by rw [swp_size, hs], fun i hi => ?_, fun i h1 h2 => ?_, fun i h1 h2 => ?_⟩
  · rw [g, if_neg (by omega), if_neg (by omega), h.out i (by omega)]
  · have e : i = k := by omega
    subst e
    rw [g, if_pos rfl, h.lo (i + 1) (by omega) (by omega)]
    congr 1; omega
  · by_cases e : i = k + 1
    · subst e
      rw [g, if_neg (by omega), if_pos rfl, h.out _ (by omega)]
      congr 1; omega
    · rw [g, if_neg (by omega), if_neg e, h.hi i (by omega) h2]
/-- Those who come later are held against those who came first by R. -/
def Ag (lt R : α → α → Bool) (a m b : Nat) (d : Array α) : Prop := ∀ i j, a ≤ i → i < m → m ≤ j → j < b → lt d[j]! d[i]! = R d[j]! d[i]!
section
variable {R : α → α → Bool}
theorem le_trans' (hR : SWO R) {x y z : α} (h1 : R y x = false) (h2 : R z y = false) : R z x = false := hR.ntrans _ _ _ h2 h1
theorem lt_le (hR : SWO R) {x y : α} (h : R x y = true) : R y x = false := by
  cases e : R y x with
  | false => rfl
  | true => have := hR.trans _ _ _ h e; rw [hR.irrefl] at this; cases this
theorem sle (hR : SWO R) {a b : Nat} {d : Array α} (h : SortedIn R a b d) {i j : Nat} (h1 : a ≤ i) (h2 : i ≤ j) (h3 : j < b) : R d[j]! d[i]! = false := by
  by_cases e : i = j
  · subst e; exact hR.irrefl _
  · exact h i j h1 (by omega) h3
/-- A rotation at the right places leaves all in order. -/
theorem rot_sorted (hR : SWO R) {d d' : Array α} {a m b s e : Nat} (h : Rot d d' s m e) (has : a ≤ s) (hsm : s ≤ m) (hme : m ≤ e) (heb : e ≤ b) (hl : SortedIn R a m d) (hr : SortedIn R m b d) (x1 : ∀ i j, a ≤ i → i < s → m ≤ j → j < b → R d[j]! d[i]! = false) (x2 : ∀ i j, s ≤ i → i < m → m ≤ j → j < e → R d[i]! d[j]! = false) (x3 : ∀ i j, s ≤ i → i < m → e ≤ j → j < b → R d[j]! d[i]! = false) : SortedIn R a b d' := by
  intro i j hi hij hj
  by_cases i1 : i < s
  · rw [h.out i (.inl i1)]
    by_cases j1 : j < s
    · rw [h.out j (.inl j1)]; exact hl i j hi hij (by omega)
    · by_cases j2 : j < s + (e - m)
      · rw [h.lo j (by omega) j2]; exact x1 _ _ hi i1 (by omega) (by omega)
      · by_cases j3 : j < e
        · rw [h.hi j (by omega) j3]; exact hl _ _ hi (by omega) (by omega)
        · rw [h.out j (by omega)]; exact x1 _ _ hi i1 (by omega) hj
  · by_cases i2 : i < s + (e - m)
    · rw [h.lo i (by omega) i2]
      by_cases j2 : j < s + (e - m)
      · rw [h.lo j (by omega) j2]; exact hr _ _ (by omega) (by omega) (by omega)
      · by_cases j3 : j < e
        · rw [h.hi j (by omega) j3]; exact x2 _ _ (by omega) (by omega) (by omega) (by omega)
        · rw [h.out j (by omega)]; exact hr _ _ (by omega) (by omega) hj
    · by_cases i3 : i < e
      · rw [h.hi i (by omega) i3]
        by_cases j3 : j < e
        · rw [h.hi j (by omega) j3]; exact hl _ _ (by omega) (by omega) (by omega)
        · rw [h.out j (by omega)]; exact x3 _ _ (by omega) (by omega) (by omega) hj
      · rw [h.out i (by omega), h.out j (by omega)]; exact hr _ _ (by omega) hij hj
/-- The two searches at the ends. -/
theorem one_left (hR : SWO R) {d d' : Array α} {a b i : Nat} (h : Rot d d' a (a + 1) i) (hi : a + 1 ≤ i) (hib : i ≤ b) (hr : SortedIn R (a + 1) b d) (k1 : ∀ h, a + 1 ≤ h → h < i → R d[h]! d[a]! = true) (k2 : ∀ h, i ≤ h → h < b → R d[h]! d[a]! = false) : SortedIn R a b d' :=
  rot_sorted hR h (Nat.le_refl _) (by omega) hi hib (fun x y h1 h2 h3 => by omega) hr (fun x y h1 h2 => by omega) (fun x y h1 h2 h3 h4 => by
    have e : x = a := by omega
    subst e
    exact lt_le hR (k1 y h3 h4)) fun x y h1 h2 h3 h4 => by
    have e : x = a := by omega
    subst e
    exact k2 y h3 h4
theorem one_right (hR : SWO R) {d d' : Array α} {a m i : Nat} (h : Rot d d' i m (m + 1)) (hai : a ≤ i) (hi : i ≤ m) (hl : SortedIn R a m d) (k1 : ∀ h, a ≤ h → h < i → R d[m]! d[h]! = false) (k2 : ∀ h, i ≤ h → h < m → R d[m]! d[h]! = true) : SortedIn R a (m + 1) d' :=
  rot_sorted hR h hai hi (by omega) (Nat.le_refl _) hl (fun x y h1 h2 h3 => by omega) (fun x y h1 h2 h3 h4 => by
    have e : y = m := by omega
    subst e
    exact k1 x h1 h2) (fun x y h1 h2 h3 h4 => by
    have e : y = m := by omega
    subst e
    exact lt_le hR (k2 x h1 h2)) fun x y h1 h2 h3 h4 => by omega
/-- The search for where the halves are cut. -/
theorem cut_lo (hR : SWO R) {d : Array α} {a m b p c c' : Nat} (hl : SortedIn R a m d) (hr : SortedIn R m b d) (hc : R d[p - c]! d[c]! = false) (h1 : a ≤ c') (h2 : c' ≤ c) (h3 : c < m) (h4 : m ≤ p - c) (h5 : p - c' < b) : R d[p - c']! d[c']! = false :=
  le_trans' hR (le_trans' hR (sle hR hl h1 h2 h3) hc) (sle hR hr h4 (by omega) h5)
theorem cut_hi (hR : SWO R) {d : Array α} {a m b p c c' : Nat} (hl : SortedIn R a m d) (hr : SortedIn R m b d) (hc : R d[p - c]! d[c]! = true) (h1 : a ≤ c) (h2 : c ≤ c') (h3 : c' < m) (h4 : m ≤ p - c') (h5 : p - c < b) : R d[p - c']! d[c']! = true := by
  cases e : R d[p - c']! d[c']! with
  | true => rfl
  | false => have := cut_lo hR hl hr e h1 h2 h3 h4 h5; rw [this] at hc; cases hc
/-- Where the halves are cut so, each of the new halves is two rows in order, and the first one is ahead of the second one. -/
structure Cut (lt R : α → α → Bool) (d1 : Array α) (a s mid e b : Nat) : Prop where
  s1 : SortedIn R a s d1
  s2 : SortedIn R s mid d1
  s3 : SortedIn R mid e d1
  s4 : SortedIn R e b d1
  ag1 : Ag lt R a s mid d1
  ag2 : Ag lt R mid e b d1
  x : ∀ i j, a ≤ i → i < mid → mid ≤ j → j < b → R d1[j]! d1[i]! = false
theorem rot_cut (hR : SWO R) {lt : α → α → Bool} {d d1 : Array α} {a m b s e mid lo hi p : Nat} (h : Rot d d1 s m e) (hl : SortedIn R a m d) (hr : SortedIn R m b d) (hag : Ag lt R a m b d) (has : a ≤ s) (hsm : s ≤ m) (hme : m ≤ e) (heb : e ≤ b) (hmid : s + (e - m) = mid) (hlo : a ≤ lo) (hls : lo ≤ s) (hsh : s ≤ hi) (hhm : hi ≤ m) (hp : p + 1 = s + e) (hph : m + hi ≤ p + 1) (e1 : lo = a ∨ p - lo + 1 = b) (e2 : hi = m ∨ p + 1 - hi = m) (hpl : p - lo < b)
    (k1 : ∀ c, lo ≤ c → c < s → R d[p - c]! d[c]! = false) (k2 : ∀ c, s ≤ c → c < hi → R d[p - c]! d[c]! = true) : Cut lt R d1 a s mid e b := by
  have y1 : ∀ i j, a ≤ i → i < s → e ≤ j → j < b → R d[j]! d[i]! = false := fun i j h1 h2 h3 h4 => by
    by_cases z : s = lo
    · rcases e1 with e1 | e1
      · omega
      · omega
    · have := k1 (s - 1) (by omega) (by omega)
      rw [show p - (s - 1) = e by omega] at this
      exact le_trans' hR (le_trans' hR (sle hR hl h1 (by omega) (by omega)) this) (sle hR hr hme h3 h4)
  have y2 : ∀ i j, s ≤ i → i < m → m ≤ j → j < e → R d[i]! d[j]! = false := fun i j h1 h2 h3 h4 => by
    by_cases z : s = hi
    · rcases e2 with e2 | e2
      · omega
      · omega
    · have := lt_le hR (k2 s (Nat.le_refl _) (by omega))
      rw [show p - s = e - 1 by omega] at this
      exact le_trans' hR (le_trans' hR (sle hR hr h3 (by omega) (by omega)) this) (sle hR hl has h1 h2)
  refine ⟨fun i j h1 h2 h3 => ?_, fun i j h1 h2 h3 => ?_, fun i j h1 h2 h3 => ?_, fun i j h1 h2 h3 => ?_, fun i j h1 h2 h3 h4 => ?_, fun i j h1 h2 h3 h4 => ?_, fun i j h1 h2 h3 h4 => ?_⟩
  · rw [h.out i (by omega), h.out j (by omega)]; exact hl i j h1 h2 (by omega)
  · rw [h.lo i (by omega) (by omega), h.lo j (by omega) (by omega)]; exact hr _ _ (by omega) (by omega) (by omega)
  · rw [h.hi i (by omega) (by omega), h.hi j (by omega) (by omega)]; exact hl _ _ (by omega) (by omega) (by omega)
  · rw [h.out i (by omega), h.out j (by omega)]; exact hr i j (by omega) h2 h3
  · rw [h.out i (by omega), h.lo j (by omega) (by omega)]; exact hag _ _ h1 (by omega) (by omega) (by omega)
  · rw [h.hi i (by omega) (by omega), h.out j (by omega)]; exact hag _ _ (by omega) (by omega) (by omega) h4
  · by_cases i1 : i < s
    · rw [h.out i (by omega)]
      by_cases j1 : j < e
      · rw [h.hi j (by omega) j1]; exact hl _ _ h1 (by omega) (by omega)
      · rw [h.out j (by omega)]; exact y1 _ _ h1 i1 (by omega) h4
    · rw [h.lo i (by omega) (by omega)]
      by_cases j1 : j < e
      · rw [h.hi j (by omega) j1]; exact y2 _ _ (by omega) (by omega) (by omega) (by omega)
      · rw [h.out j (by omega)]; exact hr _ _ (by omega) (by omega) h4
/-- Both halves in order: all in order. -/
theorem Cut.done (hR : SWO R) {lt : α → α → Bool} {d1 d2 d3 : Array α} {a s mid e b : Nat} (h : Cut lt R d1 a s mid e b) (has : a ≤ mid) (hmb : mid ≤ b) (hb : b ≤ d1.size) (p1 : PermIn a mid d1 d2) (p2 : PermIn mid b d2 d3) (h1 : SortedIn R a mid d2) (h2 : SortedIn R mid b d3) : SortedIn R a b d3 := by
  have c1 : ∀ i j, a ≤ i → i < mid → mid ≤ j → j < b → R d2[j]! d2[i]! = false := fun i j h3 h4 h5 h6 => by
    rw [p1.2.1 j (by omega)]
    exact permIn_all d1 d2 a mid (fun x => R d1[j]! x = false) (by omega) p1 (fun i h7 h8 => h.x i j h7 h8 h5 h6) i h3 h4
  have c2 : ∀ i j, a ≤ i → i < mid → mid ≤ j → j < b → R d3[j]! d3[i]! = false := fun i j h3 h4 h5 h6 => by
    rw [p2.2.1 i (by omega)]
    exact permIn_all d2 d3 mid b (fun x => R x d2[i]! = false) (by rw [p1.1]; exact hb) p2 (fun j h7 h8 => c1 i j h3 h4 h7 h8) j h5 h6
  intro i j h3 h4 h5
  by_cases hj : j < mid
  · rw [p2.2.1 i (by omega), p2.2.1 j (by omega)]; exact h1 i j h3 h4 hj
  · by_cases hi : i < mid
    · exact c2 i j h3 hi (by omega) h5
    · exact h2 i j (by omega) h4 h5
theorem PermIn.ag {lt : α → α → Bool} {d d' : Array α} {a m b : Nat} (h : PermIn a m d d') (h' : ∀ j, m ≤ j → j < b → d'[j]! = d[j]!) (hm : m ≤ d.size) (hag : Ag lt R a m b d) : Ag lt R a m b d' := fun i j h1 h2 h3 h4 => by
  rw [h' j h3 h4]
  exact permIn_all d d' a m (fun x => lt d[j]! x = R d[j]! x) hm h (fun i k1 k2 => hag i j k1 k2 h3 h4) i h1 h2
/-- What a merge does. -/
structure Mrg (lt : α → α → Bool) (a m b : Nat) (d d' : Array α) : Prop where
  perm : PermIn a b d d'
  sort : ∀ R : α → α → Bool, SWO R → Ag lt R a m b d → SortedIn R a m d → SortedIn R m b d → SortedIn R a b d'
end
end Go.Proofs.Ytbhddfcdnpidkaa
