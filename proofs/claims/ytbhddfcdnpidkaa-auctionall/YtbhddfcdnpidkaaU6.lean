/-
  A stable sort by merging in place, plain: the searches.
-/
import Derived.Test.YtbhddfcdnpidkaaU5
namespace Go.Proofs.Ytbhddfcdnpidkaa
set_option linter.unusedVariables false
open Go.Sort
variable {α : Type} [Inhabited α] {lt : α → α → Bool} {d : Array α} {a m b : Nat}

def Sc1 (lt : α → α → Bool) (a m b : Nat) (d : Array α) (i j : Nat) : Prop := ∀ R, SWO R → Ag lt R a m b d → SortedIn R a m d → SortedIn R m b d → (∀ h, m ≤ h → h < i → R d[h]! d[a]! = true) ∧ ∀ h, j ≤ h → h < b → R d[h]! d[a]! = false
def Sc2 (lt : α → α → Bool) (a m b : Nat) (d : Array α) (i j : Nat) : Prop := ∀ R, SWO R → Ag lt R a m b d → SortedIn R a m d → SortedIn R m b d → (∀ h, a ≤ h → h < i → R d[m]! d[h]! = false) ∧ ∀ h, j ≤ h → h < m → R d[m]! d[h]! = true
def Sc3 (lt : α → α → Bool) (a m b : Nat) (d : Array α) (p lo s r hi : Nat) : Prop := ∀ R, SWO R → Ag lt R a m b d → SortedIn R a m d → SortedIn R m b d → (∀ c, lo ≤ c → c < s → R d[p - c]! d[c]! = false) ∧ ∀ c, r ≤ c → c < hi → R d[p - c]! d[c]! = true
theorem Sc1.start : Sc1 lt a m b d m b := fun R hR _ _ _ => ⟨fun h h1 h2 => by omega, fun h h1 h2 => by omega⟩
theorem Sc1.up {i j h : Nat} (H : Sc1 lt a m b d i j) (ham : a < m) (hi : m ≤ h) (hj : h < b) (hv : lt d[h]! d[a]! = true) : Sc1 lt a m b d (h + 1) j := fun R hR hag hl hr => by
  obtain ⟨h1, h2⟩ := H R hR hag hl hr
  refine ⟨fun x hx hy => ?_, h2⟩
  rw [hag a h (Nat.le_refl _) ham hi hj] at hv
  cases e : R d[x]! d[a]! with
  | true => rfl
  | false => have := le_trans' hR e (sle hR hr hx (by omega) hj); rw [this] at hv; cases hv
theorem Sc1.down {i j h : Nat} (H : Sc1 lt a m b d i j) (ham : a < m) (hi : m ≤ h) (hj : h < b) (hv : lt d[h]! d[a]! = false) : Sc1 lt a m b d i h := fun R hR hag hl hr => by
  obtain ⟨h1, h2⟩ := H R hR hag hl hr
  rw [hag a h (Nat.le_refl _) ham hi hj] at hv
  exact ⟨h1, fun x hx hy => le_trans' hR hv (sle hR hr hi hx hy)⟩
theorem Sc2.start : Sc2 lt a m b d a m := fun R hR _ _ _ => ⟨fun h h1 h2 => by omega, fun h h1 h2 => by omega⟩
theorem Sc2.up {i j h : Nat} (H : Sc2 lt a m b d i j) (hmb : m < b) (hi : a ≤ h) (hj : h < m) (hv : lt d[m]! d[h]! = false) : Sc2 lt a m b d (h + 1) j := fun R hR hag hl hr => by
  obtain ⟨h1, h2⟩ := H R hR hag hl hr
  rw [hag h m hi hj (Nat.le_refl _) hmb] at hv
  exact ⟨fun x hx hy => le_trans' hR (sle hR hl hx (by omega) hj) hv, h2⟩
theorem Sc2.down {i j h : Nat} (H : Sc2 lt a m b d i j) (hmb : m < b) (hi : a ≤ h) (hj : h < m) (hv : lt d[m]! d[h]! = true) : Sc2 lt a m b d i h := fun R hR hag hl hr => by
  obtain ⟨h1, h2⟩ := H R hR hag hl hr
  rw [hag h m hi hj (Nat.le_refl _) hmb] at hv
  refine ⟨h1, fun x hx hy => ?_⟩
  cases e : R d[m]! d[x]! with
  | true => rfl
  | false => have := le_trans' hR (sle hR hl hi hx hy) e; rw [this] at hv; cases hv
theorem Sc3.start {p lo hi : Nat} : Sc3 lt a m b d p lo lo hi hi := fun R hR _ _ _ => ⟨fun h h1 h2 => by omega, fun h h1 h2 => by omega⟩
theorem Sc3.up {p lo s r hi c : Nat} (H : Sc3 lt a m b d p lo s r hi) (hlo : a ≤ lo) (hhi : hi ≤ m) (hpl : p - lo < b) (hph : m + hi ≤ p + 1) (h1 : lo ≤ c) (h2 : c < hi) (hv : lt d[p - c]! d[c]! = false) : Sc3 lt a m b d p lo (c + 1) r hi := fun R hR hag hl hr => by
  obtain ⟨k1, k2⟩ := H R hR hag hl hr
  rw [hag c (p - c) (by omega) (by omega) (by omega) (by omega)] at hv
  exact ⟨fun x hx hy => cut_lo hR hl hr hv (by omega) (by omega) (by omega) (by omega) (by omega), k2⟩
theorem Sc3.down {p lo s r hi c : Nat} (H : Sc3 lt a m b d p lo s r hi) (hlo : a ≤ lo) (hhi : hi ≤ m) (hpl : p - lo < b) (hph : m + hi ≤ p + 1) (h1 : lo ≤ c) (h2 : c < hi) (hv : lt d[p - c]! d[c]! = true) : Sc3 lt a m b d p lo s c hi := fun R hR hag hl hr => by
  obtain ⟨k1, k2⟩ := H R hR hag hl hr
  rw [hag c (p - c) (by omega) (by omega) (by omega) (by omega)] at hv
  exact ⟨k1, fun x hx hy => cut_hi hR hl hr hv (by omega) (by omega) (by omega) (by omega) (by omega)⟩
theorem mrg_left {d' : Array α} {i : Nat} (hm : m = a + 1) (hi : m ≤ i) (hib : i ≤ b) (h : Rot d d' a m i) (hp : PermIn a b d d') (H : Sc1 lt a m b d i i) : Mrg lt a m b d d' := ⟨hp, fun R hR hag hl hr => by
  obtain ⟨h1, h2⟩ := H R hR hag hl hr
  subst hm
  exact one_left hR h hi hib hr h1 h2⟩
theorem mrg_right {d' : Array α} {i : Nat} (hb : b = m + 1) (hi : a ≤ i) (him : i ≤ m) (h : Rot d d' i m b) (hp : PermIn a b d d') (H : Sc2 lt a m b d i i) : Mrg lt a m b d d' := ⟨hp, fun R hR hag hl hr => by
  obtain ⟨h1, h2⟩ := H R hR hag hl hr
  subst hb
  exact one_right hR h hi him hl h1 h2⟩
/-- The whole of it, out of its three steps. -/
theorem mrg_all {d1 d2 d3 : Array α} {lo hi p s e mid : Nat} (ham : a < m) (hmb : m < b) (hb : b ≤ d.size) (h : Rot d d1 s m e) (hp1 : PermIn a b d d1) (H : Sc3 lt a m b d p lo s s hi) (has : a ≤ s) (hsm : s ≤ m) (hme : m ≤ e) (heb : e ≤ b) (hmid : s + (e - m) = mid) (hlo : a ≤ lo) (hls : lo ≤ s) (hsh : s ≤ hi) (hhm : hi ≤ m) (hp : p + 1 = s + e) (hph : m + hi ≤ p + 1) (e1 : lo = a ∨ p - lo + 1 = b) (e2 : hi = m ∨ p + 1 - hi = m) (hpl : p - lo < b)
    (m1 : a < s ∧ s < mid → Mrg lt a s mid d1 d2) (n1 : ¬ (a < s ∧ s < mid) → d2 = d1) (m2 : mid < e ∧ e < b → Mrg lt mid e b d2 d3) (n2 : ¬ (mid < e ∧ e < b) → d3 = d2) : Mrg lt a m b d d3 := by
  have p1 : PermIn a mid d1 d2 := by
    by_cases c : a < s ∧ s < mid
    · exact (m1 c).perm
    · rw [n1 c]; exact permIn_refl _ _ _
  have p2 : PermIn mid b d2 d3 := by
    by_cases c : mid < e ∧ e < b
    · exact (m2 c).perm
    · rw [n2 c]; exact permIn_refl _ _ _
  have z1 : d1.size = d.size := hp1.1
  have z2 : d2.size = d1.size := p1.1
  have q1 : a ≤ mid := by omega
  have q2 : mid ≤ b := by omega
  refine ⟨permIn_trans _ _ _ a b (permIn_trans _ _ _ a b hp1 (permIn_mono _ _ a mid a b (Nat.le_refl _) q2 (by omega) p1)) (permIn_mono _ _ mid b a b q1 (Nat.le_refl _) (by omega) p2), fun R hR hag hl hr => ?_⟩
  obtain ⟨k1, k2⟩ := H R hR hag hl hr
  have C := rot_cut hR (lt := lt) h hl hr hag has hsm hme heb hmid hlo hls hsh hhm hp hph e1 e2 hpl k1 k2
  have s1 : SortedIn R a mid d2 := by
    by_cases c : a < s ∧ s < mid
    · exact (m1 c).sort R hR C.ag1 C.s1 C.s2
    · rw [n1 c]
      by_cases c1 : a < s
      · have e : s = mid := by omega
        rw [← e]; exact C.s1
      · have e : a = s := by omega
        rw [e]; exact C.s2
  have s2 : SortedIn R mid b d3 := by
    have fr : ∀ i, mid ≤ i → d2[i]! = d1[i]! := fun i hi => p1.2.1 i (.inr hi)
    by_cases c : mid < e ∧ e < b
    · refine (m2 c).sort R hR (fun i j h1 h2 h3 h4 => ?_) (fun i j h1 h2 h3 => ?_) (fun i j h1 h2 h3 => ?_)
      · rw [fr i h1, fr j (by omega)]; exact C.ag2 i j h1 h2 h3 h4
      · rw [fr i h1, fr j (by omega)]; exact C.s3 i j h1 h2 h3
      · rw [fr i (by omega), fr j (by omega)]; exact C.s4 i j h1 h2 h3
    · rw [n2 c]
      intro i j h1 h2 h3
      rw [fr i h1, fr j (by omega)]
      by_cases c1 : mid < e
      · exact C.s3 i j h1 h2 (by omega)
      · exact C.s4 i j (by omega) h2 h3
  exact C.done hR q1 q2 (by omega) p1 p2 s1 s2
end Go.Proofs.Ytbhddfcdnpidkaa
