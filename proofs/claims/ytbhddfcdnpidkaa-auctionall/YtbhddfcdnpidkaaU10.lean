/-
  A stable sort by merging in place, plain: it is stable: by tags that say where each stood at first.
-/
import Derived.Test.YtbhddfcdnpidkaaU7
import Derived.Sort.LotA
namespace Go.Proofs.Ytbhddfcdnpidkaa
set_option linter.unusedVariables false
set_option linter.unusedSectionVars false
open Go.Sort
variable {α : Type} [Inhabited α] {lt R : α → α → Bool} {tg : α → Nat} {d D E : Array α} {n bs a : Nat}

theorem insInner_perm (lt : α → α → Bool) (a b : Nat) : ∀ (j : Nat) (d : Array α), a ≤ j → j < b → b ≤ d.size → PermIn a b d (insInner lt a j d)
  | 0, d, _, _, _ => by unfold insInner; exact permIn_refl _ _ _
  | j + 1, d, haj, hjb, hb => by
    unfold insInner
    split
    · rename_i hc
      simp only [Bool.and_eq_true, decide_eq_true_eq] at hc
      exact permIn_trans _ _ _ a b (swp_permIn d a b (j + 1) j haj (by omega) (by omega) (by omega) hb) (insInner_perm lt a b j _ (by omega) (by omega) (by rw [size_swp]; exact hb))
    · exact permIn_refl _ _ _
theorem insInner_eq (a : Nat) : ∀ (j : Nat) (d : Array α), j < d.size → (∀ p, a ≤ p → p < j → lt d[j]! d[p]! = R d[j]! d[p]!) → insInner lt a j d = insInner R a j d
  | 0, d, _, _ => by unfold insInner; rfl
  | j + 1, d, hs, h => by
    unfold insInner
    by_cases hja : j + 1 > a
    · rw [h j (by omega) (by omega)]
      split
      · refine insInner_eq a j _ (by rw [size_swp]; omega) fun p hp hpj => ?_
        rw [swp_right d (j + 1) j (by omega), swp_other d (j + 1) j p (by omega) (by omega)]
        exact h p hp (by omega)
      · rfl
    · rw [if_neg (by simp [hja]), if_neg (by simp [hja])]
theorem insOuter_eq (hag : ∀ x y, tg x < tg y → lt y x = R y x) (a b : Nat) : ∀ (m i : Nat) (d : Array α), b - i = m → a < i → b ≤ d.size → (∀ p q, a ≤ p → p < q → i ≤ q → q < b → tg d[p]! < tg d[q]!) → insOuter lt a b i d = insOuter R a b i d
  | 0, i, d, hn, _, _, _ => by rw [insOuter, if_neg (by omega), insOuter, if_neg (by omega)]
  | m + 1, i, d, hn, hai, hb, h => by
    have hlt : i < b := by omega
    rw [insOuter, if_pos hlt]
    conv => rhs; rw [insOuter, if_pos hlt]
    have e : insInner lt a i d = insInner R a i d := insInner_eq a i d (by omega) fun p hp hpi => hag _ _ (h p i hp hpi (Nat.le_refl _) hlt)
    rw [e]
    have hp := insInner_perm R a (i + 1) i d (by omega) (by omega) (by omega)
    refine insOuter_eq hag a b m (i + 1) _ (by omega) (by omega) (by rw [hp.1]; exact hb) fun p q hp' hpq hiq hqb => ?_
    rw [hp.2.1 q (Or.inr hiq)]
    by_cases hpi : i + 1 ≤ p
    · rw [hp.2.1 p (.inr hpi)]
      exact h p q hp' hpq (by omega) hqb
    · exact permIn_all d _ a (i + 1) (fun x => tg x < tg d[q]!) (by omega) hp (fun p hp1 hp2 => h p q hp1 (by omega) (by omega) hqb) p hp' (by omega)
theorem ins_stable (hR : SWO R) (hag : ∀ x y, tg x < tg y → lt y x = R y x) {a b : Nat} {D : Array α} (hab : a ≤ b) (hb : b ≤ D.size) (ht : ∀ p q, a ≤ p → p < q → q < b → tg D[p]! < tg D[q]!) : PermIn a b D (insertionSort lt D a b) ∧ SortedIn R a b (insertionSort lt D a b) := by
  have e : insertionSort lt D a b = insertionSort R D a b := insOuter_eq hag a b _ (a + 1) D rfl (by omega) hb fun p q h1 h2 _ h4 => ht p q h1 h2 h4
  rw [e]
  exact insertionSort_holds hR D a b hab hb
theorem divq {i q bs : Nat} (h1 : q * bs ≤ i) (h2 : i < q * bs + bs) : i / bs = q := Nat.div_eq_of_lt_le h1 (by rw [Nat.add_mul, Nat.one_mul]; exact h2)
theorem div_lt {x y bs : Nat} (h : x / bs < y / bs) : x < y := by
  rcases Nat.lt_or_ge x y with h1 | h1
  · exact h1
  · have := Nat.div_le_div_right (c := bs) h1
    omega
structure UptoT (R : α → α → Bool) (tg : α → Nat) (bs n q a : Nat) (d D : Array α) : Prop where
  perm : PermIn 0 n d D
  at' : a = q * bs
  le : a ≤ n
  srt : ∀ q', q' < q → SortedIn R (q' * bs) (q' * bs + bs) D
  tag : ∀ i, i < a → tg D[i]! / bs = i / bs
/-- All blocks of bs are in order, each of what stood in it at first. -/
structure AllBT (R : α → α → Bool) (tg : α → Nat) (bs n : Nat) (D : Array α) : Prop where
  srt : ∀ q, SortedIn R (q * bs) (min (q * bs + bs) n) D
  tag : ∀ i, i < n → tg D[i]! / bs = i / bs
theorem UptoT.step {q : Nat} (h : UptoT R tg bs n q a d D) (hn : n ≤ d.size) (hb : a + bs ≤ n) (hp : PermIn a (a + bs) D E) (hs : SortedIn R a (a + bs) E) (ht : ∀ i, a ≤ i → i < a + bs → tg D[i]! / bs = q) : UptoT R tg bs n (q + 1) (a + bs) d E := ⟨permIn_trans _ _ _ _ _ h.perm (permIn_mono _ _ a (a + bs) 0 n (Nat.zero_le _) hb (by rw [h.perm.1]; exact hn) hp), by rw [qsucc, h.at'], hb, fun q' hq => by
  by_cases e : q' = q
  · subst e; rw [← h.at']; exact hs
  · have h2 := qlt (bs := bs) (show q' < q by omega)
    have h3 := h.at'
    intro i j h4 h5 h6
    rw [hp.2.1 i (by omega), hp.2.1 j (by omega)]
    exact h.srt q' (by omega) i j h4 h5 h6, fun i hi => by
  have h3 := h.at'
  by_cases hia : i < a
  · rw [hp.2.1 i (by omega)]
    exact h.tag i hia
  · rw [permIn_all D E a (a + bs) (fun x => tg x / bs = q) (by rw [h.perm.1]; omega) hp ht i (by omega) hi]
    exact (divq (by omega) (by omega)).symm⟩
theorem UptoT.all {q : Nat} (h : UptoT R tg bs n q a d D) (hn : n ≤ d.size) (hb : n < a + bs) (hp : PermIn a n D E) (hs : SortedIn R a n E) (ht : ∀ i, a ≤ i → i < n → tg D[i]! / bs = q) : PermIn 0 n d E ∧ AllBT R tg bs n E := ⟨permIn_trans _ _ _ _ _ h.perm (permIn_mono _ _ a n 0 n (Nat.zero_le _) (Nat.le_refl _) (by rw [h.perm.1]; exact hn) hp), fun q' => by
  have h3 := h.at'
  rcases Nat.lt_trichotomy q' q with e | e | e
  · have h2 := qlt (bs := bs) e
    rw [show min (q' * bs + bs) n = q' * bs + bs by have := h.le; omega]
    intro i j h4 h5 h6
    rw [hp.2.1 i (by omega), hp.2.1 j (by omega)]
    exact h.srt q' e i j h4 h5 h6
  · subst e
    rw [← h3, show min (a + bs) n = n by omega]
    exact hs
  · have h2 := qlt (bs := bs) e
    intro i j h4 h5 h6
    omega, fun i hi => by
  have h3 := h.at'
  by_cases hia : i < a
  · rw [hp.2.1 i (by omega)]
    exact h.tag i hia
  · rw [permIn_all D E a n (fun x => tg x / bs = q) (by rw [h.perm.1]; omega) hp ht i (by omega) hi]
    exact (divq (by omega) (by omega)).symm⟩
theorem AllBT.done (h : AllBT R tg bs n D) (hb : n ≤ bs) : SortedIn R 0 n D := by
  have := h.srt 0
  rwa [Nat.zero_mul, Nat.zero_add, Nat.min_eq_right hb] at this
/-- The first pass: blocks of bs are put in order one by one; what is behind them is as it was. -/
structure U0T (R : α → α → Bool) (tg : α → Nat) (bs n q a : Nat) (d D : Array α) : Prop where
  up : UptoT R tg bs n q a d D
  rest : ∀ i, a ≤ i → D[i]! = d[i]!
theorem U0T.start (R : α → α → Bool) (tg : α → Nat) (bs n : Nat) (d : Array α) : U0T R tg bs n 0 0 d d := ⟨⟨permIn_refl _ _ _, by rw [Nat.zero_mul], Nat.zero_le _, fun q' h => by omega, fun i hi => by omega⟩, fun i _ => rfl⟩
theorem U0T.step {q : Nat} (hR : SWO R) (hag : ∀ x y, tg x < tg y → lt y x = R y x) (ht : ∀ i, i < n → tg d[i]! = i) (h : U0T R tg bs n q a d D) (hn : n ≤ d.size) (hb : a + bs ≤ n) : U0T R tg bs n (q + 1) (a + bs) d (insertionSort lt D a (a + bs)) ∧ (insertionSort lt D a (a + bs)).size = d.size := by
  have hsz := h.up.perm.1
  have h3 := h.up.at'
  have hi := ins_stable hR hag (a := a) (b := a + bs) (D := D) (by omega) (by omega) fun p q' h1 h2 h4 => by
    rw [h.rest p h1, h.rest q' (by omega), ht p (by omega), ht q' (by omega)]
    exact h2
  refine ⟨⟨h.up.step hn hb hi.1 hi.2 fun i h1 h2 => ?_, fun i h1 => ?_⟩, hi.1.1.trans hsz⟩
  · rw [h.rest i h1, ht i (by omega)]
    exact divq (by omega) (by omega)
  · rw [hi.1.2.1 i (by omega)]
    exact h.rest i (by omega)
theorem U0T.fin {q : Nat} (hR : SWO R) (hag : ∀ x y, tg x < tg y → lt y x = R y x) (ht : ∀ i, i < n → tg d[i]! = i) (h : U0T R tg bs n q a d D) (hn : n ≤ d.size) (hb : n < a + bs) : PermIn 0 n d (insertionSort lt D a n) ∧ AllBT R tg bs n (insertionSort lt D a n) ∧ (insertionSort lt D a n).size = d.size := by
  have hsz := h.up.perm.1
  have h3 := h.up.at'
  have hle := h.up.le
  have hi := ins_stable hR hag (a := a) (b := n) (D := D) hle (by omega) fun p q' h1 h2 h4 => by
    rw [h.rest p h1, h.rest q' (by omega), ht p (by omega), ht q' (by omega)]
    exact h2
  have := h.up.all hn hb hi.1 hi.2 fun i h1 h2 => by
    rw [h.rest i h1, ht i h2]
    exact divq (by omega) (by omega)
  exact ⟨this.1, this.2, hi.1.1.trans hsz⟩
/-- A pass over blocks of bs, so far: pairs below a are one block each. -/
structure PassT (R : α → α → Bool) (tg : α → Nat) (bs n q a : Nat) (d D : Array α) : Prop where
  up : UptoT R tg (2 * bs) n q a d D
  rest : ∀ i j, a ≤ i → i < j → j < n → (∃ q', q' * bs ≤ i ∧ j < q' * bs + bs) → R D[j]! D[i]! = false
  tag : ∀ i, a ≤ i → i < n → tg D[i]! / bs = i / bs
theorem PassT.start (hp : PermIn 0 n d D) (h : AllBT R tg bs n D) : PassT R tg bs n 0 0 d D := ⟨⟨hp, by rw [Nat.zero_mul], Nat.zero_le _, fun q' h => by omega, fun i hi => by omega⟩, fun i j _ h2 h3 ⟨q', h4, h5⟩ => h.srt q' i j h4 h2 (by omega), fun i _ hi => h.tag i hi⟩
theorem PassT.left {q : Nat} (h : PassT R tg bs n q a d D) {e : Nat} (he : e ≤ a + bs) (hn : e ≤ n) : SortedIn R a e D := fun i j h1 h2 h3 => by
  have h4 := h.up.at'
  have h5 := twice q bs
  exact h.rest i j h1 h2 (by omega) ⟨2 * q, by omega, by omega⟩
theorem PassT.right {q : Nat} (h : PassT R tg bs n q a d D) {e : Nat} (he : e ≤ a + 2 * bs) (hn : e ≤ n) : SortedIn R (a + bs) e D := fun i j h1 h2 h3 => by
  have h4 := h.up.at'
  have h5 := twice q bs
  have h6 := qsucc (2 * q) bs
  exact h.rest i j (by omega) h2 (by omega) ⟨2 * q + 1, by omega, by omega⟩
theorem PassT.ag {q e : Nat} (hag : ∀ x y, tg x < tg y → lt y x = R y x) (h : PassT R tg bs n q a d D) (he : e ≤ a + 2 * bs) (hn : e ≤ n) : Ag lt R a (a + bs) e D := fun i j h1 h2 h3 h4 => by
  have k4 := h.up.at'
  have h5 := twice q bs
  have h6 := qsucc (2 * q) bs
  refine hag _ _ (div_lt (bs := bs) ?_)
  rw [h.tag i h1 (by omega), h.tag j (by omega) (by omega), divq (q := 2 * q) (by omega) (by omega), divq (q := 2 * q + 1) (i := j) (by omega) (by omega)]
  omega
theorem PassT.tag2 {q i : Nat} (h : PassT R tg bs n q a d D) (h1 : a ≤ i) (h2 : i < a + 2 * bs) (h3 : i < n) : tg D[i]! / (2 * bs) = q := by
  have k4 := h.up.at'
  rw [Nat.mul_comm 2 bs, ← Nat.div_div_eq_div_mul, h.tag i h1 h3, Nat.div_div_eq_div_mul, Nat.mul_comm bs 2]
  exact divq (by omega) (by omega)
theorem PassT.step {q : Nat} (hR : SWO R) (hag : ∀ x y, tg x < tg y → lt y x = R y x) (h : PassT R tg bs n q a d D) (hn : n ≤ d.size) (hb : a + 2 * bs ≤ n) (hm : Mrg lt a (a + bs) (a + 2 * bs) D E) : PassT R tg bs n (q + 1) (a + 2 * bs) d E := by
  have hs := hm.sort R hR (h.ag hag (Nat.le_refl _) hb) (h.left (Nat.le_refl _) (by omega)) (h.right (Nat.le_refl _) hb)
  refine ⟨h.up.step hn hb hm.perm hs fun i h1 h2 => h.tag2 h1 h2 (by omega), fun i j h1 h2 h3 h4 => ?_, fun i h1 h2 => ?_⟩
  · rw [hm.perm.2.1 i (by omega), hm.perm.2.1 j (by omega)]
    exact h.rest i j (by omega) h2 h3 h4
  · rw [hm.perm.2.1 i (by omega)]
    exact h.tag i (by omega) h2
theorem PassT.last {q : Nat} (hR : SWO R) (hag : ∀ x y, tg x < tg y → lt y x = R y x) (h : PassT R tg bs n q a d D) (hn : n ≤ d.size) (hb : n < a + 2 * bs) (hab : a + bs ≤ n) (hm : Mrg lt a (a + bs) n D E) : PermIn 0 n d E ∧ AllBT R tg (2 * bs) n E :=
  h.up.all hn hb hm.perm (hm.sort R hR (h.ag hag (by omega) (Nat.le_refl _)) (h.left (Nat.le_refl _) hab) (h.right (by omega) (Nat.le_refl _))) fun i h1 h2 => h.tag2 h1 (by omega) h2
theorem PassT.end' {q : Nat} (h : PassT R tg bs n q a d D) (hn : n ≤ d.size) (hb : n ≤ a + bs) (h0 : 0 < bs) : PermIn 0 n d D ∧ AllBT R tg (2 * bs) n D :=
  h.up.all hn (by omega) (permIn_refl _ _ _) (h.left hb (Nat.le_refl _)) fun i h1 h2 => h.tag2 h1 (by omega) h2
end Go.Proofs.Ytbhddfcdnpidkaa
