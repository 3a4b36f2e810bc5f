/-
  A stable sort by merging in place, plain: blocks in order, and blocks twice as long.
-/
import Derived.Test.YtbhddfcdnpidkaaU6
namespace Go.Proofs.Ytbhddfcdnpidkaa
set_option linter.unusedVariables false
open Go.Sort
variable {α : Type} [Inhabited α] {lt : α → α → Bool} {d D E : Array α} {n bs a : Nat}

/-- All blocks of bs are in order. -/
def AllB (lt : α → α → Bool) (bs n : Nat) (D : Array α) : Prop := ∀ q, SortedIn lt (q * bs) (min (q * bs + bs) n) D
/-- The first blocks of bs are in order, up to a. -/
structure Upto (lt : α → α → Bool) (bs n q a : Nat) (d D : Array α) : Prop where
  perm : PermIn 0 n d D
  at' : a = q * bs
  le : a ≤ n
  srt : ∀ q', q' < q → SortedIn lt (q' * bs) (q' * bs + bs) D
theorem qlt {q' q bs : Nat} (h : q' < q) : q' * bs + bs ≤ q * bs := by
  have := Nat.mul_le_mul_right bs (show q' + 1 ≤ q from h)
  rwa [Nat.add_mul, Nat.one_mul] at this
theorem qsucc (q bs : Nat) : (q + 1) * bs = q * bs + bs := by rw [Nat.add_mul, Nat.one_mul]
theorem Upto.start (d : Array α) : Upto lt bs n 0 0 d d := ⟨permIn_refl _ _ _, by rw [Nat.zero_mul], Nat.zero_le _, fun q' h => by omega⟩
theorem Upto.step {q : Nat} (h : Upto lt bs n q a d D) (hn : n ≤ d.size) (hb : a + bs ≤ n) (hp : PermIn a (a + bs) D E) (hs : SortedIn lt a (a + bs) E) : Upto lt bs n (q + 1) (a + bs) d E := ⟨permIn_trans _ _ _ _ _ h.perm (permIn_mono _ _ a (a + bs) 0 n (Nat.zero_le _) hb (by rw [h.perm.1]; exact hn) hp), by rw [qsucc, h.at'], hb, fun q' hq => by
  by_cases e : q' = q
  · subst e; rw [← h.at']; exact hs
  · have h2 := qlt (bs := bs) (show q' < q by omega)
    have h3 := h.at'
    intro i j h4 h5 h6
    rw [hp.2.1 i (by omega), hp.2.1 j (by omega)]
    exact h.srt q' (by omega) i j h4 h5 h6⟩
theorem Upto.all {q : Nat} (h : Upto lt bs n q a d D) (hn : n ≤ d.size) (hb : n < a + bs) (hp : PermIn a n D E) (hs : SortedIn lt a n E) : PermIn 0 n d E ∧ AllB lt bs n E := ⟨permIn_trans _ _ _ _ _ h.perm (permIn_mono _ _ a n 0 n (Nat.zero_le _) (Nat.le_refl _) (by rw [h.perm.1]; exact hn) hp), fun q' => by
  have h3 := h.at'
  rcases Nat.lt_trichotomy q' q with e | e | e
  · have h2 := qlt (bs := bs) e
    rw [show min (q' * bs + bs) n = q' * bs + bs by have := h.le; omega]
    intro i j h4 h5 h6
    rw [hp.2.1 i (by omega), hp.2.1 j (by omega)]
    exact h.srt q' e i j h4 h5 h6
  · subst e
    rw [← h3, show min (a + bs) n = n by omega]
    exact hs
  · have h2 := qlt (bs := bs) e
    intro i j h4 h5 h6
    omega⟩
theorem AllB.done (h : AllB lt bs n D) (hb : n ≤ bs) : SortedIn lt 0 n D := by
  have := h 0
  rwa [Nat.zero_mul, Nat.zero_add, Nat.min_eq_right hb] at this
/-- A pass over blocks of bs, so far: pairs below a are one block each. -/
structure Pass (lt : α → α → Bool) (bs n q a : Nat) (d D : Array α) : Prop where
  up : Upto lt (2 * bs) n q a d D
  rest : ∀ i j, a ≤ i → i < j → j < n → (∃ q', q' * bs ≤ i ∧ j < q' * bs + bs) → lt D[j]! D[i]! = false
theorem Pass.start (hp : PermIn 0 n d D) (h : AllB lt bs n D) : Pass lt bs n 0 0 d D := ⟨⟨hp, by rw [Nat.zero_mul], Nat.zero_le _, fun q' h => by omega⟩, fun i j _ h2 h3 ⟨q', h4, h5⟩ => h q' i j h4 h2 (by omega)⟩
theorem twice (q bs : Nat) : 2 * q * bs = q * (2 * bs) := by rw [Nat.mul_comm 2 q, Nat.mul_assoc]
theorem Pass.left {q : Nat} (h : Pass lt bs n q a d D) {e : Nat} (he : e ≤ a + bs) (hn : e ≤ n) : SortedIn lt a e D := fun i j h1 h2 h3 => by
  have h4 := h.up.at'
  have h5 := twice q bs
  exact h.rest i j h1 h2 (by omega) ⟨2 * q, by omega, by omega⟩
theorem Pass.right {q : Nat} (h : Pass lt bs n q a d D) {e : Nat} (he : e ≤ a + 2 * bs) (hn : e ≤ n) : SortedIn lt (a + bs) e D := fun i j h1 h2 h3 => by
  have h4 := h.up.at'
  have h5 := twice q bs
  have h6 := qsucc (2 * q) bs
  exact h.rest i j (by omega) h2 (by omega) ⟨2 * q + 1, by omega, by omega⟩
theorem Pass.step {q : Nat} (hO : SWO lt) (h : Pass lt bs n q a d D) (hn : n ≤ d.size) (hb : a + 2 * bs ≤ n) (hm : Mrg lt a (a + bs) (a + 2 * bs) D E) : Pass lt bs n (q + 1) (a + 2 * bs) d E := by
  have hs := hm.sort lt hO (fun _ _ _ _ _ _ => rfl) (h.left (Nat.le_refl _) (by omega)) (h.right (Nat.le_refl _) hb)
  refine ⟨h.up.step hn hb hm.perm hs, fun i j h1 h2 h3 h4 => ?_⟩
  rw [hm.perm.2.1 i (by omega), hm.perm.2.1 j (by omega)]
  exact h.rest i j (by omega) h2 h3 h4
theorem Pass.last {q : Nat} (hO : SWO lt) (h : Pass lt bs n q a d D) (hn : n ≤ d.size) (hb : n < a + 2 * bs) (hab : a + bs ≤ n) (hm : Mrg lt a (a + bs) n D E) : PermIn 0 n d E ∧ AllB lt (2 * bs) n E :=
  h.up.all hn hb hm.perm (hm.sort lt hO (fun _ _ _ _ _ _ => rfl) (h.left (Nat.le_refl _) hab) (h.right (by omega) (Nat.le_refl _)))
theorem Pass.end' {q : Nat} (h : Pass lt bs n q a d D) (hn : n ≤ d.size) (hb : n ≤ a + bs) (h0 : 0 < bs) : PermIn 0 n d D ∧ AllB lt (2 * bs) n D :=
  h.up.all hn (by omega) (permIn_refl _ _ _) (h.left hb (Nat.le_refl _))
end Go.Proofs.Ytbhddfcdnpidkaa
