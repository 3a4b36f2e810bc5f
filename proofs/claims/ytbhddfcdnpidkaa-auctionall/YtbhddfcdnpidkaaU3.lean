/-
  auction, plain: what nearest, the last and the first of the best ones come to.
-/
import Derived.Test.YtbhddfcdnpidkaaU2
namespace Go.Proofs.Ytbhddfcdnpidkaa
set_option linter.unusedVariables false

/-- The nearest, as it is walked. -/
def nearF (ref : Int) : List Pt → Pt → Pt
  | [], n => n
  | p :: l, n => nearF ref l (if far p.c ref ≤ far n.c ref then p else n)
def Nr (ref : Int) (r d : Pt) : Prop := far r.c ref < far d.c ref ∨ far r.c ref = far d.c ref ∧ d.c ≤ r.c
theorem nearF_spec {ref : Int} : ∀ {l : List Pt} {n : Pt}, (∀ p ∈ l, n.c ≤ p.c) → l.Pairwise (fun a b => a.c ≤ b.c) → (nearF ref l n = n ∨ nearF ref l n ∈ l) ∧ Nr ref (nearF ref l n) n ∧ ∀ d ∈ l, Nr ref (nearF ref l n) d
  | [], n, _, _ => ⟨.inl rfl, .inr ⟨rfl, Int.le_refl _⟩, fun d hd => by cases hd⟩
  | p :: l, n, h, hs => by
    rw [List.pairwise_cons] at hs
    have hn := h p List.mem_cons_self
    have hl : ∀ q ∈ l, (if far p.c ref ≤ far n.c ref then p else n).c ≤ q.c := fun q hq => by
      split
      · exact hs.1 q hq
      · exact h q (List.mem_cons_of_mem _ hq)
    obtain ⟨h1, h2, h3⟩ := nearF_spec (ref := ref) hl hs.2
    show (nearF ref l (if far p.c ref ≤ far n.c ref then p else n) = n ∨ nearF ref l (if far p.c ref ≤ far n.c ref then p else n) ∈ p :: l) ∧ Nr ref (nearF ref l (if far p.c ref ≤ far n.c ref then p else n)) n ∧ ∀ d ∈ p :: l, Nr ref (nearF ref l (if far p.c ref ≤ far n.c ref then p else n)) d
    by_cases e : far p.c ref ≤ far n.c ref
    · rw [if_pos e] at h1 h2 h3 ⊢
      refine ⟨?_, ?_, fun d hd => ?_⟩
      · rcases h1 with h1 | h1
        · rw [h1]; exact .inr List.mem_cons_self
        · exact .inr (List.mem_cons_of_mem _ h1)
      · unfold Nr at *; omega
      · rcases List.mem_cons.1 hd with rfl | hd
        · exact h2
        · exact h3 d hd
    · rw [if_neg e] at h1 h2 h3 ⊢
      refine ⟨?_, h2, fun d hd => ?_⟩
      · rcases h1 with h1 | h1
        · exact .inl h1
        · exact .inr (List.mem_cons_of_mem _ h1)
      · rcases List.mem_cons.1 hd with rfl | hd
        · unfold Nr at *; omega
        · exact h3 d hd
theorem bestL_sorted {l : List Pt} (h : l.Pairwise fun a b => a.c < b.c) : (bestL l).Pairwise fun a b => a.c < b.c := h.sublist List.filter_sublist
/-- What chosen gives. -/
def chsV (ref : Int) (l : List Pt) : Option Pt := if (∀ d ∈ l, d.sd = 1) then l.getLast? else if (∀ d ∈ l, d.sd = 2) then l.head? else match l.head? with
  | none => none
  | some n => some (nearF ref l n)
theorem chsV_spec {l : List Pt} {ref : Int} (h : l.Pairwise fun a b => a.c < b.c) {r : Pt} (hr : chsV ref (bestL l) = some r) : Chs l ref r := by
  have hs := bestL_sorted h
  obtain ⟨B, hB⟩ : ∃ B, B = bestL l := ⟨_, rfl⟩
  rw [← hB] at hs hr
  unfold Chs
  rw [← hB]
  unfold chsV at hr
  by_cases a1 : ∀ d ∈ B, d.sd = 1
  · rw [if_pos a1] at hr
    have hne : B ≠ [] := fun e => by rw [e] at hr; cases hr
    have hm : r ∈ B := List.mem_of_getLast? hr
    refine ⟨hm, fun _ d hd => ?_, fun h => absurd a1 h, fun h => absurd a1 h⟩
    obtain ⟨i, hi⟩ := List.getElem?_of_mem hd
    rw [List.getLast?_eq_getElem?] at hr
    obtain ⟨h1, h2⟩ := List.getElem?_eq_some_iff.1 hi
    obtain ⟨h3, h4⟩ := List.getElem?_eq_some_iff.1 hr
    by_cases e : i = B.length - 1
    · subst e
      rw [h2] at h4
      rw [h4]; exact Int.le_refl _
    · have := List.pairwise_iff_getElem.1 hs i (B.length - 1) h1 h3 (by omega)
      rw [h2, h4] at this
      omega
  · rw [if_neg a1] at hr
    by_cases a2 : ∀ d ∈ B, d.sd = 2
    · rw [if_pos a2] at hr
      cases B with
      | nil => cases hr
      | cons b B =>
        have e : b = r := by simpa using hr
        subst e
        rw [List.pairwise_cons] at hs
        refine ⟨List.mem_cons_self, fun h => absurd h a1, fun _ _ d hd => ?_, fun _ h => absurd a2 h⟩
        rcases List.mem_cons.1 hd with rfl | hd
        · exact Int.le_refl _
        · exact Int.le_of_lt (hs.1 d hd)
    · rw [if_neg a2] at hr
      cases B with
      | nil => cases hr
      | cons b B =>
        have e : nearF ref (b :: B) b = r := by simpa using hr
        subst e
        have hs2 := hs
        rw [List.pairwise_cons] at hs
        obtain ⟨h1, h2, h3⟩ := nearF_spec (ref := ref) (l := b :: B) (n := b) (fun p hp => by
          rcases List.mem_cons.1 hp with rfl | hp
          · exact Int.le_refl _
          · exact Int.le_of_lt (hs.1 p hp)) (hs2.imp fun h => Int.le_of_lt h)
        refine ⟨?_, fun h => absurd h a1, fun _ h => absurd h a2, fun _ _ d hd => h3 d hd⟩
        rcases h1 with h1 | h1
        · rw [h1]; exact List.mem_cons_self
        · exact h1
end Go.Proofs.Ytbhddfcdnpidkaa
