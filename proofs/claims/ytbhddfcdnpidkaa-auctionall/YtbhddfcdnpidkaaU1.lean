/-
  auction, plain: the best of the candidates, and the one that is chosen.
-/
import Derived.Test.YtbhddfcdnpidkaaU0
namespace Go.Proofs.Ytbhddfcdnpidkaa
set_option linter.unusedVariables false

structure Pt where
  c : Int
  x : Int
  y : Int
def Pt.tr (a : Pt) : Int := if a.x ≤ a.y then a.x else a.y
def Pt.ov (a : Pt) : Int := (if a.x ≤ a.y then a.y else a.x) - a.tr
def Pt.sd (a : Pt) : Int := if a.y < a.x then 1 else if a.x < a.y then 2 else 0
/-- At one more is traded, or as much and less is over. -/
abbrev Pt.lt (a b : Pt) : Prop := b.tr < a.tr ∨ a.tr = b.tr ∧ a.ov < b.ov
def bestL (l : List Pt) : List Pt := l.filter fun p => decide (0 < p.tr ∧ ∀ q ∈ l, ¬ q.lt p)
theorem bestL_mem {l : List Pt} {p : Pt} : p ∈ bestL l ↔ p ∈ l ∧ 0 < p.tr ∧ ∀ q ∈ l, ¬ q.lt p := by
  unfold bestL
  rw [List.mem_filter]
  simp
theorem filter_eq {l : List Pt} {f g : Pt → Bool} (h : ∀ p ∈ l, f p = g p) : l.filter f = l.filter g := by
  induction l with
  | nil => rfl
  | cons a l ih =>
    rw [List.filter_cons, List.filter_cons, h a List.mem_cons_self, ih fun p hp => h p (List.mem_cons_of_mem _ hp)]
theorem bestL_snoc (l : List Pt) (p : Pt) : bestL (l ++ [p]) = (bestL l).filter (fun b => decide (¬ p.lt b)) ++ if 0 < p.tr ∧ ∀ q ∈ l, ¬ q.lt p then [p] else [] := by
  unfold bestL
  rw [List.filter_append, List.filter_filter]
  congr 1
  · refine filter_eq fun b hb => ?_
    rw [← Bool.decide_and]
    refine decide_eq_decide.2 ⟨fun ⟨h1, h2⟩ => ⟨h2 p (by simp), h1, fun q hq => h2 q (by simp [hq])⟩, fun ⟨h1, h2, h3⟩ => ⟨h2, fun q hq => ?_⟩⟩
    rcases List.mem_append.1 hq with hq | hq
    · exact h3 q hq
    · rw [List.mem_singleton.1 hq]; exact h1
  · have hs : ¬ p.lt p := by unfold Pt.lt; omega
    have e : (0 < p.tr ∧ ∀ q ∈ l ++ [p], ¬ q.lt p) ↔ (0 < p.tr ∧ ∀ q ∈ l, ¬ q.lt p) := ⟨fun ⟨h1, h2⟩ => ⟨h1, fun q hq => h2 q (by simp [hq])⟩, fun ⟨h1, h2⟩ => ⟨h1, fun q hq => by
      rcases List.mem_append.1 hq with hq | hq
      · exact h2 q hq
      · rw [List.mem_singleton.1 hq]; exact hs⟩⟩
    have hd : (decide (0 < p.tr ∧ ∀ q ∈ l ++ [p], ¬ q.lt p)) = decide (0 < p.tr ∧ ∀ q ∈ l, ¬ q.lt p) := decide_eq_decide.2 e
    rw [List.filter_cons, List.filter_nil, hd]
    by_cases h : 0 < p.tr ∧ ∀ q ∈ l, ¬ q.lt p
    · rw [if_pos h, if_pos (decide_eq_true h)]
    · rw [if_neg h, if_neg (by simpa using h)]
theorem bestL_skip {l : List Pt} {p : Pt} (hl : ∀ q ∈ l, 0 ≤ q.tr) (h : p.tr = 0) : bestL (l ++ [p]) = bestL l := by
  rw [bestL_snoc, if_neg (by omega), List.append_nil]
  refine List.filter_eq_self.2 fun b hb => ?_
  obtain ⟨_, h1, _⟩ := bestL_mem.1 hb
  refine decide_eq_true ?_
  unfold Pt.lt
  omega
theorem bestL_worse {l : List Pt} {p b : Pt} (hb : b ∈ bestL l) (h : b.lt p) : bestL (l ++ [p]) = bestL l := by
  obtain ⟨h0, h1, h2⟩ := bestL_mem.1 hb
  rw [bestL_snoc, if_neg fun h3 => h3.2 b h0 h, List.append_nil]
  refine List.filter_eq_self.2 fun d hd => ?_
  obtain ⟨_, _, h4⟩ := bestL_mem.1 hd
  have := h4 b h0
  refine decide_eq_true ?_
  unfold Pt.lt at *
  omega
theorem bestL_better {l : List Pt} {p b : Pt} (hb : b ∈ bestL l) (hp : 0 < p.tr) (h : p.lt b) : bestL (l ++ [p]) = [p] := by
  obtain ⟨h0, h1, h2⟩ := bestL_mem.1 hb
  have e : (bestL l).filter (fun b => decide (¬ p.lt b)) = [] := by
    refine List.filter_eq_nil_iff.2 fun d hd => ?_
    obtain ⟨h3, _, h4⟩ := bestL_mem.1 hd
    have h5 := h4 b h0
    have h6 := h2 d h3
    have h7 : p.lt d := by unfold Pt.lt at *; omega
    simp [h7]
  rw [bestL_snoc, e, if_pos ⟨hp, fun q hq => by have := h2 q hq; unfold Pt.lt at *; omega⟩]
  rfl
theorem bestL_same {l : List Pt} {p b : Pt} (hb : b ∈ bestL l) (hp : 0 < p.tr) (h : ¬ p.lt b) (h' : ¬ b.lt p) : bestL (l ++ [p]) = bestL l ++ [p] := by
  obtain ⟨h0, h1, h2⟩ := bestL_mem.1 hb
  rw [bestL_snoc, if_pos ⟨hp, fun q hq => by have := h2 q hq; unfold Pt.lt at *; omega⟩]
  congr 1
  refine List.filter_eq_self.2 fun d hd => ?_
  obtain ⟨h3, _, h4⟩ := bestL_mem.1 hd
  have h5 := h4 b h0
  have h6 := h2 d h3
  refine decide_eq_true ?_
  unfold Pt.lt at *
  omega
theorem bestL_first {l : List Pt} {p : Pt} (hl : ∀ q ∈ l, q.tr = 0) (hp : 0 < p.tr) : bestL (l ++ [p]) = [p] := by
  have e : bestL l = [] := List.filter_eq_nil_iff.2 fun d hd => by have := hl d hd; simp; omega
  rw [bestL_snoc, e, if_pos ⟨hp, fun q hq => by have := hl q hq; unfold Pt.lt; omega⟩]
  rfl
/-- Where nothing is best, nothing is traded. -/
theorem bestL_none {l : List Pt} (hl : ∀ q ∈ l, 0 ≤ q.tr) (h : bestL l = []) : ∀ q ∈ l, q.tr = 0 := by
  have key : ∀ (n : Nat) (a : List Pt), a.length = n → (∀ q ∈ a, 0 ≤ q.tr) → bestL a = [] → ∀ q ∈ a, q.tr = 0 := by
    intro n
    induction n with
    | zero => intro a ha _ _ q hq; rw [List.length_eq_zero_iff.1 ha] at hq; cases hq
    | succ n ih =>
      intro a ha hn hb q hq
      have hne : a ≠ [] := fun e => by rw [e] at ha; cases ha
      obtain ⟨b, p, rfl⟩ : ∃ b p, a = b ++ [p] := ⟨a.dropLast, a.getLast hne, (List.dropLast_concat_getLast hne).symm⟩
      have hp0 : 0 ≤ p.tr := hn p (by simp)
      have hbn : ∀ q ∈ b, 0 ≤ q.tr := fun q hq => hn q (by simp [hq])
      by_cases e : bestL b = []
      · have h0 := ih b (by simpa using ha) hbn e
        by_cases hp : p.tr = 0
        · rcases List.mem_append.1 hq with hq | hq
          · exact h0 q hq
          · rw [List.mem_singleton.1 hq]; exact hp
        · rw [bestL_first h0 (by omega)] at hb; cases hb
      · exfalso
        obtain ⟨d, hd⟩ := List.exists_mem_of_ne_nil _ e
        by_cases hp : p.tr = 0
        · rw [bestL_skip hbn hp] at hb; exact e hb
        · by_cases h1 : p.lt d
          · rw [bestL_better hd (by omega) h1] at hb; cases hb
          · by_cases h2 : d.lt p
            · rw [bestL_worse hd h2] at hb; exact e hb
            · rw [bestL_same hd (by omega) h1 h2] at hb; simp at hb
  exact key l.length l rfl hl h
/-- The one that is chosen of the best ones. -/
def far (a b : Int) : Int := if a - b ≤ b - a then b - a else a - b
def Chs (l : List Pt) (ref : Int) (c : Pt) : Prop := c ∈ bestL l ∧ ((∀ d ∈ bestL l, d.sd = 1) → ∀ d ∈ bestL l, d.c ≤ c.c) ∧ (¬ (∀ d ∈ bestL l, d.sd = 1) → (∀ d ∈ bestL l, d.sd = 2) → ∀ d ∈ bestL l, c.c ≤ d.c) ∧ (¬ (∀ d ∈ bestL l, d.sd = 1) → ¬ (∀ d ∈ bestL l, d.sd = 2) → ∀ d ∈ bestL l, far c.c ref < far d.c ref ∨ far c.c ref = far d.c ref ∧ d.c ≤ c.c)
/-- It hangs on the points alone, not on their order. -/
theorem Chs.uniq {l k : List Pt} {ref : Int} {c d : Pt} (hm : ∀ p, p ∈ l ↔ p ∈ k) (h : Chs l ref c) (h' : Chs k ref d) (hf : ∀ p ∈ l, ∀ q ∈ l, p.c = q.c → p = q) : c = d := by
  have hb : ∀ p, p ∈ bestL l ↔ p ∈ bestL k := fun p => by
    rw [bestL_mem, bestL_mem, hm p]
    exact ⟨fun ⟨a, b, c⟩ => ⟨a, b, fun q hq => c q ((hm q).2 hq)⟩, fun ⟨a, b, c⟩ => ⟨a, b, fun q hq => c q ((hm q).1 hq)⟩⟩
  obtain ⟨h1, h2, h3, h4⟩ := h
  obtain ⟨k1, k2, k3, k4⟩ := h'
  have e1 : (∀ d ∈ bestL l, d.sd = 1) ↔ ∀ d ∈ bestL k, d.sd = 1 := ⟨fun a d hd => a d ((hb d).2 hd), fun a d hd => a d ((hb d).1 hd)⟩
  have e2 : (∀ d ∈ bestL l, d.sd = 2) ↔ ∀ d ∈ bestL k, d.sd = 2 := ⟨fun a d hd => a d ((hb d).2 hd), fun a d hd => a d ((hb d).1 hd)⟩
  refine hf c (bestL_mem.1 h1).1 d (bestL_mem.1 ((hb d).2 k1)).1 ?_
  by_cases a1 : ∀ d ∈ bestL l, d.sd = 1
  · have := h2 a1 d ((hb d).2 k1)
    have := k2 (e1.1 a1) c ((hb c).1 h1)
    omega
  · have b1 := fun e => a1 (e1.2 e)
    by_cases a2 : ∀ d ∈ bestL l, d.sd = 2
    · have := h3 a1 a2 d ((hb d).2 k1)
      have := k3 b1 (e2.1 a2) c ((hb c).1 h1)
      omega
    · have := h4 a1 a2 d ((hb d).2 k1)
      have := k4 b1 (fun e => a2 (e2.2 e)) c ((hb c).1 h1)
      omega
end Go.Proofs.Ytbhddfcdnpidkaa
