/-
  HeapSorts, plain: what comes is the same each time, each once, by the order.
-/
import Derived.Test.YtdnhhcbabdoomaaHRange
namespace Go.Proofs.Ytdnhhcbabdoomaa
set_option linter.unusedVariables false
set_option linter.unusedSimpArgs false

section
variable {lt : Th → Th → Bool} {xs : List Th}
theorem PopTo.det {p r q s : List Th} (h : PopTo lt xs p r) (k : PopTo lt xs q s) (hl : p.length = q.length) : p = q ∧ r = s := by
  refine PopTo.ind (lt := lt) (xs := xs) (motive := fun p r => ∀ q s, PopTo lt xs q s → p.length = q.length → p = q ∧ r = s) ?_ ?_ _ p r rfl h q s k hl
  · intro q s k hl
    rcases k.inv with ⟨rfl, rfl⟩ | ⟨pre, rest, m, x, rfl, rfl, _⟩
    · exact ⟨rfl, rfl⟩
    · simp at hl
  · intro pre rest m x h hm hx ih q s k hl
    rcases k.inv with ⟨rfl, rfl⟩ | ⟨pre', rest', m', x', rfl, rfl, k1, hm', hx'⟩
    · simp at hl
    · simp only [List.length_append, List.length_singleton, Nat.add_right_cancel_iff] at hl
      obtain ⟨e1, e2⟩ := ih pre' rest' k1 hl
      subst e1 e2
      have em := hm.uniq hm'
      subst em
      rw [hx] at hx'
      injection hx' with hx'
      subst hx'
      exact ⟨rfl, rfl⟩
theorem PopTo.take {p r : List Th} (h : PopTo lt xs p r) (i : Nat) (hi : i ≤ p.length) : ∃ s, PopTo lt xs (p.take i) s := by
  refine PopTo.ind (lt := lt) (xs := xs) (motive := fun p r => i ≤ p.length → ∃ s, PopTo lt xs (p.take i) s) ?_ ?_ _ p r rfl h hi
  · intro _; exact ⟨xs, by rw [List.take_nil]; exact PopTo.nil⟩
  · intro pre rest m x h hm hx ih hi
    by_cases e : i ≤ pre.length
    · rw [List.take_append_of_le_length e]; exact ih e
    · rw [List.length_append, List.length_singleton] at hi
      have : i = (pre ++ [x]).length := by rw [List.length_append, List.length_singleton]; omega
      rw [this, List.take_length]
      exact ⟨_, h.snoc hm hx⟩
/-- The next one that comes is the next one that came. -/
theorem PopTo.next {l : List Th} (hl : PopTo lt xs l []) {i : Nat} {rest rest' : List Th} {x : Th} (h : PopTo lt xs (l.take i ++ [x]) rest') (hi : i < l.length) : l[i]? = some x := by
  obtain ⟨s, hs⟩ := hl.take (i + 1) (by omega)
  have hlen : (l.take i ++ [x]).length = (l.take (i + 1)).length := by simp; omega
  have e := (h.det hs hlen).1
  have : (l.take i ++ [x])[i]? = some x := by
    rw [List.getElem?_append_right (by rw [List.length_take]; omega), List.length_take, Nat.min_eq_left (by omega), Nat.sub_self]; rfl
  rw [e, List.getElem?_take, if_pos (by omega)] at this
  exact this
theorem PopTo.perm {p r : List Th} (h : PopTo lt xs p r) : (p ++ r).Perm xs := by
  refine PopTo.ind (lt := lt) (xs := xs) (motive := fun p r => (p ++ r).Perm xs) (List.Perm.refl _) ?_ _ p r rfl h
  intro pre rest m x h hm hx ih
  refine List.Perm.trans ?_ ih
  rw [List.append_assoc]
  exact ((erase_mid hx).symm).append_left _
theorem PopTo.sub {p r : List Th} (h : PopTo lt xs p r) : r.Sublist xs := by
  refine PopTo.ind (lt := lt) (xs := xs) (motive := fun p r => r.Sublist xs) (List.Sublist.refl _) ?_ _ p r rfl h
  intro pre rest m x h hm hx ih
  exact (List.eraseIdx_sublist _ _).trans ih
/-- Two that come one behind the other: the later one is not less; if they are alike it was pushed later. -/
theorem PopTo.two {p r : List Th} {x y : Th} (hx : xs.Pairwise fun a b => a.g < b.g) (h : PopTo lt xs (p ++ [x] ++ [y]) r) : lt y x = false ∧ (lt x y = false → ¬ y.g < x.g) := by
  rcases h.inv with ⟨h0, _⟩ | ⟨pre2, rest2, m2, y2, e0, rfl, h2, hm2, hy2⟩
  · simp at h0
  obtain ⟨e1, e2⟩ := List.append_inj' e0 rfl
  injection e2 with e2
  subst e1 e2
  rcases h2.inv with ⟨h0, _⟩ | ⟨pre1, rest1, m1, x1, e3, rfl, h1, hm1, hx1⟩
  · simp at h0
  obtain ⟨e4, e5⟩ := List.append_inj' e3 rfl
  injection e5 with e5
  subst e4 e5
  obtain ⟨z, z1, z2, z3⟩ := hm1
  rw [hx1] at z1
  injection z1 with z1
  subst z1
  have hmem : y ∈ rest1.eraseIdx m1 := List.mem_of_getElem? hy2
  have hsub := h1.sub
  have hpw : rest1.Pairwise fun a b => a.g < b.g := hx.sublist hsub
  obtain ⟨j, hj⟩ := List.mem_iff_getElem?.1 ((List.eraseIdx_sublist _ _).subset hmem)
  refine ⟨z2 j y hj, fun hlt hg => ?_⟩
  have pw := List.pairwise_iff_getElem.1 hpw
  obtain ⟨l1, e1⟩ := List.getElem?_eq_some_iff.1 hx1
  obtain ⟨l2, e2⟩ := List.getElem?_eq_some_iff.1 hj
  rcases Nat.lt_trichotomy j m1 with q | q | q
  · have := z3 j y q hj; rw [hlt] at this; cases this
  · subst q; rw [hx1] at hj; injection hj with hj; subst hj; omega
  · have := pw m1 j l1 l2 q; rw [e1, e2] at this; omega
end
/-- The things that HeapSorts pushes. -/
def thL (d : Nat → Int) (n : Nat) : List Th := (List.range n).map fun j => ⟨d j, (j : Int)⟩
theorem thL_len (d : Nat → Int) (n : Nat) : (thL d n).length = n := by simp [thL]
theorem thL_snoc (d : Nat → Int) (n : Nat) : thL d (n + 1) = thL d n ++ [⟨d n, (n : Int)⟩] := by unfold thL; rw [List.range_succ, List.map_append]; rfl
theorem thL_up (d : Nat → Int) (n : Nat) : (thL d n).Pairwise fun a b => a.g < b.g := by
  unfold thL
  rw [List.pairwise_map]
  exact List.pairwise_lt_range.imp fun {a b} h => by show (a : Int) < (b : Int); omega
theorem thL_mem {d : Nat → Int} {n : Nat} {x : Th} (h : x ∈ thL d n) : ∃ j, j < n ∧ x = ⟨d j, (j : Int)⟩ := by
  obtain ⟨j, hj, rfl⟩ := List.mem_map.1 h
  exact ⟨j, List.mem_range.1 hj, rfl⟩
/-- Which tags have come. -/
def seenB (l : List Th) (t : Nat) : Bool := l.any fun x => x.g == (t : Int)
theorem seenB_snoc (l : List Th) (x : Th) (j t : Nat) (hx : x.g = (j : Int)) : seenB (l ++ [x]) t = if t = j then true else seenB l t := by
  unfold seenB
  rw [List.any_append]
  simp only [List.any_cons, List.any_nil, Bool.or_false]
  by_cases e : t = j
  · rw [if_pos e, hx, e]; simp
  · rw [if_neg e, hx]
    have : ((j : Int) == (t : Int)) = false := by rw [beq_eq_false_iff_ne]; omega
    rw [this, Bool.or_false]
theorem seenB_new {lt : Th → Th → Bool} {d : Nat → Int} {n : Nat} {p r : List Th} {x : Th} {j : Nat} (h : PopTo lt (thL d n) (p ++ [x]) r) (hx : x.g = (j : Int)) : seenB p j = false := by
  cases hs : seenB p j with
  | false => rfl
  | true =>
    obtain ⟨y, hy, hg⟩ := List.any_eq_true.1 hs
    have hg' : y.g = (j : Int) := by simpa using hg
    have hpm := h.perm
    have pw : ((p ++ [x]) ++ r).Pairwise fun a b => a.g ≠ b.g := hpm.symm.pairwise ((thL_up d n).imp fun h => by omega) fun h => Ne.symm h
    have := (List.pairwise_append.1 (List.pairwise_append.1 pw).1).2.2 y hy x (by simp)
    omega
end Go.Proofs.Ytdnhhcbabdoomaa
