/-
  store, plain: what StoreKeeps asks of each number.
-/
import Derived.Test.YtekkckfoikpljaaSAcc
namespace Go.Proofs.Ytekkckfoikpljaa
set_option linter.unusedVariables false

/-- How many were put at a number and behind it. -/
def bh (ev : List (Option Msg)) (n : Nat) : Nat := (putL (ev.drop (n - 1))).length
theorem bh_one (ev : List (Option Msg)) : bh ev 1 = (putL ev).length := by unfold bh; rw [show 1 - 1 = 0 from rfl, List.drop_zero]
theorem putL_split (ev : List (Option Msg)) (i : Nat) : (putL ev).length = (putL (ev.take i)).length + (putL (ev.drop i)).length := by
  conv => lhs; rw [← List.take_append_drop i ev]
  unfold putL
  rw [List.filterMap_append, List.length_append]
/-- What belongs to a number, and how many stand behind it. -/
theorem num_cases {ev : List (Option Msg)} (he : EvM ev) (K : Nat) {m : Nat} (hm : m < ev.length) :
    (ev[m]? = some none ∧ cd K ev (m + 1) = 3 ∧ bh ev (m + 1) = bh ev (m + 2)) ∨
    (∃ M, ev[m]? = some (some M) ∧ M.z 3 = (m : Int) + 1 ∧ bh ev (m + 1) = bh ev (m + 2) + 1 ∧
      ((cd K ev (m + 1) = 1 ∧ bh ev (m + 1) ≤ min (putL ev).length K ∧ mm K ev (m + 1) = some M) ∨ (cd K ev (m + 1) = 2 ∧ ¬ bh ev (m + 1) ≤ min (putL ev).length K))) := by
  have hd : ev.drop m = ev[m] :: ev.drop (m + 1) := List.drop_eq_getElem_cons hm
  have hg : ev[m]? = some ev[m] := List.getElem?_eq_getElem hm
  have e1 : bh ev (m + 1) = (putL (ev.drop m)).length := rfl
  have e2 : bh ev (m + 2) = (putL (ev.drop (m + 1))).length := rfl
  cases hx : ev[m] with
  | none =>
    left
    refine ⟨by rw [hg, hx], ?_, ?_⟩
    · unfold cd; rw [show m + 1 - 1 = m by omega, hg, hx]
    · rw [e1, e2, hd, hx]; rfl
  | some M =>
    right
    have hg' : ev[m]? = some (some M) := by rw [hg, hx]
    have hs := putL_split ev m
    have e3 : bh ev (m + 1) = bh ev (m + 2) + 1 := by rw [e1, e2, hd, hx]; rfl
    refine ⟨M, hg', by rw [he m M hg']; omega, e3, ?_⟩
    by_cases hlt : (putL (ev.take m)).length < over K ev
    · right
      refine ⟨by unfold cd; rw [show m + 1 - 1 = m by omega, hg']; simp only; rw [if_pos hlt], ?_⟩
      unfold over at hlt
      rw [e1]; omega
    · left
      refine ⟨by unfold cd; rw [show m + 1 - 1 = m by omega, hg']; simp only; rw [if_neg hlt], ?_, by unfold mm; rw [show m + 1 - 1 = m by omega, hg']; simp only; rw [if_neg hlt]⟩
      unfold over at hlt
      rw [e1]; omega
theorem allL_get {ev : List (Option Msg)} {m : Nat} {e : Option Msg} (h : ev[m]? = some e) : (allL ev)[m]? = some (e.getD zeroM) := by
  unfold allL; rw [List.getElem?_map, h]; rfl
theorem bh_le (ev : List (Option Msg)) (n : Nat) : bh ev n ≤ ev.length := by
  unfold bh; have := putL_le (ev.drop (n - 1)); rw [List.length_drop] at this; omega
end Go.Proofs.Ytekkckfoikpljaa
