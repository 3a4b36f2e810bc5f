/-
  store, plain: what the reference holds: of each number what it is, and its message.
-/
import Derived.Test.YtekkckfoikpljaaSPut3
namespace Go.Proofs.Ytekkckfoikpljaa
set_option linter.unusedVariables false

def cdL (K : Nat) (ev : List (Option Msg)) : List Nat := (List.range ev.length).map fun i => cd K ev (i + 1)
def mgL (K : Nat) (ev : List (Option Msg)) : List Msg := (List.range ev.length).map fun i => (mm K ev (i + 1)).getD zeroM
theorem cdL_len (K : Nat) (ev : List (Option Msg)) : (cdL K ev).length = ev.length := by simp [cdL]
theorem mgL_len (K : Nat) (ev : List (Option Msg)) : (mgL K ev).length = ev.length := by simp [mgL]
theorem cdL_get {K : Nat} {ev : List (Option Msg)} {i : Nat} (h : i < ev.length) : (cdL K ev)[i]? = some (cd K ev (i + 1)) := by simp [cdL, h]
theorem mgL_get {K : Nat} {ev : List (Option Msg)} {i : Nat} (h : i < ev.length) : (mgL K ev)[i]? = some ((mm K ev (i + 1)).getD zeroM) := by simp [mgL, h]
theorem take_pre (ev : List (Option Msg)) (e : Option Msg) {i : Nat} (h : i ≤ ev.length) : (ev ++ [e]).take i = ev.take i := List.take_append_of_le_length h
/-- A number that was passed is what it was, as long as no more are dropped. -/
theorem cd_same {K : Nat} {ev : List (Option Msg)} {e : Option Msg} (ho : over K (ev ++ [e]) = over K ev) {i : Nat} (h : i < ev.length) : cd K (ev ++ [e]) (i + 1) = cd K ev (i + 1) ∧ mm K (ev ++ [e]) (i + 1) = mm K ev (i + 1) := by
  unfold cd mm
  rw [ho, show i + 1 - 1 = i by omega, List.getElem?_append_left h, take_pre ev e (by omega)]
  exact ⟨rfl, rfl⟩
theorem last_get (ev : List (Option Msg)) (e : Option Msg) : (ev ++ [e])[ev.length]? = some e := get_snoc_last ev e
theorem ref_same {K : Nat} {ev : List (Option Msg)} {e : Option Msg} (ho : over K (ev ++ [e]) = over K ev) : cdL K (ev ++ [e]) = cdL K ev ++ [cd K (ev ++ [e]) (ev.length + 1)] ∧ mgL K (ev ++ [e]) = mgL K ev ++ [(mm K (ev ++ [e]) (ev.length + 1)).getD zeroM] := by
  constructor
  · apply List.ext_getElem?
    intro i
    by_cases hi : i < ev.length
    · rw [cdL_get (by rw [List.length_append]; simp; omega), List.getElem?_append_left (by rw [cdL_len]; exact hi), cdL_get hi, (cd_same ho hi).1]
    · by_cases he : i = ev.length
      · subst he
        rw [cdL_get (by simp), ← cdL_len K ev, get_snoc_last]
      · rw [List.getElem?_eq_none (by rw [cdL_len, List.length_append]; simp; omega), List.getElem?_eq_none (by rw [List.length_append, cdL_len]; simp; omega)]
  · apply List.ext_getElem?
    intro i
    by_cases hi : i < ev.length
    · rw [mgL_get (by rw [List.length_append]; simp; omega), List.getElem?_append_left (by rw [mgL_len]; exact hi), mgL_get hi, (cd_same ho hi).2]
    · by_cases he : i = ev.length
      · subst he
        rw [mgL_get (by simp), ← mgL_len K ev, get_snoc_last]
      · rw [List.getElem?_eq_none (by rw [mgL_len, List.length_append]; simp; omega), List.getElem?_eq_none (by rw [List.length_append, mgL_len]; simp; omega)]
/-- Skip: one number more, skipped. -/
theorem ref_skip (K : Nat) (ev : List (Option Msg)) : cdL K (ev ++ [none]) = cdL K ev ++ [3] ∧ mgL K (ev ++ [none]) = mgL K ev ++ [zeroM] := by
  have ho : over K (ev ++ [none]) = over K ev := by unfold over; rw [putL_none]
  have h := ref_same (e := none) ho
  have h1 : cd K (ev ++ [none]) (ev.length + 1) = 3 := by unfold cd; rw [show ev.length + 1 - 1 = ev.length by omega, last_get]
  have h2 : mm K (ev ++ [none]) (ev.length + 1) = none := by unfold mm; rw [show ev.length + 1 - 1 = ev.length by omega, last_get]
  rw [h1, h2] at h
  exact h
/-- Put with room: one number more, kept. -/
theorem ref_put (K : Nat) (ev : List (Option Msg)) (M : Msg) (hr : (putL ev).length + 1 ≤ K) : cdL K (ev ++ [some M]) = cdL K ev ++ [1] ∧ mgL K (ev ++ [some M]) = mgL K ev ++ [M] := by
  have ho : over K (ev ++ [some M]) = over K ev := by unfold over; rw [putL_some, List.length_append]; simp only [List.length_singleton]; omega
  have h := ref_same (e := some M) ho
  have hn : ¬ (putL ((ev ++ [some M]).take ev.length)).length < over K (ev ++ [some M]) := by
    unfold over; rw [putL_some, List.length_append]; simp only [List.length_singleton]; omega
  have h1 : cd K (ev ++ [some M]) (ev.length + 1) = 1 := by unfold cd; rw [show ev.length + 1 - 1 = ev.length by omega, last_get]; simp only; rw [if_neg hn]
  have h2 : mm K (ev ++ [some M]) (ev.length + 1) = some M := by unfold mm; rw [show ev.length + 1 - 1 = ev.length by omega, last_get]; simp only; rw [if_neg hn]
  rw [h1, h2] at h
  exact h
/-- Put without room: the oldest that is kept is dropped. -/
theorem ref_drop (K : Nat) (hK : 1 ≤ K) {ev : List (Option Msg)} (he : EvM ev) (M : Msg) (hM : M.z 3 = ((ev.length + 1 : Nat) : Int)) (hr : K < (putL ev).length + 1) :
    ∃ j, j < ev.length + 1 ∧ (cdL K ev ++ [1])[j]? = some 1 ∧ (∀ i, i < j → ∀ c, (cdL K ev ++ [1])[i]? = some c → c ≠ 1) ∧ cdL K (ev ++ [some M]) = (cdL K ev ++ [1]).set j 2 ∧ mgL K (ev ++ [some M]) = (mgL K ev ++ [M]).set j zeroM := by
  have hd : over K (ev ++ [some M]) = over K ev + 1 := by unfold over; rw [putL_some, List.length_append]; simp only [List.length_singleton]; omega
  have hlt : over K ev < (putL ev).length := by unfold over; omega
  obtain ⟨j, h1, h2⟩ := at_putL ev (over K ev) ((putL ev)[over K ev]) (List.getElem?_eq_getElem hlt)
  have hj : j < ev.length := (List.getElem?_eq_some_iff.1 h1).1
  have hcj : cd K ev (j + 1) = 1 := by unfold cd; rw [show j + 1 - 1 = j by omega, h1]; simp only [h2]; rw [if_neg (by omega)]
  have hlast : ¬ (putL ((ev ++ [some M]).take ev.length)).length < over K (ev ++ [some M]) := by
    rw [take_pre ev (some M) (Nat.le_refl _), List.take_length, hd]; unfold over; omega
  have hlc : cd K (ev ++ [some M]) (ev.length + 1) = 1 := by unfold cd; rw [show ev.length + 1 - 1 = ev.length by omega, last_get]; simp only; rw [if_neg hlast]
  have hlm : mm K (ev ++ [some M]) (ev.length + 1) = some M := by unfold mm; rw [show ev.length + 1 - 1 = ev.length by omega, last_get]; simp only; rw [if_neg hlast]
  -- a number ahead of the last one
  have key : ∀ i, i < ev.length → (i = j → cd K (ev ++ [some M]) (i + 1) = 2 ∧ mm K (ev ++ [some M]) (i + 1) = none) ∧ (i ≠ j → cd K (ev ++ [some M]) (i + 1) = cd K ev (i + 1) ∧ mm K (ev ++ [some M]) (i + 1) = mm K ev (i + 1)) := fun i hi => by
    unfold cd mm
    rw [hd, show i + 1 - 1 = i by omega, List.getElem?_append_left hi, take_pre ev (some M) (by omega)]
    constructor
    · intro e
      subst e
      rw [h1]
      simp only [h2]
      rw [if_pos (by omega), if_pos (by omega)]
      exact ⟨rfl, rfl⟩
    · intro hne
      cases hx : ev[i]? with
      | none => exact ⟨rfl, rfl⟩
      | some e =>
        cases e with
        | none => exact ⟨rfl, rfl⟩
        | some M' =>
          simp only
          have hp := putL_at ev i M' hx
          have hne2 : (putL (ev.take i)).length ≠ over K ev := fun e => by
            rw [e, List.getElem?_eq_getElem hlt] at hp
            injection hp with hp
            have a1 := he.ok i M' hx
            have a2 := he.ok j _ h1
            rw [hp] at a2
            omega
          by_cases hc : (putL (ev.take i)).length < over K ev
          · rw [if_pos (by omega), if_pos hc, if_pos (by omega), if_pos hc]; exact ⟨rfl, rfl⟩
          · rw [if_neg (by omega), if_neg hc, if_neg (by omega), if_neg hc]; exact ⟨rfl, rfl⟩
  refine ⟨j, by omega, ?_, fun i hi c hc => ?_, ?_, ?_⟩
  · rw [List.getElem?_append_left (by rw [cdL_len]; exact hj), cdL_get hj, hcj]
  · rw [List.getElem?_append_left (by rw [cdL_len]; omega), cdL_get (by omega)] at hc
    injection hc with hc
    rw [← hc]
    intro h1'
    obtain ⟨j', m', a1, a2⟩ := (ev_inv K he.ok).kall (i + 1) (by omega) (by omega) h1'
    have a3 := (ev_inv K he.ok).kin j' m' a1
    have a4 : (putL ev)[over K ev]? = some ((putL ev)[over K ev]) := List.getElem?_eq_getElem hlt
    have a5 : seqM ((putL ev)[over K ev]) = j + 1 := he.ok j _ h1
    unfold keptL at a1
    rw [List.getElem?_drop] at a1
    rcases Nat.eq_zero_or_pos j' with h0 | h0
    · subst h0
      rw [Nat.add_zero, a4] at a1
      injection a1 with a1
      rw [a1] at a5
      omega
    · have := putL_up he.ok (show over K ev < over K ev + j' by omega) a4 a1
      omega
  · apply List.ext_getElem?
    intro i
    by_cases hi : i < ev.length
    · rw [cdL_get (by rw [List.length_append]; simp; omega)]
      by_cases hij : i = j
      · subst hij
        rw [List.getElem?_set_self (by rw [List.length_append, cdL_len]; simp; omega), ((key i hi).1 rfl).1]
      · rw [List.getElem?_set_ne (by omega), List.getElem?_append_left (by rw [cdL_len]; exact hi), cdL_get hi, ((key i hi).2 hij).1]
    · by_cases heq : i = ev.length
      · subst heq
        rw [cdL_get (by simp), hlc, List.getElem?_set_ne (by omega)]
        conv => rhs; rw [← cdL_len K ev]
        rw [get_snoc_last]
      · rw [List.getElem?_eq_none (by rw [cdL_len, List.length_append]; simp; omega), List.getElem?_eq_none (by rw [List.length_set, List.length_append, cdL_len]; simp; omega)]
  · apply List.ext_getElem?
    intro i
    by_cases hi : i < ev.length
    · rw [mgL_get (by rw [List.length_append]; simp; omega)]
      by_cases hij : i = j
      · subst hij
        rw [List.getElem?_set_self (by rw [List.length_append, mgL_len]; simp; omega), ((key i hi).1 rfl).2]; rfl
      · rw [List.getElem?_set_ne (by omega), List.getElem?_append_left (by rw [mgL_len]; exact hi), mgL_get hi, ((key i hi).2 hij).2]
    · by_cases heq : i = ev.length
      · subst heq
        rw [mgL_get (by simp), hlm, List.getElem?_set_ne (by omega)]
        conv => rhs; rw [← mgL_len K ev]
        rw [get_snoc_last]; rfl
      · rw [List.getElem?_eq_none (by rw [mgL_len, List.length_append]; simp; omega), List.getElem?_eq_none (by rw [List.length_set, List.length_append, mgL_len]; simp; omega)]
end Go.Proofs.Ytekkckfoikpljaa
