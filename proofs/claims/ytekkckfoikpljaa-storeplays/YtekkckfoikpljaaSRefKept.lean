/-
  store, the reference: Kept; what Put makes of the events.
-/
import Derived.Test.YtekkckfoikpljaaSRefYes
namespace Go.Proofs.Ytekkckfoikpljaa
set_option linter.unusedVariables false
set_option linter.unusedSimpArgs false
open Go.RowKit Go.Great

set_option maxRecDepth 100000 in
set_option maxHeartbeats 4000000 in
theorem refKept_any {w : World} {p K : Nat} {cs : List Nat} {ms : List Msg} {vW vL : Value} (h : RfAt w p K cs ms vW vL) (hn : cs.length ≤ 1000000000) :
    Calls Try.prog 28 #[.pointer (some ⟨p, 0, none⟩)] w fun e w' => e = .returned (.tuple #[.int .i64 (cntL cs 1 : Nat), .int .i64 (cntL cs 2 : Nat)]) ∧ w' = w := by
  have h1 := count_any 1 1 rfl h hn
  have h2 := count_any 2 2 rfl h hn
  generalize cntL cs 1 = k1 at *
  generalize cntL cs 2 = k2 at *
  clear h hn
  go_enter Try.func28, Try.ntmps28
  go_upto_region 1 with fail
  go_wp2_with (go_at_call 35; refine h1.mono ?_; rintro e w1 ⟨rfl, ew⟩; replace ew := ew.symm; subst ew; clear h1)
  go_wp2_with (go_at_call 35; refine h2.mono ?_; rintro e w1 ⟨rfl, ew⟩; replace ew := ew.symm; subst ew; clear h2)
  go_ret2
  exact ⟨rfl, rfl⟩
theorem cntL_set : ∀ (l : List Nat) (j a b c : Nat), l[j]? = some a → cntL (l.set j b) c + (if a = c then 1 else 0) = cntL l c + (if b = c then 1 else 0)
  | [], j, a, b, c, h => by simp at h
  | x :: t, 0, a, b, c, h => by
    have hx : x = a := by simpa using h
    subst hx
    unfold cntL
    rw [List.set_cons_zero, List.filter_cons, List.filter_cons]
    by_cases h1 : x = c <;> by_cases h2 : b = c <;> simp [h1, h2] <;> omega
  | x :: t, j + 1, a, b, c, h => by
    have ih := cntL_set t j a b c (by simpa using h)
    unfold cntL at *
    rw [List.set_cons_succ, List.filter_cons, List.filter_cons]
    by_cases h1 : x = c <;> simp [h1] <;> omega
theorem EvM.init {ev : List (Option Msg)} {e : Option Msg} (h : EvM (ev ++ [e])) : EvM ev := fun i M hi => by
  have hlt : i < ev.length := (List.getElem?_eq_some_iff.1 hi).1
  exact h i M (by rw [List.getElem?_append_left hlt]; exact hi)
theorem EvM.last {ev : List (Option Msg)} {M : Msg} (h : EvM (ev ++ [some M])) : M.z 3 = ((ev.length + 1 : Nat) : Int) := h ev.length M (last_get ev _)
/-- How many are kept, how many dropped. -/
theorem cnt_ev (K : Nat) (hK : 1 ≤ K) : ∀ (n : Nat) (ev : List (Option Msg)), ev.length = n → EvM ev → cntL (cdL K ev) 1 = (putL ev).length - over K ev ∧ cntL (cdL K ev) 2 = over K ev
  | 0, ev, hl, he => by
    obtain rfl : ev = [] := List.length_eq_zero_iff.1 hl
    exact ⟨by simp [cdL, cntL, putL, over], by simp [cdL, cntL, putL, over]⟩
  | n + 1, ev, hl, he => by
    rcases List.eq_nil_or_concat ev with rfl | ⟨ev', e, rfl⟩
    · cases hl
    · rw [List.concat_eq_append] at hl he ⊢
      have hl' : ev'.length = n := by simpa using hl
      obtain ⟨i1, i2⟩ := cnt_ev K hK n ev' hl' he.init
      cases e with
      | none =>
        rw [(ref_skip K ev').1, cntL_snoc, cntL_snoc, i1, i2]
        unfold over
        rw [putL_none]
        exact ⟨rfl, rfl⟩
      | some M =>
        by_cases hr : (putL ev').length + 1 ≤ K
        · rw [(ref_put K ev' M hr).1, cntL_snoc, cntL_snoc, i1, i2]
          unfold over
          rw [putL_some, List.length_append, List.length_singleton, if_pos rfl, if_neg (by decide)]
          omega
        · obtain ⟨j, h1, h2, _, h4, _⟩ := ref_drop K hK he.init M he.last (by omega)
          have q1 := cntL_set _ j 1 2 1 h2
          have q2 := cntL_set _ j 1 2 2 h2
          rw [if_pos rfl, if_neg (by decide), cntL_snoc, if_pos rfl, i1] at q1
          rw [if_pos rfl, if_neg (by decide), cntL_snoc, if_neg (by decide), i2] at q2
          rw [h4]
          unfold over at *
          rw [putL_some, List.length_append, List.length_singleton]
          omega
/-- What Put makes of the events. -/
theorem putTo_ev (K : Nat) (hK : 1 ≤ K) {ev : List (Option Msg)} {M : Msg} (he : EvM (ev ++ [some M])) : PutTo K (cdL K ev) (mgL K ev) M (cdL K (ev ++ [some M])) (mgL K (ev ++ [some M])) := by
  have hc := (cnt_ev K hK _ ev rfl he.init).1
  have hs : cntL (cdL K ev ++ [1]) 1 = (putL ev).length - over K ev + 1 := by rw [cntL_snoc, hc, if_pos rfl]
  unfold over at hs
  by_cases hr : (putL ev).length + 1 ≤ K
  · exact .inl ⟨by omega, (ref_put K ev M hr).1, (ref_put K ev M hr).2⟩
  · obtain ⟨j, h1, h2, h3, h4, h5⟩ := ref_drop K hK he.init M he.last (by omega)
    exact .inr ⟨by omega, j, by rw [cdL_len]; exact h1, h2, h3, h4, h5⟩
end Go.Proofs.Ytekkckfoikpljaa
