/-
  store, the reference: Parts refuses.
-/
import Derived.Test.YtekkckfoikpljaaSRefKept
namespace Go.Proofs.Ytekkckfoikpljaa
set_option linter.unusedVariables false
set_option linter.unusedSimpArgs false
open Go.RowKit Go.Great

set_option maxRecDepth 100000 in
set_option maxHeartbeats 4000000 in
theorem refParts_no {w : World} {p K : Nat} {cs : List Nat} {ms : List Msg} {vW vL : Value} (z1 z2 : Int) (h : RfAt w p K cs ms vW vL) (hn : cs.length ≤ 900000000) (hbad : ¬ (1 ≤ z1 ∧ (z2 = 0 ∧ z1 ≤ cs.length ∨ z1 ≤ z2 ∧ z2 ≤ cs.length))) :
    Calls Try.prog 36 #[.pointer (some ⟨p, 0, none⟩), .int .i64 z1, .int .i64 z2] w fun e w' => e = .returned (.tuple #[.slice none 0 0, .int .i64 1]) ∧ w' = w := by
  obtain ⟨-, c1, -⟩ := h.blk.at
  obtain ⟨ao, cap, rfl, -⟩ := h.what.form
  clear h
  generalize cs.length = n at *
  by_cases h0 : z2 = 0
  · subst h0
    by_cases h1 : (n : Int) < z1
    · clear hbad
      go_enter Try.func36, Try.ntmps36
      go_wp2
      go_ret2
      exact ⟨rfl, rfl⟩
    · have h2 : z1 < 1 := by omega
      clear hbad
      go_enter Try.func36, Try.ntmps36
      go_wp2
      go_ret2
      exact ⟨rfl, rfl⟩
  · by_cases h1 : z1 < 1
    · clear hbad
      go_enter Try.func36, Try.ntmps36
      go_wp2
      go_ret2
      exact ⟨rfl, rfl⟩
    · by_cases h2 : z2 < z1
      · clear hbad
        go_enter Try.func36, Try.ntmps36
        go_wp2
        go_ret2
        exact ⟨rfl, rfl⟩
      · have h3 : (n : Int) < z2 := by omega
        clear hbad
        go_enter Try.func36, Try.ntmps36
        go_wp2
        go_ret2
        exact ⟨rfl, rfl⟩
end Go.Proofs.Ytekkckfoikpljaa
