/-
  store: Parts.
-/
import Derived.Test.YtekkckfoikpljaaSParM
namespace Go.Proofs.Ytekkckfoikpljaa
set_option linter.unusedVariables false
set_option linter.unusedSimpArgs false
open Go.RowKit Go.Great

set_option maxRecDepth 100000 in
set_option maxHeartbeats 4000000 in
theorem Parts_no {w : World} {p keep : Nat} {ev : List (Option Msg)} {vk vl : Value} (z1 z2 : Int) (h : StAt w p keep ev vk vl) (hn : ev.length ≤ 900000000) (hbad : ¬ (1 ≤ z1 ∧ (z2 = 0 ∧ z1 ≤ ev.length ∨ z1 ≤ z2 ∧ z2 ≤ ev.length))) :
    Calls Try.prog 10 #[.pointer (some ⟨p, 0, none⟩), .int .i64 z1, .int .i64 z2] w fun e w' => e = .returned (.tuple #[.slice none 0 0, .int .i64 1]) ∧ w' = w := by
  obtain ⟨-, c1, -, -, -⟩ := h.at
  clear h
  rw [show ((ev.length + 1 : Nat) : Int) = (ev.length : Int) + 1 by omega] at c1
  generalize ev.length = n at *
  have hb1 : (n : Int) + 1 - 1 = (n : Int) := by omega
  have hb4 : IntKind.i64.wrap (n : Int) = (n : Int) := by rw [IntKind.wrap_i64]; omega
  by_cases h0 : z2 = 0
  · subst h0
    by_cases h1 : z1 < 1
    · clear hbad
      go_enter Try.func10, Try.ntmps10
      go_wp2
      go_ret2
      exact ⟨rfl, rfl⟩
    · have h2 : (n : Int) < z1 := by omega
      clear hbad
      go_enter Try.func10, Try.ntmps10
      go_wp2
      go_ret2
      exact ⟨rfl, rfl⟩
  · by_cases h1 : z1 < 1
    · clear hbad
      go_enter Try.func10, Try.ntmps10
      go_wp2
      go_ret2
      exact ⟨rfl, rfl⟩
    · by_cases h2 : z2 < z1
      · clear hbad
        go_enter Try.func10, Try.ntmps10
        go_wp2
        go_ret2
        exact ⟨rfl, rfl⟩
      · have h3 : (n : Int) + 1 ≤ z2 := by omega
        clear hbad
        go_enter Try.func10, Try.ntmps10
        go_wp2
        go_ret2
        exact ⟨rfl, rfl⟩
/-- The numbers' parts. -/
def prt (keep : Nat) (ev : List (Option Msg)) (a b : Nat) : List (Pt Msg) := gr (cd keep ev) (mm keep ev) a (b + 1 - a)
/-- The parts so far. -/
structure PS (w wr : World) (v : Value) (np : Nat) (l : List (Pt Msg)) : Prop where
  len : l.length = np
  row : RowAt wr 36 45 v np (flatL ptL l)
  below : Below w.heap.size w wr
  new : ∀ g, v.ownBlock = some g → w.heap.size ≤ g
theorem Kept_seq {keep : Nat} {ev : List (Option Msg)} (h : EvM ev) : ∀ x, x ∈ keptL keep ev → (msgV x)[3]? = some (.int .i64 ((seqM x : Nat) : Int)) := fun x hx => by
  show x.cs.toList[3]? = _
  rw [Array.getElem?_toList, x.cs_get 3 (by decide), ← h.seq (List.mem_of_mem_drop hx)]; rfl
end Go.Proofs.Ytekkckfoikpljaa
