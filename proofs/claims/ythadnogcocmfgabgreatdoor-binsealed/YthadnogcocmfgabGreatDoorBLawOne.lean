/-
  bin: BinOneWay, walked.
-/
import Derived.Test.YthadnogcocmfgabGreatDoorBShown
import Derived.Test.YthadnogcocmfgabGreatDoorOwnIn
namespace Go.Proofs.YthadnogcocmfgabGreatDoor
set_option linter.unusedVariables false
open Go.RowKit Go.Great Go.Lib

/-- Bytes that came in, as a list. -/
def inL (d : Nat → Nat) (n : Nat) : List UInt8 := (List.range n).map fun j => UInt8.ofNat (d j)
theorem inL_length (d : Nat → Nat) (n : Nat) : (inL d n).length = n := by simp [inL]
theorem in_at {w : World} {a : Option Addr} {n : Nat} {d : Nat → Nat} (hs : Src w a n d) : ∃ g off, (n = 0 ∨ a = some ⟨g, off, none⟩) ∧ At w g off (inL d n) := by
  rcases hs with h0 | ⟨b, off, rfl, hr⟩
  · subst h0
    exact ⟨0, 0, .inl rfl, fun j c hj => by simp [inL] at hj⟩
  · refine ⟨b, off, .inr rfl, fun j c hj => ?_⟩
    have hjn : j < n := by have := (List.getElem?_eq_some_iff.1 hj).1; rwa [inL_length] at this
    obtain ⟨h1, h2⟩ := hr j hjn
    have e : c = UInt8.ofNat (d j) := by simp [inL, hjn] at hj; exact hj.symm
    rw [h1, e, u8_ofNat, Nat.mod_eq_of_lt h2]
theorem dec_isok {l : List UInt8} {M : Msg} (h : decL l = .ok M) : M.ok := by
  obtain ⟨_, _, h3, _⟩ := dec_ok h
  exact rdL_ok _ _ _ (kind_ok (dL_lt l 4)) (fun j hj => by have := (mem_js.1 hj).2.1; omega) h3
end Go.Proofs.YthadnogcocmfgabGreatDoor
