/-
  msg: fields set; what a valid message's rows are.
-/
import Derived.Test.YtkpoheknmcepnaaGreatDoorMsgShown
import Derived.OpenShut
namespace Go.Proofs.YtkpoheknmcepnaaGreatDoor
set_option linter.unusedVariables false
open Go.RowKit Go.Great

theorem cs_set (M M' : Msg) (k : Nat) (hk : k < 42) (v : Value) (h1 : M'.cell k = v) (h2 : ∀ i, i ≠ k → M'.cell i = M.cell i) : M.cs.setIfInBounds k v = M'.cs := by
  apply Array.ext_getElem?
  intro i
  by_cases hi : i < 42
  · rw [Msg.cs_get _ _ hi]
    by_cases hik : i = k
    · subst hik
      rw [Array.getElem?_setIfInBounds_self_of_lt (by rw [Msg.cs_size]; exact hi), h1]
    · rw [Array.getElem?_setIfInBounds_ne (fun h => hik h.symm), Msg.cs_get _ _ hi, h2 i hik]
  · rw [Array.getElem?_eq_none (by simp [Msg.cs_size]; omega), Array.getElem?_eq_none (by rw [Msg.cs_size]; omega)]
theorem Msg.cs_one (M : Msg) : M.cs.all (·.oneCell') = true := by
  rw [Array.all_eq_true]
  intro i hi
  have hi' : i < 42 := by rw [M.cs_size] at hi; exact hi
  have := M.cs_get i hi'
  rw [Array.getElem?_eq_getElem hi] at this
  rw [Option.some.inj this]
  unfold Msg.cell
  split
  · rfl
  · split <;> rfl
def Msg.setZ (M : Msg) (k : Nat) (z : Int) : Msg := ⟨fun i => if i = k then z else M.z i, M.s, M.b⟩
def Msg.setS (M : Msg) (k : Nat) (s : ByteArray) : Msg := ⟨M.z, fun i => if i = k then s else M.s i, M.b⟩
def Msg.setB (M : Msg) (k : Nat) (b : Bool) : Msg := ⟨M.z, M.s, fun i => if i = k then b else M.b i⟩
theorem cs_setZ (M : Msg) (k : Nat) (z : Int) (hk : k < 42) (hs : isStr k = false) (hb : isBoo k = false) : M.cs.setIfInBounds k (.int .i64 z) = (M.setZ k z).cs := by
  refine cs_set M _ k hk _ ?_ fun i hi => ?_
  · simp [Msg.cell, hs, hb, Msg.setZ]
  · simp [Msg.cell, Msg.setZ, hi]
theorem cs_setS (M : Msg) (k : Nat) (s : ByteArray) (hk : k < 42) (hs : isStr k = true) : M.cs.setIfInBounds k (.string s) = (M.setS k s).cs := by
  refine cs_set M _ k hk _ ?_ fun i hi => ?_
  · simp [Msg.cell, hs, Msg.setS]
  · simp [Msg.cell, Msg.setS, hi]
theorem cs_setB (M : Msg) (k : Nat) (b : Bool) (hk : k < 42) (hs : isStr k = false) (hb : isBoo k = true) : M.cs.setIfInBounds k (.bool b) = (M.setB k b).cs := by
  refine cs_set M _ k hk _ ?_ fun i hi => ?_
  · simp [Msg.cell, hs, hb, Msg.setB]
  · simp [Msg.cell, Msg.setB, hi]
/-- A valid message: its kind is one, no row is wrong, all fits. -/
theorem val_ok {M : Msg} (h : valE M = 0) : isK (M.z 0) = true ∧ (∀ j, j < 42 → errAt M j = 0) ∧ fitN M = 0 := by
  unfold valE at h
  cases hK : isK (M.z 0)
  · rw [hK] at h; simp at h
  · rw [hK] at h
    simp only [reduceIte] at h
    cases hf : firstErr M with
    | some j =>
      rw [hf] at h
      unfold firstErr at hf
      rw [List.find?_range_eq_some] at hf
      simp [h] at hf
    | none =>
      rw [hf] at h
      unfold firstErr at hf
      rw [List.find?_range_eq_none] at hf
      refine ⟨rfl, fun j hj => by simpa using hf j hj, ?_⟩
      by_cases h0 : fitN M = 0
      · exact h0
      · simp [h0] at h
theorem val_of {M : Msg} (hK : isK (M.z 0) = true) (h : ∀ j, j < 42 → errAt M j = 0) (hf : fitN M = 0) : valE M = 0 ∧ valN M = 0 := by
  simp [valE, valN, hK, firstErr_none h, hf]
theorem val_err {M : Msg} {k : Nat} (hK : isK (M.z 0) = true) (hk : k < 42) (h : ∀ j, j < k → errAt M j = 0) (he : errAt M k ≠ 0) : valE M = errAt M k ∧ valN M = tNum.getD k 0 := by
  simp [valE, valN, hK, firstErr_some hk h he]
theorem all_has (z : Int) (h : isK z = true) : (262142 : Nat).testBit z.toNat = true := by
  simp [isK] at h
  obtain ⟨y, hy⟩ : ∃ y : Nat, z = y := ⟨z.toNat, by omega⟩
  subst hy
  have : y = 1 ∨ y = 2 ∨ y = 3 ∨ y = 4 ∨ y = 5 ∨ y = 6 ∨ y = 7 ∨ y = 8 ∨ y = 9 ∨ y = 10 ∨ y = 11 ∨ y = 12 ∨ y = 13 ∨ y = 14 ∨ y = 15 ∨ y = 16 ∨ y = 17 := by omega
  rcases this with rfl | rfl | rfl | rfl | rfl | rfl | rfl | rfl | rfl | rfl | rfl | rfl | rfl | rfl | rfl | rfl | rfl <;> decide

end Go.Proofs.YtkpoheknmcepnaaGreatDoor
