/-
  The reference's rows say what the program's rows say.
-/
import Derived.Test.YtdlmaeieoiocdabDoorMsgRefMay
import Derived.Test.YtdlmaeieoiocdabDoorMsgRefHas
import Derived.Test.YtdlmaeieoiocdabDoorMsgVal0
import Derived.Test.YtdlmaeieoiocdabDoorMsgVal1
import Derived.Test.YtdlmaeieoiocdabDoorMsgVal2
import Derived.Test.YtdlmaeieoiocdabDoorMsgVal3
namespace Go.Proofs.YtdlmaeieoiocdabDoor
set_option linter.unusedVariables false
set_option linter.unusedSimpArgs false
open Go.RowKit Go.Great

def vN (M : Msg) (i : Nat) : Int := if isStr i then 0 else if isBoo i then trN (M.b i) else M.z i
def vS (M : Msg) (i : Nat) : ByteArray := if isStr i then M.s i else ⟨#[]⟩
theorem val_at (M : Msg) (j : Nat) (hj : j < 42) (w : World) : Calls Tryd.prog 13 #[.agg M.cs, .int .i64 (tNum.getD j 0)] w fun e w' => e = .returned (.tuple #[.int .i64 (vN M j), .string (vS M j)]) ∧ Below w.heap.size w w' := by
  rcases cases42 hj with rfl | rfl | rfl | rfl | rfl | rfl | rfl | rfl | rfl | rfl | rfl | rfl | rfl | rfl | rfl | rfl | rfl | rfl | rfl | rfl | rfl | rfl | rfl | rfl | rfl | rfl | rfl | rfl | rfl | rfl | rfl | rfl | rfl | rfl | rfl | rfl | rfl | rfl | rfl | rfl | rfl | rfl
  · exact val0 M w
  · exact val1 M w
  · exact val2 M w
  · exact val3 M w
  · exact val4 M w
  · exact val5 M w
  · exact val6 M w
  · exact val7 M w
  · exact val8 M w
  · exact val9 M w
  · exact val10 M w
  · exact val11 M w
  · exact val12 M w
  · exact val13 M w
  · exact val14 M w
  · exact val15 M w
  · exact val16 M w
  · exact val17 M w
  · exact val18 M w
  · exact val19 M w
  · exact val20 M w
  · exact val21 M w
  · exact val22 M w
  · exact val23 M w
  · exact val24 M w
  · exact val25 M w
  · exact val26 M w
  · exact val27 M w
  · exact val28 M w
  · exact val29 M w
  · exact val30 M w
  · exact val31 M w
  · exact val32 M w
  · exact val33 M w
  · exact val34 M w
  · exact val35 M w
  · exact val36 M w
  · exact val37 M w
  · exact val38 M w
  · exact val39 M w
  · exact val40 M w
  · exact val41 M w
def thB (M : Msg) (i : Nat) : Bool := vN M i != 0 || (vS M i).size != 0
theorem eq_num (z most least : Int) (hl : least = 0 ∨ least = 1) : (z != 0 || (⟨#[]⟩ : ByteArray).size != 0) = (stN z most != 0) ∧ (stN z most ≠ 0 → mayS 0 least most z ⟨#[]⟩ = (stN z most == 1)) := by
  have e0 : ((⟨#[]⟩ : ByteArray).size != 0) = false := rfl
  have em : mayS 0 least most z ⟨#[]⟩ = (decide (least ≤ z) && decide (z ≤ most)) := by simp [mayS]
  rw [e0, Bool.or_false, em]
  unfold stN
  by_cases h0 : z = 0
  · simp [h0]
  · rw [if_neg h0]
    by_cases h1 : z < 0 ∨ most < z
    · rw [if_pos h1]
      refine ⟨by simp [h0], fun _ => ?_⟩
      simp
      omega
    · rw [if_neg h1]
      refine ⟨by simp [h0], fun _ => ?_⟩
      simp
      omega
theorem eq_txt (p : ByteArray → Bool) (what : Int) (s : ByteArray) (hm : mayS what 0 0 0 s = p s) : ((0 : Int) != 0 || s.size != 0) = (stT p s != 0) ∧ (stT p s ≠ 0 → mayS what 0 0 0 s = (stT p s == 1)) := by
  rw [hm]
  unfold stT
  by_cases h0 : s.size = 0
  · simp [h0]
  · rw [if_neg h0]
    cases p s
    · simp [h0]
    · simp [h0]
theorem eq_boo (b : Bool) : (trN b != 0 || (⟨#[]⟩ : ByteArray).size != 0) = (stB b != 0) ∧ (stB b ≠ 0 → mayS 1 0 0 (trN b) ⟨#[]⟩ = (stB b == 1)) := by
  have em : mayS 1 0 0 (trN b) ⟨#[]⟩ = true := by simp [mayS]
  rw [em]
  cases b
  · exact ⟨rfl, fun h => absurd rfl h⟩
  · exact ⟨rfl, fun _ => rfl⟩
theorem eq_dat (z : Int) : (z != 0 || (⟨#[]⟩ : ByteArray).size != 0) = (stD z != 0) ∧ (stD z ≠ 0 → mayS 7 0 0 z ⟨#[]⟩ = (stD z == 1)) := by
  have e0 : ((⟨#[]⟩ : ByteArray).size != 0) = false := rfl
  have em : mayS 7 0 0 z ⟨#[]⟩ = dnB z := by simp [mayS]
  rw [e0, Bool.or_false, em]
  unfold stD
  by_cases h0 : z = 0
  · simp [h0]
  · rw [if_neg h0]
    cases dnB z
    · simp [h0]
    · simp [h0]
theorem st_at (M : Msg) (j : Nat) (hj : j < 42) : thB M j = (stOf M j != 0) ∧ (stOf M j ≠ 0 → mayS (rWhat.getD j 0) (rLeast.getD j 0) (rMost.getD j 0) (vN M j) (vS M j) = (stOf M j == 1)) := by
  rcases cases42 hj with rfl | rfl | rfl | rfl | rfl | rfl | rfl | rfl | rfl | rfl | rfl | rfl | rfl | rfl | rfl | rfl | rfl | rfl | rfl | rfl | rfl | rfl | rfl | rfl | rfl | rfl | rfl | rfl | rfl | rfl | rfl | rfl | rfl | rfl | rfl | rfl | rfl | rfl | rfl | rfl | rfl | rfl
  · exact eq_num (M.z 0) 17 1 (by decide)
  · exact eq_txt nmS 2 (M.s 1) (by simp [mayS, tiS, Bool.and_comm])
  · exact eq_txt nmS 2 (M.s 2) (by simp [mayS, tiS, Bool.and_comm])
  · exact eq_num (M.z 3) 999999999 1 (by decide)
  · exact eq_boo (M.b 4)
  · exact eq_num (M.z 5) 253402300799999 0 (by decide)
  · exact eq_num (M.z 6) 253402300799999 1 (by decide)
  · exact eq_num (M.z 7) 3600 1 (by decide)
  · exact eq_boo (M.b 8)
  · exact eq_txt tiS 6 (M.s 9) (by simp [mayS, tiS, Bool.and_comm])
  · exact eq_num (M.z 10) 999999999 1 (by decide)
  · exact eq_num (M.z 11) 999999999 0 (by decide)
  · exact eq_num (M.z 12) 999999999 1 (by decide)
  · exact eq_boo (M.b 13)
  · exact eq_num (M.z 14) 999999999 1 (by decide)
  · exact eq_num (M.z 15) 17 1 (by decide)
  · exact eq_num (M.z 16) 9999 1 (by decide)
  · exact eq_num (M.z 17) 999 0 (by decide)
  · exact eq_txt txS 5 (M.s 18) (by simp [mayS, tiS, Bool.and_comm])
  · exact eq_txt idS 3 (M.s 19) (by simp [mayS, tiS, Bool.and_comm])
  · exact eq_txt idS 3 (M.s 20) (by simp [mayS, tiS, Bool.and_comm])
  · exact eq_txt nmS 2 (M.s 21) (by simp [mayS, tiS, Bool.and_comm])
  · exact eq_txt syS 4 (M.s 22) (by simp [mayS, tiS, Bool.and_comm])
  · exact eq_num (M.z 23) 2 1 (by decide)
  · exact eq_num (M.z 24) 4 1 (by decide)
  · exact eq_num (M.z 25) 7 1 (by decide)
  · exact eq_num (M.z 26) 1000000000 1 (by decide)
  · exact eq_num (M.z 27) 1000000000 1 (by decide)
  · exact eq_num (M.z 28) 1000000 1 (by decide)
  · exact eq_num (M.z 29) 1000000 1 (by decide)
  · exact eq_num (M.z 30) 1000000 1 (by decide)
  · exact eq_dat (M.z 31)
  · exact eq_num (M.z 32) 999999999 0 (by decide)
  · exact eq_num (M.z 33) 999999999 1 (by decide)
  · exact eq_num (M.z 34) 8 1 (by decide)
  · exact eq_num (M.z 35) 6 1 (by decide)
  · exact eq_num (M.z 36) 1000000000 1 (by decide)
  · exact eq_num (M.z 37) 1000000 1 (by decide)
  · exact eq_num (M.z 38) 1000000 0 (by decide)
  · exact eq_num (M.z 39) 1000000 0 (by decide)
  · exact eq_num (M.z 40) 5 0 (by decide)
  · exact eq_num (M.z 41) 999999999 0 (by decide)
def refErr (h : Int) (th fi oz : Bool) : Int := if h = 0 ∧ th = true then 32 else if h = 2 ∧ th = false ∧ oz = false then 31 else if th = true ∧ fi = false then 31 else 0
theorem row_err (M : Msg) (hK : isK (M.z 0) = true) (j : Nat) (hj : j < 42) : errAt M j = refErr (hasR (M.z 0) (rMust.getD j []) (rMay.getD j [])) (thB M j) (mayS (rWhat.getD j 0) (rLeast.getD j 0) (rMost.getD j 0) (vN M j) (vS M j)) (tOz.getD j false) := by
  obtain ⟨h1, h2⟩ := st_at M j hj
  have hle := stOf_le M j hj
  have hk2 : 1 ≤ M.z 0 ∧ M.z 0 ≤ 17 := by simpa [isK] using hK
  obtain ⟨y, hy⟩ : ∃ y : Nat, M.z 0 = y := ⟨(M.z 0).toNat, by omega⟩
  have hy2 : (M.z 0).toNat = y := by omega
  unfold errAt hasR
  rw [h1, hy2, hy, must_bit j hj y (by omega) (by omega), may_bit j hj y (by omega) (by omega)]
  have hst : stOf M j = 0 ∨ stOf M j = 1 ∨ stOf M j = 2 := by omega
  generalize mayS (rWhat.getD j 0) (rLeast.getD j 0) (rMost.getD j 0) (vN M j) (vS M j) = fi at *
  generalize tOz.getD j false = oz at *
  generalize (tMust.getD j 0).testBit y = mu at *
  generalize (tMay.getD j 0).testBit y = ma at *
  rcases hst with h | h | h
  · rw [h]
    cases mu <;> cases ma <;> cases oz <;> cases fi <;> rfl
  · rw [h] at h2 ⊢
    rw [h2 (by decide)]
    cases mu <;> cases ma <;> cases oz <;> rfl
  · rw [h] at h2 ⊢
    rw [h2 (by decide)]
    cases mu <;> cases ma <;> cases oz <;> rfl
theorem ordN_nn (a b c d e f g h : Int) : 0 ≤ ordN a b c d e f g h := by unfold ordN; repeat' split <;> try decide
theorem exeN_nn (a b c d e f : Int) : 0 ≤ exeN a b c d e f := by unfold exeN; repeat' split <;> try decide
theorem fitN_nn (M : Msg) : 0 ≤ fitN M := by
  unfold fitN
  split
  · decide
  · split
    · decide
    · split
      · exact ordN_nn _ _ _ _ _ _ _ _
      · split
        · exact exeN_nn _ _ _ _ _ _
        · decide

end Go.Proofs.YtdlmaeieoiocdabDoor
