/-
  bin, plain: what Encode lays, step by step.
-/
import Derived.Test.YtkpoheknmcepnaaGreatDoorBWr
import Derived.Test.YtkpoheknmcepnaaGreatDoorBPl
namespace Go.Proofs.YtkpoheknmcepnaaGreatDoor
set_option linter.unusedVariables false
open Go.RowKit Go.Great Go.Lib

theorem zer_split (k n : Nat) (h : k ≤ n) : zer n = zer k ++ zer (n - k) := by
  unfold zer; rw [List.replicate_append_replicate]; congr 1; omega
/-- The head, but for its sum. -/
theorem enc_head (z : Int) (n : Nat) (h : 10 ≤ n) (hn : n = sizeN z) : ((putAt (putAt (zer n) 0 [79, 67]) 2 (be 2 n)).set 4 (UInt8.ofNat (u64N z % 256))).set 5 1 = hdL z ++ zer 4 ++ zer (n - 10) := by
  have e1 : putAt (zer n) 0 [79, 67] = [79, 67] ++ zer (n - 2) := by
    rw [zer_split 2 n (by omega)]
    exact putAt_mid [] [79, 67] (zer (n - 2)) rfl (zer 2) rfl
  have e2 : putAt ([79, 67] ++ zer (n - 2)) 2 (be 2 n) = [79, 67] ++ be 2 n ++ zer (n - 4) := by
    rw [zer_split 2 (n - 2) (by omega), ← List.append_assoc, show n - 2 - 2 = n - 4 by omega]
    exact putAt_mid [79, 67] (be 2 n) (zer (n - 4)) rfl (zer 2) (by rw [be_length]; rfl)
  rw [e1, e2]
  have e3 : ([79, 67] ++ be 2 n ++ zer (n - 4) : List UInt8) = ([79, 67] ++ be 2 n) ++ (0 :: 0 :: zer (n - 6)) := by
    rw [zer_split 2 (n - 4) (by omega), show n - 4 - 2 = n - 6 by omega]; rfl
  have hl : ([79, 67] ++ be 2 n : List UInt8).length = 4 := by simp [be_length]
  rw [e3, List.set_append_right _ _ (by omega), List.set_append_right _ _ (by omega), hl]
  show ([79, 67] ++ be 2 n) ++ (UInt8.ofNat (u64N z % 256) :: 1 :: zer (n - 6)) = _
  rw [zer_split 4 (n - 6) (by omega), show n - 6 - 4 = n - 10 by omega, hn]
  unfold hdL
  simp
/-- One place more. -/
theorem enc_step {M : Msg} {l : List Nat} {k j n : Nat} (hk : l[k]? = some j) (hj : j < 42) (hf : Fit1 M j) (h : List UInt8) (hw : wS (l.take k) + wd j ≤ n) (hl : (blkL M (l.take k)).length = wS (l.take k)) :
    putAt (h ++ blkL M (l.take k) ++ zer (n - wS (l.take k))) (h.length + wS (l.take k)) (wrL M j) = h ++ blkL M (l.take (k + 1)) ++ zer (n - wS (l.take (k + 1))) := by
  have e : l.take (k + 1) = l.take k ++ [j] := by rw [List.take_add_one, hk]; rfl
  have hs : wS (l.take (k + 1)) = wS (l.take k) + wd j := by rw [e, wS_app]; simp [wS]
  have := put_wr hj hf (h ++ blkL M (l.take k)) (n - wS (l.take k)) (by omega)
  rw [List.length_append, hl] at this
  rw [this, hs, e, blkL_app]
  simp [blkL, Nat.sub_sub]
theorem wS_take (l : List Nat) (k : Nat) : wS (l.take k) ≤ wS l := by
  have := wS_app (l.take k) (l.drop k)
  rw [List.take_append_drop] at this
  omega
theorem wS_at {l : List Nat} {k j : Nat} (h : l[k]? = some j) : wS (l.take k) + wd j ≤ wS l := by
  have e : l.take (k + 1) = l.take k ++ [j] := by rw [List.take_add_one, h]; rfl
  have := wS_take l (k + 1)
  rw [e, wS_app] at this
  simpa [wS] using this
/-- All. -/
theorem enc_done {M : Msg} (hv : valE M = 0) (n : Nat) (hn : n = sizeN (M.z 0)) : putAt (hdL (M.z 0) ++ zer 4 ++ blkL M (js (M.z 0)) ++ zer (n - 10 - wS (js (M.z 0)))) 6 (be 4 (crcL ((hdL (M.z 0) ++ zer 4 ++ blkL M (js (M.z 0)) ++ zer (n - 10 - wS (js (M.z 0)))).take 6 ++ (hdL (M.z 0) ++ zer 4 ++ blkL M (js (M.z 0)) ++ zer (n - 10 - wS (js (M.z 0)))).drop 10))) = frameL M := by
  have hs := size_eq (valid_fit hv).1
  have eb : bodyB M = blkL M (js (M.z 0)) ++ zer (n - 10 - wS (js (M.z 0))) := by
    have ep : padN (wS (js (M.z 0))) = n - 10 - wS (js (M.z 0)) := by unfold padN; omega
    unfold bodyB; rw [ep]
  have e0 : hdL (M.z 0) ++ zer 4 ++ blkL M (js (M.z 0)) ++ zer (n - 10 - wS (js (M.z 0))) = hdL (M.z 0) ++ zer 4 ++ bodyB M := by rw [eb]; simp
  rw [e0, show (hdL (M.z 0) ++ zer 4 ++ bodyB M).take 6 = hdL (M.z 0) by rw [List.append_assoc, List.take_left' (hdL_length _)], show (hdL (M.z 0) ++ zer 4 ++ bodyB M).drop 10 = bodyB M by rw [List.drop_left' (by rw [List.length_append, hdL_length, zer_length])]]
  rw [putAt_mid (hdL (M.z 0)) _ (bodyB M) (hdL_length _).symm (zer 4) (by rw [zer_length, be_length])]
  rfl
end Go.Proofs.YtkpoheknmcepnaaGreatDoor
