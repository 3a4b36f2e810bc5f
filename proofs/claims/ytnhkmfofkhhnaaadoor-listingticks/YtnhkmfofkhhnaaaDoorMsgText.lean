/-
  msg: bytes, texts.
-/
import Derived.Test.YtnhkmfofkhhnaaaDoorMsgLeaf
namespace Go.Proofs.YtnhkmfofkhhnaaaDoor
set_option linter.unusedVariables false
open Go.RowKit

/-- All bytes of a text; of its first k. -/
def allB (p : Nat → Bool) (s : ByteArray) : Bool := s.data.toList.all fun c => p c.toNat
def allTo (p : Nat → Bool) (s : ByteArray) (k : Nat) : Bool := (s.data.toList.take k).all fun c => p c.toNat
theorem allTo_succ (p : Nat → Bool) (s : ByteArray) (k : Nat) (h : k < s.size) : allTo p s (k + 1) = (allTo p s k && p s[k].toNat) := by
  unfold allTo; rw [take_snoc s k h]; simp
theorem allTo_all (p : Nat → Bool) (s : ByteArray) : allTo p s s.size = allB p s := by
  unfold allTo allB; rw [List.take_of_length_le (by simp)]
theorem allB_false {p : Nat → Bool} {s : ByteArray} {k : Nat} (h : k < s.size) (hp : p s[k].toNat = false) : allB p s = false := by
  unfold allB
  rw [List.all_eq_false]
  exact ⟨s[k], by simp [ByteArray.getElem_eq_getElem_data], by simp [hp]⟩
set_option maxRecDepth 100000 in
set_option maxHeartbeats 400000 in
theorem consists_isNm (s : ByteArray) (w : World) (hs : s.size ≤ 60) :
    Calls Tryd.prog 70 #[.string s, .func (.func 71) #[] #[]] w fun e w' => e = .returned (.bool (allB isNm s)) ∧ w' = w := by
  go_enter Tryd.func70, Tryd.ntmps70
  go_wp2
  go_loopw [5, 8] (fun x i wr => ∃ k : Nat, k ≤ s.size ∧ i = .int .i64 k ∧ Hid (allTo isNm s k = true) ∧ wr = w) (fun _ i _ => s.size - (intOf i).toNat)
  case atStart => exact ⟨0, by omega, rfl, by show allTo _ _ _ = _; simp [allTo], rfl⟩
  case round =>
    obtain ⟨k, hk, rfl, ha, rfl⟩ := hrel
    by_cases hlt : k < s.size
    · have hlt' : (k : Int) < (s.size : Int) := by omega
      have hc : ∀ w, _ := fun w => isNameByte_any s[k].toNat w
      cases hp : isNm s[k].toNat
      · have hr : Hid (allB isNm s = false) := allB_false hlt hp
        simp only [hp] at hc
        clear hp ha
        go_wp2_with (go_at_call 71; refine (hc _).mono ?_; rintro e w ⟨rfl, rfl⟩)
        go_ret
        exact ⟨ret_bool hr.out.symm, by first | rfl | trivial⟩
      · have hr : Hid (allTo isNm s (k + 1) = true) := by show allTo _ _ _ = _; rw [allTo_succ _ _ _ hlt, hp, ha.out]; rfl
        simp only [hp] at hc
        clear hp ha
        go_wp2_with (go_at_call 71; refine (hc _).mono ?_; rintro e w ⟨rfl, rfl⟩)
        go_roundw
        case rel => exact ⟨k + 1, by omega, by go_num, hr, by first | rfl | trivial⟩
        case measure => simp [intOf]; omega
    · obtain rfl : k = s.size := by omega
      have hr : Hid (allB isNm s = true) := by show allB _ _ = _; rw [← allTo_all]; exact ha.out
      clear ha
      go_wp2
      go_ret
      exact ⟨ret_bool hr.out.symm, by first | rfl | trivial⟩
/-- Names, IDs, symbols, texts. -/
def nmS (s : ByteArray) : Bool := decide (1 ≤ s.size) && decide (s.size ≤ 12) && allB isNm s
def idS (s : ByteArray) : Bool := decide (1 ≤ s.size) && decide (s.size ≤ 20) && allB isIdb s
def byte0 (s : ByteArray) : Nat := (s.data.toList.getD 0 0).toNat
def syS (s : ByteArray) : Bool := decide (1 ≤ s.size) && decide (s.size ≤ 8) && isCap (byte0 s) && allB isNm s
def txS (s : ByteArray) : Bool := decide (s.size ≤ 60) && allB isTxt s
def tiS (s : ByteArray) : Bool := decide (s.size ≤ 20) && txS s
theorem byte0_eq (s : ByteArray) (h : 0 < s.size) : byte0 s = s[0].toNat := by
  unfold byte0
  rw [List.getD_eq_getElem?_getD, List.getElem?_eq_getElem (by simpa using h)]
  rfl
set_option maxRecDepth 100000 in
set_option maxHeartbeats 400000 in
theorem IsSymbol_any (s : ByteArray) (w : World) :
    Calls Tryd.prog 44 #[.string s] w fun e w' => e = .returned (.bool (syS s)) ∧ w' = w := by
  by_cases h1 : 1 ≤ s.size
  · have h1' : (1 : Int) ≤ (s.size : Int) := by omega
    by_cases h2 : s.size ≤ 8
    · have h2' : (s.size : Int) ≤ 8 := by omega
      have hc := consists_isNm s w (by omega)
      have hd := isCapital_any s[0].toNat w
      have h0 : 0 < s.size := h1
      have h0' : (0 : Int) < (s.size : Int) := by omega
      rw [← byte0_eq s h0] at hd
      cases hp : isCap (byte0 s)
      · rw [show syS s = false by simp [syS, hp]]
        rw [hp, byte0_eq s h0] at hd
        clear hp
        go_enter Tryd.func44, Tryd.ntmps44
        go_wp2_with (first | (go_at_call 70; refine hc.mono ?_; rintro e w ⟨rfl, rfl⟩) | (go_at_call 69; refine hd.mono ?_; rintro e w ⟨rfl, rfl⟩))
        go_ret
        first | exact ⟨rfl, rfl⟩ | exact ⟨ret_bool (by simp; try omega), rfl⟩
      · have e : syS s = allB isNm s := by simp [syS, h1, h2, hp]
        rw [e]
        rw [hp, byte0_eq s h0] at hd
        clear e hp
        generalize allB isNm s = b at *
        go_enter Tryd.func44, Tryd.ntmps44
        go_wp2_with (first | (go_at_call 70; refine hc.mono ?_; rintro e w ⟨rfl, rfl⟩) | (go_at_call 69; refine hd.mono ?_; rintro e w ⟨rfl, rfl⟩))
        go_ret
        first | exact ⟨rfl, rfl⟩ | exact ⟨ret_bool (by simp; try omega), rfl⟩
    · have h2' : ¬ (s.size : Int) ≤ 8 := by omega
      rw [show syS s = false by simp [syS, h2]]
      go_enter Tryd.func44, Tryd.ntmps44
      go_wp2
      go_ret
      first | exact ⟨rfl, rfl⟩ | exact ⟨ret_bool (by simp; try omega), rfl⟩
  · have h1' : ¬ (1 : Int) ≤ (s.size : Int) := by omega
    rw [show syS s = false by simp [syS, h1]]
    go_enter Tryd.func44, Tryd.ntmps44
    go_wp2
    go_ret
    first | exact ⟨rfl, rfl⟩ | exact ⟨ret_bool (by simp; try omega), rfl⟩
/-- What there is of a text. -/
def stT (p : ByteArray → Bool) (s : ByteArray) : Nat := if s.size = 0 then 0 else if p s then 1 else 2
theorem isEmpty_size (s : ByteArray) : s.toList.isEmpty = (s.size == 0) := by
  rw [ByteArray.toList_eq]
  show _ = (s.data.toList.length == 0)
  cases s.data.toList <;> rfl
end Go.Proofs.YtnhkmfofkhhnaaaDoor
