/-
  ParsePrice.
-/
import Derived.Test.YtnnfepapnimlcabDoorStr
import Derived.Test.YtnnfepapnimlcabDoorShelf
import Derived.Lib.IndexLaws
namespace Go.Proofs.YtnnfepapnimlcabDoor
set_option linter.unusedVariables false
open Go.RowKit

set_option maxRecDepth 100000 in
set_option maxHeartbeats 400000 in
theorem isPriceRest_any (s : ByteArray) (w : World) (hs : s.size ≤ maxLen) :
    Calls Tryd.prog 51 #[.string s] w fun e w' => e = .returned (.bool (restB s.data.toList)) ∧ w' = w := by
  by_cases h2 : s.toList = []
  · have e2 : s.toList.isEmpty = true := by simpa using h2
    have HB : Hid (restB s.data.toList = false) := by show restB _ = _; rw [← Lib.toList_data, h2]; rfl
    go_enter Tryd.func51, Tryd.ntmps51
    go_wp2_with fail
    go_ret
    exact ⟨ret_bool HB.out.symm, rfl⟩
  have e2 : s.toList.isEmpty = false := by simpa using h2
  by_cases h4 : (s.size : Int) ≤ 4
  · have HB : Hid (restB s.data.toList = digs s.data.toList) := by
      show restB _ = _
      have h5 : s.data.toList.length ≤ 4 := by rw [← Lib.size_eq]; omega
      have e3 : s.data.toList.isEmpty = false := by rw [← Lib.toList_data]; exact e2
      unfold restB; rw [e3, decide_eq_true h5]; rfl
    go_enter Tryd.func51, Tryd.ntmps51
    go_wp2_with (go_at_call 63; refine (areDigits_any _ _ hs).mono ?_; rintro e w' ⟨rfl, rfl⟩)
    go_ret
    refine ⟨ret_bool ?_, rfl⟩
    rw [HB.out]
    try simp
  · have HB : Hid (restB s.data.toList = false) := by
      show restB _ = _
      have h5 : ¬ s.data.toList.length ≤ 4 := by rw [← Lib.size_eq]; omega
      unfold restB; rw [decide_eq_false h5]; simp
    go_enter Tryd.func51, Tryd.ntmps51
    go_wp2_with fail
    go_ret
    refine ⟨ret_bool ?_, rfl⟩
    rw [HB.out]
    try simp

set_option maxRecDepth 100000 in
set_option maxHeartbeats 400000 in
theorem readPriceRest_any (s : ByteArray) (w : World) (hs : s.size ≤ maxLen) (hd : digs s.data.toList = true) :
    Calls Tryd.prog 52 #[.string s] w fun e w' => e = .returned (.int .i64 (restN s.data.toList 4)) ∧ w' = w := by
  unfold maxLen at hs
  have HD : Hid (digs s.data.toList = true) := hd
  clear hd
  go_enter Tryd.func52, Tryd.ntmps52
  go_wp2
  go_loop [3, 4, 5] (fun n _ i => ∃ k : Nat, k ≤ 4 ∧ i = .int .i64 k ∧ n = .int .i64 (restN s.data.toList k)) (fun _ _ i => 4 - (intOf i).toNat)
  case atStart => exact ⟨0, Nat.zero_le _, rfl, rfl⟩
  case round =>
    obtain ⟨k, hk, rfl, rfl⟩ := hrel
    have hv := restN_bd _ HD.out k hk
    obtain ⟨hv0, hv1⟩ := hv
    by_cases hlt : k < 4
    · have hlt' : (k : Int) < 4 := by omega
      by_cases hks : k < s.size
      · have hb := digs_at s k hks HD.out
        obtain ⟨hb1, hb2⟩ := hb
        have HS : Hid (restN s.data.toList (k + 1) = restN s.data.toList k * 10 + ((s[k].toNat : Int) - 48)) := restN_at s k hks
        generalize restN s.data.toList k = v at *
        go_wp2
        go_round
        case rel => exact ⟨k + 1, by omega, by go_num, by rw [HS.out]⟩
        case measure => simp [intOf]; omega
      · have HS : Hid (restN s.data.toList (k + 1) = restN s.data.toList k * 10) := restN_no s k hks
        generalize restN s.data.toList k = v at *
        go_wp2
        go_round
        case rel => exact ⟨k + 1, by omega, by go_num, by rw [HS.out]⟩
        case measure => simp [intOf]; omega
    · have ek : k = 4 := by omega
      subst ek
      go_wp2
      go_ret
      exact ⟨rfl, rfl⟩

/-- Where the point stands (below 0: nowhere). -/
def dotAt (s : ByteArray) : Int := Lib.indexByte s.data.toList 46

theorem dot_index (s : ByteArray) (w : World) : Calls Tryd.prog 77 #[.string s, .string ⟨#[46]⟩] w fun e w' => e = .returned (.int .i64 (dotAt s)) ∧ w' = w :=
  Tryd.stringslite_Index_one s 46 w
theorem dot_lt (s : ByteArray) (i : Nat) (h : dotAt s = i) : i < s.size := by
  have := (Lib.indexByte_some h).1
  rw [List.getElem?_eq_some_iff] at this
  obtain ⟨h1, _⟩ := this
  rw [Lib.size_eq]; exact h1
set_option maxRecDepth 100000 in
set_option maxHeartbeats 400000 in
theorem cutDot_no (s : ByteArray) (w : World) (h : dotAt s < 0) :
    Calls Tryd.prog 50 #[.string s, .string ⟨#[46]⟩] w fun e w' => e = .returned (.tuple #[.string s, .string ⟨#[]⟩, .bool false]) ∧ w' = w := by
  have inner : ∀ wx, Calls Tryd.prog 64 #[.string s, .string ⟨#[46]⟩] wx fun e w' => e = .returned (.tuple #[.string s, .string ⟨#[]⟩, .bool false]) ∧ w' = wx := fun wx => by
    go_enter Tryd.func64, Tryd.ntmps64
    go_wp2_with (go_at_call 77; refine (dot_index _ _).mono ?_; rintro e w' ⟨rfl, rfl⟩)
    go_ret3
    exact ⟨rfl, rfl⟩
  go_enter Tryd.func50, Tryd.ntmps50
  go_wp2_with (go_at_call 64; refine (inner _).mono ?_; rintro e w' ⟨rfl, rfl⟩)
  go_ret3
  exact ⟨rfl, rfl⟩
set_option maxRecDepth 100000 in
set_option maxHeartbeats 400000 in
theorem cutDot_yes (s : ByteArray) (w : World) (i : Nat) (h : dotAt s = i) (hs : s.size ≤ maxLen) :
    Calls Tryd.prog 50 #[.string s, .string ⟨#[46]⟩] w fun e w' => e = .returned (.tuple #[.string (s.extract 0 i), .string (s.extract (i + 1) s.size), .bool true]) ∧ ∃ k, w' = w.drewN k := by
  have hi := dot_lt s i h
  unfold maxLen at hs
  have inner : ∀ wx, Calls Tryd.prog 64 #[.string s, .string ⟨#[46]⟩] wx fun e w' => e = .returned (.tuple #[.string (s.extract 0 i), .string (s.extract (i + 1) s.size), .bool true]) ∧ ∃ k, w' = wx.drewN k := fun wx => by
    go_enter Tryd.func64, Tryd.ntmps64
    go_wp2_with (go_at_call 77; refine (dot_index _ _).mono ?_; rintro e w' ⟨rfl, rfl⟩)
    go_quiet (fail)
    go_wp2
    go_ret3
    exact ⟨rfl, _, rfl⟩
  go_enter Tryd.func50, Tryd.ntmps50
  go_wp2_with (go_at_call 64; refine (inner _).mono ?_; rintro e w' ⟨rfl, k, rfl⟩)
  go_ret3
  exact ⟨rfl, _, rfl⟩
end Go.Proofs.YtnnfepapnimlcabDoor
