/-
  num.ParseInt.
-/
import Derived.Test.YtnnfepapnimlcabDoorStr
namespace Go.Proofs.YtnnfepapnimlcabDoor
set_option linter.unusedVariables false
open Go.RowKit

set_option maxRecDepth 100000 in
set_option maxHeartbeats 400000 in
theorem cutDash_yes (s : ByteArray) (w : World) (h : neg? s.data.toList = true) :
    Calls Tryd.prog 47 #[.string s, .string ⟨#[45]⟩] w fun e w' => e = .returned (.tuple #[.string (s.extract 1 s.size), .bool true]) ∧ w' = w := by
  obtain ⟨h1, h2⟩ := dash_yes h
  have e1 : (!(s.extract 0 1).toList == [45]) = false := by rw [h2]; rfl
  clear h h2
  go_enter Tryd.func47, Tryd.ntmps47
  go_wp2
  go_ret2
  exact ⟨rfl, rfl⟩
set_option maxRecDepth 100000 in
set_option maxHeartbeats 400000 in
theorem cutDash_no (s : ByteArray) (w : World) (h : neg? s.data.toList = false) :
    Calls Tryd.prog 47 #[.string s, .string ⟨#[45]⟩] w fun e w' => e = .returned (.tuple #[.string s, .bool false]) ∧ w' = w := by
  have h2 := dash_no h
  have e1 : (!(s.extract 0 1).toList == [45]) = true := by simpa using h2
  clear h h2
  by_cases h1 : 1 ≤ (s.size : Int)
  all_goals
    go_enter Tryd.func47, Tryd.ntmps47
    go_wp2
    go_ret2
    exact ⟨rfl, rfl⟩

theorem ParseUint_tail (s : ByteArray) (m : Int) (w : World) (hs : (s.extract 1 s.size).size ≤ maxLen) (hm : m ≤ 9223372036854775807) :
    Calls Tryd.prog 16 #[.string (s.extract 1 s.size), .int .i64 m] w fun e w' => e = .returned (.tuple #[.int .i64 (puN s.data.toList.tail m), .int .i64 (puE s.data.toList.tail m)]) ∧ w' = w := by
  have h := ParseUint_any (s.extract 1 s.size) m w hs hm
  rw [tail_data] at h; exact h
set_option maxRecDepth 100000 in
set_option maxHeartbeats 400000 in
theorem ParseInt_any (s : ByteArray) (m : Int) (w : World) (hs : s.size ≤ maxLen) (hm : m ≤ 9223372036854775807) :
    Calls Tryd.prog 15 #[.string s, .int .i64 m] w fun e w' => e = .returned (.tuple #[.int .i64 (piN s.data.toList m), .int .i64 (piE s.data.toList m)]) ∧ w' = w := by
  by_cases hn : neg? s.data.toList = true
  · have hst : (s.extract 1 s.size).size ≤ maxLen := Nat.le_trans (tail_size s) hs
    by_cases hz : s.data.toList.tail = [48]
    · have HP : Hid (piN s.data.toList m = 0 ∧ piE s.data.toList m = 10) := pi_zero hn hz
      have ez : (s.extract 1 s.size).toList = [48] := by rw [tail_zero, hz]
      clear hz
      go_enter Tryd.func15, Tryd.ntmps15
      go_wp2_with (go_at_call 47; refine (cutDash_yes _ _ hn).mono ?_; rintro e w' ⟨rfl, rfl⟩)
      go_ret2
      exact ⟨ret2 (vint HP.out.1.symm) (vint HP.out.2.symm), rfl⟩
    · have HP : Hid (piN s.data.toList m = - puN s.data.toList.tail m ∧ piE s.data.toList m = puE s.data.toList.tail m) := pi_neg hn hz
      have ez : ((s.extract 1 s.size).toList == [48]) = false := by rw [tail_zero]; simpa using hz
      have hb := pu_bd s.data.toList.tail m hm
      obtain ⟨hb1, hb2⟩ := hb
      clear hz
      go_enter Tryd.func15, Tryd.ntmps15
      go_wp2_with (first | (go_at_call 47; refine (cutDash_yes _ _ hn).mono ?_; rintro e w' ⟨rfl, rfl⟩) | (go_at_call 16; refine (ParseUint_tail _ _ _ hst hm).mono ?_; rintro e w' ⟨rfl, rfl⟩))
      go_ret2
      exact ⟨ret2 (vint HP.out.1.symm) (vint HP.out.2.symm), rfl⟩
  · have hn' : neg? s.data.toList = false := by simpa using hn
    have HP : Hid (piN s.data.toList m = puN s.data.toList m ∧ piE s.data.toList m = puE s.data.toList m) := pi_pos hn'
    clear hn
    go_enter Tryd.func15, Tryd.ntmps15
    go_wp2_with (first | (go_at_call 47; refine (cutDash_no _ _ hn').mono ?_; rintro e w' ⟨rfl, rfl⟩) | (go_at_call 16; refine (ParseUint_any _ _ _ hs hm).mono ?_; rintro e w' ⟨rfl, rfl⟩))
    go_ret2
    exact ⟨ret2 (vint HP.out.1.symm) (vint HP.out.2.symm), rfl⟩

end Go.Proofs.YtnnfepapnimlcabDoor
