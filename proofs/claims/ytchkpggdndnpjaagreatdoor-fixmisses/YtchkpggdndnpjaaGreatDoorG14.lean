import Derived.Test.YtchkpggdndnpjaaGreatDoorProg
import Derived.Test.YtchkpggdndnpjaaGreatDoorG00
import Derived.WalkLawsBesides
import Derived.Deep.QuietTactic
import Derived.BigQuiet
import Derived.Deep.RegionWith

namespace Go.Proofs.YtchkpggdndnpjaaGreatDoor
set_option linter.unusedVariables false
open Go.RowKit

set_option maxRecDepth 100000 in
set_option maxHeartbeats 400000 in
theorem areDigits_any (s : ByteArray) (w : World) (hs : s.size ≤ maxLen) :
    Calls Tryz.prog 193 #[.string s] w fun e w' => e = .returned (.bool (digs s.data.toList)) ∧ w' = w := by
  unfold maxLen at hs
  go_enter Tryz.func193, Tryz.ntmps193
  go_wp2
  go_loop [3, 6] (fun j i => ∃ k : Nat, k ≤ s.size ∧ i = .int .i64 k ∧ digs (s.data.toList.take k) = true) (fun _ i => s.size - (intOf i).toNat)
  case atStart => exact ⟨0, Nat.zero_le _, rfl, rfl⟩
  case round =>
    obtain ⟨k, hk, rfl, hd⟩ := hrel
    have HD : Hid (digs (s.data.toList.take k) = true) := hd
    clear hd
    by_cases hlt : k < s.size
    · by_cases hdg : dig s[k] = true
      · have hb := (dig_iff _).1 hdg
        have HG : Hid (dig s[k] = true) := hdg
        clear hdg
        obtain ⟨hb1, hb2⟩ := hb
        go_wp2
        go_round
        case rel => exact ⟨k + 1, by omega, by go_num, by rw [digs_snoc s k hlt, HD.out, HG.out]; rfl⟩
        case measure => simp [intOf]; omega
      · have hn := digs_not s k hlt (by simpa using hdg)
        have hb : ¬ (48 ≤ (s[k].toNat : Int) ∧ (s[k].toNat : Int) ≤ 57) := fun h => hdg ((dig_iff _).2 h)
        have HN : Hid (digs s.data.toList = false) := hn
        clear hn hdg
        by_cases h48 : (s[k].toNat : Int) < 48
        · clear hb
          go_wp2
          go_ret
          exact ⟨ret_bool HN.out.symm, rfl⟩
        · have h57 : 57 < (s[k].toNat : Int) := by omega
          have h48' : 48 ≤ (s[k].toNat : Int) := by omega
          clear hb h48
          go_wp2
          go_ret
          exact ⟨ret_bool HN.out.symm, rfl⟩
    · have HA : Hid (digs s.data.toList = true) := digs_all s k hlt HD.out
      go_wp2
      go_ret
      exact ⟨ret_bool HA.out.symm, rfl⟩

set_option maxRecDepth 100000 in
set_option maxHeartbeats 400000 in
theorem isNumeral_any (s : ByteArray) (w : World) (hs : s.size ≤ maxLen) :
    Calls Tryz.prog 185 #[.string s] w fun e w' => e = .returned (.bool (numB s.data.toList)) ∧ w' = w := by
  by_cases h1 : s.toList = [48]
  · have HN : Hid (numB s.data.toList = true) := numB_zero h1
    go_enter Tryz.func185, Tryz.ntmps185
    go_wp2_with fail
    go_ret
    exact ⟨ret_bool HN.out.symm, rfl⟩
  by_cases h2 : s.toList = []
  · have HN : Hid (numB s.data.toList = false) := numB_nil h2
    go_enter Tryz.func185, Tryz.ntmps185
    go_wp2_with fail
    go_ret
    exact ⟨ret_bool HN.out.symm, rfl⟩
  have hp := size_pos h2
  by_cases h3 : (s[0].toNat : Int) = 48
  · have HN : Hid (numB s.data.toList = false) := numB_lead h1 hp h3
    go_enter Tryz.func185, Tryz.ntmps185
    go_wp2_with fail
    go_ret
    refine ⟨ret_bool ?_, rfl⟩
    rw [HN.out]; simp [h1]
  · have HN : Hid (numB s.data.toList = digs s.data.toList) := numB_else hp h3
    go_enter Tryz.func185, Tryz.ntmps185
    go_wp2_with (go_at_call 193; refine (areDigits_any _ _ hs).mono ?_; rintro e w' ⟨rfl, rfl⟩)
    go_ret
    refine ⟨ret_bool ?_, rfl⟩
    have e1 : (s.toList == [48]) = false := by simpa using h1
    have e2 : s.toList.isEmpty = false := by simpa using h2
    have e3 : ((s[0].toNat : Int) != 48) = true := by simpa using h3
    rw [HN.out, e1, e2, e3]; rfl

set_option maxRecDepth 100000 in
set_option maxHeartbeats 400000 in
theorem readNumeral_any (s : ByteArray) (w : World) (hs : s.size ≤ maxLen) (hd : digs s.data.toList = true) :
    Calls Tryz.prog 186 #[.string s] w fun e w' => e = .returned (.tuple #[.int .i64 (rdN (val s.data.toList)), .bool (rdB (val s.data.toList))]) ∧ w' = w := by
  unfold maxLen at hs
  have HD : Hid (digs s.data.toList = true) := hd
  clear hd
  go_enter Tryz.func186, Tryz.ntmps186
  go_wp2
  go_loop [4, 5, 6, 9] (fun n j d i => ∃ k : Nat, k ≤ s.size ∧ i = .int .i64 k ∧ n = .int .i64 (val (s.data.toList.take k)) ∧ val (s.data.toList.take k) ≤ 9223372036854775807) (fun _ _ _ i => s.size - (intOf i).toNat)
  case atStart => exact ⟨0, Nat.zero_le _, rfl, rfl, by simp [val]⟩
  case round =>
    obtain ⟨k, hk, rfl, rfl, hv⟩ := hrel
    have hv0 := val_nonneg _ (digs_take _ k HD.out)
    by_cases hlt : k < s.size
    · have hb := digs_at s k hlt HD.out
      obtain ⟨hb1, hb2⟩ := hb
      have HS : Hid (val (s.data.toList.take (k + 1)) = val (s.data.toList.take k) * 10 + ((s[k].toNat : Int) - 48)) := val_snoc s k hlt
      have HM : Hid (val (s.data.toList.take (k + 1)) ≤ val s.data.toList) := val_mono _ (k + 1) HD.out
      generalize val (s.data.toList.take k) = v at *
      by_cases hg : v ≤ (9223372036854775807 - ((s[k].toNat : Int) - 48)) / 10
      · go_wp2
        go_round
        case rel => exact ⟨k + 1, by omega, by go_num, by rw [HS.out], by rw [HS.out]; omega⟩
        case measure => simp [intOf]; omega
      · have HX : Hid (9223372036854775807 < val s.data.toList) := by
          have h1 := HS.out; have h2 := HM.out
          show _ < _; omega
        go_wp2
        go_ret2
        exact ⟨ret2 (vint (rdN_gt HX.out).symm) (vbool (rdB_gt HX.out).symm), rfl⟩
    · have HA : Hid (val (s.data.toList.take k) = val s.data.toList) := val_all s k hlt
      go_wp2
      go_ret2
      exact ⟨ret2 (vint (by rw [← HA.out, rdN_le hv])) (vbool (by rw [← HA.out, rdB_le hv])), rfl⟩

set_option maxRecDepth 100000 in
set_option maxHeartbeats 400000 in
theorem ParseUint_any (s : ByteArray) (m : Int) (w : World) (hs : s.size ≤ maxLen) (hm : m ≤ 9223372036854775807) :
    Calls Tryz.prog 111 #[.string s, .int .i64 m] w fun e w' => e = .returned (.tuple #[.int .i64 (puN s.data.toList m), .int .i64 (puE s.data.toList m)]) ∧ w' = w := by
  by_cases hn : numB s.data.toList = true
  · have HD := numB_digs hn
    have HN : Hid (numB s.data.toList = true) := hn
    by_cases hv : val s.data.toList ≤ 9223372036854775807
    · have HR : rdN (val s.data.toList) = val s.data.toList := rdN_le hv
      have HB := rdB_le hv
      by_cases hg : m < val s.data.toList
      · have HP : Hid (puN s.data.toList m = 0 ∧ puE s.data.toList m = 11) := pu_gt HN.out hg
        clear hv
        go_enter Tryz.func111, Tryz.ntmps111
        go_wp2_with (first | (go_at_call 185; refine (isNumeral_any _ _ hs).mono ?_; rintro e w' ⟨rfl, rfl⟩) | (go_at_call 186; refine (readNumeral_any _ _ hs HD).mono ?_; rintro e w' ⟨rfl, rfl⟩))
        go_ret2
        exact ⟨ret2 (vint HP.out.1.symm) (vint HP.out.2.symm), rfl⟩
      · have HP : Hid (puN s.data.toList m = val s.data.toList ∧ puE s.data.toList m = 0) := pu_le HN.out (by omega)
        go_enter Tryz.func111, Tryz.ntmps111
        go_wp2_with (first | (go_at_call 185; refine (isNumeral_any _ _ hs).mono ?_; rintro e w' ⟨rfl, rfl⟩) | (go_at_call 186; refine (readNumeral_any _ _ hs HD).mono ?_; rintro e w' ⟨rfl, rfl⟩))
        go_ret2
        exact ⟨ret2 (vint HP.out.1.symm) (vint HP.out.2.symm), rfl⟩
    · have HB := rdB_gt (v := val s.data.toList) (by omega)
      have HP : Hid (puN s.data.toList m = 0 ∧ puE s.data.toList m = 11) := pu_gt HN.out (by omega)
      go_enter Tryz.func111, Tryz.ntmps111
      go_wp2_with (first | (go_at_call 185; refine (isNumeral_any _ _ hs).mono ?_; rintro e w' ⟨rfl, rfl⟩) | (go_at_call 186; refine (readNumeral_any _ _ hs HD).mono ?_; rintro e w' ⟨rfl, rfl⟩))
      go_ret2
      exact ⟨ret2 (vint HP.out.1.symm) (vint HP.out.2.symm), rfl⟩
  · have hn' : numB s.data.toList = false := by simpa using hn
    have HP : Hid (puN s.data.toList m = 0 ∧ puE s.data.toList m = 10) := pu_no hn'
    clear hn
    go_enter Tryz.func111, Tryz.ntmps111
    go_wp2_with (go_at_call 185; refine (isNumeral_any _ _ hs).mono ?_; rintro e w' ⟨rfl, rfl⟩)
    go_ret2
    exact ⟨ret2 (vint HP.out.1.symm) (vint HP.out.2.symm), rfl⟩
end Go.Proofs.YtchkpggdndnpjaaGreatDoor
