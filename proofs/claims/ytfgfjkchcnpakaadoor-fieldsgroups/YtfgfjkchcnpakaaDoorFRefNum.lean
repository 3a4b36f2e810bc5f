/-
  The reference's numeral and ParseUint (as in Str2).
-/
import Derived.Test.YtfgfjkchcnpakaaDoorStr
namespace Go.Proofs.YtfgfjkchcnpakaaDoor
set_option linter.unusedVariables false
open Go.RowKit

set_option maxRecDepth 100000 in
set_option maxHeartbeats 400000 in
theorem numeral_any (s : ByteArray) (w : World) (hs : s.size ≤ maxLen) :
    Calls Tryd.prog 73 #[.string s] w fun e w' => e = .returned (.bool (numB s.data.toList)) ∧ w' = w := by
  unfold maxLen at hs
  by_cases h2 : s.toList = []
  · have HN : Hid (numB s.data.toList = false) := numB_nil h2
    go_enter Tryd.func73, Tryd.ntmps73
    go_wp2
    go_ret
    exact ⟨ret_bool HN.out.symm, rfl⟩
  have hp := size_pos h2
  have key : ((1 : Int) < (s.size : Int) ∧ (s[0].toNat : Int) = 48) ∨ (((1 : Int) < (s.size : Int) ∧ ¬ (s[0].toNat : Int) = 48) ∨ ¬ (1 : Int) < (s.size : Int)) := by omega
  rcases key with ⟨h1, h3⟩ | key
  · have HN : Hid (numB s.data.toList = false) := numB_lead (not_zero h1) hp h3
    go_enter Tryd.func73, Tryd.ntmps73
    go_wp2
    go_ret
    exact ⟨ret_bool HN.out.symm, rfl⟩
  have HN : Hid (numB s.data.toList = digs s.data.toList) := by
    rcases key with ⟨h1, h3⟩ | h1
    · exact numB_else hp h3
    · exact numB_one h2 h1
  have e2 : s.toList.isEmpty = false := by simpa using h2
  have key2 : ((1 : Int) < (s.size : Int) ∧ ((s[0].toNat : Int) == 48) = false) ∨ ¬ (1 : Int) < (s.size : Int) := key.imp (fun h => ⟨h.1, by simpa using h.2⟩) id
  clear key
  rcases key2 with ⟨h1, h3⟩ | h1
  all_goals
    go_enter Tryd.func73, Tryd.ntmps73
    go_wp2
    go_loop [3] (fun i => ∃ k : Nat, k ≤ s.size ∧ i = .int .i64 k ∧ digs (s.data.toList.take k) = true) (fun i => s.size - (intOf i).toNat)
    case atStart => exact ⟨0, Nat.zero_le _, rfl, rfl⟩
    case round =>
      obtain ⟨k, hk, rfl, hd⟩ := hrel
      have HD : Hid (digs (s.data.toList.take k) = true) := hd
      clear hd
      by_cases hlt : k < s.size
      · by_cases hdg : dig s[k] = true
        · have hb := (dig_iff _).1 hdg
          have HG : Hid (dig s[k] = true) := hdg
          clear hdg
          obtain ⟨hb1, hb2⟩ := hb
          go_wp2
          go_round
          case rel => exact ⟨k + 1, by omega, by go_num, by rw [digs_snoc s k hlt, HD.out, HG.out]; rfl⟩
          case measure => simp [intOf]; omega
        · have hn := digs_not s k hlt (by simpa using hdg)
          have hb : ¬ (48 ≤ (s[k].toNat : Int) ∧ (s[k].toNat : Int) ≤ 57) := fun h => hdg ((dig_iff _).2 h)
          have HX : Hid (numB s.data.toList = false) := HN.out.trans hn
          clear hn hdg
          by_cases h48 : (s[k].toNat : Int) < 48
          · clear hb
            go_wp2
            go_ret
            exact ⟨ret_bool HX.out.symm, rfl⟩
          · have h57 : 57 < (s[k].toNat : Int) := by omega
            have h48' : 48 ≤ (s[k].toNat : Int) := by omega
            clear hb h48
            go_wp2
            go_ret
            exact ⟨ret_bool HX.out.symm, rfl⟩
      · have HA : Hid (numB s.data.toList = true) := HN.out.trans (digs_all s k hlt HD.out)
        go_wp2
        go_ret
        exact ⟨ret_bool HA.out.symm, rfl⟩

set_option maxRecDepth 100000 in
set_option maxHeartbeats 400000 in
theorem refParseUint_any (s : ByteArray) (m : Int) (w : World) (hs : s.size ≤ maxLen) (hm : m ≤ 9223372036854775807) :
    Calls Tryd.prog 51 #[.string s, .int .i64 m] w fun e w' => e = .returned (.tuple #[.int .i64 (puN s.data.toList m), .int .i64 (puE s.data.toList m)]) ∧ w' = w := by
  by_cases hn : numB s.data.toList = true
  · have HD : Hid (digs s.data.toList = true) := numB_digs hn
    have HN : Hid (numB s.data.toList = true) := hn
    have hv0 := val_nonneg _ HD.out
    by_cases hm0 : m < 0
    · have HP : Hid (puN s.data.toList m = 0 ∧ puE s.data.toList m = 11) := pu_gt HN.out (by omega)
      go_enter Tryd.func51, Tryd.ntmps51
      go_wp2_with (go_at_call 73; refine (numeral_any _ _ hs).mono ?_; rintro e w' ⟨rfl, rfl⟩)
      go_ret2
      exact ⟨ret2 (vint HP.out.1.symm) (vint HP.out.2.symm), rfl⟩
    · have hm1 : 0 ≤ m := by omega
      clear hm0
      go_enter Tryd.func51, Tryd.ntmps51
      go_wp2_with (go_at_call 73; refine (numeral_any _ _ hs).mono ?_; rintro e w' ⟨rfl, rfl⟩)
      clear hn
      unfold maxLen at hs
      go_loop [7, 8, 9] (fun n i d => ∃ k : Nat, k ≤ s.size ∧ i = .int .i64 k ∧ n = .int .u64 (val (s.data.toList.take k)) ∧ val (s.data.toList.take k) ≤ m) (fun _ i _ => s.size - (intOf i).toNat)
      case atStart => exact ⟨0, Nat.zero_le _, rfl, rfl, by simpa [val] using hm1⟩
      case round =>
        obtain ⟨k, hk, rfl, rfl, hv⟩ := hrel
        have hvk := val_nonneg _ (digs_take _ k HD.out)
        by_cases hlt : k < s.size
        · have hb := digs_at s k hlt HD.out
          obtain ⟨hb1, hb2⟩ := hb
          have HS : Hid (val (s.data.toList.take (k + 1)) = val (s.data.toList.take k) * 10 + ((s[k].toNat : Int) - 48)) := val_snoc s k hlt
          have HM : Hid (val (s.data.toList.take (k + 1)) ≤ val s.data.toList) := val_mono _ (k + 1) HD.out
          generalize val (s.data.toList.take k) = v at *
          by_cases hg : m < (s[k].toNat : Int) - 48
          · have HP : Hid (puN s.data.toList m = 0 ∧ puE s.data.toList m = 11) := pu_gt HN.out (by have h1 := HS.out; have h2 := HM.out; omega)
            clear hv0
            go_wp2
            go_ret2
            exact ⟨ret2 (vint HP.out.1.symm) (vint HP.out.2.symm), rfl⟩
          · have hg' : (s[k].toNat : Int) - 48 ≤ m := by omega
            clear hg
            by_cases hq : (m - ((s[k].toNat : Int) - 48)) / 10 < v
            · have HP : Hid (puN s.data.toList m = 0 ∧ puE s.data.toList m = 11) := pu_gt HN.out (by have h1 := HS.out; have h2 := HM.out; omega)
              clear hv0
              go_wp2
              go_ret2
              exact ⟨ret2 (vint HP.out.1.symm) (vint HP.out.2.symm), rfl⟩
            · clear hv0
              go_wp2
              go_round
              case rel => exact ⟨k + 1, by omega, by go_num, vint (by rw [HS.out]; omega), by rw [HS.out]; omega⟩
              case measure => simp [intOf]; omega
        · have HA : Hid (val (s.data.toList.take k) = val s.data.toList) := val_all s k hlt
          have HP : Hid (puN s.data.toList m = val s.data.toList ∧ puE s.data.toList m = 0) := pu_le HN.out (by rw [← HA.out]; exact hv)
          clear hv0
          go_wp2
          go_ret2
          exact ⟨ret2 (vint (by rw [HP.out.1, ← HA.out])) (vint HP.out.2.symm), rfl⟩
  · have hn' : numB s.data.toList = false := by simpa using hn
    have HP : Hid (puN s.data.toList m = 0 ∧ puE s.data.toList m = 10) := pu_no hn'
    clear hn
    go_enter Tryd.func51, Tryd.ntmps51
    go_wp2_with (go_at_call 73; refine (numeral_any _ _ hs).mono ?_; rintro e w' ⟨rfl, rfl⟩)
    go_ret2
    exact ⟨ret2 (vint HP.out.1.symm) (vint HP.out.2.symm), rfl⟩

end Go.Proofs.YtfgfjkchcnpakaaDoor
