import Derived.Test.YtchkpggdndnpjabGreatDoorG00
import Derived.Deep.RegionWith
import Derived.Deep.MidRow

namespace Go.Proofs.YtchkpggdndnpjabGreatDoor
set_option linter.unusedVariables false
open Go.RowKit

theorem below_drewN {B : Nat} {a w : World} (h : Below B a w) (n : Nat) : Below B a (w.drewN n) := ⟨h.os, h.tape, h.output, h.size, h.block⟩
/-- What the errors of a date are. -/
def dtE (z : Int) : Int := if dnB z then 0 else 21
theorem dn_range {z : Int} (h : dnB z = true) : ∃ n : Nat, dnum z = some n ∧ dnV z = (n : Int) ∧ n ≤ 2932896 := by
  unfold dnB at h
  obtain ⟨n, hn⟩ := Option.isSome_iff_exists.1 h
  exact ⟨n, hn, by unfold dnV; rw [hn], (dnum_some hn).1⟩
theorem dn_zero {z : Int} (h : dnB z = false) : dnV z = 0 := by
  unfold dnB at h
  unfold dnV
  rw [show dnum z = none by simpa using h]
set_option maxRecDepth 100000 in
set_option maxHeartbeats 400000 in
theorem Start_any (z : Int) (w : World) (hM : Mon w) (h0 : -9223372036854775808 ≤ z) (h1 : z ≤ 9223372036854775807) :
    Calls Tryz.prog 227 #[.int .i64 z] w fun e w' => e = .returned (.tuple #[.int .i64 (dnV z * 86400000), .int .i64 (dtE z)]) ∧ w' = w := by
  have hc := dayOfDate_any z w hM h0 h1
  cases hd : dnB z
  · rw [dn_zero hd] at hc ⊢
    rw [hd] at hc
    have e2 : dtE z = 21 := by unfold dtE; rw [hd]; rfl
    rw [e2]
    clear e2 hd
    go_enter Tryz.func227, Tryz.ntmps227
    go_wp2_with (go_at_call 252; refine hc.mono ?_; rintro e w ⟨rfl, rfl⟩)
    go_ret2
    exact ⟨rfl, rfl⟩
  · obtain ⟨n, _, hn, hl⟩ := dn_range hd
    rw [hn] at hc ⊢
    rw [hd] at hc
    have e2 : dtE z = 0 := by unfold dtE; rw [hd]; rfl
    rw [e2]
    clear e2 hd hn
    go_enter Tryz.func227, Tryz.ntmps227
    go_wp2_with (first | (go_at_call 252; refine hc.mono ?_; rintro e w ⟨rfl, rfl⟩) | (go_at_call 253; refine (startOfDay_any _ n rfl _ hl).mono ?_; rintro e w ⟨rfl, rfl⟩))
    go_ret2
    exact ⟨rfl, rfl⟩

end Go.Proofs.YtchkpggdndnpjabGreatDoor

namespace Go.Proofs.YtchkpggdndnpjabGreatDoor
set_option linter.unusedVariables false
open Go.RowKit

theorem ret_int' {k : IntKind} {a b : Int} (h : a = b) : Ending.returned (.int k a) = .returned (.int k b) := by rw [h]
/-- 1 to 17. -/
def isK (z : Int) : Bool := decide (1 ≤ z) && decide (z ≤ 17)
set_option maxRecDepth 100000 in
set_option maxHeartbeats 400000 in
theorem isKind_any (z : Int) (w : World) :
    Calls Tryz.prog 31 #[.int .i64 z] w fun e w' => e = .returned (.bool (isK z)) ∧ w' = w := by
  by_cases h1 : 1 ≤ z
  · by_cases h2 : z ≤ 17
    · rw [show isK z = true by simp [isK, h1, h2]]
      go_enter Tryz.func31, Tryz.ntmps31
      go_wp2
      go_ret
      first | exact ⟨rfl, rfl⟩ | exact ⟨ret_bool (by simp), rfl⟩
    · rw [show isK z = false by simp [isK, h1, h2]]
      go_enter Tryz.func31, Tryz.ntmps31
      go_wp2
      go_ret
      first | exact ⟨rfl, rfl⟩ | exact ⟨ret_bool (by simp), rfl⟩
  · rw [show isK z = false by simp [isK, h1]]
    go_enter Tryz.func31, Tryz.ntmps31
    go_wp2
    go_ret
    first | exact ⟨rfl, rfl⟩ | exact ⟨ret_bool (by simp), rfl⟩
/-- What there is of a number: 0 nothing, 1 it may be, 2 it may not be. -/
def stN (z most : Int) : Nat := if z = 0 then 0 else if z < 0 ∨ most < z then 2 else 1
set_option maxRecDepth 100000 in
set_option maxHeartbeats 400000 in
theorem number_int_any (z most : Int) (w : World) :
    Calls Tryz.prog 72 #[.int .i64 z, .int .i64 most] w fun e w' => e = .returned (.int .i64 (stN z most : Int)) ∧ w' = w := by
  by_cases h0 : z = 0
  · subst h0
    rw [show stN 0 most = 0 by simp [stN]]
    go_enter Tryz.func72, Tryz.ntmps72
    go_wp2
    go_ret
    exact ⟨rfl, rfl⟩
  · by_cases h1 : z < 0
    · rw [show stN z most = 2 by simp [stN, h0, h1]]
      go_enter Tryz.func72, Tryz.ntmps72
      go_wp2
      go_ret
      exact ⟨rfl, rfl⟩
    · by_cases h2 : most < z
      · rw [show stN z most = 2 by simp [stN, h0, h2]]
        go_enter Tryz.func72, Tryz.ntmps72
        go_wp2
        go_ret
        exact ⟨rfl, rfl⟩
      · rw [show stN z most = 1 by simp [stN, h0, h1, h2]]
        go_enter Tryz.func72, Tryz.ntmps72
        go_wp2
        go_ret
        exact ⟨rfl, rfl⟩
set_option maxRecDepth 100000 in
set_option maxHeartbeats 400000 in
theorem number_int64_any (z most : Int) (w : World) :
    Calls Tryz.prog 81 #[.int .i64 z, .int .i64 most] w fun e w' => e = .returned (.int .i64 (stN z most : Int)) ∧ w' = w := by
  by_cases h0 : z = 0
  · subst h0
    rw [show stN 0 most = 0 by simp [stN]]
    go_enter Tryz.func81, Tryz.ntmps81
    go_wp2
    go_ret
    exact ⟨rfl, rfl⟩
  · by_cases h1 : z < 0
    · rw [show stN z most = 2 by simp [stN, h0, h1]]
      go_enter Tryz.func81, Tryz.ntmps81
      go_wp2
      go_ret
      exact ⟨rfl, rfl⟩
    · by_cases h2 : most < z
      · rw [show stN z most = 2 by simp [stN, h0, h2]]
        go_enter Tryz.func81, Tryz.ntmps81
        go_wp2
        go_ret
        exact ⟨rfl, rfl⟩
      · rw [show stN z most = 1 by simp [stN, h0, h1, h2]]
        go_enter Tryz.func81, Tryz.ntmps81
        go_wp2
        go_ret
        exact ⟨rfl, rfl⟩
def stB (b : Bool) : Nat := if b then 1 else 0
set_option maxRecDepth 100000 in
set_option maxHeartbeats 400000 in
theorem flag_any (b : Bool) (w : World) :
    Calls Tryz.prog 79 #[.bool b] w fun e w' => e = .returned (.int .i64 (stB b : Int)) ∧ w' = w := by
  cases b
  · go_enter Tryz.func79, Tryz.ntmps79
    go_wp2
    go_ret
    exact ⟨rfl, rfl⟩
  · go_enter Tryz.func79, Tryz.ntmps79
    go_wp2
    go_ret
    exact ⟨rfl, rfl⟩
def stD (z : Int) : Nat := if z = 0 then 0 else if dnB z then 1 else 2
set_option maxRecDepth 100000 in
set_option maxHeartbeats 400000 in
theorem date_any (z : Int) (w : World) (hM : Mon w) (h0 : -9223372036854775808 ≤ z) (h1 : z ≤ 9223372036854775807) :
    Calls Tryz.prog 112 #[.int .i64 z] w fun e w' => e = .returned (.int .i64 (stD z : Int)) ∧ w' = w := by
  have hc := Start_any z w hM h0 h1
  by_cases hz : z = 0
  · subst hz
    rw [show stD 0 = 0 by simp [stD]]
    clear hc
    go_enter Tryz.func112, Tryz.ntmps112
    go_wp2
    go_ret
    exact ⟨rfl, rfl⟩
  · generalize dnV z * 86400000 = V at *
    cases hd : dnB z
    · rw [show stD z = 2 by simp [stD, hz, hd]]
      rw [show dtE z = 21 by simp [dtE, hd]] at hc
      clear hd
      go_enter Tryz.func112, Tryz.ntmps112
      go_wp2_with (go_at_call 227; refine hc.mono ?_; rintro e w ⟨rfl, rfl⟩)
      go_ret
      exact ⟨rfl, rfl⟩
    · rw [show stD z = 1 by simp [stD, hz, hd]]
      rw [show dtE z = 0 by simp [dtE, hd]] at hc
      clear hd
      go_enter Tryz.func112, Tryz.ntmps112
      go_wp2_with (go_at_call 227; refine hc.mono ?_; rintro e w ⟨rfl, rfl⟩)
      go_ret
      exact ⟨rfl, rfl⟩
theorem bit1_u32 (x : Nat) (h : x < 4294967296) : bits .and .u32 (x : Int) 1 = ((x % 2 : Nat) : Int) := by
  have h1 : (BitVec.ofInt 32 (x : Int)).toNat = x := by
    rw [BitVec.ofInt_natCast, BitVec.toNat_ofNat]; exact Nat.mod_eq_of_lt (by omega)
  have h2 : (BitVec.ofInt 32 (1 : Int)).toNat = 1 := by decide
  show IntKind.u32.wrap ((BitVec.ofInt 32 (x : Int) &&& BitVec.ofInt 32 1).toNat : Int) = _
  rw [BitVec.toNat_and, h1, h2, Nat.and_one_is_mod]
  have h3 : x % 2 = 0 ∨ x % 2 = 1 := by omega
  rcases h3 with h3 | h3 <;> rw [h3] <;> decide
theorem bit_has (m k : Nat) (hm : m < 4294967296) : (bits .and .u32 ((m : Int) / 2 ^ k) 1 == 1) = m.testBit k := by
  have e : ((m : Int) / 2 ^ k) = ((m / 2 ^ k : Nat) : Int) := by push_cast; rfl
  rw [e, bit1_u32 _ (Nat.lt_of_le_of_lt (Nat.div_le_self _ _) hm), Nat.testBit_eq_decide_div_mod_eq]
  generalize m / 2 ^ k = q
  have h3 : q % 2 = 0 ∨ q % 2 = 1 := by omega
  rcases h3 with h3 | h3 <;> rw [h3] <;> decide
set_option maxRecDepth 100000 in
set_option maxHeartbeats 400000 in
theorem has_any (k : Nat) (z : Int) (m : Nat) (hz : z = k) (hk : k ≤ 17) (hm : m < 4294967296) (w : World) :
    Calls Tryz.prog 123 #[.int .u32 m, .int .i64 z] w fun e w' => e = .returned (.bool (m.testBit k)) ∧ w' = w := by
  subst hz
  go_enter Tryz.func123, Tryz.ntmps123
  go_wp2
  go_ret
  exact ⟨ret_bool (bit_has m k hm), rfl⟩
/-- Bytes. -/
def isCap (c : Nat) : Bool := decide (65 ≤ c) && decide (c ≤ 90)
def isNm (c : Nat) : Bool := isCap c || (decide (48 ≤ c) && decide (c ≤ 57))
def isIdb (c : Nat) : Bool := isNm c || (decide (97 ≤ c) && decide (c ≤ 122)) || c == 46 || c == 95 || c == 45
def isTxt (c : Nat) : Bool := decide (32 ≤ c) && decide (c ≤ 126) && !(c == 124)
set_option maxRecDepth 100000 in
set_option maxHeartbeats 400000 in
theorem isCapital_any (c : Nat) (w : World) :
    Calls Tryz.prog 226 #[.int .u8 (c : Int)] w fun e w' => e = .returned (.bool (isCap c)) ∧ w' = w := by
  by_cases h1 : 65 ≤ c
  · have h1' : (65 : Int) ≤ (c : Int) := by omega
    by_cases h2 : c ≤ 90
    · have h2' : (c : Int) ≤ 90 := by omega
      rw [show isCap c = true by simp [isCap, h1, h2]]
      go_enter Tryz.func226, Tryz.ntmps226
      go_wp2
      go_ret
      first | exact ⟨rfl, rfl⟩ | exact ⟨ret_bool (by simp; try omega), rfl⟩
    · have h2' : ¬ (c : Int) ≤ 90 := by omega
      rw [show isCap c = false by simp [isCap, h2]]
      go_enter Tryz.func226, Tryz.ntmps226
      go_wp2
      go_ret
      first | exact ⟨rfl, rfl⟩ | exact ⟨ret_bool (by simp; try omega), rfl⟩
  · have h1' : ¬ (65 : Int) ≤ (c : Int) := by omega
    rw [show isCap c = false by simp [isCap, h1]]
    go_enter Tryz.func226, Tryz.ntmps226
    go_wp2
    go_ret
    first | exact ⟨rfl, rfl⟩ | exact ⟨ret_bool (by simp; try omega), rfl⟩
set_option maxRecDepth 100000 in
set_option maxHeartbeats 400000 in
theorem isNameByte_any (c : Nat) (w : World) :
    Calls Tryz.prog 223 #[.int .u8 (c : Int)] w fun e w' => e = .returned (.bool (isNm c)) ∧ w' = w := by
  have hc := isCapital_any c w
  cases hp : isCap c
  · rw [hp] at hc
    by_cases h1 : 48 ≤ c
    · have h1' : (48 : Int) ≤ (c : Int) := by omega
      by_cases h2 : c ≤ 57
      · have h2' : (c : Int) ≤ 57 := by omega
        rw [show isNm c = true by simp [isNm, hp, h1, h2]]
        go_enter Tryz.func223, Tryz.ntmps223
        go_wp2_with (go_at_call 226; refine hc.mono ?_; rintro e w ⟨rfl, rfl⟩)
        go_ret
        first | exact ⟨rfl, rfl⟩ | exact ⟨ret_bool (by simp; try omega), rfl⟩
      · have h2' : ¬ (c : Int) ≤ 57 := by omega
        rw [show isNm c = false by simp [isNm, hp, h2]]
        go_enter Tryz.func223, Tryz.ntmps223
        go_wp2_with (go_at_call 226; refine hc.mono ?_; rintro e w ⟨rfl, rfl⟩)
        go_ret
        first | exact ⟨rfl, rfl⟩ | exact ⟨ret_bool (by simp; try omega), rfl⟩
    · have h1' : ¬ (48 : Int) ≤ (c : Int) := by omega
      rw [show isNm c = false by simp [isNm, hp, h1]]
      go_enter Tryz.func223, Tryz.ntmps223
      go_wp2_with (go_at_call 226; refine hc.mono ?_; rintro e w ⟨rfl, rfl⟩)
      go_ret
      first | exact ⟨rfl, rfl⟩ | exact ⟨ret_bool (by simp; try omega), rfl⟩
  · rw [hp] at hc
    rw [show isNm c = true by simp [isNm, hp]]
    go_enter Tryz.func223, Tryz.ntmps223
    go_wp2_with (go_at_call 226; refine hc.mono ?_; rintro e w ⟨rfl, rfl⟩)
    go_ret
    first | exact ⟨rfl, rfl⟩ | exact ⟨ret_bool (by simp; try omega), rfl⟩

end Go.Proofs.YtchkpggdndnpjabGreatDoor
