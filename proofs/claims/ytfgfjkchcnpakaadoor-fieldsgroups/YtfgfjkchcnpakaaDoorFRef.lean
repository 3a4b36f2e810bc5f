/-
  The reference's Print, Sum, three, IsTag, IsValue.
-/
import Derived.Test.YtfgfjkchcnpakaaDoorFBytes
namespace Go.Proofs.YtfgfjkchcnpakaaDoor
set_option linter.unusedVariables false
open Go.Shelf Go.RowKit Go.Sort Go.Lib

/-- A number without its sign. -/
def magI (n : Int) : Int := if n < 0 then -n else n
theorem magI_neg {n : Int} (h : n < 0) : magI n = -n := if_pos h
theorem magI_pos {n : Int} (h : ¬ n < 0) : magI n = n := if_neg h
theorem magI_bd {n : Int} (h0 : -9223372036854775808 ≤ n) (h1 : n ≤ 9223372036854775807) : 0 ≤ magI n ∧ magI n ≤ 9223372036854775808 := by
  unfold magI; split <;> omega
theorem size_any (n : Int) (h0 : -9223372036854775808 ≤ n) (h1 : n ≤ 9223372036854775807) (w : World) :
    Calls Tryd.prog 72 #[.int .i64 n] w fun e w' => e = .returned (.int .u64 (magI n)) ∧ w' = w := by
  by_cases hn : n < 0
  · have HM : Hid (magI n = -n) := magI_neg hn
    go_enter Tryd.func72, Tryd.ntmps72
    go_wp2
    go_ret
    refine ⟨ret_int ?_, rfl⟩
    rw [HM.out]; omega
  · have HM : Hid (magI n = n) := magI_pos hn
    go_enter Tryd.func72, Tryd.ntmps72
    go_wp2
    go_ret
    refine ⟨ret_int ?_, rfl⟩
    rw [HM.out]

/-- The digits of a number, as a text. -/
def decI (v : Int) : ByteArray := ⟨(decDigits v.toNat).toArray⟩
theorem nDigits_le (u : Nat) (h : u < 18446744073709551616) : nDigits u ≤ 20 := by
  by_cases h0 : u = 0
  · subst h0; rw [nDigits]; simp
  · have := numDigits_eq u (by omega) h; split at this <;> omega
theorem decI_le (v : Int) (h1 : v < 18446744073709551616) : (decI v).size ≤ 20 := by
  show ((decDigits v.toNat).toArray).size ≤ 20
  rw [List.size_toArray, decDigits_length]
  exact nDigits_le _ (by omega)

/-- Between two rounds of digits: what has been written, and what is left. -/
def DInv (u n : Nat) (l : List UInt8) : Prop := (l = [] ∧ n = u) ∨ (l ≠ [] ∧ n = 0 ∧ l = decDigits u) ∨ (l ≠ [] ∧ n ≠ 0 ∧ decDigits n ++ l = decDigits u)
/-- The last digit of a number. -/
def dch (n : Nat) : UInt8 := UInt8.ofNat (48 + n % 10)
theorem dch_lt {n : Nat} (h : n < 10) : dch n = UInt8.ofNat (48 + n) := by unfold dch; rw [Nat.mod_eq_of_lt h]
theorem DInv_step {u n : Nat} {l : List UInt8} (h : DInv u n l) (g : l = [] ∨ n ≠ 0) : DInv u (n / 10) (dch n :: l) := by
  have key : ∀ r, decDigits n ++ l = r → (n / 10 = 0 ∧ dch n :: l = r) ∨ (n / 10 ≠ 0 ∧ decDigits (n / 10) ++ dch n :: l = r) := by
    intro r hr
    by_cases h10 : n < 10
    · left
      rw [decDigits_one h10] at hr
      exact ⟨by omega, by rw [dch_lt h10]; exact hr⟩
    · right
      rw [decDigits, dif_neg h10] at hr
      exact ⟨by omega, by rw [List.append_assoc] at hr; exact hr⟩
  have hd : decDigits n ++ l = decDigits u := by
    rcases h with ⟨rfl, rfl⟩ | ⟨h1, h2, h3⟩ | ⟨h1, h2, h3⟩
    · simp
    · rcases g with g | g
      · exact absurd g h1
      · exact absurd h2 g
    · exact h3
  rcases key _ hd with ⟨a, b⟩ | ⟨a, b⟩
  · exact .inr (.inl ⟨by simp, a, b⟩)
  · exact .inr (.inr ⟨by simp, a, b⟩)
theorem DInv_len {u n : Nat} {l : List UInt8} (h : DInv u n l) (hu : u < 18446744073709551616) : l.length ≤ 20 := by
  have := nDigits_le u hu
  rw [← decDigits_length] at this
  rcases h with ⟨rfl, rfl⟩ | ⟨h1, h2, rfl⟩ | ⟨h1, h2, h3⟩
  · simp
  · exact this
  · rw [← h3, List.length_append] at this; omega
theorem dig_slice0 (W : World) : ∀ r : Nat, r < 10 → (Instr.slice 9 (.string ⟨#[48, 49, 50, 51, 52, 53, 54, 55, 56, 57]⟩) (some (.int .u64 (r : Int))) (some (.int .u64 ((r : Int) + 1))) none).run Tryd.prog W = .ok (.string ⟨#[UInt8.ofNat (48 + r)]⟩) W
  | 0, _ => by kernel_rfl
  | 1, _ => by kernel_rfl
  | 2, _ => by kernel_rfl
  | 3, _ => by kernel_rfl
  | 4, _ => by kernel_rfl
  | 5, _ => by kernel_rfl
  | 6, _ => by kernel_rfl
  | 7, _ => by kernel_rfl
  | 8, _ => by kernel_rfl
  | 9, _ => by kernel_rfl
  | n + 10, h => absurd h (by omega)
theorem dig_slice (n : Nat) (W : World) : (Instr.slice 9 (.string ⟨#[48, 49, 50, 51, 52, 53, 54, 55, 56, 57]⟩) (some (.int .u64 ((n : Int) % 10))) (some (.int .u64 ((n : Int) % 10 + 1))) none).run Tryd.prog W = .ok (.string ⟨#[dch n]⟩) W := by
  have e : (n : Int) % 10 = ((n % 10 : Nat) : Int) := by omega
  rw [e]
  exact dig_slice0 W (n % 10) (Nat.mod_lt _ (by decide))

def strOf : Value → ByteArray
  | .string s => s
  | _ => ⟨#[]⟩
theorem cons_bytes (c : UInt8) (t : ByteArray) : ((⟨#[c]⟩ : ByteArray) ++ t).data.toList = c :: t.data.toList := by
  rw [ByteArray.data_append]; simp

set_option maxRecDepth 100000 in
set_option maxHeartbeats 400000 in
theorem digits_any (u : Nat) (hu : u < 18446744073709551616) (w : World) :
    Calls Tryd.prog 71 #[.int .u64 (u : Int)] w fun e w' => e = .returned (.string ⟨(decDigits u).toArray⟩) ∧ w' = w := by
  go_enter Tryd.func71, Tryd.ntmps71
  go_wp2
  go_loop [0, 3] (fun a s => ∃ (n : Nat) (t : ByteArray), a = .int .u64 (n : Int) ∧ s = .string t ∧ n < 18446744073709551616 ∧ DInv u n t.data.toList) (fun a s => (RowKit.intOf a).toNat + (if (strOf s).data.toList = [] then 1 else 0))
  case atStart => exact ⟨u, ⟨#[]⟩, rfl, rfl, hu, .inl ⟨rfl, rfl⟩⟩
  case round =>
    obtain ⟨n, t, rfl, rfl, hn, hi⟩ := hrel
    have HI : Hid (DInv u n t.data.toList) := hi
    have hl := DInv_len hi hu
    rw [← Lib.size_eq] at hl
    have hsz : ¬ 9223372036854775807 < 1 + t.size := by omega
    have hsl := dig_slice n
    have HE : Hid (((⟨#[dch n]⟩ : ByteArray) ++ t).data.toList = dch n :: t.data.toList) := cons_bytes _ _
    clear hi hl
    by_cases ht : t.toList = []
    · have e2 : t.toList.isEmpty = true := by simpa using ht
      have ht' : t.data.toList = [] := by rw [← Lib.toList_data]; exact ht
      have HT : Hid (t.data.toList = []) := ht'
      clear ht ht'
      go_wp2
      go_round
      case rel => exact ⟨n / 10, _, by go_num, rfl, by omega, by rw [HE.out]; exact DInv_step HI.out (.inl HT.out)⟩
      case measure =>
        show (RowKit.intOf (Value.int IntKind.u64 ((n : Int) / 10))).toNat + (if ((⟨#[dch n]⟩ : ByteArray) ++ t).data.toList = [] then 1 else 0) < (RowKit.intOf (Value.int IntKind.u64 (n : Int))).toNat + (if t.data.toList = [] then 1 else 0)
        rw [HE.out, if_neg (by simp), if_pos HT.out]
        simp [RowKit.intOf]; omega
    · have e2 : t.toList.isEmpty = false := by simpa using ht
      have HT : Hid (¬ t.data.toList = []) := by rw [← Lib.toList_data]; exact ht
      clear ht
      by_cases hn0 : 0 < (n : Int)
      · go_wp2
        go_round
        case rel => exact ⟨n / 10, _, by go_num, rfl, by omega, by rw [HE.out]; exact DInv_step HI.out (.inr (by omega))⟩
        case measure =>
          show (RowKit.intOf (Value.int IntKind.u64 ((n : Int) / 10))).toNat + (if ((⟨#[dch n]⟩ : ByteArray) ++ t).data.toList = [] then 1 else 0) < (RowKit.intOf (Value.int IntKind.u64 (n : Int))).toNat + (if t.data.toList = [] then 1 else 0)
          rw [HE.out, if_neg (by simp), if_neg HT.out]
          simp [RowKit.intOf]; omega
      · have HF : Hid (t = ⟨(decDigits u).toArray⟩) := by
          rcases HI.out with ⟨h1, _⟩ | ⟨_, _, h3⟩ | ⟨_, h2, _⟩
          · exact absurd h1 HT.out
          · exact (Lib.mk_data t).symm.trans (by rw [h3])
          · omega
        go_wp2
        go_ret
        exact ⟨ret_str HF.out, rfl⟩
theorem digits_int (v : Int) (h0 : 0 ≤ v) (h1 : v < 18446744073709551616) (w : World) :
    Calls Tryd.prog 71 #[.int .u64 v] w fun e w' => e = .returned (.string (decI v)) ∧ w' = w := by
  obtain ⟨u, rfl⟩ : ∃ u : Nat, v = u := ⟨v.toNat, by omega⟩
  exact digits_any u (by omega) w
/-- What Print tells. -/
def prB (n : Int) : ByteArray := ⟨(itoa n).toArray⟩
theorem prB_neg {n : Int} (h : n < 0) : prB n = ⟨#[45]⟩ ++ decI (magI n) := by
  unfold prB decI itoa
  rw [if_pos h, magI_neg h, show (-n).toNat = n.natAbs by omega]
  apply ByteArray.ext
  rw [ByteArray.data_append]
  apply Array.ext'
  simp
theorem prB_pos {n : Int} (h : ¬ n < 0) : prB n = decI (magI n) := by
  unfold prB decI itoa
  rw [if_neg h, magI_pos h]
set_option maxRecDepth 100000 in
set_option maxHeartbeats 400000 in
theorem refPrint_any (n : Int) (h0 : -9223372036854775808 ≤ n) (h1 : n ≤ 9223372036854775807) (w : World) :
    Calls Tryd.prog 48 #[.int .i64 n] w fun e w' => e = .returned (.string (prB n)) ∧ w' = w := by
  have hm := magI_bd h0 h1
  obtain ⟨hm0, hm1⟩ := hm
  have hz := decI_le (magI n) (by omega)
  have c1 : ¬ 9223372036854775807 < 1 + (decI (magI n)).size := by omega
  clear hz
  by_cases hn : n < 0
  · have HS : Hid (prB n = ⟨#[45]⟩ ++ decI (magI n)) := prB_neg hn
    go_enter Tryd.func48, Tryd.ntmps48
    go_wp2_with (first | (go_at_call 72; refine (size_any n h0 h1 _).mono ?_; rintro e w' ⟨rfl, rfl⟩) | (go_at_call 71; refine (digits_int _ (by omega) (by omega) _).mono ?_; rintro e w' ⟨rfl, rfl⟩))
    go_ret
    exact ⟨ret_str HS.out.symm, rfl⟩
  · have HS : Hid (prB n = decI (magI n)) := prB_pos hn
    go_enter Tryd.func48, Tryd.ntmps48
    go_wp2_with (first | (go_at_call 72; refine (size_any n h0 h1 _).mono ?_; rintro e w' ⟨rfl, rfl⟩) | (go_at_call 71; refine (digits_int _ (by omega) (by omega) _).mono ?_; rintro e w' ⟨rfl, rfl⟩))
    go_ret
    exact ⟨ret_str HS.out.symm, rfl⟩

/-! The noughts at the end. -/
/-- Bytes that came in. -/
def Src (w : World) (a : Option Addr) (n : Nat) (d : Nat → Nat) : Prop := n = 0 ∨ ∃ b off, a = some ⟨b, off, none⟩ ∧ Row w b off n d
/-- Lists of bytes that came in. -/
def Src2 (w : World) (a : Option Addr) (n : Nat) (len : Nat → Nat) (d : Nat → Nat → Nat) : Prop := n = 0 ∨ ∃ b off, a = some ⟨b, off, none⟩ ∧ ∀ i, i < n → ∃ (ai : Option Addr) (c : Nat), w.cell? ⟨b, off + i, none⟩ = some (.slice ai (len i) c) ∧ len i ≤ 140737488351232 ∧ Src w ai (len i) (d i)

set_option maxRecDepth 100000 in
set_option maxHeartbeats 400000 in
theorem refSum_any (a : Option Addr) (n cap : Nat) (len : Nat → Nat) (d : Nat → Nat → Nat) (w : World) (hn : n ≤ 140737488351232) (hs : Src2 w a n len d) :
    Calls Tryd.prog 50 #[.slice a n cap] w fun e w' => e = .returned (.int .i64 (sumRows len d n : Int)) ∧ w' = w := by
  have HS : Hid (Src2 w a n len d) := hs
  clear hs
  go_enter Tryd.func50, Tryd.ntmps50
  go_wp2
  go_loop [3, 4, 5] (fun s i _ => ∃ k : Nat, k ≤ n ∧ i = .int .i64 k ∧ s = .int .i64 (sumRows len d k : Int)) (fun _ i _ => n - (RowKit.intOf i).toNat)
  case atStart => exact ⟨0, Nat.zero_le _, rfl, rfl⟩
  case round =>
    obtain ⟨k, hk, rfl, rfl⟩ := hrel
    by_cases hlt : k < n
    · rcases HS.out with h0 | ⟨b, off, ea, hr⟩
      · omega
      · obtain ⟨ai, c, hc, hl, hsi⟩ := hr k hlt
        subst ea
        have HSi : Hid (Src w ai (len k) (d k)) := hsi
        clear hr hsi
        have hlt' : (k : Int) < (n : Int) := by omega
        have HK : Hid (sumRows len d (k + 1) = sumRow (sumRows len d k) (d k) (len k)) := rfl
        have hs0 := sumRows_lt len d k
        go_wp2
        generalize sumRows len d k = s0 at *
        go_loop [3, 5] (fun s i => ∃ m : Nat, m ≤ len k ∧ i = .int .i64 m ∧ s = .int .i64 (sumRow s0 (d k) m : Int)) (fun _ i => len k - (RowKit.intOf i).toNat)
        case atStart => exact ⟨0, Nat.zero_le _, rfl, rfl⟩
        case round =>
          obtain ⟨m, hm, rfl, rfl⟩ := hrel
          by_cases hmm : m < len k
          · rcases HSi.out with h0 | ⟨bb, oo, ea, hrw⟩
            · omega
            · obtain ⟨hcm, hdm⟩ := hrw m hmm
              have hm' : (m : Int) < (len k : Int) := by omega
              have HZ : Hid (sumRow s0 (d k) (m + 1) = (sumRow s0 (d k) m + d k m) % 256) := rfl
              have hz := sumRow_lt hs0 (d k) m
              subst ea
              go_wp2
              go_round
              case rel => exact ⟨m + 1, by omega, by go_num, by rw [HZ.out]; rfl⟩
              case measure => simp [RowKit.intOf]; omega
          · obtain rfl : m = len k := by omega
            go_wp2
            go_round
            case rel => exact ⟨k + 1, by omega, by go_num, by rw [HK.out]⟩
            case measure => simp [RowKit.intOf]; omega
    · obtain rfl : k = n := by omega
      go_wp2
      go_ret
      exact ⟨rfl, rfl⟩

open Go.RowKit
theorem refSum_one (B : Nat) (b off k cap : Nat) (l : List UInt8) (w : World) (hk : k ≤ l.length) (hl : l.length ≤ 1048576000)
    (hB : w.cell? ⟨B, 0, none⟩ = some (.slice (some ⟨b, off, none⟩) k cap)) (h : ∀ j c, l[j]? = some c → w.cell? ⟨b, off + j, none⟩ = some (.int .u8 (c.toNat : Int))) :
    Calls Tryd.prog 50 #[.slice (some ⟨B, 0, none⟩) 1 1] w fun e w' => e = .returned (.int .i64 (sumL (l.take k) : Int)) ∧ w' = w := by
  have h1 := refSum_any (some ⟨B, 0, none⟩) 1 1 (fun _ => k) (fun _ => dOf l) w (by decide) (.inr ⟨B, 0, rfl, fun i hi => by
    obtain rfl : i = 0 := by omega
    refine ⟨some ⟨b, off, none⟩, cap, hB, by show k ≤ _; omega, .inr ⟨b, off, rfl, fun j hj => ⟨?_, ?_⟩⟩⟩
    · have hj' : j < k := hj
      have := h j l[j] (List.getElem?_eq_getElem (by omega))
      rw [this]
      show _ = some (Value.int .u8 ((dOf l j : Nat) : Int))
      unfold dOf
      rw [List.getD_eq_getElem?_getD, List.getElem?_eq_getElem (by omega)]; rfl
    · unfold dOf; exact UInt8.toNat_lt _⟩)
  have e : sumRows (fun _ => k) (fun _ => dOf l) 1 = sumL (l.take k) := by
    show sumRow 0 (dOf l) k = _
    exact sumRow_list l k hk
  rw [e] at h1
  exact h1
set_option maxRecDepth 100000 in
theorem refIsTag_any (t : Int) (w : World) : Calls Tryd.prog 46 #[.int .i64 t] w fun e w' => e = .returned (.bool (isTg t)) ∧ w' = w := by
  by_cases h1 : 1 ≤ t
  · by_cases h2 : t ≤ 9999
    · by_cases h8 : t = 8
      · subst h8
        have HE : Hid (isTg 8 = false) := by show isTg 8 = false; decide
        generalize isTg 8 = d at *
        go_enter Tryd.func46, Tryd.ntmps46
        go_wp2
        go_ret
        exact ⟨ret_bool HE.out.symm, rfl⟩
      · by_cases h9 : t = 9
        · subst h9
          have HE : Hid (isTg 9 = false) := by show isTg 9 = false; decide
          generalize isTg 9 = d at *
          go_enter Tryd.func46, Tryd.ntmps46
          go_wp2
          go_ret
          exact ⟨ret_bool HE.out.symm, rfl⟩
        · by_cases h10 : t = 10
          · subst h10
            have HE : Hid (isTg 10 = false) := by show isTg 10 = false; decide
            generalize isTg 10 = d at *
            go_enter Tryd.func46, Tryd.ntmps46
            go_wp2
            go_ret
            exact ⟨ret_bool HE.out.symm, rfl⟩
          · have HE : Hid (isTg t = true) := (isTg_iff t).2 ⟨h1, h2, by omega⟩
            have b8 : (t != 8) = true := by simpa using h8
            have b9 : (t != 9) = true := by simpa using h9
            have b10 : (t != 10) = true := by simpa using h10
            generalize isTg t = d at *
            go_enter Tryd.func46, Tryd.ntmps46
            go_wp2
            go_ret
            exact ⟨ret_bool HE.out.symm, rfl⟩
    · have HE : Hid (isTg t = false) := by show isTg t = false; unfold isTg; simp; omega
      have h2' : decide (t ≤ 9999) = false := decide_eq_false h2
      generalize isTg t = d at *
      go_enter Tryd.func46, Tryd.ntmps46
      go_wp2
      go_ret
      exact ⟨ret_bool HE.out.symm, rfl⟩
  · have HE : Hid (isTg t = false) := by show isTg t = false; unfold isTg; simp; omega
    have h1' : decide (1 ≤ t) = false := decide_eq_false h1
    generalize isTg t = d at *
    go_enter Tryd.func46, Tryd.ntmps46
    go_wp2
    go_ret
    exact ⟨ret_bool HE.out.symm, rfl⟩
theorem okV_no {s : ByteArray} {k : Nat} (h : k < s.size) (hb : vby s[k] = false) : okV s.data.toList = false := by
  unfold okV
  have : s.data.toList.all vby = false := by
    rw [List.all_eq_false]
    exact ⟨s[k], by rw [ByteArray.getElem_eq_getElem_data, ← Array.getElem_toList]; exact List.getElem_mem _, by simp [hb]⟩
  rw [this, Bool.and_false]
theorem okV_all {s : ByteArray} {k : Nat} (h : ¬ k < s.size) (ha : ∀ c ∈ s.data.toList.take k, vby c = true) : okV s.data.toList = !(s.toList == []) := by
  rw [List.take_of_length_le (by simp; omega)] at ha
  unfold okV
  rw [List.all_eq_true.2 ha, Bool.and_true, Lib.toList_data]
  cases s.data.toList <;> rfl
set_option maxRecDepth 100000 in
set_option maxHeartbeats 400000 in
theorem refIsValue_any (s : ByteArray) (w : World) (hs : s.size ≤ maxLen) : Calls Tryd.prog 47 #[.string s] w fun e w' => e = .returned (.bool (okV s.data.toList)) ∧ w' = w := by
  unfold maxLen at hs
  go_enter Tryd.func47, Tryd.ntmps47
  go_wp2
  go_loopw [3] (fun i wr => ∃ k : Nat, k ≤ s.size ∧ i = .int .i64 k ∧ (∀ c ∈ s.data.toList.take k, vby c = true) ∧ wr = w) (fun i _ => s.size - (RowKit.intOf i).toNat)
  case atStart => exact ⟨0, Nat.zero_le _, rfl, fun c hc => by simp at hc, rfl⟩
  case round =>
    obtain ⟨k, hk, rfl, hd, rfl⟩ := hrel
    have HD : Hid (∀ c ∈ s.data.toList.take k, vby c = true) := hd
    clear hd
    by_cases hlt : k < s.size
    · have hlt' : (k : Int) < (s.size : Int) := by omega
      by_cases h1 : (s[k].toNat : Int) < 32
      · have HX : Hid (okV s.data.toList = false) := okV_no hlt (by unfold vby; simp; omega)
        go_wp2
        go_ret
        exact ⟨ret_bool HX.out.symm, rfl⟩
      · have h1' : decide ((s[k].toNat : Int) < 32) = false := decide_eq_false h1
        by_cases h2 : 126 < (s[k].toNat : Int)
        · have HX : Hid (okV s.data.toList = false) := okV_no hlt (by unfold vby; simp; omega)
          go_wp2
          go_ret
          exact ⟨ret_bool HX.out.symm, rfl⟩
        · have h2' : decide (126 < (s[k].toNat : Int)) = false := decide_eq_false h2
          have hv : vby s[k] = true := (vby_iff _).2 ⟨by omega, by omega⟩
          have HV : Hid (vby s[k] = true) := hv
          clear hv
          go_wp2
          go_roundw
          case rel => exact ⟨k + 1, by omega, by go_num, all_take_succ vby s k hlt HD.out HV.out, by first | rfl | trivial⟩
          case measure => simp [RowKit.intOf]; omega
    · have HX : Hid (okV s.data.toList = !(s.toList == [])) := okV_all hlt HD.out
      go_wp2
      go_ret
      exact ⟨ret_bool (by rw [HX.out]; first | rfl | simp), rfl⟩
set_option maxRecDepth 100000 in
theorem refThree_any (n : Nat) (hn : n < 256) (w : World) : Calls Tryd.prog 49 #[.int .i64 (n : Int)] w fun e w' => e = .returned (.string (bs (three n))) ∧ Below w.heap.size w w' := by
  have h3 : ∀ c : Nat, c < 10 → ((UInt8.ofNat (48 + c)).toNat : Int) = 48 + (c : Int) := fun c hc => by rw [chr_nat hc]; omega
  have e1 := h3 (n / 100) (by omega)
  have e2 := h3 (n / 10 % 10) (by omega)
  have e3 := h3 (n % 10) (by omega)
  have hsrc : SrcB (w.alloc (.cells #[.int .u8 (48 + (n : Int) / 100), .int .u8 (48 + (n : Int) / 10 % 10), .int .u8 (48 + (n : Int) % 10)] 5)) (.slice (some ⟨w.heap.size, 0, none⟩) 3 3) (three n) := by
    refine ⟨_, 3, rfl, Nat.le_refl _, .inr ⟨w.heap.size, 0, rfl, fun j c hj => ?_⟩⟩
    rw [Nat.zero_add, cell_of_row _ _ j _ _ _ (heap_alloc_new w _)]
    have hj3 : j < 3 := (List.getElem?_eq_some_iff.1 hj).1
    have hjj : j = 0 ∨ j = 1 ∨ j = 2 := by omega
    rcases hjj with rfl | rfl | rfl
    · simp [three] at hj; subst hj; simp; omega
    · simp [three] at hj; subst hj; simp; omega
    · simp [three] at hj; subst hj; simp; omega
  have hcv := hsrc.conv
  have hb : Below w.heap.size w (w.alloc (.cells #[.int .u8 (48 + (n : Int) / 100), .int .u8 (48 + (n : Int) / 10 % 10), .int .u8 (48 + (n : Int) % 10)] 5)) := (Below.refl _ w).alloc (Nat.le_refl _) _
  have HB : Hid (Below w.heap.size w (w.alloc (.cells #[.int .u8 (48 + (n : Int) / 100), .int .u8 (48 + (n : Int) / 10 % 10), .int .u8 (48 + (n : Int) % 10)] 5))) := hb
  clear hb hsrc e1 e2 e3 h3
  generalize bs (three n) = T at *
  go_enter Tryd.func49, Tryd.ntmps49
  go_wp2
  go_ret
  exact ⟨rfl, HB.out⟩
end Go.Proofs.YtfgfjkchcnpakaaDoor
