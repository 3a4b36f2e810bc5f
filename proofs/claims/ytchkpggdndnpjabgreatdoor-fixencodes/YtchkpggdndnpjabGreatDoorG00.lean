import Derived.WalkKit
import Derived.WalkSpells
import Derived.Lib.Strings
import Derived.Test.YtchkpggdndnpjabGreatDoorProg
import Derived.WalkLawsBesides
import Derived.Lib.LaidTab
import Derived.Deep.QuietTactic
import Derived.BigQuiet
import Derived.BigRegion

namespace Go.Proofs.YtchkpggdndnpjabGreatDoor
set_option linter.unusedVariables false
open Go.RowKit

theorem ret_int {k : IntKind} {a b : Int} (h : a = b) : Ending.returned (.int k a) = .returned (.int k b) := by rw [h]

theorem ret_bool {a b : Bool} (h : a = b) : Ending.returned (.bool a) = .returned (.bool b) := by rw [h]
theorem ret_str {a b : ByteArray} (h : a = b) : Ending.returned (.string a) = .returned (.string b) := by rw [h]
theorem ret2 {a b c d : Value} (h : a = b) (g : c = d) : Ending.returned (.tuple #[a, c]) = .returned (.tuple #[b, d]) := by rw [h, g]
theorem ret3 {a b c d x y : Value} (h : a = b) (g : c = d) (f : x = y) : Ending.returned (.tuple #[a, c, x]) = .returned (.tuple #[b, d, y]) := by rw [h, g, f]
theorem vint {k : IntKind} {a b : Int} (h : a = b) : Value.int k a = .int k b := by rw [h]
theorem vbool {a b : Bool} (h : a = b) : Value.bool a = .bool b := by rw [h]
theorem take_snoc (s : ByteArray) (k : Nat) (h : k < s.size) : s.data.toList.take (k + 1) = s.data.toList.take k ++ [s[k]] := by
  rw [List.take_succ_eq_append_getElem (by simpa using h)]; rfl

/-- Is a byte a digit? -/
def dig (c : UInt8) : Bool := decide (48 ≤ (c.toNat : Int)) && decide ((c.toNat : Int) ≤ 57)
def digs (l : List UInt8) : Bool := l.all dig
theorem dig_iff (c : UInt8) : dig c = true ↔ 48 ≤ (c.toNat : Int) ∧ (c.toNat : Int) ≤ 57 := by simp [dig]
theorem digs_snoc (s : ByteArray) (k : Nat) (h : k < s.size) : digs (s.data.toList.take (k + 1)) = (digs (s.data.toList.take k) && dig s[k]) := by
  rw [take_snoc s k h]; simp [digs]
theorem digs_all (s : ByteArray) (k : Nat) (h : ¬ k < s.size) (hd : digs (s.data.toList.take k) = true) : digs s.data.toList = true := by
  rw [List.take_of_length_le (by simp; omega)] at hd; exact hd
theorem digs_not (s : ByteArray) (k : Nat) (h : k < s.size) (hd : dig s[k] = false) : digs s.data.toList = false := by
  unfold digs; rw [List.all_eq_false]
  exact ⟨s[k], by rw [ByteArray.getElem_eq_getElem_data, ← Array.getElem_toList]; exact List.getElem_mem _, by simp [hd]⟩
theorem digs_at (s : ByteArray) (k : Nat) (h : k < s.size) (hd : digs s.data.toList = true) : 48 ≤ (s[k].toNat : Int) ∧ (s[k].toNat : Int) ≤ 57 := by
  rw [← dig_iff]
  by_cases e : dig s[k] = true
  · exact e
  · have := digs_not s k h (by simpa using e); rw [this] at hd; cases hd

/-- The number of a list of digits. -/
def val (l : List UInt8) : Int := l.foldl (fun n c => n * 10 + ((c.toNat : Int) - 48)) 0
theorem val_snoc (s : ByteArray) (k : Nat) (h : k < s.size) : val (s.data.toList.take (k + 1)) = val (s.data.toList.take k) * 10 + ((s[k].toNat : Int) - 48) := by
  rw [take_snoc s k h]; simp [val, List.foldl_append]
theorem foldl_mono (l : List UInt8) (hd : digs l = true) (n : Int) (hn : 0 ≤ n) : n ≤ l.foldl (fun n c => n * 10 + ((c.toNat : Int) - 48)) n := by
  induction l generalizing n with
  | nil => simp
  | cons c l ih =>
    simp only [digs, List.all_cons, Bool.and_eq_true] at hd
    have hc := (dig_iff c).1 hd.1
    have := ih hd.2 (n * 10 + ((c.toNat : Int) - 48)) (by omega)
    simp only [List.foldl_cons]; omega
theorem digs_take (l : List UInt8) (k : Nat) (hd : digs l = true) : digs (l.take k) = true := by
  unfold digs at *; rw [List.all_eq_true] at *
  exact fun x hx => hd x (List.mem_of_mem_take hx)
theorem val_nonneg (l : List UInt8) (hd : digs l = true) : 0 ≤ val l := foldl_mono l hd 0 (by omega)
theorem val_mono (l : List UInt8) (k : Nat) (hd : digs l = true) : val (l.take k) ≤ val l := by
  conv => rhs; rw [← List.take_append_drop k l]
  unfold val; rw [List.foldl_append]
  refine foldl_mono (l.drop k) ?_ _ (val_nonneg _ (digs_take l k hd))
  unfold digs at *; rw [List.all_eq_true] at *
  exact fun x hx => hd x (List.mem_of_mem_drop hx)
theorem val_all (s : ByteArray) (k : Nat) (h : ¬ k < s.size) : val (s.data.toList.take k) = val s.data.toList := by
  rw [List.take_of_length_le (by simp; omega)]

/-- Is a list a numeral? -/
def numB (l : List UInt8) : Bool := digs l && (match l with | [] => false | [_] => true | c :: _ :: _ => c != 48)
theorem numB_zero {s : ByteArray} (h : s.toList = [48]) : numB s.data.toList = true := by
  rw [Lib.toList_data] at h; rw [h]; decide
theorem numB_nil {s : ByteArray} (h : s.toList = []) : numB s.data.toList = false := by
  rw [Lib.toList_data] at h; rw [h]; decide
theorem size_pos {s : ByteArray} (h : ¬ s.toList = []) : 0 < s.size := by
  rw [Lib.toList_data] at h; rw [Lib.size_eq]; exact List.length_pos_iff.2 h
theorem head_eq (s : ByteArray) (h : 0 < s.size) : ∃ l, s.data.toList = s[0] :: l := by
  cases e : s.data.toList with
  | nil => rw [Lib.size_eq, e] at h; simp at h
  | cons c l =>
    refine ⟨l, ?_⟩
    have : s[0] = s.data.toList[0]'(by rw [e]; simp) := by rw [ByteArray.getElem_eq_getElem_data, Array.getElem_toList]
    rw [this]; simp [e]
theorem toNat48 {c : UInt8} (h : (c.toNat : Int) = 48) : c = 48 := by
  have h2 : c.toNat = 48 := by omega
  exact UInt8.toNat_inj.1 (h2.trans rfl)
theorem numB_lead {s : ByteArray} (h1 : ¬ s.toList = [48]) (hp : 0 < s.size) (h3 : (s[0].toNat : Int) = 48) : numB s.data.toList = false := by
  obtain ⟨l, e⟩ := head_eq s hp
  rw [Lib.toList_data, e] at h1
  rw [e, toNat48 h3]
  rw [toNat48 h3] at h1
  cases l with
  | nil => simp at h1
  | cons d l => simp [numB]
theorem numB_else {s : ByteArray} (hp : 0 < s.size) (h3 : ¬ (s[0].toNat : Int) = 48) : numB s.data.toList = digs s.data.toList := by
  obtain ⟨l, e⟩ := head_eq s hp
  have h4 : s[0] ≠ 48 := fun h => h3 (by rw [h]; rfl)
  rw [e]
  cases l with
  | nil => simp [numB]
  | cons d l => simp [numB, h4]
theorem numB_digs {l : List UInt8} (h : numB l = true) : digs l = true := by
  unfold numB at h; rw [Bool.and_eq_true] at h; exact h.1
/-- What readNumeral tells of a number. -/
def rdN (v : Int) : Int := if v ≤ 9223372036854775807 then v else 0
def rdB (v : Int) : Bool := decide (v ≤ 9223372036854775807)
theorem rdN_le {v : Int} (h : v ≤ 9223372036854775807) : rdN v = v := if_pos h
theorem rdB_le {v : Int} (h : v ≤ 9223372036854775807) : rdB v = true := decide_eq_true h
theorem rdN_gt {v : Int} (h : 9223372036854775807 < v) : rdN v = 0 := if_neg (by omega)
theorem rdB_gt {v : Int} (h : 9223372036854775807 < v) : rdB v = false := decide_eq_false (by omega)
/-- What ParseUint tells. -/
def puN (l : List UInt8) (m : Int) : Int := if numB l = true ∧ val l ≤ m then val l else 0
def puE (l : List UInt8) (m : Int) : Int := if numB l = true then (if val l ≤ m then 0 else 11) else 10
theorem pu_no {l : List UInt8} {m : Int} (h : numB l = false) : puN l m = 0 ∧ puE l m = 10 := by simp [puN, puE, h]
theorem pu_le {l : List UInt8} {m : Int} (h : numB l = true) (g : val l ≤ m) : puN l m = val l ∧ puE l m = 0 := by simp [puN, puE, h, g]
theorem pu_gt {l : List UInt8} {m : Int} (h : numB l = true) (g : m < val l) : puN l m = 0 ∧ puE l m = 11 := by
  have : ¬ val l ≤ m := by omega
  simp [puN, puE, h, this]
theorem numB_one {s : ByteArray} (h : ¬ s.toList = []) (h1 : ¬ (1 : Int) < (s.size : Int)) : numB s.data.toList = digs s.data.toList := by
  have hp := size_pos h
  obtain ⟨l, e⟩ := head_eq s hp
  have hz : s.data.toList.length = 1 := by rw [← Lib.size_eq]; omega
  rw [e] at hz ⊢
  cases l with
  | nil => simp [numB]
  | cons d l => simp at hz
theorem not_zero {s : ByteArray} (h1 : (1 : Int) < (s.size : Int)) : ¬ s.toList = [48] := by
  intro h
  have := congrArg List.length h
  rw [Lib.toList_data, ← Lib.size_eq] at this
  simp at this; omega
theorem pu_bd (l : List UInt8) (m : Int) (hm : m ≤ 9223372036854775807) : 0 ≤ puN l m ∧ puN l m ≤ 9223372036854775807 := by
  unfold puN; split
  · rename_i h
    have := val_nonneg l (numB_digs h.1); omega
  · omega
/-- Does a list begin with the minus sign? What stands behind it. -/
def neg? (l : List UInt8) : Bool := match l with | [] => false | c :: _ => c == 45
/-- What ParseInt tells. -/
def piN (l : List UInt8) (m : Int) : Int := if neg? l = true then (if l.tail = [48] then 0 else - puN l.tail m) else puN l m
def piE (l : List UInt8) (m : Int) : Int := if neg? l = true then (if l.tail = [48] then 10 else puE l.tail m) else puE l m
theorem tail_data (s : ByteArray) : (s.extract 1 s.size).data.toList = s.data.toList.tail := by
  rw [Lib.extract_data, List.take_of_length_le (by simp)]; simp
theorem neg_yes {s : ByteArray} (hp : 0 < s.size) (h : (s[0].toNat : Int) = 45) : neg? s.data.toList = true := by
  obtain ⟨l, e⟩ := head_eq s hp
  have : s[0] = 45 := UInt8.toNat_inj.1 ((by omega : s[0].toNat = 45).trans rfl)
  rw [e, this]; rfl
theorem neg_no {s : ByteArray} (hp : 0 < s.size) (h : ¬ (s[0].toNat : Int) = 45) : neg? s.data.toList = false := by
  obtain ⟨l, e⟩ := head_eq s hp
  have : s[0] ≠ 45 := fun g => h (by rw [g]; rfl)
  rw [e]; simp [neg?, this]
theorem neg_nil {s : ByteArray} (h : s.toList = []) : neg? s.data.toList = false := by
  rw [Lib.toList_data] at h; rw [h]; rfl
theorem pi_pos {l : List UInt8} {m : Int} (h : neg? l = false) : piN l m = puN l m ∧ piE l m = puE l m := by simp [piN, piE, h]
theorem pi_zero {l : List UInt8} {m : Int} (h : neg? l = true) (g : l.tail = [48]) : piN l m = 0 ∧ piE l m = 10 := by simp [piN, piE, h, g]
theorem pi_neg {l : List UInt8} {m : Int} (h : neg? l = true) (g : ¬ l.tail = [48]) : piN l m = - puN l.tail m ∧ piE l m = puE l.tail m := by simp [piN, piE, h, g]
theorem puE_ne {l : List UInt8} {m : Int} (h : ¬ puE l m = 0) : puN l m = 0 := by
  unfold puN puE at *; split <;> simp_all
theorem dash_yes {s : ByteArray} (h : neg? s.data.toList = true) : 1 ≤ (s.size : Int) ∧ (s.extract 0 1).toList = [45] := by
  rw [Lib.extract_toList, Lib.size_eq]
  cases e : s.data.toList with
  | nil => rw [e] at h; cases h
  | cons c l =>
    rw [e] at h
    simp only [neg?, beq_iff_eq] at h
    subst h
    simp; omega
theorem dash_no {s : ByteArray} (h : neg? s.data.toList = false) : ¬ (s.extract 0 1).toList = [45] := by
  rw [Lib.extract_toList]
  cases e : s.data.toList with
  | nil => simp
  | cons c l =>
    rw [e] at h
    simp [neg?] at h
    simpa using h
theorem tail_zero {s : ByteArray} : (s.extract 1 s.size).toList = s.data.toList.tail := by
  rw [Lib.toList_data, tail_data]
theorem tail_size (s : ByteArray) : (s.extract 1 s.size).size ≤ s.size := by
  have h : (s.extract 1 s.size).data.toList.length ≤ s.data.toList.length := by rw [tail_data]; simp
  rw [← Lib.size_eq, ← Lib.size_eq] at h; exact h

/-- One bit's turn of the Crc; so many; a byte's; a row's. -/
def crcBit (c : Nat) : Nat := if c % 2 = 1 then c / 2 ^^^ 3988292384 else c / 2
def crcBits : Nat → Nat → Nat
  | 0, c => c
  | m + 1, c => crcBit (crcBits m c)
def crcByte (c d : Nat) : Nat := crcBits 8 (c ^^^ d)
def crcRow (d : Nat → Nat) : Nat → Nat
  | 0 => 4294967295
  | k + 1 => crcByte (crcRow d k) (d k)
def crcEnd (c : Nat) : Nat := 4294967295 ^^^ c
theorem xor_lt32 {a b : Nat} (ha : a < 4294967296) (hb : b < 4294967296) : a ^^^ b < 4294967296 := Nat.xor_lt_two_pow (n := 32) ha hb
theorem crcBit_lt {c : Nat} (h : c < 4294967296) : crcBit c < 4294967296 := by
  unfold crcBit; split
  · exact xor_lt32 (by omega) (by decide)
  · omega
theorem crcBits_lt (m : Nat) {c : Nat} (h : c < 4294967296) : crcBits m c < 4294967296 := by
  induction m with
  | zero => exact h
  | succ m ih => exact crcBit_lt ih
theorem crcRow_lt (d : Nat → Nat) (k : Nat) (h : ∀ j, j < k → d j < 256) : crcRow d k < 4294967296 := by
  induction k with
  | zero => show 4294967295 < 4294967296; decide
  | succ k ih => exact crcBits_lt 8 (xor_lt32 (ih fun j hj => h j (by omega)) (Nat.lt_of_lt_of_le (h k (by omega)) (by decide)))
theorem crcBit_odd {c : Nat} (h : c % 2 = 1) : crcBit c = c / 2 ^^^ 3988292384 := if_pos h
theorem crcBit_even {c : Nat} (h : ¬ c % 2 = 1) : crcBit c = c / 2 := if_neg h

/-- The rest of a price, behind the point. -/
def restB (l : List UInt8) : Bool := !l.isEmpty && decide (l.length ≤ 4) && digs l
/-- The ten-thousandths of it: so many of its four places. -/
def plc : Option UInt8 → Int
  | some c => (c.toNat : Int) - 48
  | none => 0
def restN (l : List UInt8) : Nat → Int
  | 0 => 0
  | k + 1 => restN l k * 10 + plc l[k]?
theorem restN_succ (l : List UInt8) (k : Nat) : restN l (k + 1) = restN l k * 10 + plc l[k]? := rfl
theorem digs_mem {l : List UInt8} (hd : digs l = true) {k : Nat} {c : UInt8} (h : l[k]? = some c) : 48 ≤ (c.toNat : Int) ∧ (c.toNat : Int) ≤ 57 := by
  rw [← dig_iff]
  unfold digs at hd
  rw [List.all_eq_true] at hd
  exact hd c (List.mem_of_getElem? h)
theorem restN_bd (l : List UInt8) (hd : digs l = true) (k : Nat) (hk : k ≤ 4) : 0 ≤ restN l k ∧ restN l k ≤ 9999 := by
  have step : ∀ j, 0 ≤ restN l j → 0 ≤ restN l (j + 1) ∧ restN l (j + 1) ≤ restN l j * 10 + 9 := by
    intro j hj
    rw [restN_succ]
    cases hc : l[j]? with
    | none =>
      have : plc none = 0 := rfl
      omega
    | some c =>
      have := digs_mem hd hc
      have e : plc (some c) = (c.toNat : Int) - 48 := rfl
      omega
  have z : restN l 0 = 0 := rfl
  have h1 := step 0 (by omega)
  have h2 := step 1 h1.1
  have h3 := step 2 h2.1
  have h4 := step 3 h3.1
  have : k = 0 ∨ k = 1 ∨ k = 2 ∨ k = 3 ∨ k = 4 := by omega
  rcases this with rfl | rfl | rfl | rfl | rfl <;> simp only [Nat.zero_add, Nat.reduceAdd] at * <;> omega
theorem get_at (s : ByteArray) (k : Nat) (h : k < s.size) : s.data.toList[k]? = some s[k] := by
  rw [ByteArray.getElem_eq_getElem_data, Array.getElem?_toList]
  exact Array.getElem?_eq_getElem _
theorem get_no (s : ByteArray) (k : Nat) (h : ¬ k < s.size) : s.data.toList[k]? = none := by
  rw [List.getElem?_eq_none_iff, ← Lib.size_eq]; omega
theorem restN_at (s : ByteArray) (k : Nat) (h : k < s.size) : restN s.data.toList (k + 1) = restN s.data.toList k * 10 + ((s[k].toNat : Int) - 48) := by
  rw [restN_succ, get_at s k h]; rfl
theorem restN_no (s : ByteArray) (k : Nat) (h : ¬ k < s.size) : restN s.data.toList (k + 1) = restN s.data.toList k * 10 := by
  rw [restN_succ, get_no s k h]
  exact Int.add_zero _
end Go.Proofs.YtchkpggdndnpjabGreatDoor

namespace Go.Proofs.YtchkpggdndnpjabGreatDoor
set_option linter.unusedVariables false

def leapN (y : Nat) : Nat := if y % 4 = 0 ∧ ¬ y % 100 = 0 ∨ y % 400 = 0 then 1 else 0
theorem leapN_le (y : Nat) : leapN y ≤ 1 := by unfold leapN; split <;> omega
/-- How long a month is. -/
def mlen (y m : Nat) : Nat := if m = 2 then 28 + leapN y else if m = 4 ∨ m = 6 ∨ m = 9 ∨ m = 11 then 30 else 31
theorem mlen_pos (y m : Nat) : 28 ≤ mlen y m := by unfold mlen; split <;> (try split) <;> omega
theorem mlen_le (y m : Nat) : mlen y m ≤ 31 := by have := leapN_le y; unfold mlen; split <;> (try split) <;> omega
/-- The days ahead of a year, from 1970 on. -/
def ahead (y : Nat) : Nat := (y - 1970) * 365 + (y - 1) / 4 + (y - 1) / 400 - (y - 1) / 100 - 477
theorem step4 (y : Nat) (h : 1 ≤ y) : y / 4 = (y - 1) / 4 + (if y % 4 = 0 then 1 else 0) := by split <;> omega
theorem step100 (y : Nat) (h : 1 ≤ y) : y / 100 = (y - 1) / 100 + (if y % 100 = 0 then 1 else 0) := by split <;> omega
theorem step400 (y : Nat) (h : 1 ≤ y) : y / 400 = (y - 1) / 400 + (if y % 400 = 0 then 1 else 0) := by split <;> omega
theorem leaps_ge (x : Nat) (h : 1969 ≤ x) : x / 100 + 477 ≤ x / 4 + x / 400 := by
  have e1 : x / 100 = x / 4 / 25 := by rw [Nat.div_div_eq_div_mul]
  have e2 : x / 400 = x / 4 / 100 := by rw [Nat.div_div_eq_div_mul]
  rw [e1, e2]
  have : 492 ≤ x / 4 := by omega
  omega
theorem leapN_eq (y : Nat) : (if y % 4 = 0 then 1 else 0) + (if y % 400 = 0 then 1 else 0) = (if y % 100 = 0 then 1 else 0) + leapN y := by
  unfold leapN
  have h1 : y % 400 = 0 → y % 100 = 0 := by omega
  have h2 : y % 100 = 0 → y % 4 = 0 := by omega
  by_cases a : y % 4 = 0 <;> by_cases b : y % 100 = 0 <;> by_cases c : y % 400 = 0 <;> simp [a, b, c] <;> simp_all
theorem ahead_succ (y : Nat) (h : 1970 ≤ y) : ahead (y + 1) = ahead y + 365 + leapN y := by
  have h1 := step4 y (by omega)
  have h2 := step100 y (by omega)
  have h3 := step400 y (by omega)
  have h4 := leapN_eq y
  have h5 := leaps_ge (y - 1) (by omega)
  unfold ahead
  rw [show y + 1 - 1 = y by omega, h1, h2, h3]
  generalize (y - 1) / 4 = a at *
  generalize (y - 1) / 100 = b at *
  generalize (y - 1) / 400 = c at *
  generalize (if y % 4 = 0 then 1 else 0) = d at *
  generalize (if y % 100 = 0 then 1 else 0) = e at *
  generalize (if y % 400 = 0 then 1 else 0) = f at *
  generalize leapN y = g at *
  omega
theorem ahead_le {y z : Nat} (h : 1970 ≤ y) (hz : y ≤ z) : ahead y ≤ ahead z := by
  induction hz with
  | refl => exact Nat.le_refl _
  | @step k hk ih => rw [ahead_succ k (Nat.le_trans h hk)]; omega
theorem ahead_first : ahead 1970 = 0 := by decide
theorem ahead_last : ahead 10000 = 2932897 := by decide
/-- The days ahead of a month. -/
def msum (y : Nat) : Nat → Nat
  | 0 => 0
  | k + 1 => msum y k + mlen y (k + 1)
theorem msum_mono (y : Nat) {j k : Nat} (h : j ≤ k) : msum y j ≤ msum y k := by
  induction h with
  | refl => exact Nat.le_refl _
  | step _ ih => exact Nat.le_trans ih (by rw [msum]; omega)
theorem msum_year (y : Nat) : msum y 12 = 365 + leapN y := by
  simp [msum, mlen]; omega
/-- A date. -/
structure IsD (y m d : Nat) : Prop where
  y0 : 1970 ≤ y
  y1 : y ≤ 9999
  m0 : 1 ≤ m
  m1 : m ≤ 12
  d0 : 1 ≤ d
  d1 : d ≤ mlen y m
theorem IsD.day {y m d : Nat} (h : IsD y m d) : d ≤ 31 := Nat.le_trans h.d1 (mlen_le y m)
def dayNo (y m d : Nat) : Nat := ahead y + msum y (m - 1) + (d - 1)
theorem IsD.lo {y m d : Nat} (h : IsD y m d) : ahead y ≤ dayNo y m d := by unfold dayNo; omega
theorem IsD.in_month {y m d : Nat} (h : IsD y m d) : dayNo y m d < ahead y + msum y m := by
  have h1 := h.m0; have h2 := h.d1; have h3 := h.d0
  obtain ⟨k, rfl⟩ : ∃ k, m = k + 1 := ⟨m - 1, by omega⟩
  unfold dayNo
  simp only [Nat.add_sub_cancel, msum]
  omega
theorem IsD.hi {y m d : Nat} (h : IsD y m d) : dayNo y m d < ahead (y + 1) := by
  have h1 := h.in_month
  have h2 := msum_mono y h.m1
  rw [msum_year] at h2
  rw [ahead_succ y h.y0]
  omega
theorem IsD.last {y m d : Nat} (h : IsD y m d) : dayNo y m d ≤ 2932896 := by
  have h1 := h.hi
  have h2 := ahead_le (y := y + 1) (z := 10000) (by have := h.y0; omega) (by have := h.y1; omega)
  rw [ahead_last] at h2
  omega
def encD (y m d : Nat) : Nat := y * 10000 + m * 100 + d
theorem IsD.enc {y m d : Nat} (h : IsD y m d) : encD y m d / 10000 = y ∧ encD y m d / 100 % 100 = m ∧ encD y m d % 100 = d := by
  have := h.m1; have := h.day; unfold encD; omega
/-- Dates stand as their days do. -/
theorem IsD.lt {y m d y' m' d' : Nat} (h : IsD y m d) (h' : IsD y' m' d') (hlt : encD y m d < encD y' m' d') : dayNo y m d < dayNo y' m' d' := by
  have a1 := h.m1; have a2 := h.day; have a3 := h.m0; have a4 := h.d0
  have b1 := h'.m1; have b2 := h'.day; have b3 := h'.m0; have b4 := h'.d0
  unfold encD at hlt
  rcases Nat.lt_or_ge y y' with hy | hy
  · have h1 := h.hi
    have h2 := h'.lo
    have h3 := ahead_le (y := y + 1) (z := y') (by have := h.y0; omega) hy
    omega
  · obtain rfl : y = y' := by omega
    rcases Nat.lt_or_ge m m' with hm | hm
    · have h1 := h.in_month
      have h2 := msum_mono y (j := m) (k := m' - 1) (by omega)
      unfold dayNo at *
      omega
    · obtain rfl : m = m' := by omega
      unfold dayNo; omega
theorem IsD.uniq {y m d y' m' d' : Nat} (h : IsD y m d) (h' : IsD y' m' d') (he : dayNo y m d = dayNo y' m' d') : encD y m d = encD y' m' d' := by
  rcases Nat.lt_trichotomy (encD y m d) (encD y' m' d') with h1 | h1 | h1
  · have := h.lt h' h1; omega
  · exact h1
  · have := h'.lt h h1; omega
/-- The date of a day. -/
def DayIs (n : Nat) (q : Nat × Nat × Nat) : Prop := IsD q.1 q.2.1 q.2.2 ∧ dayNo q.1 q.2.1 q.2.2 = n
def isDb (y m d : Nat) : Bool := decide (1970 ≤ y) && decide (y ≤ 9999) && decide (1 ≤ m) && decide (m ≤ 12) && decide (1 ≤ d) && decide (d ≤ mlen y m)
theorem isDb_iff (y m d : Nat) : isDb y m d = true ↔ IsD y m d := by
  simp only [isDb, Bool.and_eq_true, decide_eq_true_eq]
  constructor
  · rintro ⟨⟨⟨⟨⟨h1, h2⟩, h3⟩, h4⟩, h5⟩, h6⟩
    exact ⟨h1, h2, h3, h4, h5, h6⟩
  · rintro ⟨h1, h2, h3, h4, h5, h6⟩
    exact ⟨⟨⟨⟨⟨h1, h2⟩, h3⟩, h4⟩, h5⟩, h6⟩
def decD (y m d : Nat) : Decidable (IsD y m d) := decidable_of_iff _ (isDb_iff y m d)
def dayB (n k : Nat) : Bool := isDb (k / 10000) (k / 100 % 100) (k % 100) && dayNo (k / 10000) (k / 100 % 100) (k % 100) == n
def dateN (n : Nat) : Nat := ((List.range (100000000 + n)).find? (dayB n)).getD 0
theorem dateN_eq {y m d : Nat} (h : IsD y m d) : dateN (dayNo y m d) = encD y m d := by
  obtain ⟨e1, e2, e3⟩ := h.enc
  have hlt : encD y m d < 100000000 := by
    have a := h.y1; have b := h.m1; have c := h.day
    unfold encD
    omega
  have hf : (List.range (100000000 + dayNo y m d)).find? (dayB (dayNo y m d)) = some (encD y m d) := by
    rw [List.find?_range_eq_some]
    refine ⟨?_, List.mem_range.2 (by omega), fun j hj => ?_⟩
    · unfold dayB
      rw [e1, e2, e3, (isDb_iff y m d).2 h]
      simp
    · cases hb : dayB (dayNo y m d) j
      · rfl
      · unfold dayB at hb
        simp only [Bool.and_eq_true, beq_iff_eq] at hb
        have h2 := (isDb_iff _ _ _).1 hb.1
        have h3 := h2.uniq h hb.2
        have h4 : encD (j / 10000) (j / 100 % 100) (j % 100) = j := by unfold encD; omega
        omega
  unfold dateN
  rw [hf]
  rfl
theorem year_of (n : Nat) (h : n ≤ 2932896) : ∃ y, 1970 ≤ y ∧ y ≤ 9999 ∧ ahead y ≤ n ∧ n < ahead (y + 1) := by
  have key : ∀ k, n < ahead (1970 + k) → ∃ y, 1970 ≤ y ∧ y + 1 ≤ 1970 + k ∧ ahead y ≤ n ∧ n < ahead (y + 1) := by
    intro k
    induction k with
    | zero => intro h; rw [ahead_first] at h; omega
    | succ k ih =>
      intro h
      rcases Nat.lt_or_ge n (ahead (1970 + k)) with h1 | h1
      · obtain ⟨y, a, b, c, e⟩ := ih h1
        exact ⟨y, a, by omega, c, e⟩
      · exact ⟨1970 + k, by omega, by omega, h1, h⟩
  obtain ⟨y, a, b, c, e⟩ := key 8030 (by show n < ahead 10000; rw [ahead_last]; omega)
  exact ⟨y, a, by omega, c, e⟩
theorem month_of (y r : Nat) (h : r < msum y 12) : ∃ k, k < 12 ∧ msum y k ≤ r ∧ r < msum y (k + 1) := by
  have key : ∀ k, r < msum y k → ∃ j, j < k ∧ msum y j ≤ r ∧ r < msum y (j + 1) := by
    intro k
    induction k with
    | zero => intro h; simp [msum] at h
    | succ k ih =>
      intro h
      rcases Nat.lt_or_ge r (msum y k) with h1 | h1
      · obtain ⟨j, a, b, c⟩ := ih h1
        exact ⟨j, by omega, b, c⟩
      · exact ⟨k, by omega, h1, h⟩
  exact key 12 h
theorem date_of (n : Nat) (h : n ≤ 2932896) : ∃ y m d, IsD y m d ∧ dayNo y m d = n := by
  obtain ⟨y, h0, h1, h2, h3⟩ := year_of n h
  rw [ahead_succ y h0] at h3
  obtain ⟨k, hk, h4, h5⟩ := month_of y (n - ahead y) (by rw [msum_year]; omega)
  rw [msum] at h5
  exact ⟨y, k + 1, n - ahead y - msum y k + 1, ⟨h0, h1, by omega, by omega, by omega, by omega⟩, by unfold dayNo; simp only [Nat.add_sub_cancel]; omega⟩
theorem dateN_spec (n : Nat) (h : n ≤ 2932896) : ∃ y m d, IsD y m d ∧ dayNo y m d = n ∧ dateN n = encD y m d := by
  obtain ⟨y, m, d, h1, rfl⟩ := date_of n h
  exact ⟨y, m, d, h1, rfl, dateN_eq h1⟩
theorem dateN_lt {n n' : Nat} (h : n < n') (h' : n' ≤ 2932896) : dateN n < dateN n' := by
  obtain ⟨y, m, d, h1, h2, h3⟩ := dateN_spec n (by omega)
  obtain ⟨y', m', d', h1', h2', h3'⟩ := dateN_spec n' h'
  rw [h3, h3']
  rcases Nat.lt_trichotomy (encD y m d) (encD y' m' d') with e | e | e
  · exact e
  · have a := h1.enc; have b := h1'.enc
    rw [e] at a
    obtain ⟨a1, a2, a3⟩ := a
    obtain ⟨b1, b2, b3⟩ := b
    rw [a1] at b1; rw [a2] at b2; rw [a3] at b3
    subst b1 b2 b3
    omega
  · have := h1'.lt h1 e; omega
theorem dateN_bounds {n : Nat} (h : n ≤ 2932896) : 19700101 ≤ dateN n ∧ dateN n ≤ 99991231 := by
  obtain ⟨y, m, d, h1, h2, h3⟩ := dateN_spec n h
  have a := h1.y0; have b := h1.y1; have c := h1.m0; have e := h1.m1; have f := h1.d0; have g := h1.day
  rw [h3]; unfold encD; omega
/-- The day of a number that may be a date. -/
def dnum (z : Int) : Option Nat := @ite _ (0 ≤ z ∧ IsD (z.toNat / 10000) (z.toNat / 100 % 100) (z.toNat % 100)) (@instDecidableAnd _ _ _ (decD _ _ _)) (some (dayNo (z.toNat / 10000) (z.toNat / 100 % 100) (z.toNat % 100))) none
theorem dnum_of {y m d : Nat} (h : IsD y m d) : dnum (encD y m d : Int) = some (dayNo y m d) := by
  obtain ⟨a, b, c⟩ := h.enc
  unfold dnum
  rw [Int.toNat_natCast, a, b, c, if_pos ⟨by omega, h⟩]
theorem dnum_date {n : Nat} (h : n ≤ 2932896) : dnum (dateN n : Int) = some n := by
  obtain ⟨y, m, d, h1, h2, h3⟩ := dateN_spec n h
  rw [h3, dnum_of h1, h2]
theorem dnum_some {z : Int} {n : Nat} (h : dnum z = some n) : n ≤ 2932896 ∧ z = (dateN n : Int) := by
  unfold dnum at h
  split at h
  · rename_i hc
    simp only [Option.some.injEq] at h
    refine ⟨h ▸ hc.2.last, ?_⟩
    rw [← h, dateN_eq hc.2]
    unfold encD
    omega
  · cases h
theorem dnum_inj {z z' : Int} {n : Nat} (h : dnum z = some n) (h' : dnum z' = some n) : z = z' := by
  rw [(dnum_some h).2, (dnum_some h').2]
end Go.Proofs.YtchkpggdndnpjabGreatDoor

namespace Go.Proofs.YtchkpggdndnpjabGreatDoor
set_option linter.unusedVariables false
open Go.RowKit

/-- The months' days, as the program's text lays them. -/
def monTab : List Int := [31, 28, 31, 30, 31, 30, 31, 31, 30, 31, 30, 31]
def Mon (w : World) : Prop := ∀ k, k < 12 → w.cell? ⟨2, k, none⟩ = some (.int .i64 (monTab.getD k 0))
theorem Mon.drewN {w : World} (h : Mon w) (q : Nat) : Mon (w.drewN q) := h
theorem Mon.below {w w' : World} {B : Nat} (h : Mon w) (hb : Below B w w') (hB : 2 < B) : Mon w' := fun k hk => by rw [hb.cell (p := ⟨2, k, none⟩) hB]; exact h k hk
theorem Mon.lt {w : World} (h : Mon w) : 2 < w.heap.size := World.block_lt_of_cell? _ _ (h 0 (by decide))

def leapB (y : Nat) : Bool := leapN y == 1
theorem leapB_true {y : Nat} (h : y % 4 = 0 ∧ ¬ y % 100 = 0 ∨ y % 400 = 0) : leapB y = true := by unfold leapB leapN; rw [if_pos h]; rfl
theorem leapB_false {y : Nat} (h : ¬ (y % 4 = 0 ∧ ¬ y % 100 = 0 ∨ y % 400 = 0)) : leapB y = false := by unfold leapB leapN; rw [if_neg h]; rfl
set_option maxRecDepth 100000 in
set_option maxHeartbeats 400000 in
theorem isLeap_any (z : Int) (y : Nat) (hz : z = y) (w : World) (hy : y ≤ 9999) :
    Calls Tryz.prog 276 #[.int .i64 z] w fun e w' => e = .returned (.bool (leapB y)) ∧ w' = w := by
  subst hz
  go_enter Tryz.func276, Tryz.ntmps276
  go_wp2
  all_goals go_ret
  all_goals refine ⟨congrArg Ending.returned (congrArg Value.bool ?_), rfl⟩
  · by_cases h : y % 400 = 0
    · rw [leapB_true (by omega)]; simp; omega
    · rw [leapB_false (by omega)]; simp; omega
  · rw [leapB_true (by omega)]
  · by_cases h : y % 400 = 0
    · rw [leapB_true (by omega)]; simp; omega
    · rw [leapB_false (by omega)]; simp; omega
theorem mon_mlen {y m : Nat} (h0 : 1 ≤ m) (h1 : m ≤ 12) : (mlen y m : Int) = monTab.getD (m - 1) 0 + (if m = 2 ∧ leapB y = true then 1 else 0) := by
  have hl : leapN y = if leapB y = true then 1 else 0 := by
    have := leapN_le y
    unfold leapB
    by_cases h : leapN y = 1
    · rw [h]; rfl
    · rw [show leapN y = 0 by omega]; rfl
  have : m = 1 ∨ m = 2 ∨ m = 3 ∨ m = 4 ∨ m = 5 ∨ m = 6 ∨ m = 7 ∨ m = 8 ∨ m = 9 ∨ m = 10 ∨ m = 11 ∨ m = 12 := by omega
  rcases this with rfl | rfl | rfl | rfl | rfl | rfl | rfl | rfl | rfl | rfl | rfl | rfl <;> simp [mlen, monTab, hl]
  split <;> rfl
set_option maxRecDepth 100000 in
set_option maxHeartbeats 400000 in
theorem daysOfMonth_any (z x : Int) (y m : Nat) (hz : z = y) (hx : x = m) (w : World) (hM : Mon w) (hy : y ≤ 9999) (h0 : 1 ≤ m) (h1 : m ≤ 12) :
    Calls Tryz.prog 267 #[.int .i64 z, .int .i64 x] w fun e w' => e = .returned (.int .i64 (mlen y m : Int)) ∧ w' = w := by
  subst hz hx
  have hc := hM (m - 1) (by omega)
  have em := mon_mlen (y := y) h0 h1
  have hm1 : (1 : Int) ≤ (m : Int) := by omega
  have hm2 : (m : Int) ≤ 12 := by omega
  obtain ⟨k, rfl⟩ : ∃ k, m = k + 1 := ⟨m - 1, by omega⟩
  simp only [Nat.add_sub_cancel] at hc em
  have hv : Hid (-100 ≤ monTab.getD k 0 ∧ monTab.getD k 0 ≤ 100) := by
    have := mlen_le y (k + 1); have := mlen_pos y (k + 1)
    have h : -100 ≤ monTab.getD k 0 ∧ monTab.getD k 0 ≤ 100 := by split at em <;> omega
    exact h
  generalize monTab.getD k 0 = v at *
  have hv1 : -100 ≤ v := hv.out.1
  have hv2 : v ≤ 100 := hv.out.2
  clear hM
  by_cases h2 : k = 1
  · subst h2
    cases hl : leapB y
    · rw [hl] at em
      have hl' := isLeap_any (y : Int) y rfl w hy
      rw [hl] at hl'
      simp at em
      clear hl
      go_enter Tryz.func267, Tryz.ntmps267
      go_wp2_with (go_at_call 276; refine hl'.mono ?_; rintro e w' ⟨rfl, rfl⟩)
      go_ret
      exact ⟨ret_int em.symm, rfl⟩
    · rw [hl] at em
      have hl' := isLeap_any (y : Int) y rfl w hy
      rw [hl] at hl'
      simp at em
      clear hl
      go_enter Tryz.func267, Tryz.ntmps267
      go_wp2_with (go_at_call 276; refine hl'.mono ?_; rintro e w' ⟨rfl, rfl⟩)
      go_ret
      exact ⟨ret_int em.symm, rfl⟩
  · have h2' : ¬ (k : Int) + 1 = 2 := by omega
    rw [if_neg (by omega)] at em
    go_enter Tryz.func267, Tryz.ntmps267
    go_wp2
    go_ret
    exact ⟨ret_int (by omega), rfl⟩

/-- The leap years ahead of one, from the year 1 on. -/
def leapsA (y : Nat) : Nat := (y - 1) / 4 + (y - 1) / 400 - (y - 1) / 100
set_option maxRecDepth 100000 in
set_option maxHeartbeats 400000 in
theorem leapsAhead_any (z : Int) (y : Nat) (hz : z = y) (w : World) (h0 : 1970 ≤ y) (hy : y ≤ 10000) :
    Calls Tryz.prog 277 #[.int .i64 z] w fun e w' => e = .returned (.int .i64 (leapsA y : Int)) ∧ w' = w := by
  subst hz
  obtain ⟨x, rfl⟩ : ∃ x, y = x + 1 := ⟨y - 1, by omega⟩
  have hg := leaps_ge x (by omega)
  have e : leapsA (x + 1) = x / 4 + x / 400 - x / 100 := rfl
  go_enter Tryz.func277, Tryz.ntmps277
  go_wp2
  go_ret
  exact ⟨ret_int (by rw [e]; omega), rfl⟩
set_option maxRecDepth 100000 in
set_option maxHeartbeats 400000 in
theorem firstDayOfYear_any (z : Int) (y : Nat) (hz : z = y) (w : World) (h0 : 1970 ≤ y) (hy : y ≤ 10000) :
    Calls Tryz.prog 268 #[.int .i64 z] w fun e w' => e = .returned (.int .i64 (ahead y : Int)) ∧ w' = w := by
  subst hz
  have h1 := leapsAhead_any (y : Int) y rfl w h0 hy
  have h2 := leapsAhead_any 1970 1970 rfl w (by omega) (by omega)
  rw [show leapsA 1970 = 477 by decide] at h2
  have hg := leaps_ge (y - 1) (by omega)
  have e : ahead y + 477 = (y - 1970) * 365 + leapsA y := by unfold ahead leapsA; omega
  have hl : leapsA y ≤ 10000 := by unfold leapsA; omega
  clear hg
  generalize leapsA y = l at *
  go_enter Tryz.func268, Tryz.ntmps268
  go_wp2_with (go_at_call 277; fail)
  refine h1.mono ?_
  rintro e w' ⟨rfl, rfl⟩
  go_wp2_with (go_at_call 277; fail)
  refine h2.mono ?_
  rintro e w' ⟨rfl, rfl⟩
  go_wp2
  go_ret
  exact ⟨ret_int (by omega), rfl⟩
set_option maxRecDepth 100000 in
set_option maxHeartbeats 400000 in
theorem startOfDay_any (z : Int) (n : Nat) (hz : z = n) (w : World) (hn : n ≤ 2932896) :
    Calls Tryz.prog 253 #[.int .i64 z] w fun e w' => e = .returned (.int .i64 ((n : Int) * 86400000)) ∧ w' = w := by
  subst hz
  go_enter Tryz.func253, Tryz.ntmps253
  go_wp2
  go_ret
  exact ⟨rfl, rfl⟩
def isT (z : Int) : Bool := decide (0 ≤ z ∧ z ≤ 253402300799999)
set_option maxRecDepth 100000 in
set_option maxHeartbeats 400000 in
theorem isTime_any (z : Int) (w : World) :
    Calls Tryz.prog 326 #[.int .i64 z] w fun e w' => e = .returned (.bool (isT z)) ∧ w' = w := by
  by_cases h0 : 0 ≤ z
  · by_cases h1 : z ≤ 253402300799999
    · have e : isT z = true := by simp [isT, h0, h1]
      rw [e]
      go_enter Tryz.func326, Tryz.ntmps326
      go_wp2
      go_ret
      exact ⟨rfl, rfl⟩
    · have e : isT z = false := by simp [isT, h0, h1]
      rw [e]
      go_enter Tryz.func326, Tryz.ntmps326
      go_wp2
      go_ret
      exact ⟨ret_bool (by simp), rfl⟩
  · have e : isT z = false := by simp [isT, h0]
    rw [e]
    go_enter Tryz.func326, Tryz.ntmps326
    go_wp2
    go_ret
    exact ⟨rfl, rfl⟩
/-- What dayOfDate tells. -/
def dnV (z : Int) : Int := match dnum z with
  | some n => n
  | none => 0
def dnB (z : Int) : Bool := (dnum z).isSome
theorem dnum_neg {z : Int} (h : z < 19700000) : dnum z = none := by
  unfold dnum
  rw [if_neg]
  rintro ⟨h0, h1⟩
  have := h1.y0
  omega
theorem dn_yes {k : Nat} (h : IsD (k / 10000) (k / 100 % 100) (k % 100)) : dnV k = (dayNo (k / 10000) (k / 100 % 100) (k % 100) : Int) ∧ dnB k = true := by
  have e : dnum k = some (dayNo (k / 10000) (k / 100 % 100) (k % 100)) := by
    unfold dnum
    rw [Int.toNat_natCast, if_pos ⟨by omega, h⟩]
  unfold dnV dnB
  rw [e]
  exact ⟨rfl, rfl⟩
theorem dn_no {k : Nat} (h : ¬ IsD (k / 10000) (k / 100 % 100) (k % 100)) : dnV k = 0 ∧ dnB k = false := by
  have e : dnum k = none := by
    unfold dnum
    rw [Int.toNat_natCast, if_neg (fun x => h x.2)]
  unfold dnV dnB
  rw [e]
  exact ⟨rfl, rfl⟩
theorem dn_less {z : Int} (h : z < 19700000) : dnV z = 0 ∧ dnB z = false := by
  unfold dnV dnB
  rw [dnum_neg h]
  exact ⟨rfl, rfl⟩
set_option maxRecDepth 100000 in
set_option maxHeartbeats 400000 in
theorem dayOfDate_none (z : Int) (w : World) (hz0 : -9223372036854775808 ≤ z) (hz : z < 19700000) :
    Calls Tryz.prog 252 #[.int .i64 z] w fun e w' => e = .returned (.tuple #[.int .i64 0, .bool false]) ∧ w' = w := by
  have h1 : z.tdiv 10000 < 1970 := by
    rcases Int.lt_or_le z 0 with h | h
    · have h2 := Int.tdiv_nonneg (a := -z) (b := 10000) (by omega) (by decide)
      rw [Int.neg_tdiv] at h2
      omega
    · rw [Int.tdiv_eq_ediv_of_nonneg h]; omega
  go_enter Tryz.func252, Tryz.ntmps252
  go_wp2
  go_ret2
  exact ⟨rfl, rfl⟩
set_option maxRecDepth 100000 in
set_option maxHeartbeats 400000 in
theorem dayOfDate_nat (k : Nat) (w : World) (hM : Mon w) (hk : k ≤ 9223372036854775807) (hk0 : 19700000 ≤ k) :
    Calls Tryz.prog 252 #[.int .i64 (k : Int)] w fun e w' => e = .returned (.tuple #[.int .i64 (dnV k), .bool (dnB k)]) ∧ w' = w := by
  have eP := dn_yes (k := k)
  have eN := dn_no (k := k)
  have q1 : (k : Int) / 10000 = ((k / 10000 : Nat) : Int) := by omega
  have q2 : (k : Int) / 100 % 100 = ((k / 100 % 100 : Nat) : Int) := by omega
  have q3 : (k : Int) % 100 = ((k % 100 : Nat) : Int) := by omega
  have y0 : 1970 ≤ k / 10000 := by omega
  have b2 : k / 100 % 100 < 100 := by omega
  have b3 : k % 100 < 100 := by omega
  generalize k / 10000 = y at *
  generalize k / 100 % 100 = m at *
  generalize k % 100 = d at *
  by_cases hy : y ≤ 9999
  · by_cases hm : 1 ≤ m ∧ m ≤ 12
    · by_cases hd : 1 ≤ d ∧ d ≤ mlen y m
      · have hD : IsD y m d := ⟨y0, hy, hm.1, hm.2, hd.1, hd.2⟩
        obtain ⟨eV, eB⟩ := eP hD
        rw [eV, eB]
        clear eN eP eV eB
        have hlast := hD.last
        have hy1 : (y : Int) ≤ 9999 := by omega
        have hy0 : (1970 : Int) ≤ y := by omega
        have hm1 : (1 : Int) ≤ m := by omega
        have hm2 : (m : Int) ≤ 12 := by omega
        have hd1 : (1 : Int) ≤ d := by omega
        have hd2 : (d : Int) ≤ (mlen y m : Int) := by omega
        have HM : Hid (Mon w) := hM
        have hA : ahead y ≤ 2932897 := by have := hD.lo; omega
        clear hM
        go_enter Tryz.func252, Tryz.ntmps252
        go_wp2_with (go_at_call 267; fail)
        refine (daysOfMonth_any _ _ y m rfl rfl _ HM.out hy hm.1 hm.2).mono ?_
        rintro e w ⟨rfl, rfl⟩
        go_wp2_with (go_at_call 268; fail)
        refine (firstDayOfYear_any _ y rfl _ y0 (by omega)).mono ?_
        rintro e w ⟨rfl, rfl⟩
        go_wp2
        go_loopw [7, 8] (fun a i wr => ∃ j : Nat, 1 ≤ j ∧ j ≤ m ∧ i = .int .i64 j ∧ a = .int .i64 ((ahead y : Int) + d - 1 + (msum y (j - 1) : Int)) ∧ wr = w) (fun _ i _ => m - (intOf i).toNat)
        case atStart => exact ⟨1, by omega, by omega, rfl, vint (by simp [msum]), rfl⟩
        case round =>
          obtain ⟨j, hj0, hj1, rfl, rfl, rfl⟩ := hrel
          by_cases hlt : j < m
          · have hlt' : (j : Int) < (m : Int) := by omega
            have hs1 := msum_mono y (j := j - 1) (k := 12) (by omega)
            rw [msum_year] at hs1
            have hs2 := leapN_le y
            have hs3 := mlen_le y j
            have hs4 : msum y (j - 1) + mlen y j = msum y (j + 1 - 1) := by
              obtain ⟨i, rfl⟩ : ∃ i, j = i + 1 := ⟨j - 1, by omega⟩
              simp [msum]
            go_wp2_with (go_at_call 267; fail)
            refine (daysOfMonth_any _ _ y j rfl rfl _ HM.out hy hj0 (by omega)).mono ?_
            rintro e w ⟨rfl, rfl⟩
            go_wp2
            go_roundw
            case rel => exact ⟨j + 1, by omega, by omega, by go_num, vint (by omega), by first | rfl | trivial⟩
            case measure => simp [intOf]; omega
          · obtain rfl : j = m := by omega
            have e1 : (ahead y : Int) + d - 1 + (msum y (j - 1) : Int) = (dayNo y j d : Int) := by unfold dayNo; omega
            go_wp2
            go_ret2
            exact ⟨ret2 (vint e1) rfl, by first | rfl | trivial⟩
      · obtain ⟨eV, eB⟩ := eN (fun h => hd ⟨h.d0, h.d1⟩)
        rw [eV, eB]
        clear eN eP eV eB
        have hy1 : (y : Int) ≤ 9999 := by omega
        have hy0 : (1970 : Int) ≤ y := by omega
        have hm1 : (1 : Int) ≤ m := by omega
        have hm2 : (m : Int) ≤ 12 := by omega
        rcases Nat.lt_or_ge d 1 with h1 | h1
        · have hm2 : (d : Int) < 1 := by omega
          go_enter Tryz.func252, Tryz.ntmps252
          go_wp2
          go_ret2
          exact ⟨rfl, rfl⟩
        · have hd1 : (1 : Int) ≤ d := by omega
          have hd2 : (mlen y m : Int) < d := by omega
          go_enter Tryz.func252, Tryz.ntmps252
          go_wp2_with (go_at_call 267; fail)
          refine (daysOfMonth_any _ _ y m rfl rfl _ hM hy hm.1 hm.2).mono ?_
          rintro e w ⟨rfl, rfl⟩
          go_wp2
          go_ret2
          exact ⟨rfl, rfl⟩
    · obtain ⟨eV, eB⟩ := eN (fun h => hm ⟨h.m0, h.m1⟩)
      rw [eV, eB]
      clear eN eP eV eB
      have hy1 : (y : Int) ≤ 9999 := by omega
      have hy0 : (1970 : Int) ≤ y := by omega
      rcases Nat.lt_or_ge m 1 with hm1 | hm1
      · have hm2 : (m : Int) < 1 := by omega
        go_enter Tryz.func252, Tryz.ntmps252
        go_wp2
        go_ret2
        exact ⟨rfl, rfl⟩
      · have hm2 : (1 : Int) ≤ m := by omega
        have hm3 : (12 : Int) < m := by omega
        go_enter Tryz.func252, Tryz.ntmps252
        go_wp2
        go_ret2
        exact ⟨rfl, rfl⟩
  · obtain ⟨eV, eB⟩ := eN (fun h => hy h.y1)
    rw [eV, eB]
    clear eN eP eV eB
    have hy1 : (9999 : Int) < y := by omega
    have hy0 : (1970 : Int) ≤ y := by omega
    go_enter Tryz.func252, Tryz.ntmps252
    go_wp2
    go_ret2
    exact ⟨rfl, rfl⟩
theorem dayOfDate_any (z : Int) (w : World) (hM : Mon w) (h0 : -9223372036854775808 ≤ z) (h1 : z ≤ 9223372036854775807) :
    Calls Tryz.prog 252 #[.int .i64 z] w fun e w' => e = .returned (.tuple #[.int .i64 (dnV z), .bool (dnB z)]) ∧ w' = w := by
  by_cases h : z < 19700000
  · rw [(dn_less h).1, (dn_less h).2]
    exact dayOfDate_none z w h0 h
  · obtain ⟨k, rfl⟩ : ∃ k : Nat, z = k := ⟨z.toNat, by omega⟩
    exact dayOfDate_nat k w hM (by omega) (by omega)
end Go.Proofs.YtchkpggdndnpjabGreatDoor
