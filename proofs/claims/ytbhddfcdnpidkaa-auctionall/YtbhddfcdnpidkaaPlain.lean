/-
  Plain mathematics for package num: lists of bytes and numbers. Nothing of the dump is imported.
-/
import Derived.WalkKit
import Derived.WalkSpells
import Derived.Lib.Strings
namespace Go.Proofs.Ytbhddfcdnpidkaa
set_option linter.unusedVariables false
open Go.RowKit

theorem ret_int {k : IntKind} {a b : Int} (h : a = b) : Ending.returned (.int k a) = .returned (.int k b) := by rw [h]

theorem ret_bool {a b : Bool} (h : a = b) : Ending.returned (.bool a) = .returned (.bool b) := by rw [h]
theorem ret_str {a b : ByteArray} (h : a = b) : Ending.returned (.string a) = .returned (.string b) := by rw [h]
theorem ret2 {a b c d : Value} (h : a = b) (g : c = d) : Ending.returned (.tuple #[a, c]) = .returned (.tuple #[b, d]) := by rw [h, g]
theorem ret3 {a b c d x y : Value} (h : a = b) (g : c = d) (f : x = y) : Ending.returned (.tuple #[a, c, x]) = .returned (.tuple #[b, d, y]) := by rw [h, g, f]
theorem vint {k : IntKind} {a b : Int} (h : a = b) : Value.int k a = .int k b := by rw [h]
theorem vbool {a b : Bool} (h : a = b) : Value.bool a = .bool b := by rw [h]
theorem take_snoc (s : ByteArray) (k : Nat) (h : k < s.size) : s.data.toList.take (k + 1) = s.data.toList.take k ++ [s[k]] := by
  rw [List.take_succ_eq_append_getElem (by simpa using h)]; rfl

/-- Is a byte a digit? -/
def dig (c : UInt8) : Bool := decide (48 ≤ (c.toNat : Int)) && decide ((c.toNat : Int) ≤ 57)
def digs (l : List UInt8) : Bool := l.all dig
theorem dig_iff (c : UInt8) : dig c = true ↔ 48 ≤ (c.toNat : Int) ∧ (c.toNat : Int) ≤ 57 := by simp [dig]
theorem digs_snoc (s : ByteArray) (k : Nat) (h : k < s.size) : digs (s.data.toList.take (k + 1)) = (digs (s.data.toList.take k) && dig s[k]) := by
  rw [take_snoc s k h]; simp [digs]
theorem digs_all (s : ByteArray) (k : Nat) (h : ¬ k < s.size) (hd : digs (s.data.toList.take k) = true) : digs s.data.toList = true := by
  rw [List.take_of_length_le (by simp; omega)] at hd; exact hd
theorem digs_not (s : ByteArray) (k : Nat) (h : k < s.size) (hd : dig s[k] = false) : digs s.data.toList = false := by
  unfold digs; rw [List.all_eq_false]
  exact ⟨s[k], by rw [ByteArray.getElem_eq_getElem_data, ← Array.getElem_toList]; exact List.getElem_mem _, by simp [hd]⟩
theorem digs_at (s : ByteArray) (k : Nat) (h : k < s.size) (hd : digs s.data.toList = true) : 48 ≤ (s[k].toNat : Int) ∧ (s[k].toNat : Int) ≤ 57 := by
  rw [← dig_iff]
  by_cases e : dig s[k] = true
  · exact e
  · have := digs_not s k h (by simpa using e); rw [this] at hd; cases hd

/-- The number of a list of digits. -/
def val (l : List UInt8) : Int := l.foldl (fun n c => n * 10 + ((c.toNat : Int) - 48)) 0
theorem val_snoc (s : ByteArray) (k : Nat) (h : k < s.size) : val (s.data.toList.take (k + 1)) = val (s.data.toList.take k) * 10 + ((s[k].toNat : Int) - 48) := by
  rw [take_snoc s k h]; simp [val, List.foldl_append]
theorem foldl_mono (l : List UInt8) (hd : digs l = true) (n : Int) (hn : 0 ≤ n) : n ≤ l.foldl (fun n c => n * 10 + ((c.toNat : Int) - 48)) n := by
  induction l generalizing n with
  | nil => simp
  | cons c l ih =>
    simp only [digs, List.all_cons, Bool.and_eq_true] at hd
    have hc := (dig_iff c).1 hd.1
    have := ih hd.2 (n * 10 + ((c.toNat : Int) - 48)) (by omega)
    simp only [List.foldl_cons]; omega
theorem digs_take (l : List UInt8) (k : Nat) (hd : digs l = true) : digs (l.take k) = true := by
  unfold digs at *; rw [List.all_eq_true] at *
  exact fun x hx => hd x (List.mem_of_mem_take hx)
theorem val_nonneg (l : List UInt8) (hd : digs l = true) : 0 ≤ val l := foldl_mono l hd 0 (by omega)
theorem val_mono (l : List UInt8) (k : Nat) (hd : digs l = true) : val (l.take k) ≤ val l := by
  conv => rhs; rw [← List.take_append_drop k l]
  unfold val; rw [List.foldl_append]
  refine foldl_mono (l.drop k) ?_ _ (val_nonneg _ (digs_take l k hd))
  unfold digs at *; rw [List.all_eq_true] at *
  exact fun x hx => hd x (List.mem_of_mem_drop hx)
theorem val_all (s : ByteArray) (k : Nat) (h : ¬ k < s.size) : val (s.data.toList.take k) = val s.data.toList := by
  rw [List.take_of_length_le (by simp; omega)]

/-- Is a list a numeral? -/
def numB (l : List UInt8) : Bool := digs l && (match l with | [] => false | [_] => true | c :: _ :: _ => c != 48)
theorem numB_zero {s : ByteArray} (h : s.toList = [48]) : numB s.data.toList = true := by
  rw [Lib.toList_data] at h; rw [h]; decide
theorem numB_nil {s : ByteArray} (h : s.toList = []) : numB s.data.toList = false := by
  rw [Lib.toList_data] at h; rw [h]; decide
theorem size_pos {s : ByteArray} (h : ¬ s.toList = []) : 0 < s.size := by
  rw [Lib.toList_data] at h; rw [Lib.size_eq]; exact List.length_pos_iff.2 h
theorem head_eq (s : ByteArray) (h : 0 < s.size) : ∃ l, s.data.toList = s[0] :: l := by
  cases e : s.data.toList with
  | nil => rw [Lib.size_eq, e] at h; simp at h
  | cons c l =>
    refine ⟨l, ?_⟩
    have : s[0] = s.data.toList[0]'(by rw [e]; simp) := by rw [ByteArray.getElem_eq_getElem_data, Array.getElem_toList]
    rw [this]; simp [e]
theorem toNat48 {c : UInt8} (h : (c.toNat : Int) = 48) : c = 48 := by
  have h2 : c.toNat = 48 := by omega
  exact UInt8.toNat_inj.1 (h2.trans rfl)
theorem numB_lead {s : ByteArray} (h1 : ¬ s.toList = [48]) (hp : 0 < s.size) (h3 : (s[0].toNat : Int) = 48) : numB s.data.toList = false := by
  obtain ⟨l, e⟩ := head_eq s hp
  rw [Lib.toList_data, e] at h1
  rw [e, toNat48 h3]
  rw [toNat48 h3] at h1
  cases l with
  | nil => simp at h1
  | cons d l => simp [numB]
theorem numB_else {s : ByteArray} (hp : 0 < s.size) (h3 : ¬ (s[0].toNat : Int) = 48) : numB s.data.toList = digs s.data.toList := by
  obtain ⟨l, e⟩ := head_eq s hp
  have h4 : s[0] ≠ 48 := fun h => h3 (by rw [h]; rfl)
  rw [e]
  cases l with
  | nil => simp [numB]
  | cons d l => simp [numB, h4]
theorem numB_digs {l : List UInt8} (h : numB l = true) : digs l = true := by
  unfold numB at h; rw [Bool.and_eq_true] at h; exact h.1
/-- What readNumeral tells of a number. -/
def rdN (v : Int) : Int := if v ≤ 9223372036854775807 then v else 0
def rdB (v : Int) : Bool := decide (v ≤ 9223372036854775807)
theorem rdN_le {v : Int} (h : v ≤ 9223372036854775807) : rdN v = v := if_pos h
theorem rdB_le {v : Int} (h : v ≤ 9223372036854775807) : rdB v = true := decide_eq_true h
theorem rdN_gt {v : Int} (h : 9223372036854775807 < v) : rdN v = 0 := if_neg (by omega)
theorem rdB_gt {v : Int} (h : 9223372036854775807 < v) : rdB v = false := decide_eq_false (by omega)
/-- What ParseUint tells. -/
def puN (l : List UInt8) (m : Int) : Int := if numB l = true ∧ val l ≤ m then val l else 0
def puE (l : List UInt8) (m : Int) : Int := if numB l = true then (if val l ≤ m then 0 else 11) else 10
theorem pu_no {l : List UInt8} {m : Int} (h : numB l = false) : puN l m = 0 ∧ puE l m = 10 := by simp [puN, puE, h]
theorem pu_le {l : List UInt8} {m : Int} (h : numB l = true) (g : val l ≤ m) : puN l m = val l ∧ puE l m = 0 := by simp [puN, puE, h, g]
theorem pu_gt {l : List UInt8} {m : Int} (h : numB l = true) (g : m < val l) : puN l m = 0 ∧ puE l m = 11 := by
  have : ¬ val l ≤ m := by omega
  simp [puN, puE, h, this]
theorem numB_one {s : ByteArray} (h : ¬ s.toList = []) (h1 : ¬ (1 : Int) < (s.size : Int)) : numB s.data.toList = digs s.data.toList := by
  have hp := size_pos h
  obtain ⟨l, e⟩ := head_eq s hp
  have hz : s.data.toList.length = 1 := by rw [← Lib.size_eq]; omega
  rw [e] at hz ⊢
  cases l with
  | nil => simp [numB]
  | cons d l => simp at hz
theorem not_zero {s : ByteArray} (h1 : (1 : Int) < (s.size : Int)) : ¬ s.toList = [48] := by
  intro h
  have := congrArg List.length h
  rw [Lib.toList_data, ← Lib.size_eq] at this
  simp at this; omega
theorem pu_bd (l : List UInt8) (m : Int) (hm : m ≤ 9223372036854775807) : 0 ≤ puN l m ∧ puN l m ≤ 9223372036854775807 := by
  unfold puN; split
  · rename_i h
    have := val_nonneg l (numB_digs h.1); omega
  · omega
/-- Does a list begin with the minus sign? What stands behind it. -/
def neg? (l : List UInt8) : Bool := match l with | [] => false | c :: _ => c == 45
/-- What ParseInt tells. -/
def piN (l : List UInt8) (m : Int) : Int := if neg? l = true then (if l.tail = [48] then 0 else - puN l.tail m) else puN l m
def piE (l : List UInt8) (m : Int) : Int := if neg? l = true then (if l.tail = [48] then 10 else puE l.tail m) else puE l m
theorem tail_data (s : ByteArray) : (s.extract 1 s.size).data.toList = s.data.toList.tail := by
  rw [Lib.extract_data, List.take_of_length_le (by simp)]; simp
theorem neg_yes {s : ByteArray} (hp : 0 < s.size) (h : (s[0].toNat : Int) = 45) : neg? s.data.toList = true := by
  obtain ⟨l, e⟩ := head_eq s hp
  have : s[0] = 45 := UInt8.toNat_inj.1 ((by omega : s[0].toNat = 45).trans rfl)
  rw [e, this]; rfl
theorem neg_no {s : ByteArray} (hp : 0 < s.size) (h : ¬ (s[0].toNat : Int) = 45) : neg? s.data.toList = false := by
  obtain ⟨l, e⟩ := head_eq s hp
  have : s[0] ≠ 45 := fun g => h (by rw [g]; rfl)
  rw [e]; simp [neg?, this]
theorem neg_nil {s : ByteArray} (h : s.toList = []) : neg? s.data.toList = false := by
  rw [Lib.toList_data] at h; rw [h]; rfl
theorem pi_pos {l : List UInt8} {m : Int} (h : neg? l = false) : piN l m = puN l m ∧ piE l m = puE l m := by simp [piN, piE, h]
theorem pi_zero {l : List UInt8} {m : Int} (h : neg? l = true) (g : l.tail = [48]) : piN l m = 0 ∧ piE l m = 10 := by simp [piN, piE, h, g]
theorem pi_neg {l : List UInt8} {m : Int} (h : neg? l = true) (g : ¬ l.tail = [48]) : piN l m = - puN l.tail m ∧ piE l m = puE l.tail m := by simp [piN, piE, h, g]
theorem puE_ne {l : List UInt8} {m : Int} (h : ¬ puE l m = 0) : puN l m = 0 := by
  unfold puN puE at *; split <;> simp_all
theorem dash_yes {s : ByteArray} (h : neg? s.data.toList = true) : 1 ≤ (s.size : Int) ∧ (s.extract 0 1).toList = [45] := by
  rw [Lib.extract_toList, Lib.size_eq]
  cases e : s.data.toList with
  | nil => rw [e] at h; cases h
  | cons c l =>
    rw [e] at h
    simp only [neg?, beq_iff_eq] at h
    subst h
    simp; omega
theorem dash_no {s : ByteArray} (h : neg? s.data.toList = false) : ¬ (s.extract 0 1).toList = [45] := by
  rw [Lib.extract_toList]
  cases e : s.data.toList with
  | nil => simp
  | cons c l =>
    rw [e] at h
    simp [neg?] at h
    simpa using h
theorem tail_zero {s : ByteArray} : (s.extract 1 s.size).toList = s.data.toList.tail := by
  rw [Lib.toList_data, tail_data]
theorem tail_size (s : ByteArray) : (s.extract 1 s.size).size ≤ s.size := by
  have h : (s.extract 1 s.size).data.toList.length ≤ s.data.toList.length := by rw [tail_data]; simp
  rw [← Lib.size_eq, ← Lib.size_eq] at h; exact h

/-- One bit's turn of the Crc; so many; a byte's; a row's. -/
def crcBit (c : Nat) : Nat := if c % 2 = 1 then c / 2 ^^^ 3988292384 else c / 2
def crcBits : Nat → Nat → Nat
  | 0, c => c
  | m + 1, c => crcBit (crcBits m c)
def crcByte (c d : Nat) : Nat := crcBits 8 (c ^^^ d)
def crcRow (d : Nat → Nat) : Nat → Nat
  | 0 => 4294967295
  | k + 1 => crcByte (crcRow d k) (d k)
def crcEnd (c : Nat) : Nat := 4294967295 ^^^ c
theorem xor_lt32 {a b : Nat} (ha : a < 4294967296) (hb : b < 4294967296) : a ^^^ b < 4294967296 := Nat.xor_lt_two_pow (n := 32) ha hb
theorem crcBit_lt {c : Nat} (h : c < 4294967296) : crcBit c < 4294967296 := by
  unfold crcBit; split
  · exact xor_lt32 (by omega) (by decide)
  · omega
theorem crcBits_lt (m : Nat) {c : Nat} (h : c < 4294967296) : crcBits m c < 4294967296 := by
  induction m with
  | zero => exact h
  | succ m ih => exact crcBit_lt ih
theorem crcRow_lt (d : Nat → Nat) (k : Nat) (h : ∀ j, j < k → d j < 256) : crcRow d k < 4294967296 := by
  induction k with
  | zero => show 4294967295 < 4294967296; decide
  | succ k ih => exact crcBits_lt 8 (xor_lt32 (ih fun j hj => h j (by omega)) (Nat.lt_of_lt_of_le (h k (by omega)) (by decide)))
theorem crcBit_odd {c : Nat} (h : c % 2 = 1) : crcBit c = c / 2 ^^^ 3988292384 := if_pos h
theorem crcBit_even {c : Nat} (h : ¬ c % 2 = 1) : crcBit c = c / 2 := if_neg h

/-- The rest of a price, behind the point. -/
def restB (l : List UInt8) : Bool := !l.isEmpty && decide (l.length ≤ 4) && digs l
/-- The ten-thousandths of it: so many of its four places. -/
def plc : Option UInt8 → Int
  | some c => (c.toNat : Int) - 48
  | none => 0
def restN (l : List UInt8) : Nat → Int
  | 0 => 0
  | k + 1 => restN l k * 10 + plc l[k]?
theorem restN_succ (l : List UInt8) (k : Nat) : restN l (k + 1) = restN l k * 10 + plc l[k]? := rfl
theorem digs_mem {l : List UInt8} (hd : digs l = true) {k : Nat} {c : UInt8} (h : l[k]? = some c) : 48 ≤ (c.toNat : Int) ∧ (c.toNat : Int) ≤ 57 := by
  rw [← dig_iff]
  unfold digs at hd
  rw [List.all_eq_true] at hd
  exact hd c (List.mem_of_getElem? h)
theorem restN_bd (l : List UInt8) (hd : digs l = true) (k : Nat) (hk : k ≤ 4) : 0 ≤ restN l k ∧ restN l k ≤ 9999 := by
  have step : ∀ j, 0 ≤ restN l j → 0 ≤ restN l (j + 1) ∧ restN l (j + 1) ≤ restN l j * 10 + 9 := by
    intro j hj
    rw [restN_succ]
    cases hc : l[j]? with
    | none =>
      have : plc none = 0 := rfl
      omega
    | some c =>
      have := digs_mem hd hc
      have e : plc (some c) = (c.toNat : Int) - 48 := rfl
      omega
  have z : restN l 0 = 0 := rfl
  have h1 := step 0 (by omega)
  have h2 := step 1 h1.1
  have h3 := step 2 h2.1
  have h4 := step 3 h3.1
  have : k = 0 ∨ k = 1 ∨ k = 2 ∨ k = 3 ∨ k = 4 := by omega
  rcases this with rfl | rfl | rfl | rfl | rfl <;> simp only [Nat.zero_add, Nat.reduceAdd] at * <;> omega
theorem get_at (s : ByteArray) (k : Nat) (h : k < s.size) : s.data.toList[k]? = some s[k] := by
  rw [ByteArray.getElem_eq_getElem_data, Array.getElem?_toList]
  exact Array.getElem?_eq_getElem _
theorem get_no (s : ByteArray) (k : Nat) (h : ¬ k < s.size) : s.data.toList[k]? = none := by
  rw [List.getElem?_eq_none_iff, ← Lib.size_eq]; omega
theorem restN_at (s : ByteArray) (k : Nat) (h : k < s.size) : restN s.data.toList (k + 1) = restN s.data.toList k * 10 + ((s[k].toNat : Int) - 48) := by
  rw [restN_succ, get_at s k h]; rfl
theorem restN_no (s : ByteArray) (k : Nat) (h : ¬ k < s.size) : restN s.data.toList (k + 1) = restN s.data.toList k * 10 := by
  rw [restN_succ, get_no s k h]
  exact Int.add_zero _
end Go.Proofs.Ytbhddfcdnpidkaa
