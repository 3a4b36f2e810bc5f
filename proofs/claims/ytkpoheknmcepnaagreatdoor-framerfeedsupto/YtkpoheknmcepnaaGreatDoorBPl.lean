import Derived.Test.YtkpoheknmcepnaaGreatDoorMsgUpd
import Derived.Test.YtkpoheknmcepnaaGreatDoorBWd
import Derived.Test.YtkpoheknmcepnaaGreatDoorMsgHasW
import Derived.Test.YtkpoheknmcepnaaGreatDoorBNum

namespace Go.Proofs.YtkpoheknmcepnaaGreatDoor
set_option linter.unusedVariables false
open Go.RowKit

def hasB (z : Int) (j : Nat) : Bool := decide (0 < hasN z (tNum.getD j 0))
/-- The fields among the first k rows that a kind has. -/
def jsU (z : Int) : Nat → List Nat
  | 0 => []
  | k + 1 => jsU z k ++ if hasB z (k + 1) then [k + 1] else []
def js (z : Int) : List Nat := jsU z 41
def wS : List Nat → Nat
  | [] => 0
  | j :: l => wd j + wS l
theorem wS_app (a b : List Nat) : wS (a ++ b) = wS a + wS b := by
  induction a with
  | nil => simp [wS]
  | cons x a ih => simp [wS, ih]; omega
def padN (n : Nat) : Nat := (n + 7) / 8 * 8 - n
def sizeN (z : Int) : Nat := if js z = [] then 0 else 10 + (wS (js z) + 7) / 8 * 8
theorem mem_jsU {z : Int} {j : Nat} : ∀ k, j ∈ jsU z k ↔ 1 ≤ j ∧ j ≤ k ∧ hasB z j = true
  | 0 => by simp [jsU]; omega
  | k + 1 => by
    have ih := mem_jsU (z := z) (j := j) k
    cases h : hasB z (k + 1)
    · simp only [jsU, h, Bool.false_eq_true, reduceIte, List.append_nil, ih]
      refine ⟨fun h => ⟨h.1, by omega, h.2.2⟩, fun ⟨a, b, c⟩ => ⟨a, ?_, c⟩⟩
      by_cases e : j = k + 1
      · subst e; rw [h] at c; cases c
      · omega
    · simp only [jsU, h, reduceIte, List.mem_append, List.mem_singleton, ih]
      refine ⟨fun h' => h'.elim (fun h => ⟨h.1, by omega, h.2.2⟩) (fun e => by subst e; exact ⟨by omega, by omega, h⟩), fun ⟨a, b, c⟩ => ?_⟩
      by_cases e : j = k + 1
      · exact .inr e
      · exact .inl ⟨a, by omega, c⟩
theorem jsU_nodup {z : Int} : ∀ k, (jsU z k).Nodup
  | 0 => by simp [jsU]
  | k + 1 => by
    cases h : hasB z (k + 1)
    · simpa [jsU, h] using jsU_nodup k
    · simp only [jsU, h, reduceIte]
      refine List.nodup_append.2 ⟨jsU_nodup k, by simp, fun a ha b hb => ?_⟩
      have := ((mem_jsU k).1 ha).2.1
      simp at hb
      omega
theorem mem_js {z : Int} {j : Nat} : j ∈ js z ↔ 1 ≤ j ∧ j ≤ 41 ∧ hasB z j = true := mem_jsU 41
/-- A number as so many bytes, the highest first. -/
def be (s u : Nat) : List UInt8 := (putTo u s s).map UInt8.ofNat
theorem be_length (s u : Nat) : (be s u).length = s := by simp [be, putTo_length]
def u64N (z : Int) : Nat := (z % 18446744073709551616).toNat
def zer (n : Nat) : List UInt8 := List.replicate n 0
/-- A field in its place. -/
def encF (M : Msg) (j : Nat) : List UInt8 := if isStr j then (M.s j).data.toList ++ zer (wd j - (M.s j).size) else if isBoo j then [if M.b j then 1 else 0] else be (wd j) (u64N (M.z j))
def blkL (M : Msg) (l : List Nat) : List UInt8 := l.flatMap (encF M)
theorem blkL_app (M : Msg) (a b : List Nat) : blkL M (a ++ b) = blkL M a ++ blkL M b := by simp [blkL]
def hdL (z : Int) : List UInt8 := [79, 67] ++ be 2 (sizeN z) ++ [UInt8.ofNat (u64N z % 256), 1]
theorem hdL_length (z : Int) : (hdL z).length = 6 := by simp [hdL, be_length]
def bodyB (M : Msg) : List UInt8 := blkL M (js (M.z 0)) ++ zer (padN (wS (js (M.z 0))))
def dL (l : List UInt8) (j : Nat) : Nat := (l.getD j 0).toNat
theorem dL_lt (l : List UInt8) (j : Nat) : dL l j < 256 := by unfold dL; exact UInt8.toNat_lt _
def crcL (l : List UInt8) : Nat := crcEnd (crcRow (dL l) l.length)
def frameL (M : Msg) : List UInt8 := hdL (M.z 0) ++ be 4 (crcL (hdL (M.z 0) ++ bodyB M)) ++ bodyB M

/-- How many noughts bytes begin with; how many ahead of the first nought. -/
def nzL (l : List UInt8) : Nat := (l.takeWhile (· == 0)).length
def txL (l : List UInt8) : Nat := (l.takeWhile (· != 0)).length
def wr64 (u : Nat) : Int := if u < 9223372036854775808 then (u : Int) else (u : Int) - 18446744073709551616
/-- Reading a place: the message then, or which byte is wrong, and how. -/
def rdF (j : Nat) (b : List UInt8) (M : Msg) : Except (Nat × Int) Msg :=
  if isStr j then (if txL b + nzL (b.drop (txL b)) < b.length then .error (txL b + nzL (b.drop (txL b)), 62) else .ok (M.setS j ⟨(b.take (txL b)).toArray⟩))
  else if isBoo j then (if 1 < dL b 0 then .error (0, 42) else .ok (M.setB j (dL b 0 == 1)))
  else .ok (M.setZ j (wr64 (getN (dL b) (wd j))))
/-- Reading places, one behind the other, from at on. -/
def rdL (l : List UInt8) : List Nat → Nat → Msg → Except (Nat × Int) Msg
  | [], at_, M => if nzL (l.drop at_) + at_ < l.length then .error (at_ + nzL (l.drop at_), 62) else .ok M
  | j :: js, at_, M => match rdF j ((l.drop at_).take (wd j)) M with
    | .error (k, e) => .error (at_ + k, e)
    | .ok M' => rdL l js (at_ + wd j) M'
def startE (l : List UInt8) : Option Nat := if 0 < l.length ∧ dL l 0 ≠ 79 then some 0 else if 1 < l.length ∧ dL l 1 ≠ 67 then some 1 else if l.length < 10 then some l.length else none
def headE (l : List UInt8) (sz : Nat) : Option (Nat × Int) :=
  if sz = 0 then some (4, 60) else if dL l 5 ≠ 1 then some (5, 60) else if getN (dL (l.drop 2)) 2 ≠ l.length then some (2, 43) else if l.length ≠ sz then some (2, 61) else
  if getN (dL (l.drop 6)) 4 ≠ crcL (l.take 6 ++ l.drop 10) then some (6, 44) else none
/-- Where the field of a number stands. -/
def plcN (f : Int) : List Nat → Nat → Nat
  | [], at_ => at_
  | j :: l, at_ => if tNum.getD j 0 = f then at_ else plcN f l (at_ + wd j)
def kindM (z : Int) : Msg := zeroM.setZ 0 z
def decL (l : List UInt8) : Except (Nat × Int) Msg :=
  match startE l with
  | some a => .error (a, 40)
  | none => match headE l (sizeN (dL l 4)) with
    | some x => .error x
    | none => match rdL l (js (dL l 4)) 10 (kindM (dL l 4)) with
      | .error x => .error x
      | .ok M => if valE M = 0 then .ok M else .error (plcN (valN M) (js (dL l 4)) 10, valE M)
end Go.Proofs.YtkpoheknmcepnaaGreatDoor

namespace Go.Proofs.YtkpoheknmcepnaaGreatDoor
set_option linter.unusedVariables false
open Go.RowKit

theorem u8_ofNat (n : Nat) : (UInt8.ofNat n).toNat = n % 256 := by simp
theorem dL_ext {a b : List UInt8} (h : a.length = b.length) (hd : ∀ j, j < a.length → dL a j = dL b j) : a = b := by
  apply List.ext_getElem? 
  intro j
  by_cases hj : j < a.length
  · have := hd j hj
    unfold dL at this
    rw [List.getD_eq_getElem?_getD, List.getD_eq_getElem?_getD, List.getElem?_eq_getElem hj, List.getElem?_eq_getElem (h ▸ hj)] at this
    rw [List.getElem?_eq_getElem hj, List.getElem?_eq_getElem (h ▸ hj)]
    exact congrArg some (UInt8.toNat_inj.1 this)
  · rw [List.getElem?_eq_none (by omega), List.getElem?_eq_none (by omega)]
theorem dL_take {l : List UInt8} {n j : Nat} (h : j < n) : dL (l.take n) j = dL l j := by
  unfold dL; rw [List.getD_eq_getElem?_getD, List.getD_eq_getElem?_getD, List.getElem?_take_of_lt h]
theorem dL_drop (l : List UInt8) (n j : Nat) : dL (l.drop n) j = dL l (n + j) := by
  unfold dL; rw [List.getD_eq_getElem?_getD, List.getD_eq_getElem?_getD, List.getElem?_drop]
theorem dL_left {a b : List UInt8} {j : Nat} (h : j < a.length) : dL (a ++ b) j = dL a j := by
  unfold dL; rw [List.getD_eq_getElem?_getD, List.getD_eq_getElem?_getD, List.getElem?_append_left h]
theorem dL_right {a b : List UInt8} {j : Nat} (h : a.length ≤ j) : dL (a ++ b) j = dL b (j - a.length) := by
  unfold dL; rw [List.getD_eq_getElem?_getD, List.getD_eq_getElem?_getD, List.getElem?_append_right h]
theorem dL_be {s u j : Nat} (h : j < s) : dL (be s u) j = u / 2 ^ (8 * (s - 1 - j)) % 256 := by
  unfold dL be putTo
  rw [List.getD_eq_getElem?_getD]
  simp [h]
/-- What is written is read. -/
theorem get_be (s u : Nat) (r : List UInt8) (hu : u < 2 ^ (8 * s)) : getN (dL (be s u ++ r)) s = u := by
  rw [getN_put (dL (be s u ++ r)) u s s (Nat.le_refl _) fun j hj => by rw [dL_left (by rw [be_length]; exact hj), dL_be hj]]
  simp [Nat.mod_eq_of_lt hu]
/-- What is read is written. -/
theorem getN_byte (d : Nat → Nat) (hd : ∀ j, d j < 256) : ∀ s k, k < s → getN d s / 2 ^ (8 * (s - 1 - k)) % 256 = d k
  | 0, k, h => by omega
  | s + 1, k, h => by
    show (getN d s * 256 + d s) / 2 ^ (8 * (s + 1 - 1 - k)) % 256 = d k
    have hs := hd s
    by_cases e : k = s
    · subst e
      simp; omega
    · have ih := getN_byte d hd s k (by omega)
      have e2 : 8 * (s + 1 - 1 - k) = 8 + 8 * (s - 1 - k) := by omega
      rw [e2, Nat.pow_add, ← Nat.div_div_eq_div_mul, show (getN d s * 256 + d s) / 2 ^ 8 = getN d s by omega, ih]
theorem be_get (s : Nat) (b : List UInt8) (h : b.length = s) : be s (getN (dL b) s) = b :=
  dL_ext (by rw [be_length, h]) fun j hj => by
    rw [be_length] at hj
    rw [dL_be hj, getN_byte _ (dL_lt b) s j hj]
theorem be_eq {s u v : Nat} (hu : u < 2 ^ (8 * s)) (hv : v < 2 ^ (8 * s)) (h : be s u = be s v) : u = v := by
  have a := get_be s u [] hu
  rw [h, get_be s v [] hv] at a
  exact a.symm
theorem zer_length (n : Nat) : (zer n).length = n := by simp [zer]
theorem txL_text (s : List UInt8) (n : Nat) (h : ∀ c ∈ s, c ≠ 0) : txL (s ++ zer n) = s.length := by
  unfold txL zer
  rw [List.takeWhile_append_of_pos (by simpa using h)]
  cases n <;> simp [List.replicate_succ]
theorem nzL_zer (n : Nat) : nzL (zer n) = n := by
  unfold nzL zer
  rw [List.takeWhile_replicate]
  simp
theorem nzL_all {l : List UInt8} (h : nzL l = l.length) : l = zer l.length := by
  unfold nzL at h
  have h2 : l.takeWhile (· == 0) = l := List.IsPrefix.eq_of_length (List.takeWhile_prefix _) h
  unfold zer
  refine List.eq_replicate_iff.2 ⟨rfl, fun b hb => ?_⟩
  rw [← h2] at hb
  simpa using List.all_eq_true.1 (List.all_takeWhile (p := (· == 0)) (l := l)) b hb
theorem nzL_le (l : List UInt8) : nzL l ≤ l.length := (List.takeWhile_prefix _).length_le
theorem txL_le (l : List UInt8) : txL l ≤ l.length := (List.takeWhile_prefix _).length_le

/-- What may stand in a field. -/
structure Fit1 (M : Msg) (j : Nat) : Prop where
  str : isStr j = true → (M.s j).size ≤ wd j ∧ ∀ c ∈ (M.s j).data.toList, c ≠ 0
  num : isStr j = false → isBoo j = false → 0 ≤ M.z j ∧ M.z j < 256 ^ wd j ∧ M.z j < 9223372036854775808
theorem stN_fit {z m : Int} {k : Nat} (h : stN z m ≠ 2) (hm : m < 256 ^ k) (hm2 : m < 9223372036854775808) (hk : (0 : Int) < 256 ^ k) : 0 ≤ z ∧ z < 256 ^ k ∧ z < 9223372036854775808 := by
  unfold stN at h
  split at h
  · subst z; exact ⟨by omega, hk, by omega⟩
  · split at h
    · exact absurd rfl h
    · omega
theorem all_ne {p : Nat → Bool} {s : ByteArray} (h : allB p s = true) (h0 : p 0 = false) : ∀ c ∈ s.data.toList, c ≠ 0 := fun c hc e => by
  subst e
  unfold allB at h
  have := List.all_eq_true.1 h _ hc
  rw [show (0 : UInt8).toNat = 0 from rfl, h0] at this
  cases this
theorem stT_fit {p : ByteArray → Bool} {s : ByteArray} {n : Nat} (h : stT p s ≠ 2) (hp : p s = true → s.size ≤ n ∧ ∀ c ∈ s.data.toList, c ≠ 0) : s.size ≤ n ∧ ∀ c ∈ s.data.toList, c ≠ 0 := by
  unfold stT at h
  split at h
  · rename_i h0
    refine ⟨by omega, fun c hc => ?_⟩
    have hn : s.data.toList = [] := List.eq_nil_of_length_eq_zero (by rw [Array.length_toList]; exact h0)
    rw [hn] at hc
    cases hc
  · split at h
    · exact hp ‹_›
    · exact absurd rfl h
theorem nm_fit {s : ByteArray} (h : nmS s = true) : s.size ≤ 12 ∧ ∀ c ∈ s.data.toList, c ≠ 0 := by
  simp only [nmS, Bool.and_eq_true, decide_eq_true_eq] at h; exact ⟨h.1.2, all_ne h.2 (by decide)⟩
theorem id_fit {s : ByteArray} (h : idS s = true) : s.size ≤ 20 ∧ ∀ c ∈ s.data.toList, c ≠ 0 := by
  simp only [idS, Bool.and_eq_true, decide_eq_true_eq] at h; exact ⟨h.1.2, all_ne h.2 (by decide)⟩
theorem sy_fit {s : ByteArray} (h : syS s = true) : s.size ≤ 8 ∧ ∀ c ∈ s.data.toList, c ≠ 0 := by
  simp only [syS, Bool.and_eq_true, decide_eq_true_eq] at h; exact ⟨h.1.1.2, all_ne h.2 (by decide)⟩
theorem tx_fit {s : ByteArray} (h : txS s = true) : s.size ≤ 60 ∧ ∀ c ∈ s.data.toList, c ≠ 0 := by
  simp only [txS, Bool.and_eq_true, decide_eq_true_eq] at h; exact ⟨h.1, all_ne h.2 (by decide)⟩
theorem ti_fit {s : ByteArray} (h : tiS s = true) : s.size ≤ 20 ∧ ∀ c ∈ s.data.toList, c ≠ 0 := by
  simp only [tiS, Bool.and_eq_true, decide_eq_true_eq] at h; exact ⟨h.1, (tx_fit h.2).2⟩
theorem dnB_bd {z : Int} (h : dnB z = true) : 0 ≤ z ∧ z ≤ 99991231 := by
  unfold dnB at h
  obtain ⟨n, hn⟩ := Option.isSome_iff_exists.1 h
  obtain ⟨h1, h2⟩ := dnum_some hn
  have := dateN_bounds h1
  omega
theorem stD_fit {z : Int} (h : stD z ≠ 2) : 0 ≤ z ∧ z < 256 ^ 4 ∧ z < 9223372036854775808 := by
  unfold stD at h
  split at h
  · subst z; decide
  · split at h
    · rename_i h1
      have := dnB_bd h1
      omega
    · exact absurd rfl h
/-- A field that is not wrong. -/
theorem fit_at {M : Msg} {j : Nat} (h1 : 1 ≤ j) (hj : j < 42) (h : stOf M j ≠ 2) : Fit1 M j := by
  have h0 : j ≠ 0 := by omega
  rcases cases42 hj with rfl | rfl | rfl | rfl | rfl | rfl | rfl | rfl | rfl | rfl | rfl | rfl | rfl | rfl | rfl | rfl | rfl | rfl | rfl | rfl | rfl | rfl | rfl | rfl | rfl | rfl | rfl | rfl | rfl | rfl | rfl | rfl | rfl | rfl | rfl | rfl | rfl | rfl | rfl | rfl | rfl | rfl <;>
    first
    | exact absurd rfl h0
    | exact ⟨fun _ => stT_fit h nm_fit, fun e => by cases e⟩
    | exact ⟨fun _ => stT_fit h ti_fit, fun e => by cases e⟩
    | exact ⟨fun _ => stT_fit h tx_fit, fun e => by cases e⟩
    | exact ⟨fun _ => stT_fit h id_fit, fun e => by cases e⟩
    | exact ⟨fun _ => stT_fit h sy_fit, fun e => by cases e⟩
    | exact ⟨(fun e => by cases e), fun _ _ => stN_fit h (by decide) (by decide) (by decide)⟩
    | exact ⟨(fun e => by cases e), fun _ _ => stD_fit h⟩
    | exact ⟨(fun e => by cases e), fun _ e => by cases e⟩
theorem zero_at {M : Msg} {j : Nat} (hj : j < 42) (h : stOf M j = 0) : M.cell j = zeroM.cell j := by
  have aN : ∀ {z m : Int}, stN z m = 0 → z = 0 := fun {z m} h => by
    unfold stN at h
    split at h
    · assumption
    · split at h <;> cases h
  have aD : ∀ {z : Int}, stD z = 0 → z = 0 := fun {z} h => by
    unfold stD at h
    split at h
    · assumption
    · split at h <;> cases h
  have aB : ∀ {b : Bool}, stB b = 0 → b = false := fun {b} h => by
    cases b
    · rfl
    · cases h
  have aT : ∀ {p : ByteArray → Bool} {s : ByteArray}, stT p s = 0 → s = ⟨#[]⟩ := fun {p s} h => by
    unfold stT at h
    split at h
    · rename_i h0
      obtain ⟨d⟩ := s
      have : d = #[] := Array.eq_empty_of_size_eq_zero h0
      rw [this]
    · split at h <;> cases h
  rcases cases42 hj with rfl | rfl | rfl | rfl | rfl | rfl | rfl | rfl | rfl | rfl | rfl | rfl | rfl | rfl | rfl | rfl | rfl | rfl | rfl | rfl | rfl | rfl | rfl | rfl | rfl | rfl | rfl | rfl | rfl | rfl | rfl | rfl | rfl | rfl | rfl | rfl | rfl | rfl | rfl | rfl | rfl | rfl <;>
    first
    | exact congrArg Value.string (aT h)
    | exact congrArg Value.bool (aB h)
    | exact congrArg (Value.int .i64) (aN h)
    | exact congrArg (Value.int .i64) (aD h)
theorem row_ok {must may oz : Bool} {f : Nat} (h : rowErr must may oz f = 0) : f ≠ 2 ∧ (must = false → may = false → f = 0) := by
  unfold rowErr at h
  split at h
  · cases h
  · rename_i h1
    split at h
    · cases h
    · rename_i h2
      refine ⟨fun e => by subst e; simp at h2, fun a b => ?_⟩
      subst a; subst b
      simpa using h1
/-- Whether a kind has a field, by the table. -/
theorem hasB_tab : ((List.range 18).all fun z => (List.range 42).all fun j => z == 0 || (hasB (z : Int) j == ((tMust.getD j 0).testBit z || (tMay.getD j 0).testBit z))) = true := by kernel_rfl
theorem hasB_eq {z : Int} (hK : isK z = true) {j : Nat} (hj : j < 42) : hasB z j = ((tMust.getD j 0).testBit z.toNat || (tMay.getD j 0).testBit z.toNat) := by
  have hz : 1 ≤ z ∧ z ≤ 17 := by simpa [isK] using hK
  have h1 := List.all_eq_true.1 hasB_tab z.toNat (by simp; omega)
  have h2 := List.all_eq_true.1 h1 j (by simp; omega)
  have h3 : (z.toNat == 0) = false := by simp; omega
  rw [h3, Bool.false_or, show ((z.toNat : Nat) : Int) = z by omega] at h2
  simpa using h2
theorem hasB_no {z : Int} (hK : isK z = false) (j : Nat) : hasB z j = false := by simp [hasB, hasN, hK]
theorem js_no {z : Int} (hK : isK z = false) : js z = [] := by
  have : ∀ k, jsU z k = [] := fun k => by
    induction k with
    | zero => rfl
    | succ k ih => simp [jsU, ih, hasB_no hK]
  exact this 41
theorem js_tab : ((List.range 18).all fun z => z == 0 || ((js (z : Int)).length != 0 && decide (wS (js (z : Int)) ≤ 400))) = true := by kernel_rfl
theorem js_yes {z : Int} (hK : isK z = true) : js z ≠ [] ∧ wS (js z) ≤ 400 := by
  have hz : 1 ≤ z ∧ z ≤ 17 := by simpa [isK] using hK
  have h1 := List.all_eq_true.1 js_tab z.toNat (by simp; omega)
  have h3 : (z.toNat == 0) = false := by simp; omega
  rw [h3, Bool.false_or, show ((z.toNat : Nat) : Int) = z by omega, Bool.and_eq_true, decide_eq_true_eq] at h1
  refine ⟨fun e => ?_, h1.2⟩
  rw [e] at h1
  simp at h1
/-- A message that may be: what stands in its fields. -/
theorem valid_fit {M : Msg} (h : valE M = 0) : isK (M.z 0) = true ∧ (∀ j, 1 ≤ j → j < 42 → Fit1 M j) ∧ ∀ j, 1 ≤ j → j < 42 → j ∉ js (M.z 0) → M.cell j = zeroM.cell j := by
  obtain ⟨hK, hr, _⟩ := val_ok h
  refine ⟨hK, fun j h1 hj => fit_at h1 hj (row_ok (hr j hj)).1, fun j h1 hj hn => zero_at hj ((row_ok (hr j hj)).2 ?_ ?_)⟩
  · have := hasB_eq hK hj
    have h2 : hasB (M.z 0) j = false := by
      cases e : hasB (M.z 0) j
      · rfl
      · exact absurd (mem_js.2 ⟨h1, by omega, e⟩) hn
    rw [h2] at this
    exact (Bool.or_eq_false_iff.1 this.symm).1
  · have := hasB_eq hK hj
    have h2 : hasB (M.z 0) j = false := by
      cases e : hasB (M.z 0) j
      · rfl
      · exact absurd (mem_js.2 ⟨h1, by omega, e⟩) hn
    rw [h2] at this
    exact (Bool.or_eq_false_iff.1 this.symm).2
/-- A field taken over. -/
def upd (M M0 : Msg) (j : Nat) : Msg := if isStr j then M0.setS j (M.s j) else if isBoo j then M0.setB j (M.b j) else M0.setZ j (M.z j)
theorem upd_cell (M M0 : Msg) (j i : Nat) : (upd M M0 j).cell i = if i = j then M.cell i else M0.cell i := by
  unfold upd
  by_cases e : i = j
  · subst e
    cases hs : isStr i
    · cases hb : isBoo i <;> simp [Msg.cell, hs, hb, Msg.setB, Msg.setZ]
    · simp [Msg.cell, hs, Msg.setS]
  · simp only [e, reduceIte]
    cases hs : isStr j
    · cases hb : isBoo j <;> simp [Msg.cell, Msg.setB, Msg.setZ, e]
    · simp [Msg.cell, Msg.setS, e]
theorem upds_cell (M : Msg) (i : Nat) : ∀ (l : List Nat) (M0 : Msg), (l.foldl (upd M) M0).cell i = if i ∈ l then M.cell i else M0.cell i
  | [], M0 => by simp
  | j :: l, M0 => by
    rw [List.foldl_cons, upds_cell M i l, upd_cell]
    by_cases h1 : i ∈ l
    · simp [h1]
    · by_cases h2 : i = j
      · simp [h2]
      · simp [h1, h2]
theorem cs_eq {M M' : Msg} (h : ∀ i, i < 42 → M.cell i = M'.cell i) : M.cs = M'.cs := by
  unfold Msg.cs
  exact congrArg List.toArray (List.map_congr_left fun i hi => h i (by simpa using hi))
theorem cs_cell {M M' : Msg} (h : M.cs = M'.cs) (i : Nat) (hi : i < 42) : M.cell i = M'.cell i := by
  have a := M.cs_get i hi
  rw [h, M'.cs_get i hi] at a
  exact (Option.some.inj a).symm
theorem wd_le : ∀ j, wd j ≤ 60 := fun j => by
  unfold wd
  by_cases h : j < 42
  · rcases cases42 h with rfl | rfl | rfl | rfl | rfl | rfl | rfl | rfl | rfl | rfl | rfl | rfl | rfl | rfl | rfl | rfl | rfl | rfl | rfl | rfl | rfl | rfl | rfl | rfl | rfl | rfl | rfl | rfl | rfl | rfl | rfl | rfl | rfl | rfl | rfl | rfl | rfl | rfl | rfl | rfl | rfl | rfl <;> decide
  · rw [List.getD_eq_getElem?_getD, List.getElem?_eq_none (by show 42 ≤ j; omega)]; decide
theorem wd_num {j : Nat} (hj : j < 42) (hs : isStr j = false) : 1 ≤ wd j ∧ wd j ≤ 8 := by
  rcases cases42 hj with rfl | rfl | rfl | rfl | rfl | rfl | rfl | rfl | rfl | rfl | rfl | rfl | rfl | rfl | rfl | rfl | rfl | rfl | rfl | rfl | rfl | rfl | rfl | rfl | rfl | rfl | rfl | rfl | rfl | rfl | rfl | rfl | rfl | rfl | rfl | rfl | rfl | rfl | rfl | rfl | rfl | rfl <;> first | decide | exact absurd hs (by decide)
theorem wd_boo {j : Nat} (hj : j < 42) (hb : isBoo j = true) : wd j = 1 := by
  rcases cases42 hj with rfl | rfl | rfl | rfl | rfl | rfl | rfl | rfl | rfl | rfl | rfl | rfl | rfl | rfl | rfl | rfl | rfl | rfl | rfl | rfl | rfl | rfl | rfl | rfl | rfl | rfl | rfl | rfl | rfl | rfl | rfl | rfl | rfl | rfl | rfl | rfl | rfl | rfl | rfl | rfl | rfl | rfl <;> first | decide | exact absurd hb (by decide)
theorem encF_length {M : Msg} {j : Nat} (hj : j < 42) (h : Fit1 M j) : (encF M j).length = wd j := by
  unfold encF
  cases hs : isStr j
  · cases hb : isBoo j
    · simp [be_length]
    · simp [wd_boo hj hb]
  · have := (h.str hs).1
    simp only [reduceIte, List.length_append, zer_length, Array.length_toList]
    show (M.s j).size + _ = _
    omega
theorem pow256 (k : Nat) : (256 : Int) ^ k = ((2 ^ (8 * k) : Nat) : Int) := by
  rw [Nat.pow_mul]; simp
theorem rdF_enc {M : Msg} (M0 : Msg) {j : Nat} (hj : j < 42) (h : Fit1 M j) : rdF j (encF M j) M0 = .ok (upd M M0 j) := by
  have hlen := encF_length hj h
  unfold rdF upd
  cases hs : isStr j
  · cases hb : isBoo j
    · simp only [Bool.false_eq_true, reduceIte]
      obtain ⟨h0, h1, h2⟩ := h.num hs hb
      have e : encF M j = be (wd j) (u64N (M.z j)) := by simp [encF, hs, hb]
      have hu : (u64N (M.z j) : Int) = M.z j := by unfold u64N; omega
      rw [e]
      have g := get_be (wd j) (u64N (M.z j)) [] (by rw [pow256] at h1; omega)
      rw [List.append_nil] at g
      rw [g]
      have : wr64 (u64N (M.z j)) = M.z j := by unfold wr64; rw [if_pos (by omega)]; exact hu
      rw [this]
    · simp only [Bool.false_eq_true, reduceIte]
      have e : encF M j = [if M.b j then 1 else 0] := by simp [encF, hs, hb]
      rw [e]
      cases M.b j <;> rfl
  · simp only [reduceIte]
    obtain ⟨h0, h1⟩ := h.str hs
    have e : encF M j = (M.s j).data.toList ++ zer (wd j - (M.s j).size) := by simp [encF, hs]
    rw [e, txL_text _ _ h1, List.drop_left, nzL_zer, if_neg (by simp [zer_length]), List.take_left]
theorem drop_at {α : Type} (p b r : List α) {n : Nat} (h : n = p.length) : ((p ++ b ++ r).drop n).take b.length = b := by
  subst h; rw [List.append_assoc, List.drop_left, List.take_left]
theorem rdL_enc {M : Msg} (n : Nat) : ∀ (l : List Nat) (p : List UInt8) (M0 : Msg), (∀ j ∈ l, j < 42 ∧ Fit1 M j) → rdL (p ++ blkL M l ++ zer n) l p.length M0 = .ok (l.foldl (upd M) M0)
  | [], p, M0, _ => by
    unfold rdL
    rw [if_neg]
    · rfl
    · simp only [blkL, List.flatMap_nil, List.append_nil]
      rw [List.drop_left, nzL_zer, List.length_append, zer_length]
      omega
  | j :: l, p, M0, h => by
    obtain ⟨hj, hf⟩ := h j (by simp)
    have hl := encF_length hj hf
    have e : p ++ blkL M (j :: l) ++ zer n = p ++ encF M j ++ (blkL M l ++ zer n) := by simp [blkL, List.append_assoc]
    have e2 : p ++ blkL M (j :: l) ++ zer n = (p ++ encF M j) ++ blkL M l ++ zer n := by simp [blkL, List.append_assoc]
    unfold rdL
    rw [show ((p ++ blkL M (j :: l) ++ zer n).drop p.length).take (wd j) = encF M j by rw [e, ← hl]; exact drop_at p _ _ rfl, rdF_enc M0 hj hf]
    show rdL _ l (p.length + wd j) (upd M M0 j) = _
    have ih := rdL_enc n l (p ++ encF M j) (upd M M0 j) (fun i hi => h i (by simp [hi]))
    rw [e2, show p.length + wd j = (p ++ encF M j).length by rw [List.length_append, hl], ih]
    rfl
theorem blkL_length {M : Msg} : ∀ (l : List Nat), (∀ j ∈ l, j < 42 ∧ Fit1 M j) → (blkL M l).length = wS l
  | [], _ => rfl
  | j :: l, h => by
    have ih := blkL_length l fun i hi => h i (by simp [hi])
    obtain ⟨hj, hf⟩ := h j (by simp)
    show (encF M j ++ blkL M l).length = wd j + wS l
    rw [List.length_append, ih, encF_length hj hf]
end Go.Proofs.YtkpoheknmcepnaaGreatDoor

namespace Go.Proofs.YtkpoheknmcepnaaGreatDoor
set_option linter.unusedVariables false
open Go.RowKit

theorem z_cs {M M' : Msg} (h : M.cs = M'.cs) (i : Nat) (hi : i < 42) (hs : isStr i = false) (hb : isBoo i = false) : M.z i = M'.z i := by
  have := cs_cell h i hi
  simpa [Msg.cell, hs, hb] using this
theorem s_cs {M M' : Msg} (h : M.cs = M'.cs) (i : Nat) (hi : i < 42) (hs : isStr i = true) : M.s i = M'.s i := by
  have := cs_cell h i hi
  simpa [Msg.cell, hs] using this
theorem b_cs {M M' : Msg} (h : M.cs = M'.cs) (i : Nat) (hi : i < 42) (hs : isStr i = false) (hb : isBoo i = true) : M.b i = M'.b i := by
  have := cs_cell h i hi
  simpa [Msg.cell, hs, hb] using this
theorem st_cs {M M' : Msg} (h : M.cs = M'.cs) {j : Nat} (hj : j < 42) : stOf M j = stOf M' j := by
  rcases cases42 hj with rfl | rfl | rfl | rfl | rfl | rfl | rfl | rfl | rfl | rfl | rfl | rfl | rfl | rfl | rfl | rfl | rfl | rfl | rfl | rfl | rfl | rfl | rfl | rfl | rfl | rfl | rfl | rfl | rfl | rfl | rfl | rfl | rfl | rfl | rfl | rfl | rfl | rfl | rfl | rfl | rfl | rfl <;>
    first
    | exact congrArg (stN · _) (z_cs h _ (by decide) rfl rfl)
    | exact congrArg (stT _) (s_cs h _ (by decide) rfl)
    | exact congrArg stB (b_cs h _ (by decide) rfl rfl)
    | exact congrArg stD (z_cs h _ (by decide) rfl rfl)
theorem err_cs {M M' : Msg} (h : M.cs = M'.cs) {j : Nat} (hj : j < 42) : errAt M j = errAt M' j := by
  unfold errAt
  rw [st_cs h hj, z_cs h 0 (by decide) rfl rfl]
theorem first_cs {M M' : Msg} (h : M.cs = M'.cs) : firstErr M = firstErr M' := by
  unfold firstErr
  have : ∀ l : List Nat, (∀ j ∈ l, j < 42) → l.find? (fun j => errAt M j != 0) = l.find? fun j => errAt M' j != 0 := fun l => by
    induction l with
    | nil => intro _; rfl
    | cons x l ih =>
      intro hl
      rw [List.find?_cons, List.find?_cons, err_cs h (hl x (by simp)), ih fun j hj => hl j (by simp [hj])]
  exact this _ fun j hj => by simpa using hj
theorem fit_cs {M M' : Msg} (h : M.cs = M'.cs) : fitN M = fitN M' := by
  unfold fitN
  rw [z_cs h 6 (by decide) rfl rfl, b_cs h 4 (by decide) rfl rfl, z_cs h 0 (by decide) rfl rfl, z_cs h 11 (by decide) rfl rfl, z_cs h 10 (by decide) rfl rfl, z_cs h 24 (by decide) rfl rfl, z_cs h 26 (by decide) rfl rfl, z_cs h 27 (by decide) rfl rfl, z_cs h 28 (by decide) rfl rfl, z_cs h 29 (by decide) rfl rfl, z_cs h 30 (by decide) rfl rfl, z_cs h 25 (by decide) rfl rfl, z_cs h 31 (by decide) rfl rfl, z_cs h 34 (by decide) rfl rfl, z_cs h 36 (by decide) rfl rfl, z_cs h 37 (by decide) rfl rfl, z_cs h 38 (by decide) rfl rfl, z_cs h 39 (by decide) rfl rfl]
theorem val_cs {M M' : Msg} (h : M.cs = M'.cs) : valE M = valE M' := by
  unfold valE
  rw [fit_cs h, first_cs h, z_cs h 0 (by decide) rfl rfl]
  cases hf : firstErr M' with
  | none => rfl
  | some j =>
    have hj : j < 42 := by
      unfold firstErr at hf
      have := List.mem_of_find?_eq_some hf
      simpa using this
    dsimp only
    rw [err_cs h hj]
theorem zero_notin (z : Int) : 0 ∉ js z := fun h => by have := (mem_js.1 h).1; omega
theorem js_fit {M : Msg} (h : valE M = 0) : ∀ j ∈ js (M.z 0), j < 42 ∧ Fit1 M j := fun j hj => by
  obtain ⟨h1, h2, _⟩ := mem_js.1 hj
  exact ⟨by omega, (valid_fit h).2.1 j h1 (by omega)⟩
theorem pad_sum (n : Nat) : n + padN n = (n + 7) / 8 * 8 := by unfold padN; omega
theorem body_length {M : Msg} (h : valE M = 0) : (bodyB M).length = (wS (js (M.z 0)) + 7) / 8 * 8 := by
  unfold bodyB
  rw [List.length_append, blkL_length _ (js_fit h), zer_length, pad_sum]
theorem size_eq {z : Int} (hK : isK z = true) : sizeN z = 10 + (wS (js z) + 7) / 8 * 8 ∧ sizeN z ≤ 418 ∧ 10 ≤ sizeN z := by
  have := js_yes hK
  unfold sizeN
  rw [if_neg this.1]
  omega
theorem frame_length {M : Msg} (h : valE M = 0) : (frameL M).length = sizeN (M.z 0) := by
  unfold frameL
  rw [List.length_append, List.length_append, hdL_length, be_length, body_length h, (size_eq (valid_fit h).1).1]
theorem hd_0 (z : Int) : dL (hdL z) 0 = 79 := rfl
theorem hd_1 (z : Int) : dL (hdL z) 1 = 67 := rfl
theorem hd_4 (z : Int) : dL (hdL z) 4 = u64N z % 256 := by
  unfold hdL; rw [dL_right (by simp [be_length])]; simp [be_length, dL]
theorem hd_5 (z : Int) : dL (hdL z) 5 = 1 := by
  unfold hdL; rw [dL_right (by simp [be_length])]; simp [be_length, dL]
theorem kind_byte {z : Int} (hK : isK z = true) : ((u64N z % 256 : Nat) : Int) = z := by
  have hz : 1 ≤ z ∧ z ≤ 17 := by simpa [isK] using hK
  unfold u64N; omega
theorem fr_take (M : Msg) : (frameL M).take 6 = hdL (M.z 0) := by
  unfold frameL; rw [List.append_assoc, List.take_left' (hdL_length _)]
theorem fr_drop6 (M : Msg) : (frameL M).drop 6 = be 4 (crcL (hdL (M.z 0) ++ bodyB M)) ++ bodyB M := by
  unfold frameL; rw [List.append_assoc, List.drop_left' (hdL_length _)]
theorem fr_drop10 (M : Msg) : (frameL M).drop 10 = bodyB M := by
  unfold frameL; rw [List.drop_left' (by rw [List.length_append, hdL_length, be_length])]
theorem fr_hd (M : Msg) {j : Nat} (h : j < 6) : dL (frameL M) j = dL (hdL (M.z 0)) j := by
  rw [← fr_take, dL_take h]
theorem crcL_lt (l : List UInt8) : crcL l < 2 ^ (8 * 4) := xor_lt32 (by decide) (crcRow_lt _ _ fun j _ => dL_lt l j)
theorem fr_start {M : Msg} (h : valE M = 0) : startE (frameL M) = none := by
  have hl := frame_length h
  have hs := size_eq (valid_fit h).1
  unfold startE
  rw [fr_hd M (by decide), fr_hd M (by decide), hd_0, hd_1, if_neg (by omega), if_neg (by omega), if_neg (by omega)]
theorem fr_head {M : Msg} (h : valE M = 0) : headE (frameL M) (sizeN (M.z 0)) = none := by
  have hl := frame_length h
  have hs := size_eq (valid_fit h).1
  unfold headE
  rw [if_neg (by omega), fr_hd M (by decide), hd_5, if_neg (by simp)]
  have e2 : getN (dL ((frameL M).drop 2)) 2 = sizeN (M.z 0) := by
    have : (frameL M).drop 2 = be 2 (sizeN (M.z 0)) ++ ([UInt8.ofNat (u64N (M.z 0) % 256), 1] ++ be 4 (crcL (hdL (M.z 0) ++ bodyB M)) ++ bodyB M) := by
      unfold frameL hdL; simp [List.append_assoc]
    rw [this]
    exact get_be 2 _ _ (by omega)
  rw [e2, hl, if_neg (by simp), if_neg (by simp), fr_drop6, fr_take, fr_drop10, get_be 4 _ _ (crcL_lt _), if_neg (by simp)]
theorem fr_kind {M : Msg} (h : valE M = 0) : ((dL (frameL M) 4 : Nat) : Int) = M.z 0 := by
  rw [fr_hd M (by decide), hd_4, kind_byte (valid_fit h).1]
theorem fr_read {M : Msg} (h : valE M = 0) : rdL (frameL M) (js (M.z 0)) 10 (kindM (M.z 0)) = .ok ((js (M.z 0)).foldl (upd M) (kindM (M.z 0))) := by
  have := rdL_enc (padN (wS (js (M.z 0)))) (js (M.z 0)) (hdL (M.z 0) ++ be 4 (crcL (hdL (M.z 0) ++ bodyB M))) (kindM (M.z 0)) (js_fit h)
  rw [List.length_append, hdL_length, be_length] at this
  rw [← this]
  unfold frameL bodyB
  simp [List.append_assoc]
theorem fr_cs {M : Msg} (h : valE M = 0) : ((js (M.z 0)).foldl (upd M) (kindM (M.z 0))).cs = M.cs := cs_eq fun i hi => by
  rw [upds_cell]
  by_cases hj : i ∈ js (M.z 0)
  · rw [if_pos hj]
  · rw [if_neg hj]
    by_cases h0 : i = 0
    · subst h0; rfl
    · rw [(valid_fit h).2.2 i (by omega) hi hj]
      simp [kindM, Msg.cell, Msg.setZ, h0]
/-- A frame is read as its message. -/
theorem dec_frame {M : Msg} (h : valE M = 0) : ∃ M', decL (frameL M) = .ok M' ∧ M'.cs = M.cs := by
  refine ⟨_, ?_, fr_cs h⟩
  unfold decL
  rw [fr_start h]
  dsimp only
  rw [fr_kind h, fr_head h]
  dsimp only
  rw [fr_read h]
  dsimp only
  rw [if_pos (by rw [val_cs (fr_cs h)]; exact h)]

theorem dec_ok {l : List UInt8} {M : Msg} (h : decL l = .ok M) : startE l = none ∧ headE l (sizeN (dL l 4)) = none ∧ rdL l (js (dL l 4)) 10 (kindM (dL l 4)) = .ok M ∧ valE M = 0 := by
  unfold decL at h
  cases h1 : startE l with
  | some a => rw [h1] at h; cases h
  | none =>
    rw [h1] at h
    dsimp only at h
    cases h2 : headE l (sizeN (dL l 4)) with
    | some a => rw [h2] at h; cases h
    | none =>
      rw [h2] at h
      dsimp only at h
      cases h3 : rdL l (js (dL l 4)) 10 (kindM (dL l 4)) with
      | error x => rw [h3] at h; cases h
      | ok M' =>
        rw [h3] at h
        dsimp only at h
        by_cases h4 : valE M' = 0
        · rw [if_pos h4] at h
          cases h
          exact ⟨rfl, rfl, rfl, h4⟩
        · rw [if_neg h4] at h; cases h
theorem start_ok {l : List UInt8} (h : startE l = none) : 10 ≤ l.length ∧ dL l 0 = 79 ∧ dL l 1 = 67 := by
  unfold startE at h
  split at h
  · cases h
  · split at h
    · cases h
    · split at h
      · cases h
      · omega
theorem head_ok {l : List UInt8} {sz : Nat} (h : headE l sz = none) : sz ≠ 0 ∧ dL l 5 = 1 ∧ getN (dL (l.drop 2)) 2 = l.length ∧ l.length = sz ∧ getN (dL (l.drop 6)) 4 = crcL (l.take 6 ++ l.drop 10) := by
  unfold headE at h
  split at h
  · cases h
  · split at h
    · cases h
    · split at h
      · cases h
      · split at h
        · cases h
        · split at h
          · cases h
          · exact ⟨‹_›, by omega, by omega, by omega, by omega⟩
theorem size_kind {z : Int} (h : sizeN z ≠ 0) : isK z = true := by
  cases hK : isK z
  · unfold sizeN at h; rw [js_no hK] at h; exact absurd rfl h
  · rfl
/-- Fields that are not read stay. -/
def same1 (M M' : Msg) (j : Nat) : Prop := M.z j = M'.z j ∧ M.s j = M'.s j ∧ M.b j = M'.b j
theorem rdF_keep {j i : Nat} {b : List UInt8} {M M' : Msg} (h : rdF j b M = .ok M') (hi : i ≠ j) : same1 M' M i := by
  unfold rdF at h
  split at h
  · split at h
    · cases h
    · cases h; exact ⟨rfl, by simp [Msg.setS, hi], rfl⟩
  · split at h
    · split at h
      · cases h
      · cases h; exact ⟨rfl, rfl, by simp [Msg.setB, hi]⟩
    · cases h; exact ⟨by simp [Msg.setZ, hi], rfl, rfl⟩
theorem rdL_keep {l : List UInt8} {i : Nat} {M' : Msg} : ∀ (js : List Nat) (p : Nat) (M : Msg), rdL l js p M = .ok M' → i ∉ js → same1 M' M i
  | [], p, M, h, _ => by
    unfold rdL at h
    split at h
    · cases h
    · cases h; exact ⟨rfl, rfl, rfl⟩
  | j :: js, p, M, h, hi => by
    unfold rdL at h
    cases h1 : rdF j ((l.drop p).take (wd j)) M with
    | error x => rw [h1] at h; cases h
    | ok M1 =>
      rw [h1] at h
      have a := rdL_keep (i := i) js (p + wd j) M1 h (fun e => hi (by simp [e]))
      have b := rdF_keep (i := i) h1 (fun e => hi (by simp [e]))
      exact ⟨a.1.trans b.1, a.2.1.trans b.2.1, a.2.2.trans b.2.2⟩
theorem enc_same {M M' : Msg} {j : Nat} (h : same1 M M' j) : encF M j = encF M' j := by
  unfold encF; rw [h.1, h.2.1, h.2.2]
theorem u64_wr {u : Nat} (h : u < 18446744073709551616) : u64N (wr64 u) = u := by unfold wr64 u64N; split <;> omega
theorem getN_lt2 (d : Nat → Nat) (k : Nat) (h : ∀ j, d j < 256) (hk : k ≤ 8) : getN d k < 18446744073709551616 := getN_lt8 d k hk fun j _ => h j
theorem text_back (b : List UInt8) (h : ¬ txL b + nzL (b.drop (txL b)) < b.length) : b.take (txL b) ++ zer (b.length - txL b) = b := by
  have h1 := txL_le b
  have h2 := nzL_le (b.drop (txL b))
  rw [List.length_drop] at h2
  have h3 : b.drop (txL b) = zer (b.drop (txL b)).length := nzL_all (by rw [List.length_drop]; omega)
  rw [List.length_drop] at h3
  rw [← h3, List.take_append_drop]
theorem rdF_back {j : Nat} (hj : j < 42) {b : List UInt8} (hb : b.length = wd j) {M M' : Msg} (h : rdF j b M = .ok M') : encF M' j = b := by
  unfold rdF at h
  cases hs : isStr j
  · rw [hs] at h
    simp only [Bool.false_eq_true, reduceIte] at h
    cases hbo : isBoo j
    · rw [hbo] at h
      simp only [Bool.false_eq_true, reduceIte] at h
      cases h
      simp only [encF, hs, hbo, Bool.false_eq_true, reduceIte, Msg.setZ]
      rw [u64_wr (getN_lt2 _ _ (dL_lt b) (wd_num hj hs).2), be_get _ _ hb]
    · rw [hbo] at h
      simp only [reduceIte] at h
      split at h
      · cases h
      · rename_i hc
        cases h
        simp only [encF, hs, hbo, Bool.false_eq_true, reduceIte, Msg.setB]
        rw [wd_boo hj hbo] at hb
        obtain ⟨c, rfl⟩ := List.length_eq_one_iff.1 hb
        have : dL [c] 0 = c.toNat := rfl
        rw [this] at hc ⊢
        refine congrArg (· :: []) (UInt8.toNat_inj.1 ?_)
        by_cases e : c.toNat = 1
        · simp [e]
        · have : c.toNat = 0 := by omega
          simp [this]
  · rw [hs] at h
    simp only [reduceIte] at h
    split at h
    · cases h
    · rename_i hc
      cases h
      simp only [encF, hs, reduceIte, Msg.setS]
      have hsz : (ByteArray.mk (b.take (txL b)).toArray).size = txL b := by
        show (b.take (txL b)).toArray.size = _
        have := txL_le b
        simp; omega
      rw [hsz, ← hb]
      exact text_back b hc
theorem rdL_back {l : List UInt8} {M' : Msg} : ∀ (js : List Nat) (p : Nat) (M : Msg), rdL l js p M = .ok M' → js.Nodup → (∀ j ∈ js, j < 42) → p + wS js ≤ l.length →
    blkL M' js = (l.drop p).take (wS js) ∧ l.drop (p + wS js) = zer (l.length - (p + wS js))
  | [], p, M, h, _, _, hp => by
    unfold rdL at h
    split at h
    · cases h
    · rename_i hc
      refine ⟨by simp [blkL, wS], ?_⟩
      simp only [wS, Nat.add_zero] at hp ⊢
      have h2 := nzL_le (l.drop p)
      rw [List.length_drop] at h2
      have h3 := nzL_all (l := l.drop p) (by rw [List.length_drop]; omega)
      rw [List.length_drop] at h3
      exact h3
  | j :: js, p, M, h, hn, hlt, hp => by
    unfold rdL at h
    simp only [wS] at hp ⊢
    cases h1 : rdF j ((l.drop p).take (wd j)) M with
    | error x => rw [h1] at h; cases h
    | ok M1 =>
      rw [h1] at h
      obtain ⟨a, b⟩ := rdL_back js (p + wd j) M1 h (List.nodup_cons.1 hn).2 (fun i hi => hlt i (by simp [hi])) (by omega)
      have c := rdF_back (hlt j (by simp)) (by rw [List.length_take, List.length_drop]; omega) h1
      have d := enc_same (rdL_keep js (p + wd j) M1 h (List.nodup_cons.1 hn).1)
      refine ⟨?_, by rw [show p + (wd j + wS js) = p + wd j + wS js by omega]; exact b⟩
      show encF M' j ++ blkL M' js = _
      rw [d, c, a, ← List.drop_drop, List.take_add]
theorem take6 {l : List UInt8} {z : Int} (hl : 6 ≤ l.length) (h0 : dL l 0 = 79) (h1 : dL l 1 = 67) (h23 : getN (dL (l.drop 2)) 2 = sizeN z) (h4 : dL l 4 = u64N z % 256) (h5 : dL l 5 = 1) : l.take 6 = hdL z := by
  have e2 : be 2 (sizeN z) = (l.drop 2).take 2 := by
    rw [← h23, ← be_get 2 ((l.drop 2).take 2) (by rw [List.length_take, List.length_drop]; omega)]
    exact congrArg (be 2) (getN_ext 2 fun j hj => (dL_take hj).symm)
  refine dL_ext (by rw [List.length_take, hdL_length]; omega) fun j hj => ?_
  rw [List.length_take] at hj
  have hj6 : j < 6 := by omega
  rw [dL_take hj6]
  have c : j = 0 ∨ j = 1 ∨ j = 2 ∨ j = 3 ∨ j = 4 ∨ j = 5 := by omega
  have mid : ∀ i, i < 2 → dL l (2 + i) = dL (hdL z) (2 + i) := fun i hi => by
    unfold hdL
    rw [dL_left (by simp [be_length]; omega), dL_right (by simp), show 2 + i - ([79, 67] : List UInt8).length = i by simp, e2, dL_take hi, dL_drop]
  rcases c with rfl | rfl | rfl | rfl | rfl | rfl
  · rw [h0, hd_0]
  · rw [h1, hd_1]
  · exact mid 0 (by decide)
  · exact mid 1 (by decide)
  · rw [h4, hd_4]
  · rw [h5, hd_5]
/-- What is read is written as the same bytes. -/
theorem one_way {l : List UInt8} {M : Msg} (h : decL l = .ok M) : valE M = 0 ∧ frameL M = l := by
  obtain ⟨h1, h2, h3, h4⟩ := dec_ok h
  obtain ⟨a1, a2, a3⟩ := start_ok h1
  obtain ⟨b1, b2, b3, b4, b5⟩ := head_ok h2
  have hK := size_kind b1
  have hz : M.z 0 = (dL l 4 : Int) := by
    have := (rdL_keep (i := 0) _ _ _ h3 (zero_notin _)).1
    rw [this]; rfl
  have hs := size_eq hK
  obtain ⟨c1, c2⟩ := rdL_back (js (dL l 4)) 10 (kindM (dL l 4)) h3 (jsU_nodup 41) (fun j hj => by have := (mem_js.1 hj).2.1; omega) (by omega)
  have hb : bodyB M = l.drop 10 := by
    unfold bodyB
    have t := List.take_append_drop (wS (js (dL l 4))) (l.drop 10)
    rw [List.drop_drop, c2] at t
    rw [hz, c1, show padN (wS (js (dL l 4))) = l.length - (10 + wS (js (dL l 4))) by unfold padN; omega]
    exact t
  have ht : l.take 6 = hdL (M.z 0) := by
    refine take6 (by omega) a2 a3 (by rw [b3, hz, b4]) ?_ b2
    rw [hz]; have := dL_lt l 4; unfold u64N; omega
  refine ⟨h4, ?_⟩
  unfold frameL
  rw [hb, ← ht]
  have e4 : be 4 (crcL (l.take 6 ++ l.drop 10)) = (l.drop 6).take 4 := by
    rw [← b5, ← be_get 4 ((l.drop 6).take 4) (by rw [List.length_take, List.length_drop]; omega)]
    exact congrArg (be 4) (getN_ext 4 fun j hj => (dL_take hj).symm)
  rw [e4]
  have e10 : l.drop 10 = (l.drop 6).drop 4 := by rw [List.drop_drop]
  rw [e10, List.append_assoc, List.take_append_drop, List.take_append_drop]
theorem frame_inj {M M' : Msg} (h : valE M = 0) (h' : valE M' = 0) (e : frameL M = frameL M') : M.cs = M'.cs := by
  obtain ⟨A, a1, a2⟩ := dec_frame h
  obtain ⟨B, b1, b2⟩ := dec_frame h'
  rw [e, b1] at a1
  cases a1
  rw [← a2, b2]
theorem frame_cs {M M' : Msg} (h : valE M = 0) (e : M.cs = M'.cs) : frameL M = frameL M' := by
  obtain ⟨A, a1, a2⟩ := dec_frame h
  have h' : valE M' = 0 := by rw [← val_cs e]; exact h
  have hz := z_cs e 0 (by decide) rfl rfl
  have hbl : ∀ l : List Nat, (∀ j ∈ l, j < 42) → blkL M l = blkL M' l := fun l => by
    induction l with
    | nil => intro _; rfl
    | cons x l ih =>
      intro hl
      show encF M x ++ blkL M l = encF M' x ++ blkL M' l
      have hx := hl x (by simp)
      have hE : encF M x = encF M' x := by
        unfold encF
        cases hs : isStr x
        · cases hb : isBoo x
          · simp only [Bool.false_eq_true, reduceIte]; rw [z_cs e x hx hs hb]
          · simp only [Bool.false_eq_true, reduceIte]; rw [b_cs e x hx hs hb]
        · simp only [reduceIte]; rw [s_cs e x hx hs]
      rw [ih fun j hj => hl j (by simp [hj]), hE]
  have hB : bodyB M = bodyB M' := by
    unfold bodyB
    rw [hz, hbl _ fun j hj => by have := (mem_js.1 hj).2.1; omega]
  unfold frameL
  rw [hB, hz]
/-- A frame that is cut, or has a byte more, is none. -/
theorem other_length {M : Msg} (h : valE M = 0) {l : List UInt8} (hl : l.length ≠ (frameL M).length) (h4 : 10 ≤ l.length → dL l 4 = dL (frameL M) 4) : ∀ A, decL l ≠ .ok A := fun A hA => by
  obtain ⟨h1, h2, _, _⟩ := dec_ok hA
  obtain ⟨a1, _, _⟩ := start_ok h1
  obtain ⟨_, _, _, b4, _⟩ := head_ok h2
  rw [h4 a1, fr_kind h] at b4
  exact hl (b4.trans (frame_length h).symm)
/-- A frame of which one byte is another one is none. -/
theorem turned {l l' : List UInt8} (hlen : l.length = l'.length) {k : Nat} (hk : k < l.length) (hs : ∀ j, j < l.length → j ≠ k → dL l j = dL l' j) (hne : dL l k ≠ dL l' k) {A B : Msg} (ha : decL l = .ok A) : decL l' ≠ .ok B := fun hb => by
  obtain ⟨h1, h2, _, _⟩ := dec_ok ha
  obtain ⟨g1, g2, _, _⟩ := dec_ok hb
  have hl := (start_ok h1).1
  have e1 := (head_ok h2).2.2.2.2
  have e2 := (head_ok g2).2.2.2.2
  have at6 : ∀ x : List UInt8, 10 ≤ x.length → ∀ j, j < x.length - 4 → dL (x.take 6 ++ x.drop 10) j = dL x (if j < 6 then j else j + 4) := fun x hx j hj => by
    by_cases h : j < 6
    · rw [if_pos h, dL_left (by rw [List.length_take]; omega), dL_take h]
    · rw [if_neg h, dL_right (by rw [List.length_take]; omega), dL_drop, List.length_take]
      exact congrArg (dL x) (by omega)
  by_cases hc : 6 ≤ k ∧ k < 10
  · have same : crcL (l.take 6 ++ l.drop 10) = crcL (l'.take 6 ++ l'.drop 10) := by
      refine congrArg crcL (dL_ext (by simp only [List.length_append, List.length_take, List.length_drop]; omega) fun j hj => by
      simp only [List.length_append, List.length_take, List.length_drop] at hj
      rw [at6 l hl j (by omega), at6 l' (by omega) j (by omega)]
      split
      · exact hs _ (by omega) (by omega)
      · exact hs _ (by omega) (by omega))
    rw [← e1, ← e2] at same
    have i1 := getN_byte (dL (l.drop 6)) (dL_lt _) 4 (k - 6) (by omega)
    have i2 := getN_byte (dL (l'.drop 6)) (dL_lt _) 4 (k - 6) (by omega)
    rw [same, i2, dL_drop, dL_drop] at i1
    rw [show 6 + (k - 6) = k by omega] at i1
    exact hne i1.symm
  · have same : crcL (l.take 6 ++ l.drop 10) = crcL (l'.take 6 ++ l'.drop 10) := by
      rw [← e1, ← e2]
      refine getN_ext 4 fun j hj => ?_
      rw [dL_drop, dL_drop]
      exact hs _ (by omega) (by omega)
    unfold crcL at same
    have same := crcEnd_inj same
    have L : (l.take 6 ++ l.drop 10).length = l.length - 4 := by simp only [List.length_append, List.length_take, List.length_drop]; omega
    have L' : (l'.take 6 ++ l'.drop 10).length = l.length - 4 := by simp only [List.length_append, List.length_take, List.length_drop]; omega
    rw [L, L'] at same
    refine crc_tells_one (p := if k < 6 then k else k - 4) (by split <;> omega) (fun j _ => ⟨dL_lt _ _, dL_lt _ _⟩) (fun j hj hne' => ?_) ?_ same
    · rw [at6 l hl j hj, at6 l' (by omega) j (by omega)]
      refine hs _ (by split <;> omega) ?_
      split at hne' <;> split <;> omega
    · rw [at6 l hl _ (by split <;> omega), at6 l' (by omega) _ (by split <;> omega)]
      have : (if (if k < 6 then k else k - 4) < 6 then (if k < 6 then k else k - 4) else (if k < 6 then k else k - 4) + 4) = k := by
        by_cases h6 : k < 6
        · rw [if_pos h6, if_pos h6]
        · rw [if_neg h6, if_neg (by omega)]; omega
      rw [this]
      exact hne
end Go.Proofs.YtkpoheknmcepnaaGreatDoor
