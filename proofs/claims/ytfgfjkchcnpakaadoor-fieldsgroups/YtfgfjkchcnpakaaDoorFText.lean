/-
  fields: the small functions on texts.
-/
import Derived.Test.YtfgfjkchcnpakaaDoorFPlain
import Derived.Test.YtfgfjkchcnpakaaDoorFFmt
import Derived.Test.YtfgfjkchcnpakaaDoorStr
import Derived.Deep.QuietTactic
import Derived.BigQuiet
namespace Go.Proofs.YtfgfjkchcnpakaaDoor
set_option linter.unusedVariables false
open Go.RowKit

set_option maxRecDepth 100000 in
theorem isDigit_any (c : UInt8) (w : World) : Calls Tryd.prog 67 #[.int .u8 (c.toNat : Int)] w fun e w' => e = .returned (.bool (dig c)) ∧ w' = w := by
  have hE : Hid (dig c = (decide (48 ≤ (c.toNat : Int)) && decide ((c.toNat : Int) ≤ 57))) := rfl
  generalize dig c = d at *
  by_cases h : 48 ≤ (c.toNat : Int)
  · go_enter Tryd.func67, Tryd.ntmps67
    go_wp2
    go_ret
    exact ⟨ret_bool (by rw [hE.out]; simp [h]), rfl⟩
  · go_enter Tryd.func67, Tryd.ntmps67
    go_wp2
    go_ret
    exact ⟨ret_bool (by rw [hE.out]; simp; omega), rfl⟩
set_option maxRecDepth 100000 in
theorem isValueByte_any (c : UInt8) (w : World) : Calls Tryd.prog 62 #[.int .u8 (c.toNat : Int)] w fun e w' => e = .returned (.bool (vby c)) ∧ w' = w := by
  have hE : Hid (vby c = (decide (32 ≤ (c.toNat : Int)) && decide ((c.toNat : Int) ≤ 126))) := rfl
  generalize vby c = d at *
  by_cases h : 32 ≤ (c.toNat : Int)
  · go_enter Tryd.func62, Tryd.ntmps62
    go_wp2
    go_ret
    exact ⟨ret_bool (by rw [hE.out]; simp [h]), rfl⟩
  · go_enter Tryd.func62, Tryd.ntmps62
    go_wp2
    go_ret
    exact ⟨ret_bool (by rw [hE.out]; simp; omega), rfl⟩

theorem all_take_succ (p : UInt8 → Bool) (s : ByteArray) (k : Nat) (h : k < s.size) (h1 : ∀ c ∈ s.data.toList.take k, p c = true) (h2 : p s[k] = true) : ∀ c ∈ s.data.toList.take (k + 1), p c = true := by
  rw [take_snoc s k h]
  intro c hc
  rcases List.mem_append.1 hc with hc | hc
  · exact h1 c hc
  · simp at hc; rw [hc]; exact h2
theorem cnt_stop (p : UInt8 → Bool) (s : ByteArray) (k : Nat) (h : k < s.size) (h1 : ∀ c ∈ s.data.toList.take k, p c = true) (h2 : p s[k] = false) : cnt p s.data.toList = k :=
  cnt_step p s.data.toList k (by simpa using h) h1 (by rw [← h2]; rfl)
theorem cnt_end (p : UInt8 → Bool) (s : ByteArray) (k : Nat) (h : ¬ k < s.size) (hk : k ≤ s.size) (h1 : ∀ c ∈ s.data.toList.take k, p c = true) : cnt p s.data.toList = k := by
  rw [List.take_of_length_le (by simp; omega)] at h1
  rw [cnt_whole p _ h1, ← Lib.size_eq]; omega
set_option maxRecDepth 100000 in
set_option maxHeartbeats 400000 in
theorem countWhile_any (f : Nat) (p : UInt8 → Bool) (hcf : ∀ (c : Int) w', Sem.run Tryd.prog (callFunc f #[.int .u8 c]) w' = .ok (.enter f #[.int .u8 c]) w')
    (hf : ∀ (c : UInt8) (w : World), Calls Tryd.prog f #[.int .u8 (c.toNat : Int)] w fun e w' => e = .returned (.bool (p c)) ∧ w' = w)
    (s : ByteArray) (w : World) (hs : s.size ≤ maxLen) :
    Calls Tryd.prog 61 #[.string s, .func (.func f) #[] #[]] w fun e w' => e = .returned (.int .i64 (cnt p s.data.toList : Int)) ∧ w' = w := by
  unfold maxLen at hs
  have HF : Hid (∀ (c : UInt8) (w : World), Calls Tryd.prog f #[.int .u8 (c.toNat : Int)] w fun e w' => e = .returned (.bool (p c)) ∧ w' = w) := hf
  clear hf
  go_enter Tryd.func61, Tryd.ntmps61
  go_wp2
  go_loopw [5] (fun i wr => ∃ k : Nat, k ≤ s.size ∧ i = .int .i64 k ∧ (∀ c ∈ s.data.toList.take k, p c = true) ∧ wr = w) (fun i _ => s.size - (intOf i).toNat)
  case atStart => exact ⟨0, Nat.zero_le _, rfl, fun c hc => by simp at hc, rfl⟩
  case round =>
    obtain ⟨k, hk, rfl, hd, rfl⟩ := hrel
    have HD : Hid (∀ c ∈ s.data.toList.take k, p c = true) := hd
    clear hd
    by_cases hlt : k < s.size
    · have hlt' : (k : Int) < (s.size : Int) := by omega
      by_cases hp : p s[k] = true
      · go_wp2
        refine (HF.out _ _).mono ?_
        rintro e w2 ⟨rfl, rfl⟩
        rw [hp]
        go_wp2
        go_roundw
        case rel => exact ⟨k + 1, by omega, by go_num, all_take_succ p s k hlt HD.out hp, by first | rfl | trivial⟩
        case measure => simp [intOf]; omega
      · have hp' : p s[k] = false := by simpa using hp
        go_wp2
        refine (HF.out _ _).mono ?_
        rintro e w2 ⟨rfl, rfl⟩
        rw [hp']
        go_wp2
        go_ret
        exact ⟨ret_int (by rw [cnt_stop p s k hlt HD.out hp']), rfl⟩
    · go_wp2
      go_ret
      exact ⟨ret_int (by rw [cnt_end p s k hlt hk HD.out]), rfl⟩
theorem cfDigit (c : Int) (w : World) : Sem.run Tryd.prog (callFunc 67 #[.int .u8 c]) w = .ok (.enter 67 #[.int .u8 c]) w := by kernel_rfl
theorem cfValue (c : Int) (w : World) : Sem.run Tryd.prog (callFunc 62 #[.int .u8 c]) w = .ok (.enter 62 #[.int .u8 c]) w := by kernel_rfl
theorem count_dig (s : ByteArray) (w : World) (hs : s.size ≤ maxLen) :
    Calls Tryd.prog 61 #[.string s, .func (.func 67) #[] #[]] w fun e w' => e = .returned (.int .i64 (cnt dig s.data.toList : Int)) ∧ w' = w :=
  countWhile_any _ dig cfDigit isDigit_any s w hs
theorem count_val (s : ByteArray) (w : World) (hs : s.size ≤ maxLen) :
    Calls Tryd.prog 61 #[.string s, .func (.func 62) #[] #[]] w fun e w' => e = .returned (.int .i64 (cnt vby s.data.toList : Int)) ∧ w' = w :=
  countWhile_any _ vby cfValue isValueByte_any s w hs

/-- Does a byte stand at a place? -/
def isAt (l : List UInt8) (a : Nat) (c : UInt8) : Bool := decide (l[a]? = some c)
theorem u8_of_nat {a b : UInt8} (h : (a.toNat : Int) = (b.toNat : Int)) : a = b := UInt8.toNat_inj.1 (by omega)
set_option maxRecDepth 100000 in
theorem stands_any (s : ByteArray) (a : Nat) (z : Int) (hz : z = (a : Int)) (c : UInt8) (cz : Int) (hcz : cz = (c.toNat : Int)) (w : World) (hs : s.size ≤ maxLen) (ha : a ≤ maxLen) :
    Calls Tryd.prog 66 #[.string s, .int .i64 z, .int .u8 cz] w fun e w' => e = .returned (.bool (isAt s.data.toList a c)) ∧ w' = w := by
  subst hz; subst hcz
  unfold maxLen at hs ha
  by_cases h : a < s.size
  · have h' : (a : Int) < (s.size : Int) := by omega
    have hE : Hid (isAt s.data.toList a c = decide (s[a] = c)) := by
      show isAt _ _ _ = _
      unfold isAt; rw [get_at s a h]; simp
    generalize isAt s.data.toList a c = d at *
    by_cases hc : s[a] = c
    · have hc' : (s[a].toNat : Int) = (c.toNat : Int) := by rw [hc]
      have HE : Hid (d = true) := by show d = true; rw [hE.out]; simp [hc]
      clear hc hE
      go_enter Tryd.func66, Tryd.ntmps66
      go_wp2
      go_ret
      exact ⟨ret_bool HE.out.symm, rfl⟩
    · have hc' : ¬ (s[a].toNat : Int) = (c.toNat : Int) := fun h => hc (u8_of_nat h)
      have hc2 : ((s[a].toNat : Int) == (c.toNat : Int)) = false := by simpa using hc'
      have HE : Hid (d = false) := by show d = false; rw [hE.out]; simp [hc]
      clear hc hE
      go_enter Tryd.func66, Tryd.ntmps66
      go_wp2
      go_ret
      exact ⟨ret_bool (by rw [HE.out]), rfl⟩
  · have hE : Hid (isAt s.data.toList a c = false) := by
      show isAt _ _ _ = _
      unfold isAt; rw [get_no s a h]; simp
    generalize isAt s.data.toList a c = d at *
    go_enter Tryd.func66, Tryd.ntmps66
    go_wp2
    go_ret
    exact ⟨ret_bool hE.out.symm, rfl⟩

set_option maxRecDepth 100000 in
set_option maxHeartbeats 400000 in
theorem samePrefix_any (s t : ByteArray) (w : World) (hs : s.size ≤ maxLen) (ht : t.size ≤ maxLen) :
    Calls Tryd.prog 64 #[.string s, .string t] w fun e w' => e = .returned (.int .i64 (pre s.data.toList t.data.toList : Int)) ∧ ∃ q, w' = w.drewN q := by
  unfold maxLen at hs ht
  go_enter Tryd.func64, Tryd.ntmps64
  go_wp2
  go_loopw [5] (fun i wr => ∃ k q : Nat, k ≤ s.size ∧ k ≤ t.size ∧ i = .int .i64 k ∧ (∀ j, j < k → s.data.toList[j]? = t.data.toList[j]? ∧ s.data.toList[j]? ≠ none) ∧ wr = w.drewN q) (fun i _ => s.size - (intOf i).toNat)
  case atStart => exact ⟨0, 0, Nat.zero_le _, Nat.zero_le _, rfl, fun j hj => by omega, rfl⟩
  case round =>
    obtain ⟨k, q, hk, hk2, rfl, hd, hw⟩ := hrel
    have HW : Hid (wr = w.drewN q) := hw
    have HD : Hid (∀ j, j < k → s.data.toList[j]? = t.data.toList[j]? ∧ s.data.toList[j]? ≠ none) := hd
    clear hd hw
    by_cases hlt : k < s.size
    · have hlt' : (k : Int) < (s.size : Int) := by omega
      by_cases hl2 : k < t.size
      · have hl2' : (k : Int) < (t.size : Int) := by omega
        by_cases hc : s[k] = t[k]
        · have hc' : (s[k].toNat : Int) = (t[k].toNat : Int) := by rw [hc]
          have HC : Hid (s[k] = t[k]) := hc
          clear hc
          go_wp2
          go_quiet (fail)
          go_wp2
          refine ⟨⟨k + 1, _, by omega, by omega, by go_num, fun j hj => ?_, by rw [HW.out, World.drewN_drewN]⟩, by simp [intOf]; omega⟩
          by_cases e : j < k
          · exact HD.out j e
          · obtain rfl : j = k := by omega
            rw [get_at s j hlt, get_at t j hl2, HC.out]
            simp
        · have hc' : ¬ (s[k].toNat : Int) = (t[k].toNat : Int) := fun h => hc (u8_of_nat h)
          have hc2 : ((s[k].toNat : Int) == (t[k].toNat : Int)) = false := by simpa using hc'
          have HE : Hid (pre s.data.toList t.data.toList = k) := pre_at _ _ _ HD.out (.inl (by rw [get_at s k hlt, get_at t k hl2]; simpa using hc))
          clear hc
          go_wp2
          go_quiet (fail)
          go_wp2
          go_ret
          exact ⟨ret_int (by rw [HE.out]), _, by rw [HW.out, World.drewN_drewN]⟩
      · have hl2' : decide ((k : Int) < (t.size : Int)) = false := decide_eq_false (by omega)
        have hl3' : decide (k < t.size) = false := decide_eq_false (by omega)
        have HE : Hid (pre s.data.toList t.data.toList = k) := pre_at _ _ _ HD.out (.inl (by rw [get_at s k hlt, get_no t k hl2]; simp))
        go_wp2
        go_quiet (fail)
        go_wp2
        go_ret
        exact ⟨ret_int (by rw [HE.out]), _, by rw [HW.out, World.drewN_drewN]⟩
    · have hl2' : decide ((k : Int) < (s.size : Int)) = false := decide_eq_false (by omega)
      have hl3' : decide (k < s.size) = false := decide_eq_false (by omega)
      have HE : Hid (pre s.data.toList t.data.toList = k) := pre_at _ _ _ HD.out (.inr (get_no s k hlt))
      go_wp2
      go_quiet (fail)
      go_wp2
      go_ret
      exact ⟨ret_int (by rw [HE.out]), _, by rw [HW.out, World.drewN_drewN]⟩
end Go.Proofs.YtfgfjkchcnpakaaDoor
