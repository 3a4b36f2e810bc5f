import Derived.Test.YtchkpggdndnpjabGreatDoorG09
import Derived.Deep.QuietTactic
import Derived.BigQuiet
import Derived.Test.YtchkpggdndnpjabGreatDoorG02

namespace Go.Proofs.YtchkpggdndnpjabGreatDoor
set_option linter.unusedVariables false
open Go.RowKit

set_option maxRecDepth 100000 in
theorem isDigit_any (c : UInt8) (w : World) : Calls Tryz.prog 248 #[.int .u8 (c.toNat : Int)] w fun e w' => e = .returned (.bool (dig c)) ∧ w' = w := by
  have hE : Hid (dig c = (decide (48 ≤ (c.toNat : Int)) && decide ((c.toNat : Int) ≤ 57))) := rfl
  generalize dig c = d at *
  by_cases h : 48 ≤ (c.toNat : Int)
  · go_enter Tryz.func248, Tryz.ntmps248
    go_wp2
    go_ret
    exact ⟨ret_bool (by rw [hE.out]; simp [h]), rfl⟩
  · go_enter Tryz.func248, Tryz.ntmps248
    go_wp2
    go_ret
    exact ⟨ret_bool (by rw [hE.out]; simp; omega), rfl⟩
set_option maxRecDepth 100000 in
theorem isValueByte_any (c : UInt8) (w : World) : Calls Tryz.prog 180 #[.int .u8 (c.toNat : Int)] w fun e w' => e = .returned (.bool (vby c)) ∧ w' = w := by
  have hE : Hid (vby c = (decide (32 ≤ (c.toNat : Int)) && decide ((c.toNat : Int) ≤ 126))) := rfl
  generalize vby c = d at *
  by_cases h : 32 ≤ (c.toNat : Int)
  · go_enter Tryz.func180, Tryz.ntmps180
    go_wp2
    go_ret
    exact ⟨ret_bool (by rw [hE.out]; simp [h]), rfl⟩
  · go_enter Tryz.func180, Tryz.ntmps180
    go_wp2
    go_ret
    exact ⟨ret_bool (by rw [hE.out]; simp; omega), rfl⟩

theorem all_take_succ (p : UInt8 → Bool) (s : ByteArray) (k : Nat) (h : k < s.size) (h1 : ∀ c ∈ s.data.toList.take k, p c = true) (h2 : p s[k] = true) : ∀ c ∈ s.data.toList.take (k + 1), p c = true := by
  rw [take_snoc s k h]
  intro c hc
  rcases List.mem_append.1 hc with hc | hc
  · exact h1 c hc
  · simp at hc; rw [hc]; exact h2
theorem cnt_stop (p : UInt8 → Bool) (s : ByteArray) (k : Nat) (h : k < s.size) (h1 : ∀ c ∈ s.data.toList.take k, p c = true) (h2 : p s[k] = false) : cnt p s.data.toList = k :=
  cnt_step p s.data.toList k (by simpa using h) h1 (by rw [← h2]; rfl)
theorem cnt_end (p : UInt8 → Bool) (s : ByteArray) (k : Nat) (h : ¬ k < s.size) (hk : k ≤ s.size) (h1 : ∀ c ∈ s.data.toList.take k, p c = true) : cnt p s.data.toList = k := by
  rw [List.take_of_length_le (by simp; omega)] at h1
  rw [cnt_whole p _ h1, ← Lib.size_eq]; omega
set_option maxRecDepth 100000 in
set_option maxHeartbeats 400000 in
theorem countWhile_any (f : Nat) (p : UInt8 → Bool) (hcf : ∀ (c : Int) w', Sem.run Tryz.prog (callFunc f #[.int .u8 c]) w' = .ok (.enter f #[.int .u8 c]) w')
    (hf : ∀ (c : UInt8) (w : World), Calls Tryz.prog f #[.int .u8 (c.toNat : Int)] w fun e w' => e = .returned (.bool (p c)) ∧ w' = w)
    (s : ByteArray) (w : World) (hs : s.size ≤ maxLen) :
    Calls Tryz.prog 179 #[.string s, .func (.func f) #[] #[]] w fun e w' => e = .returned (.int .i64 (cnt p s.data.toList : Int)) ∧ w' = w := by
  unfold maxLen at hs
  have HF : Hid (∀ (c : UInt8) (w : World), Calls Tryz.prog f #[.int .u8 (c.toNat : Int)] w fun e w' => e = .returned (.bool (p c)) ∧ w' = w) := hf
  clear hf
  go_enter Tryz.func179, Tryz.ntmps179
  go_wp2
  go_loopw [5] (fun i wr => ∃ k : Nat, k ≤ s.size ∧ i = .int .i64 k ∧ (∀ c ∈ s.data.toList.take k, p c = true) ∧ wr = w) (fun i _ => s.size - (intOf i).toNat)
  case atStart => exact ⟨0, Nat.zero_le _, rfl, fun c hc => by simp at hc, rfl⟩
  case round =>
    obtain ⟨k, hk, rfl, hd, rfl⟩ := hrel
    have HD : Hid (∀ c ∈ s.data.toList.take k, p c = true) := hd
    clear hd
    by_cases hlt : k < s.size
    · have hlt' : (k : Int) < (s.size : Int) := by omega
      by_cases hp : p s[k] = true
      · go_wp2
        refine (HF.out _ _).mono ?_
        rintro e w2 ⟨rfl, rfl⟩
        rw [hp]
        go_wp2
        go_roundw
        case rel => exact ⟨k + 1, by omega, by go_num, all_take_succ p s k hlt HD.out hp, by first | rfl | trivial⟩
        case measure => simp [intOf]; omega
      · have hp' : p s[k] = false := by simpa using hp
        go_wp2
        refine (HF.out _ _).mono ?_
        rintro e w2 ⟨rfl, rfl⟩
        rw [hp']
        go_wp2
        go_ret
        exact ⟨ret_int (by rw [cnt_stop p s k hlt HD.out hp']), rfl⟩
    · go_wp2
      go_ret
      exact ⟨ret_int (by rw [cnt_end p s k hlt hk HD.out]), rfl⟩
theorem cfDigit (c : Int) (w : World) : Sem.run Tryz.prog (callFunc 248 #[.int .u8 c]) w = .ok (.enter 248 #[.int .u8 c]) w := by kernel_rfl
theorem cfValue (c : Int) (w : World) : Sem.run Tryz.prog (callFunc 180 #[.int .u8 c]) w = .ok (.enter 180 #[.int .u8 c]) w := by kernel_rfl
theorem count_dig (s : ByteArray) (w : World) (hs : s.size ≤ maxLen) :
    Calls Tryz.prog 179 #[.string s, .func (.func 248) #[] #[]] w fun e w' => e = .returned (.int .i64 (cnt dig s.data.toList : Int)) ∧ w' = w :=
  countWhile_any _ dig cfDigit isDigit_any s w hs
theorem count_val (s : ByteArray) (w : World) (hs : s.size ≤ maxLen) :
    Calls Tryz.prog 179 #[.string s, .func (.func 180) #[] #[]] w fun e w' => e = .returned (.int .i64 (cnt vby s.data.toList : Int)) ∧ w' = w :=
  countWhile_any _ vby cfValue isValueByte_any s w hs

/-- Does a byte stand at a place? -/
def isAt (l : List UInt8) (a : Nat) (c : UInt8) : Bool := decide (l[a]? = some c)
theorem u8_of_nat {a b : UInt8} (h : (a.toNat : Int) = (b.toNat : Int)) : a = b := UInt8.toNat_inj.1 (by omega)
set_option maxRecDepth 100000 in
theorem stands_any (s : ByteArray) (a : Nat) (z : Int) (hz : z = (a : Int)) (c : UInt8) (cz : Int) (hcz : cz = (c.toNat : Int)) (w : World) (hs : s.size ≤ maxLen) (ha : a ≤ maxLen) :
    Calls Tryz.prog 246 #[.string s, .int .i64 z, .int .u8 cz] w fun e w' => e = .returned (.bool (isAt s.data.toList a c)) ∧ w' = w := by
  subst hz; subst hcz
  unfold maxLen at hs ha
  by_cases h : a < s.size
  · have h' : (a : Int) < (s.size : Int) := by omega
    have hE : Hid (isAt s.data.toList a c = decide (s[a] = c)) := by
      show isAt _ _ _ = _
      unfold isAt; rw [get_at s a h]; simp
    generalize isAt s.data.toList a c = d at *
    by_cases hc : s[a] = c
    · have hc' : (s[a].toNat : Int) = (c.toNat : Int) := by rw [hc]
      have HE : Hid (d = true) := by show d = true; rw [hE.out]; simp [hc]
      clear hc hE
      go_enter Tryz.func246, Tryz.ntmps246
      go_wp2
      go_ret
      exact ⟨ret_bool HE.out.symm, rfl⟩
    · have hc' : ¬ (s[a].toNat : Int) = (c.toNat : Int) := fun h => hc (u8_of_nat h)
      have hc2 : ((s[a].toNat : Int) == (c.toNat : Int)) = false := by simpa using hc'
      have HE : Hid (d = false) := by show d = false; rw [hE.out]; simp [hc]
      clear hc hE
      go_enter Tryz.func246, Tryz.ntmps246
      go_wp2
      go_ret
      exact ⟨ret_bool (by rw [HE.out]), rfl⟩
  · have hE : Hid (isAt s.data.toList a c = false) := by
      show isAt _ _ _ = _
      unfold isAt; rw [get_no s a h]; simp
    generalize isAt s.data.toList a c = d at *
    go_enter Tryz.func246, Tryz.ntmps246
    go_wp2
    go_ret
    exact ⟨ret_bool hE.out.symm, rfl⟩

set_option maxRecDepth 100000 in
set_option maxHeartbeats 400000 in
theorem samePrefix_any (s t : ByteArray) (w : World) (hs : s.size ≤ maxLen) (ht : t.size ≤ maxLen) :
    Calls Tryz.prog 244 #[.string s, .string t] w fun e w' => e = .returned (.int .i64 (pre s.data.toList t.data.toList : Int)) ∧ ∃ q, w' = w.drewN q := by
  unfold maxLen at hs ht
  go_enter Tryz.func244, Tryz.ntmps244
  go_wp2
  go_loopw [5] (fun i wr => ∃ k q : Nat, k ≤ s.size ∧ k ≤ t.size ∧ i = .int .i64 k ∧ (∀ j, j < k → s.data.toList[j]? = t.data.toList[j]? ∧ s.data.toList[j]? ≠ none) ∧ wr = w.drewN q) (fun i _ => s.size - (intOf i).toNat)
  case atStart => exact ⟨0, 0, Nat.zero_le _, Nat.zero_le _, rfl, fun j hj => by omega, rfl⟩
  case round =>
    obtain ⟨k, q, hk, hk2, rfl, hd, hw⟩ := hrel
    have HW : Hid (wr = w.drewN q) := hw
    have HD : Hid (∀ j, j < k → s.data.toList[j]? = t.data.toList[j]? ∧ s.data.toList[j]? ≠ none) := hd
    clear hd hw
    by_cases hlt : k < s.size
    · have hlt' : (k : Int) < (s.size : Int) := by omega
      by_cases hl2 : k < t.size
      · have hl2' : (k : Int) < (t.size : Int) := by omega
        by_cases hc : s[k] = t[k]
        · have hc' : (s[k].toNat : Int) = (t[k].toNat : Int) := by rw [hc]
          have HC : Hid (s[k] = t[k]) := hc
          clear hc
          go_wp2
          go_quiet (fail)
          go_wp2
          refine ⟨⟨k + 1, _, by omega, by omega, by go_num, fun j hj => ?_, by rw [HW.out, World.drewN_drewN]⟩, by simp [intOf]; omega⟩
          by_cases e : j < k
          · exact HD.out j e
          · obtain rfl : j = k := by omega
            rw [get_at s j hlt, get_at t j hl2, HC.out]
            simp
        · have hc' : ¬ (s[k].toNat : Int) = (t[k].toNat : Int) := fun h => hc (u8_of_nat h)
          have hc2 : ((s[k].toNat : Int) == (t[k].toNat : Int)) = false := by simpa using hc'
          have HE : Hid (pre s.data.toList t.data.toList = k) := pre_at _ _ _ HD.out (.inl (by rw [get_at s k hlt, get_at t k hl2]; simpa using hc))
          clear hc
          go_wp2
          go_quiet (fail)
          go_wp2
          go_ret
          exact ⟨ret_int (by rw [HE.out]), _, by rw [HW.out, World.drewN_drewN]⟩
      · have hl2' : decide ((k : Int) < (t.size : Int)) = false := decide_eq_false (by omega)
        have hl3' : decide (k < t.size) = false := decide_eq_false (by omega)
        have HE : Hid (pre s.data.toList t.data.toList = k) := pre_at _ _ _ HD.out (.inl (by rw [get_at s k hlt, get_no t k hl2]; simp))
        go_wp2
        go_quiet (fail)
        go_wp2
        go_ret
        exact ⟨ret_int (by rw [HE.out]), _, by rw [HW.out, World.drewN_drewN]⟩
    · have hl2' : decide ((k : Int) < (s.size : Int)) = false := decide_eq_false (by omega)
      have hl3' : decide (k < s.size) = false := decide_eq_false (by omega)
      have HE : Hid (pre s.data.toList t.data.toList = k) := pre_at _ _ _ HD.out (.inr (get_no s k hlt))
      go_wp2
      go_quiet (fail)
      go_wp2
      go_ret
      exact ⟨ret_int (by rw [HE.out]), _, by rw [HW.out, World.drewN_drewN]⟩
end Go.Proofs.YtchkpggdndnpjabGreatDoor

namespace Go.Proofs.YtchkpggdndnpjabGreatDoor
set_option linter.unusedVariables false
open Go.RowKit

theorem cell_alloc {w : World} {a : Addr} {v : Value} (h : w.cell? a = some v) (o : Obj) : (w.alloc o).cell? a = some v := by
  rw [((Below.refl _ w).alloc (Nat.le_refl _) o).cell (p := a) (World.block_lt_of_cell? _ _ h)]; exact h
set_option maxRecDepth 100000 in
theorem flag_there (a : Addr) (b : Bool) (w : World) (hc : w.cell? a = some (.bool b)) :
    Calls Tryz.prog 315 #[.agg #[.pointer (some a)]] w fun e w' => e = .returned (.bool b) ∧ Below w.heap.size w w' := by
  have h2 := cell_alloc hc (.cells #[.pointer (some a)] 153)
  have HB : Hid (Below w.heap.size w (w.alloc (.cells #[.pointer (some a)] 153))) := (Below.refl _ w).alloc (Nat.le_refl _) _
  clear hc
  go_enter Tryz.func315, Tryz.ntmps315
  go_wp2
  go_ret
  exact ⟨rfl, HB.out⟩
set_option maxRecDepth 100000 in
theorem numI_there (a : Addr) (x y z : Int) (w : World) (hc : w.cell? a = some (.int .i64 z)) :
    Calls Tryz.prog 312 #[.agg #[.pointer (some a), .int .i64 x, .int .i64 y]] w fun e w' => e = .returned (.bool (z != 0)) ∧ Below w.heap.size w w' := by
  have h2 := cell_alloc hc (.cells #[.pointer (some a), .int .i64 x, .int .i64 y] 150)
  have HB : Hid (Below w.heap.size w (w.alloc (.cells #[.pointer (some a), .int .i64 x, .int .i64 y] 150))) := (Below.refl _ w).alloc (Nat.le_refl _) _
  clear hc
  go_enter Tryz.func312, Tryz.ntmps312
  go_wp2
  go_ret
  exact ⟨rfl, HB.out⟩
set_option maxRecDepth 100000 in
theorem numL_there (a : Addr) (x y z : Int) (w : World) (hc : w.cell? a = some (.int .i64 z)) :
    Calls Tryz.prog 370 #[.agg #[.pointer (some a), .int .i64 x, .int .i64 y]] w fun e w' => e = .returned (.bool (z != 0)) ∧ Below w.heap.size w w' := by
  have h2 := cell_alloc hc (.cells #[.pointer (some a), .int .i64 x, .int .i64 y] 164)
  have HB : Hid (Below w.heap.size w (w.alloc (.cells #[.pointer (some a), .int .i64 x, .int .i64 y] 164))) := (Below.refl _ w).alloc (Nat.le_refl _) _
  clear hc
  go_enter Tryz.func370, Tryz.ntmps370
  go_wp2
  go_ret
  exact ⟨rfl, HB.out⟩
set_option maxRecDepth 100000 in
theorem stamp_there (a : Addr) (x z : Int) (w : World) (hc : w.cell? a = some (.int .i64 z)) :
    Calls Tryz.prog 318 #[.agg #[.pointer (some a), .int .i64 x]] w fun e w' => e = .returned (.bool (z != 0)) ∧ Below w.heap.size w w' := by
  have h2 := cell_alloc hc (.cells #[.pointer (some a), .int .i64 x] 156)
  have HB : Hid (Below w.heap.size w (w.alloc (.cells #[.pointer (some a), .int .i64 x] 156))) := (Below.refl _ w).alloc (Nat.le_refl _) _
  clear hc
  go_enter Tryz.func318, Tryz.ntmps318
  go_wp2
  go_ret
  exact ⟨rfl, HB.out⟩
set_option maxRecDepth 100000 in
theorem price_there (a : Addr) (z : Int) (w : World) (hc : w.cell? a = some (.int .i64 z)) :
    Calls Tryz.prog 337 #[.agg #[.pointer (some a)]] w fun e w' => e = .returned (.bool (z != 0)) ∧ Below w.heap.size w w' := by
  have h2 := cell_alloc hc (.cells #[.pointer (some a)] 162)
  have HB : Hid (Below w.heap.size w (w.alloc (.cells #[.pointer (some a)] 162))) := (Below.refl _ w).alloc (Nat.le_refl _) _
  clear hc
  go_enter Tryz.func337, Tryz.ntmps337
  go_wp2
  go_ret
  exact ⟨rfl, HB.out⟩
set_option maxRecDepth 100000 in
theorem date_there (a : Addr) (z : Int) (w : World) (hc : w.cell? a = some (.int .i64 z)) :
    Calls Tryz.prog 373 #[.agg #[.pointer (some a)]] w fun e w' => e = .returned (.bool (z != 0)) ∧ Below w.heap.size w w' := by
  have h2 := cell_alloc hc (.cells #[.pointer (some a)] 166)
  have HB : Hid (Below w.heap.size w (w.alloc (.cells #[.pointer (some a)] 166))) := (Below.refl _ w).alloc (Nat.le_refl _) _
  clear hc
  go_enter Tryz.func373, Tryz.ntmps373
  go_wp2
  go_ret
  exact ⟨rfl, HB.out⟩
set_option maxRecDepth 100000 in
theorem ordn_there (a : Addr) (z : Int) (w : World) (hc : w.cell? a = some (.int .i64 z)) :
    Calls Tryz.prog 376 #[.agg #[.pointer (some a)]] w fun e w' => e = .returned (.bool (z != 0)) ∧ Below w.heap.size w w' := by
  have h2 := cell_alloc hc (.cells #[.pointer (some a)] 167)
  have HB : Hid (Below w.heap.size w (w.alloc (.cells #[.pointer (some a)] 167))) := (Below.refl _ w).alloc (Nat.le_refl _) _
  clear hc
  go_enter Tryz.func376, Tryz.ntmps376
  go_wp2
  go_ret
  exact ⟨rfl, HB.out⟩
set_option maxRecDepth 100000 in
theorem code_there (a : Addr) (x z : Int) (v : Value) (hv : v.cells = #[v]) (w : World) (hc : w.cell? a = some (.int .i64 z)) :
    Calls Tryz.prog 306 #[.agg #[.pointer (some a), .int .i64 x, v]] w fun e w' => e = .returned (.bool (z != 0)) ∧ Below w.heap.size w w' := by
  have h2 := cell_alloc hc (.cells #[.pointer (some a), .int .i64 x, v] 145)
  have HB : Hid (Below w.heap.size w (w.alloc (.cells #[.pointer (some a), .int .i64 x, v] 145))) := (Below.refl _ w).alloc (Nat.le_refl _) _
  clear hc
  go_enter Tryz.func306, Tryz.ntmps306
  go_wp2
  go_ret
  exact ⟨rfl, HB.out⟩
end Go.Proofs.YtchkpggdndnpjabGreatDoor

namespace Go.Proofs.YtchkpggdndnpjabGreatDoor
set_option linter.unusedVariables false
open Go.RowKit

def xNum : List Int := [35, 49, 56, 34, 43, 52, 122, 98, 108, 141, 112, 7, 16, 36, 123, 45, 372, 371, 373, 58, 11, 41, 1, 55, 54, 40, 59, 18, 44, 99, 38, 111, 110, 432, 37, 17, 150, 39, 31, 32, 151, 14, 326, 533, 530]
def xKd : List Nat := [8, 3, 3, 0, 2, 4, 4, 9, 0, 2, 3, 0, 0, 0, 2, 0, 8, 0, 0, 3, 3, 3, 3, 3, 8, 8, 8, 10, 5, 5, 1, 1, 1, 6, 7, 0, 8, 8, 5, 1, 1, 1, 8, 0, 11]
def xCe : List Nat := [0, 1, 2, 3, 4, 5, 6, 0, 7, 8, 9, 10, 11, 12, 13, 14, 15, 16, 17, 18, 19, 20, 21, 22, 23, 24, 25, 25, 26, 27, 28, 29, 30, 31, 32, 33, 34, 35, 36, 37, 38, 39, 40, 41, 22]
def xLo : List Int := [1, 0, 0, 1, 0, 0, 1, 0, 1, 0, 0, 1, 0, 1, 0, 1, 1, 1, 0, 0, 0, 0, 0, 0, 1, 1, 1, 0, 0, 0, 1, 1, 1, 0, 0, 1, 1, 1, 0, 1, 0, 0, 0, 0, 0]
def xHi : List Int := [0, 0, 0, 999999999, 0, 0, 0, 0, 3600, 0, 0, 999999999, 999999999, 999999999, 0, 999999999, 0, 9999, 999, 0, 0, 0, 0, 0, 0, 0, 0, 0, 0, 0, 1000000, 1000000, 1000000, 0, 0, 999999999, 0, 0, 0, 1000000, 1000000, 1000000, 0, 999999999, 0]
def xWords : List (List ByteArray) := [[⟨#[48]⟩, ⟨#[49]⟩, ⟨#[50]⟩, ⟨#[51]⟩, ⟨#[52]⟩, ⟨#[53]⟩, ⟨#[65]⟩, ⟨#[68]⟩, ⟨#[70]⟩, ⟨#[71]⟩, ⟨#[113]⟩, ⟨#[72]⟩, ⟨#[56]⟩, ⟨#[57]⟩, ⟨#[114]⟩, ⟨#[106]⟩, ⟨#[102]⟩], [], [], [], [], [], [], [], [], [], [], [], [], [], [], [], [⟨#[48]⟩, ⟨#[49]⟩, ⟨#[50]⟩, ⟨#[51]⟩, ⟨#[52]⟩, ⟨#[53]⟩, ⟨#[65]⟩, ⟨#[68]⟩, ⟨#[70]⟩, ⟨#[71]⟩, ⟨#[113]⟩, ⟨#[72]⟩, ⟨#[56]⟩, ⟨#[57]⟩, ⟨#[114]⟩, ⟨#[106]⟩, ⟨#[102]⟩], [], [], [], [], [], [], [], [⟨#[49]⟩, ⟨#[50]⟩], [⟨#[50]⟩, ⟨#[49]⟩, ⟨#[51]⟩, ⟨#[52]⟩], [⟨#[48]⟩, ⟨#[51]⟩, ⟨#[52]⟩, ⟨#[49]⟩, ⟨#[54]⟩, ⟨#[50]⟩, ⟨#[48]⟩], [], [], [], [], [], [], [], [], [], [⟨#[48]⟩, ⟨#[56]⟩, ⟨#[70]⟩, ⟨#[52]⟩, ⟨#[53]⟩, ⟨#[76]⟩, ⟨#[67]⟩, ⟨#[73]⟩], [⟨#[48]⟩, ⟨#[49]⟩, ⟨#[50]⟩, ⟨#[52]⟩, ⟨#[56]⟩, ⟨#[67]⟩], [], [], [], [], [⟨#[49, 56]⟩, ⟨#[50, 49]⟩, ⟨#[50, 50]⟩, ⟨#[49, 55]⟩, ⟨#[50]⟩, ⟨#[50, 54]⟩], [], []]
def xFn : List Nat := [126, 128, 129, 130, 131, 132, 133, 134, 135, 136, 137, 139, 140, 141, 142, 143, 144, 145, 146, 147, 148, 149, 150, 151, 152, 153, 154, 155, 156, 157, 158, 159, 160, 161, 162, 163, 164, 165, 166, 167, 168, 169, 170, 171, 172]
def xTy : List Nat := [145, 148, 148, 150, 153, 156, 156, 158, 150, 153, 148, 150, 150, 150, 153, 150, 145, 150, 150, 148, 148, 148, 148, 148, 145, 145, 145, 160, 162, 162, 164, 164, 164, 166, 167, 150, 145, 145, 162, 164, 164, 164, 145, 150, 169]
/-- The form of row r over the message in block g, its words in block b. -/
def xVal (r g b : Nat) : Value := [.agg #[.pointer (some ⟨g, 0, none⟩), .int .i64 1, .slice (some ⟨b, 0, none⟩) 17 17], .agg #[.pointer (some ⟨g, 1, none⟩), .func (.func 75) #[] #[]], .agg #[.pointer (some ⟨g, 2, none⟩), .func (.func 75) #[] #[]], .agg #[.pointer (some ⟨g, 3, none⟩), .int .i64 1, .int .i64 999999999], .agg #[.pointer (some ⟨g, 4, none⟩)], .agg #[.pointer (some ⟨g, 5, none⟩), .int .i64 0], .agg #[.pointer (some ⟨g, 6, none⟩), .int .i64 1], .agg #[], .agg #[.pointer (some ⟨g, 7, none⟩), .int .i64 1, .int .i64 3600], .agg #[.pointer (some ⟨g, 8, none⟩)], .agg #[.pointer (some ⟨g, 9, none⟩), .func (.func 138) #[] #[]], .agg #[.pointer (some ⟨g, 10, none⟩), .int .i64 1, .int .i64 999999999], .agg #[.pointer (some ⟨g, 11, none⟩), .int .i64 0, .int .i64 999999999], .agg #[.pointer (some ⟨g, 12, none⟩), .int .i64 1, .int .i64 999999999], .agg #[.pointer (some ⟨g, 13, none⟩)], .agg #[.pointer (some ⟨g, 14, none⟩), .int .i64 1, .int .i64 999999999], .agg #[.pointer (some ⟨g, 15, none⟩), .int .i64 1, .slice (some ⟨b, 0, none⟩) 17 17], .agg #[.pointer (some ⟨g, 16, none⟩), .int .i64 1, .int .i64 9999], .agg #[.pointer (some ⟨g, 17, none⟩), .int .i64 0, .int .i64 999], .agg #[.pointer (some ⟨g, 18, none⟩), .func (.func 96) #[] #[]], .agg #[.pointer (some ⟨g, 19, none⟩), .func (.func 98) #[] #[]], .agg #[.pointer (some ⟨g, 20, none⟩), .func (.func 98) #[] #[]], .agg #[.pointer (some ⟨g, 21, none⟩), .func (.func 75) #[] #[]], .agg #[.pointer (some ⟨g, 22, none⟩), .func (.func 102) #[] #[]], .agg #[.pointer (some ⟨g, 23, none⟩), .int .i64 1, .slice (some ⟨b, 0, none⟩) 2 2], .agg #[.pointer (some ⟨g, 24, none⟩), .int .i64 1, .slice (some ⟨b, 0, none⟩) 4 4], .agg #[.pointer (some ⟨g, 25, none⟩), .int .i64 1, .slice (some ⟨b, 0, none⟩) 7 7], .agg #[.pointer (some ⟨g, 25, none⟩)], .agg #[.pointer (some ⟨g, 26, none⟩)], .agg #[.pointer (some ⟨g, 27, none⟩)], .agg #[.pointer (some ⟨g, 28, none⟩), .int .i64 1, .int .i64 1000000], .agg #[.pointer (some ⟨g, 29, none⟩), .int .i64 1, .int .i64 1000000], .agg #[.pointer (some ⟨g, 30, none⟩), .int .i64 1, .int .i64 1000000], .agg #[.pointer (some ⟨g, 31, none⟩)], .agg #[.pointer (some ⟨g, 32, none⟩)], .agg #[.pointer (some ⟨g, 33, none⟩), .int .i64 1, .int .i64 999999999], .agg #[.pointer (some ⟨g, 34, none⟩), .int .i64 1, .slice (some ⟨b, 0, none⟩) 8 8], .agg #[.pointer (some ⟨g, 35, none⟩), .int .i64 1, .slice (some ⟨b, 0, none⟩) 6 6], .agg #[.pointer (some ⟨g, 36, none⟩)], .agg #[.pointer (some ⟨g, 37, none⟩), .int .i64 1, .int .i64 1000000], .agg #[.pointer (some ⟨g, 38, none⟩), .int .i64 0, .int .i64 1000000], .agg #[.pointer (some ⟨g, 39, none⟩), .int .i64 0, .int .i64 1000000], .agg #[.pointer (some ⟨g, 40, none⟩), .int .i64 0, .slice (some ⟨b, 0, none⟩) 6 6], .agg #[.pointer (some ⟨g, 41, none⟩), .int .i64 0, .int .i64 999999999], .agg #[.pointer (some ⟨g, 22, none⟩)]].getD r .nilIface
theorem cases45 {k : Nat} (h : k < 45) : k = 0 ∨ k = 1 ∨ k = 2 ∨ k = 3 ∨ k = 4 ∨ k = 5 ∨ k = 6 ∨ k = 7 ∨ k = 8 ∨ k = 9 ∨ k = 10 ∨ k = 11 ∨ k = 12 ∨ k = 13 ∨ k = 14 ∨ k = 15 ∨ k = 16 ∨ k = 17 ∨ k = 18 ∨ k = 19 ∨ k = 20 ∨ k = 21 ∨ k = 22 ∨ k = 23 ∨ k = 24 ∨ k = 25 ∨ k = 26 ∨ k = 27 ∨ k = 28 ∨ k = 29 ∨ k = 30 ∨ k = 31 ∨ k = 32 ∨ k = 33 ∨ k = 34 ∨ k = 35 ∨ k = 36 ∨ k = 37 ∨ k = 38 ∨ k = 39 ∨ k = 40 ∨ k = 41 ∨ k = 42 ∨ k = 43 ∨ k = 44 := by omega
def xrowsCs : List Value := [.int .i64 35, .func (.func 126) #[] #[], .int .i64 49, .func (.func 128) #[] #[], .int .i64 56, .func (.func 129) #[] #[], .int .i64 34, .func (.func 130) #[] #[], .int .i64 43, .func (.func 131) #[] #[], .int .i64 52, .func (.func 132) #[] #[], .int .i64 122, .func (.func 133) #[] #[], .int .i64 98, .func (.func 134) #[] #[], .int .i64 108, .func (.func 135) #[] #[], .int .i64 141, .func (.func 136) #[] #[], .int .i64 112, .func (.func 137) #[] #[], .int .i64 7, .func (.func 139) #[] #[], .int .i64 16, .func (.func 140) #[] #[], .int .i64 36, .func (.func 141) #[] #[], .int .i64 123, .func (.func 142) #[] #[], .int .i64 45, .func (.func 143) #[] #[], .int .i64 372, .func (.func 144) #[] #[], .int .i64 371, .func (.func 145) #[] #[], .int .i64 373, .func (.func 146) #[] #[], .int .i64 58, .func (.func 147) #[] #[], .int .i64 11, .func (.func 148) #[] #[], .int .i64 41, .func (.func 149) #[] #[], .int .i64 1, .func (.func 150) #[] #[], .int .i64 55, .func (.func 151) #[] #[], .int .i64 54, .func (.func 152) #[] #[], .int .i64 40, .func (.func 153) #[] #[], .int .i64 59, .func (.func 154) #[] #[], .int .i64 18, .func (.func 155) #[] #[], .int .i64 44, .func (.func 156) #[] #[], .int .i64 99, .func (.func 157) #[] #[], .int .i64 38, .func (.func 158) #[] #[], .int .i64 111, .func (.func 159) #[] #[], .int .i64 110, .func (.func 160) #[] #[], .int .i64 432, .func (.func 161) #[] #[], .int .i64 37, .func (.func 162) #[] #[], .int .i64 17, .func (.func 163) #[] #[], .int .i64 150, .func (.func 164) #[] #[], .int .i64 39, .func (.func 165) #[] #[], .int .i64 31, .func (.func 166) #[] #[], .int .i64 32, .func (.func 167) #[] #[], .int .i64 151, .func (.func 168) #[] #[], .int .i64 14, .func (.func 169) #[] #[], .int .i64 326, .func (.func 170) #[] #[], .int .i64 533, .func (.func 171) #[] #[], .int .i64 530, .func (.func 172) #[] #[]]
set_option maxRecDepth 100000 in
set_option maxHeartbeats 800000 in
theorem xrows_any (w : World) :
    Calls Tryz.prog 35 #[] w fun e w' => e = .returned (.agg xrowsCs.toArray) ∧ Below w.heap.size w w' := by
  go_enter Tryz.func35, Tryz.ntmps35
  go_upto_region 1 with fail
  rename_i K hK
  refine wp_region_lit ?_
  iterate 46 (refine wpList_build rfl _ _ rfl (by kernel_rfl) ?_)
  refine wpList_store_row rfl 84 (.tmp 0) (.tmp 46) rfl w.heap.size xrowsCs.toArray (by kernel_rfl) (by kernel_rfl) 84 _ (heap_alloc_new w _) (by kernel_rfl) (by kernel_rfl) (by kernel_rfl) ?_
  refine wpList_nil ?_
  refine hK _ _ ?_
  apply wp_ret
  show bodyPost Tryz.prog Tryz.f35 _ Exit.ret _ _
  refine bodyPost_ret (results_cell_row (fn := Tryz.f35) (p := 0) (ty := 84) rfl _ _ w.heap.size 84 xrowsCs.toArray (0, 0) _ (by kernel_rfl) (setRow_heap _ _ _ _ _ _ (heap_alloc_new w _)) Tryz.underlying84 rfl (by kernel_rfl)) (by kernel_rfl) ⟨rfl, below_setRow ((Below.refl _ w).alloc (Nat.le_refl _) _) (Nat.le_refl _) _⟩
set_option maxRecDepth 100000 in
theorem xindex_at (r : Nat) (hr : r < 45) (w : World) : Sem.run Tryz.prog (Instr.index 84 (.agg xrowsCs.toArray) (.int .i64 r)) w = .ok (.agg #[.int .i64 (xNum.getD r 0), .func (.func (xFn.getD r 0)) #[] #[]]) w := by
  rcases cases45 hr with rfl | rfl | rfl | rfl | rfl | rfl | rfl | rfl | rfl | rfl | rfl | rfl | rfl | rfl | rfl | rfl | rfl | rfl | rfl | rfl | rfl | rfl | rfl | rfl | rfl | rfl | rfl | rfl | rfl | rfl | rfl | rfl | rfl | rfl | rfl | rfl | rfl | rfl | rfl | rfl | rfl | rfl | rfl | rfl | rfl <;> kernel_rfl
set_option maxRecDepth 100000 in
theorem xcf_at (r : Nat) (hr : r < 45) (a : Array Value) (w : World) : Sem.run Tryz.prog (callFunc (xFn.getD r 0) a) w = .ok (.enter (xFn.getD r 0) a) w := by
  rcases cases45 hr with rfl | rfl | rfl | rfl | rfl | rfl | rfl | rfl | rfl | rfl | rfl | rfl | rfl | rfl | rfl | rfl | rfl | rfl | rfl | rfl | rfl | rfl | rfl | rfl | rfl | rfl | rfl | rfl | rfl | rfl | rfl | rfl | rfl | rfl | rfl | rfl | rfl | rfl | rfl | rfl | rfl | rfl | rfl | rfl | rfl <;> kernel_rfl
/-- The words of row r lie in block b. -/
def WdAt (w : World) (r b : Nat) : Prop := ∀ j s, (xWords.getD r [])[j]? = some s → w.cell? ⟨b, j, none⟩ = some (.string s)
theorem WdAt.nil {w : World} {r b : Nat} (h : xWords.getD r [] = []) : WdAt w r b := fun j s hj => by rw [h] at hj; simp at hj
theorem WdAt.below {w w' : World} {r b B : Nat} (h : WdAt w r b) (hB : Below B w w') (hb : b < B) : WdAt w' r b := fun j s hj => by rw [hB.cell (p := ⟨b, j, none⟩) hb]; exact h j s hj
end Go.Proofs.YtchkpggdndnpjabGreatDoor
