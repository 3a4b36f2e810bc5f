import Derived.Test.YtchkpggdndnpjabGreatDoorG12
import Derived.Test.YtchkpggdndnpjabGreatDoorG09
import Derived.Test.YtchkpggdndnpjabGreatDoorG00
import Derived.Lib.ItoaMem
import Derived.Lib.Walk
import Derived.BigCall
import Derived.BigGuard
import Derived.WalkLawsBesides
import Derived.Shelf.SlSorted.Search
import Derived.Test.YtchkpggdndnpjabGreatDoorProg
import Derived.Test.YtchkpggdndnpjabGreatDoorG01

namespace Go.Proofs.YtchkpggdndnpjabGreatDoor
set_option linter.unusedVariables false
open Go.Shelf Go.RowKit Go.Sort Go.Lib

theorem holds_zero0 (w : World) (T : TypeId) (nd : Nat) (hs : nd ≤ 24) : Holds (fun (b : UInt8) => Value.int .u8 (b.toNat : Int)) (w.alloc (.cells zeros24 T)) w.heap.size 0 (Array.replicate nd (0 : UInt8)) := fun j hj => by
  have hj' : j < nd := by simpa using hj
  refine ⟨?_, World.frozen?_alloc_new _ _ _ _⟩
  rw [World.cell?_alloc_new, zeros24_at _ (by omega), getElem!_pos _ j hj]
  simp
theorem fin_pos0 (w : World) (o : Obj) (dk : Array UInt8) (k : Nat) : ∃ os, (putRow (fun (b : UInt8) => Value.int .u8 (b.toNat : Int)) (w.alloc o) w.heap.size 0 dk).drewN k = grow (w.drewN k) os := by
  rw [alloc_eq_grow]
  obtain ⟨os', _, e⟩ := putRow_grow_new (fun (b : UInt8) => Value.int .u8 (b.toNat : Int)) w #[o] w.heap.size 0 dk (Nat.le_refl _)
  exact ⟨os', by rw [e]; rfl⟩

set_option maxRecDepth 100000 in
set_option maxHeartbeats 1000000 in
theorem FormatUint_any (u : Nat) (hu64 : u < 18446744073709551616) (w : World) (htab : TabIs Tryz.prog w "internal/strconv.uint64pow10" .u64 pow10Tab) :
    Calls Tryz.prog 345 #[.int .u64 u, .int .i64 10] w fun e w' => e = .returned (.string ⟨(decDigits u).toArray⟩) ∧ Below w.heap.size w w' := by
  by_cases hs : (u : Int) < 100
  · have hi : u < 100 := by omega
    go_enter Tryz.func345, Tryz.ntmps345
    go_wp2_with (first | (go_at_call 254; refine (Tryz.internal_strconv_small u hi _).mono ?_; rintro e w' ⟨rfl, rfl⟩) | go_in)
    go_ret
    exact ⟨rfl, Below.refl _ _⟩
  · have hu1 : 1 ≤ u := by omega
    have hnd20 : nDigits u ≤ 20 := by have := numDigits_eq u hu1 hu64; split at this <;> omega
    have hsl : ∀ W, (Instr.sliceAt 237 (.pointer (some ⟨w.heap.size, 0, none⟩)) none (some (.int .i64 (nDigits u : Int))) none).run Tryz.prog W = .ok (.slice (some ⟨w.heap.size, 0, none⟩) (nDigits u) 24) W := fun W => by
      have hal : Tryz.prog.arrayLen 237 = 24 := by kernel_rfl
      rw [run_sliceAt_array_h W 237 ⟨w.heap.size, 0, none⟩ (by kernel_rfl) .i64 (nDigits u : Int) (by omega) (by rw [hal]; omega)]
      rw [hal]
      go_simp
    have hH0 := holds_zero0 w 237 (nDigits u) (by omega)
    have hfmt := Tryz.internal_strconv_formatBase10 w.heap.size 0 24 u (Array.replicate (nDigits u) 0) (w.alloc (.cells zeros24 237)) hH0 (by rw [Array.size_replicate]; exact lt_pow_nDigits u) hu64 (by rw [Array.size_replicate]; omega)
    rw [Array.size_replicate] at hfmt
    have HH0 := hid hH0
    clear hH0
    go_enter Tryz.func345, Tryz.ntmps345
    go_wp2_with (first | (go_at_call 255; refine (Tryz.internal_strconv_numDigits u hu1 hu64 _ (tabIs_alloc htab _)).mono ?_; rintro e w' ⟨rfl, rfl⟩) | (go_at_call 256; fail) | (go_at_call 348; go_in))
    refine hfmt.mono ?_
    rintro e w' ⟨rfl, k, v', dk, rfl, hF⟩
    have hcv : (convert 25 9 (.slice (some ⟨w.heap.size, 0, none⟩) (nDigits u) 24)).run Tryz.prog ((putRow (fun (b : UInt8) => Value.int .u8 (b.toNat : Int)) (w.alloc (.cells zeros24 237)) w.heap.size 0 dk).drewN k) = .ok (.string ⟨(decDigits u).toArray⟩) ((putRow (fun (b : UInt8) => Value.int .u8 (b.toNat : Int)) (w.alloc (.cells zeros24 237)) w.heap.size 0 dk).drewN k) := by
      have h := run_convert_bytes_back (P := Tryz.prog) ((putRow (fun (b : UInt8) => Value.int .u8 (b.toNat : Int)) (w.alloc (.cells zeros24 237)) w.heap.size 0 dk).drewN k) 25 9 5 ⟨w.heap.size, 0, none⟩ 24 (decDigits u) Tryz.underlying25 Tryz.underlying5 Tryz.underlying9 (fun j hj => by
        rw [row_is_numeral hF j hj, add_plain, World.cell?_drewN]
        exact cell?_putRow (fun (b : UInt8) => Value.int .u8 (b.toNat : Int)) _ w.heap.size 0 _ dk HH0.out (by rw [hF.size, Array.size_replicate]) j (by rw [hF.size]; rw [decDigits_length] at hj; exact hj))
      rw [decDigits_length] at h
      exact h
    go_wp2
    go_ret
    obtain ⟨os, eo⟩ := fin_pos0 w (.cells zeros24 237) dk k
    exact ⟨rfl, by rw [eo]; exact below_grow w k os⟩


/-- A number without its sign. -/
def magI (n : Int) : Int := if n < 0 then -n else n
theorem magI_neg {n : Int} (h : n < 0) : magI n = -n := if_pos h
theorem magI_pos {n : Int} (h : ¬ n < 0) : magI n = n := if_neg h
theorem magI_bd {n : Int} (h0 : -9223372036854775808 ≤ n) (h1 : n ≤ 9223372036854775807) : 0 ≤ magI n ∧ magI n ≤ 9223372036854775808 := by
  unfold magI; split <;> omega
theorem magnitude_any (n : Int) (h0 : -9223372036854775808 ≤ n) (h1 : n ≤ 9223372036854775807) (w : World) :
    Calls Tryz.prog 344 #[.int .i64 n] w fun e w' => e = .returned (.int .u64 (magI n)) ∧ w' = w := by
  by_cases hn : n < 0
  · have HM : Hid (magI n = -n) := magI_neg hn
    go_enter Tryz.func344, Tryz.ntmps344
    go_wp2
    go_ret
    refine ⟨ret_int ?_, rfl⟩
    rw [HM.out, IntKind.wrap_u64, IntKind.wrap_u64]; omega
  · have HM : Hid (magI n = n) := magI_pos hn
    go_enter Tryz.func344, Tryz.ntmps344
    go_wp2
    go_ret
    refine ⟨ret_int ?_, rfl⟩
    rw [HM.out]

/-- The digits of a number, as a text. -/
def decI (v : Int) : ByteArray := ⟨(decDigits v.toNat).toArray⟩
theorem FormatUint_int (v : Int) (h0 : 0 ≤ v) (h1 : v < 18446744073709551616) (w : World) (htab : TabIs Tryz.prog w "internal/strconv.uint64pow10" .u64 pow10Tab) :
    Calls Tryz.prog 345 #[.int .u64 v, .int .i64 10] w fun e w' => e = .returned (.string (decI v)) ∧ Below w.heap.size w w' := by
  obtain ⟨u, rfl⟩ : ∃ u : Nat, v = u := ⟨v.toNat, by omega⟩
  exact FormatUint_any u (by omega) w htab
theorem decI_size (v : Int) : 1 ≤ (decI v).size := by
  show 1 ≤ ((decDigits v.toNat).toArray).size
  rw [List.size_toArray, decDigits_length, nDigits]
  split <;> omega
theorem nDigits_le (u : Nat) (h : u < 18446744073709551616) : nDigits u ≤ 20 := by
  by_cases h0 : u = 0
  · subst h0; rw [nDigits]; simp
  · have := numDigits_eq u (by omega) h; split at this <;> omega
theorem decI_le (v : Int) (h1 : v < 18446744073709551616) : (decI v).size ≤ 20 := by
  show ((decDigits v.toNat).toArray).size ≤ 20
  rw [List.size_toArray, decDigits_length]
  exact nDigits_le _ (by omega)

/-- What stands behind a text's first byte, without the noughts at its end. -/
def trim0 (s : ByteArray) : ByteArray := ⟨(trimRightB s.data.toList.tail 48).toArray⟩
theorem trim_tail (s : ByteArray) (w : World) (hs : s.size ≤ 9223372036854775807) :
    Calls Tryz.prog 346 #[.string (s.extract 1 s.size), .string ⟨#[48]⟩] w fun e w' => e = .returned (.string (trim0 s)) ∧ w' = w := by
  have h := Tryz.strings_TrimRight_one (s.extract 1 s.size) 48 (by decide) w (Nat.le_trans (tail_size s) hs)
  rw [tail_data] at h; exact h
theorem trim0_le (s : ByteArray) : (trim0 s).size ≤ s.size := by
  have h : (trimRightB s.data.toList.tail 48).length ≤ s.data.toList.length := by
    unfold trimRightB
    rw [List.length_reverse]
    refine Nat.le_trans (List.dropWhile_sublist _).length_le ?_
    simp
  rw [← Lib.size_eq] at h
  exact h

/-- What PrintPrice tells. -/
def ppS (n : Int) : ByteArray := if n < 0 then ⟨#[45]⟩ ++ decI (magI n / 10000) else decI (magI n / 10000)
def ppB (n : Int) : ByteArray := if magI n % 10000 = 0 then ppS n else ppS n ++ ⟨#[46]⟩ ++ trim0 (decI (10000 + magI n % 10000))

set_option maxRecDepth 100000 in
set_option maxHeartbeats 1000000 in
theorem PrintPrice_any (n : Int) (h0 : -9223372036854775808 ≤ n) (h1 : n ≤ 9223372036854775807) (w : World) (htab : TabIs Tryz.prog w "internal/strconv.uint64pow10" .u64 pow10Tab) :
    Calls Tryz.prog 340 #[.int .i64 n] w fun e w' => e = .returned (.string (ppB n)) ∧ Below w.heap.size w w' := by
  have hm := magI_bd h0 h1
  obtain ⟨hm0, hm1⟩ := hm
  have hz := decI_size (10000 + magI n % 10000)
  have hz2 := decI_le (10000 + magI n % 10000) (by omega)
  have hz3 := decI_le (magI n / 10000) (by omega)
  have hz4 := trim0_le (decI (10000 + magI n % 10000))
  have c1 : ¬ 9223372036854775807 < 1 + (decI (magI n / 10000)).size := by omega
  have c2 : ¬ 9223372036854775807 < 1 + (decI (magI n / 10000)).size + 1 := by omega
  have c3 : ¬ 9223372036854775807 < 1 + (decI (magI n / 10000)).size + 1 + (trim0 (decI (10000 + magI n % 10000))).size := by omega
  have c4 : ¬ 9223372036854775807 < (decI (magI n / 10000)).size + 1 := by omega
  have c5 : ¬ 9223372036854775807 < (decI (magI n / 10000)).size + 1 + (trim0 (decI (10000 + magI n % 10000))).size := by omega
  clear hz3 hz4
  by_cases hr : magI n % 10000 = 0
  · have HB : Hid (ppB n = ppS n) := if_pos hr
    by_cases hn : n < 0
    · have HS : Hid (ppS n = ⟨#[45]⟩ ++ decI (magI n / 10000)) := if_pos hn
      go_enter Tryz.func340, Tryz.ntmps340
      go_wp2_with (first | (go_at_call 344; refine (magnitude_any n h0 h1 _).mono ?_; rintro e w' ⟨rfl, rfl⟩) | (go_at_call 345; refine (FormatUint_int _ (by omega) (by omega) _ htab).mono ?_; rintro e w1 ⟨rfl, hb1⟩))
      go_ret
      exact ⟨ret_str (by rw [HB.out, HS.out]), hb1⟩
    · have HS : Hid (ppS n = decI (magI n / 10000)) := if_neg hn
      go_enter Tryz.func340, Tryz.ntmps340
      go_wp2_with (first | (go_at_call 344; refine (magnitude_any n h0 h1 _).mono ?_; rintro e w' ⟨rfl, rfl⟩) | (go_at_call 345; refine (FormatUint_int _ (by omega) (by omega) _ htab).mono ?_; rintro e w1 ⟨rfl, hb1⟩))
      go_ret
      exact ⟨ret_str (by rw [HB.out, HS.out]), hb1⟩
  · have HB : Hid (ppB n = ppS n ++ ⟨#[46]⟩ ++ trim0 (decI (10000 + magI n % 10000))) := if_neg hr
    have hr' : (magI n % 10000 == 0) = false := by simpa using hr
    clear hr
    by_cases hn : n < 0
    · have HS : Hid (ppS n = ⟨#[45]⟩ ++ decI (magI n / 10000)) := if_pos hn
      go_enter Tryz.func340, Tryz.ntmps340
      go_wp2_with (first | (go_at_call 344; refine (magnitude_any n h0 h1 _).mono ?_; rintro e w' ⟨rfl, rfl⟩) | (go_at_call 345; refine (FormatUint_int _ (by omega) (by omega) _ htab).mono ?_; rintro e w1 ⟨rfl, hb1⟩; have htab1 := tabIs_below htab hb1) | (go_at_call 345; refine (FormatUint_int _ (by omega) (by omega) _ htab1).mono ?_; rintro e w2 ⟨rfl, hb2⟩) | (go_at_call 346; refine (trim_tail _ _ (by omega)).mono ?_; rintro e w' ⟨rfl, rfl⟩))
      go_ret
      exact ⟨ret_str (by rw [HB.out, HS.out]), hb1.trans (hb2.mono hb1.size)⟩
    · have HS : Hid (ppS n = decI (magI n / 10000)) := if_neg hn
      go_enter Tryz.func340, Tryz.ntmps340
      go_wp2_with (first | (go_at_call 344; refine (magnitude_any n h0 h1 _).mono ?_; rintro e w' ⟨rfl, rfl⟩) | (go_at_call 345; refine (FormatUint_int _ (by omega) (by omega) _ htab).mono ?_; rintro e w1 ⟨rfl, hb1⟩; have htab1 := tabIs_below htab hb1) | (go_at_call 345; refine (FormatUint_int _ (by omega) (by omega) _ htab1).mono ?_; rintro e w2 ⟨rfl, hb2⟩) | (go_at_call 346; refine (trim_tail _ _ (by omega)).mono ?_; rintro e w' ⟨rfl, rfl⟩))
      go_ret
      exact ⟨ret_str (by rw [HB.out, HS.out]), hb1.trans (hb2.mono hb1.size)⟩
end Go.Proofs.YtchkpggdndnpjabGreatDoor

namespace Go.Proofs
open Go.Shelf
def Tryz.lays16_ren : Go.Shelf.Ren := ⟨fun | 16 => 328 | n => n, fun | 3 => 3 | 35 => 72 | 4 => 4 | 38 => 250 | n => n, fun | n => n⟩
theorem Tryz.lays16 : Go.Proofs.SlLaysO.n16 Tryz.prog Tryz.lays16_ren := {
  mixed := by kernel_rfl
  f16 := Tryz.func328.trans (congrArg some (by kernel_rfl))
  t3 := Tryz.underlying3
  a3 := Tryz.isAgg3
  z3 := Tryz.sizeOf3
  v3 := Tryz.zeroValue3
  t4 := Tryz.underlying4
  a4 := Tryz.isAgg4
  z4 := Tryz.sizeOf4
  v4 := Tryz.zeroValue4
  t35 := Tryz.underlying72
  a35 := Tryz.isAgg72
  z35 := Tryz.sizeOf72
  v35 := Tryz.zeroValue72
  t38 := Tryz.underlying250
  a38 := Tryz.isAgg250
  z38 := Tryz.sizeOf250
  v38 := Tryz.zeroValue250 }
end Go.Proofs

namespace Go.Proofs.YtchkpggdndnpjabGreatDoor
set_option linter.unusedVariables false
open Go.Shelf Go.RowKit Go.Sort Go.Lib

def late (n i : Nat) : Bool := decide (n < ahead (1970 + i + 1))
set_option maxRecDepth 100000 in
set_option maxHeartbeats 400000 in
theorem closure_any (n i B : Nat) (W : World) (hi : i < 8029) (hc : W.cell? ⟨B, 0, none⟩ = some (.int .i64 n)) :
    Calls Tryz.prog 329 #[.int .i64 i, .pointer (some ⟨B, 0, none⟩)] W fun e w' => e = .returned (.bool (late n i)) ∧ ∃ q, w' = W.drewN q := by
  have hl : late n i = decide ((n : Int) < (ahead (1970 + i + 1) : Int)) := by unfold late; exact decide_eq_decide.2 (by omega)
  rw [hl]
  have hcD : Hid (∀ m, (W.drewN m).cell? ⟨B, 0, none⟩ = some (.int .i64 n)) := fun _ => hc
  go_enter Tryz.func329, Tryz.ntmps329
  go_wp2
  go_quiet ((go_at_call 268; refine Calls.quiet_of_same (firstDayOfYear_any _ (1970 + i + 1) (by omega) _ (by omega) (by omega))))
  go_wp2
  go_ret
  exact ⟨ret_bool (decide_eq_decide.2 (by omega)), _, rfl⟩
theorem count_lt (k : Nat) : ∀ N, (List.range N).countP (fun i => decide (i < k)) = min k N
  | 0 => by simp
  | N + 1 => by
    rw [List.range_succ, List.countP_append, count_lt k N]
    by_cases h : N < k
    · simp [h]; omega
    · simp [h]; omega
theorem late_false {n y i : Nat} (h0 : ahead y ≤ n) (hy : 1970 ≤ y) (hi : 1970 + i + 1 ≤ y) : late n i = false := by
  have := ahead_le (y := 1970 + i + 1) (z := y) (by omega) hi
  unfold late
  exact decide_eq_false (by omega)
theorem late_true {n y i : Nat} (h1 : n < ahead (y + 1)) (hy : 1970 ≤ y) (hi : y ≤ 1970 + i) : late n i = true := by
  have := ahead_le (y := y + 1) (z := 1970 + i + 1) (by omega) (by omega)
  unfold late
  exact decide_eq_true (by omega)
theorem count_late {n y : Nat} (h0 : ahead y ≤ n) (h1 : n < ahead (y + 1)) (hy : 1970 ≤ y) (hy1 : y ≤ 9999) : (List.range 8029).countP (fun i => !late n i) = y - 1970 := by
  have e : (List.range 8029).countP (fun i => !late n i) = (List.range 8029).countP (fun i => decide (i < y - 1970)) := by
    refine List.countP_congr fun i hi => ?_
    by_cases h : i < y - 1970
    · rw [late_false h0 hy (by omega)]; simp [h]
    · rw [late_true h1 hy (by omega)]; simp [h]
  rw [e, count_lt]
  omega
theorem search_any (n : Nat) (B : Nat) (W : World) (hB : B < W.heap.size) (hc : W.cell? ⟨B, 0, none⟩ = some (.int .i64 n)) (y : Nat) (h0 : ahead y ≤ n) (h1 : n < ahead (y + 1)) (hy : 1970 ≤ y) (hy1 : y ≤ 9999) :
    Calls Tryz.prog 328 #[.int .i64 8029, .func (.func 329) #[] #[.pointer (some ⟨B, 0, none⟩)]] W fun e w' => e = .returned (.int .i64 ((y - 1970 : Nat) : Int)) ∧ Below W.heap.size W w' := by
  have h := Any.sort_Search Tryz.lays16 329 #[.pointer (some ⟨B, 0, none⟩)] 8029 (late n) W (fun args w => by kernel_rfl) (by decide)
    (fun m os i hi => (closure_any n i B (grow (W.drewN m) os) hi (cell_grown hB hc m os)).mono fun e w' ⟨he, q, hq⟩ => ⟨he, q, #[], by rw [hq, grow_empty]⟩)
    (fun a b hab hb ha => by
      unfold late at ha ⊢
      have := ahead_le (y := 1970 + a + 1) (z := 1970 + b + 1) (by omega) (by omega)
      simp only [decide_eq_true_eq] at ha ⊢
      omega)
  rw [count_late h0 h1 hy hy1] at h
  refine h.mono fun e w' ⟨he, q, os, hw⟩ => ⟨he, ?_⟩
  rw [hw]
  exact below_grown_sl _ _ _ _ (Nat.le_refl _)
set_option maxRecDepth 100000 in
set_option maxHeartbeats 400000 in
theorem dateOfDay_any (z : Int) (n : Nat) (hz : z = n) (w : World) (hM : Mon w) (hn : n ≤ 2932896) :
    Calls Tryz.prog 327 #[.int .i64 z] w fun e w' => e = .returned (.int .i64 (dateN n : Int)) ∧ Below w.heap.size w w' := by
  subst hz
  obtain ⟨y, hy0, hy1, ha0, ha1⟩ := year_of n hn
  have ha2 := ha1
  rw [ahead_succ y hy0] at ha2
  have hlp := leapN_le y
  have hmf : ∀ (fn : Fn) (first cap : Array Value) (w : World), (Instr.makeFunc fn first cap).run Tryz.prog w = .ok (.func fn first cap) w := fun _ _ _ _ => rfl
  have HM : Hid (Mon w) := hM
  clear hM
  go_enter Tryz.func327, Tryz.ntmps327
  go_wp2_with (go_at_call 328; fail)
  refine (search_any n w.heap.size (w.alloc (Obj.cells #[Value.int IntKind.i64 ↑n] 3)) (by simp) (cell_new_sl w _ 3) y ha0 ha1 hy0 hy1).mono ?_
  rintro e w1 ⟨rfl, hb1⟩
  have hal : Below w.heap.size w (w.alloc (Obj.cells #[Value.int IntKind.i64 ↑n] 3)) := (Below.refl _ w).alloc (Nat.le_refl _) _
  have HB : Hid (Below w.heap.size w w1) := hal.trans (hb1.mono (by simp))
  have hc1 : w1.cell? ⟨w.heap.size, 0, none⟩ = some (.int .i64 (n : Int)) := by
    rw [hb1.cell (p := ⟨w.heap.size, 0, none⟩) (by simp)]
    exact cell_new_sl w _ 3
  have HM1 : Hid (Mon w1) := HM.out.below HB.out HM.out.lt
  have HC : Hid (∀ m, (w1.drewN m).cell? ⟨w.heap.size, 0, none⟩ = some (.int .i64 (n : Int))) := fun _ => hc1
  generalize hBe : w.heap.size = B at *
  have HBe : Hid (w.heap.size = B) := hBe
  clear hb1 hal hBe
  have ey : (1970 : Int) + ((y - 1970 : Nat) : Int) = (y : Int) := by omega
  have hA : ahead y ≤ 2932897 := by omega
  generalize y - 1970 = u at *
  go_wp2
  go_quiet ((go_at_call 268; refine Calls.quiet_of_same (firstDayOfYear_any _ y (by omega) _ hy0 (by omega))))
  go_wp2
  have HM2 : Hid (Mon (w1.drewN nq)) := HM1.out
  have HB2 : Hid (Below B w (w1.drewN nq)) := below_drewN HB.out _
  generalize w1.drewN nq = w2 at *
  clear HM1 HB HC hc1
  go_loopw [4, 5] (fun a i wr => ∃ k : Nat, k < 12 ∧ i = .int .i64 ((k : Int) + 1) ∧ a = .int .i64 ((n : Int) - (ahead y : Int) - (msum y k : Int)) ∧ ahead y + msum y k ≤ n ∧ wr = w2) (fun _ i _ => 13 - (intOf i).toNat)
  case atStart => exact ⟨0, by omega, rfl, vint (by simp [msum]), by simp [msum]; omega, rfl⟩
  case round =>
    obtain ⟨k, hk, rfl, rfl, hle, rfl⟩ := hrel
    have hs1 := msum_mono y (j := k) (k := 12) (by omega)
    rw [msum_year] at hs1
    have hs3 := mlen_le y (k + 1)
    have hs4 : msum y (k + 1) = msum y k + mlen y (k + 1) := rfl
    by_cases hlt : ahead y + msum y k + mlen y (k + 1) ≤ n
    · have hge : (mlen y (k + 1) : Int) ≤ (n : Int) - (ahead y : Int) - (msum y k : Int) := by omega
      have hk2 : k + 1 < 12 := by
        rcases Nat.lt_or_ge (k + 1) 12 with h | h
        · exact h
        · have e12 : k + 1 = 12 := by omega
          have := msum_year y
          rw [← e12] at this
          omega
      go_wp2_with (go_at_call 267; fail)
      refine (daysOfMonth_any _ _ y (k + 1) rfl (by omega) _ HM2.out (by omega) (by omega) (by omega)).mono ?_
      rintro e w2 ⟨rfl, rfl⟩
      go_wp2_with (go_at_call 267; fail)
      refine (daysOfMonth_any _ _ y (k + 1) rfl (by omega) _ HM2.out (by omega) (by omega) (by omega)).mono ?_
      rintro e w2 ⟨rfl, rfl⟩
      go_wp2
      go_roundw
      case rel => exact ⟨k + 1, by omega, by go_num, vint (by omega), by omega, by first | rfl | trivial⟩
      case measure => simp [intOf]; omega
    · have hge : ¬ (mlen y (k + 1) : Int) ≤ (n : Int) - (ahead y : Int) - (msum y k : Int) := by omega
      have hge2 : (n : Int) - (ahead y : Int) - (msum y k : Int) < (mlen y (k + 1) : Int) := by omega
      have hD : IsD y (k + 1) (n - ahead y - msum y k + 1) := ⟨hy0, hy1, by omega, by omega, by omega, by omega⟩
      have eD := dateN_eq hD
      rw [show dayNo y (k + 1) (n - ahead y - msum y k + 1) = n by unfold dayNo; simp only [Nat.add_sub_cancel]; omega] at eD
      have eN : (dateN n : Int) = (y : Int) * 10000 + ((k : Int) + 1) * 100 + ((n : Int) - (ahead y : Int) - (msum y k : Int)) + 1 := by rw [eD]; unfold encD; omega
      have EN : Hid ((dateN n : Int) = (y : Int) * 10000 + ((k : Int) + 1) * 100 + ((n : Int) - (ahead y : Int) - (msum y k : Int)) + 1) := eN
      clear eN eD
      go_wp2_with (go_at_call 267; fail)
      refine (daysOfMonth_any _ _ y (k + 1) rfl (by omega) _ HM2.out (by omega) (by omega) (by omega)).mono ?_
      rintro e w2 ⟨rfl, rfl⟩
      go_wp2
      go_ret
      exact ⟨ret_int (by have := EN.out; omega), by rw [HBe.out]; exact HB2.out⟩
def doV (z : Int) : Int := if isT z then (dateN (z / 86400000).toNat : Int) else 0
def stE (z : Int) : Int := if isT z then 0 else 20
theorem isT_iff (z : Int) : isT z = true ↔ 0 ≤ z ∧ z ≤ 253402300799999 := by simp [isT]
theorem day_of {z : Int} (h : isT z = true) : ∃ t : Nat, z = t ∧ t ≤ 253402300799999 ∧ t / 86400000 ≤ 2932896 := by
  rw [isT_iff] at h
  exact ⟨z.toNat, by omega, by omega, by omega⟩
set_option maxRecDepth 100000 in
set_option maxHeartbeats 400000 in
theorem DateOf_any (z : Int) (w : World) (hM : Mon w) :
    Calls Tryz.prog 324 #[.int .i64 z] w fun e w' => e = .returned (.tuple #[.int .i64 (doV z), .int .i64 (stE z)]) ∧ Below w.heap.size w w' := by
  cases ht : isT z
  · have e1 : doV z = 0 := by unfold doV; rw [ht]; rfl
    have e2 : stE z = 20 := by unfold stE; rw [ht]; rfl
    have hc := isTime_any z w
    rw [ht] at hc
    rw [e1, e2]
    clear e1 e2 ht
    go_enter Tryz.func324, Tryz.ntmps324
    go_wp2_with (go_at_call 326; refine hc.mono ?_; rintro e w ⟨rfl, rfl⟩)
    go_ret2
    exact ⟨rfl, Below.refl _ _⟩
  · have hc := isTime_any z w
    rw [ht] at hc
    obtain ⟨t, rfl, ht1, ht2⟩ := day_of ht
    have e1 : doV t = (dateN (t / 86400000) : Int) := by unfold doV; rw [ht, if_pos rfl, show ((t : Int) / 86400000).toNat = t / 86400000 by omega]
    have e2 : stE t = 0 := by unfold stE; rw [ht]; rfl
    rw [e1, e2]
    clear e1 e2 ht
    have HM : Hid (Mon w) := hM
    clear hM
    go_enter Tryz.func324, Tryz.ntmps324
    go_wp2_with (go_at_call 326; refine hc.mono ?_; rintro e w ⟨rfl, rfl⟩)
    go_wp2_with (go_at_call 327; fail)
    refine (dateOfDay_any _ (t / 86400000) (by omega) _ HM.out ht2).mono ?_
    rintro e w1 ⟨rfl, hb⟩
    have HB : Hid (Below w.heap.size w w1) := hb
    clear hb
    go_wp2
    go_ret2
    exact ⟨rfl, HB.out⟩
def wkV (z : Int) : Int := if dnB z then (dnV z + 4) % 7 else 0
end Go.Proofs.YtchkpggdndnpjabGreatDoor
