/-
  strconv.FormatUint at base 10, Print, PrintPrice.
-/
import Derived.Test.YtnnfepapnimlcabDoorShelf
import Derived.Test.YtnnfepapnimlcabDoorPlain
import Derived.Lib.ItoaMem
import Derived.Lib.Walk
import Derived.BigCall
import Derived.BigGuard
import Derived.WalkLawsBesides
namespace Go.Proofs.YtnnfepapnimlcabDoor
set_option linter.unusedVariables false
open Go.Shelf Go.RowKit Go.Sort Go.Lib

theorem holds_zero0 (w : World) (T : TypeId) (nd : Nat) (hs : nd ≤ 24) : Holds (fun (b : UInt8) => Value.int .u8 (b.toNat : Int)) (w.alloc (.cells zeros24 T)) w.heap.size 0 (Array.replicate nd (0 : UInt8)) := fun j hj => by
  have hj' : j < nd := by simpa using hj
  refine ⟨?_, World.frozen?_alloc_new _ _ _ _⟩
  rw [World.cell?_alloc_new, zeros24_at _ (by omega), getElem!_pos _ j hj]
  simp
theorem fin_pos0 (w : World) (o : Obj) (dk : Array UInt8) (k : Nat) : ∃ os, (putRow (fun (b : UInt8) => Value.int .u8 (b.toNat : Int)) (w.alloc o) w.heap.size 0 dk).drewN k = grow (w.drewN k) os := by
  rw [alloc_eq_grow]
  obtain ⟨os', _, e⟩ := putRow_grow_new (fun (b : UInt8) => Value.int .u8 (b.toNat : Int)) w #[o] w.heap.size 0 dk (Nat.le_refl _)
  exact ⟨os', by rw [e]; rfl⟩
theorem below_grow (w : World) (k : Nat) (os : Array Obj) : Below w.heap.size w (grow (w.drewN k) os) := by
  refine ⟨rfl, rfl, rfl, ?_, fun b hb => ?_⟩
  · show w.heap.size ≤ (w.heap ++ os).size
    simp
  · show (w.heap ++ os)[b]? = w.heap[b]?
    rw [Array.getElem?_append_left hb]
theorem tabIs_below {w w' : World} {name : String} {k : IntKind} {zs : List Int} (h : TabIs Tryd.prog w name k zs) (hb : Below w.heap.size w w') : TabIs Tryd.prog w' name k zs := by
  unfold TabIs World.var? at *
  cases hg : Tryd.prog.globalNamed name with
  | none => simp [hg] at h
  | some g =>
    simp only [hg, Option.bind_some] at h ⊢
    have hlt : g < w.heap.size := by
      rcases Nat.lt_or_ge g w.heap.size with h' | h'
      · exact h'
      · rw [Array.getElem?_eq_none h'] at h; simp at h
    rw [hb.block g hlt]; exact h

set_option maxRecDepth 100000 in
set_option maxHeartbeats 1000000 in
theorem FormatUint_any (u : Nat) (hu64 : u < 18446744073709551616) (w : World) (htab : TabIs Tryd.prog w "internal/strconv.uint64pow10" .u64 pow10Tab) :
    Calls Tryd.prog 53 #[.int .u64 u, .int .i64 10] w fun e w' => e = .returned (.string ⟨(decDigits u).toArray⟩) ∧ Below w.heap.size w w' := by
  by_cases hs : (u : Int) < 100
  · have hi : u < 100 := by omega
    go_enter Tryd.func53, Tryd.ntmps53
    go_wp2_with (first | (go_at_call 72; refine (Tryd.internal_strconv_small u hi _).mono ?_; rintro e w' ⟨rfl, rfl⟩) | go_in)
    go_ret
    exact ⟨rfl, Below.refl _ _⟩
  · have hu1 : 1 ≤ u := by omega
    have hnd20 : nDigits u ≤ 20 := by have := numDigits_eq u hu1 hu64; split at this <;> omega
    have hsl : ∀ W, (Instr.sliceAt 93 (.pointer (some ⟨w.heap.size, 0, none⟩)) none (some (.int .i64 (nDigits u : Int))) none).run Tryd.prog W = .ok (.slice (some ⟨w.heap.size, 0, none⟩) (nDigits u) 24) W := fun W => by
      have hal : Tryd.prog.arrayLen 93 = 24 := by kernel_rfl
      rw [run_sliceAt_array_h W 93 ⟨w.heap.size, 0, none⟩ (by kernel_rfl) .i64 (nDigits u : Int) (by omega) (by rw [hal]; omega)]
      rw [hal]
      go_simp
    have hH0 := holds_zero0 w 93 (nDigits u) (by omega)
    have hfmt := Tryd.internal_strconv_formatBase10 w.heap.size 0 24 u (Array.replicate (nDigits u) 0) (w.alloc (.cells zeros24 93)) hH0 (by rw [Array.size_replicate]; exact lt_pow_nDigits u) hu64 (by rw [Array.size_replicate]; omega)
    rw [Array.size_replicate] at hfmt
    have HH0 := hid hH0
    clear hH0
    go_enter Tryd.func53, Tryd.ntmps53
    go_wp2_with (first | (go_at_call 73; refine (Tryd.internal_strconv_numDigits u hu1 hu64 _ (tabIs_alloc htab _)).mono ?_; rintro e w' ⟨rfl, rfl⟩) | (go_at_call 74; fail) | (go_at_call 65; go_in))
    refine hfmt.mono ?_
    rintro e w' ⟨rfl, k, v', dk, rfl, hF⟩
    have hcv : (convert 29 9 (.slice (some ⟨w.heap.size, 0, none⟩) (nDigits u) 24)).run Tryd.prog ((putRow (fun (b : UInt8) => Value.int .u8 (b.toNat : Int)) (w.alloc (.cells zeros24 93)) w.heap.size 0 dk).drewN k) = .ok (.string ⟨(decDigits u).toArray⟩) ((putRow (fun (b : UInt8) => Value.int .u8 (b.toNat : Int)) (w.alloc (.cells zeros24 93)) w.heap.size 0 dk).drewN k) := by
      have h := run_convert_bytes_back (P := Tryd.prog) ((putRow (fun (b : UInt8) => Value.int .u8 (b.toNat : Int)) (w.alloc (.cells zeros24 93)) w.heap.size 0 dk).drewN k) 29 9 5 ⟨w.heap.size, 0, none⟩ 24 (decDigits u) Tryd.underlying29 Tryd.underlying5 Tryd.underlying9 (fun j hj => by
        rw [row_is_numeral hF j hj, add_plain, World.cell?_drewN]
        exact cell?_putRow (fun (b : UInt8) => Value.int .u8 (b.toNat : Int)) _ w.heap.size 0 _ dk HH0.out (by rw [hF.size, Array.size_replicate]) j (by rw [hF.size]; rw [decDigits_length] at hj; exact hj))
      rw [decDigits_length] at h
      exact h
    go_wp2
    go_ret
    obtain ⟨os, eo⟩ := fin_pos0 w (.cells zeros24 93) dk k
    exact ⟨rfl, by rw [eo]; exact below_grow w k os⟩

theorem Print_any (n : Int) (h0 : -9223372036854775808 ≤ n) (h1 : n ≤ 9223372036854775807) (w : World) (htab : TabIs Tryd.prog w "internal/strconv.uint64pow10" .u64 pow10Tab) :
    Calls Tryd.prog 14 #[.int .i64 n] w fun e w' => e = .returned (.string ⟨(itoa n).toArray⟩) ∧ Below w.heap.size w w' := by
  go_enter Tryd.func14, Tryd.ntmps14
  go_wp2_with (go_at_call 46; refine (Tryd.strconv_FormatInt_10 n h0 h1 _ htab).mono ?_; rintro e w' ⟨rfl, k, os, rfl⟩)
  go_ret
  exact ⟨rfl, below_grow _ _ _⟩

/-- A number without its sign. -/
def magI (n : Int) : Int := if n < 0 then -n else n
theorem magI_neg {n : Int} (h : n < 0) : magI n = -n := if_pos h
theorem magI_pos {n : Int} (h : ¬ n < 0) : magI n = n := if_neg h
theorem magI_bd {n : Int} (h0 : -9223372036854775808 ≤ n) (h1 : n ≤ 9223372036854775807) : 0 ≤ magI n ∧ magI n ≤ 9223372036854775808 := by
  unfold magI; split <;> omega
theorem magnitude_any (n : Int) (h0 : -9223372036854775808 ≤ n) (h1 : n ≤ 9223372036854775807) (w : World) :
    Calls Tryd.prog 42 #[.int .i64 n] w fun e w' => e = .returned (.int .u64 (magI n)) ∧ w' = w := by
  by_cases hn : n < 0
  · have HM : Hid (magI n = -n) := magI_neg hn
    go_enter Tryd.func42, Tryd.ntmps42
    go_wp2
    go_ret
    refine ⟨ret_int ?_, rfl⟩
    rw [HM.out, IntKind.wrap_u64, IntKind.wrap_u64]; omega
  · have HM : Hid (magI n = n) := magI_pos hn
    go_enter Tryd.func42, Tryd.ntmps42
    go_wp2
    go_ret
    refine ⟨ret_int ?_, rfl⟩
    rw [HM.out]
theorem size_any (n : Int) (h0 : -9223372036854775808 ≤ n) (h1 : n ≤ 9223372036854775807) (w : World) :
    Calls Tryd.prog 38 #[.int .i64 n] w fun e w' => e = .returned (.int .u64 (magI n)) ∧ w' = w := by
  by_cases hn : n < 0
  · have HM : Hid (magI n = -n) := magI_neg hn
    go_enter Tryd.func38, Tryd.ntmps38
    go_wp2
    go_ret
    refine ⟨ret_int ?_, rfl⟩
    rw [HM.out]; omega
  · have HM : Hid (magI n = n) := magI_pos hn
    go_enter Tryd.func38, Tryd.ntmps38
    go_wp2
    go_ret
    refine ⟨ret_int ?_, rfl⟩
    rw [HM.out]

/-- The digits of a number, as a text. -/
def decI (v : Int) : ByteArray := ⟨(decDigits v.toNat).toArray⟩
theorem FormatUint_int (v : Int) (h0 : 0 ≤ v) (h1 : v < 18446744073709551616) (w : World) (htab : TabIs Tryd.prog w "internal/strconv.uint64pow10" .u64 pow10Tab) :
    Calls Tryd.prog 53 #[.int .u64 v, .int .i64 10] w fun e w' => e = .returned (.string (decI v)) ∧ Below w.heap.size w w' := by
  obtain ⟨u, rfl⟩ : ∃ u : Nat, v = u := ⟨v.toNat, by omega⟩
  exact FormatUint_any u (by omega) w htab
theorem decI_size (v : Int) : 1 ≤ (decI v).size := by
  show 1 ≤ ((decDigits v.toNat).toArray).size
  rw [List.size_toArray, decDigits_length, nDigits]
  split <;> omega
theorem nDigits_le (u : Nat) (h : u < 18446744073709551616) : nDigits u ≤ 20 := by
  by_cases h0 : u = 0
  · subst h0; rw [nDigits]; simp
  · have := numDigits_eq u (by omega) h; split at this <;> omega
theorem decI_le (v : Int) (h1 : v < 18446744073709551616) : (decI v).size ≤ 20 := by
  show ((decDigits v.toNat).toArray).size ≤ 20
  rw [List.size_toArray, decDigits_length]
  exact nDigits_le _ (by omega)

/-- What stands behind a text's first byte, without the noughts at its end. -/
def trim0 (s : ByteArray) : ByteArray := ⟨(trimRightB s.data.toList.tail 48).toArray⟩
theorem trim_tail (s : ByteArray) (w : World) (hs : s.size ≤ 9223372036854775807) :
    Calls Tryd.prog 54 #[.string (s.extract 1 s.size), .string ⟨#[48]⟩] w fun e w' => e = .returned (.string (trim0 s)) ∧ w' = w := by
  have h := Tryd.strings_TrimRight_one (s.extract 1 s.size) 48 (by decide) w (Nat.le_trans (tail_size s) hs)
  rw [tail_data] at h; exact h
theorem trim0_le (s : ByteArray) : (trim0 s).size ≤ s.size := by
  have h : (trimRightB s.data.toList.tail 48).length ≤ s.data.toList.length := by
    unfold trimRightB
    rw [List.length_reverse]
    refine Nat.le_trans (List.dropWhile_sublist _).length_le ?_
    simp
  rw [← Lib.size_eq] at h
  exact h

/-- What PrintPrice tells. -/
def ppS (n : Int) : ByteArray := if n < 0 then ⟨#[45]⟩ ++ decI (magI n / 10000) else decI (magI n / 10000)
def ppB (n : Int) : ByteArray := if magI n % 10000 = 0 then ppS n else ppS n ++ ⟨#[46]⟩ ++ trim0 (decI (10000 + magI n % 10000))

set_option maxRecDepth 100000 in
set_option maxHeartbeats 1000000 in
theorem PrintPrice_any (n : Int) (h0 : -9223372036854775808 ≤ n) (h1 : n ≤ 9223372036854775807) (w : World) (htab : TabIs Tryd.prog w "internal/strconv.uint64pow10" .u64 pow10Tab) :
    Calls Tryd.prog 18 #[.int .i64 n] w fun e w' => e = .returned (.string (ppB n)) ∧ Below w.heap.size w w' := by
  have hm := magI_bd h0 h1
  obtain ⟨hm0, hm1⟩ := hm
  have hz := decI_size (10000 + magI n % 10000)
  have hz2 := decI_le (10000 + magI n % 10000) (by omega)
  have hz3 := decI_le (magI n / 10000) (by omega)
  have hz4 := trim0_le (decI (10000 + magI n % 10000))
  have c1 : ¬ 9223372036854775807 < 1 + (decI (magI n / 10000)).size := by omega
  have c2 : ¬ 9223372036854775807 < 1 + (decI (magI n / 10000)).size + 1 := by omega
  have c3 : ¬ 9223372036854775807 < 1 + (decI (magI n / 10000)).size + 1 + (trim0 (decI (10000 + magI n % 10000))).size := by omega
  have c4 : ¬ 9223372036854775807 < (decI (magI n / 10000)).size + 1 := by omega
  have c5 : ¬ 9223372036854775807 < (decI (magI n / 10000)).size + 1 + (trim0 (decI (10000 + magI n % 10000))).size := by omega
  clear hz3 hz4
  by_cases hr : magI n % 10000 = 0
  · have HB : Hid (ppB n = ppS n) := if_pos hr
    by_cases hn : n < 0
    · have HS : Hid (ppS n = ⟨#[45]⟩ ++ decI (magI n / 10000)) := if_pos hn
      go_enter Tryd.func18, Tryd.ntmps18
      go_wp2_with (first | (go_at_call 42; refine (magnitude_any n h0 h1 _).mono ?_; rintro e w' ⟨rfl, rfl⟩) | (go_at_call 53; refine (FormatUint_int _ (by omega) (by omega) _ htab).mono ?_; rintro e w1 ⟨rfl, hb1⟩))
      go_ret
      exact ⟨ret_str (by rw [HB.out, HS.out]), hb1⟩
    · have HS : Hid (ppS n = decI (magI n / 10000)) := if_neg hn
      go_enter Tryd.func18, Tryd.ntmps18
      go_wp2_with (first | (go_at_call 42; refine (magnitude_any n h0 h1 _).mono ?_; rintro e w' ⟨rfl, rfl⟩) | (go_at_call 53; refine (FormatUint_int _ (by omega) (by omega) _ htab).mono ?_; rintro e w1 ⟨rfl, hb1⟩))
      go_ret
      exact ⟨ret_str (by rw [HB.out, HS.out]), hb1⟩
  · have HB : Hid (ppB n = ppS n ++ ⟨#[46]⟩ ++ trim0 (decI (10000 + magI n % 10000))) := if_neg hr
    have hr' : (magI n % 10000 == 0) = false := by simpa using hr
    clear hr
    by_cases hn : n < 0
    · have HS : Hid (ppS n = ⟨#[45]⟩ ++ decI (magI n / 10000)) := if_pos hn
      go_enter Tryd.func18, Tryd.ntmps18
      go_wp2_with (first | (go_at_call 42; refine (magnitude_any n h0 h1 _).mono ?_; rintro e w' ⟨rfl, rfl⟩) | (go_at_call 53; refine (FormatUint_int _ (by omega) (by omega) _ htab).mono ?_; rintro e w1 ⟨rfl, hb1⟩; have htab1 := tabIs_below htab hb1) | (go_at_call 53; refine (FormatUint_int _ (by omega) (by omega) _ htab1).mono ?_; rintro e w2 ⟨rfl, hb2⟩) | (go_at_call 54; refine (trim_tail _ _ (by omega)).mono ?_; rintro e w' ⟨rfl, rfl⟩))
      go_ret
      exact ⟨ret_str (by rw [HB.out, HS.out]), hb1.trans (hb2.mono hb1.size)⟩
    · have HS : Hid (ppS n = decI (magI n / 10000)) := if_neg hn
      go_enter Tryd.func18, Tryd.ntmps18
      go_wp2_with (first | (go_at_call 42; refine (magnitude_any n h0 h1 _).mono ?_; rintro e w' ⟨rfl, rfl⟩) | (go_at_call 53; refine (FormatUint_int _ (by omega) (by omega) _ htab).mono ?_; rintro e w1 ⟨rfl, hb1⟩; have htab1 := tabIs_below htab hb1) | (go_at_call 53; refine (FormatUint_int _ (by omega) (by omega) _ htab1).mono ?_; rintro e w2 ⟨rfl, hb2⟩) | (go_at_call 54; refine (trim_tail _ _ (by omega)).mono ?_; rintro e w' ⟨rfl, rfl⟩))
      go_ret
      exact ⟨ret_str (by rw [HB.out, HS.out]), hb1.trans (hb2.mono hb1.size)⟩
end Go.Proofs.YtnnfepapnimlcabDoor
