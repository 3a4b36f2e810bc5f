import Derived.Test.YtchkpggdndnpjaaGreatDoorG17
import Derived.Shelf.LaysM
import Derived.Shelf.Strconv.Itoa1
import Derived.Shelf.Strconv.Itoa2
import Derived.Shelf.Strings.Search2
import Derived.Shelf.Strings.Trim
import Derived.Test.YtchkpggdndnpjaaGreatDoorG13
import Derived.Test.YtchkpggdndnpjaaGreatDoorG14
import Derived.Lib.IndexLaws

namespace Go.Proofs.YtchkpggdndnpjaaGreatDoor
set_option linter.unusedVariables false
open Go.RowKit

set_option maxRecDepth 100000 in
theorem inst_write (a : Addr) (w : World)  :
    Calls Tryz.prog 275 #[.agg #[.pointer (some a)]] w fun e w' => e = .returned (.string ⟨#[54]⟩) ∧ Below w.heap.size w w' := by
  have HB : Hid (Below w.heap.size w (w.alloc (.cells #[.pointer (some a)] 176))) := (Below.refl _ w).alloc (Nat.le_refl _) _
  go_enter Tryz.func275, Tryz.ntmps275
  go_wp2
  go_ret
  exact ⟨rfl, HB.out⟩
set_option maxRecDepth 100000 in
theorem text_write (a : Addr) (s : ByteArray) (v : Value) (hv : v.cells = #[v]) (w : World) (hc : w.cell? a = some (.string s)) :
    Calls Tryz.prog 250 #[.agg #[.pointer (some a), v]] w fun e w' => e = .returned (.string s) ∧ Below w.heap.size w w' := by
  have HB : Hid (Below w.heap.size w (w.alloc (.cells #[.pointer (some a), v] 164))) := (Below.refl _ w).alloc (Nat.le_refl _) _
  have hcl := cell_alloc hc (.cells #[.pointer (some a), v] 164)
  clear hc
  go_enter Tryz.func250, Tryz.ntmps250
  go_wp2
  go_ret
  exact ⟨rfl, HB.out⟩
set_option maxRecDepth 100000 in
theorem inst_there (a : Addr) (z : Int) (w : World) (hc : w.cell? a = some (.int .i64 z)) :
    Calls Tryz.prog 274 #[.agg #[.pointer (some a)]] w fun e w' => e = .returned (.bool (z == 7)) ∧ Below w.heap.size w w' := by
  have HB : Hid (Below w.heap.size w (w.alloc (.cells #[.pointer (some a)] 176))) := (Below.refl _ w).alloc (Nat.le_refl _) _
  have hcl := cell_alloc hc (.cells #[.pointer (some a)] 176)
  clear hc
  go_enter Tryz.func274, Tryz.ntmps274
  go_wp2
  go_ret
  exact ⟨rfl, HB.out⟩
end Go.Proofs.YtchkpggdndnpjaaGreatDoor

namespace Go.Proofs
open Go.Shelf
def Tryz.lays162_ren : Go.Shelf.Ren := ⟨fun | 162 => 286 | 232 => 289 | 227 => 290 | 234 => 291 | 236 => 292 | 228 => 294 | 271 => 295 | 151 => 296 | 120 => 301 | 197 => 302 | 152 => 303 | 260 => 306 | 137 => 307 | 119 => 308 | 224 => 299 | 225 => 298 | 217 => 297 | 266 => 304 | n => n, fun | 9 => 9 | 4 => 4 | 3 => 3 | 5 => 5 | 117 => 245 | 116 => 244 | 0 => 0 | 124 => 248 | 21 => 21 | 105 => 249 | 46 => 204 | 119 => 257 | 139 => 260 | 138 => 259 | n => n, fun | 3 => 6 | 4 => 7 | n => n⟩
theorem Tryz.lays162 : Go.Proofs.Lays.n162 Tryz.prog Tryz.lays162_ren := {
  mixed := by kernel_rfl
  f119 := Tryz.func308.trans (congrArg some (by kernel_rfl))
  f120 := Tryz.func301.trans (congrArg some (by kernel_rfl))
  f137 := Tryz.func307.trans (congrArg some (by kernel_rfl))
  f151 := Tryz.func296.trans (congrArg some (by kernel_rfl))
  f152 := Tryz.func303.trans (congrArg some (by kernel_rfl))
  f162 := Tryz.func286.trans (congrArg some (by kernel_rfl))
  f197 := Tryz.func302.trans (congrArg some (by kernel_rfl))
  f217 := Tryz.func297.trans (congrArg some (by kernel_rfl))
  f224 := Tryz.func299.trans (congrArg some (by kernel_rfl))
  f225 := Tryz.func298.trans (congrArg some (by kernel_rfl))
  f227 := Tryz.func290.trans (congrArg some (by kernel_rfl))
  f228 := Tryz.func294.trans (congrArg some (by kernel_rfl))
  f232 := Tryz.func289.trans (congrArg some (by kernel_rfl))
  f234 := Tryz.func291.trans (congrArg some (by kernel_rfl))
  f236 := Tryz.func292.trans (congrArg some (by kernel_rfl))
  f260 := Tryz.func306.trans (congrArg some (by kernel_rfl))
  f266 := Tryz.func304.trans (congrArg some (by kernel_rfl))
  f271 := Tryz.func295.trans (congrArg some (by kernel_rfl))
  t0 := Tryz.underlying0
  a0 := Tryz.isAgg0
  z0 := Tryz.sizeOf0
  v0 := Tryz.zeroValue0
  t3 := Tryz.underlying3
  a3 := Tryz.isAgg3
  z3 := Tryz.sizeOf3
  v3 := Tryz.zeroValue3
  t4 := Tryz.underlying4
  a4 := Tryz.isAgg4
  z4 := Tryz.sizeOf4
  v4 := Tryz.zeroValue4
  t5 := Tryz.underlying5
  a5 := Tryz.isAgg5
  z5 := Tryz.sizeOf5
  v5 := Tryz.zeroValue5
  t9 := Tryz.underlying9
  a9 := Tryz.isAgg9
  z9 := Tryz.sizeOf9
  v9 := Tryz.zeroValue9
  t21 := Tryz.underlying21
  a21 := Tryz.isAgg21
  z21 := Tryz.sizeOf21
  v21 := Tryz.zeroValue21
  t46 := Tryz.underlying204
  a46 := Tryz.isAgg204
  z46 := Tryz.sizeOf204
  v46 := Tryz.zeroValue204
  t105 := Tryz.underlying249
  a105 := Tryz.isAgg249
  z105 := Tryz.sizeOf249
  v105 := Tryz.zeroValue249
  t116 := Tryz.underlying244
  a116 := Tryz.isAgg244
  z116 := Tryz.sizeOf244
  t117 := Tryz.underlying245
  a117 := Tryz.isAgg245
  z117 := Tryz.sizeOf245
  v117 := Tryz.zeroValue245
  t119 := Tryz.underlying257
  a119 := Tryz.isAgg257
  z119 := Tryz.sizeOf257
  t124 := Tryz.underlying248
  a124 := Tryz.isAgg248
  z124 := Tryz.sizeOf248
  v124 := Tryz.zeroValue248
  t138 := Tryz.underlying259
  a138 := Tryz.isAgg259
  z138 := Tryz.sizeOf259
  v138 := Tryz.zeroValue259
  t139 := Tryz.underlying260
  a139 := Tryz.isAgg260
  z139 := Tryz.sizeOf260
  v139 := Tryz.zeroValue260
  g3 := by kernel_rfl
  g4 := by kernel_rfl }
open Go.RowKit in
theorem Tryz.strings_TrimRight_one (s : ByteArray) (c : UInt8) (hc : c.toNat < 128) (w : World) (hs : s.size ≤ 9223372036854775807) :
    Calls Tryz.prog 286 #[.string s, .string ⟨#[c]⟩] w fun e w' => e = .returned (.string ⟨(Lib.trimRightB s.data.toList c).toArray⟩) ∧ w' = w := Any.strings_TrimRight_one Tryz.lays162 s c hc w hs
def Tryz.lays283_ren : Go.Shelf.Ren := ⟨fun | 283 => 194 | n => n, fun | 3 => 3 | 9 => 9 | 4 => 4 | n => n, fun | n => n⟩
theorem Tryz.lays283 : Go.Proofs.Lays.n283 Tryz.prog Tryz.lays283_ren := {
  mixed := by kernel_rfl
  f283 := Tryz.func194.trans (congrArg some (by kernel_rfl))
  t3 := Tryz.underlying3
  a3 := Tryz.isAgg3
  z3 := Tryz.sizeOf3
  v3 := Tryz.zeroValue3
  t4 := Tryz.underlying4
  a4 := Tryz.isAgg4
  z4 := Tryz.sizeOf4
  v4 := Tryz.zeroValue4
  t9 := Tryz.underlying9
  a9 := Tryz.isAgg9
  z9 := Tryz.sizeOf9
  v9 := Tryz.zeroValue9 }
open Go.Lib in
theorem Tryz.internal_strconv_small (i : Nat) (h : i < 100) (w : World) :
    Calls Tryz.prog 194 #[.int .i64 i] w fun e w' => e = .returned (.string ⟨(Lib.decDigits i).toArray⟩) ∧ w' = w := Any.internal_strconv_small Tryz.lays283 i h w
def Tryz.laysM284_ren : Go.Shelf.Ren := ⟨fun | 284 => 195 | 129 => 201 | 317 => 200 | 318 => 202 | n => n, fun | 53 => 195 | 3 => 3 | 212 => 202 | 0 => 0 | 4 => 4 | 46 => 204 | 5 => 5 | 9 => 9 | n => n, fun | 17 => 1 | n => n⟩
theorem Tryz.laysM284 : Go.Proofs.LaysM.n284 Tryz.prog Tryz.laysM284_ren := {
  mixed := by kernel_rfl
  f129 := Tryz.func201.trans (congrArg some (by kernel_rfl))
  f284 := Tryz.func195.trans (congrArg some (by kernel_rfl))
  f317 := Tryz.func200.trans (congrArg some (by kernel_rfl))
  f318 := Tryz.func202.trans (congrArg some (by kernel_rfl))
  t0 := Tryz.underlying0
  a0 := Tryz.isAgg0
  z0 := Tryz.sizeOf0
  v0 := Tryz.zeroValue0
  t3 := Tryz.underlying3
  a3 := Tryz.isAgg3
  z3 := Tryz.sizeOf3
  v3 := Tryz.zeroValue3
  t4 := Tryz.underlying4
  a4 := Tryz.isAgg4
  z4 := Tryz.sizeOf4
  v4 := Tryz.zeroValue4
  t5 := Tryz.underlying5
  a5 := Tryz.isAgg5
  z5 := Tryz.sizeOf5
  v5 := Tryz.zeroValue5
  t9 := Tryz.underlying9
  a9 := Tryz.isAgg9
  z9 := Tryz.sizeOf9
  v9 := Tryz.zeroValue9
  t46 := Tryz.underlying204
  a46 := Tryz.isAgg204
  z46 := Tryz.sizeOf204
  v46 := Tryz.zeroValue204
  t53 := Tryz.underlying195
  a53 := Tryz.isAgg195
  z53 := Tryz.sizeOf195
  v53 := Tryz.zeroValue195
  t212 := Tryz.underlying202
  a212 := Tryz.isAgg202
  z212 := Tryz.sizeOf202
  v212 := Tryz.zeroValue202
  g17 := by kernel_rfl
  i0 := by kernel_rfl
  i3 := by kernel_rfl
  i4 := by kernel_rfl
  i5 := by kernel_rfl
  i9 := by kernel_rfl
  i46 := by kernel_rfl
  i53 := by kernel_rfl
  i212 := by kernel_rfl
  m17 := by kernel_rfl }
open Go.Lib in
theorem Tryz.internal_strconv_numDigits (u : Nat) (h1 : 1 ≤ u) (h2 : u < 18446744073709551616) (w : World) (htab : Lib.TabIs Tryz.prog w "internal/strconv.uint64pow10" .u64 Lib.pow10Tab) :
    Calls Tryz.prog 195 #[.int .u64 u] w fun e w' => e = .returned (.int .i64 (Lib.nDigits u)) ∧ w' = w := Any.internal_strconv_numDigits Tryz.laysM284 u h1 h2 w htab
def Tryz.lays285_ren : Go.Shelf.Ren := ⟨fun | 285 => 196 | n => n, fun | 37 => 22 | 53 => 195 | 3 => 3 | 4 => 4 | 51 => 62 | 9 => 9 | 5 => 5 | 0 => 0 | n => n, fun | n => n⟩
theorem Tryz.lays285 : Go.Proofs.Lays.n285 Tryz.prog Tryz.lays285_ren := {
  mixed := by kernel_rfl
  f285 := Tryz.func196.trans (congrArg some (by kernel_rfl))
  t0 := Tryz.underlying0
  a0 := Tryz.isAgg0
  z0 := Tryz.sizeOf0
  v0 := Tryz.zeroValue0
  t3 := Tryz.underlying3
  a3 := Tryz.isAgg3
  z3 := Tryz.sizeOf3
  v3 := Tryz.zeroValue3
  t4 := Tryz.underlying4
  a4 := Tryz.isAgg4
  z4 := Tryz.sizeOf4
  v4 := Tryz.zeroValue4
  t5 := Tryz.underlying5
  a5 := Tryz.isAgg5
  z5 := Tryz.sizeOf5
  v5 := Tryz.zeroValue5
  t9 := Tryz.underlying9
  a9 := Tryz.isAgg9
  z9 := Tryz.sizeOf9
  v9 := Tryz.zeroValue9
  t37 := Tryz.underlying22
  a37 := Tryz.isAgg22
  z37 := Tryz.sizeOf22
  v37 := Tryz.zeroValue22
  t51 := Tryz.underlying62
  a51 := Tryz.isAgg62
  z51 := Tryz.sizeOf62
  v51 := Tryz.zeroValue62
  t53 := Tryz.underlying195
  a53 := Tryz.isAgg195
  z53 := Tryz.sizeOf195
  v53 := Tryz.zeroValue195 }
open Go.RowKit Go.Sort Go.Lib in
theorem Tryz.internal_strconv_formatBase10 (blk off cap : Nat) (u : Nat) (d : Array UInt8) (w : World) (hH : Holds (fun (b : UInt8) => Value.int .u8 (b.toNat : Int)) w blk off d) (hu : u < 10 ^ d.size) (hu64 : u < 18446744073709551616) (hsz : d.size < 4611686018427387904) :
    Calls Tryz.prog 196 #[.slice (some ⟨blk, off, none⟩) d.size cap, .int .u64 u] w fun e w' =>
      e = .returned (.tuple #[]) ∧ ∃ (n v' : Nat) (dk : Array UInt8), w' = (putRow (fun (b : UInt8) => Value.int .u8 (b.toNat : Int)) w blk off dk).drewN n ∧ FmtInv d.size u 0 v' dk := Any.internal_strconv_formatBase10 Tryz.lays285 blk off cap u d w hH hu hu64 hsz
def Tryz.lays219_ren : Go.Shelf.Ren := ⟨fun | 219 => 293 | 217 => 297 | 225 => 298 | 224 => 299 | 267 => 300 | 266 => 304 | 314 => 305 | n => n, fun | 9 => 9 | 3 => 3 | 4 => 4 | 5 => 5 | 46 => 204 | 146 => 254 | 51 => 62 | n => n, fun | 1 => 5 | n => n⟩
theorem Tryz.lays219 : Go.Proofs.Lays.n219 Tryz.prog Tryz.lays219_ren := {
  mixed := by kernel_rfl
  f217 := Tryz.func297.trans (congrArg some (by kernel_rfl))
  f219 := Tryz.func293.trans (congrArg some (by kernel_rfl))
  f224 := Tryz.func299.trans (congrArg some (by kernel_rfl))
  f225 := Tryz.func298.trans (congrArg some (by kernel_rfl))
  f266 := Tryz.func304.trans (congrArg some (by kernel_rfl))
  f267 := Tryz.func300.trans (congrArg some (by kernel_rfl))
  f314 := Tryz.func305.trans (congrArg some (by kernel_rfl))
  t3 := Tryz.underlying3
  a3 := Tryz.isAgg3
  z3 := Tryz.sizeOf3
  v3 := Tryz.zeroValue3
  t4 := Tryz.underlying4
  a4 := Tryz.isAgg4
  z4 := Tryz.sizeOf4
  v4 := Tryz.zeroValue4
  t5 := Tryz.underlying5
  a5 := Tryz.isAgg5
  z5 := Tryz.sizeOf5
  v5 := Tryz.zeroValue5
  t9 := Tryz.underlying9
  a9 := Tryz.isAgg9
  z9 := Tryz.sizeOf9
  v9 := Tryz.zeroValue9
  t46 := Tryz.underlying204
  a46 := Tryz.isAgg204
  z46 := Tryz.sizeOf204
  v46 := Tryz.zeroValue204
  t51 := Tryz.underlying62
  a51 := Tryz.isAgg62
  z51 := Tryz.sizeOf62
  v51 := Tryz.zeroValue62
  t146 := Tryz.underlying254
  a146 := Tryz.isAgg254
  z146 := Tryz.sizeOf254
  v146 := Tryz.zeroValue254
  g1 := by kernel_rfl }
open Go.RowKit Go.Lib in
theorem Tryz.stringslite_Index_one (s : ByteArray) (c : UInt8) (w : World) :
    Calls Tryz.prog 293 #[.string s, .string ⟨#[c]⟩] w fun e w' => e = .returned (.int .i64 (Lib.indexByte s.data.toList c)) ∧ w' = w := Any.stringslite_Index_one Tryz.lays219 s c w
end Go.Proofs

namespace Go.Proofs.YtchkpggdndnpjaaGreatDoor
set_option linter.unusedVariables false
open Go.RowKit

set_option maxRecDepth 100000 in
set_option maxHeartbeats 400000 in
theorem isPriceRest_any (s : ByteArray) (w : World) (hs : s.size ≤ maxLen) :
    Calls Tryz.prog 282 #[.string s] w fun e w' => e = .returned (.bool (restB s.data.toList)) ∧ w' = w := by
  by_cases h2 : s.toList = []
  · have e2 : s.toList.isEmpty = true := by simpa using h2
    have HB : Hid (restB s.data.toList = false) := by show restB _ = _; rw [← Lib.toList_data, h2]; rfl
    go_enter Tryz.func282, Tryz.ntmps282
    go_wp2_with fail
    go_ret
    exact ⟨ret_bool HB.out.symm, rfl⟩
  have e2 : s.toList.isEmpty = false := by simpa using h2
  by_cases h4 : (s.size : Int) ≤ 4
  · have HB : Hid (restB s.data.toList = digs s.data.toList) := by
      show restB _ = _
      have h5 : s.data.toList.length ≤ 4 := by rw [← Lib.size_eq]; omega
      have e3 : s.data.toList.isEmpty = false := by rw [← Lib.toList_data]; exact e2
      unfold restB; rw [e3, decide_eq_true h5]; rfl
    go_enter Tryz.func282, Tryz.ntmps282
    go_wp2_with (go_at_call 193; refine (areDigits_any _ _ hs).mono ?_; rintro e w' ⟨rfl, rfl⟩)
    go_ret
    refine ⟨ret_bool ?_, rfl⟩
    rw [HB.out]
    try simp
  · have HB : Hid (restB s.data.toList = false) := by
      show restB _ = _
      have h5 : ¬ s.data.toList.length ≤ 4 := by rw [← Lib.size_eq]; omega
      unfold restB; rw [decide_eq_false h5]; simp
    go_enter Tryz.func282, Tryz.ntmps282
    go_wp2_with fail
    go_ret
    refine ⟨ret_bool ?_, rfl⟩
    rw [HB.out]
    try simp

set_option maxRecDepth 100000 in
set_option maxHeartbeats 400000 in
theorem readPriceRest_any (s : ByteArray) (w : World) (hs : s.size ≤ maxLen) (hd : digs s.data.toList = true) :
    Calls Tryz.prog 283 #[.string s] w fun e w' => e = .returned (.int .i64 (restN s.data.toList 4)) ∧ w' = w := by
  unfold maxLen at hs
  have HD : Hid (digs s.data.toList = true) := hd
  clear hd
  go_enter Tryz.func283, Tryz.ntmps283
  go_wp2
  go_loop [3, 4, 5] (fun n _ i => ∃ k : Nat, k ≤ 4 ∧ i = .int .i64 k ∧ n = .int .i64 (restN s.data.toList k)) (fun _ _ i => 4 - (intOf i).toNat)
  case atStart => exact ⟨0, Nat.zero_le _, rfl, rfl⟩
  case round =>
    obtain ⟨k, hk, rfl, rfl⟩ := hrel
    have hv := restN_bd _ HD.out k hk
    obtain ⟨hv0, hv1⟩ := hv
    by_cases hlt : k < 4
    · have hlt' : (k : Int) < 4 := by omega
      by_cases hks : k < s.size
      · have hb := digs_at s k hks HD.out
        obtain ⟨hb1, hb2⟩ := hb
        have HS : Hid (restN s.data.toList (k + 1) = restN s.data.toList k * 10 + ((s[k].toNat : Int) - 48)) := restN_at s k hks
        generalize restN s.data.toList k = v at *
        go_wp2
        go_round
        case rel => exact ⟨k + 1, by omega, by go_num, by rw [HS.out]⟩
        case measure => simp [intOf]; omega
      · have HS : Hid (restN s.data.toList (k + 1) = restN s.data.toList k * 10) := restN_no s k hks
        generalize restN s.data.toList k = v at *
        go_wp2
        go_round
        case rel => exact ⟨k + 1, by omega, by go_num, by rw [HS.out]⟩
        case measure => simp [intOf]; omega
    · have ek : k = 4 := by omega
      subst ek
      go_wp2
      go_ret
      exact ⟨rfl, rfl⟩

/-- Where the point stands (below 0: nowhere). -/
def dotAt (s : ByteArray) : Int := Lib.indexByte s.data.toList 46

theorem dot_index (s : ByteArray) (w : World) : Calls Tryz.prog 293 #[.string s, .string ⟨#[46]⟩] w fun e w' => e = .returned (.int .i64 (dotAt s)) ∧ w' = w :=
  Tryz.stringslite_Index_one s 46 w
theorem dot_lt (s : ByteArray) (i : Nat) (h : dotAt s = i) : i < s.size := by
  have := (Lib.indexByte_some h).1
  rw [List.getElem?_eq_some_iff] at this
  obtain ⟨h1, _⟩ := this
  rw [Lib.size_eq]; exact h1
set_option maxRecDepth 100000 in
set_option maxHeartbeats 400000 in
theorem cutDot_no (s : ByteArray) (w : World) (h : dotAt s < 0) :
    Calls Tryz.prog 281 #[.string s, .string ⟨#[46]⟩] w fun e w' => e = .returned (.tuple #[.string s, .string ⟨#[]⟩, .bool false]) ∧ w' = w := by
  have inner : ∀ wx, Calls Tryz.prog 287 #[.string s, .string ⟨#[46]⟩] wx fun e w' => e = .returned (.tuple #[.string s, .string ⟨#[]⟩, .bool false]) ∧ w' = wx := fun wx => by
    go_enter Tryz.func287, Tryz.ntmps287
    go_wp2_with (go_at_call 293; refine (dot_index _ _).mono ?_; rintro e w' ⟨rfl, rfl⟩)
    go_ret3
    exact ⟨rfl, rfl⟩
  go_enter Tryz.func281, Tryz.ntmps281
  go_wp2_with (go_at_call 287; refine (inner _).mono ?_; rintro e w' ⟨rfl, rfl⟩)
  go_ret3
  exact ⟨rfl, rfl⟩
set_option maxRecDepth 100000 in
set_option maxHeartbeats 400000 in
theorem cutDot_yes (s : ByteArray) (w : World) (i : Nat) (h : dotAt s = i) (hs : s.size ≤ maxLen) :
    Calls Tryz.prog 281 #[.string s, .string ⟨#[46]⟩] w fun e w' => e = .returned (.tuple #[.string (s.extract 0 i), .string (s.extract (i + 1) s.size), .bool true]) ∧ ∃ k, w' = w.drewN k := by
  have hi := dot_lt s i h
  unfold maxLen at hs
  have inner : ∀ wx, Calls Tryz.prog 287 #[.string s, .string ⟨#[46]⟩] wx fun e w' => e = .returned (.tuple #[.string (s.extract 0 i), .string (s.extract (i + 1) s.size), .bool true]) ∧ ∃ k, w' = wx.drewN k := fun wx => by
    go_enter Tryz.func287, Tryz.ntmps287
    go_wp2_with (go_at_call 293; refine (dot_index _ _).mono ?_; rintro e w' ⟨rfl, rfl⟩)
    go_quiet (fail)
    go_wp2
    go_ret3
    exact ⟨rfl, _, rfl⟩
  go_enter Tryz.func281, Tryz.ntmps281
  go_wp2_with (go_at_call 287; refine (inner _).mono ?_; rintro e w' ⟨rfl, k, rfl⟩)
  go_ret3
  exact ⟨rfl, _, rfl⟩
end Go.Proofs.YtchkpggdndnpjaaGreatDoor

namespace Go.Proofs.YtchkpggdndnpjaaGreatDoor
set_option linter.unusedVariables false
open Go.RowKit

def prcN (wh r : List UInt8) : Int := if puE wh 100000 = 0 ∧ puN wh 100000 * 10000 + restN r 4 ≤ 1000000000 then puN wh 100000 * 10000 + restN r 4 else 0
def prcE (wh r : List UInt8) : Int := if puE wh 100000 = 0 then (if puN wh 100000 * 10000 + restN r 4 ≤ 1000000000 then 0 else 11) else puE wh 100000
def wholeL (s : ByteArray) : List UInt8 := s.data.toList.take (dotAt s).toNat
def restL (s : ByteArray) : List UInt8 := s.data.toList.drop ((dotAt s).toNat + 1)
/-- What ParsePrice tells. -/
def priceN (s : ByteArray) : Int := if dotAt s < 0 then prcN s.data.toList [] else if restB (restL s) = true then prcN (wholeL s) (restL s) else 0
def priceE (s : ByteArray) : Int := if dotAt s < 0 then prcE s.data.toList [] else if restB (restL s) = true then prcE (wholeL s) (restL s) else 10
theorem price_no {s : ByteArray} (h : dotAt s < 0) : priceN s = prcN s.data.toList [] ∧ priceE s = prcE s.data.toList [] := ⟨if_pos h, if_pos h⟩
theorem price_bad {s : ByteArray} (h : ¬ dotAt s < 0) (g : ¬ restB (restL s) = true) : priceN s = 0 ∧ priceE s = 10 := by
  unfold priceN priceE; rw [if_neg h, if_neg h, if_neg g, if_neg g]; exact ⟨rfl, rfl⟩
theorem price_dot {s : ByteArray} (h : ¬ dotAt s < 0) (g : restB (restL s) = true) : priceN s = prcN (wholeL s) (restL s) ∧ priceE s = prcE (wholeL s) (restL s) := by
  unfold priceN priceE; rw [if_neg h, if_neg h, if_pos g, if_pos g]; exact ⟨rfl, rfl⟩
theorem prc_err {wh r : List UInt8} (h : ¬ puE wh 100000 = 0) : prcN wh r = 0 ∧ prcE wh r = puE wh 100000 := by
  unfold prcN prcE; rw [if_neg (fun g => h g.1), if_neg h]; exact ⟨rfl, rfl⟩
theorem prc_ok {wh r : List UInt8} (h : puE wh 100000 = 0) (g : puN wh 100000 * 10000 + restN r 4 ≤ 1000000000) : prcN wh r = puN wh 100000 * 10000 + restN r 4 ∧ prcE wh r = 0 := by
  unfold prcN prcE; rw [if_pos ⟨h, g⟩, if_pos h, if_pos g]; exact ⟨rfl, rfl⟩
theorem prc_gt {wh r : List UInt8} (h : puE wh 100000 = 0) (g : ¬ puN wh 100000 * 10000 + restN r 4 ≤ 1000000000) : prcN wh r = 0 ∧ prcE wh r = 11 := by
  unfold prcN prcE; rw [if_neg (fun k => g k.2), if_pos h, if_neg g]; exact ⟨rfl, rfl⟩
theorem pu_le_most (l : List UInt8) (m : Int) (hm : 0 ≤ m) : puN l m ≤ m := by
  unfold puN; split
  · rename_i h; exact h.2
  · exact hm
theorem restN_nil : restN [] 4 = 0 := rfl
theorem restB_digs {l : List UInt8} (h : restB l = true) : digs l = true := by
  unfold restB at h; rw [Bool.and_eq_true] at h; exact h.2

theorem pre_data (s : ByteArray) (i : Nat) : (s.extract 0 i).data.toList = s.data.toList.take i := by
  rw [Lib.extract_data]; simp
theorem post_data (s : ByteArray) (i : Nat) : (s.extract (i + 1) s.size).data.toList = s.data.toList.drop (i + 1) := by
  rw [Lib.extract_data, List.take_of_length_le (by rw [List.length_drop, ← Lib.size_eq]; omega)]
theorem pre_size (s : ByteArray) (i : Nat) : (s.extract 0 i).size ≤ s.size := by
  have h : (s.extract 0 i).data.toList.length ≤ s.data.toList.length := by rw [pre_data]; simp; omega
  rw [← Lib.size_eq, ← Lib.size_eq] at h; exact h
theorem post_size (s : ByteArray) (i : Nat) : (s.extract (i + 1) s.size).size ≤ s.size := by
  have h : (s.extract (i + 1) s.size).data.toList.length ≤ s.data.toList.length := by rw [post_data]; simp
  rw [← Lib.size_eq, ← Lib.size_eq] at h; exact h
theorem ParseUint_pre (s : ByteArray) (i : Nat) (m : Int) (w : World) (hs : s.size ≤ maxLen) (hm : m ≤ 9223372036854775807) (l : List UInt8) (hl : l = s.data.toList.take i) :
    Calls Tryz.prog 111 #[.string (s.extract 0 i), .int .i64 m] w fun e w' => e = .returned (.tuple #[.int .i64 (puN l m), .int .i64 (puE l m)]) ∧ w' = w := by
  have h := ParseUint_any (s.extract 0 i) m w (Nat.le_trans (pre_size s i) hs) hm
  rw [pre_data, ← hl] at h; exact h
theorem isPriceRest_post (s : ByteArray) (i : Nat) (w : World) (hs : s.size ≤ maxLen) (l : List UInt8) (hl : l = s.data.toList.drop (i + 1)) :
    Calls Tryz.prog 282 #[.string (s.extract (i + 1) s.size)] w fun e w' => e = .returned (.bool (restB l)) ∧ w' = w := by
  have h := isPriceRest_any (s.extract (i + 1) s.size) w (Nat.le_trans (post_size s i) hs)
  rw [post_data, ← hl] at h; exact h
theorem readPriceRest_post (s : ByteArray) (i : Nat) (w : World) (hs : s.size ≤ maxLen) (l : List UInt8) (hl : l = s.data.toList.drop (i + 1)) (hd : digs l = true) :
    Calls Tryz.prog 283 #[.string (s.extract (i + 1) s.size)] w fun e w' => e = .returned (.int .i64 (restN l 4)) ∧ w' = w := by
  have h := readPriceRest_any (s.extract (i + 1) s.size) w (Nat.le_trans (post_size s i) hs) (by rw [post_data, ← hl]; exact hd)
  rw [post_data, ← hl] at h; exact h
theorem readPriceRest_nil (w : World) : Calls Tryz.prog 283 #[.string ⟨#[]⟩] w fun e w' => e = .returned (.int .i64 0) ∧ w' = w :=
  readPriceRest_any ⟨#[]⟩ w (by decide) rfl

set_option maxRecDepth 100000 in
set_option maxHeartbeats 400000 in
theorem ParsePrice_any (s : ByteArray) (w : World) (hs : s.size ≤ maxLen) :
    Calls Tryz.prog 279 #[.string s] w fun e w' => e = .returned (.tuple #[.int .i64 (priceN s), .int .i64 (priceE s)]) ∧ ∃ k, w' = w.drewN k := by
  by_cases hdot : dotAt s < 0
  · have HP : Hid (priceN s = prcN s.data.toList [] ∧ priceE s = prcE s.data.toList []) := price_no hdot
    have hb := pu_bd s.data.toList 100000 (by decide)
    obtain ⟨hb0, hb1⟩ := hb
    have hb2 := pu_le_most s.data.toList 100000 (by decide)
    by_cases hE : puE s.data.toList 100000 = 0
    · have HQ : Hid (prcN s.data.toList [] = puN s.data.toList 100000 * 10000 + 0 ∧ prcE s.data.toList [] = 0) := prc_ok (r := []) hE (by rw [restN_nil]; omega)
      go_enter Tryz.func279, Tryz.ntmps279
      go_wp2_with (first | (go_at_call 281; refine (cutDot_no _ _ hdot).mono ?_; rintro e w' ⟨rfl, rfl⟩) | (go_at_call 111; refine (ParseUint_any _ _ _ hs (by decide)).mono ?_; rintro e w' ⟨rfl, rfl⟩) | (go_at_call 283; refine (readPriceRest_nil _).mono ?_; rintro e w' ⟨rfl, rfl⟩))
      go_ret2
      exact ⟨ret2 (vint (by rw [HP.out.1, HQ.out.1]; omega)) (vint (by rw [HP.out.2, HQ.out.2])), 0, by rw [World.drewN_zero]⟩
    · have HQ : Hid (prcN s.data.toList [] = 0 ∧ prcE s.data.toList [] = puE s.data.toList 100000) := prc_err hE
      have hE' : (puE s.data.toList 100000 != 0) = true := by simpa using hE
      go_enter Tryz.func279, Tryz.ntmps279
      go_wp2_with (first | (go_at_call 281; refine (cutDot_no _ _ hdot).mono ?_; rintro e w' ⟨rfl, rfl⟩) | (go_at_call 111; refine (ParseUint_any _ _ _ hs (by decide)).mono ?_; rintro e w' ⟨rfl, rfl⟩))
      go_ret2
      exact ⟨ret2 (vint (by rw [HP.out.1, HQ.out.1])) (vint (by rw [HP.out.2, HQ.out.2])), 0, by rw [World.drewN_zero]⟩
  · obtain ⟨i, hi⟩ : ∃ i : Nat, dotAt s = i := ⟨(dotAt s).toNat, by omega⟩
    have hr : restL s = s.data.toList.drop (i + 1) := by unfold restL; rw [hi]; rfl
    have hw : wholeL s = s.data.toList.take i := by unfold wholeL; rw [hi]; rfl
    by_cases hg : restB (restL s) = true
    · have HP : Hid (priceN s = prcN (wholeL s) (restL s) ∧ priceE s = prcE (wholeL s) (restL s)) := price_dot hdot hg
      have hd := restB_digs hg
      have hrb := restN_bd _ hd 4 (by decide)
      obtain ⟨hr0, hr1⟩ := hrb
      have hb := pu_bd (wholeL s) 100000 (by decide)
      obtain ⟨hb0, hb1⟩ := hb
      have hb2 := pu_le_most (wholeL s) 100000 (by decide)
      have HI := hi; have HR : Hid (restL s = s.data.toList.drop (i + 1)) := hr; have HW : Hid (wholeL s = s.data.toList.take i) := hw
      clear hi hr hw hdot
      by_cases hE : puE (wholeL s) 100000 = 0
      · by_cases hm : puN (wholeL s) 100000 * 10000 + restN (restL s) 4 ≤ 1000000000
        · have HQ : Hid (prcN (wholeL s) (restL s) = puN (wholeL s) 100000 * 10000 + restN (restL s) 4 ∧ prcE (wholeL s) (restL s) = 0) := prc_ok hE hm
          go_enter Tryz.func279, Tryz.ntmps279
          go_wp2_with (first | (go_at_call 281; refine (cutDot_yes _ _ i HI hs).mono ?_; rintro e w' ⟨rfl, k, rfl⟩) | (go_at_call 282; refine (isPriceRest_post _ _ _ hs _ HR.out).mono ?_; rintro e w' ⟨rfl, rfl⟩) | (go_at_call 111; refine (ParseUint_pre _ _ _ _ hs (by decide) _ HW.out).mono ?_; rintro e w' ⟨rfl, rfl⟩) | (go_at_call 283; refine (readPriceRest_post _ _ _ hs _ HR.out hd).mono ?_; rintro e w' ⟨rfl, rfl⟩))
          go_ret2
          exact ⟨ret2 (vint (by rw [HP.out.1, HQ.out.1])) (vint (by rw [HP.out.2, HQ.out.2])), _, rfl⟩
        · have HQ : Hid (prcN (wholeL s) (restL s) = 0 ∧ prcE (wholeL s) (restL s) = 11) := prc_gt hE hm
          go_enter Tryz.func279, Tryz.ntmps279
          go_wp2_with (first | (go_at_call 281; refine (cutDot_yes _ _ i HI hs).mono ?_; rintro e w' ⟨rfl, k, rfl⟩) | (go_at_call 282; refine (isPriceRest_post _ _ _ hs _ HR.out).mono ?_; rintro e w' ⟨rfl, rfl⟩) | (go_at_call 111; refine (ParseUint_pre _ _ _ _ hs (by decide) _ HW.out).mono ?_; rintro e w' ⟨rfl, rfl⟩) | (go_at_call 283; refine (readPriceRest_post _ _ _ hs _ HR.out hd).mono ?_; rintro e w' ⟨rfl, rfl⟩))
          go_ret2
          exact ⟨ret2 (vint (by rw [HP.out.1, HQ.out.1])) (vint (by rw [HP.out.2, HQ.out.2])), _, rfl⟩
      · have HQ : Hid (prcN (wholeL s) (restL s) = 0 ∧ prcE (wholeL s) (restL s) = puE (wholeL s) 100000) := prc_err hE
        have hE' : (puE (wholeL s) 100000 != 0) = true := by simpa using hE
        go_enter Tryz.func279, Tryz.ntmps279
        go_wp2_with (first | (go_at_call 281; refine (cutDot_yes _ _ i HI hs).mono ?_; rintro e w' ⟨rfl, k, rfl⟩) | (go_at_call 282; refine (isPriceRest_post _ _ _ hs _ HR.out).mono ?_; rintro e w' ⟨rfl, rfl⟩) | (go_at_call 111; refine (ParseUint_pre _ _ _ _ hs (by decide) _ HW.out).mono ?_; rintro e w' ⟨rfl, rfl⟩))
        go_ret2
        exact ⟨ret2 (vint (by rw [HP.out.1, HQ.out.1])) (vint (by rw [HP.out.2, HQ.out.2])), _, rfl⟩
    · have HP : Hid (priceN s = 0 ∧ priceE s = 10) := price_bad hdot hg
      have hg' : restB (restL s) = false := by simpa using hg
      have HI := hi; have HR : Hid (restL s = s.data.toList.drop (i + 1)) := hr
      clear hi hr hw hdot hg
      go_enter Tryz.func279, Tryz.ntmps279
      go_wp2_with (first | (go_at_call 281; refine (cutDot_yes _ _ i HI hs).mono ?_; rintro e w' ⟨rfl, k, rfl⟩) | (go_at_call 282; refine (isPriceRest_post _ _ _ hs _ HR.out).mono ?_; rintro e w' ⟨rfl, rfl⟩))
      go_ret2
      exact ⟨ret2 (vint HP.out.1.symm) (vint HP.out.2.symm), _, rfl⟩
end Go.Proofs.YtchkpggdndnpjaaGreatDoor

namespace Go.Proofs.YtchkpggdndnpjaaGreatDoor
set_option linter.unusedVariables false
open Go.RowKit

def ynS (b : Bool) : ByteArray := cond b ⟨#[89]⟩ ⟨#[78]⟩
set_option maxRecDepth 100000 in
theorem flag_write (a : Addr) (b : Bool) (w : World) (hc : w.cell? a = some (.bool b)) :
    Calls Tryz.prog 256 #[.agg #[.pointer (some a)]] w fun e w' => e = .returned (.string (ynS b)) ∧ Below w.heap.size w w' := by
  have HB : Hid (Below w.heap.size w (w.alloc (.cells #[.pointer (some a)] 169))) := (Below.refl _ w).alloc (Nat.le_refl _) _
  have hcl := cell_alloc hc (.cells #[.pointer (some a)] 169)
  clear hc
  cases b with
  | true =>
    show Calls _ _ _ _ fun e w' => e = .returned (.string ⟨#[89]⟩) ∧ Below w.heap.size w w'
    go_enter Tryz.func256, Tryz.ntmps256
    go_wp2
    go_ret
    exact ⟨rfl, HB.out⟩
  | false =>
    show Calls _ _ _ _ fun e w' => e = .returned (.string ⟨#[78]⟩) ∧ Below w.heap.size w w'
    go_enter Tryz.func256, Tryz.ntmps256
    go_wp2
    go_ret
    exact ⟨rfl, HB.out⟩
def prB (s : ByteArray) : Bool := decide (priceE s = 0) && !decide (priceN s = 0)
set_option maxRecDepth 100000 in
theorem price_read (a : Addr) (z : Int) (s : ByteArray) (w : World) (hc : w.cell? a = some (.int .i64 z)) (hf : w.frozen? a = false) (hs : s.size ≤ maxLen) :
    Calls Tryz.prog 276 #[.agg #[.pointer (some a)], .string s] w fun e w' => e = .returned (.bool (prB s)) ∧ Wr (prB s) a (.int .i64 (priceN s)) w w' := by
  have h1 := fun w' => ParsePrice_any s w' hs
  have hcl := cell_alloc hc (.cells #[.pointer (some a)] 178)
  have hfl := frozen_alloc hc hf (.cells #[.pointer (some a)] 178)
  have HB : Hid (Below w.heap.size w (w.alloc (.cells #[.pointer (some a)] 178))) := (Below.refl _ w).alloc (Nat.le_refl _) _
  obtain ⟨R, hR⟩ : ∃ R, R = prB s := ⟨_, rfl⟩
  rw [← hR]
  unfold prB at hR
  generalize priceN s = N at *
  generalize priceE s = E at *
  clear hc hf hs
  by_cases hE : E = 0
  · subst hE
    by_cases hx : N = 0
    · subst hx
      have HR : Hid (R = false) := by show _ = _; rw [hR]; simp
      clear hR
      go_enter Tryz.func276, Tryz.ntmps276
      go_wp2_with (go_at_call 279; refine (h1 _).mono ?_; rintro e w2 ⟨rfl, q, rfl⟩)
      go_ret
      exact ⟨ret_bool HR.out.symm, _, below_drewN HB.out _, by rw [HR.out]; rfl⟩
    · have hd : (N == 0) = false := by simpa using hx
      have HR : Hid (R = true) := by show _ = _; rw [hR]; simp [hx]
      clear hR hx
      go_enter Tryz.func276, Tryz.ntmps276
      go_wp2_with (go_at_call 279; refine (h1 _).mono ?_; rintro e w2 ⟨rfl, q, rfl⟩)
      go_ret
      exact ⟨ret_bool HR.out.symm, _, below_drewN HB.out _, by rw [HR.out]; rfl⟩
  · have hd : (E != 0) = true := by simpa using hE
    have HR : Hid (R = false) := by show _ = _; rw [hR]; simp [hE]
    clear hE hR
    go_enter Tryz.func276, Tryz.ntmps276
    go_wp2_with (go_at_call 279; refine (h1 _).mono ?_; rintro e w2 ⟨rfl, q, rfl⟩)
    go_ret
    exact ⟨ret_bool HR.out.symm, _, below_drewN HB.out _, by rw [HR.out]; rfl⟩
end Go.Proofs.YtchkpggdndnpjaaGreatDoor
