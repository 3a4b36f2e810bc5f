import Derived.Test.YtchkpggdndnpjabGreatDoorG20
import Derived.Test.YtchkpggdndnpjabGreatDoorG21
import Derived.Lib.SlicesS
import Derived.Shelf.LaysM
import Derived.Shelf.Slices.Turned
import Derived.Test.YtchkpggdndnpjabGreatDoorG09

namespace Go.Proofs.YtchkpggdndnpjabGreatDoor
set_option linter.unusedVariables false
open Go.RowKit

def dtB (s : ByteArray) : Bool := decide (puE s.data.toList 99991231 = 0) && decide (dtE (puN s.data.toList 99991231) = 0)
set_option maxRecDepth 100000 in
theorem date_read (a : Addr) (z : Int) (s : ByteArray) (w : World) (hc : w.cell? a = some (.int .i64 z)) (hf : w.frozen? a = false) (hs : s.size ≤ maxLen) (hM : Mon w) :
    Calls Tryz.prog 372 #[.agg #[.pointer (some a)], .string s] w fun e w' => e = .returned (.bool (dtB s)) ∧ Wr (dtB s) a (.int .i64 (puN s.data.toList 99991231)) w w' := by
  have HB : Hid (Below w.heap.size w (w.alloc (.cells #[.pointer (some a)] 166))) := (Below.refl _ w).alloc (Nat.le_refl _) _
  have h1 := fun w' => ParseUint_any s 99991231 w' hs (by decide)
  have hN0 := pu_bd s.data.toList 99991231 (by decide)
  have h2 := Start_any (puN s.data.toList 99991231) _ (hM.below HB.out hM.lt) (by omega) hN0.2
  have hcl := cell_alloc hc (.cells #[.pointer (some a)] 166)
  have hfl := frozen_alloc hc hf (.cells #[.pointer (some a)] 166)
  obtain ⟨R, hR⟩ : ∃ R, R = dtB s := ⟨_, rfl⟩
  rw [← hR]
  unfold dtB at hR
  generalize puN s.data.toList 99991231 = N at *
  generalize puE s.data.toList 99991231 = E at *
  generalize dtE N = D at *
  clear hc hf hM hs
  by_cases hE : E = 0
  · subst hE
    by_cases hx : D = 0
    · subst hx
      have HR : Hid (R = true) := by show _ = _; rw [hR]; simp
      clear hR
      go_enter Tryz.func372, Tryz.ntmps372
      go_wp2_with (first | (go_at_call 247; refine (h1 _).mono ?_; rintro e w2 ⟨rfl, rfl⟩) | (go_at_call 227; refine h2.mono ?_; rintro e w3 ⟨rfl, rfl⟩))
      go_ret
      exact ⟨ret_bool HR.out.symm, _, HB.out, by rw [HR.out]; rfl⟩
    · have hd : (D != 0) = true := by simpa using hx
      have HR : Hid (R = false) := by show _ = _; rw [hR]; simp [hx]
      clear hR hx
      go_enter Tryz.func372, Tryz.ntmps372
      go_wp2_with (first | (go_at_call 247; refine (h1 _).mono ?_; rintro e w2 ⟨rfl, rfl⟩) | (go_at_call 227; refine h2.mono ?_; rintro e w3 ⟨rfl, rfl⟩))
      go_ret
      exact ⟨ret_bool HR.out.symm, _, HB.out, by rw [HR.out]; rfl⟩
  · have hd : (E != 0) = true := by simpa using hE
    have HR : Hid (R = false) := by show _ = _; rw [hR]; simp [hE]
    clear hE hR
    go_enter Tryz.func372, Tryz.ntmps372
    go_wp2_with (go_at_call 247; refine (h1 _).mono ?_; rintro e w2 ⟨rfl, rfl⟩)
    go_ret
    exact ⟨ret_bool HR.out.symm, _, HB.out, by rw [HR.out]; rfl⟩
set_option maxRecDepth 100000 in
theorem stamp_write (a : Addr) (x : Int) (t : Nat) (w : World) (hc : w.cell? a = some (.int .i64 (t : Int))) (ht : t ≤ 253402300799999) (hM : Mon w) :
    Calls Tryz.prog 319 #[.agg #[.pointer (some a), .int .i64 x]] w fun e w' => e = .returned (.string (strOfNums (stampI t))) ∧ Below w.heap.size w w' := by
  have HB : Hid (Below w.heap.size w (w.alloc (.cells #[.pointer (some a), .int .i64 x] 156))) := (Below.refl _ w).alloc (Nat.le_refl _) _
  have hcl := cell_alloc hc (.cells #[.pointer (some a), .int .i64 x] 156)
  have hl := Stamp_yes t _ (hM.below HB.out hM.lt) ht
  clear hc hM
  go_enter Tryz.func319, Tryz.ntmps319
  go_wp2_with (go_at_call 321; fail)
  refine hl.mono ?_
  rintro e w2 ⟨rfl, hb2⟩
  have HB2 : Hid (Below w.heap.size w w2) := HB.out.trans (hb2.mono HB.out.size)
  clear hb2 hl
  go_wp2
  go_ret
  exact ⟨rfl, HB2.out⟩
end Go.Proofs.YtchkpggdndnpjabGreatDoor

namespace Go.Proofs.YtchkpggdndnpjabGreatDoor
set_option linter.unusedVariables false
open Go.RowKit

theorem ne_beq {s t : ByteArray} (h : s ≠ t) : (s.toList == t.data.toList) = false := by rw [← ByteArray.toList_eq]; exact (Lib.bytes_beq_false_iff _ _).2 h
theorem Wr.no {b : Bool} {a : Addr} {v : Value} {w w' : World} (h : b = false) (hb : Below w.heap.size w w') : Wr b a v w w' := ⟨w', hb, by rw [h]; rfl⟩
theorem Wr.yes {b : Bool} {a : Addr} {v : Value} {w w1 w' : World} (h : b = true) (hb : Below w.heap.size w w1) (e : w' = w1.setCell a v) : Wr b a v w w' := ⟨w1, hb, by rw [h]; exact e⟩
set_option maxRecDepth 100000 in
theorem enc_there (w : World) :
    Calls Tryz.prog 331 #[.agg #[]] w fun e w' => e = .returned (.bool true) ∧ Below w.heap.size w w' := by
  have HB : Hid (Below w.heap.size w (w.alloc (.cells #[] 158))) := (Below.refl _ w).alloc (Nat.le_refl _) _
  go_enter Tryz.func331, Tryz.ntmps331
  go_wp2
  go_ret
  exact ⟨rfl, HB.out⟩
set_option maxRecDepth 100000 in
theorem enc_write (w : World) :
    Calls Tryz.prog 332 #[.agg #[]] w fun e w' => e = .returned (.string ⟨#[48]⟩) ∧ Below w.heap.size w w' := by
  have HB : Hid (Below w.heap.size w (w.alloc (.cells #[] 158))) := (Below.refl _ w).alloc (Nat.le_refl _) _
  go_enter Tryz.func332, Tryz.ntmps332
  go_wp2
  go_ret
  exact ⟨rfl, HB.out⟩
def eqB (s t : ByteArray) : Bool := s.toList == t.data.toList
theorem eqB_self (s : ByteArray) : eqB s s = true := by simp [eqB, ByteArray.toList_eq]
theorem eqB_ne {s t : ByteArray} (h : s ≠ t) : eqB s t = false := ne_beq h
theorem eqB_iff {s t : ByteArray} : eqB s t = true ↔ s = t := by unfold eqB; rw [← ByteArray.toList_eq]; exact Lib.bytes_beq_iff _ _
set_option maxRecDepth 100000 in
theorem enc_read (s : ByteArray) (w : World) :
    Calls Tryz.prog 330 #[.agg #[], .string s] w fun e w' => e = .returned (.bool (eqB s ⟨#[48]⟩)) ∧ Below w.heap.size w w' := by
  have HB : Hid (Below w.heap.size w (w.alloc (.cells #[] 158))) := (Below.refl _ w).alloc (Nat.le_refl _) _
  go_enter Tryz.func330, Tryz.ntmps330
  go_wp2
  go_ret
  exact ⟨rfl, HB.out⟩
set_option maxRecDepth 100000 in
theorem scope_there (a : Addr) (w : World) :
    Calls Tryz.prog 379 #[.agg #[.pointer (some a)]] w fun e w' => e = .returned (.bool true) ∧ Below w.heap.size w w' := by
  have HB : Hid (Below w.heap.size w (w.alloc (.cells #[.pointer (some a)] 169))) := (Below.refl _ w).alloc (Nat.le_refl _) _
  go_enter Tryz.func379, Tryz.ntmps379
  go_wp2
  go_ret
  exact ⟨rfl, HB.out⟩
def scS (s : ByteArray) : ByteArray := cond (s.size == 0) ⟨#[55]⟩ ⟨#[49]⟩
set_option maxRecDepth 100000 in
theorem scopeOf_any (s : ByteArray) (w : World) :
    Calls Tryz.prog 218 #[.string s] w fun e w' => e = .returned (.string (scS s)) ∧ w' = w := by
  by_cases hs : s.size = 0
  · rw [show scS s = ⟨#[55]⟩ by rw [scS, hs]; rfl]
    have hE : s.toList.isEmpty = true := by rw [isEmpty_size, hs]; rfl
    clear hs
    go_enter Tryz.func218, Tryz.ntmps218
    go_wp2
    go_ret
    exact ⟨rfl, rfl⟩
  · rw [show scS s = ⟨#[49]⟩ by rw [scS, show (s.size == 0) = false by simpa using hs]; rfl]
    have hE : s.toList.isEmpty = false := by rw [isEmpty_size]; simp [hs]
    clear hs
    go_enter Tryz.func218, Tryz.ntmps218
    go_wp2
    go_ret
    exact ⟨rfl, rfl⟩
set_option maxRecDepth 100000 in
theorem scope_write (a : Addr) (s : ByteArray) (w : World) (hc : w.cell? a = some (.string s)) :
    Calls Tryz.prog 380 #[.agg #[.pointer (some a)]] w fun e w' => e = .returned (.string (scS s)) ∧ Below w.heap.size w w' := by
  have HB : Hid (Below w.heap.size w (w.alloc (.cells #[.pointer (some a)] 169))) := (Below.refl _ w).alloc (Nat.le_refl _) _
  have hcl := cell_alloc hc (.cells #[.pointer (some a)] 169)
  have h1 := scopeOf_any s
  generalize scS s = R at *
  clear hc
  go_enter Tryz.func380, Tryz.ntmps380
  go_wp2_with (go_at_call 218; refine (h1 _).mono ?_; rintro e w2 ⟨rfl, rfl⟩)
  go_ret
  exact ⟨rfl, HB.out⟩
set_option maxRecDepth 100000 in
theorem scope_read (a : Addr) (s : ByteArray) (w : World) :
    Calls Tryz.prog 378 #[.agg #[.pointer (some a)], .string s] w fun e w' => e = .returned (.bool (eqB s ⟨#[49]⟩ || eqB s ⟨#[55]⟩)) ∧ Below w.heap.size w w' := by
  have HB : Hid (Below w.heap.size w (w.alloc (.cells #[.pointer (some a)] 169))) := (Below.refl _ w).alloc (Nat.le_refl _) _
  by_cases h1 : s = ⟨#[49]⟩
  · subst h1
    rw [eqB_self, Bool.true_or]
    go_enter Tryz.func378, Tryz.ntmps378
    go_wp2
    go_ret
    exact ⟨rfl, HB.out⟩
  · have e1 := ne_beq h1
    rw [eqB_ne h1, Bool.false_or]
    clear h1
    go_enter Tryz.func378, Tryz.ntmps378
    go_wp2
    go_ret
    exact ⟨rfl, HB.out⟩
end Go.Proofs.YtchkpggdndnpjabGreatDoor

namespace Go.Proofs
open Go.Shelf
def Tryz.lays109_ren : Go.Shelf.Ren := ⟨fun | 109 => 250 | n => n, fun | 31 => 142 | 9 => 9 | 3 => 3 | 0 => 0 | 4 => 4 | n => n, fun | n => n⟩
theorem Tryz.lays109 : Go.Proofs.Lays.n109 Tryz.prog Tryz.lays109_ren := {
  mixed := by kernel_rfl
  f109 := Tryz.func250.trans (congrArg some (by kernel_rfl))
  t0 := Tryz.underlying0
  a0 := Tryz.isAgg0
  z0 := Tryz.sizeOf0
  v0 := Tryz.zeroValue0
  t3 := Tryz.underlying3
  a3 := Tryz.isAgg3
  z3 := Tryz.sizeOf3
  v3 := Tryz.zeroValue3
  t4 := Tryz.underlying4
  a4 := Tryz.isAgg4
  z4 := Tryz.sizeOf4
  v4 := Tryz.zeroValue4
  t9 := Tryz.underlying9
  a9 := Tryz.isAgg9
  z9 := Tryz.sizeOf9
  v9 := Tryz.zeroValue9
  t31 := Tryz.underlying142
  a31 := Tryz.isAgg142
  z31 := Tryz.sizeOf142
  v31 := Tryz.zeroValue142 }
open Go.Lib in
theorem Tryz.slices_Index_string (b off n c : Nat) (zs : List ByteArray) (x : ByteArray) (w : World) (hz : n ≤ zs.length) (hbig : n ≤ 9223372036854775807) (hc : ∀ j, j < zs.length → w.cell? ⟨b, off + j, none⟩ = some (.string (zs.getD j ByteArray.empty))) :
    Calls Tryz.prog 250 #[.slice (some ⟨b, off, none⟩) n c, .string x] w fun e w' => e = .returned (.int .i64 (Lib.idxOfS (zs.take n) x)) ∧ w' = w := Any.slices_Index_string Tryz.lays109 b off n c zs x w hz hbig hc
end Go.Proofs

namespace Go.Proofs.YtchkpggdndnpjabGreatDoor
set_option linter.unusedVariables false
open Go.RowKit

set_option maxRecDepth 100000 in
theorem text_there (a : Addr) (s : ByteArray) (v : Value) (hv : v.cells = #[v]) (w : World) (hc : w.cell? a = some (.string s)) :
    Calls Tryz.prog 309 #[.agg #[.pointer (some a), v]] w fun e w' => e = .returned (.bool (!(s.size == 0))) ∧ Below w.heap.size w w' := by
  have HB : Hid (Below w.heap.size w (w.alloc (.cells #[.pointer (some a), v] 148))) := (Below.refl _ w).alloc (Nat.le_refl _) _
  have hcl := cell_alloc hc (.cells #[.pointer (some a), v] 148)
  clear hc
  obtain ⟨R, hR⟩ : ∃ R, R = (!(s.size == 0)) := ⟨_, rfl⟩
  rw [← hR]
  have hE : s.toList.isEmpty = !R := by rw [hR, isEmpty_size, Bool.not_not]
  clear hR
  cases R
  all_goals
    go_enter Tryz.func309, Tryz.ntmps309
    go_wp2
    go_ret
    exact ⟨rfl, HB.out⟩
set_option maxRecDepth 100000 in
theorem text_read (a : Addr) (F : Nat) (R : Bool) (z s : ByteArray) (w : World) (hc : w.cell? a = some (.string z)) (hf : w.frozen? a = false)
    (hcf : ∀ x w', Sem.run Tryz.prog (callFunc F #[x]) w' = .ok (.enter F #[x]) w')
    (hF : ∀ w', Calls Tryz.prog F #[.string s] w' fun e w2 => e = .returned (.bool R) ∧ w2 = w') :
    Calls Tryz.prog 308 #[.agg #[.pointer (some a), .func (.func F) #[] #[]], .string s] w fun e w' => e = .returned (.bool R) ∧ Wr R a (.string s) w w' := by
  have HB : Hid (Below w.heap.size w (w.alloc (.cells #[.pointer (some a), .func (.func F) #[] #[]] 148))) := (Below.refl _ w).alloc (Nat.le_refl _) _
  have hcl := cell_alloc hc (.cells #[.pointer (some a), .func (.func F) #[] #[]] 148)
  have hfl := frozen_alloc hc hf (.cells #[.pointer (some a), .func (.func F) #[] #[]] 148)
  have HF : Hid (∀ w', Calls Tryz.prog F #[.string s] w' fun e w2 => e = .returned (.bool R) ∧ w2 = w') := hF
  clear hc hf hF
  go_enter Tryz.func308, Tryz.ntmps308
  go_wp2
  refine (HF.out _).mono ?_
  rintro e w2 ⟨rfl, rfl⟩
  clear HF hcf
  cases R
  · go_wp2
    go_ret
    exact ⟨rfl, _, HB.out, rfl⟩
  · go_wp2
    go_ret
    exact ⟨rfl, _, HB.out, rfl⟩
def ynB (s : ByteArray) : Bool := eqB s ⟨#[89]⟩ || eqB s ⟨#[78]⟩
set_option maxRecDepth 100000 in
theorem flag_read (a : Addr) (b : Bool) (s : ByteArray) (w : World) (hc : w.cell? a = some (.bool b)) (hf : w.frozen? a = false) :
    Calls Tryz.prog 314 #[.agg #[.pointer (some a)], .string s] w fun e w' => e = .returned (.bool (ynB s)) ∧ Wr (ynB s) a (.bool (eqB s ⟨#[89]⟩)) w w' := by
  have HB : Hid (Below w.heap.size w (w.alloc (.cells #[.pointer (some a)] 153))) := (Below.refl _ w).alloc (Nat.le_refl _) _
  have hcl := cell_alloc hc (.cells #[.pointer (some a)] 153)
  have hfl := frozen_alloc hc hf (.cells #[.pointer (some a)] 153)
  clear hc hf
  by_cases h1 : s = ⟨#[89]⟩
  · subst h1
    rw [show ynB ⟨#[89]⟩ = true by rw [ynB, eqB_self]; rfl, eqB_self]
    go_enter Tryz.func314, Tryz.ntmps314
    go_wp2
    go_ret
    exact ⟨rfl, _, HB.out, rfl⟩
  by_cases h2 : s = ⟨#[78]⟩
  · subst h2
    rw [show ynB ⟨#[78]⟩ = true by rw [ynB, eqB_self, Bool.or_true], eqB_ne h1]
    go_enter Tryz.func314, Tryz.ntmps314
    go_wp2
    go_ret
    exact ⟨rfl, _, HB.out, rfl⟩
  rw [show ynB s = false by rw [ynB, eqB_ne h1, eqB_ne h2]; rfl]
  have e1 := ne_beq h1
  have e2 := ne_beq h2
  clear h1 h2
  go_enter Tryz.func314, Tryz.ntmps314
  go_wp2
  go_ret
  exact ⟨rfl, _, HB.out, rfl⟩
def noneS : ByteArray := ⟨#[78, 79, 78, 69]⟩
def onS (z : Int) : ByteArray := cond (z == 0) noneS ⟨(Lib.itoa z).toArray⟩
set_option maxRecDepth 100000 in
theorem ordn_write (a : Addr) (z : Int) (h0 : -9223372036854775808 ≤ z) (h1 : z ≤ 9223372036854775807) (w : World) (hc : w.cell? a = some (.int .i64 z)) (hp : Pow w) :
    Calls Tryz.prog 377 #[.agg #[.pointer (some a)]] w fun e w' => e = .returned (.string (onS z)) ∧ Below w.heap.size w w' := by
  have HB : Hid (Below w.heap.size w (w.alloc (.cells #[.pointer (some a)] 167))) := (Below.refl _ w).alloc (Nat.le_refl _) _
  have hcl := cell_alloc hc (.cells #[.pointer (some a)] 167)
  have hl := Print_any z h0 h1 _ (hp.below HB.out)
  clear hc hp
  by_cases hz : z = 0
  · subst hz
    clear hl
    show Calls _ _ _ _ fun e w' => e = .returned (.string ⟨#[78, 79, 78, 69]⟩) ∧ Below w.heap.size w w'
    go_enter Tryz.func377, Tryz.ntmps377
    go_wp2
    go_ret
    exact ⟨rfl, HB.out⟩
  · have hz2 : (z == 0) = false := by simpa using hz
    rw [show onS z = ⟨(Lib.itoa z).toArray⟩ by rw [onS, hz2]; rfl]
    clear hz
    go_enter Tryz.func377, Tryz.ntmps377
    go_wp2_with (go_at_call 42; fail)
    refine hl.mono ?_
    rintro e w2 ⟨rfl, hb2⟩
    have HB2 : Hid (Below w.heap.size w w2) := HB.out.trans (hb2.mono HB.out.size)
    clear hb2 hl
    go_wp2
    go_ret
    exact ⟨rfl, HB2.out⟩
def onB (s : ByteArray) : Bool := eqB s noneS || nrB s.data.toList 1 999999999
def onV (s : ByteArray) : Int := cond (eqB s noneS) 0 (puN s.data.toList 999999999)
set_option maxRecDepth 100000 in
theorem ordn_read (a : Addr) (z : Int) (s : ByteArray) (w : World) (hc : w.cell? a = some (.int .i64 z)) (hf : w.frozen? a = false) (hs : s.size ≤ maxLen) :
    Calls Tryz.prog 375 #[.agg #[.pointer (some a)], .string s] w fun e w' => e = .returned (.bool (onB s)) ∧ Wr (onB s) a (.int .i64 (onV s)) w w' := by
  have HB : Hid (Below w.heap.size w (w.alloc (.cells #[.pointer (some a)] 167))) := (Below.refl _ w).alloc (Nat.le_refl _) _
  have hcl := cell_alloc hc (.cells #[.pointer (some a)] 167)
  have hfl := frozen_alloc hc hf (.cells #[.pointer (some a)] 167)
  have hl := numI_read a 1 999999999 z s _ hcl hfl hs (by decide)
  clear hc hf hs
  by_cases h1 : s = noneS
  · subst h1
    clear hl
    rw [show onB noneS = true by rw [onB, eqB_self]; rfl, show onV noneS = 0 by rw [onV, eqB_self]; rfl]
    unfold noneS
    go_enter Tryz.func375, Tryz.ntmps375
    go_wp2
    go_ret
    exact ⟨rfl, _, HB.out, rfl⟩
  · rw [show onB s = nrB s.data.toList 1 999999999 by rw [onB, eqB_ne h1]; rfl, show onV s = puN s.data.toList 999999999 by rw [onV, eqB_ne h1]; rfl]
    have e1 : (s.toList == [78, 79, 78, 69]) = false := ne_beq h1
    clear h1
    generalize nrB s.data.toList 1 999999999 = R at *
    generalize puN s.data.toList 999999999 = N at *
    clear hcl hfl
    go_enter Tryz.func375, Tryz.ntmps375
    go_wp2_with (go_at_call 311; fail)
    refine hl.mono ?_
    rintro e w2 ⟨rfl, hb2⟩
    have HB2 : Hid (Wr R a (.int .i64 N) w w2) := by
      obtain ⟨w1, hb, e⟩ := hb2
      exact ⟨w1, HB.out.trans (hb.mono HB.out.size), e⟩
    clear hb2 hl
    go_wp2
    go_ret
    exact ⟨rfl, HB2.out⟩
set_option maxRecDepth 100000 in
theorem inst_read (a : Addr) (z : Int) (s : ByteArray) (w : World) (hc : w.cell? a = some (.int .i64 z)) (hf : w.frozen? a = false) :
    Calls Tryz.prog 333 #[.agg #[.pointer (some a)], .string s] w fun e w' => e = .returned (.bool (eqB s ⟨#[54]⟩)) ∧ Wr (eqB s ⟨#[54]⟩ && (z == 1)) a (.int .i64 7) w w' := by
  have HB : Hid (Below w.heap.size w (w.alloc (.cells #[.pointer (some a)] 160))) := (Below.refl _ w).alloc (Nat.le_refl _) _
  have hcl := cell_alloc hc (.cells #[.pointer (some a)] 160)
  have hfl := frozen_alloc hc hf (.cells #[.pointer (some a)] 160)
  clear hc hf
  by_cases h1 : s = ⟨#[54]⟩
  · subst h1
    by_cases hz : z = 1
    · subst hz
      rw [eqB_self, show ((1 : Int) == 1) = true by rfl, Bool.true_and]
      go_enter Tryz.func333, Tryz.ntmps333
      go_wp2
      go_ret
      exact ⟨rfl, _, HB.out, rfl⟩
    · have hz2 : (z == 1) = false := by simpa using hz
      rw [hz2, eqB_self, Bool.true_and]
      clear hz
      go_enter Tryz.func333, Tryz.ntmps333
      go_wp2
      go_ret
      exact ⟨rfl, _, HB.out, rfl⟩
  · rw [eqB_ne h1]
    have e1 := ne_beq h1
    clear h1
    show Calls _ _ _ _ fun e w' => e = .returned (.bool false) ∧ Wr false a (.int .i64 7) w w'
    go_enter Tryz.func333, Tryz.ntmps333
    go_wp2
    go_ret
    exact ⟨rfl, _, HB.out, rfl⟩
set_option maxRecDepth 100000 in
theorem code_write (a : Addr) (x z : Int) (b n len : Nat) (s : ByteArray) (w : World) (hz : z - x = (n : Int)) (hx : x = 0 ∨ x = 1) (hn : n < len) (hl : len ≤ 17) (hc : w.cell? a = some (.int .i64 z)) (hs : w.cell? ⟨b, n, none⟩ = some (.string s)) :
    Calls Tryz.prog 307 #[.agg #[.pointer (some a), .int .i64 x, .slice (some ⟨b, 0, none⟩) len len]] w fun e w' => e = .returned (.string s) ∧ Below w.heap.size w w' := by
  have HB : Hid (Below w.heap.size w (w.alloc (.cells #[.pointer (some a), .int .i64 x, .slice (some ⟨b, 0, none⟩) len len] 145))) := (Below.refl _ w).alloc (Nat.le_refl _) _
  have hcl := cell_alloc hc (.cells #[.pointer (some a), .int .i64 x, .slice (some ⟨b, 0, none⟩) len len] 145)
  have hsl := cell_alloc hs (.cells #[.pointer (some a), .int .i64 x, .slice (some ⟨b, 0, none⟩) len len] 145)
  have hw : IntKind.i64.wrap (z - x) = (n : Int) := by rw [IntKind.wrap_i64, hz]; omega
  have hw2 : wrap64 (z - x) = (n : Int) := by unfold wrap64; omega
  have k1 : (0 : Int) ≤ (n : Int) := by omega
  have k2 : (n : Int) < (len : Int) := by omega
  clear hc hs hz hx
  go_enter Tryz.func307, Tryz.ntmps307
  go_wp2
  go_quiet (fail)
  go_wp2
  go_ret
  exact ⟨rfl, below_drewN HB.out _⟩
def idS_ (ws : List ByteArray) (s : ByteArray) : Int := Lib.idxOfS ws s
theorem Index_any (b len : Nat) (ws : List ByteArray) (s : ByteArray) (w : World) (hl : len = ws.length) (h17 : len ≤ 17) (hc : ∀ j t, ws[j]? = some t → w.cell? ⟨b, j, none⟩ = some (.string t)) :
    Calls Tryz.prog 250 #[.slice (some ⟨b, 0, none⟩) len len, .string s] w fun e w' => e = .returned (.int .i64 (idS_ ws s)) ∧ w' = w := by
  have h := Tryz.slices_Index_string b 0 len len ws s w (by omega) (by omega) (fun j hj => by rw [Nat.zero_add]; exact hc j _ (by simp [List.getD, hj]))
  rw [hl, List.take_length] at h
  rw [hl]
  exact h
theorem idxFrom_bd (s : ByteArray) : ∀ (ws : List ByteArray) (i : Nat), Lib.idxFromS ws s i = -1 ∨ ((i : Int) ≤ Lib.idxFromS ws s i ∧ Lib.idxFromS ws s i < (i : Int) + ws.length)
  | [], i => .inl rfl
  | a :: ws, i => by
    unfold Lib.idxFromS
    split
    · right; simp; omega
    · rcases idxFrom_bd s ws (i + 1) with h | ⟨h1, h2⟩
      · exact .inl h
      · right; simp only [List.length_cons]; omega
theorem idS_bd (ws : List ByteArray) (s : ByteArray) (h : ws.length ≤ 17) : -1 ≤ idS_ ws s ∧ idS_ ws s < 17 := by
  unfold idS_ Lib.idxOfS
  rcases idxFrom_bd s ws 0 with h1 | ⟨h1, h2⟩ <;> omega
set_option maxRecDepth 100000 in
theorem code_read (a : Addr) (x z : Int) (b len : Nat) (ws : List ByteArray) (s : ByteArray) (w : World) (hx : x = 0 ∨ x = 1) (hl : len = ws.length) (h17 : len ≤ 17) (hc : w.cell? a = some (.int .i64 z)) (hf : w.frozen? a = false) (hs : ∀ j t, ws[j]? = some t → w.cell? ⟨b, j, none⟩ = some (.string t)) :
    Calls Tryz.prog 305 #[.agg #[.pointer (some a), .int .i64 x, .slice (some ⟨b, 0, none⟩) len len], .string s] w fun e w' => e = .returned (.bool (decide (0 ≤ idS_ ws s))) ∧ Wr (decide (0 ≤ idS_ ws s)) a (.int .i64 (x + idS_ ws s)) w w' := by
  have HB : Hid (Below w.heap.size w (w.alloc (.cells #[.pointer (some a), .int .i64 x, .slice (some ⟨b, 0, none⟩) len len] 145))) := (Below.refl _ w).alloc (Nat.le_refl _) _
  have hcl := cell_alloc hc (.cells #[.pointer (some a), .int .i64 x, .slice (some ⟨b, 0, none⟩) len len] 145)
  have hfl := frozen_alloc hc hf (.cells #[.pointer (some a), .int .i64 x, .slice (some ⟨b, 0, none⟩) len len] 145)
  have hI := Index_any b len ws s _ hl h17 (fun j t hj => cell_alloc (hs j t hj) (.cells #[.pointer (some a), .int .i64 x, .slice (some ⟨b, 0, none⟩) len len] 145))
  have hbd := idS_bd ws s (by omega)
  generalize idS_ ws s = I at *
  clear hc hf hs hl h17
  by_cases h0 : I < 0
  · have hd : decide (I < 0) = true := decide_eq_true h0
    rw [show decide (0 ≤ I) = false from decide_eq_false (by omega)]
    clear hbd hx h0
    go_enter Tryz.func305, Tryz.ntmps305
    go_wp2_with (go_at_call 250; refine hI.mono ?_; rintro e w2 ⟨rfl, rfl⟩)
    go_ret
    exact ⟨rfl, _, HB.out, rfl⟩
  · have hd : decide (I < 0) = false := decide_eq_false h0
    rw [show decide (0 ≤ I) = true from decide_eq_true (by omega)]
    have hw : IntKind.i64.wrap (x + I) = x + I := by rw [IntKind.wrap_i64]; omega
    have hw2 : wrap64 (x + I) = x + I := by unfold wrap64; omega
    clear hbd hx h0
    go_enter Tryz.func305, Tryz.ntmps305
    go_wp2_with (go_at_call 250; refine hI.mono ?_; rintro e w2 ⟨rfl, rfl⟩)
    go_ret
    exact ⟨rfl, _, HB.out, rfl⟩
set_option maxRecDepth 100000 in
theorem fisTestID_any (s : ByteArray) (w : World) :
    Calls Tryz.prog 138 #[.string s] w fun e w' => e = .returned (.bool (tiS s)) ∧ w' = w := by
  by_cases h2 : s.size ≤ 20
  · have h2' : (s.size : Int) ≤ 20 := by omega
    have hc := IsText_any s w
    have e : tiS s = txS s := by simp [tiS, h2]
    rw [e]
    clear e
    generalize txS s = b at *
    go_enter Tryz.func138, Tryz.ntmps138
    go_wp2_with (go_at_call 96; refine hc.mono ?_; rintro e w ⟨rfl, rfl⟩)
    go_ret
    first | exact ⟨rfl, rfl⟩ | exact ⟨ret_bool (by simp; try omega), rfl⟩
  · have h2' : ¬ (s.size : Int) ≤ 20 := by omega
    rw [show tiS s = false by simp [tiS, h2]]
    go_enter Tryz.func138, Tryz.ntmps138
    go_wp2
    go_ret
    first | exact ⟨rfl, rfl⟩ | exact ⟨ret_bool (by simp; try omega), rfl⟩
end Go.Proofs.YtchkpggdndnpjabGreatDoor
