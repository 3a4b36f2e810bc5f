/-
  arbiter: rows of bytes, and its small functions.
-/
import Derived.Test.YtdncemecnbglaaaA0
namespace Go.Proofs.Ytdncemecnbglaaa
set_option linter.unusedVariables false
set_option linter.unusedSimpArgs false
open Go.RowKit Go.Great Go.Maps

theorem run_append_none0 {P : Program} (w : World) (t ty e : TypeId) (i : TypeInfo) (ht : P.underlying t = some (.slice e)) (hi : P.info? e = some i) (base : Option Addr) (n cap : Nat) (h : n ≤ cap) (ax : Option Addr) (cx : Nat) :
    (Builtin.append_ #[t, t] ty #[.slice base n cap, .slice ax 0 cx]).run P w = .ok (.slice base n cap) w := by
  cases base <;> cases ax <;> simp [Builtin.append_, run_underlying ht, sizeOf, typeInfo, hi, Builtin.lenOf, Builtin.firstCells, h, storeCells, loadCells, loadCellsFrom]
/-- Bytes behind bytes of one's own. -/
theorem run_append_by {w : World} {v u : Value} {l m : List Nat} (hr : RowAt w 5 1 v l.length (bvals l)) (hu : By w u m) (hl : l.length + m.length ≤ 140737488351232) (ty : TypeId) :
    ∃ v' w', (Builtin.append_ #[35, 35] ty #[v, u]).run Try.prog w = .ok v' w' ∧ RowAt w' 5 1 v' (l ++ m).length (bvals (l ++ m)) ∧ Fr w w' (fun b => v.ownBlock = some b) ∧ (v'.ownBlock = v.ownBlock ∨ v'.ownBlock = some w.heap.size) := by
  obtain ⟨i0, hi, hz0, hz1, hz2⟩ := info_parts info5
  have hmx : 140737488351232 ≤ maxLen := by decide
  obtain ⟨a, cap, rfl, h1, h2, h3⟩ := hu.ex
  by_cases hm : m = []
  · subst hm
    obtain ⟨ao, co, rfl, hle⟩ := hr.form
    exact ⟨_, _, run_append_none0 w 35 ty 5 i0 Try.underlying35 hi ao _ co hle a cap, by rw [List.append_nil]; exact hr, Fr.refl _ _, .inl rfl⟩
  · rcases h3 with h3 | ⟨b, off, rfl, h3⟩
    · exact absurd h3 hm
    · have hm0 : 0 < m.length := List.length_pos_iff.2 hm
      obtain ⟨v', w', k1, k2, k3, k4⟩ := run_append_row (P := Try.prog) w 35 ty 5 i0 _ 1 1 Try.underlying35 hi hz0 hz1 hz2 rfl v l.length _ hr ⟨b, off, none⟩ m.length cap (bvals m) (by rw [bvals_length, Nat.mul_one]) (fun j x hj => by
        rw [Addr.add_mid]
        unfold bvals at hj
        rw [List.getElem?_map] at hj
        cases hx : m[j]? with
        | none => rw [hx] at hj; cases hj
        | some y =>
          rw [hx] at hj
          have e : .int .u8 (y : Int) = x := by simpa using hj
          subst e
          exact h3 j y hx) (bvals_one m) (.inl hm0) (by omega) (by omega)
      refine ⟨v', w', k1, by rw [List.length_append, bvals_append]; exact k2, k3, ?_⟩
      rcases k4 with k4 | ⟨k4, _⟩
      · exact .inl k4
      · exact .inr k4
/-- Bytes that one made. -/
structure RowB (w w' : World) (v : Value) (l : List Nat) : Prop where
  row : RowAt w' 5 1 v l.length (bvals l)
  bb : BB l
  bel : Below w.heap.size w w'
  low : ∀ g, v.ownBlock = some g → w.heap.size ≤ g
theorem RowB.by' {w w' : World} {v : Value} {l : List Nat} (h : RowB w w' v l) : By w' v l := h.row.by' h.bb
theorem OwnB.rowB {w w' : World} {v : Value} {l : List Nat} (h : OwnB w w' v l) : RowB w w' v l := ⟨h.row, h.bb, h.bel, h.low⟩
theorem RowB.since {w0 w w' : World} {v : Value} {l : List Nat} (h : RowB w w' v l) (hb : Below w0.heap.size w0 w) : RowB w0 w' v l := ⟨h.row, h.bb, below_step hb h.bel, fun g hg => Nat.le_trans hb.size (h.low g hg)⟩
theorem RowB.app {w w1 : World} {v u : Value} {l m : List Nat} (h : RowB w w1 v l) (hu : By w1 u m) (hl : l.length + m.length ≤ 140737488351232) (ty : TypeId) :
    ∃ v' w', (Builtin.append_ #[35, 35] ty #[v, u]).run Try.prog w1 = .ok v' w' ∧ RowB w w' v' (l ++ m) := by
  obtain ⟨v', w', k1, k2, k3, k4⟩ := run_append_by h.row hu hl ty
  refine ⟨v', w', k1, k2, h.bb.app hu.bb, ⟨k3.os.trans h.bel.os, k3.tape.trans h.bel.tape, k3.output.trans h.bel.output, Nat.le_trans h.bel.size k3.size, fun q hq => (k3.block q (Nat.lt_of_lt_of_le hq h.bel.size) (fun e => by have := h.low q e; omega)).trans (h.bel.block q hq)⟩, fun g hg => ?_⟩
  rcases k4 with k4 | k4
  · exact h.low g (k4 ▸ hg)
  · rw [k4] at hg
    injection hg with hg
    subst hg
    exact h.bel.size
set_option maxRecDepth 100000 in
theorem Clone_any {w : World} {v : Value} {l : List Nat} (h : By w v l) (h0 : l ≠ []) (hl : l.length ≤ 140737488351232) : Calls Try.prog 36 #[v] w fun e w' => ∃ v', e = .returned v' ∧ Hid (RowB w w' v' l) := by
  have hb : Below w.heap.size w (w.alloc (.cells #[] 5)) := (Below.refl _ w).alloc (Nat.le_refl _) _
  have hr0 : RowB w (w.alloc (.cells #[] 5)) (.slice (some ⟨w.heap.size, 0, none⟩) 0 0) [] := ⟨⟨rfl, .inr ⟨w.heap.size, 0, 0, #[], rfl, heap_alloc_new w _, Nat.le_refl _, by decide, by simp, rfl⟩⟩, fun x hx => (by cases hx), hb, fun g hg => by
    have e : w.heap.size = g := by injection hg
    omega⟩
  obtain ⟨v', w', hr, hrow⟩ := hr0.app (h.below hb) (by simpa using hl) 35
  rw [List.nil_append] at hrow
  have HF : Hid (RowB w w' v' l) := hrow
  obtain ⟨a, cap, rfl, h1, h2, h3⟩ := h.ex
  rcases h3 with h3 | ⟨b, off, rfl, _⟩
  · exact absurd h3 h0
  have hen := Lib.run_eql_slice_nil (P := Try.prog) w 35 5 (some ⟨b, off, none⟩) l.length cap 0 0 Try.underlying35
  simp only [Option.isNone_some] at hen
  clear hrow hr0 hb h h2
  go_enter Try.func36, Try.ntmps36
  go_upto_region 3 with fail
  rename_i K hK
  refine wp_region_lit ?_
  refine wpList_runTo rfl (some 5) rfl (.slice (some ⟨w.heap.size, 0, none⟩) 0 0) (w.alloc (.cells #[] 5)) (by kernel_rfl) ?_
  simp only [Act.put, List.setIfInBounds_toArray, List.set_cons_zero, List.set_cons_succ]
  refine wpList_runTo rfl (some 6) rfl (.slice (some ⟨b, off, none⟩) l.length cap) (w.alloc (.cells #[] 5)) (by kernel_rfl) ?_
  simp only [Act.put, List.setIfInBounds_toArray, List.set_cons_zero, List.set_cons_succ]
  refine wpList_plain rfl fun K1 hK1 => ?_
  refine valR (d := some 7) rfl (w' := w') v' (exec_append (v1 := .slice (some ⟨w.heap.size, 0, none⟩) 0 0) (v2 := .slice (some ⟨b, off, none⟩) l.length cap) (.tmp 5) (.tmp 6) rfl (by kernel_rfl) (by kernel_rfl) hr) ?_
  refine hK1 _ _ ?_
  clear hK1 hr
  simp only [Act.put, List.setIfInBounds_toArray, List.set_cons_zero, List.set_cons_succ]
  refine wpList_runTo rfl (some 2) rfl (v') w' (by kernel_rfl) ?_
  simp only [Act.put, List.setIfInBounds_toArray, List.set_cons_zero, List.set_cons_succ]
  refine wpList_nil ?_
  refine hK _ _ ?_
  clear hK
  go_wp2
  go_ret
  exact ⟨v', rfl, HF⟩
theorem sliceT_run {op : Oper} {a : Act} {ao : Option Addr} {n cap hi : Nat} (x z : Operand) (ho : op.op = .slice 35 x none (some z) none) (hx : a.eval x = .slice ao n cap) (hz : a.eval z = .int .i64 (hi : Int)) (h2 : hi ≤ cap) (w : World) : (execOp a.eval op).run Try.prog w = .ok (.value (cutV (.slice ao n cap) 0 hi cap)) w := by
  have HS : (Instr.sliceAt 35 (.slice ao n cap) none (some (.int .i64 (hi : Int))) none).run Try.prog w = .ok (cutV (.slice ao n cap) 0 hi cap) w := by
    rw [run_sliceAt_slice _ _ _ _ _ _ undB, run_slice_h _ _ _ _ _ undB .i64 (hi : Int) (by omega) (by omega), size5']
    show Result.ok _ w = _
    unfold sliced cutV
    simp
  unfold execOp
  simp only [ho, hx, hz, Option.map_some, Option.map_none]
  simp only [HS, Sem.run_bind, Result.andThen_ok]
  rfl
theorem leN_run {op : Oper} {a : Act} {p q : Nat} {r : Bool} (x y : Operand) (ho : op.op = .binOp .leq 3 x y 3) (hx : a.eval x = .int .i64 (p : Int)) (hy : a.eval y = .int .i64 (q : Int)) (hr : decide (p ≤ q) = r) (w : World) : (execOp a.eval op).run Try.prog w = .ok (.value (.bool r)) w := by
  have h1 : decide ((p : Int) ≤ (q : Int)) = r := by
    rw [← hr]
    by_cases h : p ≤ q
    · rw [decide_eq_true h, decide_eq_true (by omega)]
    · rw [decide_eq_false h, decide_eq_false (by omega)]
  unfold execOp
  simp only [ho, hx, hy]
  go_simp
theorem ltN_run {op : Oper} {a : Act} {n k : Nat} {r : Bool} (x y : Operand) (ho : op.op = .binOp .lss 3 x y 3) (hx : a.eval x = .int .i64 (n : Int)) (hy : a.eval y = .int .i64 (k : Int)) (hr : decide (n < k) = r) (w : World) : (execOp a.eval op).run Try.prog w = .ok (.value (.bool r)) w := by
  have h1 : decide ((n : Int) < (k : Int)) = r := by
    rw [← hr]
    by_cases h : n < k
    · rw [decide_eq_true h, decide_eq_true (by omega)]
    · rw [decide_eq_false h, decide_eq_false (by omega)]
  unfold execOp
  simp only [ho, hx, hy]
  go_simp
theorem gtN_run {op : Oper} {a : Act} {n k : Nat} {r : Bool} (x y : Operand) (ho : op.op = .binOp .gtr 3 x y 3) (hx : a.eval x = .int .i64 (n : Int)) (hy : a.eval y = .int .i64 (k : Int)) (hr : decide (k < n) = r) (w : World) : (execOp a.eval op).run Try.prog w = .ok (.value (.bool r)) w := by
  have h1 : decide ((k : Int) < (n : Int)) = r := by
    rw [← hr]
    by_cases h : k < n
    · rw [decide_eq_true h, decide_eq_true (by omega)]
    · rw [decide_eq_false h, decide_eq_false (by omega)]
  unfold execOp
  simp only [ho, hx, hy]
  go_simp
theorem addN_run {op : Oper} {a : Act} {p q : Nat} (x y : Operand) (ho : op.op = .binOp .add 3 x y 3) (hx : a.eval x = .int .i64 (p : Int)) (hy : a.eval y = .int .i64 (q : Int)) (h : p + q ≤ 9223372036854775807) (w : World) : (execOp a.eval op).run Try.prog w = .ok (.value (.int .i64 ((p + q : Nat) : Int))) w := by
  have hw : IntKind.i64.wrap ((p : Int) + (q : Int)) = ((p + q : Nat) : Int) := by rw [IntKind.wrap_i64]; omega
  have hw' : wrap64 ((p : Int) + (q : Int)) = ((p + q : Nat) : Int) := by unfold wrap64; omega
  generalize p + q = r at *
  unfold execOp
  simp only [ho, hx, hy]
  go_simp
theorem subN_run {op : Oper} {a : Act} {p q : Nat} (x y : Operand) (ho : op.op = .binOp .sub 3 x y 3) (hx : a.eval x = .int .i64 (p : Int)) (hy : a.eval y = .int .i64 (q : Int)) (h : q ≤ p) (hp : p ≤ 9223372036854775807) (w : World) : (execOp a.eval op).run Try.prog w = .ok (.value (.int .i64 ((p - q : Nat) : Int))) w := by
  have hw : IntKind.i64.wrap ((p : Int) - (q : Int)) = ((p - q : Nat) : Int) := by rw [IntKind.wrap_i64]; omega
  have hw' : wrap64 ((p : Int) - (q : Int)) = ((p - q : Nat) : Int) := by unfold wrap64; omega
  generalize p - q = r at *
  unfold execOp
  simp only [ho, hx, hy]
  go_simp
theorem neS_run {op : Oper} {a : Act} {s t : ByteArray} (x y : Operand) (ho : op.op = .binOp .neq 9 x y 9) (hx : a.eval x = .string s) (hy : a.eval y = .string t) (hr : s = t) (w : World) : (execOp a.eval op).run Try.prog w = .ok (.value (.bool false)) w := by
  subst hr
  have h1 : (s.toList == s.toList) = true := by simp
  have h2 : (s.toList != s.toList) = false := by simp
  unfold execOp
  simp only [ho, hx, hy]
  go_simp
theorem eqS_run {op : Oper} {a : Act} {s : ByteArray} (x y : Operand) (ho : op.op = .binOp .eql 9 x y 9) (hx : a.eval x = .string s) (hy : a.eval y = .string s) (w : World) : (execOp a.eval op).run Try.prog w = .ok (.value (.bool true)) w := by
  unfold execOp
  simp only [ho, hx, hy]
  go_simp
theorem cvu_run {op : Oper} {a : Act} {k : Nat} (x : Operand) (ho : op.op = .convert 3 75 x) (hx : a.eval x = .int .i64 (k : Int)) (hk : k < 9223372036854775808) (w : World) : (execOp a.eval op).run Try.prog w = .ok (.value (.int .u64 (k : Int))) w := by
  have hw : IntKind.u64.wrap (k : Int) = (k : Int) := by rw [IntKind.wrap_u64]; omega
  unfold execOp
  simp only [ho, hx]
  go_simp
theorem cv3_run {op : Oper} {a : Act} {k : Nat} (x : Operand) (ho : op.op = .convert 76 75 x) (hx : a.eval x = .int .u32 (k : Int)) (hk : k < 4294967296) (w : World) : (execOp a.eval op).run Try.prog w = .ok (.value (.int .u64 (k : Int))) w := by
  have hw : IntKind.u64.wrap (k : Int) = (k : Int) := by rw [IntKind.wrap_u64]; omega
  unfold execOp
  simp only [ho, hx]
  go_simp
/-- Bytes from a place on, and up to one. -/
def cutL (v : Value) (lo : Nat) : Value := match v with
  | .slice a n cap => cutV (.slice a n cap) lo n cap
  | x => x
def cutT (v : Value) (hi : Nat) : Value := match v with
  | .slice a n cap => cutV (.slice a n cap) 0 hi cap
  | x => x
theorem By.tl {w : World} {v : Value} {l : List Nat} (h : By w v l) {lo : Nat} (h1 : lo ≤ l.length) : By w (cutL v lo) (l.drop lo) := by
  obtain ⟨a, cap, rfl, hc⟩ := h.form
  have := h.cut (lo := lo) (hi := l.length) (mx := cap) h1 (Nat.le_refl _) hc (Nat.le_refl _)
  rw [List.take_of_length_le (by rw [List.length_drop]; omega)] at this
  exact this
theorem By.hd {w : World} {v : Value} {l : List Nat} (h : By w v l) {hi : Nat} (h1 : hi ≤ l.length) : By w (cutT v hi) (l.take hi) := by
  obtain ⟨a, cap, rfl, hc⟩ := h.form
  have := h.cut (lo := 0) (hi := hi) (mx := cap) (Nat.zero_le _) h1 (by omega) (Nat.le_refl _)
  rw [List.drop_zero, Nat.sub_zero] at this
  exact this
/-- The number of a packet, if it is a right one. -/
def nbN (l : List Nat) : Nat := getN (dN l) 4
def smN (l : List Nat) : Nat := getN (dN (l.drop (l.length - 4))) 4
def crN (l : List Nat) : Nat := crcEnd (crcRow (dN l) l.length)
def rt (l : List Nat) : Option Nat := if 9 ≤ l.length ∧ dN l 4 = 1 ∧ 1 ≤ nbN l ∧ nbN l ≤ 999999999 ∧ smN l = crN (l.take (l.length - 4)) then some (nbN l) else none
def rtV : Option Nat → Value
  | some n => .tuple #[.int .i64 (n : Int), .bool true]
  | none => .tuple #[.int .i64 0, .bool false]
theorem Get_by {w : World} {v : Value} {l : List Nat} (h : By w v l) (h4 : 4 ≤ l.length) (hm : l.length ≤ 9223372036854775807) : Calls Try.prog 28 #[v, .int .i64 4] w fun e w' => e = .returned (.tuple #[.int .u64 (nbN l : Int), .bool true]) ∧ w' = w := by
  obtain ⟨a, cap, rfl, hc⟩ := h.form
  obtain ⟨_, _, hs, _⟩ := h.src
  exact Get_yes a l.length cap (dN l) 4 w hs (by omega) (by omega) h4 hc hm
theorem Crc_by {w : World} {v : Value} {l : List Nat} (h : By w v l) (h0 : l ≠ []) (hm : l.length ≤ 9223372036854775807) : Calls Try.prog 24 #[v] w fun e w' => e = .returned (.int .u32 (crN l : Int)) ∧ w' = w := by
  obtain ⟨a, cap, rfl, hc⟩ := h.form
  obtain ⟨_, _, hs, _⟩ := h.src
  rcases hs with hs | ⟨b, off, rfl, hs⟩
  · exact absurd (List.eq_nil_of_length_eq_zero hs) h0
  · exact Crc_any b off l.length cap (dN l) w hm hs
theorem nbN_lt {l : List Nat} (h : BB l) : nbN l < 4294967296 := by
  have := getN_lt (dN l) 4 (fun j hj => by
    unfold dN
    by_cases hj' : j < l.length
    · simp only [List.getD_eq_getElem?_getD, List.getElem?_eq_getElem hj', Option.getD_some]
      exact h _ (List.getElem_mem hj')
    · simp [List.getD_eq_getElem?_getD, List.getElem?_eq_none (Nat.not_lt.1 hj')])
  unfold nbN
  omega
theorem smN_eq (l : List Nat) : smN l = nbN (l.drop (l.length - 4)) := rfl
theorem crN_lt (l : List Nat) (h : BB l) : crN l < 4294967296 := by
  unfold crN crcEnd
  exact Nat.xor_lt_two_pow (n := 32) (by decide) (crcRow_lt _ _ fun j hj => by
    unfold dN
    simp only [List.getD_eq_getElem?_getD, List.getElem?_eq_getElem hj, Option.getD_some]
    exact h _ (List.getElem_mem hj))
theorem ixB_run {op : Oper} {a : Act} {g o n c i : Nat} (x y : Operand) (ho : op.op = .indexAddr 35 x y) (hx : a.eval x = .slice (some ⟨g, o, none⟩) n c) (hy : a.eval y = .int .i64 (i : Int)) (hi : i < n) (w : World) : (execOp a.eval op).run Try.prog w = .ok (.value (.pointer (some ⟨g, o + i, none⟩))) w := by
  have h1 : (i : Int) < (n : Int) := by omega
  have h2 : ¬ (n : Int) ≤ (i : Int) := by omega
  unfold execOp
  simp only [ho, hx, hy]
  go_simp
theorem ltc_run {op : Oper} {a : Act} {n k : Nat} {r : Bool} {T : TypeId} (hT : T = 3) (x y : Operand) (ho : op.op = .binOp .lss T x y T) (hx : a.eval x = .int .i64 (n : Int)) (hy : a.eval y = .int .i64 (k : Int)) (hr : decide (n < k) = r) (w : World) : (execOp a.eval op).run Try.prog w = .ok (.value (.bool r)) w := by
  subst hT
  exact ltN_run x y ho hx hy hr w
theorem neY_run {op : Oper} {a : Act} {p q : Nat} {r : Bool} (x y : Operand) (ho : op.op = .binOp .neq 5 x y 5) (hx : a.eval x = .int .u8 (p : Int)) (hy : a.eval y = .int .u8 (q : Int)) (hr : (p != q) = r) (w : World) : (execOp a.eval op).run Try.prog w = .ok (.value (.bool r)) w := by
  have h1 : ((p : Int) != (q : Int)) = r := by
    rw [← hr]
    by_cases h : p = q
    · subst h; simp
    · have : (p : Int) ≠ (q : Int) := by omega
      simp only [bne]; rw [beq_false_of_ne this, beq_false_of_ne h]
  unfold execOp
  simp only [ho, hx, hy]
  go_simp
theorem ltU_run {op : Oper} {a : Act} {p q : Nat} {r : Bool} (x y : Operand) (ho : op.op = .binOp .lss 75 x y 75) (hx : a.eval x = .int .u64 (p : Int)) (hy : a.eval y = .int .u64 (q : Int)) (hr : decide (p < q) = r) (w : World) : (execOp a.eval op).run Try.prog w = .ok (.value (.bool r)) w := by
  have h1 : decide ((p : Int) < (q : Int)) = r := by rw [← hr]; simp
  unfold execOp
  simp only [ho, hx, hy]
  go_simp
theorem gtU_run {op : Oper} {a : Act} {p q : Nat} {r : Bool} (x y : Operand) (ho : op.op = .binOp .gtr 75 x y 75) (hx : a.eval x = .int .u64 (p : Int)) (hy : a.eval y = .int .u64 (q : Int)) (hr : decide (q < p) = r) (w : World) : (execOp a.eval op).run Try.prog w = .ok (.value (.bool r)) w := by
  have h1 : decide ((q : Int) < (p : Int)) = r := by rw [← hr]; simp
  unfold execOp
  simp only [ho, hx, hy]
  go_simp
theorem neU_run {op : Oper} {a : Act} {p q : Nat} {r : Bool} (x y : Operand) (ho : op.op = .binOp .neq 75 x y 75) (hx : a.eval x = .int .u64 (p : Int)) (hy : a.eval y = .int .u64 (q : Int)) (hr : (p != q) = r) (w : World) : (execOp a.eval op).run Try.prog w = .ok (.value (.bool r)) w := by
  have h1 : ((p : Int) != (q : Int)) = r := by
    rw [← hr]
    by_cases h : p = q
    · subst h; simp
    · have : (p : Int) ≠ (q : Int) := by omega
      simp only [bne]; rw [beq_false_of_ne this, beq_false_of_ne h]
  unfold execOp
  simp only [ho, hx, hy]
  go_simp
theorem cvi_run {op : Oper} {a : Act} {p : Nat} (x : Operand) (ho : op.op = .convert 75 3 x) (hx : a.eval x = .int .u64 (p : Int)) (hp : p < 9223372036854775808) (w : World) : (execOp a.eval op).run Try.prog w = .ok (.value (.int .i64 (p : Int))) w := by
  have hw : IntKind.i64.wrap (p : Int) = (p : Int) := by rw [IntKind.wrap_i64]; omega
  have hw' : wrap64 (p : Int) = (p : Int) := by unfold wrap64; omega
  unfold execOp
  simp only [ho, hx]
  go_simp
theorem len_run {op : Oper} {a : Act} {v : Value} {ao : Option Addr} {n c : Nat} (hv : v = .slice ao n c) {T : TypeId} (x : Operand) (ho : op.op = .call { callee := .builtin .len, args := #[x], argTypes := #[T] }) (hT : T = 35 ∨ T = 32 ∨ T = 42 ∨ T = 22) (hx : a.eval x = v) (w : World) : (execOp a.eval op).run Try.prog w = .ok (.value (.int .i64 (n : Int))) w := by
  subst hv
  unfold execOp
  simp only [ho, resolve, invoke, builtin, Sem.run_bind, Sem.run_pure, Result.andThen_ok, List.map_toArray, List.map_cons, List.map_nil, hx]
  rcases hT with rfl | rfl | rfl | rfl <;> go_simp
set_option maxRecDepth 100000 in
set_option maxHeartbeats 1000000 in
theorem numberOf_any {w : World} {v : Value} {l : List Nat} (h : By w v l) (hm : l.length ≤ 9223372036854775807) : Calls Try.prog 20 #[v] w fun e w' => e = .returned (rtV (rt l)) ∧ w' = w := by
  obtain ⟨a, cap, hv, hc⟩ := h.form
  obtain ⟨R, hR⟩ : ∃ R, R = rtV (rt l) := ⟨_, rfl⟩
  rw [← hR]
  have HR : Hid (R = rtV (rt l)) := hR
  clear hR
  have HL : Hid (l.length ≤ 9223372036854775807 ∧ l.length ≤ cap) := ⟨hm, hc⟩
  obtain ⟨N, hN⟩ : ∃ N, N = l.length := ⟨_, rfl⟩
  rw [← hN] at hv HL
  have HN : Hid (N = l.length) := hN
  clear hN hm hc
  go_enter Try.func20, Try.ntmps20
  by_cases h9 : N < 9
  · have d9 : decide (N < 9) = true := by simp [h9]
    go_upto_region 1 with fail
    rename_i K hK
    refine wp_region_lit ?_
    refine wpList_runTo rfl (some 9) rfl (v) w (by kernel_rfl) ?_
    simp only [Act.put, List.setIfInBounds_toArray, List.set_cons_zero, List.set_cons_succ]
    refine wpList_runTo rfl (some 10) rfl (.int .i64 (N : Int)) w (by exact len_run hv (.tmp 9) rfl (.inl rfl) (by kernel_rfl) _) ?_
    simp only [Act.put, List.setIfInBounds_toArray, List.set_cons_zero, List.set_cons_succ]
    refine wpList_runTo rfl (some 11) rfl (.bool true) w (by exact ltN_run (n := N) (k := 9) (.tmp 10) (.const (.int .i64 9)) rfl (by kernel_rfl) rfl d9 _) ?_
    simp only [Act.put, List.setIfInBounds_toArray, List.set_cons_zero, List.set_cons_succ]
    refine wpList_runTo rfl (some 12) rfl (.bool true) w (by kernel_rfl) ?_
    simp only [Act.put, List.setIfInBounds_toArray, List.set_cons_zero, List.set_cons_succ]
    refine wpList_skipG (by kernel_rfl) ?_
    simp only [Act.put, List.setIfInBounds_toArray, List.set_cons_zero, List.set_cons_succ]
    refine wpList_skipG (by kernel_rfl) ?_
    simp only [Act.put, List.setIfInBounds_toArray, List.set_cons_zero, List.set_cons_succ]
    refine wpList_skipG (by kernel_rfl) ?_
    simp only [Act.put, List.setIfInBounds_toArray, List.set_cons_zero, List.set_cons_succ]
    refine wpList_skipG (by kernel_rfl) ?_
    simp only [Act.put, List.setIfInBounds_toArray, List.set_cons_zero, List.set_cons_succ]
    refine wpList_runTo rfl (some 17) rfl (.bool true) w (by kernel_rfl) ?_
    simp only [Act.put, List.setIfInBounds_toArray, List.set_cons_zero, List.set_cons_succ]
    refine wpList_nil ?_
    refine hK _ _ ?_
    clear hK
    have e : R = .tuple #[.int .i64 0, .bool false] := by rw [HR.out]; unfold rt; rw [if_neg (by rw [← HN.out]; omega)]; rfl
    subst e
    go_wp2
    go_ret2
    exact ⟨rfl, rfl⟩
  · have d9 : decide (N < 9) = false := by simp [h9]
    have h9' : 9 ≤ N := by omega
    obtain ⟨g, o, ha, hcell⟩ : ∃ g o, a = some ⟨g, o, none⟩ ∧ ∀ (j x : Nat), l[j]? = some x → w.cell? ⟨g, o + j, none⟩ = some (.int .u8 (x : Int)) := by
      obtain ⟨a', cap', e, _, _, h3⟩ := h.ex
      rw [hv] at e
      injection e with e1 _ _
      rcases h3 with h3 | ⟨g, o, h4, h5⟩
      · exact absurd HN.out (by rw [h3]; simp; omega)
      · exact ⟨g, o, e1.trans h4, h5⟩
    subst ha
    obtain ⟨x4, hx4⟩ : ∃ x, l[4]? = some x := ⟨_, List.getElem?_eq_getElem (by rw [← HN.out]; omega)⟩
    have c4 := hcell 4 x4 hx4
    have H4 : Hid (dN l 4 = x4) := by
      show dN l 4 = x4
      unfold dN
      rw [List.getD_eq_getElem?_getD, hx4]; rfl
    have HBy : Hid (By w v l) := h
    clear hcell hx4 h
    obtain ⟨b4, hb4⟩ : ∃ b : Bool, (x4 != 1) = b := ⟨_, rfl⟩
    go_upto_region 1 with fail
    rename_i K hK
    refine wp_region_lit ?_
    refine wpList_runTo rfl (some 9) rfl (v) w (by kernel_rfl) ?_
    simp only [Act.put, List.setIfInBounds_toArray, List.set_cons_zero, List.set_cons_succ]
    refine wpList_runTo rfl (some 10) rfl (.int .i64 (N : Int)) w (by exact len_run hv (.tmp 9) rfl (.inl rfl) (by kernel_rfl) _) ?_
    simp only [Act.put, List.setIfInBounds_toArray, List.set_cons_zero, List.set_cons_succ]
    refine wpList_runTo rfl (some 11) rfl (.bool false) w (by exact ltN_run (n := N) (k := 9) (.tmp 10) (.const (.int .i64 9)) rfl (by kernel_rfl) rfl d9 _) ?_
    simp only [Act.put, List.setIfInBounds_toArray, List.set_cons_zero, List.set_cons_succ]
    refine wpList_runTo rfl (some 12) rfl (.bool false) w (by kernel_rfl) ?_
    simp only [Act.put, List.setIfInBounds_toArray, List.set_cons_zero, List.set_cons_succ]
    refine wpList_runToG (by kernel_rfl) (some 13) rfl (v) w (by kernel_rfl) ?_
    simp only [Act.put, List.setIfInBounds_toArray, List.set_cons_zero, List.set_cons_succ]
    refine wpList_runToG (by kernel_rfl) (some 14) rfl (.pointer (some ⟨g, o + 4, none⟩)) w (by exact ixB_run (i := 4) (n := N) (c := cap) (.tmp 13) (.const (.int .i64 4)) rfl (by rw [← hv]; kernel_rfl) rfl (by omega) _) ?_
    simp only [Act.put, List.setIfInBounds_toArray, List.set_cons_zero, List.set_cons_succ]
    refine wpList_runToG (by kernel_rfl) (some 15) rfl (.int .u8 (x4 : Int)) w (by exact ldY_run (.tmp 14) rfl (by kernel_rfl) c4) ?_
    simp only [Act.put, List.setIfInBounds_toArray, List.set_cons_zero, List.set_cons_succ]
    refine wpList_runToG (by kernel_rfl) (some 16) rfl (.bool b4) w (by exact neY_run (p := x4) (q := 1) (.tmp 15) (.const (.int .u8 1)) rfl (by kernel_rfl) rfl hb4 _) ?_
    simp only [Act.put, List.setIfInBounds_toArray, List.set_cons_zero, List.set_cons_succ]
    refine wpList_runTo rfl (some 17) rfl (.bool b4) w (by kernel_rfl) ?_
    simp only [Act.put, List.setIfInBounds_toArray, List.set_cons_zero, List.set_cons_succ]
    refine wpList_nil ?_
    refine hK _ _ ?_
    clear hK
    cases b4
    case true =>
      have e : R = .tuple #[.int .i64 0, .bool false] := by
        rw [HR.out]; unfold rt
        rw [if_neg (fun q => by
          have := q.2.1
          rw [H4.out] at this
          rw [this] at hb4
          cases hb4)]
        rfl
      subst e
      clear hb4 c4 d9
      go_wp2
      go_ret2
      exact ⟨rfl, rfl⟩
    case false =>
      have h41 : dN l 4 = 1 := by
        rw [H4.out]
        simpa using hb4
      have H41 : Hid (dN l 4 = 1) := h41
      clear hb4 c4 d9 h41 H4
      obtain ⟨E, hE⟩ : ∃ E, E = N - 4 := ⟨_, rfl⟩
      have HE : Hid (E = N - 4) := hE
      have hE' : E ≤ N := by omega
      clear hE
      go_upto_region 3 with fail
      rename_i K hK
      refine wp_region_lit ?_
      refine wpList_runTo rfl (some 18) rfl (v) w (by kernel_rfl) ?_
      simp only [Act.put, List.setIfInBounds_toArray, List.set_cons_zero, List.set_cons_succ]
      refine wpList_runTo rfl (some 19) rfl (.int .i64 (N : Int)) w (by exact len_run hv (.tmp 18) rfl (.inl rfl) (by kernel_rfl) _) ?_
      simp only [Act.put, List.setIfInBounds_toArray, List.set_cons_zero, List.set_cons_succ]
      refine wpList_runTo rfl (some 20) rfl (.int .i64 (E : Int)) w (by rw [HE.out]; exact subN_run (p := N) (q := 4) (.tmp 19) (.const (.int .i64 4)) rfl (by kernel_rfl) rfl (by omega) (by have := HL.out.1; omega) w) ?_
      simp only [Act.put, List.setIfInBounds_toArray, List.set_cons_zero, List.set_cons_succ]
      refine wpList_runTo rfl (some 4) rfl (.int .i64 (E : Int)) w (by kernel_rfl) ?_
      simp only [Act.put, List.setIfInBounds_toArray, List.set_cons_zero, List.set_cons_succ]
      refine wpList_nil ?_
      refine hK _ _ ?_
      clear hK
      have hg1 := Get_by (HBy.out.tl (lo := E) (by rw [← HN.out]; omega)) (by rw [List.length_drop, ← HN.out, HE.out]; omega) (by rw [List.length_drop, ← HN.out]; have := HL.out.1; omega)
      have hgs : cutL v E = cutV (.slice (some ⟨g, o, none⟩) N cap) E N cap := by rw [hv]; rfl
      obtain ⟨C, hC⟩ : ∃ C, C = cutL v E := ⟨_, rfl⟩
      rw [← hC] at hg1 hgs
      have hsm : nbN (l.drop E) = smN l := by rw [smN_eq, HE.out, HN.out]
      rw [hsm] at hg1
      clear hsm hC
      obtain ⟨SM, hSM⟩ : ∃ s, s = smN l := ⟨_, rfl⟩
      rw [← hSM] at hg1
      go_upto_region 4 with fail
      rename_i K hK
      refine wp_region_lit ?_
      refine wpList_runTo rfl (some 22) rfl (v) w (by kernel_rfl) ?_
      simp only [Act.put, List.setIfInBounds_toArray, List.set_cons_zero, List.set_cons_succ]
      refine wpList_runTo rfl (some 23) rfl (.int .i64 (E : Int)) w (by kernel_rfl) ?_
      simp only [Act.put, List.setIfInBounds_toArray, List.set_cons_zero, List.set_cons_succ]
      refine wpList_runTo rfl (some 24) rfl (C) w (by rw [hgs]; exact sliceL_run (ao := some ⟨g, o, none⟩) (n := N) (cap := cap) (lo := E) (.tmp 22) (.tmp 23) rfl (by rw [← hv]; kernel_rfl) (by kernel_rfl) hE' _) ?_
      simp only [Act.put, List.setIfInBounds_toArray, List.set_cons_zero, List.set_cons_succ]
      refine wpList_callW rfl (some 25) rfl 28 #[C, .int .i64 4] (by kernel_rfl) hg1 ?_
      clear hg1
      rintro e w1 ⟨rfl, ew⟩
      replace ew := ew.symm
      subst ew
      refine ⟨_, rfl, ?_⟩
      simp only [Act.put, List.setIfInBounds_toArray, List.set_cons_zero, List.set_cons_succ]
      refine wpList_runTo rfl (some 21) rfl (.tuple #[.int .u64 (SM : Int), .bool true]) w (by kernel_rfl) ?_
      simp only [Act.put, List.setIfInBounds_toArray, List.set_cons_zero, List.set_cons_succ]
      refine wpList_runTo rfl (some 26) rfl (.int .u64 (SM : Int)) w (by kernel_rfl) ?_
      simp only [Act.put, List.setIfInBounds_toArray, List.set_cons_zero, List.set_cons_succ]
      refine wpList_runTo rfl (some 27) rfl (.bool true) w (by kernel_rfl) ?_
      simp only [Act.put, List.setIfInBounds_toArray, List.set_cons_zero, List.set_cons_succ]
      refine wpList_runTo rfl (some 5) rfl (.int .u64 (SM : Int)) w (by kernel_rfl) ?_
      simp only [Act.put, List.setIfInBounds_toArray, List.set_cons_zero, List.set_cons_succ]
      refine wpList_runTo rfl (some 6) rfl (.bool true) w (by kernel_rfl) ?_
      simp only [Act.put, List.setIfInBounds_toArray, List.set_cons_zero, List.set_cons_succ]
      refine wpList_nil ?_
      refine hK _ _ ?_
      clear hK
      clear hgs
      have hg1 := Get_by HBy.out (by rw [← HN.out]; omega) (by rw [← HN.out]; exact HL.out.1)
      obtain ⟨NB, hNB⟩ : ∃ s, s = nbN l := ⟨_, rfl⟩
      rw [← hNB] at hg1
      go_upto_region 5 with fail
      rename_i K hK
      refine wp_region_lit ?_
      refine wpList_runTo rfl (some 29) rfl (v) w (by kernel_rfl) ?_
      simp only [Act.put, List.setIfInBounds_toArray, List.set_cons_zero, List.set_cons_succ]
      refine wpList_callW rfl (some 30) rfl 28 #[v, .int .i64 4] (by kernel_rfl) hg1 ?_
      clear hg1
      rintro e w1 ⟨rfl, ew⟩
      replace ew := ew.symm
      subst ew
      refine ⟨_, rfl, ?_⟩
      simp only [Act.put, List.setIfInBounds_toArray, List.set_cons_zero, List.set_cons_succ]
      refine wpList_runTo rfl (some 28) rfl (.tuple #[.int .u64 (NB : Int), .bool true]) w (by kernel_rfl) ?_
      simp only [Act.put, List.setIfInBounds_toArray, List.set_cons_zero, List.set_cons_succ]
      refine wpList_runTo rfl (some 31) rfl (.int .u64 (NB : Int)) w (by kernel_rfl) ?_
      simp only [Act.put, List.setIfInBounds_toArray, List.set_cons_zero, List.set_cons_succ]
      refine wpList_runTo rfl (some 32) rfl (.bool true) w (by kernel_rfl) ?_
      simp only [Act.put, List.setIfInBounds_toArray, List.set_cons_zero, List.set_cons_succ]
      refine wpList_runTo rfl (some 7) rfl (.int .u64 (NB : Int)) w (by kernel_rfl) ?_
      simp only [Act.put, List.setIfInBounds_toArray, List.set_cons_zero, List.set_cons_succ]
      refine wpList_runTo rfl (some 8) rfl (.bool true) w (by kernel_rfl) ?_
      simp only [Act.put, List.setIfInBounds_toArray, List.set_cons_zero, List.set_cons_succ]
      refine wpList_nil ?_
      refine hK _ _ ?_
      clear hK
      have HNB : Hid (NB = nbN l ∧ SM = smN l ∧ NB < 4294967296) := ⟨hNB, hSM, by rw [hNB]; exact nbN_lt HBy.out.bb⟩
      clear hNB hSM
      by_cases q1 : NB < 1
      · have d1 : decide (NB < 1) = true := by simp [q1]
        have q1a : (NB : Int) < 1 := by omega
        have e : R = .tuple #[.int .i64 0, .bool false] := by rw [HR.out]; unfold rt; rw [if_neg (fun q => by have := q.2.2; rw [← HNB.out.1] at this; omega)]; rfl
        subst e
        clear d1
        go_wp2
        go_ret2
        exact ⟨rfl, rfl⟩
      · have d1 : decide (NB < 1) = false := by simp; omega
        by_cases q2 : 999999999 < NB
        · have d2 : decide (999999999 < NB) = true := by simp [q2]
          have q1a : ¬ (NB : Int) < 1 := by omega
          have q2a : 999999999 < (NB : Int) := by omega
          clear d2
          have e : R = .tuple #[.int .i64 0, .bool false] := by rw [HR.out]; unfold rt; rw [if_neg (fun q => by have := q.2.2; rw [← HNB.out.1] at this; omega)]; rfl
          subst e
          clear d1
          go_wp2
          go_ret2
          exact ⟨rfl, rfl⟩
        · have d2 : decide (999999999 < NB) = false := by simp; omega
          have hgs : cutT v E = cutV (.slice (some ⟨g, o, none⟩) N cap) 0 E cap := by rw [hv]; rfl
          have hlt : (l.take E).length = E := by rw [List.length_take, ← HN.out]; omega
          have hcr := Crc_by (HBy.out.hd (hi := E) (by rw [← HN.out]; omega)) (fun e => by rw [e] at hlt; simp at hlt; have := HE.out; omega) (by rw [hlt]; have := HL.out.1; omega)
          clear hlt
          obtain ⟨C2, hC⟩ : ∃ C, C = cutT v E := ⟨_, rfl⟩
          rw [← hC] at hcr hgs
          clear hC
          obtain ⟨CR, hCR0⟩ : ∃ s, s = crN (l.take E) := ⟨_, rfl⟩
          have hCR : CR < 4294967296 := by rw [hCR0]; exact crN_lt _ (HBy.out.bb.take E)
          rw [← hCR0] at hcr
          obtain ⟨b6, hb6⟩ : ∃ b : Bool, (SM != CR) = b := ⟨_, rfl⟩
          go_upto_region 6 with fail
          rename_i K hK
          refine wp_region_lit ?_
          refine wpList_runTo rfl (some 33) rfl (.int .u64 (NB : Int)) w (by kernel_rfl) ?_
          simp only [Act.put, List.setIfInBounds_toArray, List.set_cons_zero, List.set_cons_succ]
          refine wpList_runTo rfl (some 34) rfl (.bool false) w (by exact ltU_run (p := NB) (q := 1) (.tmp 33) (.const (.int .u64 1)) rfl (by kernel_rfl) rfl d1 _) ?_
          simp only [Act.put, List.setIfInBounds_toArray, List.set_cons_zero, List.set_cons_succ]
          refine wpList_runTo rfl (some 35) rfl (.bool false) w (by kernel_rfl) ?_
          simp only [Act.put, List.setIfInBounds_toArray, List.set_cons_zero, List.set_cons_succ]
          refine wpList_runToG (by kernel_rfl) (some 36) rfl (.int .u64 (NB : Int)) w (by kernel_rfl) ?_
          simp only [Act.put, List.setIfInBounds_toArray, List.set_cons_zero, List.set_cons_succ]
          refine wpList_runToG (by kernel_rfl) (some 37) rfl (.bool false) w (by exact gtU_run (p := NB) (q := 999999999) (.tmp 36) (.const (.int .u64 999999999)) rfl (by kernel_rfl) rfl d2 _) ?_
          simp only [Act.put, List.setIfInBounds_toArray, List.set_cons_zero, List.set_cons_succ]
          refine wpList_runTo rfl (some 38) rfl (.bool false) w (by kernel_rfl) ?_
          simp only [Act.put, List.setIfInBounds_toArray, List.set_cons_zero, List.set_cons_succ]
          refine wpList_runTo rfl (some 39) rfl (.bool false) w (by kernel_rfl) ?_
          simp only [Act.put, List.setIfInBounds_toArray, List.set_cons_zero, List.set_cons_succ]
          refine wpList_runToG (by kernel_rfl) (some 40) rfl (.int .u64 (SM : Int)) w (by kernel_rfl) ?_
          simp only [Act.put, List.setIfInBounds_toArray, List.set_cons_zero, List.set_cons_succ]
          refine wpList_runToG (by kernel_rfl) (some 41) rfl (v) w (by kernel_rfl) ?_
          simp only [Act.put, List.setIfInBounds_toArray, List.set_cons_zero, List.set_cons_succ]
          refine wpList_runToG (by kernel_rfl) (some 42) rfl (.int .i64 (E : Int)) w (by kernel_rfl) ?_
          simp only [Act.put, List.setIfInBounds_toArray, List.set_cons_zero, List.set_cons_succ]
          refine wpList_runToG (by kernel_rfl) (some 43) rfl (C2) w (by rw [hgs]; exact sliceT_run (ao := some ⟨g, o, none⟩) (n := N) (cap := cap) (hi := E) (.tmp 41) (.tmp 42) rfl (by rw [← hv]; kernel_rfl) (by kernel_rfl) (by have := HL.out.2; omega) _) ?_
          simp only [Act.put, List.setIfInBounds_toArray, List.set_cons_zero, List.set_cons_succ]
          refine wpList_callG (by kernel_rfl) (some 44) rfl 24 #[C2] (by kernel_rfl) hcr ?_
          clear hcr
          rintro e w1 ⟨rfl, ew⟩
          replace ew := ew.symm
          subst ew
          refine ⟨_, rfl, ?_⟩
          simp only [Act.put, List.setIfInBounds_toArray, List.set_cons_zero, List.set_cons_succ]
          refine wpList_runToG (by kernel_rfl) (some 45) rfl (.int .u64 (CR : Int)) w (by exact cv3_run (k := CR) (.tmp 44) rfl (by kernel_rfl) hCR _) ?_
          simp only [Act.put, List.setIfInBounds_toArray, List.set_cons_zero, List.set_cons_succ]
          refine wpList_runToG (by kernel_rfl) (some 46) rfl (.bool b6) w (by exact neU_run (p := SM) (q := CR) (.tmp 40) (.tmp 45) rfl (by kernel_rfl) (by kernel_rfl) hb6 _) ?_
          simp only [Act.put, List.setIfInBounds_toArray, List.set_cons_zero, List.set_cons_succ]
          refine wpList_runTo rfl (some 47) rfl (.bool b6) w (by kernel_rfl) ?_
          simp only [Act.put, List.setIfInBounds_toArray, List.set_cons_zero, List.set_cons_succ]
          refine wpList_nil ?_
          refine hK _ _ ?_
          clear hK
          clear hgs hCR d1 d2
          have HCR : Hid (CR = crN (l.take (l.length - 4))) := by
            show CR = _
            rw [hCR0, HE.out, HN.out]
          clear hCR0
          cases b6
          case true =>
            have e : R = .tuple #[.int .i64 0, .bool false] := by
              rw [HR.out]; unfold rt
              rw [if_neg (fun q => by
                have := q.2.2.2.2
                rw [← HNB.out.2.1, ← HCR.out] at this
                rw [this] at hb6
                simp at hb6)]
              rfl
            subst e
            clear hb6
            go_wp2
            go_ret2
            exact ⟨rfl, rfl⟩
          case false =>
            have e : R = .tuple #[.int .i64 (NB : Int), .bool true] := by
              rw [HR.out]; unfold rt
              rw [if_pos ⟨by rw [← HN.out]; omega, H41.out, by rw [← HNB.out.1]; omega, by rw [← HNB.out.1]; omega, by rw [← HNB.out.2.1, ← HCR.out]; simpa using hb6⟩, ← HNB.out.1]
              rfl
            subst e
            clear hb6
            go_upto_region 8 with fail
            rename_i K hK
            refine wp_region_lit ?_
            refine wpList_runTo rfl (some 48) rfl (.int .u64 (NB : Int)) w (by kernel_rfl) ?_
            simp only [Act.put, List.setIfInBounds_toArray, List.set_cons_zero, List.set_cons_succ]
            refine wpList_runTo rfl (some 49) rfl (.int .i64 (NB : Int)) w (by exact cvi_run (p := NB) (.tmp 48) rfl (by kernel_rfl) (by have := HNB.out.2.2; omega) _) ?_
            simp only [Act.put, List.setIfInBounds_toArray, List.set_cons_zero, List.set_cons_succ]
            refine wpList_runTo rfl (some 2) rfl (.int .i64 (NB : Int)) w (by kernel_rfl) ?_
            simp only [Act.put, List.setIfInBounds_toArray, List.set_cons_zero, List.set_cons_succ]
            refine wpList_runTo rfl (some 3) rfl (.bool true) w (by kernel_rfl) ?_
            simp only [Act.put, List.setIfInBounds_toArray, List.set_cons_zero, List.set_cons_succ]
            refine wpList_nil ?_
            refine hK _ _ ?_
            clear hK
            go_wp2
            go_ret2
            exact ⟨rfl, rfl⟩
end Go.Proofs.Ytdncemecnbglaaa
