/-
  tape: TapeBack's walk (laid by gentr4.py).
-/
import Derived.Test.YtjnnecoikcmaeaaTR3
namespace Go.Proofs.Ytjnnecoikcmaeaa
set_option linter.unusedVariables false
set_option linter.unusedSimpArgs false
open Go.RowKit Go.Great

structure TB (w W : World) (c : Cm) (pc : Nat) (v : Value) (l : List Nat) : Prop where
  bel : Below w.heap.size w W
  blk : Blk W pc 27 c.cs
  by' : By W v l
theorem TB.below {w W W' : World} {c : Cm} {pc : Nat} {v : Value} {l : List Nat} (h : TB w W c pc v l) (hb : Below W.heap.size W W') : TB w W' c pc v l := ⟨below_step h.bel hb, h.blk.below hb h.blk.lt, h.by'.below hb⟩
theorem eqS_run {op : Oper} {a : Act} {s : ByteArray} (x y : Operand) (ho : op.op = .binOp .eql 9 x y 9) (hx : a.eval x = .string s) (hy : a.eval y = .string s) (w : World) : (execOp a.eval op).run Try.prog w = .ok (.value (.bool true)) w := by
  unfold execOp
  simp only [ho, hx, hy]
  go_simp
theorem gt_run {op : Oper} {a : Act} {n k : Nat} {r : Bool} (x y : Operand) (ho : op.op = .binOp .gtr 3 x y 3) (hx : a.eval x = .int .i64 (n : Int)) (hy : a.eval y = .int .i64 (k : Int)) (hr : decide (k < n) = r) (w : World) : (execOp a.eval op).run Try.prog w = .ok (.value (.bool r)) w := by
  have h1 : decide ((k : Int) < (n : Int)) = r := by
    rw [← hr]
    by_cases h : k < n
    · rw [decide_eq_true h, decide_eq_true (by omega)]
    · rw [decide_eq_false h, decide_eq_false (by omega)]
  unfold execOp
  simp only [ho, hx, hy]
  go_simp
theorem eqE_run {op : Oper} {a : Act} {z : Int} {r : Bool} (x y : Operand) (ho : op.op = .binOp .eql 30 x y 30) (hx : a.eval x = .int .i64 z) (hy : a.eval y = .int .i64 0) (hr : (z == 0) = r) (w : World) : (execOp a.eval op).run Try.prog w = .ok (.value (.bool r)) w := by
  unfold execOp
  simp only [ho, hx, hy]
  go_simp
set_option maxRecDepth 100000 in
set_option maxHeartbeats 8000000 in
theorem TapeBack_law {w : World} {c : Cm} (hc : c.ok) {v : Value} {l : List Nat} (hv : By w v l) (hl : l.length ≤ 9223372036854775807) : Calls Try.prog 3 #[.agg c.cs, v] w fun e w' => e = .returned (.bool true) ∧ Hid (Below w.heap.size w w') := by
  have HL : Hid (l.length ≤ 9223372036854775807) := hl
  obtain ⟨W0, hW0⟩ : ∃ W0, W0 = w.alloc (.cells c.cs 27) := ⟨_, rfl⟩
  have hb0 : Below w.heap.size w W0 := by rw [hW0]; exact (Below.refl _ w).alloc (Nat.le_refl _) _
  have HB0 : Hid (TB w W0 c w.heap.size v l) := ⟨hb0, by rw [hW0]; exact Blk.new _ _ _, hv.below hb0⟩
  have hsh := shown_any W0
  clear hb0 hv hl
  go_enter Try.func3, Try.ntmps3
  go_upto_region 0 with fail
  rename_i K0 hK0
  refine wp_region_lit ?_
  refine wpList_runTo rfl (some 2) rfl (.pointer (some ⟨w.heap.size, 0, none⟩)) (w.alloc (.cells c.cs 27)) (by kernel_rfl) ?_
  simp only [Act.put, List.setIfInBounds_toArray, List.set_cons_zero, List.set_cons_succ]
  rw [← hW0]
  clear hW0
  obtain ⟨pc, hpc⟩ : ∃ pc, pc = w.heap.size := ⟨_, rfl⟩
  have HB0' : Hid (TB w W0 c pc v l) := by rw [hpc]; exact HB0
  rw [← hpc]
  clear HB0 hpc
  refine wpList_runTo rfl (some 4) rfl (.bool false) W0 (by kernel_rfl) ?_
  simp only [Act.put, List.setIfInBounds_toArray, List.set_cons_zero, List.set_cons_succ]
  refine wpList_nil ?_
  refine hK0 _ _ ?_
  clear hK0
  generalize c.cs = cc0
  go_upto_region 1 with fail
  rename_i K1 hK1
  refine wp_region_lit ?_
  refine wpList_callW rfl (some 14) rfl 8 #[] (by kernel_rfl) hsh ?_
  clear hsh
  rintro e W1 ⟨rfl, hx⟩
  refine ⟨_, rfl, ?_⟩
  simp only [Act.put, List.setIfInBounds_toArray, List.set_cons_zero, List.set_cons_succ]
  have HB1 : Hid (TB w W1 c pc v l) := HB0'.out.below hx.out
  clear HB0' hx
  refine wpList_runTo rfl (some 5) rfl (.bool true) W1 (by kernel_rfl) ?_
  simp only [Act.put, List.setIfInBounds_toArray, List.set_cons_zero, List.set_cons_succ]
  refine wpList_nil ?_
  refine hK1 _ _ ?_
  clear hK1
  have hen := Encode_any c hc W1
  go_upto_region 2 with fail
  rename_i K2 hK2
  refine wp_region_lit ?_
  refine load_cmd HB1.out.blk (.tmp 2) rfl rfl (by kernel_rfl) ?_
  simp only [Act.put, List.setIfInBounds_toArray, List.set_cons_zero, List.set_cons_succ]
  refine wpList_callW rfl (some 17) rfl 9 #[.agg c.cs] (by kernel_rfl) hen ?_
  clear hen
  rintro e W2 ⟨ve, rfl, hx⟩
  refine ⟨_, rfl, ?_⟩
  simp only [Act.put, List.setIfInBounds_toArray, List.set_cons_zero, List.set_cons_succ]
  have HB2 : Hid (TB w W2 c pc v l) := HB1.out.below hx.out.1
  have HE : Hid ((encE c = 0 → By W2 ve (encL c)) ∧ (encE c ≠ 0 → ve = .slice none 0 0)) := ⟨fun e => (hx.out.2.1 e).by', hx.out.2.2⟩
  clear HB1 hx
  generalize c.cs = cc1
  refine wpList_runTo rfl (some 15) rfl (.tuple #[ve, .int .i64 (encE c)]) W2 (by kernel_rfl) ?_
  simp only [Act.put, List.setIfInBounds_toArray, List.set_cons_zero, List.set_cons_succ]
  refine wpList_runTo rfl (some 18) rfl (ve) W2 (by kernel_rfl) ?_
  simp only [Act.put, List.setIfInBounds_toArray, List.set_cons_zero, List.set_cons_succ]
  refine wpList_runTo rfl (some 19) rfl (.int .i64 (encE c)) W2 (by kernel_rfl) ?_
  simp only [Act.put, List.setIfInBounds_toArray, List.set_cons_zero, List.set_cons_succ]
  refine wpList_runTo rfl (some 6) rfl (ve) W2 (by kernel_rfl) ?_
  simp only [Act.put, List.setIfInBounds_toArray, List.set_cons_zero, List.set_cons_succ]
  refine wpList_runTo rfl (some 7) rfl (.int .i64 (encE c)) W2 (by kernel_rfl) ?_
  simp only [Act.put, List.setIfInBounds_toArray, List.set_cons_zero, List.set_cons_succ]
  refine wpList_nil ?_
  refine hK2 _ _ ?_
  clear hK2
  by_cases h0 : encE c = 0
  · have hy := HE.out.1 h0
    obtain ⟨hl0, hl6⟩ := encL_len h0
    have g1 : decide (0 < (encL c).length) = true := decide_eq_true hl0
    have g2 : decide (600 < (encL c).length) = false := decide_eq_false (by omega)
    rw [h0]
    clear HE
    have HY : Hid (By W2 ve (encL c)) := hy
    obtain ⟨va, vc, hvf, _⟩ := hy.form
    clear hy
    go_upto_region 3 with fail
    rename_i K3 hK3
    refine wp_region_lit ?_
    refine wpList_runTo rfl (some 20) rfl (.bool true) W2 (by kernel_rfl) ?_
    simp only [Act.put, List.setIfInBounds_toArray, List.set_cons_zero, List.set_cons_succ]
    refine wpList_runTo rfl (some 21) rfl (.bool false) W2 (by kernel_rfl) ?_
    simp only [Act.put, List.setIfInBounds_toArray, List.set_cons_zero, List.set_cons_succ]
    refine wpList_runTo rfl (some 22) rfl (.bool false) W2 (by kernel_rfl) ?_
    simp only [Act.put, List.setIfInBounds_toArray, List.set_cons_zero, List.set_cons_succ]
    refine wpList_runToG (by kernel_rfl) (some 23) rfl (.int .i64 0) W2 (by kernel_rfl) ?_
    simp only [Act.put, List.setIfInBounds_toArray, List.set_cons_zero, List.set_cons_succ]
    refine wpList_runToG (by kernel_rfl) (some 24) rfl (.bool true) W2 (by kernel_rfl) ?_
    simp only [Act.put, List.setIfInBounds_toArray, List.set_cons_zero, List.set_cons_succ]
    refine wpList_runToG (by kernel_rfl) (some 25) rfl (ve) W2 (by kernel_rfl) ?_
    simp only [Act.put, List.setIfInBounds_toArray, List.set_cons_zero, List.set_cons_succ]
    rw [hvf]
    generalize (encL c).length = N at *
    refine wpList_runToG (by kernel_rfl) (some 26) rfl (.int .i64 (N : Int)) W2 (by kernel_rfl) ?_
    simp only [Act.put, List.setIfInBounds_toArray, List.set_cons_zero, List.set_cons_succ]
    refine wpList_runToG (by kernel_rfl) (some 27) rfl (.bool true) W2 (by exact gt_run (n := N) (k := 0) (.tmp 26) (.const (.int .i64 0)) rfl (by kernel_rfl) rfl g1 _) ?_
    simp only [Act.put, List.setIfInBounds_toArray, List.set_cons_zero, List.set_cons_succ]
    refine wpList_runToG (by kernel_rfl) (some 28) rfl (.bool false) W2 (by kernel_rfl) ?_
    simp only [Act.put, List.setIfInBounds_toArray, List.set_cons_zero, List.set_cons_succ]
    refine wpList_runTo rfl (some 29) rfl (.bool false) W2 (by kernel_rfl) ?_
    simp only [Act.put, List.setIfInBounds_toArray, List.set_cons_zero, List.set_cons_succ]
    refine wpList_runTo rfl (some 30) rfl (.bool false) W2 (by kernel_rfl) ?_
    simp only [Act.put, List.setIfInBounds_toArray, List.set_cons_zero, List.set_cons_succ]
    refine wpList_runToG (by kernel_rfl) (some 31) rfl (.slice va N vc) W2 (by kernel_rfl) ?_
    simp only [Act.put, List.setIfInBounds_toArray, List.set_cons_zero, List.set_cons_succ]
    refine wpList_runToG (by kernel_rfl) (some 32) rfl (.int .i64 (N : Int)) W2 (by kernel_rfl) ?_
    simp only [Act.put, List.setIfInBounds_toArray, List.set_cons_zero, List.set_cons_succ]
    refine wpList_runToG (by kernel_rfl) (some 33) rfl (.bool false) W2 (by exact gt_run (n := N) (k := 600) (.tmp 32) (.const (.int .i64 600)) rfl (by kernel_rfl) rfl g2 _) ?_
    simp only [Act.put, List.setIfInBounds_toArray, List.set_cons_zero, List.set_cons_succ]
    refine wpList_runTo rfl (some 34) rfl (.bool false) W2 (by kernel_rfl) ?_
    simp only [Act.put, List.setIfInBounds_toArray, List.set_cons_zero, List.set_cons_succ]
    refine wpList_nil ?_
    refine hK3 _ _ ?_
    clear hK3
    rw [← hvf]
    clear g1 g2 hvf hl0 hl6
    go_upto_region 5 with fail
    rename_i K5 hK5
    refine wp_region_lit ?_
    refine wpList_runTo rfl (some 35) rfl (.int .i64 0) W2 (by kernel_rfl) ?_
    simp only [Act.put, List.setIfInBounds_toArray, List.set_cons_zero, List.set_cons_succ]
    refine wpList_runTo rfl (some 36) rfl (.bool true) W2 (by kernel_rfl) ?_
    simp only [Act.put, List.setIfInBounds_toArray, List.set_cons_zero, List.set_cons_succ]
    refine wpList_nil ?_
    refine hK5 _ _ ?_
    clear hK5
    obtain ⟨dc, hdc, hdcs⟩ := dec_enc h0
    have hde := Decode_any HY.out (by have := encL_len h0; omega)
    rw [hdc] at hde
    go_upto_region 6 with fail
    rename_i K6 hK6
    refine wp_region_lit ?_
    refine wpList_runTo rfl (some 38) rfl (ve) W2 (by kernel_rfl) ?_
    simp only [Act.put, List.setIfInBounds_toArray, List.set_cons_zero, List.set_cons_succ]
    refine wpList_callW rfl (some 39) rfl 10 #[ve] (by kernel_rfl) hde ?_
    clear hde
    rintro e W3 ⟨rfl, hx⟩
    rw [hdcs]
    refine ⟨_, rfl, ?_⟩
    simp only [Act.put, List.setIfInBounds_toArray, List.set_cons_zero, List.set_cons_succ]
    have HB3 : Hid (TB w W3 c pc v l) := HB2.out.below hx.out
    clear hx HB2 HY
    refine wpList_runTo rfl (some 37) rfl (.tuple #[.agg c.cs, .nilIface]) W3 (by kernel_rfl) ?_
    simp only [Act.put, List.setIfInBounds_toArray, List.set_cons_zero, List.set_cons_succ]
    refine wpList_runTo rfl (some 40) rfl (.agg c.cs) W3 (by kernel_rfl) ?_
    simp only [Act.put, List.setIfInBounds_toArray, List.set_cons_zero, List.set_cons_succ]
    refine wpList_runTo rfl (some 41) rfl (.nilIface) W3 (by kernel_rfl) ?_
    simp only [Act.put, List.setIfInBounds_toArray, List.set_cons_zero, List.set_cons_succ]
    refine wpList_runTo rfl (some 8) rfl (.pointer (some ⟨W3.heap.size, 0, none⟩)) (W3.alloc (.cells zeroC.cs 27)) (by kernel_rfl) ?_
    simp only [Act.put, List.setIfInBounds_toArray, List.set_cons_zero, List.set_cons_succ]
    refine store_cmd (c := c) (c' := zeroC) (Blk.new W3 _ _) (.tmp 8) (.tmp 40) rfl rfl (by kernel_rfl) (by kernel_rfl) ?_
    simp only [Act.put, List.setIfInBounds_toArray, List.set_cons_zero, List.set_cons_succ]
    obtain ⟨W4, hW4⟩ : ∃ W4, W4 = (W3.alloc (.cells zeroC.cs 27)).setRow W3.heap.size c.cs := ⟨_, rfl⟩
    have hbB : Below W3.heap.size W3 W4 := by rw [hW4]; exact below_setRow ((Below.refl _ W3).alloc (Nat.le_refl _) _) (Nat.le_refl _) _
    have hB : Blk W4 W3.heap.size 27 c.cs := by rw [hW4]; exact (Blk.new W3 _ _).row
    rw [← hW4]
    have HB4 : Hid (TB w W4 c pc v l ∧ Blk W4 W3.heap.size 27 c.cs) := ⟨HB3.out.below hbB, hB⟩
    clear HB3 hbB hB hW4
    generalize W3.heap.size = pe at *
    refine wpList_runTo rfl (some 9) rfl (.nilIface) W4 (by kernel_rfl) ?_
    simp only [Act.put, List.setIfInBounds_toArray, List.set_cons_zero, List.set_cons_succ]
    refine wpList_nil ?_
    refine hK6 _ _ ?_
    clear hK6
    generalize c.cs = cc2
    go_upto_region 7 with fail
    rename_i K7 hK7
    refine wp_region_lit ?_
    refine wpList_runTo rfl (some 42) rfl (.nilIface) W4 (by kernel_rfl) ?_
    simp only [Act.put, List.setIfInBounds_toArray, List.set_cons_zero, List.set_cons_succ]
    refine wpList_runTo rfl (some 43) rfl (.bool false) W4 (by kernel_rfl) ?_
    simp only [Act.put, List.setIfInBounds_toArray, List.set_cons_zero, List.set_cons_succ]
    refine wpList_runTo rfl (some 44) rfl (.bool false) W4 (by kernel_rfl) ?_
    simp only [Act.put, List.setIfInBounds_toArray, List.set_cons_zero, List.set_cons_succ]
    refine loadG_cmd HB4.out.2 (.tmp 8) (by kernel_rfl) rfl (by kernel_rfl) ?_
    simp only [Act.put, List.setIfInBounds_toArray, List.set_cons_zero, List.set_cons_succ]
    refine loadG_cmd HB4.out.1.blk (.tmp 2) (by kernel_rfl) rfl (by kernel_rfl) ?_
    simp only [Act.put, List.setIfInBounds_toArray, List.set_cons_zero, List.set_cons_succ]
    refine wpList_runToG (by kernel_rfl) (some 47) rfl (.bool false) W4 (by exact neC_run (c := c) (.tmp 45) (.tmp 46) rfl (by kernel_rfl) (by kernel_rfl) _) ?_
    simp only [Act.put, List.setIfInBounds_toArray, List.set_cons_zero, List.set_cons_succ]
    generalize c.cs = cc3
    refine wpList_runTo rfl (some 48) rfl (.bool false) W4 (by kernel_rfl) ?_
    simp only [Act.put, List.setIfInBounds_toArray, List.set_cons_zero, List.set_cons_succ]
    refine wpList_nil ?_
    refine hK7 _ _ ?_
    clear hK7
    have HB5 : Hid (TB w W4 c pc v l) := HB4.out.1
    clear HB4 hdc hdcs
    have hde2 := Decode_any HB5.out.by' HL.out
    cases hdl : dec l with
    | error p =>
      rw [hdl] at hde2
      go_upto_region 9 with fail
      rename_i K9 hK9
      refine wp_region_lit ?_
      refine wpList_runTo rfl (some 50) rfl (v) W4 (by kernel_rfl) ?_
      simp only [Act.put, List.setIfInBounds_toArray, List.set_cons_zero, List.set_cons_succ]
      refine wpList_callW rfl (some 51) rfl 10 #[v] (by kernel_rfl) hde2 ?_
      clear hde2
      rintro e X1 ⟨fg, rfl, hx⟩
      refine ⟨_, rfl, ?_⟩
      simp only [Act.put, List.setIfInBounds_toArray, List.set_cons_zero, List.set_cons_succ]
      have HX1 : Hid (TB w X1 c pc v l) := HB5.out.below hx.out.1
      clear hx
      refine wpList_runTo rfl (some 49) rfl (.tuple #[.agg zeroC.cs, .iface 54 (.pointer (some ⟨fg, 0, none⟩))]) X1 (by kernel_rfl) ?_
      simp only [Act.put, List.setIfInBounds_toArray, List.set_cons_zero, List.set_cons_succ]
      refine wpList_runTo rfl (some 52) rfl (.agg zeroC.cs) X1 (by kernel_rfl) ?_
      simp only [Act.put, List.setIfInBounds_toArray, List.set_cons_zero, List.set_cons_succ]
      refine wpList_runTo rfl (some 53) rfl (.iface 54 (.pointer (some ⟨fg, 0, none⟩))) X1 (by kernel_rfl) ?_
      simp only [Act.put, List.setIfInBounds_toArray, List.set_cons_zero, List.set_cons_succ]
      refine wpList_runTo rfl (some 10) rfl (.pointer (some ⟨X1.heap.size, 0, none⟩)) (X1.alloc (.cells zeroC.cs 27)) (by kernel_rfl) ?_
      simp only [Act.put, List.setIfInBounds_toArray, List.set_cons_zero, List.set_cons_succ]
      refine store_cmd (c := zeroC) (c' := zeroC) (Blk.new X1 _ _) (.tmp 10) (.tmp 52) rfl rfl (by kernel_rfl) (by kernel_rfl) ?_
      simp only [Act.put, List.setIfInBounds_toArray, List.set_cons_zero, List.set_cons_succ]
      obtain ⟨X2, hX2⟩ : ∃ X2, X2 = (X1.alloc (.cells zeroC.cs 27)).setRow X1.heap.size zeroC.cs := ⟨_, rfl⟩
      have hbB : Below X1.heap.size X1 X2 := by rw [hX2]; exact below_setRow ((Below.refl _ X1).alloc (Nat.le_refl _) _) (Nat.le_refl _) _
      have hB : Blk X2 X1.heap.size 27 zeroC.cs := by rw [hX2]; exact (Blk.new X1 _ _).row
      rw [← hX2]
      have HX2 : Hid (TB w X2 c pc v l ∧ Blk X2 X1.heap.size 27 zeroC.cs) := ⟨HX1.out.below hbB, hB⟩
      clear HX1 hbB hB hX2
      generalize X1.heap.size = pd at *
      refine wpList_runTo rfl (some 11) rfl (.iface 54 (.pointer (some ⟨fg, 0, none⟩))) X2 (by kernel_rfl) ?_
      simp only [Act.put, List.setIfInBounds_toArray, List.set_cons_zero, List.set_cons_succ]
      refine wpList_nil ?_
      refine hK9 _ _ ?_
      clear hK9
      generalize zeroC.cs = czz
      go_upto_region 10 with fail
      rename_i K10 hK10
      refine wp_region_lit ?_
      refine wpList_runTo rfl (some 54) rfl (.iface 54 (.pointer (some ⟨fg, 0, none⟩))) X2 (by kernel_rfl) ?_
      simp only [Act.put, List.setIfInBounds_toArray, List.set_cons_zero, List.set_cons_succ]
      refine wpList_runTo rfl (some 55) rfl (.bool true) X2 (by go_simp) ?_
      simp only [Act.put, List.setIfInBounds_toArray, List.set_cons_zero, List.set_cons_succ]
      refine wpList_nil ?_
      refine hK10 _ _ ?_
      clear hK10
      go_upto_region 11 with fail
      rename_i K11 hK11
      refine wp_region_lit ?_
      refine load_cmd HX2.out.2 (.tmp 10) rfl rfl (by kernel_rfl) ?_
      simp only [Act.put, List.setIfInBounds_toArray, List.set_cons_zero, List.set_cons_succ]
      refine wpList_runTo rfl (some 57) rfl (.agg zeroC.cs) X2 (by kernel_rfl) ?_
      simp only [Act.put, List.setIfInBounds_toArray, List.set_cons_zero, List.set_cons_succ]
      refine wpList_runTo rfl (some 58) rfl (.bool true) X2 (by exact eqC_run (c := zeroC) (.tmp 56) (.tmp 57) rfl (by kernel_rfl) (by kernel_rfl) _) ?_
      simp only [Act.put, List.setIfInBounds_toArray, List.set_cons_zero, List.set_cons_succ]
      refine wpList_runTo rfl (some 4) rfl (.bool true) X2 (by kernel_rfl) ?_
      simp only [Act.put, List.setIfInBounds_toArray, List.set_cons_zero, List.set_cons_succ]
      refine wpList_nil ?_
      refine hK11 _ _ ?_
      clear hK11
      generalize zeroC.cs = czy
      go_wp2
      go_ret
      exact ⟨rfl, HX2.out.1.bel⟩
    | ok d =>
      rw [hdl] at hde2
      obtain ⟨hdE, hdL, hdok⟩ := enc_dec HB5.out.by'.bb hdl
      go_upto_region 9 with fail
      rename_i K9 hK9
      refine wp_region_lit ?_
      refine wpList_runTo rfl (some 50) rfl (v) W4 (by kernel_rfl) ?_
      simp only [Act.put, List.setIfInBounds_toArray, List.set_cons_zero, List.set_cons_succ]
      refine wpList_callW rfl (some 51) rfl 10 #[v] (by kernel_rfl) hde2 ?_
      clear hde2
      rintro e X1 ⟨rfl, hx⟩
      refine ⟨_, rfl, ?_⟩
      simp only [Act.put, List.setIfInBounds_toArray, List.set_cons_zero, List.set_cons_succ]
      have HX1 : Hid (TB w X1 c pc v l) := HB5.out.below hx.out
      clear hx
      refine wpList_runTo rfl (some 49) rfl (.tuple #[.agg d.cs, .nilIface]) X1 (by kernel_rfl) ?_
      simp only [Act.put, List.setIfInBounds_toArray, List.set_cons_zero, List.set_cons_succ]
      refine wpList_runTo rfl (some 52) rfl (.agg d.cs) X1 (by kernel_rfl) ?_
      simp only [Act.put, List.setIfInBounds_toArray, List.set_cons_zero, List.set_cons_succ]
      refine wpList_runTo rfl (some 53) rfl (.nilIface) X1 (by kernel_rfl) ?_
      simp only [Act.put, List.setIfInBounds_toArray, List.set_cons_zero, List.set_cons_succ]
      refine wpList_runTo rfl (some 10) rfl (.pointer (some ⟨X1.heap.size, 0, none⟩)) (X1.alloc (.cells zeroC.cs 27)) (by kernel_rfl) ?_
      simp only [Act.put, List.setIfInBounds_toArray, List.set_cons_zero, List.set_cons_succ]
      refine store_cmd (c := d) (c' := zeroC) (Blk.new X1 _ _) (.tmp 10) (.tmp 52) rfl rfl (by kernel_rfl) (by kernel_rfl) ?_
      simp only [Act.put, List.setIfInBounds_toArray, List.set_cons_zero, List.set_cons_succ]
      obtain ⟨X2, hX2⟩ : ∃ X2, X2 = (X1.alloc (.cells zeroC.cs 27)).setRow X1.heap.size d.cs := ⟨_, rfl⟩
      have hbB : Below X1.heap.size X1 X2 := by rw [hX2]; exact below_setRow ((Below.refl _ X1).alloc (Nat.le_refl _) _) (Nat.le_refl _) _
      have hB : Blk X2 X1.heap.size 27 d.cs := by rw [hX2]; exact (Blk.new X1 _ _).row
      rw [← hX2]
      have HX2 : Hid (TB w X2 c pc v l ∧ Blk X2 X1.heap.size 27 d.cs) := ⟨HX1.out.below hbB, hB⟩
      clear HX1 hbB hB hX2
      generalize X1.heap.size = pd at *
      refine wpList_runTo rfl (some 11) rfl (.nilIface) X2 (by kernel_rfl) ?_
      simp only [Act.put, List.setIfInBounds_toArray, List.set_cons_zero, List.set_cons_succ]
      refine wpList_nil ?_
      refine hK9 _ _ ?_
      clear hK9
      generalize d.cs = czz
      go_upto_region 10 with fail
      rename_i K10 hK10
      refine wp_region_lit ?_
      refine wpList_runTo rfl (some 54) rfl (.nilIface) X2 (by kernel_rfl) ?_
      simp only [Act.put, List.setIfInBounds_toArray, List.set_cons_zero, List.set_cons_succ]
      refine wpList_runTo rfl (some 55) rfl (.bool false) X2 (by kernel_rfl) ?_
      simp only [Act.put, List.setIfInBounds_toArray, List.set_cons_zero, List.set_cons_succ]
      refine wpList_nil ?_
      refine hK10 _ _ ?_
      clear hK10
      have hen2 := Encode_any d hdok X2
      go_upto_region 12 with fail
      rename_i K12 hK12
      refine wp_region_lit ?_
      refine load_cmd HX2.out.2 (.tmp 10) rfl rfl (by kernel_rfl) ?_
      simp only [Act.put, List.setIfInBounds_toArray, List.set_cons_zero, List.set_cons_succ]
      refine wpList_callW rfl (some 61) rfl 9 #[.agg d.cs] (by kernel_rfl) hen2 ?_
      clear hen2
      rintro e X3 ⟨ve, rfl, hx⟩
      rw [hdE] at hx ⊢
      refine ⟨_, rfl, ?_⟩
      simp only [Act.put, List.setIfInBounds_toArray, List.set_cons_zero, List.set_cons_succ]
      have hye : By X3 ve l := by have := (hx.out.2.1 rfl).by'; rw [hdL] at this; exact this
      have HX3 : Hid (TB w X3 c pc v l) := HX2.out.1.below hx.out.1
      clear hx HX2
      generalize d.cs = czx
      refine wpList_runTo rfl (some 59) rfl (.tuple #[ve, .int .i64 0]) X3 (by kernel_rfl) ?_
      simp only [Act.put, List.setIfInBounds_toArray, List.set_cons_zero, List.set_cons_succ]
      refine wpList_runTo rfl (some 62) rfl (ve) X3 (by kernel_rfl) ?_
      simp only [Act.put, List.setIfInBounds_toArray, List.set_cons_zero, List.set_cons_succ]
      refine wpList_runTo rfl (some 63) rfl (.int .i64 0) X3 (by kernel_rfl) ?_
      simp only [Act.put, List.setIfInBounds_toArray, List.set_cons_zero, List.set_cons_succ]
      refine wpList_runTo rfl (some 12) rfl (ve) X3 (by kernel_rfl) ?_
      simp only [Act.put, List.setIfInBounds_toArray, List.set_cons_zero, List.set_cons_succ]
      refine wpList_runTo rfl (some 13) rfl (.int .i64 0) X3 (by kernel_rfl) ?_
      simp only [Act.put, List.setIfInBounds_toArray, List.set_cons_zero, List.set_cons_succ]
      refine wpList_nil ?_
      refine hK12 _ _ ?_
      clear hK12
      go_upto_region 13 with fail
      rename_i K13 hK13
      refine wp_region_lit ?_
      refine wpList_runTo rfl (some 64) rfl (.int .i64 0) X3 (by kernel_rfl) ?_
      simp only [Act.put, List.setIfInBounds_toArray, List.set_cons_zero, List.set_cons_succ]
      refine wpList_runTo rfl (some 65) rfl (.bool true) X3 (by kernel_rfl) ?_
      simp only [Act.put, List.setIfInBounds_toArray, List.set_cons_zero, List.set_cons_succ]
      refine wpList_runTo rfl (some 66) rfl (.bool true) X3 (by kernel_rfl) ?_
      simp only [Act.put, List.setIfInBounds_toArray, List.set_cons_zero, List.set_cons_succ]
      refine wpList_runToG (by kernel_rfl) (some 67) rfl (ve) X3 (by kernel_rfl) ?_
      simp only [Act.put, List.setIfInBounds_toArray, List.set_cons_zero, List.set_cons_succ]
      refine wpList_runToG (by kernel_rfl) (some 68) rfl (.string (ofN l)) X3 (by exact conv_run (.tmp 67) rfl (by kernel_rfl) hye) ?_
      simp only [Act.put, List.setIfInBounds_toArray, List.set_cons_zero, List.set_cons_succ]
      refine wpList_runToG (by kernel_rfl) (some 69) rfl (v) X3 (by kernel_rfl) ?_
      simp only [Act.put, List.setIfInBounds_toArray, List.set_cons_zero, List.set_cons_succ]
      refine wpList_runToG (by kernel_rfl) (some 70) rfl (.string (ofN l)) X3 (by exact conv_run (.tmp 69) rfl (by kernel_rfl) HX3.out.by') ?_
      simp only [Act.put, List.setIfInBounds_toArray, List.set_cons_zero, List.set_cons_succ]
      refine wpList_runToG (by kernel_rfl) (some 71) rfl (.bool true) X3 (by exact eqS_run (s := ofN l) (.tmp 68) (.tmp 70) rfl (by kernel_rfl) (by kernel_rfl) _) ?_
      simp only [Act.put, List.setIfInBounds_toArray, List.set_cons_zero, List.set_cons_succ]
      refine wpList_runTo rfl (some 72) rfl (.bool true) X3 (by kernel_rfl) ?_
      simp only [Act.put, List.setIfInBounds_toArray, List.set_cons_zero, List.set_cons_succ]
      refine wpList_runTo rfl (some 4) rfl (.bool true) X3 (by kernel_rfl) ?_
      simp only [Act.put, List.setIfInBounds_toArray, List.set_cons_zero, List.set_cons_succ]
      refine wpList_nil ?_
      refine hK13 _ _ ?_
      clear hK13
      generalize ofN l = sl
      go_wp2
      go_ret
      exact ⟨rfl, HX3.out.bel⟩
  · have hve := HE.out.2 h0
    have hz : (encE c == 0) = false := by simpa using h0
    clear HE
    subst hve
    go_upto_region 3 with fail
    rename_i K3 hK3
    refine wp_region_lit ?_
    refine wpList_runTo rfl (some 20) rfl (.bool true) W2 (by kernel_rfl) ?_
    simp only [Act.put, List.setIfInBounds_toArray, List.set_cons_zero, List.set_cons_succ]
    refine wpList_runTo rfl (some 21) rfl (.bool false) W2 (by kernel_rfl) ?_
    simp only [Act.put, List.setIfInBounds_toArray, List.set_cons_zero, List.set_cons_succ]
    refine wpList_runTo rfl (some 22) rfl (.bool false) W2 (by kernel_rfl) ?_
    simp only [Act.put, List.setIfInBounds_toArray, List.set_cons_zero, List.set_cons_succ]
    refine wpList_runToG (by kernel_rfl) (some 23) rfl (.int .i64 (encE c)) W2 (by kernel_rfl) ?_
    simp only [Act.put, List.setIfInBounds_toArray, List.set_cons_zero, List.set_cons_succ]
    refine wpList_runToG (by kernel_rfl) (some 24) rfl (.bool false) W2 (by exact eqE_run (z := encE c) (.tmp 23) (.const (.int .i64 0)) rfl (by kernel_rfl) rfl hz _) ?_
    simp only [Act.put, List.setIfInBounds_toArray, List.set_cons_zero, List.set_cons_succ]
    refine wpList_runToG (by kernel_rfl) (some 25) rfl (.slice none 0 0) W2 (by kernel_rfl) ?_
    simp only [Act.put, List.setIfInBounds_toArray, List.set_cons_zero, List.set_cons_succ]
    refine wpList_runToG (by kernel_rfl) (some 26) rfl (.int .i64 0) W2 (by kernel_rfl) ?_
    simp only [Act.put, List.setIfInBounds_toArray, List.set_cons_zero, List.set_cons_succ]
    refine wpList_runToG (by kernel_rfl) (some 27) rfl (.bool false) W2 (by kernel_rfl) ?_
    simp only [Act.put, List.setIfInBounds_toArray, List.set_cons_zero, List.set_cons_succ]
    refine wpList_runToG (by kernel_rfl) (some 28) rfl (.bool false) W2 (by kernel_rfl) ?_
    simp only [Act.put, List.setIfInBounds_toArray, List.set_cons_zero, List.set_cons_succ]
    refine wpList_runTo rfl (some 29) rfl (.bool false) W2 (by kernel_rfl) ?_
    simp only [Act.put, List.setIfInBounds_toArray, List.set_cons_zero, List.set_cons_succ]
    refine wpList_runTo rfl (some 30) rfl (.bool false) W2 (by kernel_rfl) ?_
    simp only [Act.put, List.setIfInBounds_toArray, List.set_cons_zero, List.set_cons_succ]
    refine wpList_runToG (by kernel_rfl) (some 31) rfl (.slice none 0 0) W2 (by kernel_rfl) ?_
    simp only [Act.put, List.setIfInBounds_toArray, List.set_cons_zero, List.set_cons_succ]
    refine wpList_runToG (by kernel_rfl) (some 32) rfl (.int .i64 0) W2 (by kernel_rfl) ?_
    simp only [Act.put, List.setIfInBounds_toArray, List.set_cons_zero, List.set_cons_succ]
    refine wpList_runToG (by kernel_rfl) (some 33) rfl (.bool false) W2 (by kernel_rfl) ?_
    simp only [Act.put, List.setIfInBounds_toArray, List.set_cons_zero, List.set_cons_succ]
    refine wpList_runTo rfl (some 34) rfl (.bool false) W2 (by kernel_rfl) ?_
    simp only [Act.put, List.setIfInBounds_toArray, List.set_cons_zero, List.set_cons_succ]
    refine wpList_nil ?_
    refine hK3 _ _ ?_
    clear hK3
    go_upto_region 5 with fail
    rename_i K5 hK5
    refine wp_region_lit ?_
    refine wpList_runTo rfl (some 35) rfl (.int .i64 (encE c)) W2 (by kernel_rfl) ?_
    simp only [Act.put, List.setIfInBounds_toArray, List.set_cons_zero, List.set_cons_succ]
    refine wpList_runTo rfl (some 36) rfl (.bool false) W2 (by exact eqE_run (z := encE c) (.tmp 35) (.const (.int .i64 0)) rfl (by kernel_rfl) rfl hz _) ?_
    simp only [Act.put, List.setIfInBounds_toArray, List.set_cons_zero, List.set_cons_succ]
    refine wpList_nil ?_
    refine hK5 _ _ ?_
    clear hK5 hz
    generalize encE c = ez at *
    have hde2 := Decode_any HB2.out.by' HL.out
    cases hdl : dec l with
    | error p =>
      rw [hdl] at hde2
      go_upto_region 9 with fail
      rename_i K9 hK9
      refine wp_region_lit ?_
      refine wpList_runTo rfl (some 50) rfl (v) W2 (by kernel_rfl) ?_
      simp only [Act.put, List.setIfInBounds_toArray, List.set_cons_zero, List.set_cons_succ]
      refine wpList_callW rfl (some 51) rfl 10 #[v] (by kernel_rfl) hde2 ?_
      clear hde2
      rintro e X1 ⟨fg, rfl, hx⟩
      refine ⟨_, rfl, ?_⟩
      simp only [Act.put, List.setIfInBounds_toArray, List.set_cons_zero, List.set_cons_succ]
      have HX1 : Hid (TB w X1 c pc v l) := HB2.out.below hx.out.1
      clear hx
      refine wpList_runTo rfl (some 49) rfl (.tuple #[.agg zeroC.cs, .iface 54 (.pointer (some ⟨fg, 0, none⟩))]) X1 (by kernel_rfl) ?_
      simp only [Act.put, List.setIfInBounds_toArray, List.set_cons_zero, List.set_cons_succ]
      refine wpList_runTo rfl (some 52) rfl (.agg zeroC.cs) X1 (by kernel_rfl) ?_
      simp only [Act.put, List.setIfInBounds_toArray, List.set_cons_zero, List.set_cons_succ]
      refine wpList_runTo rfl (some 53) rfl (.iface 54 (.pointer (some ⟨fg, 0, none⟩))) X1 (by kernel_rfl) ?_
      simp only [Act.put, List.setIfInBounds_toArray, List.set_cons_zero, List.set_cons_succ]
      refine wpList_runTo rfl (some 10) rfl (.pointer (some ⟨X1.heap.size, 0, none⟩)) (X1.alloc (.cells zeroC.cs 27)) (by kernel_rfl) ?_
      simp only [Act.put, List.setIfInBounds_toArray, List.set_cons_zero, List.set_cons_succ]
      refine store_cmd (c := zeroC) (c' := zeroC) (Blk.new X1 _ _) (.tmp 10) (.tmp 52) rfl rfl (by kernel_rfl) (by kernel_rfl) ?_
      simp only [Act.put, List.setIfInBounds_toArray, List.set_cons_zero, List.set_cons_succ]
      obtain ⟨X2, hX2⟩ : ∃ X2, X2 = (X1.alloc (.cells zeroC.cs 27)).setRow X1.heap.size zeroC.cs := ⟨_, rfl⟩
      have hbB : Below X1.heap.size X1 X2 := by rw [hX2]; exact below_setRow ((Below.refl _ X1).alloc (Nat.le_refl _) _) (Nat.le_refl _) _
      have hB : Blk X2 X1.heap.size 27 zeroC.cs := by rw [hX2]; exact (Blk.new X1 _ _).row
      rw [← hX2]
      have HX2 : Hid (TB w X2 c pc v l ∧ Blk X2 X1.heap.size 27 zeroC.cs) := ⟨HX1.out.below hbB, hB⟩
      clear HX1 hbB hB hX2
      generalize X1.heap.size = pd at *
      refine wpList_runTo rfl (some 11) rfl (.iface 54 (.pointer (some ⟨fg, 0, none⟩))) X2 (by kernel_rfl) ?_
      simp only [Act.put, List.setIfInBounds_toArray, List.set_cons_zero, List.set_cons_succ]
      refine wpList_nil ?_
      refine hK9 _ _ ?_
      clear hK9
      generalize zeroC.cs = czz
      go_upto_region 10 with fail
      rename_i K10 hK10
      refine wp_region_lit ?_
      refine wpList_runTo rfl (some 54) rfl (.iface 54 (.pointer (some ⟨fg, 0, none⟩))) X2 (by kernel_rfl) ?_
      simp only [Act.put, List.setIfInBounds_toArray, List.set_cons_zero, List.set_cons_succ]
      refine wpList_runTo rfl (some 55) rfl (.bool true) X2 (by go_simp) ?_
      simp only [Act.put, List.setIfInBounds_toArray, List.set_cons_zero, List.set_cons_succ]
      refine wpList_nil ?_
      refine hK10 _ _ ?_
      clear hK10
      go_upto_region 11 with fail
      rename_i K11 hK11
      refine wp_region_lit ?_
      refine load_cmd HX2.out.2 (.tmp 10) rfl rfl (by kernel_rfl) ?_
      simp only [Act.put, List.setIfInBounds_toArray, List.set_cons_zero, List.set_cons_succ]
      refine wpList_runTo rfl (some 57) rfl (.agg zeroC.cs) X2 (by kernel_rfl) ?_
      simp only [Act.put, List.setIfInBounds_toArray, List.set_cons_zero, List.set_cons_succ]
      refine wpList_runTo rfl (some 58) rfl (.bool true) X2 (by exact eqC_run (c := zeroC) (.tmp 56) (.tmp 57) rfl (by kernel_rfl) (by kernel_rfl) _) ?_
      simp only [Act.put, List.setIfInBounds_toArray, List.set_cons_zero, List.set_cons_succ]
      refine wpList_runTo rfl (some 4) rfl (.bool true) X2 (by kernel_rfl) ?_
      simp only [Act.put, List.setIfInBounds_toArray, List.set_cons_zero, List.set_cons_succ]
      refine wpList_nil ?_
      refine hK11 _ _ ?_
      clear hK11
      generalize zeroC.cs = czy
      go_wp2
      go_ret
      exact ⟨rfl, HX2.out.1.bel⟩
    | ok d =>
      rw [hdl] at hde2
      obtain ⟨hdE, hdL, hdok⟩ := enc_dec HB2.out.by'.bb hdl
      go_upto_region 9 with fail
      rename_i K9 hK9
      refine wp_region_lit ?_
      refine wpList_runTo rfl (some 50) rfl (v) W2 (by kernel_rfl) ?_
      simp only [Act.put, List.setIfInBounds_toArray, List.set_cons_zero, List.set_cons_succ]
      refine wpList_callW rfl (some 51) rfl 10 #[v] (by kernel_rfl) hde2 ?_
      clear hde2
      rintro e X1 ⟨rfl, hx⟩
      refine ⟨_, rfl, ?_⟩
      simp only [Act.put, List.setIfInBounds_toArray, List.set_cons_zero, List.set_cons_succ]
      have HX1 : Hid (TB w X1 c pc v l) := HB2.out.below hx.out
      clear hx
      refine wpList_runTo rfl (some 49) rfl (.tuple #[.agg d.cs, .nilIface]) X1 (by kernel_rfl) ?_
      simp only [Act.put, List.setIfInBounds_toArray, List.set_cons_zero, List.set_cons_succ]
      refine wpList_runTo rfl (some 52) rfl (.agg d.cs) X1 (by kernel_rfl) ?_
      simp only [Act.put, List.setIfInBounds_toArray, List.set_cons_zero, List.set_cons_succ]
      refine wpList_runTo rfl (some 53) rfl (.nilIface) X1 (by kernel_rfl) ?_
      simp only [Act.put, List.setIfInBounds_toArray, List.set_cons_zero, List.set_cons_succ]
      refine wpList_runTo rfl (some 10) rfl (.pointer (some ⟨X1.heap.size, 0, none⟩)) (X1.alloc (.cells zeroC.cs 27)) (by kernel_rfl) ?_
      simp only [Act.put, List.setIfInBounds_toArray, List.set_cons_zero, List.set_cons_succ]
      refine store_cmd (c := d) (c' := zeroC) (Blk.new X1 _ _) (.tmp 10) (.tmp 52) rfl rfl (by kernel_rfl) (by kernel_rfl) ?_
      simp only [Act.put, List.setIfInBounds_toArray, List.set_cons_zero, List.set_cons_succ]
      obtain ⟨X2, hX2⟩ : ∃ X2, X2 = (X1.alloc (.cells zeroC.cs 27)).setRow X1.heap.size d.cs := ⟨_, rfl⟩
      have hbB : Below X1.heap.size X1 X2 := by rw [hX2]; exact below_setRow ((Below.refl _ X1).alloc (Nat.le_refl _) _) (Nat.le_refl _) _
      have hB : Blk X2 X1.heap.size 27 d.cs := by rw [hX2]; exact (Blk.new X1 _ _).row
      rw [← hX2]
      have HX2 : Hid (TB w X2 c pc v l ∧ Blk X2 X1.heap.size 27 d.cs) := ⟨HX1.out.below hbB, hB⟩
      clear HX1 hbB hB hX2
      generalize X1.heap.size = pd at *
      refine wpList_runTo rfl (some 11) rfl (.nilIface) X2 (by kernel_rfl) ?_
      simp only [Act.put, List.setIfInBounds_toArray, List.set_cons_zero, List.set_cons_succ]
      refine wpList_nil ?_
      refine hK9 _ _ ?_
      clear hK9
      generalize d.cs = czz
      go_upto_region 10 with fail
      rename_i K10 hK10
      refine wp_region_lit ?_
      refine wpList_runTo rfl (some 54) rfl (.nilIface) X2 (by kernel_rfl) ?_
      simp only [Act.put, List.setIfInBounds_toArray, List.set_cons_zero, List.set_cons_succ]
      refine wpList_runTo rfl (some 55) rfl (.bool false) X2 (by kernel_rfl) ?_
      simp only [Act.put, List.setIfInBounds_toArray, List.set_cons_zero, List.set_cons_succ]
      refine wpList_nil ?_
      refine hK10 _ _ ?_
      clear hK10
      have hen2 := Encode_any d hdok X2
      go_upto_region 12 with fail
      rename_i K12 hK12
      refine wp_region_lit ?_
      refine load_cmd HX2.out.2 (.tmp 10) rfl rfl (by kernel_rfl) ?_
      simp only [Act.put, List.setIfInBounds_toArray, List.set_cons_zero, List.set_cons_succ]
      refine wpList_callW rfl (some 61) rfl 9 #[.agg d.cs] (by kernel_rfl) hen2 ?_
      clear hen2
      rintro e X3 ⟨ve, rfl, hx⟩
      rw [hdE] at hx ⊢
      refine ⟨_, rfl, ?_⟩
      simp only [Act.put, List.setIfInBounds_toArray, List.set_cons_zero, List.set_cons_succ]
      have hye : By X3 ve l := by have := (hx.out.2.1 rfl).by'; rw [hdL] at this; exact this
      have HX3 : Hid (TB w X3 c pc v l) := HX2.out.1.below hx.out.1
      clear hx HX2
      generalize d.cs = czx
      refine wpList_runTo rfl (some 59) rfl (.tuple #[ve, .int .i64 0]) X3 (by kernel_rfl) ?_
      simp only [Act.put, List.setIfInBounds_toArray, List.set_cons_zero, List.set_cons_succ]
      refine wpList_runTo rfl (some 62) rfl (ve) X3 (by kernel_rfl) ?_
      simp only [Act.put, List.setIfInBounds_toArray, List.set_cons_zero, List.set_cons_succ]
      refine wpList_runTo rfl (some 63) rfl (.int .i64 0) X3 (by kernel_rfl) ?_
      simp only [Act.put, List.setIfInBounds_toArray, List.set_cons_zero, List.set_cons_succ]
      refine wpList_runTo rfl (some 12) rfl (ve) X3 (by kernel_rfl) ?_
      simp only [Act.put, List.setIfInBounds_toArray, List.set_cons_zero, List.set_cons_succ]
      refine wpList_runTo rfl (some 13) rfl (.int .i64 0) X3 (by kernel_rfl) ?_
      simp only [Act.put, List.setIfInBounds_toArray, List.set_cons_zero, List.set_cons_succ]
      refine wpList_nil ?_
      refine hK12 _ _ ?_
      clear hK12
      go_upto_region 13 with fail
      rename_i K13 hK13
      refine wp_region_lit ?_
      refine wpList_runTo rfl (some 64) rfl (.int .i64 0) X3 (by kernel_rfl) ?_
      simp only [Act.put, List.setIfInBounds_toArray, List.set_cons_zero, List.set_cons_succ]
      refine wpList_runTo rfl (some 65) rfl (.bool true) X3 (by kernel_rfl) ?_
      simp only [Act.put, List.setIfInBounds_toArray, List.set_cons_zero, List.set_cons_succ]
      refine wpList_runTo rfl (some 66) rfl (.bool true) X3 (by kernel_rfl) ?_
      simp only [Act.put, List.setIfInBounds_toArray, List.set_cons_zero, List.set_cons_succ]
      refine wpList_runToG (by kernel_rfl) (some 67) rfl (ve) X3 (by kernel_rfl) ?_
      simp only [Act.put, List.setIfInBounds_toArray, List.set_cons_zero, List.set_cons_succ]
      refine wpList_runToG (by kernel_rfl) (some 68) rfl (.string (ofN l)) X3 (by exact conv_run (.tmp 67) rfl (by kernel_rfl) hye) ?_
      simp only [Act.put, List.setIfInBounds_toArray, List.set_cons_zero, List.set_cons_succ]
      refine wpList_runToG (by kernel_rfl) (some 69) rfl (v) X3 (by kernel_rfl) ?_
      simp only [Act.put, List.setIfInBounds_toArray, List.set_cons_zero, List.set_cons_succ]
      refine wpList_runToG (by kernel_rfl) (some 70) rfl (.string (ofN l)) X3 (by exact conv_run (.tmp 69) rfl (by kernel_rfl) HX3.out.by') ?_
      simp only [Act.put, List.setIfInBounds_toArray, List.set_cons_zero, List.set_cons_succ]
      refine wpList_runToG (by kernel_rfl) (some 71) rfl (.bool true) X3 (by exact eqS_run (s := ofN l) (.tmp 68) (.tmp 70) rfl (by kernel_rfl) (by kernel_rfl) _) ?_
      simp only [Act.put, List.setIfInBounds_toArray, List.set_cons_zero, List.set_cons_succ]
      refine wpList_runTo rfl (some 72) rfl (.bool true) X3 (by kernel_rfl) ?_
      simp only [Act.put, List.setIfInBounds_toArray, List.set_cons_zero, List.set_cons_succ]
      refine wpList_runTo rfl (some 4) rfl (.bool true) X3 (by kernel_rfl) ?_
      simp only [Act.put, List.setIfInBounds_toArray, List.set_cons_zero, List.set_cons_succ]
      refine wpList_nil ?_
      refine hK13 _ _ ?_
      clear hK13
      generalize ofN l = sl
      go_wp2
      go_ret
      exact ⟨rfl, HX3.out.bel⟩
theorem TapeBack_row {w : World} {c : Cm} (hc : c.ok) {v : Value} {l : List Nat} (hv : By w v l) (hl : l.length ≤ maxLen) : Calls Try.prog 3 #[.agg c.cs, v] w fun e w' => e = .returned (.bool true) ∧ Below w.heap.size w w' :=
  (TapeBack_law hc hv (Nat.le_trans hl (by decide))).mono fun e w' h => ⟨h.1, h.2.out⟩
end Go.Proofs.Ytjnnecoikcmaeaa
