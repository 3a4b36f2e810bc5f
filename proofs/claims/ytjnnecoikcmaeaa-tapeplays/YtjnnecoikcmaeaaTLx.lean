import Derived.Test.YtjnnecoikcmaeaaTEa
import Derived.Test.YtjnnecoikcmaeaaTQ7
import Derived.BigQuiet

namespace Go.Proofs.Ytjnnecoikcmaeaa
set_option linter.unusedVariables false
set_option linter.unusedSimpArgs false
open Go.RowKit Go.Great

theorem wpList_skipG {P : Program} {ops : Array Oper} {rest : List Oper} {o : Oper} {a : Act} {w : World} {Q : Exit → Act → World → Prop} (hw : Region.wanted o (yielded ops a.tmps) = false)
    (h : wpList P ops Q rest (a.put o.dst undef) w) : wpList P ops Q (o :: rest) a w :=
  wpList_step fun K hK => by rw [if_neg (by rw [hw]; exact Bool.false_ne_true)]; exact hK _ _ h
theorem geY_run {op : Oper} {a : Act} {i : Int} {q : Nat} (x y : Operand) (ho : op.op = .binOp .geq 3 x y 3) (hx : a.eval x = .int .i64 i) (hy : a.eval y = .int .i64 (q : Int)) (h : (q : Int) ≤ i) (w : World) : (execOp a.eval op).run Try.prog w = .ok (.value (.bool true)) w := by
  unfold execOp
  simp only [ho, hx, hy]
  go_simp
set_option maxRecDepth 100000 in
set_option maxHeartbeats 4000000 in
theorem Command_neg {w : World} {g : Nat} {i : Int} (hi : i < 0) : Calls Try.prog 16 #[.pointer (some ⟨g, 0, none⟩), .int .i64 i] w fun e w' => e = .returned (.tuple #[.agg zeroC.cs, .int .i64 1]) ∧ Hid (Below w.heap.size w w') := by
  obtain ⟨W0, hW0⟩ : ∃ W0, W0 = w.alloc (.cells zeroC.cs 27) := ⟨_, rfl⟩
  have hb0 : Below w.heap.size w W0 := by rw [hW0]; exact (Below.refl _ w).alloc (Nat.le_refl _) _
  have hk0 : Blk W0 w.heap.size 27 zeroC.cs := by rw [hW0]; exact Blk.new _ _ _
  have HB0 : Hid (Below w.heap.size w W0 ∧ Blk W0 w.heap.size 27 zeroC.cs) := ⟨hb0, hk0⟩
  clear hb0 hk0
  go_enter Try.func16, Try.ntmps16
  go_upto_region 0 with fail
  rename_i K0 hK0
  refine wp_region_lit ?_
  refine wpList_runTo rfl (some 4) rfl (.pointer (some ⟨w.heap.size, 0, none⟩)) (w.alloc (.cells zeroC.cs 27)) (by kernel_rfl) ?_
  simp only [Act.put, List.setIfInBounds_toArray, List.set_cons_zero, List.set_cons_succ]
  rw [← hW0]
  clear hW0
  refine wpList_runTo rfl (some 5) rfl (.int .i64 0) W0 (by kernel_rfl) ?_
  simp only [Act.put, List.setIfInBounds_toArray, List.set_cons_zero, List.set_cons_succ]
  refine wpList_nil ?_
  refine hK0 _ _ ?_
  clear hK0
  go_upto_region 1 with fail
  rename_i K1 hK1
  refine wp_region_lit ?_
  refine wpList_runTo rfl (some 8) rfl (.int .i64 i) W0 (by kernel_rfl) ?_
  simp only [Act.put, List.setIfInBounds_toArray, List.set_cons_zero, List.set_cons_succ]
  refine wpList_runTo rfl (some 9) rfl (.bool true) W0 (by go_simp) ?_
  simp only [Act.put, List.setIfInBounds_toArray, List.set_cons_zero, List.set_cons_succ]
  refine wpList_runTo rfl (some 10) rfl (.bool true) W0 (by kernel_rfl) ?_
  simp only [Act.put, List.setIfInBounds_toArray, List.set_cons_zero, List.set_cons_succ]
  refine wpList_skipG (by kernel_rfl) ?_
  simp only [Act.put, List.setIfInBounds_toArray, List.set_cons_zero, List.set_cons_succ]
  refine wpList_skipG (by kernel_rfl) ?_
  simp only [Act.put, List.setIfInBounds_toArray, List.set_cons_zero, List.set_cons_succ]
  refine wpList_skipG (by kernel_rfl) ?_
  simp only [Act.put, List.setIfInBounds_toArray, List.set_cons_zero, List.set_cons_succ]
  refine wpList_skipG (by kernel_rfl) ?_
  simp only [Act.put, List.setIfInBounds_toArray, List.set_cons_zero, List.set_cons_succ]
  refine wpList_runTo rfl (some 15) rfl (.bool true) W0 (by kernel_rfl) ?_
  simp only [Act.put, List.setIfInBounds_toArray, List.set_cons_zero, List.set_cons_succ]
  refine wpList_nil ?_
  refine hK1 _ _ ?_
  clear hK1
  go_upto_region 2 with fail
  rename_i K2 hK2
  refine wp_region_lit ?_
  refine wpList_runTo rfl (some 16) rfl (.agg zeroC.cs) W0 (by kernel_rfl) ?_
  simp only [Act.put, List.setIfInBounds_toArray, List.set_cons_zero, List.set_cons_succ]
  refine store_cmd (c := zeroC) HB0.out.2 (.tmp 4) (.tmp 16) rfl rfl (by kernel_rfl) (by kernel_rfl) ?_
  simp only [Act.put, List.setIfInBounds_toArray, List.set_cons_zero, List.set_cons_succ]
  refine wpList_runTo rfl (some 5) rfl (.int .i64 1) (W0.setRow w.heap.size zeroC.cs) (by kernel_rfl) ?_
  simp only [Act.put, List.setIfInBounds_toArray, List.set_cons_zero, List.set_cons_succ]
  refine wpList_nil ?_
  refine hK2 _ _ ?_
  apply wp_ret
  try simp only [Exit.then]
  refine bodyPost_ret (results_cr2 (fn := Try.f16) (p := 4) (u := 5) (ty := 27) rfl _ _ w.heap.size 27 zeroC.cs (0, 0) _ (by kernel_rfl) HB0.out.2.row Try.underlying27 rfl (by rw [Cm.cs_size]; exact info27)) (by kernel_rfl) ?_
  exact ⟨rfl, below_setRow HB0.out.1 (Nat.le_refl _) _⟩
set_option maxRecDepth 100000 in
set_option maxHeartbeats 4000000 in
theorem Command_beyond {w : World} {t : Tp} (h : TpAt w t) {i : Int} (h0 : ¬ i < 0) (hi : (t.es.length : Int) ≤ i) (hes : t.es.length ≤ 1000000) : Calls Try.prog 16 #[.pointer (some ⟨t.g, 0, none⟩), .int .i64 i] w fun e w' => e = .returned (.tuple #[.agg zeroC.cs, .int .i64 1]) ∧ Hid (Below w.heap.size w w') := by
  obtain ⟨W0, hW0⟩ : ∃ W0, W0 = w.alloc (.cells zeroC.cs 27) := ⟨_, rfl⟩
  have hb0 : Below w.heap.size w W0 := by rw [hW0]; exact (Below.refl _ w).alloc (Nat.le_refl _) _
  have hk0 : Blk W0 w.heap.size 27 zeroC.cs := by rw [hW0]; exact Blk.new _ _ _
  have HB0 : Hid (Below w.heap.size w W0 ∧ Blk W0 w.heap.size 27 zeroC.cs) := ⟨hb0, hk0⟩
  have hln := Len_any (h.below hb0) (by omega)
  clear hb0 hk0 h
  go_enter Try.func16, Try.ntmps16
  go_upto_region 0 with fail
  rename_i K0 hK0
  refine wp_region_lit ?_
  refine wpList_runTo rfl (some 4) rfl (.pointer (some ⟨w.heap.size, 0, none⟩)) (w.alloc (.cells zeroC.cs 27)) (by kernel_rfl) ?_
  simp only [Act.put, List.setIfInBounds_toArray, List.set_cons_zero, List.set_cons_succ]
  rw [← hW0]
  clear hW0
  refine wpList_runTo rfl (some 5) rfl (.int .i64 0) W0 (by kernel_rfl) ?_
  simp only [Act.put, List.setIfInBounds_toArray, List.set_cons_zero, List.set_cons_succ]
  refine wpList_nil ?_
  refine hK0 _ _ ?_
  clear hK0
  go_upto_region 1 with fail
  rename_i K1 hK1
  refine wp_region_lit ?_
  refine wpList_runTo rfl (some 8) rfl (.int .i64 i) W0 (by kernel_rfl) ?_
  simp only [Act.put, List.setIfInBounds_toArray, List.set_cons_zero, List.set_cons_succ]
  refine wpList_runTo rfl (some 9) rfl (.bool false) W0 (by go_simp) ?_
  simp only [Act.put, List.setIfInBounds_toArray, List.set_cons_zero, List.set_cons_succ]
  refine wpList_runTo rfl (some 10) rfl (.bool false) W0 (by kernel_rfl) ?_
  simp only [Act.put, List.setIfInBounds_toArray, List.set_cons_zero, List.set_cons_succ]
  refine wpList_runToG (by kernel_rfl) (some 11) rfl (.int .i64 i) W0 (by kernel_rfl) ?_
  simp only [Act.put, List.setIfInBounds_toArray, List.set_cons_zero, List.set_cons_succ]
  refine wpList_runToG (by kernel_rfl) (some 12) rfl (.pointer (some ⟨t.g, 0, none⟩)) W0 (by kernel_rfl) ?_
  simp only [Act.put, List.setIfInBounds_toArray, List.set_cons_zero, List.set_cons_succ]
  refine wpList_callG (by kernel_rfl) (some 13) rfl 15 #[.pointer (some ⟨t.g, 0, none⟩)] (by kernel_rfl) hln ?_
  rintro e w2 ⟨rfl, ew⟩
  replace ew := ew.symm
  subst ew
  refine ⟨_, rfl, ?_⟩
  simp only [Act.put, List.setIfInBounds_toArray, List.set_cons_zero, List.set_cons_succ]
  refine wpList_runToG (by kernel_rfl) (some 14) rfl (.bool true) W0 (by exact geY_run (.tmp 11) (.tmp 13) rfl (by kernel_rfl) (by kernel_rfl) hi _) ?_
  simp only [Act.put, List.setIfInBounds_toArray, List.set_cons_zero, List.set_cons_succ]
  refine wpList_runTo rfl (some 15) rfl (.bool true) W0 (by kernel_rfl) ?_
  simp only [Act.put, List.setIfInBounds_toArray, List.set_cons_zero, List.set_cons_succ]
  refine wpList_nil ?_
  refine hK1 _ _ ?_
  clear hK1
  go_upto_region 2 with fail
  rename_i K2 hK2
  refine wp_region_lit ?_
  refine wpList_runTo rfl (some 16) rfl (.agg zeroC.cs) W0 (by kernel_rfl) ?_
  simp only [Act.put, List.setIfInBounds_toArray, List.set_cons_zero, List.set_cons_succ]
  refine store_cmd (c := zeroC) HB0.out.2 (.tmp 4) (.tmp 16) rfl rfl (by kernel_rfl) (by kernel_rfl) ?_
  simp only [Act.put, List.setIfInBounds_toArray, List.set_cons_zero, List.set_cons_succ]
  refine wpList_runTo rfl (some 5) rfl (.int .i64 1) (W0.setRow w.heap.size zeroC.cs) (by kernel_rfl) ?_
  simp only [Act.put, List.setIfInBounds_toArray, List.set_cons_zero, List.set_cons_succ]
  refine wpList_nil ?_
  refine hK2 _ _ ?_
  apply wp_ret
  try simp only [Exit.then]
  refine bodyPost_ret (results_cr2 (fn := Try.f16) (p := 4) (u := 5) (ty := 27) rfl _ _ w.heap.size 27 zeroC.cs (0, 0) _ (by kernel_rfl) HB0.out.2.row Try.underlying27 rfl (by rw [Cm.cs_size]; exact info27)) (by kernel_rfl) ?_
  exact ⟨rfl, below_setRow HB0.out.1 (Nat.le_refl _) _⟩
theorem Command_no {w : World} {t : Tp} (h : TpAt w t) {i : Int} (hi : i < 0 ∨ (t.es.length : Int) ≤ i) (hes : t.es.length ≤ 1000000) : Calls Try.prog 16 #[.pointer (some ⟨t.g, 0, none⟩), .int .i64 i] w fun e w' => e = .returned (.tuple #[.agg zeroC.cs, .int .i64 1]) ∧ Hid (Below w.heap.size w w') := by
  by_cases h0 : i < 0
  · exact Command_neg h0
  · exact Command_beyond h h0 (by omega) hes
set_option maxRecDepth 100000 in
set_option maxHeartbeats 4000000 in
theorem refCommand_neg {w : World} {g : Nat} {i : Int} (hi : i < 0) : Calls Try.prog 26 #[.pointer (some ⟨g, 0, none⟩), .int .i64 i] w fun e w' => e = .returned (.tuple #[.agg zeroC.cs, .int .i64 1]) ∧ Hid (Below w.heap.size w w') := by
  obtain ⟨W0, hW0⟩ : ∃ W0, W0 = w.alloc (.cells zeroC.cs 27) := ⟨_, rfl⟩
  have hb0 : Below w.heap.size w W0 := by rw [hW0]; exact (Below.refl _ w).alloc (Nat.le_refl _) _
  have hk0 : Blk W0 w.heap.size 27 zeroC.cs := by rw [hW0]; exact Blk.new _ _ _
  have HB0 : Hid (Below w.heap.size w W0 ∧ Blk W0 w.heap.size 27 zeroC.cs) := ⟨hb0, hk0⟩
  clear hb0 hk0
  go_enter Try.func26, Try.ntmps26
  go_upto_region 0 with fail
  rename_i K0 hK0
  refine wp_region_lit ?_
  refine wpList_runTo rfl (some 4) rfl (.pointer (some ⟨w.heap.size, 0, none⟩)) (w.alloc (.cells zeroC.cs 27)) (by kernel_rfl) ?_
  simp only [Act.put, List.setIfInBounds_toArray, List.set_cons_zero, List.set_cons_succ]
  rw [← hW0]
  clear hW0
  refine wpList_runTo rfl (some 5) rfl (.int .i64 0) W0 (by kernel_rfl) ?_
  simp only [Act.put, List.setIfInBounds_toArray, List.set_cons_zero, List.set_cons_succ]
  refine wpList_nil ?_
  refine hK0 _ _ ?_
  clear hK0
  go_upto_region 1 with fail
  rename_i K1 hK1
  refine wp_region_lit ?_
  refine wpList_runTo rfl (some 6) rfl (.int .i64 i) W0 (by kernel_rfl) ?_
  simp only [Act.put, List.setIfInBounds_toArray, List.set_cons_zero, List.set_cons_succ]
  refine wpList_runTo rfl (some 7) rfl (.bool true) W0 (by go_simp) ?_
  simp only [Act.put, List.setIfInBounds_toArray, List.set_cons_zero, List.set_cons_succ]
  refine wpList_runTo rfl (some 8) rfl (.bool true) W0 (by kernel_rfl) ?_
  simp only [Act.put, List.setIfInBounds_toArray, List.set_cons_zero, List.set_cons_succ]
  refine wpList_skipG (by kernel_rfl) ?_
  simp only [Act.put, List.setIfInBounds_toArray, List.set_cons_zero, List.set_cons_succ]
  refine wpList_skipG (by kernel_rfl) ?_
  simp only [Act.put, List.setIfInBounds_toArray, List.set_cons_zero, List.set_cons_succ]
  refine wpList_skipG (by kernel_rfl) ?_
  simp only [Act.put, List.setIfInBounds_toArray, List.set_cons_zero, List.set_cons_succ]
  refine wpList_skipG (by kernel_rfl) ?_
  simp only [Act.put, List.setIfInBounds_toArray, List.set_cons_zero, List.set_cons_succ]
  refine wpList_skipG (by kernel_rfl) ?_
  simp only [Act.put, List.setIfInBounds_toArray, List.set_cons_zero, List.set_cons_succ]
  refine wpList_skipG (by kernel_rfl) ?_
  simp only [Act.put, List.setIfInBounds_toArray, List.set_cons_zero, List.set_cons_succ]
  refine wpList_skipG (by kernel_rfl) ?_
  simp only [Act.put, List.setIfInBounds_toArray, List.set_cons_zero, List.set_cons_succ]
  refine wpList_runTo rfl (some 16) rfl (.bool true) W0 (by kernel_rfl) ?_
  simp only [Act.put, List.setIfInBounds_toArray, List.set_cons_zero, List.set_cons_succ]
  refine wpList_nil ?_
  refine hK1 _ _ ?_
  clear hK1
  go_upto_region 2 with fail
  rename_i K2 hK2
  refine wp_region_lit ?_
  refine wpList_runTo rfl (some 17) rfl (.agg zeroC.cs) W0 (by kernel_rfl) ?_
  simp only [Act.put, List.setIfInBounds_toArray, List.set_cons_zero, List.set_cons_succ]
  refine store_cmd (c := zeroC) HB0.out.2 (.tmp 4) (.tmp 17) rfl rfl (by kernel_rfl) (by kernel_rfl) ?_
  simp only [Act.put, List.setIfInBounds_toArray, List.set_cons_zero, List.set_cons_succ]
  refine wpList_runTo rfl (some 5) rfl (.int .i64 1) (W0.setRow w.heap.size zeroC.cs) (by kernel_rfl) ?_
  simp only [Act.put, List.setIfInBounds_toArray, List.set_cons_zero, List.set_cons_succ]
  refine wpList_nil ?_
  refine hK2 _ _ ?_
  apply wp_ret
  try simp only [Exit.then]
  refine bodyPost_ret (results_cr2 (fn := Try.f26) (p := 4) (u := 5) (ty := 27) rfl _ _ w.heap.size 27 zeroC.cs (0, 0) _ (by kernel_rfl) HB0.out.2.row Try.underlying27 rfl (by rw [Cm.cs_size]; exact info27)) (by kernel_rfl) ?_
  exact ⟨rfl, below_setRow HB0.out.1 (Nat.le_refl _) _⟩
set_option maxRecDepth 100000 in
set_option maxHeartbeats 4000000 in
theorem refCommand_beyond {w : World} {g : Nat} {lv : Value} {L : List Cm} (h : RtAt w g lv L) {i : Int} (h0 : ¬ i < 0) (hi : (L.length : Int) ≤ i) : Calls Try.prog 26 #[.pointer (some ⟨g, 0, none⟩), .int .i64 i] w fun e w' => e = .returned (.tuple #[.agg zeroC.cs, .int .i64 1]) ∧ Hid (Below w.heap.size w w') := by
  obtain ⟨la, lc, hlf, _⟩ := h.row.form
  obtain ⟨W0, hW0⟩ : ∃ W0, W0 = w.alloc (.cells zeroC.cs 27) := ⟨_, rfl⟩
  have hb0 : Below w.heap.size w W0 := by rw [hW0]; exact (Below.refl _ w).alloc (Nat.le_refl _) _
  have hk0 : Blk W0 w.heap.size 27 zeroC.cs := by rw [hW0]; exact Blk.new _ _ _
  have HB0 : Hid (Below w.heap.size w W0 ∧ Blk W0 w.heap.size 27 zeroC.cs) := ⟨hb0, hk0⟩
  have c1 : W0.cell? ⟨g, 0, none⟩ = some (.slice la L.length lc) := by rw [← hlf]; exact (h.below hb0).blk.cell 0
  clear hb0 hk0 h hlf
  generalize L.length = n at *
  go_enter Try.func26, Try.ntmps26
  go_upto_region 0 with fail
  rename_i K0 hK0
  refine wp_region_lit ?_
  refine wpList_runTo rfl (some 4) rfl (.pointer (some ⟨w.heap.size, 0, none⟩)) (w.alloc (.cells zeroC.cs 27)) (by kernel_rfl) ?_
  simp only [Act.put, List.setIfInBounds_toArray, List.set_cons_zero, List.set_cons_succ]
  rw [← hW0]
  clear hW0
  refine wpList_runTo rfl (some 5) rfl (.int .i64 0) W0 (by kernel_rfl) ?_
  simp only [Act.put, List.setIfInBounds_toArray, List.set_cons_zero, List.set_cons_succ]
  refine wpList_nil ?_
  refine hK0 _ _ ?_
  clear hK0
  go_upto_region 1 with fail
  rename_i K1 hK1
  refine wp_region_lit ?_
  refine wpList_runTo rfl (some 6) rfl (.int .i64 i) W0 (by kernel_rfl) ?_
  simp only [Act.put, List.setIfInBounds_toArray, List.set_cons_zero, List.set_cons_succ]
  refine wpList_runTo rfl (some 7) rfl (.bool false) W0 (by go_simp) ?_
  simp only [Act.put, List.setIfInBounds_toArray, List.set_cons_zero, List.set_cons_succ]
  refine wpList_runTo rfl (some 8) rfl (.bool false) W0 (by kernel_rfl) ?_
  simp only [Act.put, List.setIfInBounds_toArray, List.set_cons_zero, List.set_cons_succ]
  refine wpList_runToG (by kernel_rfl) (some 9) rfl (.int .i64 i) W0 (by kernel_rfl) ?_
  simp only [Act.put, List.setIfInBounds_toArray, List.set_cons_zero, List.set_cons_succ]
  refine wpList_runToG (by kernel_rfl) (some 10) rfl (.pointer (some ⟨g, 0, none⟩)) W0 (by kernel_rfl) ?_
  simp only [Act.put, List.setIfInBounds_toArray, List.set_cons_zero, List.set_cons_succ]
  refine wpList_runToG (by kernel_rfl) (some 11) rfl (.pointer (some ⟨g, 0, none⟩)) W0 (by kernel_rfl) ?_
  simp only [Act.put, List.setIfInBounds_toArray, List.set_cons_zero, List.set_cons_succ]
  refine wpList_runToG (by kernel_rfl) (some 12) rfl (.pointer (some ⟨g, 0, none⟩)) W0 (by kernel_rfl) ?_
  simp only [Act.put, List.setIfInBounds_toArray, List.set_cons_zero, List.set_cons_succ]
  refine wpList_runToG (by kernel_rfl) (some 13) rfl (.slice la n lc) W0 (by go_simp) ?_
  simp only [Act.put, List.setIfInBounds_toArray, List.set_cons_zero, List.set_cons_succ]
  refine wpList_runToG (by kernel_rfl) (some 14) rfl (.int .i64 (n : Int)) W0 (by kernel_rfl) ?_
  simp only [Act.put, List.setIfInBounds_toArray, List.set_cons_zero, List.set_cons_succ]
  refine wpList_runToG (by kernel_rfl) (some 15) rfl (.bool true) W0 (by exact geY_run (.tmp 9) (.tmp 14) rfl (by kernel_rfl) (by kernel_rfl) hi _) ?_
  simp only [Act.put, List.setIfInBounds_toArray, List.set_cons_zero, List.set_cons_succ]
  refine wpList_runTo rfl (some 16) rfl (.bool true) W0 (by kernel_rfl) ?_
  simp only [Act.put, List.setIfInBounds_toArray, List.set_cons_zero, List.set_cons_succ]
  refine wpList_nil ?_
  refine hK1 _ _ ?_
  clear hK1
  go_upto_region 2 with fail
  rename_i K2 hK2
  refine wp_region_lit ?_
  refine wpList_runTo rfl (some 17) rfl (.agg zeroC.cs) W0 (by kernel_rfl) ?_
  simp only [Act.put, List.setIfInBounds_toArray, List.set_cons_zero, List.set_cons_succ]
  refine store_cmd (c := zeroC) HB0.out.2 (.tmp 4) (.tmp 17) rfl rfl (by kernel_rfl) (by kernel_rfl) ?_
  simp only [Act.put, List.setIfInBounds_toArray, List.set_cons_zero, List.set_cons_succ]
  refine wpList_runTo rfl (some 5) rfl (.int .i64 1) (W0.setRow w.heap.size zeroC.cs) (by kernel_rfl) ?_
  simp only [Act.put, List.setIfInBounds_toArray, List.set_cons_zero, List.set_cons_succ]
  refine wpList_nil ?_
  refine hK2 _ _ ?_
  apply wp_ret
  try simp only [Exit.then]
  refine bodyPost_ret (results_cr2 (fn := Try.f26) (p := 4) (u := 5) (ty := 27) rfl _ _ w.heap.size 27 zeroC.cs (0, 0) _ (by kernel_rfl) HB0.out.2.row Try.underlying27 rfl (by rw [Cm.cs_size]; exact info27)) (by kernel_rfl) ?_
  exact ⟨rfl, below_setRow HB0.out.1 (Nat.le_refl _) _⟩
theorem refCommand_no {w : World} {g : Nat} {lv : Value} {L : List Cm} (h : RtAt w g lv L) {i : Int} (hi : i < 0 ∨ (L.length : Int) ≤ i) : Calls Try.prog 26 #[.pointer (some ⟨g, 0, none⟩), .int .i64 i] w fun e w' => e = .returned (.tuple #[.agg zeroC.cs, .int .i64 1]) ∧ Hid (Below w.heap.size w w') := by
  by_cases h0 : i < 0
  · exact refCommand_neg h0
  · exact refCommand_beyond h h0 (by omega)
end Go.Proofs.Ytjnnecoikcmaeaa

namespace Go.Proofs.Ytjnnecoikcmaeaa
set_option linter.unusedVariables false
set_option linter.unusedSimpArgs false
open Go.RowKit Go.Great

/-- Bytes that were written over by their owner: their place, and the mark. -/
structure Ent where
  a : Option Addr
  len : Nat
  cap : Nat
  m : Nat
def holdV (l : List Ent) : List Value := l.flatMap fun e => [.slice e.a e.len e.cap, .int .u8 (e.m : Int)]
theorem holdV_app (a b : List Ent) : holdV (a ++ b) = holdV a ++ holdV b := by simp [holdV]
theorem holdV_length : ∀ l : List Ent, (holdV l).length = l.length * 2
  | [] => rfl
  | e :: l => by
    have := holdV_length l
    show (_ :: _ :: holdV l).length = _
    simp [this]; omega
theorem holdV_at : ∀ (l : List Ent) (i : Nat) (e : Ent), l[i]? = some e → (holdV l)[i * 2]? = some (.slice e.a e.len e.cap) ∧ (holdV l)[i * 2 + 1]? = some (.int .u8 (e.m : Int))
  | [], i, e, h => by simp at h
  | x :: l, 0, e, h => by
    have : x = e := by simpa using h
    subst this
    exact ⟨rfl, rfl⟩
  | x :: l, i + 1, e, h => by
    have ih := holdV_at l i e (by simpa using h)
    show (_ :: _ :: holdV l)[(i + 1) * 2]? = _ ∧ (_ :: _ :: holdV l)[(i + 1) * 2 + 1]? = _
    rw [show (i + 1) * 2 = i * 2 + 1 + 1 by omega, show i * 2 + 1 + 1 + 1 = (i * 2 + 1) + 1 + 1 by omega]
    simpa using ih
/-- Bytes that were kept read as their owner wrote them; they may begin in the midst of their block. -/
def EntOK (w : World) (e : Ent) : Prop := e.len ≤ 140000000000000 ∧ e.len ≤ e.cap ∧ e.m < 256 ∧ (e.len = 0 ∨ ∃ g off cur, e.a = some ⟨g, off, none⟩ ∧ w.heap[g]? = some (.cells cur 5 (0, 0)) ∧ ∀ j, j < e.len → cur[off + j]? = some (.int .u8 (e.m : Int)))
def KeptOK (w : World) (l : List Ent) : Prop := ∀ e ∈ l, EntOK w e
theorem EntOK.src {w : World} {e : Ent} (h : EntOK w e) : Src w e.a e.len (fun _ => e.m) := by
  rcases h.2.2.2 with h0 | ⟨g, off, cur, h1, h2, h3⟩
  · exact .inl h0
  · refine .inr ⟨g, off, h1, fun j hj => ⟨?_, h.2.2.1⟩⟩
    rw [cell_of_row _ _ _ _ _ _ h2]
    exact h3 j hj
theorem EntOK.keep {w w' : World} {e : Ent} (h : EntOK w e) (hk : e.len ≠ 0 → ∀ g off cur, e.a = some ⟨g, off, none⟩ → w.heap[g]? = some (.cells cur 5 (0, 0)) → w'.heap[g]? = w.heap[g]?) : EntOK w' e := by
  refine ⟨h.1, h.2.1, h.2.2.1, ?_⟩
  by_cases hl : e.len = 0
  · exact .inl hl
  · rcases h.2.2.2 with h0 | ⟨g, off, cur, h1, h2, h3⟩
    · exact .inl h0
    · exact .inr ⟨g, off, cur, h1, (hk hl g off cur h1 h2).trans h2, h3⟩
theorem KeptOK.below {w w' : World} {l : List Ent} (h : KeptOK w l) (hb : Below w.heap.size w w') : KeptOK w' l := fun e he => (h e he).keep fun _ g _ cur _ hg => hb.block g (Array.getElem?_eq_some_iff.1 hg).1
set_option maxRecDepth 100000 in
set_option maxHeartbeats 1000000 in
theorem looks_any (l : List Ent) (n : Nat) (v : Value) (w : World) (hn : n = l.length) (hn2 : n ≤ 140737488351232) (ho : RowAt w 93 2 v n (holdV l)) (hk : KeptOK w l) :
    Calls Try.prog 27 #[v] w fun e w' => e = .returned (.bool true) ∧ Below w.heap.size w w' := by
  obtain ⟨ao, co, hv, hgc⟩ : ∃ ao co, v = .slice ao n co ∧ (n = 0 ∨ ∃ g o, ao = some ⟨g, o, none⟩ ∧ n ≤ co) := by
    rcases ho.2 with ⟨h, h0⟩ | ⟨g, off, cap, cur, h, _, h4, _⟩
    · exact ⟨none, 0, by rw [h, h0], .inl h0⟩
    · exact ⟨_, _, h, .inr ⟨g, off, rfl, h4⟩⟩
  subst hv
  have HC : Hid (∀ w' i e g o, Below w.heap.size w w' → ao = some ⟨g, o, none⟩ → l[i]? = some e → w'.cell? ⟨g, o + i * 2, none⟩ = some (.slice e.a e.len e.cap) ∧ w'.cell? ⟨g, o + i * 2 + 1, none⟩ = some (.int .u8 (e.m : Int)) ∧ e.len ≤ 140000000000000 ∧ e.len ≤ e.cap ∧ e.m < 256 ∧ Src w' e.a e.len (fun _ => e.m)) := fun w' i e g o hb hao he => by
    subst hao
    obtain ⟨h1, h2⟩ := holdV_at l i e he
    have c1 := ho.cell rfl h1
    have c2 := ho.cell rfl h2
    rw [← Nat.add_assoc] at c2
    obtain ⟨k1, k2, k3, _⟩ := hk e (List.mem_of_getElem? he)
    have k4 := (hk e (List.mem_of_getElem? he)).src
    exact ⟨by rw [hb.cell (p := ⟨g, o + i * 2, none⟩) (World.block_lt_of_cell? _ _ c1)]; exact c1, by rw [hb.cell (p := ⟨g, o + i * 2 + 1, none⟩) (World.block_lt_of_cell? _ _ c2)]; exact c2, k1, k2, k3, k4.below hb⟩
  have Hn : Hid (n = l.length) := hn
  clear ho hk hn
  go_enter Try.func27, Try.ntmps27
  go_wp2
  go_loopw [3, 4] (fun x3 x4 wr => ∃ i : Nat, i ≤ n ∧ x3 = .int .i64 (i : Int) ∧ Hid (Below w.heap.size w wr)) (fun x3 _ _ => n - (RowKit.intOf x3).toNat)
  case atStart => exact ⟨0, Nat.zero_le _, rfl, Below.refl _ _⟩
  case round =>
    obtain ⟨i, hi, rfl, HB⟩ := hrel
    by_cases hlt : i < n
    · have hlt' : (i : Int) < (n : Int) := by omega
      obtain ⟨e, he⟩ : ∃ e, l[i]? = some e := ⟨_, List.getElem?_eq_getElem (by rw [← Hn.out]; exact hlt)⟩
      rcases hgc with h0 | ⟨g, o, rfl, hco⟩
      · omega
      · have HE : Hid (∀ w', Below w.heap.size w w' → w'.cell? ⟨g, o + i * 2, none⟩ = some (.slice e.a e.len e.cap) ∧ w'.cell? ⟨g, o + i * 2 + 1, none⟩ = some (.int .u8 (e.m : Int)) ∧ Src w' e.a e.len (fun _ => e.m)) := fun w' hb => by
          obtain ⟨a1, a2, _, _, _, a6⟩ := HC.out w' i e g o hb rfl he
          exact ⟨a1, a2, a6⟩
        obtain ⟨_, _, k1, k2, k3, _⟩ := HC.out wr i e g o HB.out rfl he
        obtain ⟨ea, el, ec, em⟩ := e
        dsimp only at HE k1 k2 k3
        go_upto_region 5 with fail
        go_loopw [4] (fun x4 wq => ∃ q : Nat, q ≤ el ∧ x4 = .int .i64 (q : Int) ∧ Hid (Below w.heap.size w wq)) (fun x4 _ => el - (RowKit.intOf x4).toNat)
        case atStart => exact ⟨0, Nat.zero_le _, rfl, HB⟩
        case round =>
          obtain ⟨q, hq, rfl, HB2⟩ := hrel
          obtain ⟨c1, c2, hsrc⟩ := HE.out wr HB2.out
          by_cases hlt2 : q < el
          · have hlt2' : (q : Int) < (el : Int) := by omega
            rcases hsrc with h0 | ⟨b, off, rfl, hr⟩
            · omega
            · have c3 := (hr q hlt2).1
              clear hr
              go_upto_region 7 with fail
              go_quiet (fail)
              go_wp2
              exact ⟨⟨q + 1, by omega, by go_num, below_drewN HB2.out _⟩, by simp [RowKit.intOf]; omega⟩
          · have hlt2' : ¬ (q : Int) < (el : Int) := by omega
            clear hsrc
            go_wp2
            exact ⟨⟨i + 1, by omega, by go_num, HB2.out⟩, by simp [RowKit.intOf]; omega⟩
    · obtain rfl : i = n := by omega
      go_wp2
      go_ret
      exact ⟨rfl, HB.out⟩
end Go.Proofs.Ytjnnecoikcmaeaa

namespace Go.Proofs.Ytjnnecoikcmaeaa
set_option linter.unusedVariables false
set_option linter.unusedSimpArgs false
open Go.RowKit Go.Great

/-- append onto a row: in place, or into a new block. -/
theorem run_append_place {P : Program} (w : World) (t ty e : TypeId) (i : TypeInfo) (z : Value) (size bytes : Nat) (ht : P.underlying t = some (.slice e)) (hi : P.info? e = some i) (hz : i.zero = some z)
    (hsize : i.size = size) (hby : i.bytes = bytes) (hzs : z.cells.size = size)
    (v : Value) (n : Nat) (xs : List Value) (hown : RowAt w e size v n xs)
    (a : Addr) (m c : Nat) (news : List Value) (hl : news.length = m * size) (hnews : ∀ j u, news[j]? = some u → w.cell? (a.add j) = some u) (h1 : ∀ u ∈ news, u.oneCell' = true)
    (hm : 0 < m ∨ 0 < n) (h63 : n + m ≤ maxLen) (hbytes : (n + m) * bytes ≤ 140737488355328) :
    ∃ v' w', (Builtin.append_ #[t, t] ty #[v, .slice (some a) m c]).run P w = .ok v' w' ∧ RowAt w' e size v' (n + m) (xs ++ news) ∧ Fr w w' (fun b => v.ownBlock = some b) ∧ ((∃ ad cap, v = .slice (some ad) n cap ∧ v' = .slice (some ad) (n + m) cap) ∨ v'.ownBlock = some w.heap.size ∧ ∀ k, k < w.heap.size → w'.heap[k]? = w.heap[k]?) := by
  subst hsize
  subst hby
  have hsmall : n + m ≤ 9223372036854775807 := by simp only [maxLen] at h63; omega
  have hlen : (xs ++ news).length = (n + m) * i.size := by rw [List.length_append, hown.1, hl, Nat.add_mul]
  have grown : ∀ (old : Nat), old < n + m →
      RowAt (w.drew.alloc (.cells (xs.toArray ++ news.toArray ++ Builtin.zeroCells z.cells (grownCap w (n + m) old e - (n + m))) e)) e i.size
        (.slice (some ⟨w.heap.size, 0, none⟩) (n + m) (grownCap w (n + m) old e)) (n + m) (xs ++ news) ∧
      ∀ k, k < w.heap.size → (w.drew.alloc (.cells (xs.toArray ++ news.toArray ++ Builtin.zeroCells z.cells (grownCap w (n + m) old e - (n + m))) e)).heap[k]? = w.heap[k]? := by
    intro old ho
    have hge := grownCap_ge w (n + m) old e
    have hcm : grownCap w (n + m) old e ≤ maxLen := grownCap_le_maxLen w (n + m) old e h63
    refine ⟨⟨hlen, .inr ⟨w.heap.size, 0, _, _, rfl, heap_alloc_new w.drew _, hge, hcm, ?_, ?_⟩⟩, fun k hk => Below.heap_alloc w.drew _ k hk⟩
    · simp only [Array.size_append, List.size_toArray, size_zeroCells, hzs, hown.1, hl, ← Nat.add_mul]
      rw [show n + m + (grownCap w (n + m) old e - (n + m)) = grownCap w (n + m) old e by omega]; omega
    · simp only [Array.toList_append, List.append_assoc, List.drop_zero]
      rw [← List.append_assoc, ← hlen]
      exact List.take_left
  have frw : ∀ (o : Obj) (ex : Nat → Prop), Fr w (w.drew.alloc o) ex := fun o ex => ⟨rfl, rfl, rfl, by simp, fun b hb _ => Below.heap_alloc w.drew _ b hb⟩
  rcases hown.2 with ⟨rfl, rfl⟩ | ⟨g, off, cap, cur, rfl, hg, hnc, hcm, hcs, htake⟩
  · have hx : xs = [] := List.eq_nil_of_length_eq_zero (by simpa using hown.1)
    subst hx
    have hr := run_append_nil (P := P) w t ty e i z ht hi hz a m c news hl hnews (by omega) (by omega) (by have hb := hbytes; simp only [Nat.zero_add] at hb; omega)
    have hgr := grown 0 (by omega)
    simp only [Nat.zero_add, List.nil_append, Array.empty_append] at hgr ⊢
    exact ⟨_, _, hr, hgr.1, frw _ _, .inr ⟨rfl, hgr.2⟩⟩
  · by_cases hroom : n + m ≤ cap
    · have e1 : (n + m) * i.size ≤ cap * i.size := Nat.mul_le_mul_right _ hroom
      have e2 : (n + m) * i.size = n * i.size + news.length := by rw [Nat.add_mul, hl]
      have hthere : ∀ j, j < news.length → (w.cell? ⟨g, off + n * i.size + j, none⟩).isSome = true := fun j hj => by
        rw [cell_of_row _ _ _ _ _ _ hg, Array.getElem?_eq_getElem (by omega)]; rfl
      have hr := run_append_room_cells (P := P) w t ty e i ht hi g off n cap a m c news hl hnews h1 hroom hthere (fun j hj => frozen_of_row w g _ _ _ hg)
      have hF := Fr.setCells g (fun b => (Value.slice (some ⟨g, off, none⟩) n cap).ownBlock = some b) rfl news (off + n * i.size) w
      have hblk : ∀ (vs : List Value) (o : Nat) (w1 : World) (cur : Array Value), w1.heap[g]? = some (.cells cur e (0, 0)) → o + vs.length ≤ cur.size → (w1.setCells g o vs).heap[g]? = some (.cells (cur.toList.take o ++ vs ++ cur.toList.drop (o + vs.length)).toArray e (0, 0)) := by
        intro vs
        induction vs with
        | nil => intro o w1 cur h _; rw [World.setCells, h]; simp
        | cons u r ih =>
          intro o w1 cur h hsz
          rw [World.setCells, setCell_eq_setRow w1 g o cur e (0, 0) u h]
          simp only [List.length_cons] at hsz
          rw [ih (o + 1) _ _ (setRow_heap w1 g cur _ e (0, 0) h) (by simp; omega)]
          have hs : (cur.setIfInBounds o u).toList = cur.toList.set o u := by simp
          have hlt : o < cur.toList.length := by rw [Array.length_toList]; omega
          have e5 : (List.take (o + 1) cur.toList).set o u = List.take o cur.toList ++ [u] := by
            rw [List.take_succ_eq_append_getElem hlt, List.set_append_right _ _ (by simp; omega)]
            have e7 : (List.take o cur.toList).length = o := by rw [List.length_take]; omega
            rw [e7, Nat.sub_self]; rfl
          have e6 : List.take (o + 1) (cur.setIfInBounds o u).toList ++ r ++ List.drop (o + 1 + r.length) (cur.setIfInBounds o u).toList = List.take o cur.toList ++ (u :: r) ++ List.drop (o + (u :: r).length) cur.toList := by
            rw [hs, List.take_set, e5, List.drop_set, if_pos (by omega), List.length_cons, show o + 1 + r.length = o + (r.length + 1) by omega]; simp
          rw [e6]
      refine ⟨_, _, hr, ⟨hlen, .inr ⟨g, off, cap, _, rfl, hblk news _ w cur hg (by omega), hroom, hcm, ?_, ?_⟩⟩, hF, .inl ⟨_, _, rfl, rfl⟩⟩
      · simp only [List.size_toArray, List.length_append, List.length_take, List.length_drop, Array.length_toList]; omega
      · have hd : (List.take (off + n * i.size) cur.toList ++ news ++ List.drop (off + n * i.size + news.length) cur.toList).drop off = xs ++ news ++ List.drop (off + n * i.size + news.length) cur.toList := by
          rw [List.append_assoc, List.drop_append_of_le_length (by rw [List.length_take, Array.length_toList]; omega), List.drop_take, show off + n * i.size - off = n * i.size by omega, htake, List.append_assoc]
        rw [hd, ← hlen]
        exact List.take_left
    · have holds : ∀ j u, xs[j]? = some u → w.cell? ((⟨g, off, none⟩ : Addr).add j) = some u := fun j u hj => by
        rw [Addr.add_mid]; exact hown.cell rfl hj
      have hr := run_append_grow (P := P) w t ty e i z ht hi hz ⟨g, off, none⟩ n cap xs hown.1 holds a m c news hl hnews (by omega) (by omega) (growslice_fits (by omega) hbytes)
      have hgr := grown cap (by omega)
      exact ⟨_, _, hr, hgr.1, frw _ _, .inr ⟨rfl, hgr.2⟩⟩
theorem wpList_append_place {P : Program} (w : World) {ops : Array Oper} {rest : List Oper} {o : Oper} {a : Act} {Q : Exit → Act → World → Prop} (hgd : o.guard = none) (s x : Operand) (t : TypeId)
    (ho : o.op = .call { callee := .builtin .append, args := #[s, x], argTypes := #[t, t] })
    (e : TypeId) (i : TypeInfo) (z : Value) (size bytes : Nat) (ht : P.underlying t = some (.slice e)) (hi : P.info? e = some i) (hz : i.zero = some z)
    (hsize : i.size = size) (hby : i.bytes = bytes) (hzs : z.cells.size = size)
    (v : Value) (n : Nat) (xs : List Value) (hs : a.eval s = v) (hown : RowAt w e size v n xs)
    (ad : Addr) (m c : Nat) (news : List Value) (hx : a.eval x = .slice (some ad) m c) (hl : news.length = m * size) (hnews : ∀ j u, news[j]? = some u → w.cell? (ad.add j) = some u) (h1 : ∀ u ∈ news, u.oneCell' = true)
    (hm : 0 < m ∨ 0 < n) (h63 : n + m ≤ maxLen) (hbytes : (n + m) * bytes ≤ 140737488355328)
    (h : ∀ v' w', RowAt w' e size v' (n + m) (xs ++ news) → Fr w w' (fun b => v.ownBlock = some b) → ((∃ ad cap, v = .slice (some ad) n cap ∧ v' = .slice (some ad) (n + m) cap) ∨ v'.ownBlock = some w.heap.size ∧ ∀ k, k < w.heap.size → w'.heap[k]? = w.heap[k]?) → wpList P ops Q rest (a.put o.dst v') w') : wpList P ops Q (o :: rest) a w := by
  refine wpList_plain hgd fun K hK => ?_
  obtain ⟨v', w', hr, h2, h3, h4⟩ := run_append_place (P := P) w t o.type e i z size bytes ht hi hz hsize hby hzs v n xs hown ad m c news hl hnews h1 hm h63 hbytes
  unfold Oper.wp execOp
  simp only [ho, resolve, invoke, builtin, Sem.run_bind, Sem.run_pure, Result.andThen_ok, List.map_toArray, List.map_cons, List.map_nil, hs, hx, hr]
  exact hK _ _ (h v' w' h2 h3 h4)
theorem infoH : (Try.prog.info? 93).map (fun i => (i.zero, i.size, i.bytes)) = some (some (.agg #[.slice none 0 0, .int .u8 0]), 2, 32) := by kernel_rfl
theorem cells_new (w : World) (xs : List Value) (t : TypeId) : ∀ j u, xs[j]? = some u → (w.alloc (.cells xs.toArray t)).cell? ((⟨w.heap.size, 0, none⟩ : Addr).add j) = some u := fun j u hu => by
  rw [Addr.add_mid, Nat.zero_add, cell_of_row _ _ _ _ _ _ (heap_alloc_new w _)]
  simpa using hu
def rep (n mk : Nat) : List Value := List.replicate n (.int .u8 (mk : Int))
theorem rep_length (n mk : Nat) : (rep n mk).length = n := List.length_replicate
theorem rep_succ (n mk : Nat) : rep (n + 1) mk = rep n mk ++ [.int .u8 (mk : Int)] := List.replicate_succ'
theorem rep_at {n mk j : Nat} (h : j < n) : (rep n mk)[j]? = some (.int .u8 (mk : Int)) := by unfold rep; rw [List.getElem?_replicate, if_pos h]
theorem set_rep {i mk : Nat} {L : List Value} (h : i < L.length) : (rep i mk ++ L.drop i).set i (.int .u8 (mk : Int)) = rep (i + 1) mk ++ L.drop (i + 1) := by
  rw [List.set_append_right _ _ (by rw [rep_length]; exact Nat.le_refl _), rep_length, Nat.sub_self, List.drop_eq_getElem_cons h, List.set_cons_zero, rep_succ, List.append_assoc]
  rfl
/-- A cell of a row is written. -/
theorem RowAt.set1 {w : World} {g off n cap i : Nat} {xs : List Value} {u : Value} (h : RowAt w 5 1 (.slice (some ⟨g, off, none⟩) n cap) n xs) (hi : i < n) : RowAt (w.setCell ⟨g, off + i, none⟩ u) 5 1 (.slice (some ⟨g, off, none⟩) n cap) n (xs.set i u) ∧ (w.setCell ⟨g, off + i, none⟩ u).heap.size = w.heap.size := by
  obtain ⟨g', off', cap', cur, e1, e3, e4, e5, e6, e7⟩ := h.more (by omega)
  injection e1 with e1 _ e8
  injection e1 with e1
  injection e1 with e1 e9
  subst e1 e8 e9
  rw [setCell_eq_setRow w g (off + i) cur 5 (0, 0) u e3]
  refine ⟨⟨by rw [List.length_set]; exact h.1, .inr ⟨g, off, cap, _, rfl, setRow_heap w g cur _ 5 (0, 0) e3, e4, e5, by simpa using e6, ?_⟩⟩, by simp⟩
  rw [← e7, Array.toList_setIfInBounds, List.drop_set, if_neg (by omega), show off + i - off = i by omega, List.take_set]
/-- The state within keep: t bytes more, es kept besides. -/
structure KS (w : World) (mk nb : Nat) (l : List Ent) (v bv : Value) (t : Nat) (vK bt : Value) (wr : World) (es : List Ent) : Prop where
  row : RowAt wr 93 2 vK (l.length + es.length) (holdV (l ++ es))
  ok : KeptOK wr (l ++ es)
  bytes : RowAt wr 5 1 bt (nb + t) (rep (nb + t) mk)
  new : ∀ e ∈ es, e.m = mk ∧ e.len ≤ nb + t ∧ (e.len ≠ 0 → ∀ g off, e.a = some ⟨g, off, none⟩ → bv.ownBlock = some g ∨ w.heap.size ≤ g)
  same : ∀ e ∈ es, e.len ≠ 0 → ∀ g off off' c, e.a = some ⟨g, off, none⟩ → bt = .slice (some ⟨g, off', none⟩) (nb + t) c → off = off'
  own : bt.ownBlock = bv.ownBlock ∨ ∃ g, bt.ownBlock = some g ∧ w.heap.size ≤ g
  kown : vK.ownBlock = v.ownBlock ∨ ∃ g, vK.ownBlock = some g ∧ w.heap.size ≤ g
  fr : Fr w wr (fun b => bv.ownBlock = some b ∨ v.ownBlock = some b)
/-- Entries that were kept before are not in the bytes' block. -/
def Apt (w : World) (l : List Ent) (bv : Value) : Prop := ∀ e ∈ l, e.len ≠ 0 → ∀ g off, e.a = some ⟨g, off, none⟩ → g < w.heap.size ∧ bv.ownBlock ≠ some g
theorem EntOK.lt {w : World} {e : Ent} (h : EntOK w e) (h0 : e.len ≠ 0) {g off : Nat} (ha : e.a = some ⟨g, off, none⟩) : ∃ cur, w.heap[g]? = some (.cells cur 5 (0, 0)) ∧ ∀ j, j < e.len → cur[off + j]? = some (.int .u8 (e.m : Int)) := by
  rcases h.2.2.2 with q | ⟨g', off', cur, h1, h2, h3⟩
  · exact absurd q h0
  · rw [ha] at h1
    injection h1 with h1
    injection h1 with h1 h1'
    subst h1 h1'
    exact ⟨cur, h2, h3⟩
theorem rowOf {w : World} {v : Value} {g off n : Nat} {c : Nat} {xs : List Value} (h : RowAt w 5 1 (.slice (some ⟨g, off, none⟩) n c) n xs) (hn : 0 < n) : ∃ cur, w.heap[g]? = some (.cells cur 5 (0, 0)) := by
  obtain ⟨g', off', cap', cur, e1, e3, _⟩ := h.more hn
  injection e1 with e1
  injection e1 with e1
  injection e1 with e1
  subst e1
  exact ⟨cur, e3⟩
theorem Fr.exB {w wr w2 : World} {bv v bt : Value} (h : Fr w wr (fun b => bv.ownBlock = some b ∨ v.ownBlock = some b)) (o : Obj) (k : Fr (wr.alloc o) w2 (fun b => bt.ownBlock = some b)) (hb : ∀ b, b < w.heap.size → bt.ownBlock = some b → bv.ownBlock = some b ∨ v.ownBlock = some b) : Fr w w2 (fun b => bv.ownBlock = some b ∨ v.ownBlock = some b) :=
  (h.trans (Fr.alloc wr o (fun _ => False)) (fun i _ q => q.elim id False.elim)).trans k (fun i hi q => q.elim id (hb i hi))
/-- One byte more behind the bytes. -/
theorem KS.grow {w : World} {mk nb : Nat} {l : List Ent} {v bv : Value} {t : Nat} {vK bt : Value} {wr : World} {es : List Ent} (h : KS w mk nb l v bv t vK bt wr es) (hap : Apt w l bv) (o : Obj) {bt' : Value} {w2 : World}
    (h1 : RowAt w2 5 1 bt' (nb + t + 1) (rep (nb + t) mk ++ [.int .u8 (mk : Int)])) (h2 : Fr (wr.alloc o) w2 (fun b => bt.ownBlock = some b))
    (h3 : (∃ ad cap, bt = .slice (some ad) (nb + t) cap ∧ bt' = .slice (some ad) (nb + t + 1) cap) ∨ bt'.ownBlock = some (wr.alloc o).heap.size ∧ ∀ k, k < (wr.alloc o).heap.size → w2.heap[k]? = (wr.alloc o).heap[k]?) : KS w mk nb l v bv (t + 1) vK bt' w2 es := by
  have hal : ∀ b, b < wr.heap.size → (wr.alloc o).heap[b]? = wr.heap[b]? := fun b hb => Below.heap_alloc wr o b hb
  have hsz : (wr.alloc o).heap.size = wr.heap.size + 1 := by simp
  have hgr : ∀ b, b < wr.heap.size → bt.ownBlock ≠ some b → w2.heap[b]? = wr.heap[b]? := fun b hb hne => (h2.block b (by omega) hne).trans (hal b hb)
  have hnew : RowAt w2 5 1 bt' (nb + (t + 1)) (rep (nb + (t + 1)) mk) := by
    rw [show nb + (t + 1) = nb + t + 1 by omega, rep_succ]; exact h1
  have how : bt'.ownBlock = bv.ownBlock ∨ ∃ g, bt'.ownBlock = some g ∧ w.heap.size ≤ g := by
    rcases h3 with ⟨ad, cap, e1, e2⟩ | ⟨e1, _⟩
    · have e3 : bt'.ownBlock = bt.ownBlock := by rw [e1, e2]; rfl
      rw [e3]; exact h.own
    · exact .inr ⟨_, e1, by have := h.fr.size; omega⟩
  refine ⟨?_, fun e he => ?_, hnew, fun e he => ?_, fun e he h0 g off off' c ha hb => ?_, how, h.kown, h.fr.exB o h2 fun b hb q => ?_⟩
  · refine h.row.keep fun g hg => hgr g (h.row.lt hg).1 fun q => ?_
    obtain ⟨_, cur, hc⟩ := h.row.lt hg
    exact h.bytes.ne_type hc (by decide) q
  · have hE := h.ok e he
    refine ⟨hE.1, hE.2.1, hE.2.2.1, ?_⟩
    by_cases hlen : e.len = 0
    · exact .inl hlen
    rcases hE.2.2.2 with h0 | ⟨q, off, cur, a1, a2, a3⟩
    · exact .inl h0
    · have hq := (Array.getElem?_eq_some_iff.1 a2).1
      by_cases hrow : bt.ownBlock = some q
      · rcases h3 with ⟨ad, cap, e1, e2⟩ | ⟨_, h3⟩
        · have hmem : e ∈ es := by
            rcases List.mem_append.1 he with hel | hel
            · exfalso
              obtain ⟨b1, b2⟩ := hap e hel hlen q off a1
              rcases h.own with ho | ⟨g', ho, hge⟩
              · exact b2 (ho.symm.trans hrow)
              · rw [hrow] at ho
                injection ho with ho
                omega
            · exact hel
          obtain ⟨n1, n2, _⟩ := h.new e hmem
          obtain ⟨g', off', c', cur', f1, f2, f3, f4, f5, f6⟩ := hnew.more (by omega)
          rw [e2] at f1
          injection f1 with f1
          injection f1 with f1
          subst f1
          have hg' : q = g' := by
            rw [e1] at hrow
            exact (Option.some.inj (show some g' = some q from hrow)).symm
          subst hg'
          have hoff : off = off' := h.same e hmem hlen q off off' cap a1 e1
          subst hoff
          refine .inr ⟨q, off, cur', a1, f2, fun j hj => ?_⟩
          have e8 := congrArg (·[j]?) f6
          simp only [Nat.mul_one] at e8
          rw [List.getElem?_take, if_pos (by omega), List.getElem?_drop, Array.getElem?_toList, rep_at (by omega)] at e8
          rw [e8, n1]
        · exact .inr ⟨q, off, cur, a1, (h3 q (by omega)).trans ((hal q hq).trans a2), a3⟩
      · exact .inr ⟨q, off, cur, a1, (hgr q hq hrow).trans a2, a3⟩
  · obtain ⟨n1, n2, n3⟩ := h.new e he
    exact ⟨n1, by omega, n3⟩
  · rcases h3 with ⟨ad, cap, e1, e2⟩ | ⟨e1, _⟩
    · rw [e2] at hb
      injection hb with hb
      injection hb with hb
      subst hb
      exact h.same e he h0 g off off' cap ha e1
    · exfalso
      rw [hb] at e1
      have e9 : g = (wr.alloc o).heap.size := Option.some.inj (show some g = some _ from e1)
      obtain ⟨cur, hc, _⟩ := (h.ok e (List.mem_append_right _ he)).lt h0 ha
      have := (Array.getElem?_eq_some_iff.1 hc).1
      omega
  · rcases h.own with ho | ⟨g', ho, hge⟩
    · exact .inl (ho.symm.trans q)
    · rw [q] at ho; injection ho with ho; omega
/-- The bytes, as they stand, are kept. -/
theorem KS.put {w : World} {mk nb : Nat} {l : List Ent} {v bv : Value} {t : Nat} {vK : Value} {wr : World} {es : List Ent} {ab : Option Addr} {cb : Nat} (h : KS w mk nb l v bv t vK (.slice ab (nb + t) cb) wr es) (hmk : mk < 256) (hnb : nb + t ≤ 140000000000000) (o : Obj) {vK' : Value} {w2 : World}
    (h1 : RowAt w2 93 2 vK' (l.length + es.length + 1) (holdV (l ++ es) ++ [.slice ab (nb + t) cb, .int .u8 (mk : Int)])) (h2 : Fr (wr.alloc o) w2 (fun b => vK.ownBlock = some b))
    (h3 : (∃ ad cap, vK = .slice (some ad) (l.length + es.length) cap ∧ vK' = .slice (some ad) (l.length + es.length + 1) cap) ∨ vK'.ownBlock = some (wr.alloc o).heap.size ∧ ∀ k, k < (wr.alloc o).heap.size → w2.heap[k]? = (wr.alloc o).heap[k]?) : KS w mk nb l v bv t vK' (.slice ab (nb + t) cb) w2 (es ++ [⟨ab, nb + t, cb, mk⟩]) := by
  have hal : ∀ b, b < wr.heap.size → (wr.alloc o).heap[b]? = wr.heap[b]? := fun b hb => Below.heap_alloc wr o b hb
  have hsz : (wr.alloc o).heap.size = wr.heap.size + 1 := by simp
  have hgr : ∀ b, b < wr.heap.size → vK.ownBlock ≠ some b → w2.heap[b]? = wr.heap[b]? := fun b hb hne => (h2.block b (by omega) hne).trans (hal b hb)
  have hb2 : RowAt w2 5 1 (.slice ab (nb + t) cb) (nb + t) (rep (nb + t) mk) := h.bytes.keep fun g hg => by
    obtain ⟨hl, cur, hc⟩ := h.bytes.lt hg
    exact hgr g hl (h.row.ne_type hc (by decide))
  refine ⟨?_, fun e he => ?_, hb2, fun e he => ?_, fun e he h0 g off off' c ha hb => ?_, h.own, ?_, ?_⟩
  · rw [List.length_append, ← List.append_assoc, holdV_app]
    exact h1
  · rw [← List.append_assoc] at he
    rcases List.mem_append.1 he with he | he
    · exact (h.ok e he).keep fun _ q off cur _ hq => hgr q (Array.getElem?_eq_some_iff.1 hq).1 (h.row.ne_type hq (by decide))
    · have : e = ⟨ab, nb + t, cb, mk⟩ := by simpa using he
      subst this
      obtain ⟨ao, cp, f1, f2⟩ := hb2.form
      injection f1 with _ _ f1
      refine ⟨hnb, by show nb + t ≤ cb; omega, hmk, ?_⟩
      by_cases hz : nb + t = 0
      · exact .inl hz
      · obtain ⟨g', off', c', cur', k1, k2, k3, k4, k5, k6⟩ := hb2.more (by omega)
        injection k1 with k1
        refine .inr ⟨g', off', cur', k1, k2, fun j hj => ?_⟩
        have hj' : j < nb + t := hj
        have e8 := congrArg (·[j]?) k6
        simp only [Nat.mul_one] at e8
        rw [List.getElem?_take, if_pos hj', List.getElem?_drop, Array.getElem?_toList, rep_at hj'] at e8
        exact e8
  · rcases List.mem_append.1 he with he | he
    · exact h.new e he
    · have : e = ⟨ab, nb + t, cb, mk⟩ := by simpa using he
      subst this
      refine ⟨rfl, Nat.le_refl _, fun h0 g off ha => ?_⟩
      have ha' : ab = some ⟨g, off, none⟩ := ha
      subst ha'
      rcases h.own with ho | ⟨g', ho, hge⟩
      · exact .inl ho.symm
      · have : g = g' := Option.some.inj (show some g = some g' from ho)
        exact .inr (by omega)
  · rcases List.mem_append.1 he with he | he
    · exact h.same e he h0 g off off' c ha hb
    · have : e = ⟨ab, nb + t, cb, mk⟩ := by simpa using he
      subst this
      have ha' : ab = some ⟨g, off, none⟩ := ha
      rw [ha'] at hb
      injection hb with hb
      injection hb with hb
      injection hb
  · rcases h3 with ⟨ad, cap, e1, e2⟩ | ⟨e1, _⟩
    · have e3 : vK'.ownBlock = vK.ownBlock := by rw [e1, e2]; rfl
      rw [e3]; exact h.kown
    · exact .inr ⟨_, e1, by have := h.fr.size; omega⟩
  · refine h.fr.exB o h2 fun b hb q => ?_
    rcases h.kown with ho | ⟨g', ho, hge⟩
    · exact .inr (ho.symm.trans q)
    · rw [q] at ho; injection ho with ho; omega
end Go.Proofs.Ytjnnecoikcmaeaa

namespace Go.Proofs.Ytjnnecoikcmaeaa
set_option linter.unusedVariables false
set_option linter.unusedSimpArgs false
open Go.RowKit Go.Great

theorem at_rep {i mk : Nat} {xs : List Nat} (h : i < xs.length) : ∃ c : Nat, (rep i mk ++ (bvals xs).drop i)[i]? = some (.int .u8 (c : Int)) := by
  refine ⟨xs[i], ?_⟩
  rw [List.getElem?_append_right (by rw [rep_length]; exact Nat.le_refl _), rep_length, Nat.sub_self, List.getElem?_drop]
  simp [bvals, h]
theorem RowAt.al {w : World} {e size n : Nat} {v : Value} {xs : List Value} (h : RowAt w e size v n xs) (o : Obj) : RowAt (w.alloc o) e size v n xs := h.fr (Fr.alloc w o (fun _ => False)) fun _ _ => id
set_option maxRecDepth 100000 in
set_option maxHeartbeats 4000000 in
theorem keep_any (l : List Ent) (v bv : Value) (xs : List Nat) (w : World) (hn2 : l.length ≤ 4000000000000) (hv : RowAt w 93 2 v l.length (holdV l)) (hk : KeptOK w l) (hb : RowAt w 5 1 bv xs.length (bvals xs)) (hnb : xs.length ≤ 130000000000000) (hap : Apt w l bv) :
    Calls Try.prog 25 #[v, bv] w fun e w' => ∃ vK bt es mk, e = .returned vK ∧ es.length ≤ 72 ∧ KS w mk xs.length l v bv 70 vK bt w' es := by
  obtain ⟨i0, hi, hz0, hz1, hz2⟩ := info_parts info5
  obtain ⟨ih, hih, hh0, hh1, hh2⟩ := info_parts infoH
  obtain ⟨av, cv, rfl, _⟩ := hv.form
  obtain ⟨ab, cb, rfl, hcb⟩ := hb.form
  obtain ⟨n, hnn⟩ : ∃ n, n = l.length := ⟨_, rfl⟩
  obtain ⟨nb, hbb⟩ : ∃ nb, nb = xs.length := ⟨_, rfl⟩
  have HN : Hid (n = l.length ∧ nb = xs.length) := ⟨hnn, hbb⟩
  rw [← hnn] at hv hn2 ⊢
  rw [← hbb] at hb hnb hcb ⊢
  rw [← hbb] at hap
  clear hnn hbb
  have HX : Hid (RowAt w 93 2 (.slice av n cv) n (holdV l) ∧ KeptOK w l ∧ RowAt w 5 1 (.slice ab nb cb) nb (bvals xs) ∧ Apt w l (.slice ab nb cb)) := ⟨hv, hk, hb, hap⟩
  clear hv hk hb hap
  have hw1 : IntKind.i64.wrap (41 * (n : Int)) = 41 * (n : Int) := by rw [IntKind.wrap_i64]; omega
  have hw2 : IntKind.i64.wrap (50 + 41 * (n : Int)) = 50 + 41 * (n : Int) := by rw [IntKind.wrap_i64]; omega
  obtain ⟨mk, hcv, hm256⟩ : ∃ mk : Nat, IntKind.u8.wrap (50 + 41 * (n : Int)) = (mk : Int) ∧ mk < 256 := ⟨((50 + 41 * (n : Int)) % 256).toNat, by rw [IntKind.wrap_u8]; omega, by omega⟩
  have hmx : 140737488355328 ≤ maxLen := by decide
  go_enter Try.func25, Try.ntmps25
  go_upto_region 3 with fail
  clear hw1 hw2 hcv
  go_loopw [6] (fun x6 wr => ∃ i : Nat, i ≤ nb ∧ x6 = .int .i64 (i : Int) ∧ Hid (RowAt wr 5 1 (.slice ab nb cb) nb (rep i mk ++ (bvals xs).drop i) ∧ Fr w wr (fun b => (Value.slice ab nb cb).ownBlock = some b) ∧ wr.heap.size = w.heap.size)) (fun x6 _ => nb - (RowKit.intOf x6).toNat)
  case atStart => exact ⟨0, Nat.zero_le _, rfl, HX.out.2.2.1, Fr.refl _ _, rfl⟩
  case round =>
    obtain ⟨i, hi2, rfl, HR⟩ := hrel
    by_cases hlt : i < nb
    · have hlt' : (i : Int) < (nb : Int) := by omega
      obtain ⟨gb, ob, cb', cur, e1, hgb, _⟩ := HR.out.1.more (by omega)
      injection e1 with e1 _ e2
      subst e1 e2
      obtain ⟨c, hc⟩ := at_rep (mk := mk) (xs := xs) (i := i) (by have := HN.out.2; omega)
      have hcl := HR.out.1.cell rfl hc
      have hfr : wr.frozen? ⟨gb, ob + i, none⟩ = false := HR.out.1.frozen rfl _
      have hset := RowAt.set1 (u := .int .u8 (mk : Int)) HR.out.1 hlt
      rw [set_rep (by rw [bvals_length]; have := HN.out.2; omega)] at hset
      have HQ : Hid (RowAt (wr.setCell ⟨gb, ob + i, none⟩ (.int .u8 (mk : Int))) 5 1 (.slice (some ⟨gb, ob, none⟩) nb cb) nb (rep (i + 1) mk ++ (bvals xs).drop (i + 1)) ∧ Fr w (wr.setCell ⟨gb, ob + i, none⟩ (.int .u8 (mk : Int))) (fun b => (Value.slice (some ⟨gb, ob, none⟩) nb cb).ownBlock = some b) ∧ (wr.setCell ⟨gb, ob + i, none⟩ (.int .u8 (mk : Int))).heap.size = w.heap.size) :=
        ⟨hset.1, HR.out.2.1.trans (Fr.setCell wr ⟨gb, ob + i, none⟩ _ (fun b => (Value.slice (some ⟨gb, ob, none⟩) nb cb).ownBlock = some b) rfl) (fun _ _ q => q.elim id id), hset.2.trans HR.out.2.2⟩
      clear HR hset hc hgb
      go_wp2
      exact ⟨⟨i + 1, by omega, by go_num, HQ.out⟩, by simp [RowKit.intOf]; omega⟩
    · obtain rfl : i = nb := by omega
      have HK : Hid (KS w mk i l (.slice av n cv) (.slice ab i cb) 0 (.slice av n cv) (.slice ab i cb) wr []) := by
        have h1 := HR.out.1
        rw [List.drop_eq_nil_of_le (by rw [bvals_length]; have := HN.out.2; omega), List.append_nil] at h1
        have hf := HR.out.2.1
        refine ⟨?_, fun e he => ?_, h1, (fun e he => absurd he (List.not_mem_nil)), (fun e he => absurd he (List.not_mem_nil)), .inl rfl, .inl rfl, hf.mono fun _ _ q => .inl q⟩
        · rw [List.append_nil, ← HN.out.1]
          refine HX.out.1.fr hf fun g hg q => ?_
          obtain ⟨_, cur, hc⟩ := HX.out.1.lt hg
          exact HX.out.2.2.1.ne_type hc (by decide) q
        · rw [List.append_nil] at he
          exact (HX.out.2.1 e he).keep fun h0 g off cur ha hg => hf.block g (HX.out.2.2.2 e he h0 g off ha).1 (HX.out.2.2.2 e he h0 g off ha).2
      clear HR hlt
      have hnewH : Hid (∀ j u, [Value.slice ab i cb, .int .u8 (mk : Int)][j]? = some u → (wr.alloc (.cells #[.slice ab i cb, .int .u8 (mk : Int)] 93)).cell? ((⟨wr.heap.size, 0, none⟩ : Addr).add j) = some u) := cells_new wr _ _
      have HH : Hid (RowAt wr 93 2 (.slice av n cv) n (holdV l)) := by have := HK.out.row; rw [List.append_nil, ← HN.out.1] at this; exact this
      go_upto_region 7 with (at_builtin; refine wpList_append_place _ rfl _ _ 61 rfl 93 ih (.agg #[.slice none 0 0, .int .u8 0]) 2 32 Try.underlying61 hih hh0 hh1 hh2 rfl _ n (holdV l) rfl (HH.out.al _) ⟨wr.heap.size, 0, none⟩ 1 1 [.slice ab i cb, .int .u8 (mk : Int)] rfl rfl hnewH.out (fun x hx => by simp at hx; rcases hx with rfl | rfl <;> rfl) (.inl (by decide)) (by omega) (by omega) ?_; intro v2 w2 hown2 hgrow2 hcase2)
      obtain ⟨a2, c2, ev2, _⟩ := hown2.form
      have HK0 : Hid (KS w mk i l (.slice av n cv) (.slice ab i cb) 0 v2 (.slice ab (i + 0) cb) w2 [⟨ab, i + 0, cb, mk⟩]) := by
        have hkk := HK.out
        have hp := KS.put (ab := ab) (cb := cb) (vK' := v2) (w2 := w2) (o := .cells #[.slice ab i cb, .int .u8 (mk : Int)] 93) hkk hm256 (by omega) (by rw [List.append_nil, ← HN.out.1]; exact hown2) hgrow2 (by rw [← HN.out.1]; exact hcase2)
        exact hp
      subst ev2
      clear hown2 hgrow2 hcase2 hnewH HK HH
      go_wp2
      go_loopw [0, 1, 7] (fun x0 x1 x7 wr => ∃ (t nk nt : Nat) (ak : Option Addr) (ck : Nat) (at_ : Option Addr) (ct : Nat), t ≤ 70 ∧ x7 = .int .i64 (t : Int) ∧ x0 = .slice ak nk ck ∧ x1 = .slice at_ nt ct ∧ Hid (nt = i + t ∧ ∃ es, nk = n + es.length ∧ es.length ≤ t + 1 ∧ KS w mk i l (.slice av n cv) (.slice ab i cb) t (.slice ak nk ck) (.slice at_ nt ct) wr es)) (fun _ _ x7 _ => 70 - (RowKit.intOf x7).toNat)
      case atStart => exact ⟨0, n + 1, i, a2, c2, ab, cb, by omega, rfl, rfl, rfl, rfl, _, rfl, Nat.le_refl _, HK0.out⟩
      case round =>
        obtain ⟨t, nk, nt, ak, ck, at_, ct, ht, rfl, rfl, rfl, HS⟩ := hrel
        by_cases hlt : t < 70
        · have hlt' : (t : Int) < 70 := by omega
          obtain ⟨hnt, es, hnk, hesl, hks⟩ := HS.out
          subst hnt hnk
          have HKS : Hid (KS w mk i l (.slice av n cv) (.slice ab i cb) t (.slice ak (n + es.length) ck) (.slice at_ (i + t) ct) wr es) := hks
          clear hks HS HK0
          have hnew : Hid (∀ j u, [Value.int .u8 (mk : Int)][j]? = some u → (wr.alloc (.cells #[.int .u8 (mk : Int)] 5)).cell? ((⟨wr.heap.size, 0, none⟩ : Addr).add j) = some u) := cells_new wr [.int .u8 (mk : Int)] 5
          go_upto_region 11 with (at_builtin; refine wpList_append_place _ rfl _ _ 28 rfl 5 i0 (.int .u8 0) 1 1 Try.underlying28 hi hz0 hz1 hz2 rfl _ (i + t) (rep (i + t) mk) rfl (HKS.out.bytes.al _) ⟨wr.heap.size, 0, none⟩ 1 1 [.int .u8 (mk : Int)] rfl rfl hnew.out (fun x hx => by simp at hx; subst hx; rfl) (.inl (by decide)) (by omega) (by omega) ?_; intro v3 w3 hown3 hgrow3 hcase3)
          have hg3 := HKS.out.grow HX.out.2.2.2 _ hown3 hgrow3 hcase3
          obtain ⟨a3, c3, ev3, _⟩ := hown3.form
          subst ev3
          have HG : Hid (KS w mk i l (.slice av n cv) (.slice ab i cb) (t + 1) (.slice ak (n + es.length) ck) (.slice a3 (i + (t + 1)) c3) w3 es) := hg3
          have HG1 : Hid (RowAt w3 93 2 (.slice ak (n + es.length) ck) (n + es.length) (holdV (l ++ es))) := by have := hg3.row; rw [← HN.out.1] at this; exact this
          clear hg3 hown3 hgrow3 hcase3 HKS hnew
          by_cases t2 : t < 2
          · have t2' : (t : Int) < 2 := by omega
            have hnew2 : Hid (∀ j u, [Value.slice a3 (i + t + 1) c3, .int .u8 (mk : Int)][j]? = some u → (w3.alloc (.cells #[.slice a3 (i + t + 1) c3, .int .u8 (mk : Int)] 93)).cell? ((⟨w3.heap.size, 0, none⟩ : Addr).add j) = some u) := cells_new w3 _ _
            go_upto_region 12 with fail
            go_wp2_with (at_builtin; refine wpList_append_place _ rfl _ _ 61 rfl 93 ih (.agg #[.slice none 0 0, .int .u8 0]) 2 32 Try.underlying61 hih hh0 hh1 hh2 rfl _ (n + es.length) (holdV (l ++ es)) rfl (HG1.out.al _) ⟨w3.heap.size, 0, none⟩ 1 1 [.slice a3 (i + t + 1) c3, .int .u8 (mk : Int)] rfl rfl hnew2.out (fun x hx => by simp at hx; rcases hx with rfl | rfl <;> rfl) (.inl (by decide)) (by omega) (by omega) ?_; intro v4 w4 hown4 hgrow4 hcase4)
            obtain ⟨a4, c4, ev4, _⟩ := hown4.form
            have HK4 : Hid (KS w mk i l (.slice av n cv) (.slice ab i cb) (t + 1) v4 (.slice a3 (i + (t + 1)) c3) w4 (es ++ [⟨a3, i + (t + 1), c3, mk⟩])) := KS.put HG.out hm256 (by omega) _ (by rw [← HN.out.1]; exact hown4) hgrow4 (by rw [← HN.out.1]; exact hcase4)
            subst ev4
            clear hown4 hgrow4 hcase4 hnew2 HG HG1
            exact ⟨⟨t + 1, n + es.length + 1, i + t + 1, a4, c4, a3, c3, by omega, by go_num, rfl, rfl, ⟨by omega, _, by rw [List.length_append]; rfl, by rw [List.length_append]; show es.length + 1 ≤ _; omega, HK4.out⟩⟩, by simp [RowKit.intOf]; omega⟩
          · have t2' : ¬ (t : Int) < 2 := by omega
            by_cases t12 : t = 12
            · have t12' : ((t : Int) == 12) = true := by simp; omega
              clear t12
              have hnew2 : Hid (∀ j u, [Value.slice a3 (i + t + 1) c3, .int .u8 (mk : Int)][j]? = some u → (w3.alloc (.cells #[.slice a3 (i + t + 1) c3, .int .u8 (mk : Int)] 93)).cell? ((⟨w3.heap.size, 0, none⟩ : Addr).add j) = some u) := cells_new w3 _ _
              go_upto_region 12 with fail
              go_wp2_with (at_builtin; refine wpList_append_place _ rfl _ _ 61 rfl 93 ih (.agg #[.slice none 0 0, .int .u8 0]) 2 32 Try.underlying61 hih hh0 hh1 hh2 rfl _ (n + es.length) (holdV (l ++ es)) rfl (HG1.out.al _) ⟨w3.heap.size, 0, none⟩ 1 1 [.slice a3 (i + t + 1) c3, .int .u8 (mk : Int)] rfl rfl hnew2.out (fun x hx => by simp at hx; rcases hx with rfl | rfl <;> rfl) (.inl (by decide)) (by omega) (by omega) ?_; intro v4 w4 hown4 hgrow4 hcase4)
              obtain ⟨a4, c4, ev4, _⟩ := hown4.form
              have HK4 : Hid (KS w mk i l (.slice av n cv) (.slice ab i cb) (t + 1) v4 (.slice a3 (i + (t + 1)) c3) w4 (es ++ [⟨a3, i + (t + 1), c3, mk⟩])) := KS.put HG.out hm256 (by omega) _ (by rw [← HN.out.1]; exact hown4) hgrow4 (by rw [← HN.out.1]; exact hcase4)
              subst ev4
              clear hown4 hgrow4 hcase4 hnew2 HG HG1
              exact ⟨⟨t + 1, n + es.length + 1, i + t + 1, a4, c4, a3, c3, by omega, by go_num, rfl, rfl, ⟨by omega, _, by rw [List.length_append]; rfl, by rw [List.length_append]; show es.length + 1 ≤ _; omega, HK4.out⟩⟩, by simp [RowKit.intOf]; omega⟩
            · have t12' : ((t : Int) == 12) = false := by simp; omega
              by_cases t69 : t = 69
              · have t69' : ((t : Int) == 69) = true := by simp; omega
                clear t69
                have hnew2 : Hid (∀ j u, [Value.slice a3 (i + t + 1) c3, .int .u8 (mk : Int)][j]? = some u → (w3.alloc (.cells #[.slice a3 (i + t + 1) c3, .int .u8 (mk : Int)] 93)).cell? ((⟨w3.heap.size, 0, none⟩ : Addr).add j) = some u) := cells_new w3 _ _
                go_upto_region 12 with fail
                go_wp2_with (at_builtin; refine wpList_append_place _ rfl _ _ 61 rfl 93 ih (.agg #[.slice none 0 0, .int .u8 0]) 2 32 Try.underlying61 hih hh0 hh1 hh2 rfl _ (n + es.length) (holdV (l ++ es)) rfl (HG1.out.al _) ⟨w3.heap.size, 0, none⟩ 1 1 [.slice a3 (i + t + 1) c3, .int .u8 (mk : Int)] rfl rfl hnew2.out (fun x hx => by simp at hx; rcases hx with rfl | rfl <;> rfl) (.inl (by decide)) (by omega) (by omega) ?_; intro v4 w4 hown4 hgrow4 hcase4)
                obtain ⟨a4, c4, ev4, _⟩ := hown4.form
                have HK4 : Hid (KS w mk i l (.slice av n cv) (.slice ab i cb) (t + 1) v4 (.slice a3 (i + (t + 1)) c3) w4 (es ++ [⟨a3, i + (t + 1), c3, mk⟩])) := KS.put HG.out hm256 (by omega) _ (by rw [← HN.out.1]; exact hown4) hgrow4 (by rw [← HN.out.1]; exact hcase4)
                subst ev4
                clear hown4 hgrow4 hcase4 hnew2 HG HG1
                exact ⟨⟨t + 1, n + es.length + 1, i + t + 1, a4, c4, a3, c3, by omega, by go_num, rfl, rfl, ⟨by omega, _, by rw [List.length_append]; rfl, by rw [List.length_append]; show es.length + 1 ≤ _; omega, HK4.out⟩⟩, by simp [RowKit.intOf]; omega⟩
              · have t69' : ((t : Int) == 69) = false := by simp; omega
                go_wp2
                exact ⟨⟨t + 1, n + es.length, i + t + 1, ak, ck, a3, c3, by omega, by go_num, rfl, rfl, ⟨by omega, es, rfl, by omega, HG.out⟩⟩, by simp [RowKit.intOf]; omega⟩
        · obtain rfl : t = 70 := by omega
          go_wp2
          go_ret
          obtain ⟨_, es, _, hl, hks⟩ := HS.out
          exact ⟨_, _, es, mk, rfl, by omega, hks⟩
end Go.Proofs.Ytjnnecoikcmaeaa
