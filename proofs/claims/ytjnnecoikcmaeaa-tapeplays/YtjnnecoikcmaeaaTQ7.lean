/-
  tape: Command (of one that there is).
-/
import Derived.Test.YtjnnecoikcmaeaaTQ6
namespace Go.Proofs.Ytjnnecoikcmaeaa
set_option linter.unusedVariables false
set_option linter.unusedSimpArgs false
open Go.RowKit Go.Great

theorem wpList_callG {P : Program} {ops : Array Oper} {rest : List Oper} {op : Oper} {a : Act} {w : World} {Q : Exit → Act → World → Prop} (hw : Region.wanted op (yielded ops a.tmps) = true) (d : Option Tmp) (hd : op.dst = d)
    (f : FuncId) (args : Array Value) (hrun : (execOp a.eval op).run P w = .ok (.enter f args) w) {R : Ending → World → Prop} (hc : Calls P f args w R)
    (h : ∀ e w', R e w' → ∃ v, e = .returned v ∧ wpList P ops Q rest (a.put d v) w') : wpList P ops Q (op :: rest) a w := by
  subst hd
  refine wpList_wanted hw fun K hK => ?_
  unfold Oper.wp
  rw [hrun, Oper.upon_enter]
  refine hc.mono fun e w'' hh => ?_
  obtain ⟨v, rfl, hw⟩ := h _ _ hh
  exact hK _ _ hw
theorem results_cr3 {P : Program} {fn : Func} {p u : Tmp} {ty : TypeId} (h : fn.results = #[.cell p ty, .tmp u]) (tmps : Array Value) (w : World) (g : Nat) (t : TypeId) (cs : Array Value) (fr : Nat × Nat) (d : TypeDesc)
    (hp : tmps.getD p undef = .pointer (some ⟨g, 0, none⟩)) (hg : w.heap[g]? = some (.cells cs t fr))
    (hu : P.underlying ty = some d) (hd : (match d with | .struct _ | .array _ _ => true | _ => false) = true) (hi : (P.info? ty).map (·.size) = some cs.size) :
    (results fn tmps).run P w = .ok (.tuple #[.agg cs, tmps.getD u undef]) w := results_cr2 h tmps w g t cs fr d hp hg hu hd hi
theorem geN_run {op : Oper} {a : Act} {p q : Nat} (x y : Operand) (ho : op.op = .binOp .geq 3 x y 3) (hx : a.eval x = .int .i64 (p : Int)) (hy : a.eval y = .int .i64 (q : Int)) (h : p < q) (w : World) : (execOp a.eval op).run Try.prog w = .ok (.value (.bool false)) w := by
  have h1 : ¬ (q : Int) ≤ (p : Int) := by omega
  have h2 : ¬ q ≤ p := by omega
  unfold execOp
  simp only [ho, hx, hy]
  go_simp
set_option maxRecDepth 100000 in
set_option maxHeartbeats 4000000 in
theorem Command_yes {w : World} {t : Tp} (h : TpAt w t) (i x : Nat) (hx : t.es[i]? = some x) (hle : begE t.es i + 6 ≤ x) (hxl : x ≤ t.l.length) (hl : t.l.length ≤ 100000000000) (hes : t.es.length ≤ 1000000) (hsm : x - begE t.es i ≤ 1048576) (c : Cm) (hd : dec (((t.l.drop (begE t.es i)).take (x - begE t.es i)).drop 6) = .ok c) : Calls Try.prog 16 #[.pointer (some ⟨t.g, 0, none⟩), .int .i64 (i : Int)] w fun e w' => e = .returned (.tuple #[.agg c.cs, .int .i64 0]) ∧ Hid (Below w.heap.size w w') := by
  have hi := (List.getElem?_eq_some_iff.1 hx).1
  obtain ⟨W0, hW0⟩ : ∃ W0, W0 = w.alloc (.cells zeroC.cs 27) := ⟨_, rfl⟩
  have hb0 : Below w.heap.size w W0 := by rw [hW0]; exact (Below.refl _ w).alloc (Nat.le_refl _) _
  have hk0 : Blk W0 w.heap.size 27 zeroC.cs := by rw [hW0]; exact Blk.new _ _ _
  have HB0 : Hid (Below w.heap.size w W0 ∧ Blk W0 w.heap.size 27 zeroC.cs) := ⟨hb0, hk0⟩
  have hln := Len_any (h.below hb0) (by omega)
  have hrc := rec_any (h.below hb0) i x hx (by omega) hxl hl hes
  have hRl : ((t.l.drop (begE t.es i)).take (x - begE t.es i)).length = x - begE t.es i := by rw [List.length_take, List.length_drop]; omega
  have HRl : Hid (6 ≤ ((t.l.drop (begE t.es i)).take (x - begE t.es i)).length ∧ ((t.l.drop (begE t.es i)).take (x - begE t.es i)).length ≤ 1048576) := ⟨by rw [hRl]; omega, by rw [hRl]; exact hsm⟩
  have HD : Hid (dec (((t.l.drop (begE t.es i)).take (x - begE t.es i)).drop 6) = .ok c) := hd
  have hlt : (i : Int) < (t.es.length : Int) := by omega
  have h0 : ¬ (i : Int) < 0 := by omega
  clear hd hb0 hk0 hRl hx hle hxl hsm h
  generalize (t.l.drop (begE t.es i)).take (x - begE t.es i) = R at *
  go_enter Try.func16, Try.ntmps16
  go_upto_region 0 with fail
  rename_i K0 hK0
  refine wp_region_lit ?_
  refine wpList_runTo rfl (some 4) rfl (.pointer (some ⟨w.heap.size, 0, none⟩)) (w.alloc (.cells zeroC.cs 27)) (by kernel_rfl) ?_
  simp only [Act.put, List.setIfInBounds_toArray, List.set_cons_zero, List.set_cons_succ]
  rw [← hW0]
  clear hW0
  refine wpList_runTo rfl (some 5) rfl (.int .i64 0) W0 (by kernel_rfl) ?_
  simp only [Act.put, List.setIfInBounds_toArray, List.set_cons_zero, List.set_cons_succ]
  refine wpList_nil ?_
  refine hK0 _ _ ?_
  clear hK0
  go_upto_region 1 with fail
  rename_i K1 hK1
  refine wp_region_lit ?_
  refine wpList_runTo rfl (some 8) rfl (.int .i64 (i : Int)) W0 (by kernel_rfl) ?_
  simp only [Act.put, List.setIfInBounds_toArray, List.set_cons_zero, List.set_cons_succ]
  refine wpList_runTo rfl (some 9) rfl (.bool false) W0 (by go_simp) ?_
  simp only [Act.put, List.setIfInBounds_toArray, List.set_cons_zero, List.set_cons_succ]
  refine wpList_runTo rfl (some 10) rfl (.bool false) W0 (by kernel_rfl) ?_
  simp only [Act.put, List.setIfInBounds_toArray, List.set_cons_zero, List.set_cons_succ]
  refine wpList_runToG (by kernel_rfl) (some 11) rfl (.int .i64 (i : Int)) W0 (by kernel_rfl) ?_
  simp only [Act.put, List.setIfInBounds_toArray, List.set_cons_zero, List.set_cons_succ]
  refine wpList_runToG (by kernel_rfl) (some 12) rfl (.pointer (some ⟨t.g, 0, none⟩)) W0 (by kernel_rfl) ?_
  simp only [Act.put, List.setIfInBounds_toArray, List.set_cons_zero, List.set_cons_succ]
  refine wpList_callG (by kernel_rfl) (some 13) rfl 15 #[.pointer (some ⟨t.g, 0, none⟩)] (by kernel_rfl) hln ?_
  rintro e w2 ⟨rfl, ew⟩
  replace ew := ew.symm
  subst ew
  refine ⟨_, rfl, ?_⟩
  simp only [Act.put, List.setIfInBounds_toArray, List.set_cons_zero, List.set_cons_succ]
  refine wpList_runToG (by kernel_rfl) (some 14) rfl (.bool false) W0 (by exact geN_run (.tmp 11) (.tmp 13) rfl (by kernel_rfl) (by kernel_rfl) hi _) ?_
  simp only [Act.put, List.setIfInBounds_toArray, List.set_cons_zero, List.set_cons_succ]
  refine wpList_runTo rfl (some 15) rfl (.bool false) W0 (by kernel_rfl) ?_
  simp only [Act.put, List.setIfInBounds_toArray, List.set_cons_zero, List.set_cons_succ]
  refine wpList_nil ?_
  refine hK1 _ _ ?_
  clear hK1 hln
  go_upto_region 3 with fail
  rename_i K3 hK3
  refine wp_region_lit ?_
  refine wpList_runTo rfl (some 18) rfl (.pointer (some ⟨t.g, 0, none⟩)) W0 (by kernel_rfl) ?_
  simp only [Act.put, List.setIfInBounds_toArray, List.set_cons_zero, List.set_cons_succ]
  refine wpList_runTo rfl (some 19) rfl (.int .i64 (i : Int)) W0 (by kernel_rfl) ?_
  simp only [Act.put, List.setIfInBounds_toArray, List.set_cons_zero, List.set_cons_succ]
  refine wpList_callW rfl (some 20) rfl 36 #[.pointer (some ⟨t.g, 0, none⟩), .int .i64 (i : Int)] (by kernel_rfl) hrc ?_
  clear hrc
  rintro e W1 ⟨rv, rfl, hx1⟩
  refine ⟨_, rfl, ?_⟩
  simp only [Act.put, List.setIfInBounds_toArray, List.set_cons_zero, List.set_cons_succ]
  have hco := commandOf_any hx1.out.2 HRl.out.1 HRl.out.2
  refine wpList_callW rfl (some 21) rfl 35 #[rv] (by kernel_rfl) hco ?_
  rintro e w3 ⟨cv, rfl, ew, hcb⟩
  replace ew := ew.symm
  subst ew
  refine ⟨_, rfl, ?_⟩
  simp only [Act.put, List.setIfInBounds_toArray, List.set_cons_zero, List.set_cons_succ]
  have hde := Decode_any hcb.out (by rw [List.length_drop]; have := HRl.out.2; omega)
  rw [HD.out] at hde
  refine wpList_callW rfl (some 22) rfl 10 #[cv] (by kernel_rfl) hde ?_
  rintro e W2 ⟨rfl, hx2⟩
  refine ⟨_, rfl, ?_⟩
  simp only [Act.put, List.setIfInBounds_toArray, List.set_cons_zero, List.set_cons_succ]
  have HB2 : Hid (Below w.heap.size w W2 ∧ Blk W2 w.heap.size 27 zeroC.cs) := ⟨below_step (below_step HB0.out.1 hx1.out.1) hx2.out, (HB0.out.2.below hx1.out.1 HB0.out.2.lt).below hx2.out (HB0.out.2.below hx1.out.1 HB0.out.2.lt).lt⟩
  clear hx1 hx2 hco hde hcb HB0
  refine wpList_runTo rfl (some 17) rfl (.tuple #[.agg c.cs, .nilIface]) W2 (by kernel_rfl) ?_
  simp only [Act.put, List.setIfInBounds_toArray, List.set_cons_zero, List.set_cons_succ]
  refine wpList_runTo rfl (some 23) rfl (.agg c.cs) W2 (by kernel_rfl) ?_
  simp only [Act.put, List.setIfInBounds_toArray, List.set_cons_zero, List.set_cons_succ]
  refine wpList_runTo rfl (some 24) rfl (.nilIface) W2 (by kernel_rfl) ?_
  simp only [Act.put, List.setIfInBounds_toArray, List.set_cons_zero, List.set_cons_succ]
  refine wpList_runTo rfl (some 6) rfl (.pointer (some ⟨W2.heap.size, 0, none⟩)) (W2.alloc (.cells zeroC.cs 27)) (by kernel_rfl) ?_
  simp only [Act.put, List.setIfInBounds_toArray, List.set_cons_zero, List.set_cons_succ]
  refine store_cmd (c := c) (c' := zeroC) (Blk.new W2 _ _) (.tmp 6) (.tmp 23) rfl rfl (by kernel_rfl) (by kernel_rfl) ?_
  simp only [Act.put, List.setIfInBounds_toArray, List.set_cons_zero, List.set_cons_succ]
  have hs2 : w.heap.size < W2.heap.size := HB2.out.2.lt
  have HB3 : Hid (Below w.heap.size w ((W2.alloc (.cells zeroC.cs 27)).setRow W2.heap.size c.cs) ∧ Blk ((W2.alloc (.cells zeroC.cs 27)).setRow W2.heap.size c.cs) w.heap.size 27 zeroC.cs ∧ Blk ((W2.alloc (.cells zeroC.cs 27)).setRow W2.heap.size c.cs) W2.heap.size 27 c.cs) := ⟨below_setRow (below_step HB2.out.1 ((Below.refl _ W2).alloc (Nat.le_refl _) _)) (by omega) _, (HB2.out.2.alloc _).other (by omega), (Blk.new W2 _ _).row⟩
  generalize (W2.alloc (.cells zeroC.cs 27)).setRow W2.heap.size c.cs = W3 at *
  generalize W2.heap.size = b3 at *
  refine wpList_runTo rfl (some 7) rfl (.nilIface) W3 (by kernel_rfl) ?_
  simp only [Act.put, List.setIfInBounds_toArray, List.set_cons_zero, List.set_cons_succ]
  refine wpList_nil ?_
  refine hK3 _ _ ?_
  clear hK3 HB2
  go_upto_region 4 with fail
  rename_i K4 hK4
  refine wp_region_lit ?_
  refine load_cmd HB3.out.2.2 (.tmp 6) rfl rfl (by kernel_rfl) ?_
  simp only [Act.put, List.setIfInBounds_toArray, List.set_cons_zero, List.set_cons_succ]
  refine store_cmd (c := c) HB3.out.2.1 (.tmp 4) (.tmp 25) rfl rfl (by kernel_rfl) (by kernel_rfl) ?_
  simp only [Act.put, List.setIfInBounds_toArray, List.set_cons_zero, List.set_cons_succ]
  refine wpList_runTo rfl (some 5) rfl (.int .i64 0) (W3.setRow w.heap.size c.cs) (by kernel_rfl) ?_
  simp only [Act.put, List.setIfInBounds_toArray, List.set_cons_zero, List.set_cons_succ]
  refine wpList_nil ?_
  refine hK4 _ _ ?_
  apply wp_ret
  try simp only [Exit.then]
  refine bodyPost_ret (results_cr2 (fn := Try.f16) (p := 4) (u := 5) (ty := 27) rfl _ _ w.heap.size 27 c.cs (0, 0) _ (by kernel_rfl) HB3.out.2.1.row Try.underlying27 rfl (by rw [Cm.cs_size]; exact info27)) (by kernel_rfl) ?_
  exact ⟨rfl, below_setRow HB3.out.1 (Nat.le_refl _) _⟩
end Go.Proofs.Ytjnnecoikcmaeaa
