/-
  MsgBusiness: the walk.
-/
import Derived.Test.YtdlmaeieoiocdaaDoorMsgEq
namespace Go.Proofs.YtdlmaeieoiocdaaDoor
set_option linter.unusedVariables false
set_option linter.unusedSimpArgs false
open Go.RowKit Go.Great

theorem OwnM.rangeAt {w : World} {g : Nat} {M : Msg} (h : OwnM w g M) : w.rangeAt g 0 M.cs.toList := fun j v hv => by
  rw [Nat.zero_add, cell_of_row _ _ _ _ _ _ h]
  simpa using hv
theorem yields_loadM {ops : Array Oper} {S : World → Prop} {op : Oper} {a : Act} {g : Nat} {M : Msg} (hS : ∀ w, S w → OwnM w g M) (x : Operand) (ho : op.op = .load 23 x) (hw : Region.wanted op (yielded ops a.tmps) = true)
    (hx : a.eval x = .pointer (some ⟨g, 0, none⟩)) : YieldsIf Tryd.prog ops S op (.agg M.cs) a := by
  have := yieldsIf_load_mid (P := Tryd.prog) hw 23 x ho g 0 hx M.cs.toList _ (fun w h => (hS w h).rangeAt) Tryd.underlying23 rfl (by rw [Array.length_toList, M.cs_size]; kernel_rfl)
  simpa using this
theorem yields_cell {ops : Array Oper} {S : World → Prop} {op : Oper} {a : Act} {g k : Nat} {v : Value} {ty : TypeId} (hS : ∀ w, S w → w.cell? ⟨g, k, none⟩ = some v) (x : Operand) (ho : op.op = .load ty x) (hw : Region.wanted op (yielded ops a.tmps) = true)
    (hx : a.eval x = .pointer (some ⟨g, k, none⟩)) (hr : ∀ w, w.cell? ⟨g, k, none⟩ = some v → (loadVar ty ⟨g, k, none⟩).run Tryd.prog w = .ok v w) : YieldsIf Tryd.prog ops S op v a :=
  .inl ⟨hw, fun w h => by
    unfold execOp
    simp only [ho, hx, Instr.loadAt, Instr.sureAddr, Sem.run_bind, Sem.run_pure, Result.andThen_ok, hr w (hS w h)]⟩
theorem yields_eqM {ops : Array Oper} {S : World → Prop} {op : Oper} {a : Act} {M : Msg} (x y : Operand) (ho : op.op = .binOp .eql 23 x y 23) (hw : Region.wanted op (yielded ops a.tmps) = true)
    (hx : a.eval x = .agg M.cs) (hy : a.eval y = .agg M.cs) : YieldsIf Tryd.prog ops S op (.bool true) a :=
  .inl ⟨hw, fun w h => by
    have hgd : (eqGuard .eql 23 x y (.agg M.cs) (.agg M.cs)).run Tryd.prog w = .ok () w := run_eqGuard_agg (P := Tryd.prog) w .eql 23 x y _ _ (by kernel_rfl)
    unfold execOp
    simp only [ho, hx, hy, Sem.run_bind, hgd, Result.andThen_ok, msg_eql]
    rfl⟩
theorem wpList_callW {P : Program} {ops : Array Oper} {rest : List Oper} {op : Oper} {a : Act} {w : World} {Q : Exit → Act → World → Prop} (hg : op.guard = none) (d : Option Tmp) (hd : op.dst = d)
    (f : FuncId) (args : Array Value) (hrun : (execOp a.eval op).run P w = .ok (.enter f args) w) {R : Ending → World → Prop} (hc : Calls P f args w R)
    (h : ∀ e w', R e w' → ∃ v, e = .returned v ∧ wpList P ops Q rest (a.put d v) w') : wpList P ops Q (op :: rest) a w := by
  subst hd
  refine wpList_plain hg fun K hK => ?_
  unfold Oper.wp
  rw [hrun, Oper.upon_enter]
  refine hc.mono fun e w'' hh => ?_
  obtain ⟨v, rfl, hw⟩ := h _ _ hh
  exact hK _ _ hw
theorem takeD {P : Program} {md : Region.Mode} {ops : Array Oper} {Q : Exit → Act → World → Prop} {S : World → Prop} {i : Nat} {oi : Oper} {v : Value} {fuel : Nat} {listed : Array Bool} {a : Act} {w : World} (d : Option Tmp) (hi : ops[i]? = some oi) (hd : oi.dst = d)
    (hs : Region.noSelect ops = true) (hf : Region.free md ops listed i = true) (hr : (Region.ready md ops listed).contains i = true)
    (hQ : ∀ c a w, Q (.panic c) (a.put d v) w → Q (.panic c) a w) (hy : YieldsIf P ops S oi v a) (hS : S w)
    (h : wpAnyH P md ops Q S fuel (listed.setIfInBounds i true) (a.put d v) w) : wpAnyH P md ops Q S (fuel + 1) listed a w := by
  subst hd
  exact wpAnyH_take hi hs hf hr hQ hy hS h
theorem callOp {P : Program} {op : Oper} {a : Act} {w : World} {K : Act → World → Prop} {Q : Exit → Act → World → Prop} {d : Option Tmp} (hd : op.dst = d)
    (f : FuncId) (args : Array Value) (hrun : (execOp a.eval op).run P w = .ok (.enter f args) w) {R : Ending → World → Prop} (hc : Calls P f args w R)
    (h : ∀ e w', R e w' → ∃ v, e = .returned v ∧ K (a.put d v) w') : op.wp P a w K Q := by
  subst hd
  unfold Oper.wp
  rw [hrun, Oper.upon_enter]
  refine hc.mono fun e w'' hh => ?_
  obtain ⟨v, rfl, hw⟩ := h _ _ hh
  exact hw
theorem load_int {w : World} {g k : Nat} {z : Int} (h : w.cell? ⟨g, k, none⟩ = some (.int .i64 z)) : (loadVar 3 ⟨g, k, none⟩).run Tryd.prog w = .ok (.int .i64 z) w := by
  go_simp
theorem load_str {w : World} {g k : Nat} {s : ByteArray} (h : w.cell? ⟨g, k, none⟩ = some (.string s)) : (loadVar 9 ⟨g, k, none⟩).run Tryd.prog w = .ok (.string s) w := by
  go_simp
theorem OwnM.same {w : World} {g : Nat} {M M' : Msg} (h : OwnM w g M) (e : M.cs = M'.cs) : OwnM w g M' := by unfold OwnM; rw [← e]; exact h
set_option maxRecDepth 100000 in
set_option maxHeartbeats 4000000 in
theorem MsgBusiness_law (M : Msg) (hz : M.ok) (hS : M.okS) (w : World) (hM : Mon w) :
    Calls Tryd.prog 4 #[.agg M.cs] w fun e w' => e = .returned (.bool true) ∧ Below w.heap.size w w' := by
  clear hS hz
  have HM : Hid (1 < w.heap.size ∧ Mon w) := ⟨hM.lt, hM⟩
  have ho : OwnM (w.alloc (.cells M.cs 23)) w.heap.size M := heap_alloc_new w _
  have hb : Below w.heap.size w (w.alloc (.cells M.cs 23)) := (Below.refl _ w).alloc (Nat.le_refl _) _
  have HO1 : Hid (OwnM (w.alloc (.cells M.cs 23)) w.heap.size M ∧ Below w.heap.size w (w.alloc (.cells M.cs 23))) := ⟨ho, hb⟩
  clear ho hb hM
  go_enter Tryd.func4, Tryd.ntmps4
  go_upto_region 1 with fail
  generalize w.alloc (.cells M.cs 23) = w1 at *
  go_wp2_with (go_at_call 9; fail)
  refine (shown_any w1 (HM.out.2.below HO1.out.2 HM.out.1)).mono ?_
  rintro e w2 ⟨rfl, hb2⟩
  have HO2 : Hid (OwnM w2 w.heap.size M ∧ Below w.heap.size w w2) := ⟨HO1.out.1.below hb2 HO1.out.1.lt, HO1.out.2.trans (hb2.mono HO1.out.2.size)⟩
  clear HO1 hb2 HM
  go_upto_region 2 with fail
  rename_i K hK
  refine wp_region_lit ?_
  refine wpList_loadM HO2.out.1 (.tmp 1) rfl rfl rfl ?_
  refine wpList_callW rfl (some 8) rfl 12 #[.agg M.cs] (by kernel_rfl) (Business_any M w2) ?_
  rintro e w3 ⟨rfl, hb3⟩
  refine ⟨_, rfl, ?_⟩
  refine wpList_runTo rfl (some 4) rfl (.pointer (some ⟨w3.heap.size, 0, none⟩)) (w3.alloc (.cells zeroM.cs 23)) (by kernel_rfl) ?_
  refine wpList_store_row rfl 23 (.tmp 4) (.tmp 8) rfl w3.heap.size (bizM M).cs (by kernel_rfl) (by kernel_rfl) 23 _ (heap_alloc_new w3 _) (by rw [Msg.cs_size]; kernel_rfl) (by rw [Msg.cs_size, Msg.cs_size]) (Msg.cs_one _) ?_
  rw [World.setRow_alloc_new]
  refine wpList_nil ?_
  refine hK _ _ ?_
  clear hK K
  simp only [Act.put, List.setIfInBounds_toArray, List.set_cons_zero, List.set_cons_succ]
  have HO3 : Hid (OwnM w3 w.heap.size M ∧ Below w.heap.size w w3) := ⟨HO2.out.1.below hb3 HO2.out.1.lt, HO2.out.2.trans (hb3.mono HO2.out.2.size)⟩
  have HO4 : Hid (OwnM (w3.alloc (.cells (bizM M).cs 23)) w.heap.size M ∧ OwnM (w3.alloc (.cells (bizM M).cs 23)) w3.heap.size (bizM M) ∧ Below w.heap.size w (w3.alloc (.cells (bizM M).cs 23))) :=
    ⟨HO3.out.1.below ((Below.refl _ _).alloc (Nat.le_refl _) _) HO3.out.1.lt, heap_alloc_new w3 _, HO3.out.2.alloc HO3.out.2.size _⟩
  clear HO2 hb3 HO3
  generalize w3.heap.size = g4 at *
  generalize w3.alloc (.cells (bizM M).cs 23) = w4 at *
  go_upto_region 3 with fail
  rename_i K hK
  refine wp_region_lit ?_
  refine wpList_loadM HO4.out.2.1 (.tmp 4) rfl rfl rfl ?_
  refine wpList_callW rfl (some 10) rfl 12 #[.agg (bizM M).cs] (by kernel_rfl) (Business_any (bizM M) w4) ?_
  rintro e w5 ⟨rfl, hb5⟩
  refine ⟨_, rfl, ?_⟩
  rw [biz_biz]
  refine wpList_runTo rfl (some 5) rfl (.pointer (some ⟨w5.heap.size, 0, none⟩)) (w5.alloc (.cells zeroM.cs 23)) (by kernel_rfl) ?_
  refine wpList_store_row rfl 23 (.tmp 5) (.tmp 10) rfl w5.heap.size (bizM M).cs (by kernel_rfl) (by kernel_rfl) 23 _ (heap_alloc_new w5 _) (by rw [Msg.cs_size]; kernel_rfl) (by rw [Msg.cs_size, Msg.cs_size]) (Msg.cs_one _) ?_
  rw [World.setRow_alloc_new]
  refine wpList_nil ?_
  refine hK _ _ ?_
  clear hK K
  simp only [Act.put, List.setIfInBounds_toArray, List.set_cons_zero, List.set_cons_succ]
  have HO5 : Hid (OwnM w5 w.heap.size M ∧ OwnM w5 g4 (bizM M) ∧ Below w.heap.size w w5) := ⟨HO4.out.1.below hb5 HO4.out.1.lt, HO4.out.2.1.below hb5 HO4.out.2.1.lt, HO4.out.2.2.trans (hb5.mono HO4.out.2.2.size)⟩
  have HO6 : Hid (OwnM (w5.alloc (.cells (bizM M).cs 23)) w.heap.size M ∧ OwnM (w5.alloc (.cells (bizM M).cs 23)) g4 (bizM M) ∧ OwnM (w5.alloc (.cells (bizM M).cs 23)) w5.heap.size (bizM M) ∧ Below w.heap.size w (w5.alloc (.cells (bizM M).cs 23))) :=
    ⟨HO5.out.1.below ((Below.refl _ _).alloc (Nat.le_refl _) _) HO5.out.1.lt, HO5.out.2.1.below ((Below.refl _ _).alloc (Nat.le_refl _) _) HO5.out.2.1.lt, heap_alloc_new w5 _, HO5.out.2.2.alloc HO5.out.2.2.size _⟩
  clear HO4 hb5 HO5
  generalize w5.heap.size = g5 at *
  generalize w5.alloc (.cells (bizM M).cs 23) = w6 at *
  go_upto_region 4 with fail
  rename_i K hK
  refine wp_region_held (S := fun w' => OwnM w' w.heap.size M ∧ OwnM w' g4 (bizM M) ∧ OwnM w' g5 (bizM M) ∧ Below w.heap.size w w') (by kernel_rfl) ?_
  have hs7 : OwnM w6.drew w.heap.size M ∧ OwnM w6.drew g4 (bizM M) ∧ OwnM w6.drew g5 (bizM M) ∧ Below w.heap.size w w6.drew := ⟨HO6.out.1, HO6.out.2.1, HO6.out.2.2.1, HO6.out.2.2.2.drew⟩
  have HS7 : Hid _ := hs7
  clear hs7 HO6
  change wpAnyH _ _ _ _ _ _ _ _ (World.drew _)
  generalize w6.drew = w7 at *
  refine takeD (i := 0) (v := .bool true) (some 11) rfl rfl (by kernel_rfl) (by kernel_rfl) (by kernel_rfl) (fun _ _ _ h => h) (Or.inl ⟨by kernel_rfl, fun _ _ => by kernel_rfl⟩) HS7.out ?_
  simp only [Act.put, List.setIfInBounds_toArray, List.set_cons_zero, List.set_cons_succ]
  refine takeD (i := 1) (v := .bool true) (some 12) rfl rfl (by kernel_rfl) (by kernel_rfl) (by kernel_rfl) (fun _ _ _ h => h) (Or.inl ⟨by kernel_rfl, fun _ _ => by kernel_rfl⟩) HS7.out ?_
  simp only [Act.put, List.setIfInBounds_toArray, List.set_cons_zero, List.set_cons_succ]
  refine takeD (i := 2) (v := .agg (bizM M).cs) (some 13) rfl rfl (by kernel_rfl) (by kernel_rfl) (by kernel_rfl) (fun _ _ _ h => h) (yields_loadM (fun w' h => h.2.1) (.tmp 4) rfl (by kernel_rfl) (by kernel_rfl)) HS7.out ?_
  simp only [Act.put, List.setIfInBounds_toArray, List.set_cons_zero, List.set_cons_succ]
  refine takeD (i := 3) (v := .agg M.cs) (some 14) rfl rfl (by kernel_rfl) (by kernel_rfl) (by kernel_rfl) (fun _ _ _ h => h) (yields_loadM (fun w' h => h.1) (.tmp 1) rfl (by kernel_rfl) (by kernel_rfl)) HS7.out ?_
  simp only [Act.put, List.setIfInBounds_toArray, List.set_cons_zero, List.set_cons_succ]
  refine wpAnyH_ready (rs := [4]) (by kernel_rfl) (by simp) ?_
  refine AllReadyH.cons rfl (fun K' hK' => ?_) AllReadyH.nil
  rw [if_pos (by kernel_rfl)]
  refine callOp (d := some 15) rfl 13 #[.agg M.cs] (by kernel_rfl) (refBusiness_any M w7) ?_
  rintro e w8 ⟨rfl, hb8⟩
  refine ⟨_, rfl, ?_⟩
  refine hK'.out _ _ ⟨HS7.out.1.below hb8 HS7.out.1.lt, HS7.out.2.1.below hb8 HS7.out.2.1.lt, HS7.out.2.2.1.below hb8 HS7.out.2.2.1.lt, HS7.out.2.2.2.trans (hb8.mono HS7.out.2.2.2.size)⟩ (fun hs8 => ?_)
  have HS8 : Hid _ := hs8
  clear hK' hs8 HS7 hb8
  simp only [Act.put, List.setIfInBounds_toArray, List.set_cons_zero, List.set_cons_succ]
  refine takeD (i := 5) (v := .bool true) (some 16) rfl rfl (by kernel_rfl) (by kernel_rfl) (by kernel_rfl) (fun _ _ _ h => h) (yields_eqM (M := bizM M) (.tmp 13) (.tmp 15) rfl (by kernel_rfl) (by kernel_rfl) (by kernel_rfl)) HS8.out ?_
  simp only [Act.put, List.setIfInBounds_toArray, List.set_cons_zero, List.set_cons_succ]
  refine takeD (i := 6) (v := .bool true) (some 17) rfl rfl (by kernel_rfl) (by kernel_rfl) (by kernel_rfl) (fun _ _ _ h => h) (Or.inl ⟨by kernel_rfl, fun _ _ => by kernel_rfl⟩) HS8.out ?_
  simp only [Act.put, List.setIfInBounds_toArray, List.set_cons_zero, List.set_cons_succ]
  refine takeD (i := 7) (v := .bool true) (some 18) rfl rfl (by kernel_rfl) (by kernel_rfl) (by kernel_rfl) (fun _ _ _ h => h) (Or.inl ⟨by kernel_rfl, fun _ _ => by kernel_rfl⟩) HS8.out ?_
  simp only [Act.put, List.setIfInBounds_toArray, List.set_cons_zero, List.set_cons_succ]
  refine takeD (i := 8) (v := .agg (bizM M).cs) (some 19) rfl rfl (by kernel_rfl) (by kernel_rfl) (by kernel_rfl) (fun _ _ _ h => h) (yields_loadM (fun w' h => h.2.1) (.tmp 4) rfl (by kernel_rfl) (by kernel_rfl)) HS8.out ?_
  simp only [Act.put, List.setIfInBounds_toArray, List.set_cons_zero, List.set_cons_succ]
  refine takeD (i := 9) (v := .agg (bizM M).cs) (some 20) rfl rfl (by kernel_rfl) (by kernel_rfl) (by kernel_rfl) (fun _ _ _ h => h) (yields_loadM (fun w' h => h.2.2.1) (.tmp 5) rfl (by kernel_rfl) (by kernel_rfl)) HS8.out ?_
  simp only [Act.put, List.setIfInBounds_toArray, List.set_cons_zero, List.set_cons_succ]
  refine takeD (i := 10) (v := .bool true) (some 21) rfl rfl (by kernel_rfl) (by kernel_rfl) (by kernel_rfl) (fun _ _ _ h => h) (yields_eqM (M := bizM M) (.tmp 19) (.tmp 20) rfl (by kernel_rfl) (by kernel_rfl) (by kernel_rfl)) HS8.out ?_
  simp only [Act.put, List.setIfInBounds_toArray, List.set_cons_zero, List.set_cons_succ]
  refine takeD (i := 11) (v := .bool true) (some 22) rfl rfl (by kernel_rfl) (by kernel_rfl) (by kernel_rfl) (fun _ _ _ h => h) (Or.inl ⟨by kernel_rfl, fun _ _ => by kernel_rfl⟩) HS8.out ?_
  simp only [Act.put, List.setIfInBounds_toArray, List.set_cons_zero, List.set_cons_succ]
  refine takeD (i := 12) (v := .bool true) (some 23) rfl rfl (by kernel_rfl) (by kernel_rfl) (by kernel_rfl) (fun _ _ _ h => h) (Or.inl ⟨by kernel_rfl, fun _ _ => by kernel_rfl⟩) HS8.out ?_
  simp only [Act.put, List.setIfInBounds_toArray, List.set_cons_zero, List.set_cons_succ]
  refine takeD (i := 13) (v := .pointer (some ⟨g4, 0, none⟩)) (some 24) rfl rfl (by kernel_rfl) (by kernel_rfl) (by kernel_rfl) (fun _ _ _ h => h) (Or.inl ⟨by kernel_rfl, fun _ _ => by kernel_rfl⟩) HS8.out ?_
  simp only [Act.put, List.setIfInBounds_toArray, List.set_cons_zero, List.set_cons_succ]
  refine takeD (i := 14) (v := .int .i64 (M.z 0)) (some 25) rfl rfl (by kernel_rfl) (by kernel_rfl) (by kernel_rfl) (fun _ _ _ h => h) (yields_cell (ty := 3) (k := 0) (fun w' h => h.2.1.cell 0 (by decide)) (.tmp 24) rfl (by kernel_rfl) (by kernel_rfl) (fun w' hc => load_int hc)) HS8.out ?_
  simp only [Act.put, List.setIfInBounds_toArray, List.set_cons_zero, List.set_cons_succ]
  refine takeD (i := 15) (v := .pointer (some ⟨w.heap.size, 0, none⟩)) (some 26) rfl rfl (by kernel_rfl) (by kernel_rfl) (by kernel_rfl) (fun _ _ _ h => h) (Or.inl ⟨by kernel_rfl, fun _ _ => by kernel_rfl⟩) HS8.out ?_
  simp only [Act.put, List.setIfInBounds_toArray, List.set_cons_zero, List.set_cons_succ]
  refine takeD (i := 16) (v := .int .i64 (M.z 0)) (some 27) rfl rfl (by kernel_rfl) (by kernel_rfl) (by kernel_rfl) (fun _ _ _ h => h) (yields_cell (ty := 3) (k := 0) (fun w' h => h.1.cell 0 (by decide)) (.tmp 26) rfl (by kernel_rfl) (by kernel_rfl) (fun w' hc => load_int hc)) HS8.out ?_
  simp only [Act.put, List.setIfInBounds_toArray, List.set_cons_zero, List.set_cons_succ]
  refine takeD (i := 17) (v := .bool (M.z 0 == M.z 0)) (some 28) rfl rfl (by kernel_rfl) (by kernel_rfl) (by kernel_rfl) (fun _ _ _ h => h) (Or.inl ⟨by kernel_rfl, fun _ _ => by kernel_rfl⟩) HS8.out ?_
  simp only [Act.put, List.setIfInBounds_toArray, List.set_cons_zero, List.set_cons_succ]
  rw [show (M.z 0 == M.z 0) = true by simp]
  refine takeD (i := 18) (v := .bool true) (some 29) rfl rfl (by kernel_rfl) (by kernel_rfl) (by kernel_rfl) (fun _ _ _ h => h) (Or.inl ⟨by kernel_rfl, fun _ _ => by kernel_rfl⟩) HS8.out ?_
  simp only [Act.put, List.setIfInBounds_toArray, List.set_cons_zero, List.set_cons_succ]
  refine takeD (i := 19) (v := .bool true) (some 30) rfl rfl (by kernel_rfl) (by kernel_rfl) (by kernel_rfl) (fun _ _ _ h => h) (Or.inl ⟨by kernel_rfl, fun _ _ => by kernel_rfl⟩) HS8.out ?_
  simp only [Act.put, List.setIfInBounds_toArray, List.set_cons_zero, List.set_cons_succ]
  refine takeD (i := 20) (v := .pointer (some ⟨g4, 18, none⟩)) (some 31) rfl rfl (by kernel_rfl) (by kernel_rfl) (by kernel_rfl) (fun _ _ _ h => h) (Or.inl ⟨by kernel_rfl, fun _ _ => by kernel_rfl⟩) HS8.out ?_
  simp only [Act.put, List.setIfInBounds_toArray, List.set_cons_zero, List.set_cons_succ]
  refine takeD (i := 21) (v := .string (M.s 18)) (some 32) rfl rfl (by kernel_rfl) (by kernel_rfl) (by kernel_rfl) (fun _ _ _ h => h) (yields_cell (ty := 9) (k := 18) (fun w' h => h.2.1.cell 18 (by decide)) (.tmp 31) rfl (by kernel_rfl) (by kernel_rfl) (fun w' hc => load_str hc)) HS8.out ?_
  simp only [Act.put, List.setIfInBounds_toArray, List.set_cons_zero, List.set_cons_succ]
  refine takeD (i := 22) (v := .pointer (some ⟨w.heap.size, 18, none⟩)) (some 33) rfl rfl (by kernel_rfl) (by kernel_rfl) (by kernel_rfl) (fun _ _ _ h => h) (Or.inl ⟨by kernel_rfl, fun _ _ => by kernel_rfl⟩) HS8.out ?_
  simp only [Act.put, List.setIfInBounds_toArray, List.set_cons_zero, List.set_cons_succ]
  refine takeD (i := 23) (v := .string (M.s 18)) (some 34) rfl rfl (by kernel_rfl) (by kernel_rfl) (by kernel_rfl) (fun _ _ _ h => h) (yields_cell (ty := 9) (k := 18) (fun w' h => h.1.cell 18 (by decide)) (.tmp 33) rfl (by kernel_rfl) (by kernel_rfl) (fun w' hc => load_str hc)) HS8.out ?_
  simp only [Act.put, List.setIfInBounds_toArray, List.set_cons_zero, List.set_cons_succ]
  refine takeD (i := 24) (v := .bool true) (some 35) rfl rfl (by kernel_rfl) (by kernel_rfl) (by kernel_rfl) (fun _ _ _ h => h) (Or.inl ⟨by kernel_rfl, fun w' _ => by first | (go_simp; done) | (go_simp; simp; done)⟩) HS8.out ?_
  simp only [Act.put, List.setIfInBounds_toArray, List.set_cons_zero, List.set_cons_succ]
  refine takeD (i := 25) (v := .bool true) (some 36) rfl rfl (by kernel_rfl) (by kernel_rfl) (by kernel_rfl) (fun _ _ _ h => h) (Or.inl ⟨by kernel_rfl, fun _ _ => by kernel_rfl⟩) HS8.out ?_
  simp only [Act.put, List.setIfInBounds_toArray, List.set_cons_zero, List.set_cons_succ]
  refine takeD (i := 26) (v := .bool true) (some 37) rfl rfl (by kernel_rfl) (by kernel_rfl) (by kernel_rfl) (fun _ _ _ h => h) (Or.inl ⟨by kernel_rfl, fun _ _ => by kernel_rfl⟩) HS8.out ?_
  simp only [Act.put, List.setIfInBounds_toArray, List.set_cons_zero, List.set_cons_succ]
  refine takeD (i := 27) (v := .pointer (some ⟨g4, 3, none⟩)) (some 38) rfl rfl (by kernel_rfl) (by kernel_rfl) (by kernel_rfl) (fun _ _ _ h => h) (Or.inl ⟨by kernel_rfl, fun _ _ => by kernel_rfl⟩) HS8.out ?_
  simp only [Act.put, List.setIfInBounds_toArray, List.set_cons_zero, List.set_cons_succ]
  refine takeD (i := 28) (v := .int .i64 0) (some 39) rfl rfl (by kernel_rfl) (by kernel_rfl) (by kernel_rfl) (fun _ _ _ h => h) (yields_cell (ty := 3) (k := 3) (fun w' h => h.2.1.cell 3 (by decide)) (.tmp 38) rfl (by kernel_rfl) (by kernel_rfl) (fun w' hc => load_int hc)) HS8.out ?_
  simp only [Act.put, List.setIfInBounds_toArray, List.set_cons_zero, List.set_cons_succ]
  refine takeD (i := 29) (v := .bool true) (some 40) rfl rfl (by kernel_rfl) (by kernel_rfl) (by kernel_rfl) (fun _ _ _ h => h) (Or.inl ⟨by kernel_rfl, fun _ _ => by kernel_rfl⟩) HS8.out ?_
  simp only [Act.put, List.setIfInBounds_toArray, List.set_cons_zero, List.set_cons_succ]
  refine takeD (i := 30) (v := .bool true) (some 41) rfl rfl (by kernel_rfl) (by kernel_rfl) (by kernel_rfl) (fun _ _ _ h => h) (Or.inl ⟨by kernel_rfl, fun _ _ => by kernel_rfl⟩) HS8.out ?_
  simp only [Act.put, List.setIfInBounds_toArray, List.set_cons_zero, List.set_cons_succ]
  refine takeD (i := 31) (v := .bool true) (some 2) rfl rfl (by kernel_rfl) (by kernel_rfl) (by kernel_rfl) (fun _ _ _ h => h) (Or.inl ⟨by kernel_rfl, fun _ _ => by kernel_rfl⟩) HS8.out ?_
  simp only [Act.put, List.setIfInBounds_toArray, List.set_cons_zero, List.set_cons_succ]
  refine wpAnyH_done (by kernel_rfl) ?_ _
  refine hK _ _ ?_
  apply wp_ret
  exact bodyPost_ret (results_tmp rfl _ _ _) rfl ⟨rfl, HS8.out.2.2.2⟩

end Go.Proofs.YtdlmaeieoiocdaaDoor
