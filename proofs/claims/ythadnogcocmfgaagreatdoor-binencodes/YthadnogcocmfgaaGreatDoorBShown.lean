/-
  bin: shown.
-/
import Derived.Test.YthadnogcocmfgaaGreatDoorBDec5
import Derived.Test.YthadnogcocmfgaaGreatDoorBSize
import Derived.Test.YthadnogcocmfgaaGreatDoorMsgEq
namespace Go.Proofs.YthadnogcocmfgaaGreatDoor
set_option linter.unusedVariables false
open Go.RowKit Go.Great Go.Lib

theorem wpList_wanted {P : Program} {ops : Array Oper} {rest : List Oper} {o : Oper} {a : Act} {w : World} {Q : Exit → Act → World → Prop} (hw : Region.wanted o (yielded ops a.tmps) = true)
    (h : ∀ K : Act → World → Prop, (∀ a w, wpList P ops Q rest a w → K a w) → o.wp P a w K Q) : wpList P ops Q (o :: rest) a w :=
  wpList_step fun K hK => by rw [if_pos hw]; exact h K hK
theorem wpList_runToG {P : Program} {ops : Array Oper} {rest : List Oper} {o : Oper} {a : Act} {w : World} {Q : Exit → Act → World → Prop} (hw : Region.wanted o (yielded ops a.tmps) = true) (dst : Option Tmp) (hdst : o.dst = dst)
    (v : Value) (w' : World) (hrun : (execOp a.eval o).run P w = .ok (.value v) w')
    (h : wpList P ops Q rest (a.put dst v) w') : wpList P ops Q (o :: rest) a w := by
  subst hdst
  refine wpList_wanted hw fun K hK => ?_
  unfold Oper.wp
  rw [hrun, Oper.upon_value]
  exact hK _ _ h
theorem wpList_callG {P : Program} {ops : Array Oper} {rest : List Oper} {op : Oper} {a : Act} {w : World} {Q : Exit → Act → World → Prop} (hw : Region.wanted op (yielded ops a.tmps) = true) (d : Option Tmp) (hd : op.dst = d)
    (f : FuncId) (args : Array Value) (hrun : (execOp a.eval op).run P w = .ok (.enter f args) w) {R : Ending → World → Prop} (hc : Calls P f args w R)
    (h : ∀ e w', R e w' → ∃ v, e = .returned v ∧ wpList P ops Q rest (a.put d v) w') : wpList P ops Q (op :: rest) a w := by
  subst hd
  refine wpList_wanted hw fun K hK => ?_
  unfold Oper.wp
  rw [hrun, Oper.upon_enter]
  refine hc.mono fun e w'' hh => ?_
  obtain ⟨v, rfl, hw⟩ := h _ _ hh
  exact hK _ _ hw
theorem wpList_loadG {ops : Array Oper} {rest : List Oper} {op : Oper} {a : Act} {w : World} {Q : Exit → Act → World → Prop} {g : Nat} {M : Msg} (h : OwnM w g M) (x : Operand) (hw : Region.wanted op (yielded ops a.tmps) = true) (ho : op.op = .load 23 x)
    (hx : a.eval x = .pointer (some ⟨g, 0, none⟩)) (hn : wpList Tryz.prog ops Q rest (a.put op.dst (.agg M.cs)) w) : wpList Tryz.prog ops Q (op :: rest) a w :=
  wpList_wanted hw fun K hK => wp_load_row 23 x ho g hx 23 M.cs (0, 0) _ h Tryz.underlying23 rfl (by rw [M.cs_size]; kernel_rfl) (hK _ _ hn)
theorem eqM_run {op : Oper} {a : Act} {M : Msg} (x y : Operand) (ho : op.op = .binOp .eql 23 x y 23) (hx : a.eval x = .agg M.cs) (hy : a.eval y = .agg M.cs) (w : World) : (execOp a.eval op).run Tryz.prog w = .ok (.value (.bool true)) w := by
  have hgd : (eqGuard .eql 23 x y (.agg M.cs) (.agg M.cs)).run Tryz.prog w = .ok () w := run_eqGuard_agg (P := Tryz.prog) w .eql 23 x y _ _ (by kernel_rfl)
  unfold execOp
  simp only [ho, hx, hy, Sem.run_bind, hgd, Result.andThen_ok, msg_eql]
  rfl
theorem OwnM.same {w : World} {g : Nat} {M M' : Msg} (h : OwnM w g M) (e : M.cs = M'.cs) : OwnM w g M' := by unfold OwnM; rw [← e]; exact h
def sA : ByteArray := ⟨#[65]⟩
def sB : ByteArray := ⟨#[66]⟩
def shM : Msg := ⟨fun i => if i = 0 then 1 else if i = 3 then 7 else if i = 5 then 5 else 0, fun i => if i = 1 then sA else if i = 2 then sB else ⟨#[]⟩, fun _ => false⟩
theorem shOk : shM.ok := fun i => by unfold shM; dsimp only; split <;> (try split) <;> (try split) <;> omega
set_option maxRecDepth 100000 in
theorem shV : valE shM = 0 := by kernel_rfl
set_option maxRecDepth 100000 in
theorem shS : sizeN 1 = 82 := by kernel_rfl
theorem shL : (frameL shM).length = 82 := (frame_length shV).trans shS
theorem sh0 : dL (frameL shM) 0 = 79 := by rw [fr_hd _ (by decide)]; rfl
theorem sh4 : dL (frameL shM) 4 = 1 := by
  have := fr_kind shV
  have e : shM.z 0 = 1 := rfl
  rw [e] at this
  omega
theorem shD : decE (frameL shM) = none ∧ (decM (frameL shM)).cs = shM.cs := by
  obtain ⟨M', h1, h2⟩ := dec_frame shV
  unfold decE decM
  rw [h1]
  exact ⟨rfl, h2⟩
theorem sh9 : ∃ x, decE ((frameL shM).take 9) = some x := by
  have hl : ((frameL shM).take 9).length = 9 := by rw [List.length_take, shL]; rfl
  unfold decE decL
  rw [start_few (fun j hj hl => by
    rw [dL_take (by omega)]
    have : j = 0 ∨ j = 1 := by omega
    rcases this with rfl | rfl
    · rw [sh0]; rfl
    · rw [fr_hd _ (by decide)]; rfl) (by omega)]
  exact ⟨_, rfl⟩
theorem ErrV.some {x : Option (Nat × Int)} {v : Value} {w w' : World} (h : ErrV x v w w') {y : Nat × Int} (hx : x = some y) : ∃ b, v = .iface 87 (.pointer (some ⟨b, 0, none⟩)) := by
  subst hx
  obtain ⟨b, h1, _⟩ := h
  exact ⟨b, h1⟩
set_option maxRecDepth 100000 in
set_option maxHeartbeats 600000 in
theorem shown_any (w : World) (hM : Mon w) : Calls Tryz.prog 9 #[] w fun e w' => e = .returned (.bool true) ∧ Below w.heap.size w w' := by
  have hg0 := hM.lt
  have HM : Hid (Mon w ∧ 0 < w.heap.size) := ⟨hM, hM.lt⟩
  clear hM
  have hF0 := sh0
  have hF4 := sh4
  have hFL := shL
  have HDs := shD
  obtain ⟨x9, HD9⟩ := sh9
  generalize hFr : frameL shM = FR at *
  go_enter Tryz.func9, Tryz.ntmps9
  go_upto_region 1 with fail
  refine wp_region_lit ?_
  refine wpList_runTo rfl (some 8) rfl (.agg shM.cs) w (by kernel_rfl) ?_
  refine wpList_runTo rfl (some 1) rfl (.pointer (some ⟨w.heap.size, 0, none⟩)) (w.alloc (.cells zeroM.cs 23)) (by kernel_rfl) ?_
  refine wpList_store_row rfl 23 (.tmp 1) (.tmp 8) rfl w.heap.size shM.cs (by rfl) (by rfl) 23 _ (heap_alloc_new w _) (by rw [shM.cs_size]; kernel_rfl) (by rw [shM.cs_size]; kernel_rfl) shM.cs_one ?_
  rw [World.setRow_alloc_new]
  refine wpList_nil ?_
  simp only [Act.put, List.setIfInBounds_toArray, List.set_cons_zero, List.set_cons_succ]
  have HO1 : Hid (OwnM (w.alloc (.cells shM.cs 23)) w.heap.size shM ∧ Below w.heap.size w (w.alloc (.cells shM.cs 23))) := ⟨heap_alloc_new w _, (Below.refl _ w).alloc (Nat.le_refl _) _⟩
  generalize w.alloc (.cells shM.cs 23) = w1 at *
  generalize hcs : shM.cs = CS at *
  go_upto_region 2 with fail
  refine wp_region_lit ?_
  refine wpList_loadM HO1.out.1 (.tmp 1) rfl rfl rfl ?_
  have hEn := Encode_yes shM w1 (HM.out.1.below HO1.out.2 HM.out.2) shOk shV
  rw [hFr, hFL, hcs] at hEn
  rw [hcs]
  refine wpList_callW rfl (some 11) rfl 11 #[.agg CS] (by kernel_rfl) hEn ?_
  rintro e w2 ⟨g, rfl, ho2, hge, hb2⟩
  refine ⟨_, rfl, ?_⟩
  have HO2 : Hid (OwnM w2 w.heap.size shM ∧ Below w.heap.size w w2 ∧ OwnL w2 g FR ∧ w1.heap.size ≤ g) := ⟨HO1.out.1.low hb2, HO1.out.2.trans (hb2.mono HO1.out.2.size), ho2, hge⟩
  clear hb2 ho2 hge hEn HO1
  refine wpList_runTo rfl (some 9) rfl (.tuple #[.slice (some ⟨g, 0, none⟩) 82 82, .int .i64 0]) w2 (by kernel_rfl) ?_
  refine wpList_runTo rfl (some 12) rfl (.slice (some ⟨g, 0, none⟩) 82 82) w2 (by kernel_rfl) ?_
  refine wpList_runTo rfl (some 13) rfl (.int .i64 0) w2 (by kernel_rfl) ?_
  refine wpList_runTo rfl (some 2) rfl (.slice (some ⟨g, 0, none⟩) 82 82) w2 (by kernel_rfl) ?_
  refine wpList_runTo rfl (some 3) rfl (.int .i64 0) w2 (by kernel_rfl) ?_
  refine wpList_nil ?_
  simp only [Act.put, List.setIfInBounds_toArray, List.set_cons_zero, List.set_cons_succ]
  have hSz := Size_any 1 w2
  rw [shS] at hSz
  have HK : Hid (∀ w', Below w2.heap.size w2 w' → w'.cell? ⟨g, 0, none⟩ = some (.int .u8 79) ∧ w'.cell? ⟨g, 4, none⟩ = some (.int .u8 1)) := fun w' hb => by
    have hr := (HO2.out.2.2.1.below hb HO2.out.2.2.1.lt).row
    have h0 := (hr 0 (by rw [hFL]; decide)).1
    have h4 := (hr 4 (by rw [hFL]; decide)).1
    rw [hF0] at h0
    rw [hF4] at h4
    exact ⟨h0, h4⟩
  go_upto_region 5 with (go_at_call 13; refine hSz.mono ?_; rintro e w3 ⟨rfl, hb3⟩; obtain ⟨k0, k4⟩ := HK.out _ hb3; have HB3 : Hid (Below w2.heap.size w2 w3) := hb3; clear hb3)
  have HO3 : Hid (OwnM w3 w.heap.size shM ∧ Below w.heap.size w w3 ∧ OwnL w3 g FR) := ⟨HO2.out.1.low HB3.out, HO2.out.2.1.trans (HB3.out.mono HO2.out.2.1.size), HO2.out.2.2.1.below HB3.out HO2.out.2.2.1.lt⟩
  have HD1 : Hid (Unit → _) := fun _ => Decode_any (some ⟨g, 0, none⟩) g 0 82 82 FR w3 hFL.symm (Nat.le_refl _) (by decide) (.inr rfl) HO3.out.2.2.at_ (HM.out.1.below HO3.out.2.1 HM.out.2)
  clear hSz HK k0 k4 HB3 HO2
  refine wp_region_lit ?_
  refine wpList_runTo rfl (some 38) rfl (.slice (some ⟨g, 0, none⟩) 82 82) w3 (by kernel_rfl) ?_
  refine wpList_callW rfl (some 39) rfl 12 #[.slice (some ⟨g, 0, none⟩) 82 82] (by kernel_rfl) (HD1.out ()) ?_
  intro e w4 h4
  rw [HDs.1, HDs.2] at h4
  obtain ⟨v4, rfl, hE4, hb4⟩ := h4
  have hv4 : v4 = .nilIface := hE4
  subst hv4
  refine ⟨_, rfl, ?_⟩
  refine wpList_runTo rfl (some 37) rfl (.tuple #[.agg CS, .nilIface]) w4 (by kernel_rfl) ?_
  refine wpList_runTo rfl (some 40) rfl (.agg CS) w4 (by kernel_rfl) ?_
  refine wpList_runTo rfl (some 41) rfl .nilIface w4 (by kernel_rfl) ?_
  refine wpList_runTo rfl (some 4) rfl (.pointer (some ⟨w4.heap.size, 0, none⟩)) (w4.alloc (.cells zeroM.cs 23)) (by kernel_rfl) ?_
  refine wpList_store_row rfl 23 (.tmp 4) (.tmp 40) rfl w4.heap.size CS (by kernel_rfl) (by kernel_rfl) 23 _ (heap_alloc_new w4 _) (by rw [← hcs, Msg.cs_size]; kernel_rfl) (by rw [← hcs, Msg.cs_size, Msg.cs_size]) (by rw [← hcs]; exact Msg.cs_one _) ?_
  rw [World.setRow_alloc_new]
  refine wpList_runTo rfl (some 5) rfl .nilIface (w4.alloc (.cells CS 23)) (by kernel_rfl) ?_
  refine wpList_nil ?_
  simp only [Act.put, List.setIfInBounds_toArray, List.set_cons_zero, List.set_cons_succ]
  have HO4 : Hid (OwnM (w4.alloc (.cells CS 23)) w.heap.size shM ∧ Below w.heap.size w (w4.alloc (.cells CS 23)) ∧ OwnL (w4.alloc (.cells CS 23)) g FR ∧ OwnM (w4.alloc (.cells CS 23)) w4.heap.size shM) := by
    have h34 : Below w3.heap.size w3 (w4.alloc (.cells CS 23)) := hb4.alloc hb4.size _
    exact ⟨HO3.out.1.low h34, HO3.out.2.1.trans (h34.mono HO3.out.2.1.size), HO3.out.2.2.below h34 HO3.out.2.2.lt, by unfold OwnM; rw [hcs]; exact heap_alloc_new w4 _⟩
  clear hb4 hE4 HD1 HO3
  generalize hB4 : w4.heap.size = B4 at *
  generalize w4.alloc (.cells CS 23) = w5 at *
  clear hB4
  have hF9 : (FR.take 9).length = 9 := by rw [List.length_take, hFL]; rfl
  have HD2 : Hid (Unit → _) := fun _ => Decode_any (some ⟨g, 0, none⟩) g 0 9 82 (FR.take 9) w5 hF9.symm (by decide) (by decide) (.inr rfl) (HO4.out.2.2.1.at_.take 9) (HM.out.1.below HO4.out.2.1 HM.out.2)
  go_upto_region 6 with fail
  refine wp_region_lit ?_
  refine wpList_runTo rfl (some 43) rfl (.slice (some ⟨g, 0, none⟩) 82 82) w5 (by kernel_rfl) ?_
  refine wpList_runTo rfl (some 44) rfl (.slice (some ⟨g, 0, none⟩) 9 82) w5 (by kernel_rfl) ?_
  refine wpList_callW rfl (some 45) rfl 12 #[.slice (some ⟨g, 0, none⟩) 9 82] (by kernel_rfl) (HD2.out ()) ?_
  intro e w6 h6
  rw [HD9] at h6
  obtain ⟨v6, rfl, hE6, hb6⟩ := h6
  obtain ⟨b, rfl, _, _⟩ := hE6
  refine ⟨_, rfl, ?_⟩
  have hzs : (decM (FR.take 9)).cs.size = 42 := Msg.cs_size _
  have hzo : (decM (FR.take 9)).cs.all (·.oneCell') = true := Msg.cs_one _
  generalize (decM (FR.take 9)).cs = ZC at *
  refine wpList_runTo rfl (some 42) rfl (.tuple #[.agg ZC, .iface 87 (.pointer (some ⟨b, 0, none⟩))]) w6 (by kernel_rfl) ?_
  refine wpList_runTo rfl (some 46) rfl (.agg ZC) w6 (by kernel_rfl) ?_
  refine wpList_runTo rfl (some 47) rfl (.iface 87 (.pointer (some ⟨b, 0, none⟩))) w6 (by kernel_rfl) ?_
  refine wpList_runTo rfl (some 6) rfl (.pointer (some ⟨w6.heap.size, 0, none⟩)) (w6.alloc (.cells zeroM.cs 23)) (by kernel_rfl) ?_
  refine wpList_store_row rfl 23 (.tmp 6) (.tmp 46) rfl w6.heap.size ZC (by kernel_rfl) (by kernel_rfl) 23 _ (heap_alloc_new w6 _) (by rw [hzs]; kernel_rfl) (by rw [Msg.cs_size, hzs]) hzo ?_
  rw [World.setRow_alloc_new]
  refine wpList_runTo rfl (some 7) rfl (.iface 87 (.pointer (some ⟨b, 0, none⟩))) (w6.alloc (.cells ZC 23)) (by kernel_rfl) ?_
  refine wpList_nil ?_
  simp only [Act.put, List.setIfInBounds_toArray, List.set_cons_zero, List.set_cons_succ]
  have HO6 : Hid (OwnM (w6.alloc (.cells ZC 23)) w.heap.size shM ∧ Below w.heap.size w (w6.alloc (.cells ZC 23)) ∧ OwnM (w6.alloc (.cells ZC 23)) B4 shM) := by
    have h56 : Below w5.heap.size w5 (w6.alloc (.cells ZC 23)) := hb6.alloc hb6.size _
    exact ⟨HO4.out.1.low h56, HO4.out.2.1.trans (h56.mono HO4.out.2.1.size), HO4.out.2.2.2.low h56⟩
  clear hb6 HD2 HO4 hzs hzo
  generalize hB6 : w6.heap.size = B6 at *
  generalize w6.alloc (.cells ZC 23) = w7 at *
  clear hB6 hFr HDs HD9 hF0 hF4 hFL hF9
  generalize hSM : shM = SM at *
  clear hSM
  go_upto_region 7 with fail
  refine wp_region_lit ?_
  refine wpList_runTo rfl (some 48) rfl .nilIface w7 (by kernel_rfl) ?_
  refine wpList_runTo rfl (some 49) rfl (.bool true) w7 (by kernel_rfl) ?_
  refine wpList_runTo rfl (some 50) rfl (.bool true) w7 (by kernel_rfl) ?_
  refine wpList_loadG HO6.out.2.2 (.tmp 4) (by kernel_rfl) rfl (by kernel_rfl) ?_
  simp only [Act.put, List.setIfInBounds_toArray, List.set_cons_zero, List.set_cons_succ]
  refine wpList_loadG HO6.out.1 (.tmp 1) (by kernel_rfl) rfl (by kernel_rfl) ?_
  simp only [Act.put, List.setIfInBounds_toArray, List.set_cons_zero, List.set_cons_succ]
  refine wpList_runToG (by kernel_rfl) (some 53) rfl (.bool true) w7 (eqM_run (M := SM) (.tmp 51) (.tmp 52) rfl (by kernel_rfl) (by kernel_rfl) w7) ?_
  simp only [Act.put, List.setIfInBounds_toArray, List.set_cons_zero, List.set_cons_succ]
  refine wpList_runTo rfl (some 54) rfl (.bool true) w7 (by kernel_rfl) ?_
  refine wpList_runTo rfl (some 55) rfl (.bool true) w7 (by kernel_rfl) ?_
  refine wpList_runToG (by kernel_rfl) (some 56) rfl (.iface 87 (.pointer (some ⟨b, 0, none⟩))) w7 (by kernel_rfl) ?_
  refine wpList_runToG (by kernel_rfl) (some 57) rfl (.bool true) w7 (by kernel_rfl) ?_
  refine wpList_runTo rfl (some 58) rfl (.bool true) w7 (by kernel_rfl) ?_
  refine wpList_runTo rfl (some 0) rfl (.bool true) w7 (by kernel_rfl) ?_
  refine wpList_nil ?_
  simp only [Act.put, List.setIfInBounds_toArray, List.set_cons_zero, List.set_cons_succ]
  rw [hcs]
  go_wp2
  go_ret
  exact ⟨rfl, HO6.out.2.1⟩
end Go.Proofs.YthadnogcocmfgaaGreatDoor
