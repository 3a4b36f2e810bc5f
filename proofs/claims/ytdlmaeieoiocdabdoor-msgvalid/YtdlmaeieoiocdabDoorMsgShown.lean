/-
  msg: a message of the call's own; the document's examples: shown.
-/
import Derived.Test.YtdlmaeieoiocdabDoorMsgValid
import Derived.Test.YtdlmaeieoiocdabDoorMsgHasW
import Derived.Great.Walk
import Derived.Deep.WholeRow
namespace Go.Proofs.YtdlmaeieoiocdabDoor
set_option linter.unusedVariables false
open Go.RowKit Go.Great

/-- A message that lies in a block of its own. -/
def OwnM (w : World) (g : Nat) (M : Msg) : Prop := w.heap[g]? = some (.cells M.cs 23 (0, 0))
theorem OwnM.lt {w : World} {g : Nat} {M : Msg} (h : OwnM w g M) : g < w.heap.size := (Array.getElem?_eq_some_iff.1 h).1
theorem OwnM.below {w w' : World} {B g : Nat} {M : Msg} (h : OwnM w g M) (hb : Below B w w') (hg : g < B) : OwnM w' g M := (hb.block g hg).trans h
theorem OwnM.load {w : World} {g : Nat} {M : Msg} (h : OwnM w g M) : Sem.run Tryd.prog (loadVar 23 ⟨g, 0, none⟩) w = .ok (.agg M.cs) w :=
  run_loadVar_row w g 23 23 M.cs (0, 0) _ h Tryd.underlying23 rfl (by rw [M.cs_size]; kernel_rfl)
theorem wpList_loadM {ops : Array Oper} {rest : List Oper} {op : Oper} {a : Act} {w : World} {Q : Exit → Act → World → Prop} {g : Nat} {M : Msg} (h : OwnM w g M) (x : Operand) (hgd : op.guard = none) (ho : op.op = .load 23 x)
    (hx : a.eval x = .pointer (some ⟨g, 0, none⟩)) (hn : wpList Tryd.prog ops Q rest (a.put op.dst (.agg M.cs)) w) : wpList Tryd.prog ops Q (op :: rest) a w :=
  wpList_load_row hgd 23 x ho g hx 23 M.cs (0, 0) _ h Tryd.underlying23 rfl (by rw [M.cs_size]; kernel_rfl) hn
theorem OwnM.cell {w : World} {g : Nat} {M : Msg} (h : OwnM w g M) (k : Nat) (hk : k < 42) : w.cell? ⟨g, k, none⟩ = some (M.cell k) := by
  rw [cell_of_row _ _ _ _ _ _ h]; exact M.cs_get k hk
theorem OwnM.frozen {w : World} {g : Nat} {M : Msg} (h : OwnM w g M) (k : Nat) : w.frozen? ⟨g, k, none⟩ = false := frozen_of_row w g k _ _ h
theorem OwnM.store {w : World} {g : Nat} {M M' : Msg} {k : Nat} {v : Value} (h : OwnM w g M) (e : M.cs.setIfInBounds k v = M'.cs) : OwnM (w.setCell ⟨g, k, none⟩ v) g M' := by
  unfold OwnM
  rw [setCell_eq_setRow w g k _ _ _ v h, e]
  exact setRow_heap _ _ _ _ _ _ h
theorem OwnM.stays {w : World} {g B : Nat} {M : Msg} {k : Nat} {v : Value} (h : OwnM w g M) (hB : B ≤ g) : Below B w (w.setCell ⟨g, k, none⟩ v) := by
  rw [setCell_eq_setRow w g k _ _ _ v h]
  exact below_setRow (Below.refl _ _) hB _
def zeroM : Msg := ⟨fun _ => 0, fun _ => ⟨#[]⟩, fun _ => false⟩
/-- The examples' messages. -/
def sA : ByteArray := ⟨#[65]⟩
def sB : ByteArray := ⟨#[66]⟩
def sX : ByteArray := ⟨#[120]⟩
def shM1 : Msg := ⟨fun i => if i = 0 then 2 else if i = 3 then 1 else 0, fun i => if i = 1 then sA else if i = 2 then sB else if i = 9 then sX else ⟨#[]⟩, fun _ => false⟩
def shM2 : Msg := ⟨fun i => if i = 0 then 2 else if i = 3 then 1 else if i = 28 then 5 else 0, fun i => if i = 1 then sA else if i = 2 then sB else if i = 9 then sX else ⟨#[]⟩, fun _ => false⟩
def shM3 : Msg := ⟨fun i => if i = 0 then 2 else if i = 3 then 1 else 0, fun i => if i = 1 then sA else if i = 2 then sB else ⟨#[]⟩, fun _ => false⟩
theorem shOk1 : shM1.ok := fun i => by unfold shM1; dsimp only; split <;> (try split) <;> omega
theorem shOk2 : shM2.ok := fun i => by unfold shM2; dsimp only; split <;> (try split) <;> (try split) <;> omega
theorem shOk3 : shM3.ok := fun i => by unfold shM3; dsimp only; split <;> (try split) <;> omega
set_option maxRecDepth 100000 in
theorem shV1 : valE shM1 = 0 ∧ valN shM1 = 0 := ⟨by kernel_rfl, by kernel_rfl⟩
set_option maxRecDepth 100000 in
theorem shV2 : valE shM2 = 32 ∧ valN shM2 = 38 := ⟨by kernel_rfl, by kernel_rfl⟩
set_option maxRecDepth 100000 in
theorem shV3 : valE shM3 = 31 ∧ valN shM3 = 112 := ⟨by kernel_rfl, by kernel_rfl⟩
theorem shH : hasN 2 112 = 2 := by kernel_rfl
set_option maxRecDepth 100000 in
set_option maxHeartbeats 2000000 in
theorem shown_any (w : World) (hM : Mon w) :
    Calls Tryd.prog 4 #[] w fun e w' => e = .returned (.bool true) ∧ Below w.heap.size w w' := by
  have hg := hM.lt
  go_enter Tryd.func4, Tryd.ntmps4
  go_upto_region 1 with fail
  rename_i K hK
  refine wp_region_lit ?_
  refine wpList_runTo rfl (some 9) rfl (.agg shM1.cs) w (by kernel_rfl) ?_
  refine wpList_runTo rfl (some 1) rfl (.pointer (some ⟨w.heap.size, 0, none⟩)) (w.alloc (.cells zeroM.cs 23)) (by kernel_rfl) ?_
  refine wpList_store_row rfl 23 (.tmp 1) (.tmp 9) rfl w.heap.size shM1.cs (by kernel_rfl) (by kernel_rfl) 23 _ (heap_alloc_new w _) (by kernel_rfl) (by kernel_rfl) (by kernel_rfl) ?_
  rw [World.setRow_alloc_new]
  refine wpList_nil ?_
  refine hK _ _ ?_
  simp only [Act.put, List.setIfInBounds_toArray, List.set_cons_zero, List.set_cons_succ]
  have ho : OwnM (w.alloc (.cells shM1.cs 23)) w.heap.size shM1 := heap_alloc_new w _
  have hb : Below w.heap.size w (w.alloc (.cells shM1.cs 23)) := (Below.refl _ w).alloc (Nat.le_refl _) _
  generalize w.alloc (.cells shM1.cs 23) = w1 at *
  have HM : Hid (0 < w.heap.size ∧ Mon w) := ⟨hg, hM⟩
  have hM1 : Mon w1 := hM.below hb hg
  have hv1 := Valid_any shM1 w1 hM1 shOk1
  rw [shV1.1, shV1.2] at hv1
  have HO : Hid (OwnM w1 w.heap.size shM1 ∧ Below w.heap.size w w1) := ⟨ho, hb⟩
  clear hg hM hM1 ho hb
  go_upto_region 2 with fail
  refine wp_region_lit ?_
  refine wpList_loadM HO.out.1 (.tmp 1) rfl rfl rfl ?_
  simp only [Act.put, List.setIfInBounds_toArray, List.set_cons_zero, List.set_cons_succ]
  generalize hcs : shM1.cs = cs1 at *
  go_wp2_with (go_at_call 5; fail)
  refine hv1.mono ?_
  rintro e w2 ⟨rfl, hb2⟩
  have ho2 : OwnM w2 w.heap.size shM1 := HO.out.1.below hb2 HO.out.1.lt
  have hb2' : Below w.heap.size w w2 := HO.out.2.trans (hb2.mono HO.out.2.size)
  have c28 : w2.cell? ⟨w.heap.size, 28, none⟩ = some (.int .i64 0) := ho2.cell 28 (by decide)
  have f28 := ho2.frozen 28
  have ho3 : OwnM (w2.setCell ⟨w.heap.size, 28, none⟩ (.int .i64 5)) w.heap.size shM2 := ho2.store (by kernel_rfl)
  have hb3 : Below w.heap.size w (w2.setCell ⟨w.heap.size, 28, none⟩ (.int .i64 5)) := hb2'.trans (ho2.stays (Nat.le_refl _))
  have HO3 : Hid (OwnM (w2.setCell ⟨w.heap.size, 28, none⟩ (.int .i64 5)) w.heap.size shM2 ∧ Below w.heap.size w (w2.setCell ⟨w.heap.size, 28, none⟩ (.int .i64 5))) := ⟨ho3, hb3⟩
  clear HO hv1 ho2 hb2 hb2' ho3 hb3
  go_upto_region 4 with fail
  clear c28 f28
  generalize w2.setCell ⟨w.heap.size, 28, none⟩ (.int .i64 5) = w3 at *
  have hM3 : Mon w3 := HM.out.2.below HO3.out.2 HM.out.1
  have hv3 := Valid_any shM2 w3 hM3 shOk2
  rw [shV2.1, shV2.2] at hv3
  clear hM3
  refine wp_region_lit ?_
  refine wpList_loadM HO3.out.1 (.tmp 1) rfl rfl rfl ?_
  simp only [Act.put, List.setIfInBounds_toArray, List.set_cons_zero, List.set_cons_succ]
  generalize hcs2 : shM2.cs = cs2 at *
  go_wp2_with (go_at_call 5; fail)
  refine hv3.mono ?_
  rintro e w4 ⟨rfl, hb4⟩
  have ho4 : OwnM w4 w.heap.size shM2 := HO3.out.1.below hb4 HO3.out.1.lt
  have hb4' : Below w.heap.size w w4 := HO3.out.2.trans (hb4.mono HO3.out.2.size)
  have c28 : w4.cell? ⟨w.heap.size, 28, none⟩ = some (.int .i64 5) := ho4.cell 28 (by decide)
  have f28 := ho4.frozen 28
  have ho5 : OwnM (w4.setCell ⟨w.heap.size, 28, none⟩ (.int .i64 0)) w.heap.size shM1 := ho4.store (by kernel_rfl)
  have hb5 : Below w.heap.size w (w4.setCell ⟨w.heap.size, 28, none⟩ (.int .i64 0)) := hb4'.trans (ho4.stays (Nat.le_refl _))
  have HO5 : Hid (OwnM (w4.setCell ⟨w.heap.size, 28, none⟩ (.int .i64 0)) w.heap.size shM1 ∧ Below w.heap.size w (w4.setCell ⟨w.heap.size, 28, none⟩ (.int .i64 0))) := ⟨ho5, hb5⟩
  clear HO3 hv3 ho4 hb4 hb4' ho5 hb5
  go_upto_region 6 with fail
  clear c28 f28
  generalize w4.setCell ⟨w.heap.size, 28, none⟩ (.int .i64 0) = w5 at *
  have c9 : w5.cell? ⟨w.heap.size, 9, none⟩ = some (.string sX) := HO5.out.1.cell 9 (by decide)
  have f9 := HO5.out.1.frozen 9
  have ho6 : OwnM (w5.setCell ⟨w.heap.size, 9, none⟩ (.string ⟨#[]⟩)) w.heap.size shM3 := HO5.out.1.store (by kernel_rfl)
  have hb6 : Below w.heap.size w (w5.setCell ⟨w.heap.size, 9, none⟩ (.string ⟨#[]⟩)) := HO5.out.2.trans (HO5.out.1.stays (Nat.le_refl _))
  have HO6 : Hid (OwnM (w5.setCell ⟨w.heap.size, 9, none⟩ (.string ⟨#[]⟩)) w.heap.size shM3 ∧ Below w.heap.size w (w5.setCell ⟨w.heap.size, 9, none⟩ (.string ⟨#[]⟩))) := ⟨ho6, hb6⟩
  clear HO5 ho6 hb6
  go_upto_region 7 with fail
  clear c9 f9
  generalize w5.setCell ⟨w.heap.size, 9, none⟩ (.string ⟨#[]⟩) = w6 at *
  have hM6 : Mon w6 := HM.out.2.below HO6.out.2 HM.out.1
  have hv6 := Valid_any shM3 w6 hM6 shOk3
  rw [shV3.1, shV3.2] at hv6
  clear hM6
  refine wp_region_lit ?_
  refine wpList_loadM HO6.out.1 (.tmp 1) rfl rfl rfl ?_
  simp only [Act.put, List.setIfInBounds_toArray, List.set_cons_zero, List.set_cons_succ]
  generalize hcs3 : shM3.cs = cs3 at *
  go_wp2_with (go_at_call 5; fail)
  refine hv6.mono ?_
  rintro e w7 ⟨rfl, hb7⟩
  have HB7 : Hid (Below w.heap.size w w7) := HO6.out.2.trans (hb7.mono HO6.out.2.size)
  clear HO6 hv6 hb7
  have hh := Has_any 2 112 w7
  rw [shH] at hh
  go_wp2_with (go_at_call 7; refine hh.mono ?_; rintro e w8 ⟨rfl, hb8⟩)
  go_ret
  exact ⟨rfl, HB7.out.trans (hb8.mono HB7.out.size)⟩

end Go.Proofs.YtdlmaeieoiocdabDoor
