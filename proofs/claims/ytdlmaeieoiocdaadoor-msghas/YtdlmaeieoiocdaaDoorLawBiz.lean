/-
  MsgBusiness: the walk.
-/
import Derived.Test.YtdlmaeieoiocdaaDoorMsgUpd
import Derived.Deep.RegionHeld
namespace Go.Proofs.YtdlmaeieoiocdaaDoor
set_option linter.unusedVariables false
open Go.RowKit Go.Great

def bizM (M : Msg) : Msg := (((((M.setS 1 ⟨#[]⟩).setS 2 ⟨#[]⟩).setZ 3 0).setB 4 false).setZ 5 0).setZ 6 0
theorem biz_biz (M : Msg) : (bizM (bizM M)).cs = (bizM M).cs := by
  apply Array.ext_getElem?
  intro i
  by_cases hi : i < 42
  · rw [Msg.cs_get _ _ hi, Msg.cs_get _ _ hi]
    rcases cases42 hi with rfl | rfl | rfl | rfl | rfl | rfl | rfl | rfl | rfl | rfl | rfl | rfl | rfl | rfl | rfl | rfl | rfl | rfl | rfl | rfl | rfl | rfl | rfl | rfl | rfl | rfl | rfl | rfl | rfl | rfl | rfl | rfl | rfl | rfl | rfl | rfl | rfl | rfl | rfl | rfl | rfl | rfl <;> rfl
  · rw [Array.getElem?_eq_none (by rw [Msg.cs_size]; omega), Array.getElem?_eq_none (by rw [Msg.cs_size]; omega)]
theorem OwnM.other {w : World} {g g' k : Nat} {M M' : Msg} {v : Value} (h : OwnM w g' M') (hg : OwnM w g M) (hne : g' ≠ g) : OwnM (w.setCell ⟨g, k, none⟩ v) g' M' := by
  unfold OwnM
  rw [setCell_eq_setRow w g k _ _ _ v hg, setRow_other _ _ _ _ hne]
  exact h
/-- The six stores. -/
theorem biz_stores {w w1 : World} {g g2 : Nat} {M : Msg} (h : OwnM w1 g M) (h2 : OwnM w1 g2 zeroM) (hne : g2 ≠ g) (hb : Below w.heap.size w w1) (hg : w.heap.size ≤ g) :
    OwnM ((((((w1.setCell ⟨g, 1, none⟩ (.string ⟨#[]⟩)).setCell ⟨g, 2, none⟩ (.string ⟨#[]⟩)).setCell ⟨g, 3, none⟩ (.int .i64 0)).setCell ⟨g, 4, none⟩ (.bool false)).setCell ⟨g, 5, none⟩ (.int .i64 0)).setCell ⟨g, 6, none⟩ (.int .i64 0)) g (bizM M) ∧
    OwnM ((((((w1.setCell ⟨g, 1, none⟩ (.string ⟨#[]⟩)).setCell ⟨g, 2, none⟩ (.string ⟨#[]⟩)).setCell ⟨g, 3, none⟩ (.int .i64 0)).setCell ⟨g, 4, none⟩ (.bool false)).setCell ⟨g, 5, none⟩ (.int .i64 0)).setCell ⟨g, 6, none⟩ (.int .i64 0)) g2 zeroM ∧
    Below w.heap.size w ((((((w1.setCell ⟨g, 1, none⟩ (.string ⟨#[]⟩)).setCell ⟨g, 2, none⟩ (.string ⟨#[]⟩)).setCell ⟨g, 3, none⟩ (.int .i64 0)).setCell ⟨g, 4, none⟩ (.bool false)).setCell ⟨g, 5, none⟩ (.int .i64 0)).setCell ⟨g, 6, none⟩ (.int .i64 0)) := by
  have a1 := h.store (cs_setS M 1 ⟨#[]⟩ (by decide) rfl)
  have a2 := a1.store (cs_setS _ 2 ⟨#[]⟩ (by decide) rfl)
  have a3 := a2.store (cs_setZ _ 3 0 (by decide) rfl rfl)
  have a4 := a3.store (cs_setB _ 4 false (by decide) rfl rfl)
  have a5 := a4.store (cs_setZ _ 5 0 (by decide) rfl rfl)
  have a6 := a5.store (cs_setZ _ 6 0 (by decide) rfl rfl)
  exact ⟨a6, (((((h2.other h hne).other a1 hne).other a2 hne).other a3 hne).other a4 hne).other a5 hne,
    (((((hb.trans (h.stays hg)).trans (a1.stays hg)).trans (a2.stays hg)).trans (a3.stays hg)).trans (a4.stays hg)).trans (a5.stays hg)⟩
set_option maxRecDepth 100000 in
set_option maxHeartbeats 2000000 in
theorem Business_any (M : Msg) (w : World) :
    Calls Tryd.prog 12 #[.agg M.cs] w fun e w' => e = .returned (.agg (bizM M).cs) ∧ Below w.heap.size w w' := by
  have ho0 : OwnM (w.alloc (.cells M.cs 23)) w.heap.size M := heap_alloc_new w _
  have hb0 : Below w.heap.size w (w.alloc (.cells M.cs 23)) := (Below.refl _ w).alloc (Nat.le_refl _) _
  have hsz : (w.alloc (.cells M.cs 23)).heap.size = w.heap.size + 1 := by simp
  have ho1 : OwnM ((w.alloc (.cells M.cs 23)).alloc (.cells #[.int .i64 0, .string ⟨#[]⟩, .string ⟨#[]⟩, .int .i64 0, .bool false, .int .i64 0, .int .i64 0, .int .i64 0, .bool false, .string ⟨#[]⟩, .int .i64 0, .int .i64 0, .int .i64 0, .bool false, .int .i64 0, .int .i64 0, .int .i64 0, .int .i64 0, .string ⟨#[]⟩, .string ⟨#[]⟩, .string ⟨#[]⟩, .string ⟨#[]⟩, .string ⟨#[]⟩, .int .i64 0, .int .i64 0, .int .i64 0, .int .i64 0, .int .i64 0, .int .i64 0, .int .i64 0, .int .i64 0, .int .i64 0, .int .i64 0, .int .i64 0, .int .i64 0, .int .i64 0, .int .i64 0, .int .i64 0, .int .i64 0, .int .i64 0, .int .i64 0, .int .i64 0] 23)) w.heap.size M := ho0.below ((Below.refl _ _).alloc (Nat.le_refl _) _) ho0.lt
  have hz1 : OwnM ((w.alloc (.cells M.cs 23)).alloc (.cells #[.int .i64 0, .string ⟨#[]⟩, .string ⟨#[]⟩, .int .i64 0, .bool false, .int .i64 0, .int .i64 0, .int .i64 0, .bool false, .string ⟨#[]⟩, .int .i64 0, .int .i64 0, .int .i64 0, .bool false, .int .i64 0, .int .i64 0, .int .i64 0, .int .i64 0, .string ⟨#[]⟩, .string ⟨#[]⟩, .string ⟨#[]⟩, .string ⟨#[]⟩, .string ⟨#[]⟩, .int .i64 0, .int .i64 0, .int .i64 0, .int .i64 0, .int .i64 0, .int .i64 0, .int .i64 0, .int .i64 0, .int .i64 0, .int .i64 0, .int .i64 0, .int .i64 0, .int .i64 0, .int .i64 0, .int .i64 0, .int .i64 0, .int .i64 0, .int .i64 0, .int .i64 0] 23)) (w.heap.size + 1) zeroM := by
    unfold OwnM
    rw [← hsz, show zeroM.cs = #[.int .i64 0, .string ⟨#[]⟩, .string ⟨#[]⟩, .int .i64 0, .bool false, .int .i64 0, .int .i64 0, .int .i64 0, .bool false, .string ⟨#[]⟩, .int .i64 0, .int .i64 0, .int .i64 0, .bool false, .int .i64 0, .int .i64 0, .int .i64 0, .int .i64 0, .string ⟨#[]⟩, .string ⟨#[]⟩, .string ⟨#[]⟩, .string ⟨#[]⟩, .string ⟨#[]⟩, .int .i64 0, .int .i64 0, .int .i64 0, .int .i64 0, .int .i64 0, .int .i64 0, .int .i64 0, .int .i64 0, .int .i64 0, .int .i64 0, .int .i64 0, .int .i64 0, .int .i64 0, .int .i64 0, .int .i64 0, .int .i64 0, .int .i64 0, .int .i64 0, .int .i64 0] by kernel_rfl]
    exact heap_alloc_new _ _
  have hb1 : Below w.heap.size w ((w.alloc (.cells M.cs 23)).alloc (.cells #[.int .i64 0, .string ⟨#[]⟩, .string ⟨#[]⟩, .int .i64 0, .bool false, .int .i64 0, .int .i64 0, .int .i64 0, .bool false, .string ⟨#[]⟩, .int .i64 0, .int .i64 0, .int .i64 0, .bool false, .int .i64 0, .int .i64 0, .int .i64 0, .int .i64 0, .string ⟨#[]⟩, .string ⟨#[]⟩, .string ⟨#[]⟩, .string ⟨#[]⟩, .string ⟨#[]⟩, .int .i64 0, .int .i64 0, .int .i64 0, .int .i64 0, .int .i64 0, .int .i64 0, .int .i64 0, .int .i64 0, .int .i64 0, .int .i64 0, .int .i64 0, .int .i64 0, .int .i64 0, .int .i64 0, .int .i64 0, .int .i64 0, .int .i64 0, .int .i64 0, .int .i64 0] 23)) := hb0.alloc (by rw [hsz]; omega) _
  clear ho0 hb0 hsz
  go_enter Tryd.func12, Tryd.ntmps12
  go_upto_region 1 with fail
  generalize (w.alloc (.cells M.cs 23)).alloc (.cells #[.int .i64 0, .string ⟨#[]⟩, .string ⟨#[]⟩, .int .i64 0, .bool false, .int .i64 0, .int .i64 0, .int .i64 0, .bool false, .string ⟨#[]⟩, .int .i64 0, .int .i64 0, .int .i64 0, .bool false, .int .i64 0, .int .i64 0, .int .i64 0, .int .i64 0, .string ⟨#[]⟩, .string ⟨#[]⟩, .string ⟨#[]⟩, .string ⟨#[]⟩, .string ⟨#[]⟩, .int .i64 0, .int .i64 0, .int .i64 0, .int .i64 0, .int .i64 0, .int .i64 0, .int .i64 0, .int .i64 0, .int .i64 0, .int .i64 0, .int .i64 0, .int .i64 0, .int .i64 0, .int .i64 0, .int .i64 0, .int .i64 0, .int .i64 0, .int .i64 0, .int .i64 0] 23) = w1 at *
  have HA := biz_stores ho1 hz1 (by omega) hb1 (Nat.le_refl _)
  have HA2 : Hid _ := HA
  have c1 : w1.cell? ⟨w.heap.size, 1, none⟩ = some (.string (M.s 1)) := ho1.cell 1 (by decide)
  have c2 : w1.cell? ⟨w.heap.size, 2, none⟩ = some (.string (M.s 2)) := ho1.cell 2 (by decide)
  have c3 : w1.cell? ⟨w.heap.size, 3, none⟩ = some (.int .i64 (M.z 3)) := ho1.cell 3 (by decide)
  have c4 : w1.cell? ⟨w.heap.size, 4, none⟩ = some (.bool (M.b 4)) := ho1.cell 4 (by decide)
  have c5 : w1.cell? ⟨w.heap.size, 5, none⟩ = some (.int .i64 (M.z 5)) := ho1.cell 5 (by decide)
  have c6 : w1.cell? ⟨w.heap.size, 6, none⟩ = some (.int .i64 (M.z 6)) := ho1.cell 6 (by decide)
  have f1 := ho1.frozen 1
  have f2 := ho1.frozen 2
  have f3 := ho1.frozen 3
  have f4 := ho1.frozen 4
  have f5 := ho1.frozen 5
  have f6 := ho1.frozen 6
  clear ho1 hz1 hb1 HA
  generalize hcs : M.cs = CS at *
  go_upto_region 3 with fail
  clear c1 c2 c3 c4 c5 c6 f1 f2 f3 f4 f5 f6
  generalize (((((w1.setCell ⟨w.heap.size, 1, none⟩ (.string ⟨#[]⟩)).setCell ⟨w.heap.size, 2, none⟩ (.string ⟨#[]⟩)).setCell ⟨w.heap.size, 3, none⟩ (.int .i64 0)).setCell ⟨w.heap.size, 4, none⟩ (.bool false)).setCell ⟨w.heap.size, 5, none⟩ (.int .i64 0)).setCell ⟨w.heap.size, 6, none⟩ (.int .i64 0) = w2 at *
  rename_i K hK
  refine wp_region_lit ?_
  refine wpList_loadM HA2.out.1 (.tmp 1) rfl rfl rfl ?_
  refine wpList_store_row rfl 23 (.tmp 2) (.tmp 9) rfl (w.heap.size + 1) (bizM M).cs (by rfl) (by rfl) 23 _ HA2.out.2.1 (by rw [Msg.cs_size]; kernel_rfl) (by rw [Msg.cs_size, Msg.cs_size]) (Msg.cs_one _) ?_
  refine wpList_nil ?_
  refine hK _ _ ?_
  apply wp_ret
  show bodyPost Tryd.prog Tryd.f12 _ Exit.ret _ _
  refine bodyPost_ret (results_cell_row (fn := Tryd.f12) (p := 2) (ty := 23) rfl _ _ (w.heap.size + 1) 23 (bizM M).cs (0, 0) _ (by rfl) (setRow_heap _ _ _ _ _ _ HA2.out.2.1) Tryd.underlying23 rfl (by rw [Msg.cs_size]; kernel_rfl)) (by rfl) ⟨rfl, below_setRow HA2.out.2.2 (by omega) _⟩
set_option maxRecDepth 100000 in
set_option maxHeartbeats 2000000 in
theorem refBusiness_any (M : Msg) (w : World) :
    Calls Tryd.prog 13 #[.agg M.cs] w fun e w' => e = .returned (.agg (bizM M).cs) ∧ Below w.heap.size w w' := by
  have ho0 : OwnM (w.alloc (.cells M.cs 23)) w.heap.size M := heap_alloc_new w _
  have hb0 : Below w.heap.size w (w.alloc (.cells M.cs 23)) := (Below.refl _ w).alloc (Nat.le_refl _) _
  have hsz : (w.alloc (.cells M.cs 23)).heap.size = w.heap.size + 1 := by simp
  have ho1 : OwnM ((w.alloc (.cells M.cs 23)).alloc (.cells #[.int .i64 0, .string ⟨#[]⟩, .string ⟨#[]⟩, .int .i64 0, .bool false, .int .i64 0, .int .i64 0, .int .i64 0, .bool false, .string ⟨#[]⟩, .int .i64 0, .int .i64 0, .int .i64 0, .bool false, .int .i64 0, .int .i64 0, .int .i64 0, .int .i64 0, .string ⟨#[]⟩, .string ⟨#[]⟩, .string ⟨#[]⟩, .string ⟨#[]⟩, .string ⟨#[]⟩, .int .i64 0, .int .i64 0, .int .i64 0, .int .i64 0, .int .i64 0, .int .i64 0, .int .i64 0, .int .i64 0, .int .i64 0, .int .i64 0, .int .i64 0, .int .i64 0, .int .i64 0, .int .i64 0, .int .i64 0, .int .i64 0, .int .i64 0, .int .i64 0, .int .i64 0] 23)) w.heap.size M := ho0.below ((Below.refl _ _).alloc (Nat.le_refl _) _) ho0.lt
  have hz1 : OwnM ((w.alloc (.cells M.cs 23)).alloc (.cells #[.int .i64 0, .string ⟨#[]⟩, .string ⟨#[]⟩, .int .i64 0, .bool false, .int .i64 0, .int .i64 0, .int .i64 0, .bool false, .string ⟨#[]⟩, .int .i64 0, .int .i64 0, .int .i64 0, .bool false, .int .i64 0, .int .i64 0, .int .i64 0, .int .i64 0, .string ⟨#[]⟩, .string ⟨#[]⟩, .string ⟨#[]⟩, .string ⟨#[]⟩, .string ⟨#[]⟩, .int .i64 0, .int .i64 0, .int .i64 0, .int .i64 0, .int .i64 0, .int .i64 0, .int .i64 0, .int .i64 0, .int .i64 0, .int .i64 0, .int .i64 0, .int .i64 0, .int .i64 0, .int .i64 0, .int .i64 0, .int .i64 0, .int .i64 0, .int .i64 0, .int .i64 0] 23)) (w.heap.size + 1) zeroM := by
    unfold OwnM
    rw [← hsz, show zeroM.cs = #[.int .i64 0, .string ⟨#[]⟩, .string ⟨#[]⟩, .int .i64 0, .bool false, .int .i64 0, .int .i64 0, .int .i64 0, .bool false, .string ⟨#[]⟩, .int .i64 0, .int .i64 0, .int .i64 0, .bool false, .int .i64 0, .int .i64 0, .int .i64 0, .int .i64 0, .string ⟨#[]⟩, .string ⟨#[]⟩, .string ⟨#[]⟩, .string ⟨#[]⟩, .string ⟨#[]⟩, .int .i64 0, .int .i64 0, .int .i64 0, .int .i64 0, .int .i64 0, .int .i64 0, .int .i64 0, .int .i64 0, .int .i64 0, .int .i64 0, .int .i64 0, .int .i64 0, .int .i64 0, .int .i64 0, .int .i64 0, .int .i64 0, .int .i64 0, .int .i64 0, .int .i64 0] by kernel_rfl]
    exact heap_alloc_new _ _
  have hb1 : Below w.heap.size w ((w.alloc (.cells M.cs 23)).alloc (.cells #[.int .i64 0, .string ⟨#[]⟩, .string ⟨#[]⟩, .int .i64 0, .bool false, .int .i64 0, .int .i64 0, .int .i64 0, .bool false, .string ⟨#[]⟩, .int .i64 0, .int .i64 0, .int .i64 0, .bool false, .int .i64 0, .int .i64 0, .int .i64 0, .int .i64 0, .string ⟨#[]⟩, .string ⟨#[]⟩, .string ⟨#[]⟩, .string ⟨#[]⟩, .string ⟨#[]⟩, .int .i64 0, .int .i64 0, .int .i64 0, .int .i64 0, .int .i64 0, .int .i64 0, .int .i64 0, .int .i64 0, .int .i64 0, .int .i64 0, .int .i64 0, .int .i64 0, .int .i64 0, .int .i64 0, .int .i64 0, .int .i64 0, .int .i64 0, .int .i64 0, .int .i64 0] 23)) := hb0.alloc (by rw [hsz]; omega) _
  clear ho0 hb0 hsz
  go_enter Tryd.func13, Tryd.ntmps13
  go_upto_region 1 with fail
  generalize (w.alloc (.cells M.cs 23)).alloc (.cells #[.int .i64 0, .string ⟨#[]⟩, .string ⟨#[]⟩, .int .i64 0, .bool false, .int .i64 0, .int .i64 0, .int .i64 0, .bool false, .string ⟨#[]⟩, .int .i64 0, .int .i64 0, .int .i64 0, .bool false, .int .i64 0, .int .i64 0, .int .i64 0, .int .i64 0, .string ⟨#[]⟩, .string ⟨#[]⟩, .string ⟨#[]⟩, .string ⟨#[]⟩, .string ⟨#[]⟩, .int .i64 0, .int .i64 0, .int .i64 0, .int .i64 0, .int .i64 0, .int .i64 0, .int .i64 0, .int .i64 0, .int .i64 0, .int .i64 0, .int .i64 0, .int .i64 0, .int .i64 0, .int .i64 0, .int .i64 0, .int .i64 0, .int .i64 0, .int .i64 0, .int .i64 0] 23) = w1 at *
  have HA := biz_stores ho1 hz1 (by omega) hb1 (Nat.le_refl _)
  have HA2 : Hid _ := HA
  have c1 : w1.cell? ⟨w.heap.size, 1, none⟩ = some (.string (M.s 1)) := ho1.cell 1 (by decide)
  have c2 : w1.cell? ⟨w.heap.size, 2, none⟩ = some (.string (M.s 2)) := ho1.cell 2 (by decide)
  have c3 : w1.cell? ⟨w.heap.size, 3, none⟩ = some (.int .i64 (M.z 3)) := ho1.cell 3 (by decide)
  have c4 : w1.cell? ⟨w.heap.size, 4, none⟩ = some (.bool (M.b 4)) := ho1.cell 4 (by decide)
  have c5 : w1.cell? ⟨w.heap.size, 5, none⟩ = some (.int .i64 (M.z 5)) := ho1.cell 5 (by decide)
  have c6 : w1.cell? ⟨w.heap.size, 6, none⟩ = some (.int .i64 (M.z 6)) := ho1.cell 6 (by decide)
  have f1 := ho1.frozen 1
  have f2 := ho1.frozen 2
  have f3 := ho1.frozen 3
  have f4 := ho1.frozen 4
  have f5 := ho1.frozen 5
  have f6 := ho1.frozen 6
  clear ho1 hz1 hb1 HA
  generalize hcs : M.cs = CS at *
  go_upto_region 7 with fail
  clear c1 c2 c3 c4 c5 c6 f1 f2 f3 f4 f5 f6
  generalize (((((w1.setCell ⟨w.heap.size, 1, none⟩ (.string ⟨#[]⟩)).setCell ⟨w.heap.size, 2, none⟩ (.string ⟨#[]⟩)).setCell ⟨w.heap.size, 3, none⟩ (.int .i64 0)).setCell ⟨w.heap.size, 4, none⟩ (.bool false)).setCell ⟨w.heap.size, 5, none⟩ (.int .i64 0)).setCell ⟨w.heap.size, 6, none⟩ (.int .i64 0) = w2 at *
  rename_i K hK
  refine wp_region_lit ?_
  refine wpList_loadM HA2.out.1 (.tmp 1) rfl rfl rfl ?_
  refine wpList_store_row rfl 23 (.tmp 2) (.tmp 9) rfl (w.heap.size + 1) (bizM M).cs (by rfl) (by rfl) 23 _ HA2.out.2.1 (by rw [Msg.cs_size]; kernel_rfl) (by rw [Msg.cs_size, Msg.cs_size]) (Msg.cs_one _) ?_
  refine wpList_nil ?_
  refine hK _ _ ?_
  apply wp_ret
  show bodyPost Tryd.prog Tryd.f13 _ Exit.ret _ _
  refine bodyPost_ret (results_cell_row (fn := Tryd.f13) (p := 2) (ty := 23) rfl _ _ (w.heap.size + 1) 23 (bizM M).cs (0, 0) _ (by rfl) (setRow_heap _ _ _ _ _ _ HA2.out.2.1) Tryd.underlying23 rfl (by rw [Msg.cs_size]; kernel_rfl)) (by rfl) ⟨rfl, below_setRow HA2.out.2.2 (by omega) _⟩

end Go.Proofs.YtdlmaeieoiocdaaDoor
