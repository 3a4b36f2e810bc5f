/-
  bin: Size.
-/
import Derived.Test.YtkpoheknmcepnaaGreatDoorBEnc
namespace Go.Proofs.YtkpoheknmcepnaaGreatDoor
set_option linter.unusedVariables false
open Go.RowKit Go.Great Go.Lib

theorem wpList_callW {P : Program} {ops : Array Oper} {rest : List Oper} {op : Oper} {a : Act} {w : World} {Q : Exit → Act → World → Prop} (hg : op.guard = none) (d : Option Tmp) (hd : op.dst = d)
    (f : FuncId) (args : Array Value) (hrun : (execOp a.eval op).run P w = .ok (.enter f args) w) {R : Ending → World → Prop} (hc : Calls P f args w R)
    (h : ∀ e w', R e w' → ∃ v, e = .returned v ∧ wpList P ops Q rest (a.put d v) w') : wpList P ops Q (op :: rest) a w := by
  subst hd
  refine wpList_plain hg fun K hK => ?_
  unfold Oper.wp
  rw [hrun, Oper.upon_enter]
  refine hc.mono fun e w'' hh => ?_
  obtain ⟨v, rfl, hw⟩ := h _ _ hh
  exact hK _ _ hw
set_option maxRecDepth 100000 in
set_option maxHeartbeats 1000000 in
theorem Size_any (z : Int) (w : World) : Calls Tryz.prog 50 #[.int .i64 z] w fun e w' => e = .returned (.int .i64 (sizeN z : Int)) ∧ Below w.heap.size w w' := by
  generalize hS : sizeN z = S
  have HO : Hid (OwnM (w.alloc (.cells (kindM z).cs 43)) w.heap.size (kindM z) ∧ Below w.heap.size w (w.alloc (.cells (kindM z).cs 43))) := ⟨heap_alloc_new w _, (Below.refl _ w).alloc (Nat.le_refl _) _⟩
  go_enter Tryz.func50, Tryz.ntmps50
  go_upto_region 1 with fail
  refine wp_region_lit ?_
  refine wpList_runTo rfl (some 3) rfl (.int .i64 z) w (by kernel_rfl) ?_
  refine wpList_runTo rfl (some 4) rfl (.agg (kindM z).cs) w (by kernel_rfl) ?_
  refine wpList_runTo rfl (some 5) rfl (.pointer (some ⟨w.heap.size, 0, none⟩)) (w.alloc (.cells (kindM z).cs 43)) (by kernel_rfl) ?_
  generalize hcs : (kindM z).cs = CS at *
  have hlay := layoutOf_any z w.heap.size (w.alloc (.cells CS 43)) (by have := HO.out.1.cell 0 (by decide); exact this)
  rw [hS] at hlay
  refine wpList_callW rfl (some 6) rfl 24 #[.pointer (some ⟨w.heap.size, 0, none⟩)] (by kernel_rfl) hlay ?_
  rintro e w3 ⟨v, rfl, hpl, hb3⟩
  have HB3 : Hid (Below w.heap.size w w3) := HO.out.2.trans (hb3.mono HO.out.2.size)
  refine ⟨_, rfl, ?_⟩
  refine wpList_runTo rfl (some 7) rfl (.int .i64 (S : Int)) w3 (by kernel_rfl) ?_
  refine wpList_runTo rfl (some 2) rfl (.int .i64 (S : Int)) w3 (by kernel_rfl) ?_
  refine wpList_nil ?_
  simp only [Act.put, List.setIfInBounds_toArray, List.set_cons_zero, List.set_cons_succ]
  clear hb3 hlay hpl
  go_wp2
  go_ret
  exact ⟨rfl, HB3.out⟩
end Go.Proofs.YtkpoheknmcepnaaGreatDoor
