/-
  msg: a message of the call's own; the document's examples: shown.
-/
import Derived.Test.YtkpoheknmcepnaaGreatDoorMsgValid
import Derived.Test.YtkpoheknmcepnaaGreatDoorMsgHasW
import Derived.Great.Walk
import Derived.Deep.WholeRow
namespace Go.Proofs.YtkpoheknmcepnaaGreatDoor
set_option linter.unusedVariables false
open Go.RowKit Go.Great

/-- A message that lies in a block of its own. -/
def OwnM (w : World) (g : Nat) (M : Msg) : Prop := w.heap[g]? = some (.cells M.cs 43 (0, 0))
theorem OwnM.lt {w : World} {g : Nat} {M : Msg} (h : OwnM w g M) : g < w.heap.size := (Array.getElem?_eq_some_iff.1 h).1
theorem OwnM.below {w w' : World} {B g : Nat} {M : Msg} (h : OwnM w g M) (hb : Below B w w') (hg : g < B) : OwnM w' g M := (hb.block g hg).trans h
theorem OwnM.load {w : World} {g : Nat} {M : Msg} (h : OwnM w g M) : Sem.run Tryz.prog (loadVar 43 ⟨g, 0, none⟩) w = .ok (.agg M.cs) w :=
  run_loadVar_row w g 43 43 M.cs (0, 0) _ h Tryz.underlying43 rfl (by rw [M.cs_size]; kernel_rfl)
theorem wpList_loadM {ops : Array Oper} {rest : List Oper} {op : Oper} {a : Act} {w : World} {Q : Exit → Act → World → Prop} {g : Nat} {M : Msg} (h : OwnM w g M) (x : Operand) (hgd : op.guard = none) (ho : op.op = .load 43 x)
    (hx : a.eval x = .pointer (some ⟨g, 0, none⟩)) (hn : wpList Tryz.prog ops Q rest (a.put op.dst (.agg M.cs)) w) : wpList Tryz.prog ops Q (op :: rest) a w :=
  wpList_load_row hgd 43 x ho g hx 43 M.cs (0, 0) _ h Tryz.underlying43 rfl (by rw [M.cs_size]; kernel_rfl) hn
theorem OwnM.cell {w : World} {g : Nat} {M : Msg} (h : OwnM w g M) (k : Nat) (hk : k < 42) : w.cell? ⟨g, k, none⟩ = some (M.cell k) := by
  rw [cell_of_row _ _ _ _ _ _ h]; exact M.cs_get k hk
theorem OwnM.frozen {w : World} {g : Nat} {M : Msg} (h : OwnM w g M) (k : Nat) : w.frozen? ⟨g, k, none⟩ = false := frozen_of_row w g k _ _ h
theorem OwnM.store {w : World} {g : Nat} {M M' : Msg} {k : Nat} {v : Value} (h : OwnM w g M) (e : M.cs.setIfInBounds k v = M'.cs) : OwnM (w.setCell ⟨g, k, none⟩ v) g M' := by
  unfold OwnM
  rw [setCell_eq_setRow w g k _ _ _ v h, e]
  exact setRow_heap _ _ _ _ _ _ h
theorem OwnM.stays {w : World} {g B : Nat} {M : Msg} {k : Nat} {v : Value} (h : OwnM w g M) (hB : B ≤ g) : Below B w (w.setCell ⟨g, k, none⟩ v) := by
  rw [setCell_eq_setRow w g k _ _ _ v h]
  exact below_setRow (Below.refl _ _) hB _
def zeroM : Msg := ⟨fun _ => 0, fun _ => ⟨#[]⟩, fun _ => false⟩
end Go.Proofs.YtkpoheknmcepnaaGreatDoor
