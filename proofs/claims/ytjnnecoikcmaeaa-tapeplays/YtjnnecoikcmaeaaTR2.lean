/-
  tape: a command is equal to itself.
-/
import Derived.Test.YtjnnecoikcmaeaaTR1
import Derived.Laws.StructEq
import Derived.ChangeKeysEq
namespace Go.Proofs.Ytjnnecoikcmaeaa
set_option linter.unusedVariables false
set_option linter.unusedSimpArgs false
open Go.RowKit Go.Great

set_option maxRecDepth 100000 in
set_option maxHeartbeats 4000000 in
theorem cmd_eql (c : Cm) (w : World) : (binOp .eql 27 (.agg c.cs) (.agg c.cs)).run Try.prog w = .ok (.bool true) w := by
  unfold Cm.cs
  go_simp
set_option maxRecDepth 100000 in
set_option maxHeartbeats 4000000 in
theorem cmd_neq (c : Cm) (w : World) : (binOp .neq 27 (.agg c.cs) (.agg c.cs)).run Try.prog w = .ok (.bool false) w := by
  unfold Cm.cs
  go_simp
theorem eqC_run {op : Oper} {a : Act} {c : Cm} (x y : Operand) (ho : op.op = .binOp .eql 27 x y 27) (hx : a.eval x = .agg c.cs) (hy : a.eval y = .agg c.cs) (w : World) : (execOp a.eval op).run Try.prog w = .ok (.value (.bool true)) w := by
  have hgd : (eqGuard .eql 27 x y (.agg c.cs) (.agg c.cs)).run Try.prog w = .ok () w := run_eqGuard_agg (P := Try.prog) w .eql 27 x y _ _ (by kernel_rfl)
  unfold execOp
  simp only [ho, hx, hy, Sem.run_bind, hgd, Result.andThen_ok, cmd_eql]
  rfl
theorem neC_run {op : Oper} {a : Act} {c : Cm} (x y : Operand) (ho : op.op = .binOp .neq 27 x y 27) (hx : a.eval x = .agg c.cs) (hy : a.eval y = .agg c.cs) (w : World) : (execOp a.eval op).run Try.prog w = .ok (.value (.bool false)) w := by
  have hgd : (eqGuard .neq 27 x y (.agg c.cs) (.agg c.cs)).run Try.prog w = .ok () w := run_eqGuard_agg (P := Try.prog) w .neq 27 x y _ _ (by kernel_rfl)
  unfold execOp
  simp only [ho, hx, hy, Sem.run_bind, hgd, Result.andThen_ok, cmd_neq]
  rfl
/-- A command loaded under a guard. -/
theorem loadG_cmd {w : World} {g : Nat} {c : Cm} {ops : Array Oper} {rest : List Oper} {o : Oper} {a : Act} {Q : Exit → Act → World → Prop} (hb : Blk w g 27 c.cs) (x : Operand) (hw : Region.wanted o (yielded ops a.tmps) = true) (ho : o.op = .load 27 x) (hx : a.eval x = .pointer (some ⟨g, 0, none⟩)) (h : wpList Try.prog ops Q rest (a.put o.dst (.agg c.cs)) w) : wpList Try.prog ops Q (o :: rest) a w :=
  wpList_wanted hw fun K hK => wp_load_row 27 x ho g hx 27 _ (0, 0) _ hb Try.underlying27 rfl (by rw [Cm.cs_size]; exact info27) (hK _ _ h)
end Go.Proofs.Ytjnnecoikcmaeaa
