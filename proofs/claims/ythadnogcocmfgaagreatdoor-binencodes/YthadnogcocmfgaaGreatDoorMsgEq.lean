/-
  Messages are equal to themselves.
-/
import Derived.Test.YthadnogcocmfgaaGreatDoorMsgUpd
import Derived.Laws.StructEq
import Derived.ChangeKeysEq
namespace Go.Proofs.YthadnogcocmfgaaGreatDoor
set_option linter.unusedVariables false
open Go.RowKit Go.Great

theorem eqFields_self {xs : Array Value} {w : World} (d : Nat) : ∀ fs : List Field, (∀ f ∈ fs, ∃ v, (part f.type xs f.offset).run Tryz.prog w = .ok v w ∧ (Op.equalIn d f.type v v).run Tryz.prog w = .ok true w) → (Op.eqFields d xs xs fs).run Tryz.prog w = .ok true w
  | [], _ => by simp [Op.eqFields]
  | f :: fs, h => by
    obtain ⟨v, h1, h2⟩ := h f (by simp)
    have ih := eqFields_self d fs (fun g hg => h g (by simp [hg]))
    simp only [Op.eqFields, Sem.run_bind, Sem.run_ite, h1, h2, Result.andThen_ok, ih]
    split <;> simp
def tyL : List Nat := [3, 9, 9, 3, 4, 2, 2, 3, 4, 9, 3, 3, 3, 4, 3, 3, 3, 3, 9, 9, 9, 9, 9, 3, 3, 3, 2, 2, 2, 2, 2, 3, 3, 3, 3, 3, 2, 2, 2, 2, 3, 3]
set_option maxRecDepth 100000 in
theorem fld_at : (Tryz.prog.fieldsOf 23).toList.map (fun f => (f.type, f.offset)) = (List.range 42).map fun i => (tyL.getD i 0, i) := by kernel_rfl
theorem eq_int (z : Int) (w : World) (t : TypeId) (ht : Tryz.prog.underlying t = some (.int .i64)) : (Op.equalIn 9999 t (.int .i64 z) (.int .i64 z)).run Tryz.prog w = .ok true w := by
  rw [run_equalIn_int w 9998 t .i64 .i64 z z ht]; simp
theorem eq_str (s : ByteArray) (w : World) : (Op.equalIn 9999 9 (.string s) (.string s)).run Tryz.prog w = .ok true w := by
  rw [run_equalIn_string w 9998 9 s s Tryz.underlying9]; simp
theorem eq_boo (b : Bool) (w : World) : (Op.equalIn 9999 4 (.bool b) (.bool b)).run Tryz.prog w = .ok true w := by
  rw [run_equalIn_bool' w 9998 4 b b Tryz.underlying4]; simp
theorem pl2 : Tryz.prog.plainKey 2 = true := by kernel_rfl
theorem pl3 : Tryz.prog.plainKey 3 = true := by kernel_rfl
theorem pl4 : Tryz.prog.plainKey 4 = true := by kernel_rfl
theorem pl9 : Tryz.prog.plainKey 9 = true := by kernel_rfl
theorem fld_eq (M : Msg) (w : World) (i : Nat) (hi : i < 42) : ∃ v, (part (tyL.getD i 0) M.cs i).run Tryz.prog w = .ok v w ∧ (Op.equalIn 9999 (tyL.getD i 0) v v).run Tryz.prog w = .ok true w := by
  have hx := M.cs_get i hi
  rcases cases42 hi with rfl | rfl | rfl | rfl | rfl | rfl | rfl | rfl | rfl | rfl | rfl | rfl | rfl | rfl | rfl | rfl | rfl | rfl | rfl | rfl | rfl | rfl | rfl | rfl | rfl | rfl | rfl | rfl | rfl | rfl | rfl | rfl | rfl | rfl | rfl | rfl | rfl | rfl | rfl | rfl | rfl | rfl
  · exact ⟨.int .i64 (M.z 0), run_part_plain w pl3 hx, eq_int _ w 3 Tryz.underlying3⟩
  · exact ⟨.string (M.s 1), run_part_plain w pl9 hx, eq_str _ w⟩
  · exact ⟨.string (M.s 2), run_part_plain w pl9 hx, eq_str _ w⟩
  · exact ⟨.int .i64 (M.z 3), run_part_plain w pl3 hx, eq_int _ w 3 Tryz.underlying3⟩
  · exact ⟨.bool (M.b 4), run_part_plain w pl4 hx, eq_boo _ w⟩
  · exact ⟨.int .i64 (M.z 5), run_part_plain w pl2 hx, eq_int _ w 2 Tryz.underlying2⟩
  · exact ⟨.int .i64 (M.z 6), run_part_plain w pl2 hx, eq_int _ w 2 Tryz.underlying2⟩
  · exact ⟨.int .i64 (M.z 7), run_part_plain w pl3 hx, eq_int _ w 3 Tryz.underlying3⟩
  · exact ⟨.bool (M.b 8), run_part_plain w pl4 hx, eq_boo _ w⟩
  · exact ⟨.string (M.s 9), run_part_plain w pl9 hx, eq_str _ w⟩
  · exact ⟨.int .i64 (M.z 10), run_part_plain w pl3 hx, eq_int _ w 3 Tryz.underlying3⟩
  · exact ⟨.int .i64 (M.z 11), run_part_plain w pl3 hx, eq_int _ w 3 Tryz.underlying3⟩
  · exact ⟨.int .i64 (M.z 12), run_part_plain w pl3 hx, eq_int _ w 3 Tryz.underlying3⟩
  · exact ⟨.bool (M.b 13), run_part_plain w pl4 hx, eq_boo _ w⟩
  · exact ⟨.int .i64 (M.z 14), run_part_plain w pl3 hx, eq_int _ w 3 Tryz.underlying3⟩
  · exact ⟨.int .i64 (M.z 15), run_part_plain w pl3 hx, eq_int _ w 3 Tryz.underlying3⟩
  · exact ⟨.int .i64 (M.z 16), run_part_plain w pl3 hx, eq_int _ w 3 Tryz.underlying3⟩
  · exact ⟨.int .i64 (M.z 17), run_part_plain w pl3 hx, eq_int _ w 3 Tryz.underlying3⟩
  · exact ⟨.string (M.s 18), run_part_plain w pl9 hx, eq_str _ w⟩
  · exact ⟨.string (M.s 19), run_part_plain w pl9 hx, eq_str _ w⟩
  · exact ⟨.string (M.s 20), run_part_plain w pl9 hx, eq_str _ w⟩
  · exact ⟨.string (M.s 21), run_part_plain w pl9 hx, eq_str _ w⟩
  · exact ⟨.string (M.s 22), run_part_plain w pl9 hx, eq_str _ w⟩
  · exact ⟨.int .i64 (M.z 23), run_part_plain w pl3 hx, eq_int _ w 3 Tryz.underlying3⟩
  · exact ⟨.int .i64 (M.z 24), run_part_plain w pl3 hx, eq_int _ w 3 Tryz.underlying3⟩
  · exact ⟨.int .i64 (M.z 25), run_part_plain w pl3 hx, eq_int _ w 3 Tryz.underlying3⟩
  · exact ⟨.int .i64 (M.z 26), run_part_plain w pl2 hx, eq_int _ w 2 Tryz.underlying2⟩
  · exact ⟨.int .i64 (M.z 27), run_part_plain w pl2 hx, eq_int _ w 2 Tryz.underlying2⟩
  · exact ⟨.int .i64 (M.z 28), run_part_plain w pl2 hx, eq_int _ w 2 Tryz.underlying2⟩
  · exact ⟨.int .i64 (M.z 29), run_part_plain w pl2 hx, eq_int _ w 2 Tryz.underlying2⟩
  · exact ⟨.int .i64 (M.z 30), run_part_plain w pl2 hx, eq_int _ w 2 Tryz.underlying2⟩
  · exact ⟨.int .i64 (M.z 31), run_part_plain w pl3 hx, eq_int _ w 3 Tryz.underlying3⟩
  · exact ⟨.int .i64 (M.z 32), run_part_plain w pl3 hx, eq_int _ w 3 Tryz.underlying3⟩
  · exact ⟨.int .i64 (M.z 33), run_part_plain w pl3 hx, eq_int _ w 3 Tryz.underlying3⟩
  · exact ⟨.int .i64 (M.z 34), run_part_plain w pl3 hx, eq_int _ w 3 Tryz.underlying3⟩
  · exact ⟨.int .i64 (M.z 35), run_part_plain w pl3 hx, eq_int _ w 3 Tryz.underlying3⟩
  · exact ⟨.int .i64 (M.z 36), run_part_plain w pl2 hx, eq_int _ w 2 Tryz.underlying2⟩
  · exact ⟨.int .i64 (M.z 37), run_part_plain w pl2 hx, eq_int _ w 2 Tryz.underlying2⟩
  · exact ⟨.int .i64 (M.z 38), run_part_plain w pl2 hx, eq_int _ w 2 Tryz.underlying2⟩
  · exact ⟨.int .i64 (M.z 39), run_part_plain w pl2 hx, eq_int _ w 2 Tryz.underlying2⟩
  · exact ⟨.int .i64 (M.z 40), run_part_plain w pl3 hx, eq_int _ w 3 Tryz.underlying3⟩
  · exact ⟨.int .i64 (M.z 41), run_part_plain w pl3 hx, eq_int _ w 3 Tryz.underlying3⟩
theorem msg_eq (M : Msg) (w : World) : (Op.equalIn 10000 23 (.agg M.cs) (.agg M.cs)).run Tryz.prog w = .ok true w := by
  rw [run_equalIn_agg w 9999 23 _ _ (by kernel_rfl) (by kernel_rfl)]
  refine eqFields_self 9999 _ fun f hf => ?_
  obtain ⟨i, hi, rfl⟩ := List.getElem_of_mem hf
  have hl : (Tryz.prog.fieldsOf 23).toList.length = 42 := by kernel_rfl
  have hi' : i < 42 := by omega
  have h1 := congrArg (·[i]?) fld_at
  simp only [List.getElem?_map, List.getElem?_eq_getElem hi, List.getElem?_range hi', Option.map_some, Option.some.injEq, Prod.mk.injEq] at h1
  rw [h1.1, h1.2]
  exact fld_eq M w i hi'
theorem msg_eql (M : Msg) (w : World) : (binOp .eql 23 (.agg M.cs) (.agg M.cs)).run Tryz.prog w = .ok (.bool true) w := by
  rw [run_eql_struct, msg_eq]
  rfl

end Go.Proofs.YthadnogcocmfgaaGreatDoor
