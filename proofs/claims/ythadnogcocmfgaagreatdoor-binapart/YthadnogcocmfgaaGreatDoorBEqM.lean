/-
  bin: messages compared.
-/
import Derived.Test.YthadnogcocmfgaaGreatDoorBShown
import Derived.BigQuiet
namespace Go.Proofs.YthadnogcocmfgaaGreatDoor
set_option linter.unusedVariables false
open Go.RowKit Go.Great Go.Lib

theorem eqFields_any {xs ys : Array Value} {w : World} (d : Nat) (q : Field → Prop) : ∀ fs : List Field, (∀ f ∈ fs, f.name ≠ "_" ∧ ∃ u v r, (part f.type xs f.offset).run Tryz.prog w = .ok u w ∧ (part f.type ys f.offset).run Tryz.prog w = .ok v w ∧ (Op.equalIn d f.type u v).run Tryz.prog w = .ok r w ∧ (r = true ↔ q f)) →
    ∃ r, (Op.eqFields d xs ys fs).run Tryz.prog w = .ok r w ∧ (r = true ↔ ∀ f ∈ fs, q f)
  | [], _ => ⟨true, by simp [Op.eqFields], by simp⟩
  | f :: fs, h => by
    obtain ⟨hn, u, v, r, h1, h2, h3, h4⟩ := h f (by simp)
    obtain ⟨r', ih1, ih2⟩ := eqFields_any d q fs (fun g hg => h g (by simp [hg]))
    cases r with
    | true => exact ⟨r', by simp only [Op.eqFields, if_pos hn, Sem.run_bind, Sem.run_ite, h1, h2, h3, Result.andThen_ok, ih1]; simp, by rw [ih2]; simp [h4.1 rfl]⟩
    | false =>
      refine ⟨false, by simp only [Op.eqFields, if_pos hn, Sem.run_bind, Sem.run_ite, h1, h2, h3, Result.andThen_ok]; simp, ?_⟩
      have : ¬ q f := fun hq => by have := h4.2 hq; cases this
      simp [this]
theorem fi_any (M M' : Msg) (w : World) (i t : Nat) (hi : i < 42) (hp : Tryz.prog.plainKey t = true) (ht : Tryz.prog.underlying t = some (.int .i64)) (e : ∀ M : Msg, M.cell i = .int .i64 (M.z i)) :
    ∃ u v r, (part t M.cs i).run Tryz.prog w = .ok u w ∧ (part t M'.cs i).run Tryz.prog w = .ok v w ∧ (Op.equalIn 9999 t u v).run Tryz.prog w = .ok r w ∧ (r = true ↔ M.cell i = M'.cell i) :=
  ⟨_, _, M.z i == M'.z i, run_part_plain w hp (M.cs_get i hi), run_part_plain w hp (M'.cs_get i hi), by rw [e, e]; exact run_equalIn_int w 9998 t .i64 .i64 _ _ ht, by rw [e, e]; simp⟩
theorem str_iff (a b : ByteArray) : (a.toList == b.toList) = true ↔ Value.string a = Value.string b := by
  rw [beq_iff_eq, ByteArray.toList_eq, ByteArray.toList_eq, Value.string.injEq]
  obtain ⟨⟨x⟩⟩ := a
  obtain ⟨⟨y⟩⟩ := b
  simp
theorem fs_any (M M' : Msg) (w : World) (i : Nat) (hi : i < 42) (e : ∀ M : Msg, M.cell i = .string (M.s i)) :
    ∃ u v r, (part 9 M.cs i).run Tryz.prog w = .ok u w ∧ (part 9 M'.cs i).run Tryz.prog w = .ok v w ∧ (Op.equalIn 9999 9 u v).run Tryz.prog w = .ok r w ∧ (r = true ↔ M.cell i = M'.cell i) :=
  ⟨_, _, (M.s i).toList == (M'.s i).toList, run_part_plain w pl9 (M.cs_get i hi), run_part_plain w pl9 (M'.cs_get i hi), by rw [e, e]; exact run_equalIn_string w 9998 9 _ _ Tryz.underlying9, by rw [e, e]; exact str_iff _ _⟩
theorem fb_any (M M' : Msg) (w : World) (i : Nat) (hi : i < 42) (e : ∀ M : Msg, M.cell i = .bool (M.b i)) :
    ∃ u v r, (part 4 M.cs i).run Tryz.prog w = .ok u w ∧ (part 4 M'.cs i).run Tryz.prog w = .ok v w ∧ (Op.equalIn 9999 4 u v).run Tryz.prog w = .ok r w ∧ (r = true ↔ M.cell i = M'.cell i) :=
  ⟨_, _, M.b i == M'.b i, run_part_plain w pl4 (M.cs_get i hi), run_part_plain w pl4 (M'.cs_get i hi), by rw [e, e]; exact run_equalIn_bool' w 9998 4 _ _ Tryz.underlying4, by rw [e, e]; simp⟩
set_option maxRecDepth 100000 in
theorem fld_any (M M' : Msg) (w : World) (i : Nat) (hi : i < 42) : ∃ u v r, (part (tyL.getD i 0) M.cs i).run Tryz.prog w = .ok u w ∧ (part (tyL.getD i 0) M'.cs i).run Tryz.prog w = .ok v w ∧ (Op.equalIn 9999 (tyL.getD i 0) u v).run Tryz.prog w = .ok r w ∧ (r = true ↔ M.cell i = M'.cell i) := by
  rcases cases42 hi with rfl | rfl | rfl | rfl | rfl | rfl | rfl | rfl | rfl | rfl | rfl | rfl | rfl | rfl | rfl | rfl | rfl | rfl | rfl | rfl | rfl | rfl | rfl | rfl | rfl | rfl | rfl | rfl | rfl | rfl | rfl | rfl | rfl | rfl | rfl | rfl | rfl | rfl | rfl | rfl | rfl | rfl
  · exact fi_any M M' w 0 3 hi pl3 Tryz.underlying3 (fun _ => rfl)
  · exact fs_any M M' w 1 hi (fun _ => rfl)
  · exact fs_any M M' w 2 hi (fun _ => rfl)
  · exact fi_any M M' w 3 3 hi pl3 Tryz.underlying3 (fun _ => rfl)
  · exact fb_any M M' w 4 hi (fun _ => rfl)
  · exact fi_any M M' w 5 2 hi pl2 Tryz.underlying2 (fun _ => rfl)
  · exact fi_any M M' w 6 2 hi pl2 Tryz.underlying2 (fun _ => rfl)
  · exact fi_any M M' w 7 3 hi pl3 Tryz.underlying3 (fun _ => rfl)
  · exact fb_any M M' w 8 hi (fun _ => rfl)
  · exact fs_any M M' w 9 hi (fun _ => rfl)
  · exact fi_any M M' w 10 3 hi pl3 Tryz.underlying3 (fun _ => rfl)
  · exact fi_any M M' w 11 3 hi pl3 Tryz.underlying3 (fun _ => rfl)
  · exact fi_any M M' w 12 3 hi pl3 Tryz.underlying3 (fun _ => rfl)
  · exact fb_any M M' w 13 hi (fun _ => rfl)
  · exact fi_any M M' w 14 3 hi pl3 Tryz.underlying3 (fun _ => rfl)
  · exact fi_any M M' w 15 3 hi pl3 Tryz.underlying3 (fun _ => rfl)
  · exact fi_any M M' w 16 3 hi pl3 Tryz.underlying3 (fun _ => rfl)
  · exact fi_any M M' w 17 3 hi pl3 Tryz.underlying3 (fun _ => rfl)
  · exact fs_any M M' w 18 hi (fun _ => rfl)
  · exact fs_any M M' w 19 hi (fun _ => rfl)
  · exact fs_any M M' w 20 hi (fun _ => rfl)
  · exact fs_any M M' w 21 hi (fun _ => rfl)
  · exact fs_any M M' w 22 hi (fun _ => rfl)
  · exact fi_any M M' w 23 3 hi pl3 Tryz.underlying3 (fun _ => rfl)
  · exact fi_any M M' w 24 3 hi pl3 Tryz.underlying3 (fun _ => rfl)
  · exact fi_any M M' w 25 3 hi pl3 Tryz.underlying3 (fun _ => rfl)
  · exact fi_any M M' w 26 2 hi pl2 Tryz.underlying2 (fun _ => rfl)
  · exact fi_any M M' w 27 2 hi pl2 Tryz.underlying2 (fun _ => rfl)
  · exact fi_any M M' w 28 2 hi pl2 Tryz.underlying2 (fun _ => rfl)
  · exact fi_any M M' w 29 2 hi pl2 Tryz.underlying2 (fun _ => rfl)
  · exact fi_any M M' w 30 2 hi pl2 Tryz.underlying2 (fun _ => rfl)
  · exact fi_any M M' w 31 3 hi pl3 Tryz.underlying3 (fun _ => rfl)
  · exact fi_any M M' w 32 3 hi pl3 Tryz.underlying3 (fun _ => rfl)
  · exact fi_any M M' w 33 3 hi pl3 Tryz.underlying3 (fun _ => rfl)
  · exact fi_any M M' w 34 3 hi pl3 Tryz.underlying3 (fun _ => rfl)
  · exact fi_any M M' w 35 3 hi pl3 Tryz.underlying3 (fun _ => rfl)
  · exact fi_any M M' w 36 2 hi pl2 Tryz.underlying2 (fun _ => rfl)
  · exact fi_any M M' w 37 2 hi pl2 Tryz.underlying2 (fun _ => rfl)
  · exact fi_any M M' w 38 2 hi pl2 Tryz.underlying2 (fun _ => rfl)
  · exact fi_any M M' w 39 2 hi pl2 Tryz.underlying2 (fun _ => rfl)
  · exact fi_any M M' w 40 3 hi pl3 Tryz.underlying3 (fun _ => rfl)
  · exact fi_any M M' w 41 3 hi pl3 Tryz.underlying3 (fun _ => rfl)
set_option maxRecDepth 100000 in
theorem fld_nm : (Tryz.prog.fieldsOf 23).toList.all (fun f => f.name != "_") = true := by kernel_rfl
theorem msg_eq_any (M M' : Msg) (w : World) : ∃ r, (Op.equalIn 10000 23 (.agg M.cs) (.agg M'.cs)).run Tryz.prog w = .ok r w ∧ (r = true ↔ M.cs = M'.cs) := by
  rw [run_equalIn_agg w 9999 23 _ _ (by kernel_rfl) (by kernel_rfl)]
  have hl : (Tryz.prog.fieldsOf 23).toList.length = 42 := by kernel_rfl
  have hat : ∀ i (hi : i < (Tryz.prog.fieldsOf 23).toList.length), (Tryz.prog.fieldsOf 23).toList[i].type = tyL.getD i 0 ∧ (Tryz.prog.fieldsOf 23).toList[i].offset = i := fun i hi => by
    have hi' : i < 42 := by omega
    have h1 := congrArg (·[i]?) fld_at
    simp only [List.getElem?_map, List.getElem?_eq_getElem hi, List.getElem?_range hi', Option.map_some, Option.some.injEq, Prod.mk.injEq] at h1
    exact h1
  obtain ⟨r, h1, h2⟩ := eqFields_any (xs := M.cs) (ys := M'.cs) (w := w) 9999 (fun f => M.cell f.offset = M'.cell f.offset) (Tryz.prog.fieldsOf 23).toList fun f hf => by
    refine ⟨by have := List.all_eq_true.1 fld_nm f hf; simpa using this, ?_⟩
    obtain ⟨i, hi, rfl⟩ := List.getElem_of_mem hf
    rw [(hat i hi).1, (hat i hi).2]
    exact fld_any M M' w i (by omega)
  refine ⟨r, h1, h2.trans ⟨fun h => ?_, fun h f hf => ?_⟩⟩
  · apply Array.ext_getElem?
    intro i
    by_cases hi : i < 42
    · rw [M.cs_get i hi, M'.cs_get i hi]
      have hi' : i < (Tryz.prog.fieldsOf 23).toList.length := by omega
      have := h _ (List.getElem_mem hi')
      rw [(hat i hi').2] at this
      rw [this]
    · rw [Array.getElem?_eq_none (by rw [M.cs_size]; omega), Array.getElem?_eq_none (by rw [M'.cs_size]; omega)]
  · obtain ⟨i, hi, rfl⟩ := List.getElem_of_mem hf
    rw [(hat i hi).2]
    have e := congrArg (·[i]?) h
    simp only [M.cs_get i (by omega), M'.cs_get i (by omega), Option.some.injEq] at e
    exact e
/-- Two messages, compared: one answer, in every world. -/
theorem eqM_any (M M' : Msg) {op : Oper} {a : Act} (x y : Operand) (ho : op.op = .binOp .eql 23 x y 23) (hx : a.eval x = .agg M.cs) (hy : a.eval y = .agg M'.cs) (b : Bool) (hb : b = true ↔ M.cs = M'.cs) (w : World) : (execOp a.eval op).run Tryz.prog w = .ok (.value (.bool b)) w := by
  obtain ⟨r, h1, h2⟩ := msg_eq_any M M' w
  obtain rfl : r = b := Bool.eq_iff_iff.2 (h2.trans hb.symm)
  have hgd : (eqGuard .eql 23 x y (.agg M.cs) (.agg M'.cs)).run Tryz.prog w = .ok () w := run_eqGuard_agg (P := Tryz.prog) w .eql 23 x y _ _ (by kernel_rfl)
  have he : (binOp .eql 23 (.agg M.cs) (.agg M'.cs)).run Tryz.prog w = .ok (.bool r) w := by rw [run_eql_struct, h1]; rfl
  unfold execOp
  simp only [ho, hx, hy, Sem.run_bind, hgd, Result.andThen_ok, he]
  rfl
theorem loadM_run {op : Oper} {a : Act} {w : World} {g : Nat} {M : Msg} (h : OwnM w g M) (x : Operand) (ho : op.op = .load 23 x) (hx : a.eval x = .pointer (some ⟨g, 0, none⟩)) : (execOp a.eval op).run Tryz.prog w = .ok (.value (.agg M.cs)) w := by
  have hr := run_loadVar_row (P := Tryz.prog) w g 23 23 M.cs (0, 0) _ h Tryz.underlying23 rfl (by rw [M.cs_size]; kernel_rfl)
  unfold execOp
  simp only [ho, hx, Instr.loadAt, Instr.sureAddr, Sem.run_bind, Sem.run_pure, Result.andThen_ok, hr]
theorem conv_run {op : Oper} {a : Act} {w : World} {g n cap : Nat} {l : List UInt8} (h : OwnL w g l) (hn : n = l.length) (x : Operand) (ho : op.op = .convert 28 9 x) (hx : a.eval x = .slice (some ⟨g, 0, none⟩) n cap) : (execOp a.eval op).run Tryz.prog w = .ok (.value (.string ⟨l.toArray⟩)) w := by
  have hr := conv_at (cap := cap) h.at_ n hn
  unfold execOp
  simp only [ho, hx, Sem.run_bind, Result.andThen_ok, hr]
  rfl
theorem quiet_runTo {P : Program} {ops : Array Oper} {C : World → Prop} {Q : Act → Prop} {a : Act} {o : Oper} {rest : List Oper} (hw : Region.wanted o (yielded ops a.tmps) = true) (dst : Option Tmp) (hdst : o.dst = dst) (v : Value)
    (hrun : ∀ w, C w → (execOp a.eval o).run P w = .ok (.value v) w) (h : wpQuiet P ops C Q rest (a.put dst v)) : wpQuiet P ops C Q (o :: rest) a :=
  BigFrame.wpQuiet_want hw fun K hK => ⟨v, fun w hw => by unfold Oper.quietAt; rw [hrun w hw]; exact ⟨rfl, rfl⟩, by subst hdst; exact hK _ h⟩
end Go.Proofs.YthadnogcocmfgaaGreatDoor
