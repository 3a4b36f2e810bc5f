/-
  store: parts and messages in the middle of a row, read; drawn regions that only read, by hand.
-/
import Derived.Test.YtekkckfoikpljaaSShown
namespace Go.Proofs.Ytekkckfoikpljaa
set_option linter.unusedVariables false
set_option linter.unusedSimpArgs false
open Go.RowKit Go.Great

theorem quiet_runTo {P : Program} {ops : Array Oper} {C : World → Prop} {Q : Act → Prop} {a : Act} {o : Oper} {rest : List Oper} (hw : Region.wanted o (yielded ops a.tmps) = true) (dst : Option Tmp) (hdst : o.dst = dst) (v : Value)
    (hrun : ∀ w, C w → (execOp a.eval o).run P w = .ok (.value v) w) (h : wpQuiet P ops C Q rest (a.put dst v)) : wpQuiet P ops C Q (o :: rest) a :=
  BigFrame.wpQuiet_want hw fun K hK => ⟨v, fun w hw => by unfold Oper.quietAt; rw [hrun w hw]; exact ⟨rfl, rfl⟩, by subst hdst; exact hK _ h⟩
theorem wpList_wanted {P : Program} {ops : Array Oper} {rest : List Oper} {o : Oper} {a : Act} {w : World} {Q : Exit → Act → World → Prop} (hw : Region.wanted o (yielded ops a.tmps) = true)
    (h : ∀ K : Act → World → Prop, (∀ a w, wpList P ops Q rest a w → K a w) → o.wp P a w K Q) : wpList P ops Q (o :: rest) a w :=
  wpList_step fun K hK => by rw [if_pos hw]; exact h K hK
theorem wpList_runToG {P : Program} {ops : Array Oper} {rest : List Oper} {o : Oper} {a : Act} {w : World} {Q : Exit → Act → World → Prop} (hw : Region.wanted o (yielded ops a.tmps) = true) (dst : Option Tmp) (hdst : o.dst = dst)
    (v : Value) (w' : World) (hrun : (execOp a.eval o).run P w = .ok (.value v) w')
    (h : wpList P ops Q rest (a.put dst v) w') : wpList P ops Q (o :: rest) a w := by
  subst hdst
  refine wpList_wanted hw fun K hK => ?_
  unfold Oper.wp
  rw [hrun, Oper.upon_value]
  exact hK _ _ h
theorem loadMid_run {op : Oper} {a : Act} {w : World} {g o : Nat} {M : Msg} (h : w.rangeAt g o M.cs.toList) (x : Operand) (ho : op.op = .load 34 x) (hx : a.eval x = .pointer (some ⟨g, o, none⟩)) : (execOp a.eval op).run Try.prog w = .ok (.value (.agg M.cs)) w := by
  have hl := run_loadVar_mid (P := Try.prog) w g o 34 M.cs.toList _ h Try.underlying34 rfl (by rw [M.cs_len]; kernel_rfl)
  rw [show M.cs.toList.toArray = M.cs by simp] at hl
  unfold execOp
  simp only [ho, hx, Instr.loadAt, Instr.sureAddr, Sem.run_bind, Sem.run_pure, Result.andThen_ok, hl]
theorem loadPt_run {op : Oper} {a : Act} {w : World} {g o : Nat} {P : Pt Msg} (h : w.rangeAt g o (ptL P)) (x : Operand) (ho : op.op = .load 36 x) (hx : a.eval x = .pointer (some ⟨g, o, none⟩)) : (execOp a.eval op).run Try.prog w = .ok (.value (.agg (ptL P).toArray)) w := by
  have hl := run_loadVar_mid (P := Try.prog) w g o 36 (ptL P) _ h Try.underlying36 rfl (by rw [ptL_len]; kernel_rfl)
  unfold execOp
  simp only [ho, hx, Instr.loadAt, Instr.sureAddr, Sem.run_bind, Sem.run_pure, Result.andThen_ok, hl]
section
variable {w : World} {g off n cap i : Nat} {l : List (Pt Msg)} {p : Pt Msg}
theorem row_pt (h : RowAt w 36 45 (.slice (some ⟨g, off, none⟩) n cap) n (flatL ptL l)) (hi : l[i]? = some p) : w.rangeAt g (off + i * 45) (ptL p) := fun j u hu => by
  have hj : j < 45 := by have := (List.getElem?_eq_some_iff.1 hu).1; rw [ptL_len] at this; exact this
  rw [Nat.add_assoc]
  exact h.cell rfl (by rw [flatL_get ptL_len hi hj]; exact hu)
theorem row_ptM (h : RowAt w 36 45 (.slice (some ⟨g, off, none⟩) n cap) n (flatL ptL l)) (hi : l[i]? = some p) : w.rangeAt g (off + i * 45 + 3) (ptM p).cs.toList := fun j u hu => by
  have := row_pt h hi (3 + j) u (by show ([Value.int .i64 (p.fr : Int), .int .i64 (p.to : Int), .bool p.lost] ++ (ptM p).cs.toList)[3 + j]? = _; rw [List.getElem?_append_right (by simp)]; simpa using hu)
  rw [← Nat.add_assoc] at this
  exact this
theorem row_fr (h : RowAt w 36 45 (.slice (some ⟨g, off, none⟩) n cap) n (flatL ptL l)) (hi : l[i]? = some p) : w.cell? ⟨g, off + i * 45, none⟩ = some (.int .i64 (p.fr : Int)) := row_pt h hi 0 _ rfl
theorem row_to (h : RowAt w 36 45 (.slice (some ⟨g, off, none⟩) n cap) n (flatL ptL l)) (hi : l[i]? = some p) : w.cell? ⟨g, off + i * 45 + 1, none⟩ = some (.int .i64 (p.to : Int)) := row_pt h hi 1 _ rfl
theorem row_lost (h : RowAt w 36 45 (.slice (some ⟨g, off, none⟩) n cap) n (flatL ptL l)) (hi : l[i]? = some p) : w.cell? ⟨g, off + i * 45 + 2, none⟩ = some (.bool p.lost) := row_pt h hi 2 _ rfl
end
theorem ixP_run {op : Oper} {a : Act} {g o n c i : Nat} (x y : Operand) (ho : op.op = .indexAddr 29 x y) (hx : a.eval x = .slice (some ⟨g, o, none⟩) n c) (hy : a.eval y = .int .i64 (i : Int)) (hi : i < n) (w : World) : (execOp a.eval op).run Try.prog w = .ok (.value (.pointer (some ⟨g, o + i * 45, none⟩))) w := by
  have h1 : (i : Int) < (n : Int) := by omega
  have h2 : ¬ (n : Int) ≤ (i : Int) := by omega
  unfold execOp
  simp only [ho, hx, hy]
  go_simp
theorem ixM_run {op : Oper} {a : Act} {g o n c i : Nat} (x y : Operand) (ho : op.op = .indexAddr 25 x y) (hx : a.eval x = .slice (some ⟨g, o, none⟩) n c) (hy : a.eval y = .int .i64 (i : Int)) (hi : i < n) (w : World) : (execOp a.eval op).run Try.prog w = .ok (.value (.pointer (some ⟨g, o + i * 42, none⟩))) w := by
  have h1 : (i : Int) < (n : Int) := by omega
  have h2 : ¬ (n : Int) ≤ (i : Int) := by omega
  unfold execOp
  simp only [ho, hx, hy]
  go_simp
theorem ldI_run {op : Oper} {a : Act} {w : World} {g o : Nat} {z : Int} (h : w.cell? ⟨g, o, none⟩ = some (.int .i64 z)) (x : Operand) (ho : op.op = .load 3 x) (hx : a.eval x = .pointer (some ⟨g, o, none⟩)) : (execOp a.eval op).run Try.prog w = .ok (.value (.int .i64 z)) w := by
  unfold execOp
  simp only [ho, hx]
  go_simp
theorem ldB_run {op : Oper} {a : Act} {w : World} {g o : Nat} {z : Bool} (h : w.cell? ⟨g, o, none⟩ = some (.bool z)) (x : Operand) (ho : op.op = .load 4 x) (hx : a.eval x = .pointer (some ⟨g, o, none⟩)) : (execOp a.eval op).run Try.prog w = .ok (.value (.bool z)) w := by
  unfold execOp
  simp only [ho, hx]
  go_simp
theorem eqB_run {op : Oper} {a : Act} {x y : Bool} (u v : Operand) (ho : op.op = .binOp .eql 4 u v 4) (hx : a.eval u = .bool x) (hy : a.eval v = .bool y) (b : Bool) (hb : (x == y) = b) (w : World) : (execOp a.eval op).run Try.prog w = .ok (.value (.bool b)) w := by
  subst hb
  unfold execOp
  simp only [ho, hx, hy]
  cases x <;> cases y <;> go_simp
theorem neB_run {op : Oper} {a : Act} {x y : Bool} (u v : Operand) (ho : op.op = .binOp .neq 4 u v 4) (hx : a.eval u = .bool x) (hy : a.eval v = .bool y) (b : Bool) (hb : (x != y) = b) (w : World) : (execOp a.eval op).run Try.prog w = .ok (.value (.bool b)) w := by
  subst hb
  unfold execOp
  simp only [ho, hx, hy]
  cases x <;> cases y <;> go_simp
theorem neI_run {op : Oper} {a : Act} {x y : Int} (u v : Operand) (ho : op.op = .binOp .neq 3 u v 3) (hx : a.eval u = .int .i64 x) (hy : a.eval v = .int .i64 y) (b : Bool) (hb : (x != y) = b) (w : World) : (execOp a.eval op).run Try.prog w = .ok (.value (.bool b)) w := by
  subst hb
  unfold execOp
  simp only [ho, hx, hy]
  go_simp
theorem gtI_run {op : Oper} {a : Act} {x y : Int} (u v : Operand) (ho : op.op = .binOp .gtr 3 u v 3) (hx : a.eval u = .int .i64 x) (hy : a.eval v = .int .i64 y) (b : Bool) (hb : decide (y < x) = b) (w : World) : (execOp a.eval op).run Try.prog w = .ok (.value (.bool b)) w := by
  subst hb
  unfold execOp
  simp only [ho, hx, hy]
  go_simp
theorem pred_run {op : Oper} {a : Act} {n : Nat} (u : Operand) (ho : op.op = .binOp .sub 3 u (.const (.int .i64 1)) 3) (hx : a.eval u = .int .i64 ((n : Int) + 1)) (hn : n ≤ 10000000000) (w : World) : (execOp a.eval op).run Try.prog w = .ok (.value (.int .i64 (n : Int))) w := by
  have h1 : (n : Int) + 1 - 1 = (n : Int) := by omega
  have h2 : IntKind.i64.wrap (n : Int) = (n : Int) := by rw [IntKind.wrap_i64]; omega
  unfold execOp
  simp only [ho, hx]
  go_simp
/-- A message that was put is not the empty one. -/
theorem cs_ne_zero {M : Msg} (h : M.z 3 ≠ 0) : M.cs ≠ zeroM.cs := fun e => by
  have := congrArg (·[3]?) e
  simp only [M.cs_get 3 (by decide), zeroM.cs_get 3 (by decide), Option.some.injEq] at this
  have h2 : Value.int .i64 (M.z 3) = .int .i64 0 := this
  injection h2 with _ h2
  exact h h2
/-- What the parts of a store are. -/
theorem prt_m {keep : Nat} {ev : List (Option Msg)} (h : EvM ev) {a b : Nat} (ha : 1 ≤ a) (hb : b ≤ ev.length) {i : Nat} {p : Pt Msg} (hp : (prt keep ev a b)[i]? = some p) : (ptM p).cs = zeroM.cs ↔ p.m = none := by
  have hT := gr_til (c := cd keep ev) (g := mm keep ev) a (b + 1 - a)
  have ho := hT.ord i p hp
  have hk := (hT.kind i p hp).2.2.1
  have hI := ev_inv keep h.ok
  constructor
  · intro e
    cases hm : p.m with
    | none => rfl
    | some M =>
      exfalso
      rw [hm] at hk
      have hc : cd keep ev p.fr = 1 := Decidable.byContradiction fun hn => by rw [hI.gnone _ hn] at hk; cases hk
      obtain ⟨j, M', h1, h2⟩ := hI.kall p.fr (by omega) (by omega) hc
      have h3 := hI.kin j M' h1
      rw [h2, ← hk] at h3
      have h4 := h3.2.2.2
      injection h4 with h4
      subst h4
      refine cs_ne_zero ?_ (show M.cs = zeroM.cs by have : ptM p = M := by unfold ptM; rw [hm]; rfl
                                                    rw [this] at e; exact e)
      rw [h.seq (List.mem_of_mem_drop (List.mem_of_getElem? h1))]
      omega
  · intro e
    unfold ptM
    rw [e]; rfl
end Go.Proofs.Ytekkckfoikpljaa
