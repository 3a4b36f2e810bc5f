/-
  auction: points.
-/
import Derived.Test.YtbhddfcdnpidkaaV20
namespace Go.Proofs.Ytbhddfcdnpidkaa
set_option linter.unusedVariables false
set_option linter.unusedSimpArgs false
open Go.RowKit Go.Great

theorem wpList_wanted {P : Program} {ops : Array Oper} {rest : List Oper} {o : Oper} {a : Act} {w : World} {Q : Exit → Act → World → Prop} (hw : Region.wanted o (yielded ops a.tmps) = true)
    (h : ∀ K : Act → World → Prop, (∀ a w, wpList P ops Q rest a w → K a w) → o.wp P a w K Q) : wpList P ops Q (o :: rest) a w :=
  wpList_step fun K hK => by rw [if_pos hw]; exact h K hK
theorem wpList_runToG {P : Program} {ops : Array Oper} {rest : List Oper} {o : Oper} {a : Act} {w : World} {Q : Exit → Act → World → Prop} (hw : Region.wanted o (yielded ops a.tmps) = true) (dst : Option Tmp) (hdst : o.dst = dst)
    (v : Value) (w' : World) (hrun : (execOp a.eval o).run P w = .ok (.value v) w')
    (h : wpList P ops Q rest (a.put dst v) w') : wpList P ops Q (o :: rest) a w := by
  subst hdst
  refine wpList_wanted hw fun K hK => ?_
  unfold Oper.wp
  rw [hrun, Oper.upon_value]
  exact hK _ _ h
theorem wpList_skipG {P : Program} {ops : Array Oper} {rest : List Oper} {o : Oper} {a : Act} {w : World} {Q : Exit → Act → World → Prop} (hw : Region.wanted o (yielded ops a.tmps) = false)
    (h : wpList P ops Q rest (a.put o.dst undef) w) : wpList P ops Q (o :: rest) a w :=
  wpList_step fun K hK => by rw [if_neg (by rw [hw]; exact Bool.false_ne_true)]; exact hK _ _ h
theorem wpList_callG {P : Program} {ops : Array Oper} {rest : List Oper} {op : Oper} {a : Act} {w : World} {Q : Exit → Act → World → Prop} (hw : Region.wanted op (yielded ops a.tmps) = true) (d : Option Tmp) (hd : op.dst = d)
    (f : FuncId) (args : Array Value) (hrun : (execOp a.eval op).run P w = .ok (.enter f args) w) {R : Ending → World → Prop} (hc : Calls P f args w R)
    (h : ∀ e w', R e w' → ∃ v, e = .returned v ∧ wpList P ops Q rest (a.put d v) w') : wpList P ops Q (op :: rest) a w := by
  subst hd
  refine wpList_wanted hw fun K hK => ?_
  unfold Oper.wp
  rw [hrun, Oper.upon_enter]
  refine hc.mono fun e w'' hh => ?_
  obtain ⟨v, rfl, hw⟩ := h _ _ hh
  exact hK _ _ hw

theorem sizeWs (w : World) : (Go.sizeOf (Try.prog.elem 58)).run Try.prog w = .ok 4 w := by kernel_rfl
theorem undWs : Try.prog.underlying 58 = some (.slice (Try.prog.elem 58)) := by kernel_rfl
theorem cutW_run {op : Oper} {a : Act} {lg lo n cap k : Nat} (x y : Operand) (ho : op.op = .slice 58 x none (some y) none) (hx : a.eval x = .slice (some ⟨lg, lo, none⟩) n cap) (hy : a.eval y = .int .i64 (k : Int)) (hk : k ≤ cap) (w : World) : (execOp a.eval op).run Try.prog w = .ok (.value (.slice (some ⟨lg, lo, none⟩) k cap)) w := by
  have h1 : (Instr.sliceAt 58 (.slice (some ⟨lg, lo, none⟩) n cap) none (some (.int .i64 (k : Int))) none).run Try.prog w = .ok (.slice (some ⟨lg, lo, none⟩) k cap) w := by
    rw [run_sliceAt_slice _ _ _ _ _ _ undWs, run_slice_h _ _ _ _ _ undWs .i64 (k : Int) (by omega) (by omega), sizeWs]
    simp [Result.andThen, sliced, Addr.add]
  unfold execOp
  simp only [ho, hx, hy, Option.map, Sem.run_bind, h1, Result.andThen_ok, Sem.run_pure]
theorem fromW_run {op : Oper} {a : Act} {lg lo n cap : Nat} (x : Operand) (ho : op.op = .slice 58 x (some (.const (.int .i64 1))) none none) (hx : a.eval x = .slice (some ⟨lg, lo, none⟩) n cap) (hk : 1 ≤ n) (w : World) : (execOp a.eval op).run Try.prog w = .ok (.value (.slice (if cap = 1 then some ⟨lg, lo, none⟩ else some ⟨lg, lo + 4, none⟩) (n - 1) (cap - 1))) w := by
  have h1 : (Instr.sliceAt 58 (.slice (some ⟨lg, lo, none⟩) n cap) (some (.int .i64 1)) none none).run Try.prog w = .ok (.slice (if cap = 1 then some ⟨lg, lo, none⟩ else some ⟨lg, lo + 4, none⟩) (n - 1) (cap - 1)) w := by
    rw [run_sliceAt_slice _ _ _ _ _ _ undWs, run_slice_l _ _ _ _ _ undWs .i64 1 (by omega) (by omega), sizeWs]
    simp only [Result.andThen, sliced]
    rfl
  have e : a.eval (.const (.int .i64 1)) = .int .i64 1 := rfl
  unfold execOp
  simp only [ho, hx, e, Option.map, Sem.run_bind, h1, Result.andThen_ok, Sem.run_pure]
theorem rowW_from {w : World} {n g off cap : Nat} {l : List Wn} (h : RowAt w 69 4 (.slice (some ⟨g, off, none⟩) n cap) n (flatL wL l)) (hn : 1 ≤ n) : RowAt w 69 4 (.slice (if cap = 1 then some ⟨g, off, none⟩ else some ⟨g, off + 4, none⟩) (n - 1) (cap - 1)) (n - 1) (flatL wL (l.drop 1)) := by
  have hd := flatL_drop wL_len 1 l
  by_cases hc : cap = 1
  · rw [if_pos hc]
    have hlen := h.1
    rcases h.2 with ⟨h0, _⟩ | ⟨g', off', cap', cur, e2, e3, e4, e5, e6, e7⟩
    · cases h0
    injection e2 with e2 _ e8
    injection e2 with e2
    injection e2 with e2 e9 _
    subst e2 e8 e9
    have hn1 : n = 1 := by omega
    subst hn1
    have hl : l.length = 1 := by
      have := flatL_len wL_len l
      omega
    have hl2 : l.drop 1 = [] := List.drop_eq_nil_of_le (by omega)
    rw [hl2]
    exact ⟨rfl, .inr ⟨g, off, cap - 1, cur, rfl, e3, by omega, by omega, by omega, by simp [flatL]⟩⟩
  · rw [if_neg hc]
    have := h.drop rfl (i := 1) hn
    rwa [hd] at this
theorem subW_run {op : Oper} {a : Act} {p q : Int} (x y : Operand) (ho : op.op = .binOp .sub 2 x y 2) (hx : a.eval x = .int .i64 p) (hy : a.eval y = .int .i64 q) (h : -9223372036854775808 ≤ p - q ∧ p - q ≤ 9223372036854775807) (w : World) : (execOp a.eval op).run Try.prog w = .ok (.value (.int .i64 (p - q))) w := subP_run x y ho hx hy h w
theorem addW_run {op : Oper} {a : Act} {p q : Int} (x y : Operand) (ho : op.op = .binOp .add 2 x y 2) (hx : a.eval x = .int .i64 p) (hy : a.eval y = .int .i64 q) (h : -9223372036854775808 ≤ p + q ∧ p + q ≤ 9223372036854775807) (w : World) : (execOp a.eval op).run Try.prog w = .ok (.value (.int .i64 (p + q))) w := by
  unfold execOp
  simp only [ho, hx, hy]
  go_simp
  try (rw [IntKind.wrap_i64]; omega)
theorem buildPt_run {op : Oper} {a : Act} {p q r : Int} (x y z : Operand) (ho : op.op = .build 61 #[(0, x), (1, y), (2, z)]) (hx : a.eval x = .int .i64 p) (hy : a.eval y = .int .i64 q) (hz : a.eval z = .int .i64 r) (w : World) : (execOp a.eval op).run Try.prog w = .ok (.value (.agg #[.int .i64 p, .int .i64 q, .int .i64 r])) w := by
  unfold execOp
  simp only [ho, List.map_toArray, List.map_cons, List.map_nil, hx, hy, hz]
  kernel_rfl
theorem ixI_run {op : Oper} {a : Act} {g o n c i : Nat} (x y : Operand) (ho : op.op = .indexAddr 73 x y) (hx : a.eval x = .slice (some ⟨g, o, none⟩) n c) (hy : a.eval y = .int .i64 (i : Int)) (hi : i < n) (w : World) : (execOp a.eval op).run Try.prog w = .ok (.value (.pointer (some ⟨g, o + i, none⟩))) w := by
  have h1 : (i : Int) < (n : Int) := by omega
  have h2 : ¬ (n : Int) ≤ (i : Int) := by omega
  unfold execOp
  simp only [ho, hx, hy]
  go_simp
theorem pick_run {op : Oper} {a : Act} {c : Bool} (x y : Operand) (ho : op.op = .pick x y (.const (.bool false))) (hx : a.eval x = .bool true) (hy : a.eval y = .bool c) (w : World) : (execOp a.eval op).run Try.prog w = .ok (.value (.bool c)) w := by
  have e : a.eval (.const (.bool false)) = .bool false := rfl
  unfold execOp
  simp only [ho, hx, hy, e]
  go_simp
theorem totW_bd {l : List Wn} (h : ∀ v ∈ l, 0 ≤ v.q ∧ v.q ≤ 1000000) (k : Nat) (hl : l.length ≤ 4398046511104) : 0 ≤ totW (l.take k) ∧ totW (l.take k) ≤ 4398046511104000000 := by
  have := sumW_le (f := fun _ => true) (l := l.take k) fun v hv => h v (List.mem_of_mem_take hv)
  unfold totW
  rw [List.length_take] at this
  omega
end Go.Proofs.Ytbhddfcdnpidkaa
