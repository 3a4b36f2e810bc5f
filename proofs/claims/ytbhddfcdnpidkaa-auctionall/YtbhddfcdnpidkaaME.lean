import Derived.Test.YtbhddfcdnpidkaaMC
import Derived.Test.YtbhddfcdnpidkaaMD

namespace Go.Proofs.Ytbhddfcdnpidkaa
set_option linter.unusedVariables false
set_option linter.unusedSimpArgs false
open Go.RowKit Go.Great
attribute [local irreducible] wpList

theorem lenO_run {op : Oper} {a : Act} {v : Value} {ao : Option Addr} {n c : Nat} (hv : v = .slice ao n c) (x : Operand) (ho : op.op = .call { callee := .builtin .len, args := #[x], argTypes := #[24] }) (hx : a.eval x = v) (w : World) : (execOp a.eval op).run Try.prog w = .ok (.value (.int .i64 (n : Int))) w := by
  subst hv
  unfold execOp
  simp only [ho, resolve, invoke, builtin, Sem.run_bind, Sem.run_pure, Result.andThen_ok, List.map_toArray, List.map_cons, List.map_nil, hx]
  go_simp
theorem remN_run {op : Oper} {a : Act} {p q r : Int} (x y : Operand) (ho : op.op = .binOp .rem 3 x y 3) (hx : a.eval x = .int .i64 p) (hy : a.eval y = .int .i64 q) (hq : 0 < q) (hr : Int.tmod p q = r) (hb : -9223372036854775808 ≤ r ∧ r ≤ 9223372036854775807) (w : World) : (execOp a.eval op).run Try.prog w = .ok (.value (.int .i64 r)) w := by
  have hn0 : ¬ q = 0 := by omega
  have hn1 : ¬ q = -1 := by omega
  have hnb : (q == 0) = false := by simp [hn0]
  have hnc : (q == -1) = false := by simp [hn1]
  have e3 : IntKind.i64.wrap r = r := by rw [IntKind.wrap_i64]; omega
  unfold execOp
  simp only [ho, hx, hy]
  go_simp
  try simp [hn0, hn1, hnb, hnc, hr, e3]
end Go.Proofs.Ytbhddfcdnpidkaa

namespace Go.Proofs.Ytbhddfcdnpidkaa
set_option linter.unusedVariables false
set_option linter.unusedSimpArgs false
open Go.RowKit Go.Great
attribute [local irreducible] wpList

theorem Ins.len {s p : Int} {C : List Od} {i : Nat} {out : List Od} (h : Ins s p C i out) : out.length ≤ i := by
  obtain ⟨T, e, hp, _⟩ := h.ex
  rw [← e, List.length_map, hp.length_eq]
  exact Nat.le_trans (List.length_filter_le _ _) (by rw [List.length_take]; omega)
theorem Ins.sub {s p : Int} {C : List Od} {i : Nat} {out : List Od} (h : Ins s p C i out) : ∀ o ∈ out, o ∈ C := by
  obtain ⟨T, e, hp, _⟩ := h.ex
  intro o ho
  rw [← e] at ho
  obtain ⟨q, hq, rfl⟩ := List.mem_map.1 ho
  have h1 := (List.mem_filter.1 (hp.mem_iff.1 hq)).1
  have h2 := List.mem_of_mem_take h1
  obtain ⟨k, hk, e2⟩ := List.mem_iff_getElem.1 h2
  rw [List.getElem_zipIdx] at e2
  rw [← e2]
  exact List.getElem_mem _
theorem sizeOs (w : World) : (Go.sizeOf (Try.prog.elem 24)).run Try.prog w = .ok 15 w := by kernel_rfl
theorem undOs : Try.prog.underlying 24 = some (.slice (Try.prog.elem 24)) := by kernel_rfl
theorem cutO_run {op : Oper} {a : Act} {lg lo n cap k : Nat} (x y : Operand) (ho : op.op = .slice 24 x none (some y) none) (hx : a.eval x = .slice (some ⟨lg, lo, none⟩) n cap) (hy : a.eval y = .int .i64 (k : Int)) (hk : k ≤ cap) (w : World) : (execOp a.eval op).run Try.prog w = .ok (.value (.slice (some ⟨lg, lo, none⟩) k cap)) w := by
  have h1 : (Instr.sliceAt 24 (.slice (some ⟨lg, lo, none⟩) n cap) none (some (.int .i64 (k : Int))) none).run Try.prog w = .ok (.slice (some ⟨lg, lo, none⟩) k cap) w := by
    rw [run_sliceAt_slice _ _ _ _ _ _ undOs, run_slice_h _ _ _ _ _ undOs .i64 (k : Int) (by omega) (by omega), sizeOs]
    simp [Result.andThen, sliced, Addr.add]
  unfold execOp
  simp only [ho, hx, hy, Option.map, Sem.run_bind, h1, Result.andThen_ok, Sem.run_pure]
theorem fromO_run {op : Oper} {a : Act} {lg lo n cap k : Nat} (x y : Operand) (ho : op.op = .slice 24 x (some y) none none) (hx : a.eval x = .slice (some ⟨lg, lo, none⟩) n cap) (hy : a.eval y = .int .i64 (k : Int)) (hk : k ≤ n) (hnc : n ≤ cap) (w : World) : ∃ o', (k < cap → o' = lo + k * 15) ∧ (¬ k < cap → o' = lo) ∧ (execOp a.eval op).run Try.prog w = .ok (.value (.slice (some ⟨lg, o', none⟩) (n - k) (cap - k))) w := by
  by_cases hc : k < cap
  · refine ⟨lo + k * 15, fun _ => rfl, fun h => absurd hc h, ?_⟩
    have h1 : (Instr.sliceAt 24 (.slice (some ⟨lg, lo, none⟩) n cap) (some (.int .i64 (k : Int))) none none).run Try.prog w = .ok (.slice (some ⟨lg, lo + k * 15, none⟩) (n - k) (cap - k)) w := by
      rw [run_sliceAt_slice _ _ _ _ _ _ undOs, run_slice_l _ _ _ _ _ undOs .i64 (k : Int) (by omega) (by omega), sizeOs]
      simp only [Result.andThen, sliced]
      have e1 : ¬ cap - k = 0 := by omega
      have e2 : ¬ cap = k := by omega
      by_cases hk0 : k = 0
      · subst hk0; simp [e2, Addr.add]
      · have e3 : ¬ k * 15 = 0 := by omega
        simp [e1, e2, e3, Addr.add]
    unfold execOp
    simp only [ho, hx, hy, Option.map, Sem.run_bind, h1, Result.andThen_ok, Sem.run_pure]
  · refine ⟨lo, fun h => absurd h hc, fun _ => rfl, ?_⟩
    have h1 : (Instr.sliceAt 24 (.slice (some ⟨lg, lo, none⟩) n cap) (some (.int .i64 (k : Int))) none none).run Try.prog w = .ok (.slice (some ⟨lg, lo, none⟩) (n - k) (cap - k)) w := by
      rw [run_sliceAt_slice _ _ _ _ _ _ undOs, run_slice_l _ _ _ _ _ undOs .i64 (k : Int) (by omega) (by omega), sizeOs]
      simp only [Result.andThen, sliced]
      have e1 : cap - k = 0 := by omega
      have e2 : cap = k := by omega
      simp [e1, e2, Addr.add]
    unfold execOp
    simp only [ho, hx, hy, Option.map, Sem.run_bind, h1, Result.andThen_ok, Sem.run_pure]
theorem appNone_run {op : Oper} {a : Act} {ad : Option Addr} {c : Nat} (s x : Operand) (ho : op.op = .call { callee := .builtin .append, args := #[s, x], argTypes := #[24, 24] }) (hs : a.eval s = .slice none 0 0) (hx : a.eval x = .slice ad 0 c) (w : World) : (execOp a.eval op).run Try.prog w = .ok (.value (.slice none 0 0)) w := by
  have h : (Builtin.append_ #[24, 24] op.type #[.slice none 0 0, .slice ad 0 c]).run Try.prog w = .ok (.slice none 0 0) w := by
    cases ad <;> kernel_rfl
  unfold execOp
  simp only [ho, resolve, invoke, builtin, Sem.run_bind, Sem.run_pure, Result.andThen_ok, List.map_toArray, List.map_cons, List.map_nil, hs, hx, h]
theorem cutNone_run {op : Oper} {a : Act} (x y : Operand) (ho : op.op = .slice 24 x none (some y) none) (hx : a.eval x = .slice none 0 0) (hy : a.eval y = .int .i64 0) (w : World) : (execOp a.eval op).run Try.prog w = .ok (.value (.slice none 0 0)) w := by
  have h1 : (Instr.sliceAt 24 (.slice none 0 0) none (some (.int .i64 0)) none).run Try.prog w = .ok (.slice none 0 0) w := by
    rw [run_sliceAt_slice _ _ _ _ _ _ undOs, run_slice_h _ _ _ _ _ undOs .i64 0 (by omega) (by omega), sizeOs]
    simp [Result.andThen, sliced]
  unfold execOp
  simp only [ho, hx, hy, Option.map, Sem.run_bind, h1, Result.andThen_ok, Sem.run_pure]
theorem fromNone_run {op : Oper} {a : Act} (x y : Operand) (ho : op.op = .slice 24 x (some y) none none) (hx : a.eval x = .slice none 0 0) (hy : a.eval y = .int .i64 0) (w : World) : (execOp a.eval op).run Try.prog w = .ok (.value (.slice none 0 0)) w := by
  have h1 : (Instr.sliceAt 24 (.slice none 0 0) (some (.int .i64 0)) none none).run Try.prog w = .ok (.slice none 0 0) w := by
    rw [run_sliceAt_slice _ _ _ _ _ _ undOs, run_slice_l _ _ _ _ _ undOs .i64 0 (by omega) (by omega), sizeOs]
    simp [Result.andThen, sliced]
  unfold execOp
  simp only [ho, hx, hy, Option.map, Sem.run_bind, h1, Result.andThen_ok, Sem.run_pure]
theorem appZero_run {op : Oper} {a : Act} {a1 ad : Option Addr} {n c c1 : Nat} (hnc : n ≤ c1) (s x : Operand) (ho : op.op = .call { callee := .builtin .append, args := #[s, x], argTypes := #[24, 24] }) (hs : a.eval s = .slice a1 n c1) (hx : a.eval x = .slice ad 0 c) (w : World) : (execOp a.eval op).run Try.prog w = .ok (.value (.slice a1 n c1)) w := by
  have h : (Builtin.append_ #[24, 24] op.type #[.slice a1 n c1, .slice ad 0 c]).run Try.prog w = .ok (.slice a1 n c1) w := by
    have l : (Builtin.lenOf (.slice ad 0 c)).run Try.prog w = .ok 0 w := by cases ad <;> rfl
    have f : (Builtin.firstCells 15 0 (.slice ad 0 c)).run Try.prog w = .ok #[] w := by cases ad <;> rfl
    cases a1 <;> simp [Builtin.append_, hnc, l, f, storeCells]
  unfold execOp
  simp only [ho, resolve, invoke, builtin, Sem.run_bind, Sem.run_pure, Result.andThen_ok, List.map_toArray, List.map_cons, List.map_nil, hs, hx, h]
theorem flatO_take : ∀ {l : List Od} {k : Nat}, (∀ o ∈ l, o.cs.toList.length = 15) → flatL (fun o : Od => o.cs.toList) (l.take k) = (flatL (fun o : Od => o.cs.toList) l).take (k * 15)
  | [], k, _ => by simp [flatL]
  | o :: l, 0, _ => by simp [flatL]
  | o :: l, k + 1, h => by
    have ih := flatO_take (l := l) (k := k) fun x hx => h x (List.mem_cons_of_mem _ hx)
    have h1 := h o List.mem_cons_self
    show o.cs.toList ++ flatL _ (l.take k) = (o.cs.toList ++ flatL _ l).take ((k + 1) * 15)
    rw [ih, List.take_append, h1, show (k + 1) * 15 - 15 = k * 15 by omega, show List.take ((k + 1) * 15) o.cs.toList = o.cs.toList from List.take_of_length_le (by omega)]
theorem flatO_drop : ∀ {l : List Od} {k : Nat}, (∀ o ∈ l, o.cs.toList.length = 15) → flatL (fun o : Od => o.cs.toList) (l.drop k) = (flatL (fun o : Od => o.cs.toList) l).drop (k * 15)
  | [], k, _ => by simp [flatL]
  | o :: l, 0, _ => by simp [flatL]
  | o :: l, k + 1, h => by
    have ih := flatO_drop (l := l) (k := k) fun x hx => h x (List.mem_cons_of_mem _ hx)
    have h1 := h o List.mem_cons_self
    show flatL _ (l.drop k) = (o.cs.toList ++ flatL _ l).drop ((k + 1) * 15)
    rw [ih, List.drop_append, h1, show (k + 1) * 15 - 15 = k * 15 by omega, show List.drop ((k + 1) * 15) o.cs.toList = [] from List.drop_eq_nil_of_le (by omega), List.nil_append]
theorem flatO_len {l : List Od} (h : ∀ o ∈ l, o.cs.toList.length = 15) : (flatL (fun o : Od => o.cs.toList) l).length = l.length * 15 := by
  induction l with
  | nil => rfl
  | cons o l ih =>
    show (o.cs.toList ++ flatL _ l).length = _
    rw [List.length_append, ih fun x hx => h x (List.mem_cons_of_mem _ hx), h o List.mem_cons_self, List.length_cons]
    omega
theorem flatO_one {l : List Od} (h : ∀ o ∈ l, o.ok) : ∀ u ∈ flatL (fun o : Od => o.cs.toList) l, u.oneCell' = true := by
  induction l with
  | nil => intro u hu; simp [flatL] at hu
  | cons o l ih =>
    intro u hu
    rcases List.mem_append.1 (show u ∈ o.cs.toList ++ flatL _ l from hu) with hu | hu
    · have := (h o List.mem_cons_self).one
      rw [Array.all_eq_true'] at this
      exact this u (Array.mem_def.2 hu)
    · exact ih (fun x hx => h x (List.mem_cons_of_mem _ hx)) u hu
theorem OO.appL {w W W' : World} {v v' : Value} {D L : List Od} (h : OO w W v D) (hrow : RowAt W' 42 15 v' (D.length + L.length) (flatL (fun o => o.cs.toList) D ++ flatL (fun o => o.cs.toList) L)) (hfr : Fr W W' (fun b => v.ownBlock = some b)) (hnew : v'.ownBlock = v.ownBlock ∨ v'.ownBlock = some W.heap.size ∧ ∀ k, k < W.heap.size → W'.heap[k]? = W.heap[k]?) : OO w W' v' (D ++ L) := by
  refine ⟨?_, ⟨hfr.os.trans h.bel.os, hfr.tape.trans h.bel.tape, hfr.output.trans h.bel.output, Nat.le_trans h.bel.size hfr.size, fun q hq => (hfr.block q (Nat.lt_of_lt_of_le hq h.bel.size) (fun e => by have := h.own q e; omega)).trans (h.bel.block q hq)⟩, fun q hq => ?_⟩
  · rw [List.length_append, flatL_app]
    exact hrow
  · rcases hnew with h1 | ⟨h1, _⟩
    · exact h.own q (h1 ▸ hq)
    · rw [h1] at hq
      injection hq with hq
      have := h.bel.size
      omega
end Go.Proofs.Ytbhddfcdnpidkaa
