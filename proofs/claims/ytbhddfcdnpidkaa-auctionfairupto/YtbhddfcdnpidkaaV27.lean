/-
  auction: Fills.
-/
import Derived.Test.YtbhddfcdnpidkaaU9
namespace Go.Proofs.Ytbhddfcdnpidkaa
set_option linter.unusedVariables false
set_option linter.unusedSimpArgs false
open Go.RowKit Go.Great
attribute [local irreducible] wpList

def flL (f : Fl) : List Value := [.int .i64 f.b, .int .i64 f.s, .int .i64 0, .int .i64 f.p, .int .i64 f.q]
theorem infoFl : (Try.prog.info? 39).map (fun i => (i.zero, i.size, i.bytes)) = some (some (.agg #[.int .i64 0, .int .i64 0, .int .i64 0, .int .i64 0, .int .i64 0]), 5, 40) := by kernel_rfl
theorem lt1_run {op : Oper} {a : Act} {p : Int} {r : Bool} (x : Operand) (ho : op.op = .binOp .lss 2 x (.const (.int .i64 1)) 2) (hx : a.eval x = .int .i64 p) (hr : decide (p < 1) = r) (w : World) : (execOp a.eval op).run Try.prog w = .ok (.value (.bool r)) w := by
  have e : a.eval (.const (.int .i64 1)) = .int .i64 1 := rfl
  subst hr
  unfold execOp
  simp only [ho, hx, e]
  go_simp
theorem gt02_run {op : Oper} {a : Act} {p : Int} {r : Bool} (x : Operand) (ho : op.op = .binOp .gtr 2 x (.const (.int .i64 0)) 2) (hx : a.eval x = .int .i64 p) (hr : decide (0 < p) = r) (w : World) : (execOp a.eval op).run Try.prog w = .ok (.value (.bool r)) w := by
  have e : a.eval (.const (.int .i64 0)) = .int .i64 0 := rfl
  subst hr
  unfold execOp
  simp only [ho, hx, e]
  go_simp
theorem pickN_run {op : Oper} {a : Act} {c : Bool} (x y : Operand) (ho : op.op = .pick x (.const (.bool true)) y) (hx : a.eval x = .bool false) (hy : a.eval y = .bool c) (w : World) : (execOp a.eval op).run Try.prog w = .ok (.value (.bool c)) w := by
  have e : a.eval (.const (.bool true)) = .bool true := rfl
  unfold execOp
  simp only [ho, hx, hy, e]
  go_simp
theorem min3_run {op : Oper} {a : Act} {p q r : Int} (x y z : Operand) (ho : op.op = .call { callee := .builtin .min, args := #[x, y, z], argTypes := #[2, 2, 2] }) (hx : a.eval x = .int .i64 p) (hy : a.eval y = .int .i64 q) (hz : a.eval z = .int .i64 r) (w : World) : (execOp a.eval op).run Try.prog w = .ok (.value (.int .i64 (mn2 (mn2 p q) r))) w := by
  have hm : (Builtin.min_ #[2, 2, 2] op.type #[.int .i64 p, .int .i64 q, .int .i64 r]).run Try.prog w = .ok (.int .i64 (if r < (if q < p then q else p) then r else (if q < p then q else p))) w := by simp [Builtin.min_, Builtin.min2]
  have e : (if r < (if q < p then q else p) then r else (if q < p then q else p)) = mn2 (mn2 p q) r := by
    unfold mn2
    by_cases h1 : p ≤ q
    · rw [if_pos h1, if_neg (by omega : ¬ q < p)]
      by_cases h2 : p ≤ r
      · rw [if_pos h2, if_neg (by omega)]
      · rw [if_neg h2, if_pos (by omega)]
    · rw [if_neg h1, if_pos (by omega : q < p)]
      by_cases h2 : q ≤ r
      · rw [if_pos h2, if_neg (by omega)]
      · rw [if_neg h2, if_pos (by omega)]
  rw [e] at hm
  unfold execOp
  simp only [ho, resolve, invoke, builtin, Sem.run_bind, Sem.run_pure, Result.andThen_ok, List.map_toArray, List.map_cons, List.map_nil, hx, hy, hz, hm]
theorem buildFl_run {op : Oper} {a : Act} {b s p q : Int} (x y z u : Operand) (ho : op.op = .build 39 #[(0, x), (1, y), (3, z), (4, u)]) (hx : a.eval x = .int .i64 b) (hy : a.eval y = .int .i64 s) (hz : a.eval z = .int .i64 p) (hu : a.eval u = .int .i64 q) (w : World) : (execOp a.eval op).run Try.prog w = .ok (.value (.agg #[.int .i64 b, .int .i64 s, .int .i64 0, .int .i64 p, .int .i64 q])) w := by
  unfold execOp
  simp only [ho, List.map_toArray, List.map_cons, List.map_nil, hx, hy, hz, hu]
  kernel_rfl
theorem buildFs_run {op : Oper} {a : Act} {b s t p q : Int} (x : Operand) (ho : op.op = .buildSlice 36 1 #[(0, x)]) (hx : a.eval x = .agg #[.int .i64 b, .int .i64 s, .int .i64 t, .int .i64 p, .int .i64 q]) (w : World) : (execOp a.eval op).run Try.prog w = .ok (.value (.slice (some ⟨w.heap.size, 0, none⟩) 1 1)) (w.alloc (.cells #[.int .i64 b, .int .i64 s, .int .i64 t, .int .i64 p, .int .i64 q] 39)) := by
  unfold execOp
  simp only [ho, List.map_toArray, List.map_cons, List.map_nil, hx]
  kernel_rfl
/-- A row of fills, one's own. -/
structure FR (w W : World) (v : Value) (F : List Fl) : Prop where
  row : RowAt W 39 5 v F.length (flatL flL F)
  bel : Below w.heap.size w W
  own : ∀ q, v.ownBlock = some q → w.heap.size ≤ q
/-- Where Fills stands in memory. -/
structure FI (w W : World) (b5 : Nat) (r : Rs) (v7 v8 v9 : Value) (B S : List Wn) (F : List Fl) : Prop where
  bel : Below w.heap.size w W
  k5 : Blk W b5 28 r.cs
  l5 : w.heap.size ≤ b5
  rB : RowAt W 69 4 v7 B.length (flatL wL B)
  rS : RowAt W 69 4 v8 S.length (flatL wL S)
  rF : RowAt W 39 5 v9 F.length (flatL flL F)
  o7 : ∀ q, v7.ownBlock = some q → w.heap.size ≤ q ∧ q ≠ b5
  o8 : ∀ q, v8.ownBlock = some q → w.heap.size ≤ q ∧ q ≠ b5
  o9 : ∀ q, v9.ownBlock = some q → w.heap.size ≤ q ∧ q ≠ b5
  d78 : ∀ q, v7.ownBlock = some q → v8.ownBlock ≠ some q
  d79 : ∀ q, v7.ownBlock = some q → v9.ownBlock ≠ some q
  d89 : ∀ q, v8.ownBlock = some q → v9.ownBlock ≠ some q
theorem FI.below {w W W' : World} {b5 : Nat} {r : Rs} {v7 v8 v9 : Value} {B S : List Wn} {F : List Fl} (h : FI w W b5 r v7 v8 v9 B S F) (hb : Below W.heap.size W W') : FI w W' b5 r v7 v8 v9 B S F :=
  have f := Fr.of_below hb (fun _ => False)
  ⟨below_step h.bel hb, h.k5.below hb h.k5.lt, h.l5, h.rB.fr f fun _ _ => id, h.rS.fr f fun _ _ => id, h.rF.fr f fun _ _ => id, h.o7, h.o8, h.o9, h.d78, h.d79, h.d89⟩
theorem bel_fr {w W W' : World} {g : Nat} (h : Below w.heap.size w W) (f : Fr W W' (fun b => b = g)) (hg : w.heap.size ≤ g) : Below w.heap.size w W' := ⟨f.os.trans h.os, f.tape.trans h.tape, f.output.trans h.output, Nat.le_trans h.size f.size, fun q hq => (f.block q (Nat.lt_of_lt_of_le hq h.size) (fun e => by omega)).trans (h.block q hq)⟩
/-- One row gives what it gives. -/
theorem FI.lessB {w W W' : World} {b5 : Nat} {r : Rs} {v7 v8 v9 v7' : Value} {B S B' : List Wn} {F : List Fl} {g : Nat} (h : FI w W b5 r v7 v8 v9 B S F) (hg : v7.ownBlock = some g) (hr : RowAt W' 69 4 v7' B'.length (flatL wL B')) (f : Fr W W' (fun b => b = g)) (ho : v7'.ownBlock = some g) : FI w W' b5 r v7' v8 v9 B' S F := by
  have e : ∀ q, v7'.ownBlock = some q → v7.ownBlock = some q := fun q hq => by rw [hg, ← hq, ho]
  exact ⟨bel_fr h.bel f (h.o7 g hg).1, (f.block b5 h.k5.lt (fun x => (h.o7 g hg).2 x.symm)).trans h.k5, h.l5, hr, h.rS.fr f (fun q hq x => h.d78 g hg (x ▸ hq)), h.rF.fr f (fun q hq x => h.d79 g hg (x ▸ hq)), fun q hq => h.o7 q (e q hq), h.o8, h.o9, fun q hq => h.d78 q (e q hq), fun q hq => h.d79 q (e q hq), h.d89⟩
theorem FI.lessS {w W W' : World} {b5 : Nat} {r : Rs} {v7 v8 v9 v8' : Value} {B S S' : List Wn} {F : List Fl} {g : Nat} (h : FI w W b5 r v7 v8 v9 B S F) (hg : v8.ownBlock = some g) (hr : RowAt W' 69 4 v8' S'.length (flatL wL S')) (f : Fr W W' (fun b => b = g)) (ho : v8'.ownBlock = some g) : FI w W' b5 r v7 v8' v9 B S' F := by
  have e : ∀ q, v8'.ownBlock = some q → v8.ownBlock = some q := fun q hq => by rw [hg, ← hq, ho]
  exact ⟨bel_fr h.bel f (h.o8 g hg).1, (f.block b5 h.k5.lt (fun x => (h.o8 g hg).2 x.symm)).trans h.k5, h.l5, h.rB.fr f (fun q hq x => h.d78 q hq (by rw [x]; exact hg)), hr, h.rF.fr f (fun q hq x => h.d89 g hg (x ▸ hq)), h.o7, fun q hq => h.o8 q (e q hq), h.o9, fun q hq k => h.d78 q hq (e q k), h.d79, fun q hq => h.d89 q (e q hq)⟩
theorem FI.app {w W W' : World} {b5 : Nat} {r : Rs} {v7 v8 v9 v' : Value} {B S : List Wn} {F : List Fl} {p : Fl} (h : FI w W b5 r v7 v8 v9 B S F) (hrow : RowAt W' 39 5 v' (F.length + 1) (flatL flL F ++ flL p)) (hfr : Fr W W' (fun b => v9.ownBlock = some b)) (hnew : v'.ownBlock = v9.ownBlock ∨ v'.ownBlock = some W.heap.size ∧ ∀ k, k < W.heap.size → W'.heap[k]? = W.heap[k]?) : FI w W' b5 r v7 v8 v' B S (F ++ [p]) := by
  have hnn : ∀ q, v'.ownBlock = some q → v9.ownBlock = some q ∨ q = W.heap.size := fun q hq => by
    rcases hnew with e | ⟨e, _⟩
    · exact .inl (e ▸ hq)
    · rw [e] at hq; injection hq with hq; exact .inr hq.symm
  refine ⟨⟨hfr.os.trans h.bel.os, hfr.tape.trans h.bel.tape, hfr.output.trans h.bel.output, Nat.le_trans h.bel.size hfr.size, fun q hq => (hfr.block q (Nat.lt_of_lt_of_le hq h.bel.size) (fun e => by have := (h.o9 q e).1; omega)).trans (h.bel.block q hq)⟩, (hfr.block b5 h.k5.lt (fun e => (h.o9 b5 e).2 rfl)).trans h.k5, h.l5, h.rB.fr hfr (fun q hq e => h.d79 q hq e), h.rS.fr hfr (fun q hq e => h.d89 q hq e), ?_, h.o7, h.o8, fun q hq => ?_, h.d78, fun q hq e => ?_, fun q hq e => ?_⟩
  · rw [List.length_append, flatL_app, flatL_one]
    exact hrow
  · rcases hnn q hq with e | e
    · exact h.o9 q e
    · have := h.bel.size
      have := h.k5.lt
      omega
  · rcases hnn q e with e | e
    · exact h.d79 q hq e
    · have := (h.rB.lt hq).1
      omega
  · rcases hnn q e with e | e
    · exact h.d89 q hq e
    · have := (h.rS.lt hq).1
      omega
end Go.Proofs.Ytbhddfcdnpidkaa
