/-
  LedgerConserves: the loop over Net: what lies where.
-/
import Derived.Test.YtidhahooebepfaaJCon3
import Derived.WalkLawsBesides
namespace Go.Proofs.Ytidhahooebepfaa
set_option linter.unusedVariables false
set_option linter.unusedSimpArgs false
open Go.RowKit Go.Great Go.Maps

theorem wrap_wrap (s x : Int) : wrap64 (wrap64 s + x) = wrap64 (s + x) := by unfold wrap64; omega
theorem addW_run {op : Oper} {a : Act} {p q r : Int} (x y : Operand) (ho : op.op = .binOp .add 2 x y 2) (hx : a.eval x = .int .i64 p) (hy : a.eval y = .int .i64 q) (hr : wrap64 (p + q) = r) (w : World) : (execOp a.eval op).run Try.prog w = .ok (.value (.int .i64 r)) w := by
  have hw : IntKind.i64.wrap (p + q) = r := by rw [IntKind.wrap_i64]; unfold wrap64 at hr; omega
  unfold execOp
  simp only [ho, hx, hy]
  go_simp
theorem quiet_runTo {P : Program} {ops : Array Oper} {C : World → Prop} {Q : Act → Prop} {a : Act} {o : Oper} {rest : List Oper} (hw : Region.wanted o (yielded ops a.tmps) = true) (dst : Option Tmp) (hdst : o.dst = dst) (v : Value)
    (hrun : ∀ w, C w → (execOp a.eval o).run P w = .ok (.value v) w) (h : wpQuiet P ops C Q rest (a.put dst v)) : wpQuiet P ops C Q (o :: rest) a :=
  BigFrame.wpQuiet_want hw fun K hK => ⟨v, fun w hw => by unfold Oper.quietAt; rw [hrun w hw]; exact ⟨rfl, rfl⟩, by subst hdst; exact hK _ h⟩
theorem ldS_run {op : Oper} {a : Act} {w : World} {g o : Nat} {s : ByteArray} (h : w.cell? ⟨g, o, none⟩ = some (.string s)) (x : Operand) (ho : op.op = .load 9 x) (hx : a.eval x = .pointer (some ⟨g, o, none⟩)) : (execOp a.eval op).run Try.prog w = .ok (.value (.string s)) w := by
  unfold execOp
  simp only [ho, hx]
  go_simp
theorem gtS_run {op : Oper} {a : Act} {s t : ByteArray} {r : Bool} (x y : Operand) (ho : op.op = .binOp .gtr 9 x y 9) (hx : a.eval x = .string s) (hy : a.eval y = .string t) (hr : (!Op.bytesLess s.toList t.toList && !(s.toList == t.toList)) = r) (w : World) : (execOp a.eval op).run Try.prog w = .ok (.value (.bool r)) w := by
  subst hr
  unfold execOp
  simp only [ho, hx, hy]
  go_simp
theorem geS_run {op : Oper} {a : Act} {s t : ByteArray} {r : Bool} (x y : Operand) (ho : op.op = .binOp .geq 9 x y 9) (hx : a.eval x = .string s) (hy : a.eval y = .string t) (hr : (!Op.bytesLess s.toList t.toList) = r) (w : World) : (execOp a.eval op).run Try.prog w = .ok (.value (.bool r)) w := by
  subst hr
  unfold execOp
  simp only [ho, hx, hy]
  go_simp
theorem eqS_run {op : Oper} {a : Act} {s t : ByteArray} {r : Bool} (x y : Operand) (ho : op.op = .binOp .eql 9 x y 9) (hx : a.eval x = .string s) (hy : a.eval y = .string t) (hr : (s.toList == t.toList) = r) (w : World) : (execOp a.eval op).run Try.prog w = .ok (.value (.bool r)) w := by
  subst hr
  unfold execOp
  simp only [ho, hx, hy]
  go_simp
theorem gt0_run {op : Oper} {a : Act} {p : Int} (x y : Operand) (ho : op.op = .binOp .gtr 3 x y 3) (hx : a.eval x = .int .i64 p) (hy : a.eval y = .int .i64 0) (hr : 0 < p) (w : World) : (execOp a.eval op).run Try.prog w = .ok (.value (.bool true)) w := by
  unfold execOp
  simp only [ho, hx, hy]
  go_simp
def sumC (a b c : Int) : Array Value := #[.string ⟨#[]⟩, .string ⟨#[]⟩, .int .i64 a, .int .i64 b, .int .i64 c]
structure NL (w wr : World) (G : Lg) (i : Nat) (net : List Bk) (v : Value) (sb : Nat) (cs : Array Value) : Prop where
  ci : CI w wr G i
  row : RowAt wr 42 5 v net.length (flatL Bk.cl net)
  blk : Blk wr sb 42 cs
  ns : ¬ G.own sb
  nv : v.ownBlock ≠ some sb
  low : w.heap.size ≤ sb
theorem CI.mem {w W W' : World} {G : Lg} {i : Nat} (h : CI w W G i) (ha : LgAt W' G) (hb : Below w.heap.size w W') : CI w W' G i := ⟨⟨ha, hb, h.lv.low⟩, h.bd, h.bl, h.le, h.ks, h.zs⟩
section
variable {w wr wr' : World} {G : Lg} {i : Nat} {net : List Bk} {v : Value} {sb : Nat} {cs : Array Value}
theorem NL.set (h : NL w wr G i net v sb cs) (k : Nat) (u : Value) : NL w (wr.setCell ⟨sb, k, none⟩ u) G i net v sb (cs.setIfInBounds k u) := by
  have hf : Fr wr (wr.setCell ⟨sb, k, none⟩ u) (fun b => b = sb) := Fr.setCell _ _ _ _ rfl
  exact ⟨h.ci.mem (h.ci.lv.at'.fr hf fun b hb e => h.ns (e ▸ hb)) (below_set h.ci.lv.bel h.low _ _), h.row.fr hf fun g hg e => h.nv (e ▸ hg), h.blk.set k u, h.ns, h.nv, h.low⟩
theorem NL.below (h : NL w wr G i net v sb cs) (hb : Below wr.heap.size wr wr') : NL w wr' G i net v sb cs :=
  ⟨h.ci.below hb, h.row.fr (Fr.of_below hb (fun _ => False)) fun _ _ => id, h.blk.below hb h.blk.lt, h.ns, h.nv, h.low⟩
theorem NL.start {W1 : World} (h : CI w wr G i) (hn : NT wr W1 G.T net v) : NL w (W1.alloc (.cells (sumC 0 0 0) 42)) G i net v W1.heap.size (sumC 0 0 0) := by
  have h1 := h.below hn.bel
  have hb : Below W1.heap.size W1 (W1.alloc (.cells (sumC 0 0 0) 42)) := (Below.refl _ W1).alloc (Nat.le_refl _) _
  refine ⟨h1.below hb, hn.row.fr (Fr.of_below hb (fun _ => False)) fun _ _ => id, Blk.new _ _ _, fun ho => ?_, fun e => ?_, h1.lv.bel.size⟩
  · have := h1.lv.at'.lt ho; omega
  · rcases hn.row.2 with ⟨h0, _⟩ | ⟨g', off', cap', cur, e2, e3, _⟩
    · rw [h0] at e; cases e
    · rw [e2] at e
      have e' : some g' = some W1.heap.size := e
      injection e' with e'
      have := (Array.getElem?_eq_some_iff.1 e3).1
      omega
end
end Go.Proofs.Ytidhahooebepfaa
