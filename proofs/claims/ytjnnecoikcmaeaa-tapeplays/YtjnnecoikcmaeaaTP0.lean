/-
  tape: commands as parts (plain), and where they lie.
-/
import Derived.Test.YtjnnecoikcmaeaaVar2
import Derived.Test.YtjnnecoikcmaeaaBytes2
import Derived.Test.YtjnnecoikcmaeaaBytes3
import Derived.Test.YtjnnecoikcmaeaaBytes5
import Derived.Test.YtjnnecoikcmaeaaRMem
import Derived.Deep.RegionHeld3
import Derived.Great.Walk
import Derived.Deep.DeepCutAuto
namespace Go.Proofs.Ytjnnecoikcmaeaa
set_option linter.unusedVariables false
set_option linter.unusedSimpArgs false
open Go.RowKit Go.Great

/-- A command: its kind, and its parts: numbers and texts. -/
structure Cm where
  k : Int
  n : Nat → Int
  s : Nat → ByteArray
/-- Which parts are texts; which are written in 64 bits by name. -/
def isT (i : Nat) : Bool := [false, false, true, false, true, true, true, false, false, false, false, false, false, false, false, false, false, false, true, false, false, false, false, false].getD i false
def isL (i : Nat) : Bool := [true, false, false, false, false, false, false, false, false, false, true, true, true, true, true, false, false, true, false, true, true, true, false, false].getD i false
/-- Where a part lies. -/
def cOf (i : Nat) : Nat := [1, 2, 18, 3, 4, 5, 6, 7, 8, 9, 10, 11, 12, 13, 15, 16, 17, 14, 19, 20, 21, 22, 23, 24].getD i 0
def Cm.cs (c : Cm) : Array Value := #[.int .i64 c.k, .int .i64 (c.n 0), .int .i64 (c.n 1), .int .i64 (c.n 3), .string (c.s 4), .string (c.s 5), .string (c.s 6), .int .i64 (c.n 7), .int .i64 (c.n 8), .int .i64 (c.n 9), .int .i64 (c.n 10), .int .i64 (c.n 11), .int .i64 (c.n 12), .int .i64 (c.n 13), .int .i64 (c.n 17), .int .i64 (c.n 14), .int .i64 (c.n 15), .int .i64 (c.n 16), .string (c.s 2), .string (c.s 18), .int .i64 (c.n 19), .int .i64 (c.n 20), .int .i64 (c.n 21), .int .i64 (c.n 22), .int .i64 (c.n 23)]
def Cm.v (c : Cm) (i : Nat) : Value := if isT i then .string (c.s i) else .int .i64 (c.n i)
theorem cases24 {i : Nat} (h : i < 24) : i = 0 ∨ i = 1 ∨ i = 2 ∨ i = 3 ∨ i = 4 ∨ i = 5 ∨ i = 6 ∨ i = 7 ∨ i = 8 ∨ i = 9 ∨ i = 10 ∨ i = 11 ∨ i = 12 ∨ i = 13 ∨ i = 14 ∨ i = 15 ∨ i = 16 ∨ i = 17 ∨ i = 18 ∨ i = 19 ∨ i = 20 ∨ i = 21 ∨ i = 22 ∨ i = 23 := by omega
theorem Cm.at_ (c : Cm) {i : Nat} (h : i < 24) : c.cs[cOf i]? = some (c.v i) := by
  rcases cases24 h with rfl | rfl | rfl | rfl | rfl | rfl | rfl | rfl | rfl | rfl | rfl | rfl | rfl | rfl | rfl | rfl | rfl | rfl | rfl | rfl | rfl | rfl | rfl | rfl <;> rfl
def fTy (i : Nat) : Nat := if isT i then 104 else if isL i then 98 else 101
def fVal (i B : Nat) : Value := .agg #[.pointer (some ⟨B, cOf i, none⟩)]
def fIf (i B : Nat) : Value := .iface (fTy i) (fVal i B)
def fAll (B : Nat) : Array Value := #[.iface 98 (.agg #[.pointer (some ⟨B, 1, none⟩)]), .iface 101 (.agg #[.pointer (some ⟨B, 2, none⟩)]), .iface 104 (.agg #[.pointer (some ⟨B, 18, none⟩)]), .iface 101 (.agg #[.pointer (some ⟨B, 3, none⟩)]), .iface 104 (.agg #[.pointer (some ⟨B, 4, none⟩)]), .iface 104 (.agg #[.pointer (some ⟨B, 5, none⟩)]), .iface 104 (.agg #[.pointer (some ⟨B, 6, none⟩)]), .iface 101 (.agg #[.pointer (some ⟨B, 7, none⟩)]), .iface 101 (.agg #[.pointer (some ⟨B, 8, none⟩)]), .iface 101 (.agg #[.pointer (some ⟨B, 9, none⟩)]), .iface 98 (.agg #[.pointer (some ⟨B, 10, none⟩)]), .iface 98 (.agg #[.pointer (some ⟨B, 11, none⟩)]), .iface 98 (.agg #[.pointer (some ⟨B, 12, none⟩)]), .iface 98 (.agg #[.pointer (some ⟨B, 13, none⟩)]), .iface 98 (.agg #[.pointer (some ⟨B, 15, none⟩)]), .iface 101 (.agg #[.pointer (some ⟨B, 16, none⟩)]), .iface 101 (.agg #[.pointer (some ⟨B, 17, none⟩)]), .iface 98 (.agg #[.pointer (some ⟨B, 14, none⟩)]), .iface 104 (.agg #[.pointer (some ⟨B, 19, none⟩)]), .iface 98 (.agg #[.pointer (some ⟨B, 20, none⟩)]), .iface 98 (.agg #[.pointer (some ⟨B, 21, none⟩)]), .iface 98 (.agg #[.pointer (some ⟨B, 22, none⟩)]), .iface 101 (.agg #[.pointer (some ⟨B, 23, none⟩)]), .iface 101 (.agg #[.pointer (some ⟨B, 24, none⟩)])]
theorem fAll_at (B : Nat) {i : Nat} (h : i < 24) : (fAll B)[i]? = some (fIf i B) := by
  rcases cases24 h with rfl | rfl | rfl | rfl | rfl | rfl | rfl | rfl | rfl | rfl | rfl | rfl | rfl | rfl | rfl | rfl | rfl | rfl | rfl | rfl | rfl | rfl | rfl | rfl <;> rfl
def fMay (i : Nat) : Nat := if isT i then 86 else if isL i then 78 else 82
def fZer (i : Nat) : Nat := if isT i then 85 else if isL i then 77 else 81
def fWri (i : Nat) : Nat := if isT i then 88 else if isL i then 80 else 84
def fRea (i : Nat) : Nat := if isT i then 87 else if isL i then 79 else 83
theorem cfMay (i : Nat) (h : i < 24) (a : Array Value) (w : World) : Sem.run Try.prog (callFunc (fMay i) a) w = .ok (.enter (fMay i) a) w := by
  rcases cases24 h with rfl | rfl | rfl | rfl | rfl | rfl | rfl | rfl | rfl | rfl | rfl | rfl | rfl | rfl | rfl | rfl | rfl | rfl | rfl | rfl | rfl | rfl | rfl | rfl <;> kernel_rfl
theorem mMay (i : Nat) (h : i < 24) (B : Nat) (w : World) : (method 238 (fTy i) (fVal i B) "outcry/tape.mayBe").run Try.prog w = .ok (fMay i, fVal i B) w := by
  rcases cases24 h with rfl | rfl | rfl | rfl | rfl | rfl | rfl | rfl | rfl | rfl | rfl | rfl | rfl | rfl | rfl | rfl | rfl | rfl | rfl | rfl | rfl | rfl | rfl | rfl <;> kernel_rfl
theorem cfZer (i : Nat) (h : i < 24) (a : Array Value) (w : World) : Sem.run Try.prog (callFunc (fZer i) a) w = .ok (.enter (fZer i) a) w := by
  rcases cases24 h with rfl | rfl | rfl | rfl | rfl | rfl | rfl | rfl | rfl | rfl | rfl | rfl | rfl | rfl | rfl | rfl | rfl | rfl | rfl | rfl | rfl | rfl | rfl | rfl <;> kernel_rfl
theorem mZer (i : Nat) (h : i < 24) (B : Nat) (w : World) : (method 238 (fTy i) (fVal i B) "outcry/tape.isZero").run Try.prog w = .ok (fZer i, fVal i B) w := by
  rcases cases24 h with rfl | rfl | rfl | rfl | rfl | rfl | rfl | rfl | rfl | rfl | rfl | rfl | rfl | rfl | rfl | rfl | rfl | rfl | rfl | rfl | rfl | rfl | rfl | rfl <;> kernel_rfl
theorem cfWri (i : Nat) (h : i < 24) (a : Array Value) (w : World) : Sem.run Try.prog (callFunc (fWri i) a) w = .ok (.enter (fWri i) a) w := by
  rcases cases24 h with rfl | rfl | rfl | rfl | rfl | rfl | rfl | rfl | rfl | rfl | rfl | rfl | rfl | rfl | rfl | rfl | rfl | rfl | rfl | rfl | rfl | rfl | rfl | rfl <;> kernel_rfl
theorem mWri (i : Nat) (h : i < 24) (B : Nat) (w : World) : (method 238 (fTy i) (fVal i B) "outcry/tape.write").run Try.prog w = .ok (fWri i, fVal i B) w := by
  rcases cases24 h with rfl | rfl | rfl | rfl | rfl | rfl | rfl | rfl | rfl | rfl | rfl | rfl | rfl | rfl | rfl | rfl | rfl | rfl | rfl | rfl | rfl | rfl | rfl | rfl <;> kernel_rfl
theorem cfRea (i : Nat) (h : i < 24) (a : Array Value) (w : World) : Sem.run Try.prog (callFunc (fRea i) a) w = .ok (.enter (fRea i) a) w := by
  rcases cases24 h with rfl | rfl | rfl | rfl | rfl | rfl | rfl | rfl | rfl | rfl | rfl | rfl | rfl | rfl | rfl | rfl | rfl | rfl | rfl | rfl | rfl | rfl | rfl | rfl <;> kernel_rfl
theorem mRea (i : Nat) (h : i < 24) (B : Nat) (w : World) : (method 238 (fTy i) (fVal i B) "outcry/tape.read").run Try.prog w = .ok (fRea i, fVal i B) w := by
  rcases cases24 h with rfl | rfl | rfl | rfl | rfl | rfl | rfl | rfl | rfl | rfl | rfl | rfl | rfl | rfl | rfl | rfl | rfl | rfl | rfl | rfl | rfl | rfl | rfl | rfl <;> kernel_rfl
/-- A block of one's own. -/
def Blk (w : World) (g : Nat) (T : TypeId) (cs : Array Value) : Prop := w.heap[g]? = some (.cells cs T (0, 0))
section
variable {w w' : World} {g h : Nat} {T : TypeId} {cs : Array Value}
theorem Blk.lt (b : Blk w g T cs) : g < w.heap.size := (Array.getElem?_eq_some_iff.1 b).1
theorem Blk.new (w : World) (T : TypeId) (cs : Array Value) : Blk (w.alloc (.cells cs T)) w.heap.size T cs := heap_alloc_new w _
theorem Blk.alloc (b : Blk w g T cs) (o : Obj) : Blk (w.alloc o) g T cs := (heap_alloc_old w o b.lt).trans b
theorem Blk.below {B : Nat} (b : Blk w g T cs) (hb : Below B w w') (hg : g < B) : Blk w' g T cs := (hb.block g hg).trans b
theorem Blk.fr {ex : Nat → Prop} (b : Blk w g T cs) (hf : Fr w w' ex) (hn : ¬ ex g) : Blk w' g T cs := (hf.block g b.lt hn).trans b
theorem Blk.cell (b : Blk w g T cs) (k : Nat) : w.cell? ⟨g, k, none⟩ = cs[k]? := cell_of_row _ _ _ _ _ _ b
theorem Blk.frozen (b : Blk w g T cs) (k : Nat) : w.frozen? ⟨g, k, none⟩ = false := frozen_of_row w g k _ _ b
theorem Blk.set (b : Blk w g T cs) (k : Nat) (v : Value) : Blk (w.setCell ⟨g, k, none⟩ v) g T (cs.setIfInBounds k v) := by
  unfold Blk
  rw [setCell_eq_setRow w g k cs T (0, 0) v b]
  exact setRow_heap _ _ _ _ _ _ b
end
theorem below_step {a b c : World} (h : Below a.heap.size a b) (k : Below b.heap.size b c) : Below a.heap.size a c := h.trans (k.mono h.size)
end Go.Proofs.Ytjnnecoikcmaeaa
