/-
  listing: pairs of numbers in rows: steps and turns.
-/
import Derived.Test.YtnhkmfofkhhnaaaDoorMsgText
import Derived.Test.YtnhkmfofkhhnaaaDoorAdds
import Derived.Test.YtnhkmfofkhhnaaaDoorLPlain
import Derived.Deep.AppendLies
import Derived.Deep.OwnRows
import Derived.Laws.OwnMore
import Derived.Laws.Cover3
import Derived.Laws.CopyOwn
namespace Go.Proofs.YtnhkmfofkhhnaaaDoor
set_option linter.unusedVariables false
open Go.Shelf Go.RowKit Go.Sort Go.Lib

theorem ownsRow_of_block {w w' : World} {base size n : Nat} {e : TypeId} {v : Value} {xs : List Value} (h : w.ownsRow base e size v n xs) (hk : ∀ g, v.ownBlock = some g → w'.heap[g]? = w.heap[g]?) : w'.ownsRow base e size v n xs := by
  obtain ⟨h1, h2⟩ := h
  refine ⟨h1, ?_⟩
  rcases h2 with h2 | ⟨g, cap, cur, rfl, r1, r2, r3⟩
  · exact .inl h2
  · exact .inr ⟨g, cap, cur, rfl, r1, (hk g rfl).trans r2, r3⟩
theorem ownsRow_mono {w : World} {base base' size n : Nat} {e : TypeId} {v : Value} {xs : List Value} (h : w.ownsRow base e size v n xs) (hb : base' ≤ base) : w.ownsRow base' e size v n xs := by
  obtain ⟨h1, h2⟩ := h
  refine ⟨h1, ?_⟩
  rcases h2 with h2 | ⟨g, cap, cur, rfl, r1, r2, r3⟩
  · exact .inl h2
  · exact .inr ⟨g, cap, cur, rfl, Nat.le_trans hb r1, r2, r3⟩
theorem ownsRow_below {w w' : World} {base size n : Nat} {e : TypeId} {v : Value} {xs : List Value} (h : w.ownsRow base e size v n xs) (hb : Below w.heap.size w w') : w'.ownsRow base e size v n xs :=
  ownsRow_of_block h fun g hg => hb.block g (h.lt g hg).2
theorem info_parts {T : TypeId} {z : Value} {s b : Nat} (h : (Tryd.prog.info? T).map (fun i => (i.zero, i.size, i.bytes)) = some (some z, s, b)) : ∃ i, Tryd.prog.info? T = some i ∧ i.zero = some z ∧ i.size = s ∧ i.bytes = b := by
  cases hq : Tryd.prog.info? T with
  | none => simp [hq] at h
  | some i => simp [hq] at h; exact ⟨i, rfl, h.1, h.2.1, h.2.2⟩
theorem infoS : (Tryd.prog.info? 55).map (fun i => (i.zero, i.size, i.bytes)) = some (some (.agg #[.int .i64 0, .int .i64 0]), 2, 16) := by kernel_rfl
theorem infoT : (Tryd.prog.info? 35).map (fun i => (i.zero, i.size, i.bytes)) = some (some (.agg #[.int .i64 0, .int .i64 0]), 2, 16) := by kernel_rfl
theorem addr_add (b off j : Nat) : (⟨b, off, none⟩ : Addr).add j = ⟨b, off + j, none⟩ := by unfold Addr.add; split <;> simp_all
/-- A block of one's own. -/
def Blk (w : World) (g : Nat) (T : TypeId) (cs : Array Value) : Prop := w.heap[g]? = some (.cells cs T (0, 0))
section
variable {w w' : World} {g h k : Nat} {T : TypeId} {cs : Array Value}
theorem Blk.lt (b : Blk w g T cs) : g < w.heap.size := (Array.getElem?_eq_some_iff.1 b).1
theorem Blk.new (w : World) (T : TypeId) (cs : Array Value) : Blk (w.alloc (.cells cs T)) w.heap.size T cs := heap_alloc_new w _
theorem Blk.new' (w : World) (T : TypeId) (cs : Array Value) (hg : g = w.heap.size) : Blk (w.alloc (.cells cs T)) g T cs := hg ▸ heap_alloc_new w _
theorem Blk.alloc (b : Blk w g T cs) (o : Obj) : Blk (w.alloc o) g T cs := (heap_alloc_old w o b.lt).trans b
theorem Blk.below {B : Nat} (b : Blk w g T cs) (hb : Below B w w') (hg : g < B) : Blk w' g T cs := (hb.block g hg).trans b
theorem Blk.cell (b : Blk w g T cs) (k : Nat) : w.cell? ⟨g, k, none⟩ = cs[k]? := cell_of_row _ _ _ _ _ _ b
theorem Blk.frozen (b : Blk w g T cs) (k : Nat) : w.frozen? ⟨g, k, none⟩ = false := frozen_of_row w g k _ _ b
theorem Blk.set (b : Blk w g T cs) (k : Nat) (v : Value) : Blk (w.setCell ⟨g, k, none⟩ v) g T (cs.setIfInBounds k v) := by
  unfold Blk
  rw [setCell_eq_setRow w g k _ _ _ v b]
  exact setRow_heap _ _ _ _ _ _ b
theorem Blk.other (b : Blk w g T cs) (hne : g ≠ h) (k : Nat) (v : Value) : Blk (w.setCell ⟨h, k, none⟩ v) g T cs := (Below.heap_setCell _ _ _ _ (fun e => hne e)).trans b
theorem below_set {B : Nat} {a : World} (hb : Below B a w) (hB : B ≤ g) (k : Nat) (v : Value) : Below B a (w.setCell ⟨g, k, none⟩ v) :=
  ⟨hb.os, hb.tape, hb.output, by simpa [World.setCell] using hb.size, fun q hq => (Below.heap_setCell _ _ _ _ (fun e => by have : q = g := e; omega)).trans (hb.block q hq)⟩
end
/-- The first and the second of a pair. -/
def fN (l : List (Int × Int)) (j : Nat) : Int := (l.getD j (0, 0)).1
def gN (l : List (Int × Int)) (j : Nat) : Int := (l.getD j (0, 0)).2
/-- All fit into a word. -/
def BdT (l : List (Int × Int)) : Prop := ∀ j, (-9223372036854775808 ≤ fN l j ∧ fN l j ≤ 9223372036854775807) ∧ -9223372036854775808 ≤ gN l j ∧ gN l j ≤ 9223372036854775807
/-- The cells of pairs. -/
def tcs (l : List (Int × Int)) : List Value := l.flatMap fun p => [.int .i64 p.1, .int .i64 p.2]
theorem tcs_app (a b : List (Int × Int)) : tcs (a ++ b) = tcs a ++ tcs b := by simp [tcs]
theorem tcs_length (l : List (Int × Int)) : (tcs l).length = l.length * 2 := by
  induction l with
  | nil => rfl
  | cons f l ih => show (([_, _] : List Value) ++ tcs l).length = _; simp [ih]; omega
theorem tcs_one (l : List (Int × Int)) : ∀ u ∈ tcs l, u.oneCell' = true := by
  intro u hu
  unfold tcs at hu
  simp only [List.mem_flatMap, List.mem_cons, List.not_mem_nil, or_false] at hu
  obtain ⟨f, _, rfl | rfl⟩ := hu <;> rfl
theorem tcs_at : ∀ (l : List (Int × Int)) (j : Nat), j < l.length → (tcs l)[j * 2]? = some (.int .i64 (fN l j)) ∧ (tcs l)[j * 2 + 1]? = some (.int .i64 (gN l j))
  | [], j, h => by simp at h
  | g :: l, 0, _ => ⟨rfl, rfl⟩
  | g :: l, j + 1, h => by
    have := tcs_at l j (by simpa using h)
    show (([_, _] : List Value) ++ tcs l)[(j + 1) * 2]? = _ ∧ (([_, _] : List Value) ++ tcs l)[(j + 1) * 2 + 1]? = _
    rw [show (j + 1) * 2 = j * 2 + 2 by omega]
    simpa [fN, gN] using this
/-- A list of pairs that the call has made. -/
def OwnT (T : TypeId) (w : World) (B : Nat) (v : Value) (l : List (Int × Int)) : Prop := w.ownsRow B T 2 v l.length (tcs l)
theorem OwnT.below {T : TypeId} {w w' : World} {B : Nat} {v : Value} {l : List (Int × Int)} (h : OwnT T w B v l) (hb : Below w.heap.size w w') : OwnT T w' B v l := ownsRow_below h hb
theorem OwnT.mono {T : TypeId} {w : World} {B B' : Nat} {v : Value} {l : List (Int × Int)} (h : OwnT T w B v l) (hb : B' ≤ B) : OwnT T w B' v l := ownsRow_mono h hb
theorem OwnT.nil (T : TypeId) (w : World) (B : Nat) : OwnT T w B (.slice none 0 0) [] := World.ownsRow_nil w B _ 2
/-- Pairs in memory: what may be read. -/
def SrcT (w : World) (v : Value) (l : List (Int × Int)) : Prop := ∃ ao cap, v = .slice ao l.length cap ∧ l.length ≤ cap ∧ (l = [] ∨ ∃ b off, ao = some ⟨b, off, none⟩ ∧ ∀ j, j < l.length → w.cell? ⟨b, off + j * 2, none⟩ = some (.int .i64 (fN l j)) ∧ w.cell? ⟨b, off + j * 2 + 1, none⟩ = some (.int .i64 (gN l j)))
theorem OwnT.src {T : TypeId} {w : World} {B : Nat} {v : Value} {l : List (Int × Int)} (h : OwnT T w B v l) : SrcT w v l := by
  obtain ⟨h1, h2⟩ := h
  rcases h2 with ⟨rfl, h0⟩ | ⟨g, cap, cur, rfl, r1, r2, r3, r4, r5, r6⟩
  · have : l = [] := List.length_eq_zero_iff.1 h0
    subst this
    exact ⟨none, 0, rfl, Nat.le_refl _, .inl rfl⟩
  · refine ⟨_, cap, rfl, r3, .inr ⟨g, 0, rfl, fun j hj => ?_⟩⟩
    obtain ⟨e1, e2⟩ := tcs_at l j hj
    rw [← r6, List.getElem?_take] at e1 e2
    rw [if_pos (by omega)] at e1 e2
    rw [Nat.zero_add]
    constructor
    · rw [cell_of_row w g _ cur _ _ r2]; simpa using e1
    · rw [cell_of_row w g _ cur _ _ r2]; simpa using e2
theorem OwnT.keep {T : TypeId} {w w' : World} {B : Nat} {v : Value} {l : List (Int × Int)} (h : OwnT T w B v l) (hk : ∀ g, B ≤ g → g < w.heap.size → w'.heap[g]? = w.heap[g]?) : OwnT T w' B v l := ownsRow_of_block h fun g hg => hk g (h.lt g hg).1 (h.lt g hg).2
theorem OwnT.set {T : TypeId} {w : World} {B g : Nat} {v : Value} {l : List (Int × Int)} (h : OwnT T w B v l) (hg : g < B) (k : Nat) (u : Value) : OwnT T (w.setCell ⟨g, k, none⟩ u) B v l := h.keep fun q hq _ => Below.heap_setCell _ _ _ _ (fun e => by have : q = g := e; omega)
theorem OwnT.setRow {T : TypeId} {w : World} {B g : Nat} {v : Value} {l : List (Int × Int)} (h : OwnT T w B v l) (hg : g < B) (cs : Array Value) : OwnT T (w.setRow g cs) B v l := h.keep fun q hq _ => setRow_other w g q cs (by omega)
theorem OwnT.form {T : TypeId} {w : World} {B : Nat} {v : Value} {l : List (Int × Int)} (h : OwnT T w B v l) : ∃ ao cap, v = .slice ao l.length cap := by
  obtain ⟨ao, cap, e, _⟩ := h.src
  exact ⟨ao, cap, e⟩
theorem SrcT.below {w w' : World} {v : Value} {l : List (Int × Int)} (h : SrcT w v l) (hb : Below w.heap.size w w') : SrcT w' v l := by
  obtain ⟨ao, cap, rfl, hc, h⟩ := h
  refine ⟨ao, cap, rfl, hc, ?_⟩
  rcases h with h | ⟨b, off, e, h⟩
  · exact .inl h
  · refine .inr ⟨b, off, e, fun j hj => ?_⟩
    obtain ⟨h1, h2⟩ := h j hj
    have hlt : b < w.heap.size := World.block_lt_of_cell? _ _ h1
    exact ⟨by rw [hb.cell (p := ⟨b, _, none⟩) hlt]; exact h1, by rw [hb.cell (p := ⟨b, _, none⟩) hlt]; exact h2⟩
theorem SrcT.at {w : World} {ao : Option Addr} {n cap : Nat} {l : List (Int × Int)} (h : SrcT w (.slice ao n cap) l) (h0 : 0 < n) : n = l.length ∧ n ≤ cap ∧ ∃ b off, ao = some ⟨b, off, none⟩ ∧ ∀ j, j < l.length → w.cell? ⟨b, off + j * 2, none⟩ = some (.int .i64 (fN l j)) ∧ w.cell? ⟨b, off + j * 2 + 1, none⟩ = some (.int .i64 (gN l j)) := by
  obtain ⟨ao', cap', e, hc, h⟩ := h
  injection e with e1 e2 e3
  subst e1 e2 e3
  rcases h with h | h
  · rw [h] at h0; simp at h0
  · exact ⟨rfl, hc, h⟩
end Go.Proofs.YtnhkmfofkhhnaaaDoor
