/-
  Bytes that the law itself makes: lent, still.
-/
import Derived.Test.YtdncemecnbglaaaMem
import Derived.Laws.CopyOwn
import Derived.Laws.CopyRow
import Derived.Deep.OwnRows
import Derived.Deep.QuietTactic
import Derived.BigQuiet
namespace Go.Proofs.Ytdncemecnbglaaa
set_option linter.unusedVariables false
open Go.RowKit

/-- A block of bytes that the call has made. -/
def OwnA (w : World) (g n : Nat) (f : Nat → Nat) : Prop := ∃ arr : Array Value, w.heap[g]? = some (.cells arr 5 (0, 0)) ∧ arr.size = n ∧ ∀ j, j < n → arr[j]? = some (.int .u8 (f j : Int)) ∧ f j < 256
theorem OwnA.lt {w : World} {g n : Nat} {f : Nat → Nat} (h : OwnA w g n f) : g < w.heap.size := by
  obtain ⟨arr, h1, _, _⟩ := h
  rcases Nat.lt_or_ge g w.heap.size with h' | h'
  · exact h'
  · rw [Array.getElem?_eq_none h'] at h1; cases h1
theorem OwnA.cell {w : World} {g n : Nat} {f : Nat → Nat} (h : OwnA w g n f) (j : Nat) (hj : j < n) : w.cell? ⟨g, j, none⟩ = some (.int .u8 (f j : Int)) := by
  obtain ⟨arr, h1, h2, h3⟩ := h
  have h4 := (h3 j hj).1
  simp only [World.cell?, h1]
  simpa using h4
theorem OwnA.val {w : World} {g n : Nat} {f : Nat → Nat} (h : OwnA w g n f) (j : Nat) (hj : j < n) : f j < 256 := by
  obtain ⟨arr, h1, h2, h3⟩ := h
  exact (h3 j hj).2
theorem OwnA.froz {w : World} {g n : Nat} {f : Nat → Nat} (h : OwnA w g n f) (j : Nat) : w.frozen? ⟨g, j, none⟩ = false := by
  obtain ⟨arr, h1, h2, h3⟩ := h
  simp [World.frozen?, h1]
theorem OwnA.row {w : World} {g n m : Nat} {f : Nat → Nat} (h : OwnA w g n f) (hm : m ≤ n) : Row w g 0 m f := fun j hj => by
  refine ⟨?_, ?_⟩
  · rw [Nat.zero_add]; exact h.cell j (by omega)
  · obtain ⟨arr, h1, h2, h3⟩ := h
    exact (h3 j (by omega)).2
theorem OwnA.set {w : World} {g n : Nat} {f : Nat → Nat} (h : OwnA w g n f) (k v : Nat) (hk : k < n) (hv : v < 256) : OwnA (w.setCell ⟨g, k, none⟩ (.int .u8 (v : Int))) g n (fun j => if j = k then v else f j) := by
  obtain ⟨arr, h1, h2, h3⟩ := h
  refine ⟨arr.setIfInBounds k (.int .u8 (v : Int)), ?_, by simp [h2], fun j hj => ?_⟩
  · rw [setCell_eq_setRow w g k arr 5 (0, 0) _ h1]
    exact setRow_heap w g arr _ 5 (0, 0) h1
  · by_cases e : j = k
    · subst e
      simp only [if_true]
      exact ⟨by rw [Array.getElem?_setIfInBounds_self_of_lt (by omega)], hv⟩
    · simp only [e, if_false]
      exact ⟨by rw [Array.getElem?_setIfInBounds_ne (Ne.symm e)]; exact (h3 j hj).1, (h3 j hj).2⟩
theorem OwnA.keep {w w' : World} {g n : Nat} {f : Nat → Nat} (h : OwnA w g n f) (e : w'.heap[g]? = w.heap[g]?) : OwnA w' g n f := by
  obtain ⟨arr, h1, h2, h3⟩ := h
  exact ⟨arr, e.trans h1, h2, h3⟩
theorem OwnA.below {w w' : World} {g n B : Nat} {f : Nat → Nat} (h : OwnA w g n f) (hb : Below B w w') (hg : g < B) : OwnA w' g n f := h.keep (hb.block g hg)
theorem OwnA.ext {w : World} {g n : Nat} {f f' : Nat → Nat} (h : OwnA w g n f) (e : ∀ j, j < n → f j = f' j) : OwnA w g n f' := by
  obtain ⟨arr, h1, h2, h3⟩ := h
  exact ⟨arr, h1, h2, fun j hj => by rw [← e j hj]; exact h3 j hj⟩

/-- Bytes that came in. -/
def Src (w : World) (a : Option Addr) (n : Nat) (d : Nat → Nat) : Prop := n = 0 ∨ ∃ b off, a = some ⟨b, off, none⟩ ∧ Row w b off n d
theorem Src.lt {w : World} {a : Option Addr} {n : Nat} {d : Nat → Nat} (h : Src w a n d) (j : Nat) (hj : j < n) : d j < 256 := by
  rcases h with h | ⟨b, off, _, h⟩
  · omega
  · exact (h j hj).2
theorem Src.below {w w' : World} {a : Option Addr} {n : Nat} {d : Nat → Nat} (h : Src w a n d) (hb : Below w.heap.size w w') : Src w' a n d := by
  rcases h with h | ⟨b, off, e, h⟩
  · exact .inl h
  · refine .inr ⟨b, off, e, fun j hj => ?_⟩
    obtain ⟨h1, h2⟩ := h j hj
    have hlt : b < w.heap.size := by
      rcases Nat.lt_or_ge b w.heap.size with h' | h'
      · exact h'
      · simp [World.cell?, Array.getElem?_eq_none h'] at h1
    exact ⟨by rw [hb.cell (p := ⟨b, off + j, none⟩) hlt]; exact h1, h2⟩

theorem info5 : (Try.prog.info? 5).map (fun i => (i.zero, i.size, i.bytes)) = some (some (.int .u8 0), 1, 1) := by kernel_rfl
theorem size5 : (Try.prog.info? 5).map (·.size) = some 1 := by kernel_rfl
theorem make_bytes (n : Nat) (hn : n + 8 ≤ 281474976710656) (W : World) : (Instr.makeSlice 35 (.int .i64 ((n : Int) + 8)) (.int .i64 ((n : Int) + 8))).run Try.prog W = .ok (.slice (some ⟨W.heap.size, 0, none⟩) (n + 8) (n + 8)) (W.alloc (.cells (madeCells #[.int .u8 0] (n + 8)) 5)) := by
  have h := run_make_row' (P := Try.prog) 35 5 (.int .u8 0) 1 Try.underlying35 info5 rfl .i64 .i64 (n + 8) (by omega) (by omega) W
  have e : ((n + 8 : Nat) : Int) = (n : Int) + 8 := by omega
  rw [e] at h; exact h

theorem OwnA.made (w : World) (n : Nat) : OwnA (w.alloc (.cells (madeCells #[.int .u8 0] n) 5)) w.heap.size n (fun _ => 0) :=
  ⟨madeCells #[.int .u8 0] n, Array.getElem?_push_size, size_madeCells _ _, fun j hj => ⟨by simp [madeCells, hj, Nat.mod_one], show 0 < 256 by decide⟩⟩
/-- The builtin copy over a block of one's own, from its head. -/
theorem copy_bytes (a : Option Addr) (n m cap cap' g : Nat) (d f : Nat → Nat) (W : World) (hs : Src W a n d) (ho : OwnA W g m f) (hn : n ≤ m) (B : Nat) (w0 : World) (hb : Below B w0 W) (hBg : B ≤ g) :
    ∃ W2, (Builtin.copy_ #[35, 35] 3 #[.slice (some ⟨g, 0, none⟩) m cap', .slice a n cap]).run Try.prog W = .ok (.int .i64 (n : Int)) W2 ∧ OwnA W2 g m (fun j => if j < n then d j else f j) ∧ Below B w0 W2 := by
  rcases hs with h0 | ⟨b, off, rfl, hr⟩
  · subst h0
    exact ⟨W, run_copy_none (P := Try.prog) W 35 35 3 5 _ a m cap' 0 cap Try.underlying35 size5 (by simp), ho.ext fun j hj => by simp, hb⟩
  · obtain ⟨arr, h1, h2, h3⟩ := ho
    have hcs : ∀ (j : Nat) (v : Value), ((List.range n).map fun j => Value.int .u8 (d j : Int))[j]? = some v → W.cell? ((⟨b, off, none⟩ : Addr).add j) = some v := fun j v e => by
      rcases Nat.lt_or_ge j n with hj | hj
      · simp only [List.getElem?_map, List.getElem?_range hj, Option.map_some, Option.some.injEq] at e
        subst e
        rw [show (⟨b, off, none⟩ : Addr).add j = ⟨b, off + j, none⟩ by unfold Addr.add; split <;> simp_all]
        exact (hr j hj).1
      · simp [List.getElem?_eq_none (l := List.range n) (by simpa using hj)] at e
    refine ⟨W.setRow g (arr.toList.take 0 ++ ((List.range n).map fun j => Value.int .u8 (d j : Int)) ++ arr.toList.drop (0 + ((List.range n).map fun j => Value.int .u8 (d j : Int)).length)).toArray, ?_, ?_, below_setRow hb hBg _⟩
    · have h := run_copy_row (P := Try.prog) W 35 35 3 5 g 0 m cap' ⟨b, off, none⟩ n cap arr 5 ((List.range n).map fun j => Value.int .u8 (d j : Int)) Try.underlying35 size5 h1 (by rw [List.length_map, List.length_range]; exact (Nat.min_eq_left hn).symm) hcs (by simp; omega) (by simp [Value.oneCell'])
      simpa [goInt] using h
    · refine ⟨_, setRow_heap W g arr _ 5 (0, 0) h1, by simp; omega, fun j hj => ?_⟩
      by_cases e : j < n
      · simp only [e, if_true]
        refine ⟨?_, (hr j e).2⟩
        simp [List.getElem?_append, e]
      · simp only [e, if_false]
        refine ⟨?_, (h3 j hj).2⟩
        have h4 := (h3 j hj).1
        simp [List.getElem?_append, e]
        rw [show n + (j - n) = j by omega]
        exact h4

theorem below_drewN {B : Nat} {a w : World} (h : Below B a w) (n : Nat) : Below B a (w.drewN n) := ⟨h.os, h.tape, h.output, h.size, h.block⟩

end Go.Proofs.Ytdncemecnbglaaa
