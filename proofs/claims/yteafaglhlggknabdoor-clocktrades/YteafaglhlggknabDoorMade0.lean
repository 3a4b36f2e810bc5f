/-
  Blocks of numbers.
-/
import Derived.Test.YteafaglhlggknabDoorRefCal0
import Derived.Laws.CopyRow
import Derived.Laws.CopyOwn
import Derived.Laws.IdiomCopy
import Derived.Laws.OwnMore
import Derived.Deep.AppendLies
namespace Go.Proofs.YteafaglhlggknabDoor
set_option linter.unusedVariables false
open Go.Shelf Go.RowKit Go.Sort Go.Lib Go.Maps

def ivs (m : Nat) (f : Nat → Int) : List Value := (List.range m).map fun j => Value.int .i64 (f j)
theorem ivs_length (m : Nat) (f : Nat → Int) : (ivs m f).length = m := by simp [ivs]
theorem ivs_at {m j : Nat} (f : Nat → Int) (h : j < m) : (ivs m f)[j]? = some (.int .i64 (f j)) := by simp [ivs, h]
theorem ivs_one (m : Nat) (f : Nat → Int) : ∀ v ∈ ivs m f, v.oneCell' = true := fun v hv => by
  unfold ivs at hv
  rw [List.mem_map] at hv
  obtain ⟨j, _, rfl⟩ := hv
  rfl
theorem ivs_congr {m : Nat} {f f' : Nat → Int} (h : ∀ j, j < m → f j = f' j) : ivs m f = ivs m f' := by
  unfold ivs
  apply List.map_congr_left
  intro j hj
  rw [h j (List.mem_range.1 hj)]
theorem ivs_set (m i : Nat) (f : Nat → Int) (v : Int) : (ivs m f).set i (.int .i64 v) = ivs m (fun j => if j = i then v else f j) := by
  apply List.ext_getElem?
  intro j
  rw [List.getElem?_set]
  by_cases hj : j < m
  · rw [ivs_at _ hj, ivs_at _ hj]
    by_cases e : i = j
    · subst e
      rw [if_pos rfl, if_pos (by rw [ivs_length]; exact hj), if_pos rfl]
    · rw [if_neg e, if_neg (fun h => e h.symm)]
  · rw [List.getElem?_eq_none (l := ivs m f) (by rw [ivs_length]; omega), List.getElem?_eq_none (by rw [ivs_length]; omega)]
    split
    · rw [if_neg (by rw [ivs_length]; omega)]
    · rfl
/-- A block of numbers. -/
def BlkI (w : World) (g m : Nat) (f : Nat → Int) : Prop := w.heap[g]? = some (.cells (ivs m f).toArray 3 (0, 0))
theorem BlkI.lt {w : World} {g m : Nat} {f : Nat → Int} (h : BlkI w g m f) : g < w.heap.size := by
  rcases Nat.lt_or_ge g w.heap.size with h' | h'
  · exact h'
  · unfold BlkI at h; rw [Array.getElem?_eq_none h'] at h; cases h
theorem BlkI.below {w w' : World} {g m B : Nat} {f : Nat → Int} (h : BlkI w g m f) (hb : Below B w w') (hg : g < B) : BlkI w' g m f := (hb.block g hg).trans h
theorem BlkI.congr {w : World} {g m : Nat} {f f' : Nat → Int} (h : BlkI w g m f) (he : ∀ j, j < m → f j = f' j) : BlkI w g m f' := by
  unfold BlkI at *; rw [← ivs_congr he]; exact h
theorem BlkI.cell {w : World} {g m : Nat} {f : Nat → Int} (h : BlkI w g m f) (j : Nat) (hj : j < m) : w.cell? ⟨g, j, none⟩ = some (.int .i64 (f j)) ∧ w.frozen? ⟨g, j, none⟩ = false := by
  have h' := h
  unfold BlkI at h'
  exact ⟨by rw [cell_of_row w g _ _ _ _ h]; simpa using ivs_at f hj, by simp [World.frozen?, h']⟩
theorem BlkI.set {w : World} {g m : Nat} {f : Nat → Int} (h : BlkI w g m f) (i : Nat) (v : Int) : BlkI (w.setCell ⟨g, i, none⟩ (.int .i64 v)) g m (fun j => if j = i then v else f j) := by
  unfold BlkI at *
  rw [setCell_eq_setRow w g _ _ 3 (0, 0) _ h, setRow_heap w g _ _ 3 (0, 0) h, ← ivs_set]
  congr 2
  apply Array.ext'
  simp
theorem BlkI.src {w : World} {g m n : Nat} {f : Nat → Int} (h : BlkI w g m f) (hn : n ≤ m) (hf : ∀ j, j < n → -9223372036854775808 ≤ f j ∧ f j ≤ 9223372036854775807) : SrcI w (some ⟨g, 0, none⟩) n f := by
  refine .inr ⟨g, 0, rfl, fun j hj => ⟨?_, hf j hj⟩⟩
  rw [Nat.zero_add]
  exact (h.cell j (by omega)).1
theorem BlkI.made {w : World} {B n g : Nat} (h : w.ownsRow B 3 1 (.slice (some ⟨g, 0, none⟩) n n) n (madeCells #[.int .i64 0] (n * 1)).toList) : BlkI w g n (fun _ => 0) := by
  rcases h.2 with ⟨e, _⟩ | ⟨g', c, cur, e, _, r2, _, _, r5, r6⟩
  · cases e
  · injection e with e1 _ e3
    injection e1 with e1
    injection e1 with e1
    subst e1 e3
    unfold BlkI
    rw [r2]
    have h1 : cur.toList.take (n * 1) = cur.toList := List.take_of_length_le (by simp [r5])
    rw [h1] at r6
    have h2 : ivs n (fun _ => 0) = cur.toList := by
      rw [r6]
      apply List.ext_getElem?
      intro j
      by_cases hj : j < n
      · rw [ivs_at _ hj]; simp [madeCells, hj, Nat.mod_one]
      · rw [List.getElem?_eq_none (by rw [ivs_length]; omega), List.getElem?_eq_none (by simp [size_madeCells]; omega)]
    rw [h2]
theorem size3 : (Tryd.prog.info? 3).map (·.size) = some 1 := by kernel_rfl
theorem info3 : (Tryd.prog.info? 3).map (fun i => (i.zero, i.size, i.bytes)) = some (some (.int .i64 0), 1, 8) := by kernel_rfl
theorem info_parts {T : TypeId} {z : Value} {s b : Nat} (h : (Tryd.prog.info? T).map (fun i => (i.zero, i.size, i.bytes)) = some (some z, s, b)) : ∃ i, Tryd.prog.info? T = some i ∧ i.zero = some z ∧ i.size = s ∧ i.bytes = b := by
  cases hq : Tryd.prog.info? T with
  | none => simp [hq] at h
  | some i => simp [hq] at h; exact ⟨i, rfl, h.1, h.2.1, h.2.2⟩
theorem addr_add (b off j : Nat) : (⟨b, off, none⟩ : Addr).add j = ⟨b, off + j, none⟩ := by unfold Addr.add; split <;> simp_all
theorem copy_ints (a : Option Addr) (n c g m B : Nat) (d : Nat → Int) (W w0 : World) (hs : SrcI W a n d) (ho : BlkI W g m (fun _ => 0)) (hn : n ≤ m) (hb : Below B w0 W) (hBg : B ≤ g) :
    ∃ W2, (Builtin.copy_ #[29, 29] 3 #[.slice (some ⟨g, 0, none⟩) m m, .slice a n c]).run Tryd.prog W = .ok (.int .i64 (n : Int)) W2 ∧ BlkI W2 g m (fun j => if j < n then d j else 0) ∧ Below B w0 W2 := by
  have hmin : Nat.min n m = n := Nat.min_eq_left hn
  by_cases h0 : n = 0
  · subst h0
    have h := run_copy_none (P := Tryd.prog) W 29 29 3 3 (some ⟨g, 0, none⟩) a m m 0 c Tryd.underlying29 size3 hmin
    exact ⟨W, by simpa [goInt] using h, ho.congr (fun j _ => by rw [if_neg (by omega)]), hb⟩
  · rcases hs with h | ⟨b, off, rfl, hr⟩
    · omega
    have hcs : ∀ (j : Nat) (u : Value), (ivs n d)[j]? = some u → W.cell? ((⟨b, off, none⟩ : Addr).add j) = some u := fun j u hj => by
      have hjl : j < n := by have := (List.getElem?_eq_some_iff.1 hj).1; rw [ivs_length] at this; exact this
      rw [ivs_at _ hjl] at hj
      injection hj with hj
      rw [addr_add, ← hj]
      exact (hr j hjl).1
    have h := run_copy_row (P := Tryd.prog) W 29 29 3 3 g 0 m m ⟨b, off, none⟩ n c (ivs m (fun _ => 0)).toArray 3 (ivs n d) Tryd.underlying29 size3 ho (by rw [ivs_length, hmin]) hcs (by simp [ivs_length]; omega) (ivs_one _ _)
    rw [ivs_length] at h
    refine ⟨_, by simpa [goInt] using h, ?_, below_setRow hb hBg _⟩
    unfold BlkI
    rw [setRow_heap W g _ _ 3 (0, 0) ho]
    congr 2
    apply congrArg List.toArray
    apply List.ext_getElem?
    intro j
    by_cases hj : j < m
    · rw [ivs_at _ hj]
      by_cases hjn : j < n
      · rw [List.getElem?_append_left (by simp [ivs_length]; omega)]
        rw [ivs_at _ hjn, if_pos hjn]
      · rw [List.getElem?_append_right (by simp [ivs_length]; omega), if_neg hjn]
        simp [ivs_length]
        rw [show n + (j - n) = j by omega, ivs_at _ hj]
    · rw [List.getElem?_eq_none (by simp [ivs_length]; omega), List.getElem?_eq_none (by rw [ivs_length]; omega)]
end Go.Proofs.YteafaglhlggknabDoor
