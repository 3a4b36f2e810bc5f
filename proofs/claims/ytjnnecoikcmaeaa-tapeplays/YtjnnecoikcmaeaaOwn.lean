/-
  Bytes that the law itself makes: lent, still.
-/
import Derived.Test.YtjnnecoikcmaeaaMem
import Derived.Laws.CopyOwn
import Derived.Laws.CopyRow
import Derived.Deep.OwnRows
import Derived.Deep.QuietTactic
import Derived.BigQuiet
namespace Go.Proofs.Ytjnnecoikcmaeaa
set_option linter.unusedVariables false
open Go.RowKit

/-- A block of bytes that the call has made. -/
def OwnA (w : World) (g n : Nat) (f : Nat → Nat) : Prop := ∃ arr : Array Value, w.heap[g]? = some (.cells arr 5 (0, 0)) ∧ arr.size = n ∧ ∀ j, j < n → arr[j]? = some (.int .u8 (f j : Int)) ∧ f j < 256
theorem OwnA.lt {w : World} {g n : Nat} {f : Nat → Nat} (h : OwnA w g n f) : g < w.heap.size := by
  obtain ⟨arr, h1, _, _⟩ := h
  rcases Nat.lt_or_ge g w.heap.size with h' | h'
  · exact h'
  · rw [Array.getElem?_eq_none h'] at h1; cases h1
theorem OwnA.cell {w : World} {g n : Nat} {f : Nat → Nat} (h : OwnA w g n f) (j : Nat) (hj : j < n) : w.cell? ⟨g, j, none⟩ = some (.int .u8 (f j : Int)) := by
  obtain ⟨arr, h1, h2, h3⟩ := h
  have h4 := (h3 j hj).1
  simp only [World.cell?, h1]
  simpa using h4
theorem OwnA.val {w : World} {g n : Nat} {f : Nat → Nat} (h : OwnA w g n f) (j : Nat) (hj : j < n) : f j < 256 := by
  obtain ⟨arr, h1, h2, h3⟩ := h
  exact (h3 j hj).2
theorem OwnA.froz {w : World} {g n : Nat} {f : Nat → Nat} (h : OwnA w g n f) (j : Nat) : w.frozen? ⟨g, j, none⟩ = false := by
  obtain ⟨arr, h1, h2, h3⟩ := h
  simp [World.frozen?, h1]
theorem OwnA.row {w : World} {g n m : Nat} {f : Nat → Nat} (h : OwnA w g n f) (hm : m ≤ n) : Row w g 0 m f := fun j hj => by
  refine ⟨?_, ?_⟩
  · rw [Nat.zero_add]; exact h.cell j (by omega)
  · obtain ⟨arr, h1, h2, h3⟩ := h
    exact (h3 j (by omega)).2
theorem OwnA.set {w : World} {g n : Nat} {f : Nat → Nat} (h : OwnA w g n f) (k v : Nat) (hk : k < n) (hv : v < 256) : OwnA (w.setCell ⟨g, k, none⟩ (.int .u8 (v : Int))) g n (fun j => if j = k then v else f j) := by
  obtain ⟨arr, h1, h2, h3⟩ := h
  refine ⟨arr.setIfInBounds k (.int .u8 (v : Int)), ?_, by simp [h2], fun j hj => ?_⟩
  · rw [setCell_eq_setRow w g k arr 5 (0, 0) _ h1]
    exact setRow_heap w g arr _ 5 (0, 0) h1
  · by_cases e : j = k
    · subst e
      simp only [if_true]
      exact ⟨by rw [Array.getElem?_setIfInBounds_self_of_lt (by omega)], hv⟩
    · simp only [e, if_false]
      exact ⟨by rw [Array.getElem?_setIfInBounds_ne (Ne.symm e)]; exact (h3 j hj).1, (h3 j hj).2⟩
theorem OwnA.keep {w w' : World} {g n : Nat} {f : Nat → Nat} (h : OwnA w g n f) (e : w'.heap[g]? = w.heap[g]?) : OwnA w' g n f := by
  obtain ⟨arr, h1, h2, h3⟩ := h
  exact ⟨arr, e.trans h1, h2, h3⟩
theorem OwnA.below {w w' : World} {g n B : Nat} {f : Nat → Nat} (h : OwnA w g n f) (hb : Below B w w') (hg : g < B) : OwnA w' g n f := h.keep (hb.block g hg)
theorem OwnA.ext {w : World} {g n : Nat} {f f' : Nat → Nat} (h : OwnA w g n f) (e : ∀ j, j < n → f j = f' j) : OwnA w g n f' := by
  obtain ⟨arr, h1, h2, h3⟩ := h
  exact ⟨arr, h1, h2, fun j hj => by rw [← e j hj]; exact h3 j hj⟩

/-- Bytes that came in. -/
def Src (w : World) (a : Option Addr) (n : Nat) (d : Nat → Nat) : Prop := n = 0 ∨ ∃ b off, a = some ⟨b, off, none⟩ ∧ Row w b off n d
theorem Src.lt {w : World} {a : Option Addr} {n : Nat} {d : Nat → Nat} (h : Src w a n d) (j : Nat) (hj : j < n) : d j < 256 := by
  rcases h with h | ⟨b, off, _, h⟩
  · omega
  · exact (h j hj).2
theorem Src.below {w w' : World} {a : Option Addr} {n : Nat} {d : Nat → Nat} (h : Src w a n d) (hb : Below w.heap.size w w') : Src w' a n d := by
  rcases h with h | ⟨b, off, e, h⟩
  · exact .inl h
  · refine .inr ⟨b, off, e, fun j hj => ?_⟩
    obtain ⟨h1, h2⟩ := h j hj
    have hlt : b < w.heap.size := by
      rcases Nat.lt_or_ge b w.heap.size with h' | h'
      · exact h'
      · simp [World.cell?, Array.getElem?_eq_none h'] at h1
    exact ⟨by rw [hb.cell (p := ⟨b, off + j, none⟩) hlt]; exact h1, h2⟩

theorem info5 : (Try.prog.info? 5).map (fun i => (i.zero, i.size, i.bytes)) = some (some (.int .u8 0), 1, 1) := by kernel_rfl
theorem size5 : (Try.prog.info? 5).map (·.size) = some 1 := by kernel_rfl
theorem make_bytes (n : Nat) (hn : n + 8 ≤ 281474976710656) (W : World) : (Instr.makeSlice 28 (.int .i64 ((n : Int) + 8)) (.int .i64 ((n : Int) + 8))).run Try.prog W = .ok (.slice (some ⟨W.heap.size, 0, none⟩) (n + 8) (n + 8)) (W.alloc (.cells (madeCells #[.int .u8 0] (n + 8)) 5)) := by
  have h := run_make_row' (P := Try.prog) 28 5 (.int .u8 0) 1 Try.underlying28 info5 rfl .i64 .i64 (n + 8) (by omega) (by omega) W
  have e : ((n + 8 : Nat) : Int) = (n : Int) + 8 := by omega
  rw [e] at h; exact h

theorem OwnA.made (w : World) (n : Nat) : OwnA (w.alloc (.cells (madeCells #[.int .u8 0] n) 5)) w.heap.size n (fun _ => 0) :=
  ⟨madeCells #[.int .u8 0] n, Array.getElem?_push_size, size_madeCells _ _, fun j hj => ⟨by simp [madeCells, hj, Nat.mod_one], show 0 < 256 by decide⟩⟩
/-- The builtin copy over a block of one's own, from its head. -/
theorem copy_bytes (a : Option Addr) (n m cap cap' g : Nat) (d f : Nat → Nat) (W : World) (hs : Src W a n d) (ho : OwnA W g m f) (hn : n ≤ m) (B : Nat) (w0 : World) (hb : Below B w0 W) (hBg : B ≤ g) :
    ∃ W2, (Builtin.copy_ #[28, 28] 3 #[.slice (some ⟨g, 0, none⟩) m cap', .slice a n cap]).run Try.prog W = .ok (.int .i64 (n : Int)) W2 ∧ OwnA W2 g m (fun j => if j < n then d j else f j) ∧ Below B w0 W2 := by
  rcases hs with h0 | ⟨b, off, rfl, hr⟩
  · subst h0
    exact ⟨W, run_copy_none (P := Try.prog) W 28 28 3 5 _ a m cap' 0 cap Try.underlying28 size5 (by simp), ho.ext fun j hj => by simp, hb⟩
  · obtain ⟨arr, h1, h2, h3⟩ := ho
    have hcs : ∀ (j : Nat) (v : Value), ((List.range n).map fun j => Value.int .u8 (d j : Int))[j]? = some v → W.cell? ((⟨b, off, none⟩ : Addr).add j) = some v := fun j v e => by
      rcases Nat.lt_or_ge j n with hj | hj
      · simp only [List.getElem?_map, List.getElem?_range hj, Option.map_some, Option.some.injEq] at e
        subst e
        rw [show (⟨b, off, none⟩ : Addr).add j = ⟨b, off + j, none⟩ by unfold Addr.add; split <;> simp_all]
        exact (hr j hj).1
      · simp [List.getElem?_eq_none (l := List.range n) (by simpa using hj)] at e
    refine ⟨W.setRow g (arr.toList.take 0 ++ ((List.range n).map fun j => Value.int .u8 (d j : Int)) ++ arr.toList.drop (0 + ((List.range n).map fun j => Value.int .u8 (d j : Int)).length)).toArray, ?_, ?_, below_setRow hb hBg _⟩
    · have h := run_copy_row (P := Try.prog) W 28 28 3 5 g 0 m cap' ⟨b, off, none⟩ n cap arr 5 ((List.range n).map fun j => Value.int .u8 (d j : Int)) Try.underlying28 size5 h1 (by rw [List.length_map, List.length_range]; exact (Nat.min_eq_left hn).symm) hcs (by simp; omega) (by simp [Value.oneCell'])
      simpa [goInt] using h
    · refine ⟨_, setRow_heap W g arr _ 5 (0, 0) h1, by simp; omega, fun j hj => ?_⟩
      by_cases e : j < n
      · simp only [e, if_true]
        refine ⟨?_, (hr j e).2⟩
        simp [List.getElem?_append, e]
      · simp only [e, if_false]
        refine ⟨?_, (h3 j hj).2⟩
        have h4 := (h3 j hj).1
        simp [List.getElem?_append, e]
        rw [show n + (j - n) = j by omega]
        exact h4

set_option maxRecDepth 100000 in
set_option maxHeartbeats 400000 in
theorem lent_any (a : Option Addr) (n cap : Nat) (d : Nat → Nat) (w : World) (hn : n ≤ 140737488351232) (hs : Src w a n d) :
    Calls Try.prog 17 #[.slice a n cap] w fun e w' => e = .returned (.slice (some ⟨w.heap.size, 0, none⟩) n (n + 8)) ∧ OwnA w' w.heap.size (n + 8) (fun j => if j < n then d j else 201) ∧ Below w.heap.size w w' := by
  have hmk := make_bytes n (by omega)
  obtain ⟨W2, hcp, ho, hbl⟩ := copy_bytes a n (n + 8) cap (n + 8) w.heap.size d _ _ (hs.below ((Below.refl _ w).alloc (Nat.le_refl _) _)) (OwnA.made w (n + 8)) (by omega) w.heap.size w ((Below.refl _ w).alloc (Nat.le_refl _) _) (Nat.le_refl _)
  have HO : Hid (OwnA W2 w.heap.size (n + 8) (fun j => if j < n then d j else 0) ∧ Below w.heap.size w W2) := ⟨ho, hbl⟩
  clear hs ho hbl
  go_enter Try.func17, Try.ntmps17
  go_wp2
  go_loopw [4] (fun i w' => ∃ k : Nat, n ≤ k ∧ k ≤ n + 8 ∧ i = .int .i64 k ∧ OwnA w' w.heap.size (n + 8) (fun j => if j < n then d j else if j < k then 201 else 0) ∧ Below w.heap.size w w') (fun i _ => n + 8 - (intOf i).toNat)
  case atStart => exact ⟨n, Nat.le_refl _, by omega, rfl, HO.out.1.ext fun j hj => by by_cases e : j < n <;> simp [e], HO.out.2⟩
  case round =>
    obtain ⟨k, hk1, hk2, rfl, ho, hbl⟩ := hrel
    by_cases hlt : k < n + 8
    · have hlt' : (k : Int) < (n : Int) + 8 := by omega
      have hc := ho.cell k hlt
      have hf := ho.froz k
      have HP : Hid (OwnA wr w.heap.size (n + 8) (fun j => if j < n then d j else if j < k then 201 else 0) ∧ Below w.heap.size w wr) := ⟨ho, hbl⟩
      clear ho hbl
      go_wp2
      refine ⟨⟨k + 1, by omega, by omega, by go_num, (HP.out.1.set k 201 hlt (by decide)).ext fun j hj => ?_, HP.out.2.setCell (Nat.le_refl _) _⟩, by simp [intOf]; omega⟩
      show (if j = k then 201 else if j < n then d j else if j < k then 201 else 0) = if j < n then d j else if j < k + 1 then 201 else 0
      by_cases e : j = k
      · rw [if_pos e, if_neg (by omega), if_pos (by omega)]
      · rw [if_neg e]
        by_cases e2 : j < n
        · rw [if_pos e2, if_pos e2]
        · rw [if_neg e2, if_neg e2]
          by_cases e3 : j < k
          · rw [if_pos e3, if_pos (by omega)]
          · rw [if_neg e3, if_neg (by omega)]
    · have ek : k = n + 8 := by omega
      subst ek
      have HP : Hid (OwnA wr w.heap.size (n + 8) (fun j => if j < n then d j else if j < n + 8 then 201 else 0) ∧ Below w.heap.size w wr) := ⟨ho, hbl⟩
      clear ho hbl
      go_wp2
      go_ret
      refine ⟨rfl, HP.out.1.ext fun j hj => ?_, HP.out.2⟩
      by_cases e : j < n
      · simp [e]
      · simp [e, hj]

theorem below_drewN {B : Nat} {a w : World} (h : Below B a w) (n : Nat) : Below B a (w.drewN n) := ⟨h.os, h.tape, h.output, h.size, h.block⟩

end Go.Proofs.Ytjnnecoikcmaeaa
