/-
  lists: lists of bytes of one's own, and slices of them.
-/
import Derived.Test.YtochdjdkfmdgeaaDoorOwn
import Derived.Test.YtochdjdkfmdgeaaDoorRefSum
import Derived.Test.YtochdjdkfmdgeaaDoorTurned
namespace Go.Proofs.YtochdjdkfmdgeaaDoor
set_option linter.unusedVariables false
open Go.RowKit

/-- A block of slices that the call has made. -/
def OwnS (w : World) (g n : Nat) (v : Nat → Value) : Prop := ∃ arr : Array Value, w.heap[g]? = some (.cells arr 28 (0, 0)) ∧ arr.size = n ∧ ∀ j, j < n → arr[j]? = some (v j)
theorem OwnS.lt {w : World} {g n : Nat} {f : Nat → Value} (h : OwnS w g n f) : g < w.heap.size := by
  obtain ⟨arr, h1, _, _⟩ := h
  rcases Nat.lt_or_ge g w.heap.size with h' | h'
  · exact h'
  · rw [Array.getElem?_eq_none h'] at h1; cases h1
theorem OwnS.cell {w : World} {g n : Nat} {f : Nat → Value} (h : OwnS w g n f) (j : Nat) (hj : j < n) : w.cell? ⟨g, j, none⟩ = some (f j) := by
  obtain ⟨arr, h1, h2, h3⟩ := h
  have h4 := h3 j hj
  simp only [World.cell?, h1]
  simpa using h4
theorem OwnS.froz {w : World} {g n : Nat} {f : Nat → Value} (h : OwnS w g n f) (j : Nat) : w.frozen? ⟨g, j, none⟩ = false := by
  obtain ⟨arr, h1, h2, h3⟩ := h
  simp [World.frozen?, h1]
theorem OwnS.set {w : World} {g n : Nat} {f : Nat → Value} (h : OwnS w g n f) (k : Nat) (v : Value) (hk : k < n) : OwnS (w.setCell ⟨g, k, none⟩ v) g n (fun j => if j = k then v else f j) := by
  obtain ⟨arr, h1, h2, h3⟩ := h
  refine ⟨arr.setIfInBounds k v, ?_, by simp [h2], fun j hj => ?_⟩
  · rw [setCell_eq_setRow w g k arr 28 (0, 0) _ h1]
    exact setRow_heap w g arr _ 28 (0, 0) h1
  · by_cases e : j = k
    · subst e
      simp only [if_true]
      rw [Array.getElem?_setIfInBounds_self_of_lt (by omega)]
    · simp only [e, if_false]
      rw [Array.getElem?_setIfInBounds_ne (Ne.symm e)]; exact h3 j hj
theorem OwnS.keep {w w' : World} {g n : Nat} {f : Nat → Value} (h : OwnS w g n f) (e : w'.heap[g]? = w.heap[g]?) : OwnS w' g n f := by
  obtain ⟨arr, h1, h2, h3⟩ := h
  exact ⟨arr, e.trans h1, h2, h3⟩
theorem OwnS.below {w w' : World} {g n B : Nat} {f : Nat → Value} (h : OwnS w g n f) (hb : Below B w w') (hg : g < B) : OwnS w' g n f := h.keep (hb.block g hg)
theorem OwnS.ext {w : World} {g n : Nat} {f f' : Nat → Value} (h : OwnS w g n f) (e : ∀ j, j < n → f j = f' j) : OwnS w g n f' := by
  obtain ⟨arr, h1, h2, h3⟩ := h
  exact ⟨arr, h1, h2, fun j hj => by rw [← e j hj]; exact h3 j hj⟩
theorem OwnS.made (w : World) (n : Nat) : OwnS (w.alloc (.cells (madeCells #[.slice none 0 0] n) 28)) w.heap.size n (fun _ => .slice none 0 0) :=
  ⟨madeCells #[.slice none 0 0] n, Array.getElem?_push_size, size_madeCells _ _, fun j hj => by simp [madeCells, hj, Nat.mod_one]⟩

theorem info28 : (Tryd.prog.info? 28).map (fun i => (i.zero, i.size, i.bytes)) = some (some (.slice none 0 0), 1, 24) := by kernel_rfl
theorem make_slices (n : Nat) (hn : (n + 8) * 24 ≤ 281474976710656) (W : World) : (Instr.makeSlice 41 (.int .i64 ((n : Int) + 8)) (.int .i64 ((n : Int) + 8))).run Tryd.prog W = .ok (.slice (some ⟨W.heap.size, 0, none⟩) (n + 8) (n + 8)) (W.alloc (.cells (madeCells #[.slice none 0 0] (n + 8)) 28)) := by
  have h := run_make_row' (P := Tryd.prog) 41 28 (.slice none 0 0) 24 Tryd.underlying41 info28 rfl .i64 .i64 (n + 8) (by omega) (by omega) W
  have e : ((n + 8 : Nat) : Int) = (n : Int) + 8 := by omega
  rw [e] at h; exact h

/-- Where lists stands: k lists are laid. -/
structure Laid (W w : World) (n k : Nat) (len : Nat → Nat) (ga gi : Nat) (gb : Nat → Nat) (F : Nat → Nat → Nat) : Prop where
  below : Below W.heap.size W w
  ga_ge : W.heap.size ≤ ga
  gi_ge : W.heap.size ≤ gi
  ne : ga ≠ gi
  all : OwnS w ga (n + 8) (fun i => if i < k then .slice (some ⟨gb i, 0, none⟩) (len i + 8) (len i + 8) else .slice none 0 0)
  in_ : OwnS w gi (n + 8) (fun i => if i < k then .slice (some ⟨gb i, 0, none⟩) (len i) (len i + 8) else .slice none 0 0)
  row : ∀ i, i < k → W.heap.size ≤ gb i ∧ gb i ≠ ga ∧ gb i ≠ gi ∧ OwnA w (gb i) (len i + 8) (F i)
  apart : ∀ i j, i < k → j < k → i ≠ j → gb i ≠ gb j

def lentD (n : Nat) (d : Nat → Nat) : Nat → Nat := fun j => if j < n then d j else 201
theorem Src2.below {w w' : World} {a : Option Addr} {n : Nat} {len : Nat → Nat} {d : Nat → Nat → Nat} (h : Src2 w a n len d) (hb : Below w.heap.size w w') : Src2 w' a n len d := by
  rcases h with h | ⟨b, off, e, h⟩
  · exact .inl h
  · refine .inr ⟨b, off, e, fun i hi => ?_⟩
    obtain ⟨ai, c, h1, h2, h3⟩ := h i hi
    have hlt : b < w.heap.size := by
      rcases Nat.lt_or_ge b w.heap.size with h' | h'
      · exact h'
      · simp [World.cell?, Array.getElem?_eq_none h'] at h1
    exact ⟨ai, c, by rw [hb.cell (p := ⟨b, off + i, none⟩) hlt]; exact h1, h2, h3.below hb⟩
def gbAt (gb : Nat → Nat) (k g : Nat) : Nat → Nat := fun i => if i = k then g else gb i
theorem Laid.step {W wr w2 : World} {n k : Nat} {len : Nat → Nat} {ga gi : Nat} {gb : Nat → Nat} {F : Nat → Nat → Nat} (h : Laid W wr n k len ga gi gb F) (hk : k < n) (hb : Below wr.heap.size wr w2) (ho : OwnA w2 wr.heap.size (len k + 8) (F k)) :
    Laid W ((w2.setCell ⟨ga, k, none⟩ (.slice (some ⟨wr.heap.size, 0, none⟩) (len k + 8) (len k + 8))).setCell ⟨gi, k, none⟩ (.slice (some ⟨wr.heap.size, 0, none⟩) (len k) (len k + 8))).drew n (k + 1) len ga gi (gbAt gb k wr.heap.size) F := by
  have hga := h.all.lt
  have hgi := h.in_.lt
  have hW := h.below.size
  have hne := h.ne
  have ha2 := h.all.below hb hga
  have hi2 := h.in_.below hb hgi
  refine ⟨((h.below.trans (hb.mono hW)).setCell h.ga_ge _ |>.setCell h.gi_ge _).drew, h.ga_ge, h.gi_ge, h.ne, ?_, ?_, ?_, ?_⟩
  · refine (((ha2.set k _ (by omega)).keep (w' := ((w2.setCell ⟨ga, k, none⟩ (.slice (some ⟨wr.heap.size, 0, none⟩) (len k + 8) (len k + 8))).setCell ⟨gi, k, none⟩ (.slice (some ⟨wr.heap.size, 0, none⟩) (len k) (len k + 8))).drew) (Below.heap_setCell _ _ _ _ hne)).ext fun j hj => ?_)
    unfold gbAt
    by_cases e : j = k
    · subst e; simp
    · by_cases e2 : j < k
      · simp [e, e2, show j < k + 1 by omega]
      · simp [e, e2, show ¬ j < k + 1 by omega]
  · refine (((hi2.keep (Below.heap_setCell _ _ _ _ (Ne.symm hne))).set k _ (by omega)).keep (w' := ((w2.setCell ⟨ga, k, none⟩ (.slice (some ⟨wr.heap.size, 0, none⟩) (len k + 8) (len k + 8))).setCell ⟨gi, k, none⟩ (.slice (some ⟨wr.heap.size, 0, none⟩) (len k) (len k + 8))).drew) rfl).ext fun j hj => ?_
    unfold gbAt
    by_cases e : j = k
    · subst e; simp
    · by_cases e2 : j < k
      · simp [e, e2, show j < k + 1 by omega]
      · simp [e, e2, show ¬ j < k + 1 by omega]
  · intro i hi
    unfold gbAt
    by_cases e : i = k
    · subst e
      simp only [if_true]
      exact ⟨hW, by omega, by omega, ho.keep ((Below.heap_setCell _ _ _ _ (by show wr.heap.size ≠ gi; omega)).trans (Below.heap_setCell _ _ _ _ (by show wr.heap.size ≠ ga; omega)))⟩
    · simp only [e, if_false]
      obtain ⟨r1, r2, r3, r4⟩ := h.row i (by omega)
      exact ⟨r1, r2, r3, (r4.below hb r4.lt).keep ((Below.heap_setCell _ _ _ _ r3).trans (Below.heap_setCell _ _ _ _ r2))⟩
  · intro i j hi hj hij
    unfold gbAt
    by_cases e : i = k
    · have h2 := (h.row j (by omega)).2.2.2.lt
      simp only [e, if_true, show ¬ j = k by omega, if_false]
      omega
    · by_cases e2 : j = k
      · have h2 := (h.row i (by omega)).2.2.2.lt
        simp only [e, e2, if_true, if_false]
        omega
      · simp only [e, e2, if_false]
        exact h.apart i j (by omega) (by omega) hij
set_option maxRecDepth 100000 in
set_option maxHeartbeats 400000 in
theorem lists_any (a : Option Addr) (n cap : Nat) (len : Nat → Nat) (d : Nat → Nat → Nat) (w : World) (hn : (n + 8) * 24 ≤ 140737488355328) (hs : Src2 w a n len d) :
    Calls Tryd.prog 23 #[.slice a n cap] w fun e w' => ∃ ga gi gb, e = .returned (.tuple #[.slice (some ⟨ga, 0, none⟩) (n + 8) (n + 8), .slice (some ⟨gi, 0, none⟩) (n + 8) (n + 8)]) ∧ Laid w w' n n len ga gi gb (fun i => lentD (len i) (d i)) := by
  have HS : Hid (Src2 w a n len d) := hs
  clear hs
  have hmk := make_slices n (by omega)
  go_enter Tryd.func23, Tryd.ntmps23
  go_wp2
  go_loopw [6] (fun i wr => ∃ (k : Nat) (gb : Nat → Nat), k ≤ n ∧ i = .int .i64 k ∧ Laid w wr n k len w.heap.size (w.heap.size + 1) gb (fun i => lentD (len i) (d i))) (fun i _ => n - (intOf i).toNat)
  case atStart =>
    have hb1 : Below w.heap.size w (w.alloc (.cells (madeCells #[.slice none 0 0] (n + 8)) 28)) := (Below.refl _ _).alloc (Nat.le_refl _) _
    refine ⟨0, fun _ => 0, Nat.zero_le _, rfl, hb1.alloc (by simp) _, Nat.le_refl _, by omega, by omega, ?_, ?_, fun i hi => by omega, fun i j hi => by omega⟩
    · exact ((OwnS.made w (n + 8)).keep (Below.heap_alloc _ _ _ (by simp))).ext fun j hj => by simp
    · have h := OwnS.made (w.alloc (.cells (madeCells #[.slice none 0 0] (n + 8)) 28)) (n + 8)
      rw [show (w.alloc (.cells (madeCells #[.slice none 0 0] (n + 8)) 28)).heap.size = w.heap.size + 1 by simp] at h
      exact h.ext fun j hj => by simp
  case round =>
    obtain ⟨k, gb, hk, rfl, hl⟩ := hrel
    have HL : Hid (Laid w wr n k len w.heap.size (w.heap.size + 1) gb (fun i => lentD (len i) (d i))) := hl
    clear hl
    by_cases hlt : k < n
    · rcases HS.out.below HL.out.below with h0 | ⟨b, off, ea, hr⟩
      · omega
      · obtain ⟨ai, c, hc, hli, hsi⟩ := hr k hlt
        subst ea
        have hlt' : (k : Int) < (n : Int) := by omega
        have hlt8 : (k : Int) < (n : Int) + 8 := by omega
        have HSi : Hid (Src wr ai (len k) (d k)) := hsi
        have HB : Hid (b < w.heap.size) := by
          rcases HS.out with h0 | ⟨b', off', e', hr'⟩
          · omega
          · obtain ⟨_, _, h1, _⟩ := hr' k hlt
            cases e'
            rcases Nat.lt_or_ge b w.heap.size with h' | h'
            · exact h'
            · simp [World.cell?, Array.getElem?_eq_none h'] at h1
        clear hr hsi
        go_wp2_with (go_at_call 13; fail)
        refine (lent_any ai (len k) c (d k) wr hli HSi.out).mono ?_
        rintro e w2 ⟨rfl, ho2, hb2⟩
        have HN : Hid (Below wr.heap.size wr w2 ∧ OwnA w2 wr.heap.size (len k + 8) (lentD (len k) (d k))) := ⟨hb2, ho2⟩
        clear ho2 hb2
        have hga : Hid (w.heap.size < wr.heap.size ∧ w.heap.size + 1 < wr.heap.size) := ⟨HL.out.all.lt, HL.out.in_.lt⟩
        have ha1 := (HL.out.all.below HN.out.1 hga.out.1).cell k (by omega)
        have ha2 := (HL.out.all.below HN.out.1 hga.out.1).froz k
        simp only [Nat.lt_irrefl, if_false] at ha1
        have H3 : Hid ((w2.setCell ⟨w.heap.size, k, none⟩ (.slice (some ⟨wr.heap.size, 0, none⟩) (len k + 8) (len k + 8))).cell? ⟨w.heap.size, k, none⟩ = some (.slice (some ⟨wr.heap.size, 0, none⟩) (len k + 8) (len k + 8)) ∧ (w2.setCell ⟨w.heap.size, k, none⟩ (.slice (some ⟨wr.heap.size, 0, none⟩) (len k + 8) (len k + 8))).cell? ⟨b, off + k, none⟩ = some (.slice ai (len k) c) ∧ (w2.setCell ⟨w.heap.size, k, none⟩ (.slice (some ⟨wr.heap.size, 0, none⟩) (len k + 8) (len k + 8))).cell? ⟨w.heap.size + 1, k, none⟩ = some (.slice none 0 0) ∧ (w2.setCell ⟨w.heap.size, k, none⟩ (.slice (some ⟨wr.heap.size, 0, none⟩) (len k + 8) (len k + 8))).frozen? ⟨w.heap.size + 1, k, none⟩ = false) := by
          have hset := (HL.out.all.below HN.out.1 hga.out.1).set k (.slice (some ⟨wr.heap.size, 0, none⟩) (len k + 8) (len k + 8)) (by omega)
          have hin := (HL.out.in_.below HN.out.1 hga.out.2).keep (Below.heap_setCell w2 ⟨w.heap.size, k, none⟩ (.slice (some ⟨wr.heap.size, 0, none⟩) (len k + 8) (len k + 8)) (w.heap.size + 1) (by show w.heap.size + 1 ≠ w.heap.size; omega))
          refine ⟨by simpa using hset.cell k (by omega), ?_, by simpa using hin.cell k (by omega), hin.froz k⟩
          have hbb : b < wr.heap.size := Nat.lt_of_lt_of_le HB.out HL.out.below.size
          rw [World.cell?_of_block (w := w2) (Below.heap_setCell _ _ _ _ (by show b ≠ w.heap.size; have := HB.out; omega)), HN.out.1.cell (p := ⟨b, off + k, none⟩) hbb]
          exact hc
        have HE : Hid (∃ w3, w3 = w2.setCell ⟨w.heap.size, k, none⟩ (.slice (some ⟨wr.heap.size, 0, none⟩) (len k + 8) (len k + 8))) := ⟨_, rfl⟩
        clear hc
        go_wp2
        obtain ⟨w3, hw3⟩ := HE.out
        rw [← hw3] at H3 ⊢
        have HW3 : Hid (w3 = w2.setCell ⟨w.heap.size, k, none⟩ (.slice (some ⟨wr.heap.size, 0, none⟩) (len k + 8) (len k + 8))) := hw3
        clear hw3 HE ha1 ha2
        obtain ⟨c1, c2, c3, c4⟩ := H3.out
        clear H3
        go_region
        go_wp2
        refine ⟨⟨k + 1, gbAt gb k wr.heap.size, by omega, by go_num, ?_⟩, by simp [intOf]; omega⟩
        rw [HW3.out]
        exact HL.out.step hlt HN.out.1 HN.out.2
    · obtain rfl : k = n := by omega
      go_wp2
      go_ret2
      exact ⟨_, _, _, rfl, HL.out⟩

theorem sumRows_same {len : Nat → Nat} {d f : Nat → Nat → Nat} : ∀ n, (∀ i, i < n → ∀ j, j < len i → d i j = f i j) → sumRows len d n = sumRows len f n
  | 0, _ => rfl
  | n + 1, h => by
    show sumRow (sumRows len d n) (d n) (len n) = sumRow (sumRows len f n) (f n) (len n)
    rw [sumRows_same n (fun i hi => h i (by omega)), sumRow_same _ _ (h n (by omega))]
/-- The sum over one's own lists. -/
theorem sum_laid {W w : World} {n : Nat} {len : Nat → Nat} {ga gi : Nat} {gb : Nat → Nat} {F : Nat → Nat → Nat} (hn : n ≤ 140737488351232) (hl : ∀ i, i < n → len i ≤ 140737488351232) (h : Laid W w n n len ga gi gb F) :
    Calls Tryd.prog 14 #[.slice (some ⟨gi, 0, none⟩) n (n + 8)] w fun e w' => e = .returned (.int .i64 (sumRows len F n : Int)) ∧ w' = w :=
  Sum_any gi 0 n (n + 8) len F w (Nat.le_trans hn (by decide)) ⟨fun i hi => by
    obtain ⟨_, _, _, h4⟩ := h.row i hi
    have hc := h.in_.cell i (by omega)
    simp only [hi, if_true] at hc
    exact ⟨_, _, by rw [Nat.zero_add]; exact hc, Nat.le_trans (hl i hi) (by decide), .inr ⟨gb i, 0, rfl, h4.row (by omega)⟩⟩⟩
set_option maxRecDepth 100000 in
set_option maxHeartbeats 400000 in
theorem Sum_none (w : World) : Calls Tryd.prog 14 #[.slice none 0 0] w fun e w' => e = .returned (.int .i64 0) ∧ w' = w := by
  go_enter Tryd.func14, Tryd.ntmps14
  go_wp2
  refine wp_loop_rounds 1 ?_
  rw [rounds_succ]
  go_wp2
  go_ret
  exact ⟨rfl, rfl⟩
end Go.Proofs.YtochdjdkfmdgeaaDoor
