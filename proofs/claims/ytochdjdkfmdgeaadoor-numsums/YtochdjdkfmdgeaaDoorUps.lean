/-
  NumSums: the lists that are gathered when their owner has written over them.
-/
import Derived.Test.YtochdjdkfmdgeaaDoorLists
namespace Go.Proofs.YtochdjdkfmdgeaaDoor
set_option linter.unusedVariables false
open Go.RowKit

theorem ownsRow_of_block {w w' : World} {base size n : Nat} {e : TypeId} {v : Value} {xs : List Value} (h : w.ownsRow base e size v n xs) (hk : ∀ g, v.ownBlock = some g → w'.heap[g]? = w.heap[g]?) : w'.ownsRow base e size v n xs := by
  obtain ⟨h1, h2⟩ := h
  refine ⟨h1, ?_⟩
  rcases h2 with h2 | ⟨g, cap, cur, rfl, r1, r2, r3⟩
  · exact .inl h2
  · exact .inr ⟨g, cap, cur, rfl, r1, (hk g rfl).trans r2, r3⟩
theorem ownsRow_mono {w : World} {base base' size n : Nat} {e : TypeId} {v : Value} {xs : List Value} (h : w.ownsRow base e size v n xs) (hb : base' ≤ base) : w.ownsRow base' e size v n xs := by
  obtain ⟨h1, h2⟩ := h
  refine ⟨h1, ?_⟩
  rcases h2 with h2 | ⟨g, cap, cur, rfl, r1, r2, r3⟩
  · exact .inl h2
  · exact .inr ⟨g, cap, cur, rfl, Nat.le_trans hb r1, r2, r3⟩
theorem ownsRow_type {w : World} {base size n : Nat} {e : TypeId} {v : Value} {xs : List Value} (h : w.ownsRow base e size v n xs) (g : Nat) (hg : v.ownBlock = some g) : base ≤ g ∧ g < w.heap.size ∧ ∃ cur, w.heap[g]? = some (.cells cur e (0, 0)) := by
  rcases h.2 with ⟨rfl, _⟩ | ⟨g', cap, cur, rfl, r1, r2, r3⟩
  · cases hg
  · cases hg
    exact ⟨r1, (Array.getElem?_eq_some_iff.1 r2).1, cur, r2⟩
theorem Laid.turn {W w w' : World} {n : Nat} {len : Nat → Nat} {ga gi : Nat} {gb : Nat → Nat} {F : Nat → Nat → Nat} (h : Laid W w n n len ga gi gb F) {k S : Nat} {f : Nat → Nat} (hk : k < n) (hS : W.heap.size ≤ S) (hga : ga < S) (hgi : gi < S) (hgb : ∀ i, i < n → gb i < S)
    (hb : Below W.heap.size w w') (hsame : ∀ b, b < S → b ≠ gb k → w'.heap[b]? = w.heap[b]?) (ho : OwnA w' (gb k) (len k + 8) f) : Laid W w' n n len ga gi gb (fun i => if i = k then f else F i) :=
  ⟨h.below.trans hb, h.ga_ge, h.gi_ge, h.ne, h.all.keep (hsame ga hga (Ne.symm (h.row k hk).2.1)), h.in_.keep (hsame gi hgi (Ne.symm (h.row k hk).2.2.1)),
    fun i hi => by
      obtain ⟨r1, r2, r3, r4⟩ := h.row i hi
      refine ⟨r1, r2, r3, ?_⟩
      by_cases e : i = k
      · subst e; simp only [if_true]; exact ho
      · simp only [e, if_false]
        exact r4.keep (hsame (gb i) (hgb i hi) (h.apart i k hi hk e)), h.apart⟩

/-- Where the gathering stands: k lists are written over and gathered. -/
structure Up (W : World) (S : Nat) (w : World) (n k : Nat) (len : Nat → Nat) (d : Nat → Nat → Nat) (ga gi : Nat) (gb : Nat → Nat) (t : Value) (tv : Nat → Value) : Prop where
  laid : Laid W w n n len ga gi gb (fun i => if i < k then upD (lentD (len i) (d i)) (len i) else lentD (len i) (d i))
  own : w.ownsRow S 28 1 t k ((List.range k).map tv)
  size : S ≤ w.heap.size
  wide : W.heap.size ≤ S
  ga_lt : ga < S
  gi_lt : gi < S
  gb_lt : ∀ i, i < n → gb i < S
  rows : ∀ i, i < k → w.ownsRow S 5 1 (tv i) (len i) (bytesUp (lentD (len i) (d i)) (len i))
def tvAt (tv : Nat → Value) (k : Nat) (v : Value) : Nat → Value := fun i => if i = k then v else tv i
theorem Up.step {W w w2 w4 : World} {S n k : Nat} {len : Nat → Nat} {d : Nat → Nat → Nat} {ga gi : Nat} {gb : Nat → Nat} {t t' v : Value} {tv : Nat → Value} (h : Up W S w n k len d ga gi gb t tv) (hk : k < n)
    (hv : w2.ownsRow w.heap.size 5 1 v (len k) (bytesUp (lentD (len k) (d k)) (len k))) (ho : OwnA w2 (gb k) (len k + 8) (upD (lentD (len k) (d k)) (len k))) (ha : Apart (gb k) w w2)
    (hown : w4.ownsRow S 28 1 t' (k + 1) ((List.range k).map tv ++ [v])) (hg : (w2.alloc (.cells #[v] 28)).grownBy w4 t.ownBlock) : Up W S w4 n (k + 1) len d ga gi gb t' (tvAt tv k v) := by
  have hS := h.size
  have hW := h.wide
  have ht := ownsRow_type h.own
  have hgk := h.gb_lt k hk
  have e2 : ∀ b, b < w2.heap.size → t.ownBlock ≠ some b → w4.heap[b]? = w2.heap[b]? := fun b hb hne => (hg.block b (by simp; omega) (Ne.symm hne)).trans (Below.heap_alloc _ _ _ hb)
  have hsz : w2.heap.size ≤ w4.heap.size := Nat.le_trans (by simp) hg.size
  have hlow : ∀ b, b < S → t.ownBlock ≠ some b := fun b hb e => by have := (ht b e).1; omega
  have hb24 : Below S w2 w4 := ⟨hg.os, hg.tape, hg.output, hsz, fun b hb => e2 b (by have := ha.size; omega) (hlow b hb)⟩
  refine ⟨?_, ?_, Nat.le_trans hS (Nat.le_trans ha.size hsz), hW, h.ga_lt, h.gi_lt, h.gb_lt, ?_⟩
  · have hl := h.laid.turn (w' := w4) hk hW h.ga_lt h.gi_lt h.gb_lt ((ha.below (by omega) (h.laid.row k hk).1).trans (hb24.mono hW)) (fun b hb hne => (hb24.block b hb).trans (ha.block b (by omega) hne)) (ho.below hb24 hgk)
    have e : (fun i => if i = k then upD (lentD (len k) (d k)) (len k) else if i < k then upD (lentD (len i) (d i)) (len i) else lentD (len i) (d i)) = (fun i => if i < k + 1 then upD (lentD (len i) (d i)) (len i) else lentD (len i) (d i)) := by
      funext i
      by_cases e : i = k
      · subst e; simp
      · by_cases e2 : i < k
        · simp [e, e2, show i < k + 1 by omega]
        · simp [e, e2, show ¬ i < k + 1 by omega]
    rw [← e]; exact hl
  · have e : (List.range (k + 1)).map (tvAt tv k v) = (List.range k).map tv ++ [v] := by
      rw [List.range_succ, List.map_append]
      congr 1
      · exact List.map_congr_left fun i hi => if_neg (by have := List.mem_range.1 hi; omega)
      · simp [tvAt]
    rw [e]; exact hown
  · intro i hi
    unfold tvAt
    by_cases e : i = k
    · subst e
      simp only [if_true]
      refine ownsRow_of_block (ownsRow_mono hv hS) fun g hg' => e2 g (ownsRow_type hv g hg').2.1 fun e => ?_
      have h1 := (ownsRow_type hv g hg').1
      have h2 := (ht g e).2.1
      omega
    · simp only [e, if_false]
      have hi' := h.rows i (by omega)
      refine ownsRow_of_block hi' fun g hg' => ?_
      obtain ⟨t1, t2, cur, t3⟩ := ownsRow_type hi' g hg'
      refine (e2 g (by have := ha.size; omega) fun e => ?_).trans (ha.block g t2 (by omega))
      obtain ⟨_, _, cur', t4⟩ := ht g e
      rw [t3] at t4
      cases t4
theorem src_of_owns {w : World} {S m : Nat} {v : Value} {f : Nat → Nat} (h : w.ownsRow S 5 1 v m (bytesUp f m)) : ∃ a c, v = .slice a m c ∧ Src w a m (fun j => (f j + 1) % 256) := by
  rcases h.2 with ⟨h1, h2⟩ | ⟨g, cap, cur, h1, _, h3, h4, _, h5, h6⟩
  · exact ⟨none, 0, by rw [h1, h2], .inl h2⟩
  · refine ⟨_, _, h1, .inr ⟨g, 0, rfl, fun j hj => ⟨?_, Nat.mod_lt _ (by decide)⟩⟩⟩
    have e : (cur.toList.take (m * 1))[j]? = (bytesUp f m)[j]? := by rw [h6]
    rw [List.getElem?_take, if_pos (by omega)] at e
    rw [Nat.zero_add]
    simp only [World.cell?, h3]
    simp only [bytesUp, List.getElem?_map, List.getElem?_range hj, Option.map_some] at e
    simpa using e
theorem src2_of_up {W w : World} {S n : Nat} {len : Nat → Nat} {d : Nat → Nat → Nat} {ga gi : Nat} {gb : Nat → Nat} {ao : Option Addr} {cv : Nat} {tv : Nat → Value} (hl : ∀ i, i < n → len i ≤ 140737488351232) (h : Up W S w n n len d ga gi gb (.slice ao n cv) tv) : Src2 w ao n len (fun i j => (lentD (len i) (d i) j + 1) % 256) := by
  rcases h.own.2 with ⟨_, h2⟩ | ⟨g, cap, cur, h1, _, h3, h4, _, h5, h6⟩
  · exact .inl h2
  · cases h1
    refine .inr ⟨g, 0, rfl, fun i hi => ?_⟩
    obtain ⟨a, c, e, hs⟩ := src_of_owns (h.rows i hi)
    refine ⟨a, c, ?_, hl i hi, hs⟩
    have e2 : (cur.toList.take (n * 1))[i]? = ((List.range n).map tv)[i]? := by rw [h6]
    rw [List.getElem?_take, if_pos (by omega)] at e2
    rw [Nat.zero_add, ← e]
    simp only [World.cell?, h3]
    simp only [List.getElem?_map, List.getElem?_range hi, Option.map_some] at e2
    simpa using e2
end Go.Proofs.YtochdjdkfmdgeaaDoor
