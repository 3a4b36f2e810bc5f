/-
  The law's outs: its state, and its steps.
-/
import Derived.Test.YtfgfjkchcnpakaaDoorFFill0
import Derived.Test.YtfgfjkchcnpakaaDoorFGroups
namespace Go.Proofs.YtfgfjkchcnpakaaDoor
set_option linter.unusedVariables false
open Go.RowKit

def zcs (l : List Int) : List Value := l.map fun n : Int => .int .i64 n
theorem zcs_length (l : List Int) : (zcs l).length = l.length := by simp [zcs]
theorem zcs_one (l : List Int) : ∀ u ∈ zcs l, u.oneCell' = true := fun u hu => by
  unfold zcs at hu
  rw [List.mem_map] at hu
  obtain ⟨n, _, rfl⟩ := hu
  rfl
def ocs (E : List (Value × Value × Int)) : List Value := E.flatMap fun e => [e.1, e.2.1, .int .i64 e.2.2]
theorem ocs_app (a b : List (Value × Value × Int)) : ocs (a ++ b) = ocs a ++ ocs b := by simp [ocs]
theorem ocs_length (E : List (Value × Value × Int)) : (ocs E).length = E.length * 3 := by
  induction E with
  | nil => rfl
  | cons f fs ih => show (([_, _, _] : List Value) ++ ocs fs).length = _; simp [ih]; omega
theorem ocs_at : ∀ (E : List (Value × Value × Int)) (j : Nat) (p r : Value) (n : Int), E[j]? = some (p, r, n) → (ocs E)[j * 3]? = some p ∧ (ocs E)[j * 3 + 1]? = some r ∧ (ocs E)[j * 3 + 2]? = some (.int .i64 n)
  | [], j, p, r, n, h => by simp at h
  | g :: fs, 0, p, r, n, h => by simp at h; subst h; exact ⟨rfl, rfl, rfl⟩
  | g :: fs, j + 1, p, r, n, h => by
    have := ocs_at fs j p r n (by simpa using h)
    show (([_, _, _] : List Value) ++ ocs fs)[(j + 1) * 3]? = _ ∧ (([_, _, _] : List Value) ++ ocs fs)[(j + 1) * 3 + 1]? = _ ∧ (([_, _, _] : List Value) ++ ocs fs)[(j + 1) * 3 + 2]? = _
    rw [show (j + 1) * 3 = j * 3 + 3 by omega]
    simpa using this
theorem infoO : (Tryd.prog.info? 91).map (fun i => (i.zero, i.size, i.bytes)) = some (some (.agg #[.slice none 0 0, .slice none 0 0, .int .i64 0]), 3, 56) := by kernel_rfl
/-- Numbers that are all one. -/
def SrcZ (w : World) (v : Value) (l : Nat) (n : Int) : Prop := ∃ ao c, v = .slice ao l c ∧ l ≤ c ∧ (l = 0 ∨ ∃ b, ao = some ⟨b, 0, none⟩ ∧ ∀ j, j < l → w.cell? ⟨b, j, none⟩ = some (.int .i64 n))
/-- Parts that are all one mark. -/
def SrcQ (w : World) (v : Value) (l : Nat) (n : Int) : Prop := ∃ ao c, v = .slice ao l c ∧ l ≤ c ∧ (l = 0 ∨ ∃ b, ao = some ⟨b, 0, none⟩ ∧ ∀ j, j < l → ∃ g, w.cell? ⟨b, j, none⟩ = some (.slice (some ⟨g, 0, none⟩) 1 1) ∧ w.heap[g]? = some (.cells #[.int .i64 (-n), .string ⟨#[109, 105, 110, 101]⟩] 36 (0, 0)))
theorem SrcZ.of_block {w w' : World} {v : Value} {l : Nat} {n : Int} (h : SrcZ w v l n) (hk : ∀ k, v.ownBlock = some k → w'.heap[k]? = w.heap[k]?) : SrcZ w' v l n := by
  obtain ⟨ao, c, rfl, hc, h⟩ := h
  refine ⟨ao, c, rfl, hc, ?_⟩
  rcases h with h | ⟨b, rfl, h⟩
  · exact .inl h
  · refine .inr ⟨b, rfl, fun j hj => ?_⟩
    have e : w'.cell? ⟨b, j, none⟩ = w.cell? ⟨b, j, none⟩ := World.cell?_of_block (hk b rfl)
    rw [e]; exact h j hj
theorem SrcQ.of_block {w w' : World} {v : Value} {l : Nat} {n : Int} (h : SrcQ w v l n) (hk : ∀ k, v.ownBlock = some k → w'.heap[k]? = w.heap[k]?) (hf : ∀ (g : Nat) cur, w.heap[g]? = some (.cells cur 36 (0, 0)) → w'.heap[g]? = w.heap[g]?) : SrcQ w' v l n := by
  obtain ⟨ao, c, rfl, hc, h⟩ := h
  refine ⟨ao, c, rfl, hc, ?_⟩
  rcases h with h | ⟨b, rfl, h⟩
  · exact .inl h
  · refine .inr ⟨b, rfl, fun j hj => ?_⟩
    obtain ⟨g, h1, h2⟩ := h j hj
    have e : w'.cell? ⟨b, j, none⟩ = w.cell? ⟨b, j, none⟩ := World.cell?_of_block (hk b rfl)
    exact ⟨g, by rw [e]; exact h1, (hf g _ h2).trans h2⟩
/-- A value that is one list full of marks. -/
def Mq (w : World) (n : Int) (u : Value) : Prop := ∃ g, u = .slice (some ⟨g, 0, none⟩) 1 1 ∧ w.heap[g]? = some (.cells #[.int .i64 (-n), .string ⟨#[109, 105, 110, 101]⟩] 36 (0, 0))
theorem row_cell {w : World} {B T s n g m c : Nat} {xs : List Value} (h : w.ownsRow B T s (.slice (some ⟨g, 0, none⟩) m c) n xs) {j : Nat} {x : Value} (hx : xs[j]? = some x) : w.cell? ⟨g, j, none⟩ = some x := by
  rcases h.2 with ⟨e, _⟩ | ⟨g', cap, cur, e, r1, r2, r3, r4, r5, r6⟩
  · cases e
  · injection e with e _ _
    injection e with e
    injection e with e
    subst e
    rw [← r6, List.getElem?_take] at hx
    split at hx
    · rw [cell_of_row w g _ cur _ _ r2]; simpa using hx
    · cases hx
theorem row_form {w : World} {B T s n : Nat} {v : Value} {xs : List Value} (h : w.ownsRow B T s v n xs) : ∃ ao c, v = .slice ao n c ∧ n ≤ c ∧ (ao = none ∨ ∃ g, ao = some ⟨g, 0, none⟩) ∧ (0 < n → ∃ g, ao = some ⟨g, 0, none⟩) := by
  rcases h.2 with ⟨e, h0⟩ | ⟨g, cap, cur, e, _, _, r3, _⟩
  · exact ⟨none, 0, by rw [e, h0], by omega, .inl rfl, fun h => by omega⟩
  · exact ⟨_, cap, e, r3, .inr ⟨g, rfl⟩, fun _ => ⟨g, rfl⟩⟩
/-- A prefix of a row of one number. -/
theorem SrcZ.of_row {w : World} {B L : Nat} {v p : Value} {n : Int} (h : w.ownsRow B 3 1 v L (zcs (List.replicate L n))) {ao : Option Addr} {l c : Nat} (hp : p = .slice ao l c) (hl : l ≤ L) (hc : l ≤ c) (hb : 0 < l → p.ownBlock = v.ownBlock) (hz : 0 < l → ∃ g, ao = some ⟨g, 0, none⟩) : SrcZ w p l n := by
  refine ⟨ao, c, hp, hc, ?_⟩
  by_cases h0 : l = 0
  · exact .inl h0
  · right
    obtain ⟨g, rfl⟩ := hz (by omega)
    obtain ⟨av, cv, rfl, _, _, hf⟩ := row_form h
    obtain ⟨g2, rfl⟩ := hf (by omega)
    have e := hb (by omega)
    rw [hp] at e
    have e2 : g = g2 := by simpa [Value.ownBlock] using e
    subst e2
    exact ⟨g, rfl, fun j hj => row_cell h (by unfold zcs; rw [List.getElem?_map, List.getElem?_replicate, if_pos (by omega)]; rfl)⟩
theorem SrcQ.of_row {w : World} {B L : Nat} {v p : Value} {vs : List Value} {n : Int} (h : w.ownsRow B 22 1 v L vs) (hm : ∀ (j : Nat) u, j < L → vs[j]? = some u → Mq w n u) {ao : Option Addr} {l c : Nat} (hp : p = .slice ao l c) (hl : l ≤ L) (hc : l ≤ c) (hb : 0 < l → p.ownBlock = v.ownBlock) (hz : 0 < l → ∃ g, ao = some ⟨g, 0, none⟩) : SrcQ w p l n := by
  refine ⟨ao, c, hp, hc, ?_⟩
  by_cases h0 : l = 0
  · exact .inl h0
  · right
    obtain ⟨g, rfl⟩ := hz (by omega)
    have hvl : vs.length = L := by have := h.1; omega
    obtain ⟨av, cv, rfl, _, _, hf⟩ := row_form h
    obtain ⟨g2, rfl⟩ := hf (by omega)
    have e := hb (by omega)
    rw [hp] at e
    have e2 : g = g2 := by simpa [Value.ownBlock] using e
    subst e2
    refine ⟨g, rfl, fun j hj => ?_⟩
    have hx : vs[j]? = some vs[j] := List.getElem?_eq_getElem (by omega)
    obtain ⟨q, e3, e4⟩ := hm j _ (by omega) hx
    exact ⟨q, by rw [row_cell h hx, e3], e4⟩
/-- One filling: the owner's row, the places, the parts. -/
structure O1 (B : Nat) (w0 w : World) (q : Nat) (vo0 vo : Value) (E : List (Value × Value × Int)) (P0 P : Value) (zs : List Int) (Q0 Q : Value) (vs : List Value) : Prop where
  bel : Below B w0 w
  hB : B ≤ w0.heap.size
  qb : w.heap[q]? = some (.cells #[vo] 52 (0, 0))
  hq : B ≤ q
  row : w.ownsRow B 91 3 vo E.length (ocs E)
  oP : w.ownsRow B 3 1 P zs.length (zcs zs)
  oQ : w.ownsRow B 22 1 Q vs.length vs
  vb : ∀ k, vo.ownBlock = some k → vo0.ownBlock = some k ∨ w0.heap.size ≤ k
  pb : ∀ k, P.ownBlock = some k → P0.ownBlock = some k ∨ w0.heap.size ≤ k
  qb' : ∀ k, Q.ownBlock = some k → Q0.ownBlock = some k ∨ w0.heap.size ≤ k
  fr : ∀ k, k < w0.heap.size → k ≠ q → vo0.ownBlock ≠ some k → P0.ownBlock ≠ some k → Q0.ownBlock ≠ some k → w.heap[k]? = w0.heap[k]?
  fl : ∀ (g : Nat) cur, w0.heap[g]? = some (.cells cur 36 (0, 0)) → w.heap[g]? = w0.heap[g]?
variable {B : Nat} {w0 w : World} {q : Nat} {vo0 vo : Value} {E : List (Value × Value × Int)} {P0 P : Value} {zs : List Int} {Q0 Q : Value} {vs : List Value}
theorem O1.size (h : O1 B w0 w q vo0 vo E P0 P zs Q0 Q vs) : B ≤ w.heap.size := Nat.le_trans h.hB h.bel.size
theorem O1.qlt (h : O1 B w0 w q vo0 vo E P0 P zs Q0 Q vs) : q < w.heap.size := lt_of_heap h.qb
theorem O1.below {w' : World} (h : O1 B w0 w q vo0 vo E P0 P zs Q0 Q vs) (hb : Below w.heap.size w w') : O1 B w0 w' q vo0 vo E P0 P zs Q0 Q vs :=
  ⟨h.bel.trans (hb.mono h.size), h.hB, (hb.block q h.qlt).trans h.qb, h.hq, ownsRow_below h.row hb, ownsRow_below h.oP hb, ownsRow_below h.oQ hb, h.vb, h.pb, h.qb', fun k h1 h2 h3 h4 h5 => (hb.block k (Nat.lt_of_lt_of_le h1 h.bel.size)).trans (h.fr k h1 h2 h3 h4 h5), fun g cur e => by have e2 := h.fl g cur e; rw [hb.block g (Nat.lt_of_lt_of_le (lt_of_heap e) h.bel.size)]; exact e2⟩
theorem O1.cell (h : O1 B w0 w q vo0 vo E P0 P zs Q0 Q vs) : w.cell? ⟨q, 0, none⟩ = some vo ∧ w.frozen? ⟨q, 0, none⟩ = false := by
  have e := h.qb
  exact ⟨by rw [cell_of_row w q _ _ _ _ e]; rfl, by simp [World.frozen?, e]⟩
theorem typed_ne {w : World} {k : Nat} {c1 c2 : Array Value} {t1 t2 : TypeId} (h1 : w.heap[k]? = some (.cells c1 t1 (0, 0))) (h2 : w.heap[k]? = some (.cells c2 t2 (0, 0))) (hne : t1 ≠ t2) : False := by
  rw [h1] at h2
  injection h2 with h2
  injection h2 with _ h2
  exact hne h2
/-- A place is written. -/
theorem O1.writeP {g c : Nat} (h : O1 B w0 w q vo0 vo E P0 (.slice (some ⟨g, 0, none⟩) zs.length c) zs Q0 Q vs) (i : Nat) (hi : i < zs.length) (n : Int) :
    O1 B w0 (w.setCell ⟨g, i, none⟩ (.int .i64 n)) q vo0 vo E P0 (.slice (some ⟨g, 0, none⟩) zs.length c) (zs.set i n) Q0 Q vs := by
  obtain ⟨t1, t2, cur0, t3⟩ := row_typed h.oP (k := g) rfl
  have hblk : ∀ k, k ≠ g → (w.setCell ⟨g, i, none⟩ (.int .i64 n)).heap[k]? = w.heap[k]? := fun k hk => Below.heap_setCell _ _ _ _ hk
  refine ⟨h.bel.setCell t1 _, h.hB, (hblk q (fun e => by subst e; exact typed_ne h.qb t3 (by decide))).trans h.qb, h.hq, ownsRow_of_block h.row (fun k hk => hblk k (fun e => by subst e; obtain ⟨_, _, c1, t4⟩ := row_typed h.row hk; exact typed_ne t4 t3 (by decide))), ?_, ownsRow_of_block h.oQ (fun k hk => hblk k (fun e => by subst e; obtain ⟨_, _, c1, t4⟩ := row_typed h.oQ hk; exact typed_ne t4 t3 (by decide))), h.vb, h.pb, h.qb', fun k h1 h2 h3 h4 h5 => ?_, fun k cur e => ?_⟩
  · rcases h.oP.2 with ⟨e, _⟩ | ⟨g', cap', cur, e, r1, r2, r3, r4, r5, r6⟩
    · cases e
    injection e with e1 e2 e3
    injection e1 with e1
    injection e1 with e1
    subst e1 e3
    rw [List.length_set]
    refine ⟨by rw [zcs_length, List.length_set]; omega, .inr ⟨g, c, cur.setIfInBounds i (.int .i64 n), rfl, r1, ?_, r3, r4, by simpa using r5, ?_⟩⟩
    · rw [setCell_eq_setRow w g _ _ 3 (0, 0) _ r2]; exact setRow_heap w g _ _ 3 (0, 0) r2
    · have e4 : zcs (zs.set i n) = (zcs zs).set i (.int .i64 n) := by unfold zcs; rw [List.map_set]
      rw [e4, ← r6]
      simp only [Array.toList_setIfInBounds, List.take_set]
  · rw [hblk k (fun e => by subst e; rcases h.pb k rfl with h6 | h6; exact h4 h6; omega)]
    exact h.fr k h1 h2 h3 h4 h5
  · have e2 := h.fl k cur e
    rw [hblk k (fun e3 => by subst e3; rw [e] at e2; exact typed_ne e2 t3 (by decide))]
    exact e2
/-- A part is written. -/
theorem O1.writeQ {g c : Nat} (h : O1 B w0 w q vo0 vo E P0 P zs Q0 (.slice (some ⟨g, 0, none⟩) vs.length c) vs) (i : Nat) (hi : i < vs.length) (u : Value) :
    O1 B w0 (w.setCell ⟨g, i, none⟩ u) q vo0 vo E P0 P zs Q0 (.slice (some ⟨g, 0, none⟩) vs.length c) (vs.set i u) ∧ (∀ (k : Nat) cur, w.heap[k]? = some (.cells cur 36 (0, 0)) → (w.setCell ⟨g, i, none⟩ u).heap[k]? = w.heap[k]?) := by
  obtain ⟨t1, t2, cur0, t3⟩ := row_typed h.oQ (k := g) rfl
  have hblk : ∀ k, k ≠ g → (w.setCell ⟨g, i, none⟩ u).heap[k]? = w.heap[k]? := fun k hk => Below.heap_setCell _ _ _ _ hk
  refine ⟨⟨h.bel.setCell t1 _, h.hB, (hblk q (fun e => by subst e; exact typed_ne h.qb t3 (by decide))).trans h.qb, h.hq, ownsRow_of_block h.row (fun k hk => hblk k (fun e => by subst e; obtain ⟨_, _, c1, t4⟩ := row_typed h.row hk; exact typed_ne t4 t3 (by decide))), ownsRow_of_block h.oP (fun k hk => hblk k (fun e => by subst e; obtain ⟨_, _, c1, t4⟩ := row_typed h.oP hk; exact typed_ne t4 t3 (by decide))), ?_, h.vb, h.pb, h.qb', fun k h1 h2 h3 h4 h5 => ?_, fun k cur e => ?_⟩, fun k cur e => hblk k (fun e3 => by subst e3; exact typed_ne e t3 (by decide))⟩
  · rcases h.oQ.2 with ⟨e, _⟩ | ⟨g', cap', cur, e, r1, r2, r3, r4, r5, r6⟩
    · cases e
    injection e with e1 e2 e3
    injection e1 with e1
    injection e1 with e1
    subst e1 e3
    rw [List.length_set]
    refine ⟨by rw [List.length_set]; omega, .inr ⟨g, c, cur.setIfInBounds i u, rfl, r1, ?_, r3, r4, by simpa using r5, ?_⟩⟩
    · rw [setCell_eq_setRow w g _ _ 22 (0, 0) _ r2]; exact setRow_heap w g _ _ 22 (0, 0) r2
    · have e4 : (cur.setIfInBounds i u).toList.take (vs.length * 1) = (cur.toList.take (vs.length * 1)).set i u := by
        simp only [Array.toList_setIfInBounds, List.take_set]
      rw [e4, r6]
  · rw [hblk k (fun e => by subst e; rcases h.qb' k rfl with h6 | h6; exact h5 h6; omega)]
    exact h.fr k h1 h2 h3 h4 h5
  · have e2 := h.fl k cur e
    rw [hblk k (fun e3 => by subst e3; rw [e] at e2; exact typed_ne e2 t3 (by decide))]
    exact e2
end Go.Proofs.YtfgfjkchcnpakaaDoor
