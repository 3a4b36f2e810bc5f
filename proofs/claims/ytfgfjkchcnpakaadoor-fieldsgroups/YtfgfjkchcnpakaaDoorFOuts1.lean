/-
  The law's outs: places and parts grow; an entry more.
-/
import Derived.Test.YtfgfjkchcnpakaaDoorFOuts0
namespace Go.Proofs.YtfgfjkchcnpakaaDoor
set_option linter.unusedVariables false
open Go.RowKit

variable {B : Nat} {w0 w w1 w' : World} {q : Nat} {vo0 vo : Value} {E : List (Value × Value × Int)} {P0 P : Value} {zs : List Int} {Q0 Q : Value} {vs : List Value}
/-- The first of two entries. -/
structure E1 (w : World) (P1 : Value) (l1 : Nat) (Q1 : Value) (m1 : Nat) (n : Int) : Prop where
  z : SrcZ w P1 l1 n
  u : SrcQ w Q1 m1 n
  zt : ∀ k, P1.ownBlock = some k → ∃ cur, w.heap[k]? = some (.cells cur 3 (0, 0))
  ut : ∀ k, Q1.ownBlock = some k → ∃ cur, w.heap[k]? = some (.cells cur 22 (0, 0))
  za : ∀ ao l c, P1 = .slice ao l c → 0 < l → ∃ g, ao = some ⟨g, 0, none⟩
  ua : ∀ ao l c, Q1 = .slice ao l c → 0 < l → ∃ g, ao = some ⟨g, 0, none⟩
theorem E1.keep {P1 Q1 : Value} {l1 m1 : Nat} {n : Int} (h : E1 w P1 l1 Q1 m1 n) (hk : ∀ (k : Nat) (cur : Array Value) (t : TypeId), w.heap[k]? = some (.cells cur t (0, 0)) → t = 3 ∨ t = 22 ∨ t = 36 → w'.heap[k]? = w.heap[k]?) : E1 w' P1 l1 Q1 m1 n :=
  ⟨h.z.of_block (fun k e => by obtain ⟨cur, t⟩ := h.zt k e; exact hk k cur 3 t (.inl rfl)), h.u.of_block (fun k e => by obtain ⟨cur, t⟩ := h.ut k e; exact hk k cur _ t (.inr (.inl rfl))) (fun g cur t => hk g cur _ t (.inr (.inr rfl))),
    fun k e => by obtain ⟨cur, t⟩ := h.zt k e; exact ⟨cur, (hk k cur 3 t (.inl rfl)).trans t⟩, fun k e => by obtain ⟨cur, t⟩ := h.ut k e; exact ⟨cur, (hk k cur _ t (.inr (.inl rfl))).trans t⟩, h.za, h.ua⟩
theorem E1.below {P1 Q1 : Value} {l1 m1 : Nat} {n : Int} (h : E1 w P1 l1 Q1 m1 n) (hb : Below w.heap.size w w') : E1 w' P1 l1 Q1 m1 n :=
  h.keep (fun k cur t e _ => hb.block k (lt_of_heap e))
theorem O1.growP {g' cap : Nat} {n : Int} (h : O1 B w0 w q vo0 vo E P0 P zs Q0 Q vs) (hb : Below w.heap.size w w1)
    (ho : w'.ownsRow B 3 1 (.slice (some ⟨g', 0, none⟩) (zs.length + 1) cap) (zs.length + 1) (zcs zs ++ [.int .i64 n])) (hg : w1.grownBy w' P.ownBlock) (hat : P.ownBlock = some g' ∨ (g' = w1.heap.size ∧ ∀ k, k < w1.heap.size → w'.heap[k]? = w1.heap[k]?)) :
    O1 B w0 w' q vo0 vo E P0 (.slice (some ⟨g', 0, none⟩) (zs.length + 1) cap) (zs ++ [n]) Q0 Q vs := by
  have hblk : ∀ k, k < w.heap.size → P.ownBlock ≠ some k → w'.heap[k]? = w.heap[k]? := fun k hk hne => by
    rw [hg.block k (by have := hb.size; omega) (fun e => hne e.symm), hb.block k hk]
  have hpt : ∀ k, P.ownBlock = some k → ∃ cur, w.heap[k]? = some (.cells cur 3 (0, 0)) := fun k hk => (row_typed h.oP hk).2.2
  have hb1 := h.bel.trans (hb.mono h.size)
  refine ⟨Below.grown hb1 hg (Nat.le_trans h.hB hb1.size) (fun k hk => (row_typed h.oP hk).1), h.hB, (hblk q h.qlt (fun e => by obtain ⟨cur, t⟩ := hpt q e; exact typed_ne h.qb t (by decide))).trans h.qb, h.hq, ownsRow_of_block h.row (fun k hk => ?_), ?_, ownsRow_of_block h.oQ (fun k hk => ?_), h.vb, fun k hk => ?_, h.qb', fun k h1 h2 h3 h4 h5 => ?_, fun k cur e => ?_⟩
  · obtain ⟨_, k2, c1, t4⟩ := row_typed h.row hk
    exact hblk k k2 (fun e => by obtain ⟨cur, t⟩ := hpt k e; exact typed_ne t4 t (by decide))
  · have e : zcs (zs ++ [n]) = zcs zs ++ [.int .i64 n] := by simp [zcs]
    rw [e, List.length_append]
    exact ho
  · obtain ⟨_, k2, c1, t4⟩ := row_typed h.oQ hk
    exact hblk k k2 (fun e => by obtain ⟨cur, t⟩ := hpt k e; exact typed_ne t4 t (by decide))
  · have e : g' = k := by simpa [Value.ownBlock] using hk
    subst e
    rcases hat with hat | ⟨hat, _⟩
    · exact h.pb g' hat
    · exact .inr (by have := hb.size; have := h.bel.size; omega)
  · rw [hblk k (Nat.lt_of_lt_of_le h1 h.bel.size) (fun e => by rcases h.pb k e with h6 | h6; exact h4 h6; omega)]
    exact h.fr k h1 h2 h3 h4 h5
  · have e2 := h.fl k cur e
    rw [hblk k (Nat.lt_of_lt_of_le (lt_of_heap e) h.bel.size) (fun e3 => by obtain ⟨c1, t⟩ := hpt k e3; rw [e] at e2; exact typed_ne e2 t (by decide))]
    exact e2
theorem O1.growQ {g' cap : Nat} {u : Value} (h : O1 B w0 w q vo0 vo E P0 P zs Q0 Q vs) (hb : Below w.heap.size w w1)
    (ho : w'.ownsRow B 22 1 (.slice (some ⟨g', 0, none⟩) (vs.length + 1) cap) (vs.length + 1) (vs ++ [u])) (hg : w1.grownBy w' Q.ownBlock) (hat : Q.ownBlock = some g' ∨ (g' = w1.heap.size ∧ ∀ k, k < w1.heap.size → w'.heap[k]? = w1.heap[k]?)) :
    O1 B w0 w' q vo0 vo E P0 P zs Q0 (.slice (some ⟨g', 0, none⟩) (vs.length + 1) cap) (vs ++ [u]) := by
  have hblk : ∀ k, k < w.heap.size → Q.ownBlock ≠ some k → w'.heap[k]? = w.heap[k]? := fun k hk hne => by
    rw [hg.block k (by have := hb.size; omega) (fun e => hne e.symm), hb.block k hk]
  have hpt : ∀ k, Q.ownBlock = some k → ∃ cur, w.heap[k]? = some (.cells cur 22 (0, 0)) := fun k hk => (row_typed h.oQ hk).2.2
  have hb1 := h.bel.trans (hb.mono h.size)
  refine ⟨Below.grown hb1 hg (Nat.le_trans h.hB hb1.size) (fun k hk => (row_typed h.oQ hk).1), h.hB, (hblk q h.qlt (fun e => by obtain ⟨cur, t⟩ := hpt q e; exact typed_ne h.qb t (by decide))).trans h.qb, h.hq, ownsRow_of_block h.row (fun k hk => ?_), ownsRow_of_block h.oP (fun k hk => ?_), by rw [List.length_append]; exact ho, h.vb, h.pb, fun k hk => ?_, fun k h1 h2 h3 h4 h5 => ?_, fun k cur e => ?_⟩
  · obtain ⟨_, k2, c1, t4⟩ := row_typed h.row hk
    exact hblk k k2 (fun e => by obtain ⟨cur, t⟩ := hpt k e; exact typed_ne t4 t (by decide))
  · obtain ⟨_, k2, c1, t4⟩ := row_typed h.oP hk
    exact hblk k k2 (fun e => by obtain ⟨cur, t⟩ := hpt k e; exact typed_ne t4 t (by decide))
  · have e : g' = k := by simpa [Value.ownBlock] using hk
    subst e
    rcases hat with hat | ⟨hat, _⟩
    · exact h.qb' g' hat
    · exact .inr (by have := hb.size; have := h.bel.size; omega)
  · rw [hblk k (Nat.lt_of_lt_of_le h1 h.bel.size) (fun e => by rcases h.qb' k e with h6 | h6; exact h5 h6; omega)]
    exact h.fr k h1 h2 h3 h4 h5
  · have e2 := h.fl k cur e
    rw [hblk k (Nat.lt_of_lt_of_le (lt_of_heap e) h.bel.size) (fun e3 => by obtain ⟨c1, t⟩ := hpt k e3; rw [e] at e2; exact typed_ne e2 t (by decide))]
    exact e2
theorem E1.growP {P1 Q1 : Value} {l1 m1 L : Nat} {n : Int} {g' cap : Nat} (h : E1 w P1 l1 Q1 m1 n) (hP : w.ownsRow B 3 1 P L (zcs (List.replicate L n))) (hl : l1 ≤ L) (hb : Below w.heap.size w w1)
    (ho : w'.ownsRow B 3 1 (.slice (some ⟨g', 0, none⟩) (L + 1) cap) (L + 1) (zcs (List.replicate L n) ++ [.int .i64 n])) (hg : w1.grownBy w' P.ownBlock) (hat : P.ownBlock = some g' ∨ (g' = w1.heap.size ∧ ∀ k, k < w1.heap.size → w'.heap[k]? = w1.heap[k]?)) : E1 w' P1 l1 Q1 m1 n := by
  have hblk : ∀ k, k < w.heap.size → P.ownBlock ≠ some k → w'.heap[k]? = w.heap[k]? := fun k hk hne => by
    rw [hg.block k (by have := hb.size; omega) (fun e => hne e.symm), hb.block k hk]
  have hpt : ∀ k, P.ownBlock = some k → ∃ cur, w.heap[k]? = some (.cells cur 3 (0, 0)) := fun k hk => (row_typed hP hk).2.2
  have ho2 : w'.ownsRow B 3 1 (.slice (some ⟨g', 0, none⟩) (L + 1) cap) (L + 1) (zcs (List.replicate (L + 1) n)) := by
    have e : zcs (List.replicate (L + 1) n) = zcs (List.replicate L n) ++ [.int .i64 n] := by rw [List.replicate_succ']; simp [zcs]
    rw [e]; exact ho
  have far : P1.ownBlock ≠ some g' → ∀ k, P1.ownBlock = some k → w'.heap[k]? = w.heap[k]? := fun hne k hk => by
    obtain ⟨cur, t⟩ := h.zt k hk
    rcases hat with hat | ⟨_, hkp⟩
    · exact hblk k (lt_of_heap t) (fun e => hne (by rw [hk, ← e, hat]))
    · rw [hkp k (by have := hb.size; have := lt_of_heap t; omega), hb.block k (lt_of_heap t)]
  refine ⟨?_, h.u.of_block (fun k e => by obtain ⟨cur, t⟩ := h.ut k e; exact hblk k (lt_of_heap t) (fun e2 => by obtain ⟨c1, t2⟩ := hpt k e2; exact typed_ne t t2 (by decide))) (fun g cur t => hblk g (lt_of_heap t) (fun e2 => by obtain ⟨c1, t2⟩ := hpt g e2; exact typed_ne t t2 (by decide))), fun k e => ?_, fun k e => by obtain ⟨cur, t⟩ := h.ut k e; exact ⟨cur, (hblk k (lt_of_heap t) (fun e2 => by obtain ⟨c1, t2⟩ := hpt k e2; exact typed_ne t t2 (by decide))).trans t⟩, h.za, h.ua⟩
  · by_cases hs : P1.ownBlock = some g'
    · obtain ⟨ao, c, e, hc, _⟩ := h.z
      exact SrcZ.of_row ho2 e (by omega) hc (fun _ => by rw [hs]; rfl) (fun hp => h.za ao l1 c e hp)
    · exact h.z.of_block (far hs)
  · by_cases hs : P1.ownBlock = some g'
    · have e2 : g' = k := by rw [hs] at e; simpa using e
      subst e2
      exact (row_typed ho2 rfl).2.2
    · obtain ⟨cur, t⟩ := h.zt k e
      exact ⟨cur, (far hs k e).trans t⟩
theorem E1.growQ {P1 Q1 : Value} {l1 m1 : Nat} {n : Int} {g' cap : Nat} {u : Value} (h : E1 w P1 l1 Q1 m1 n) (hQ : w.ownsRow B 22 1 Q vs.length vs) (hm : ∀ (j : Nat) x, (vs ++ [u])[j]? = some x → Mq w' n x) (hl : m1 ≤ vs.length) (hb : Below w.heap.size w w1)
    (ho : w'.ownsRow B 22 1 (.slice (some ⟨g', 0, none⟩) (vs.length + 1) cap) (vs.length + 1) (vs ++ [u])) (hg : w1.grownBy w' Q.ownBlock) (hat : Q.ownBlock = some g' ∨ (g' = w1.heap.size ∧ ∀ k, k < w1.heap.size → w'.heap[k]? = w1.heap[k]?)) : E1 w' P1 l1 Q1 m1 n := by
  have hblk : ∀ k, k < w.heap.size → Q.ownBlock ≠ some k → w'.heap[k]? = w.heap[k]? := fun k hk hne => by
    rw [hg.block k (by have := hb.size; omega) (fun e => hne e.symm), hb.block k hk]
  have hpt : ∀ k, Q.ownBlock = some k → ∃ cur, w.heap[k]? = some (.cells cur 22 (0, 0)) := fun k hk => (row_typed hQ hk).2.2
  have far : Q1.ownBlock ≠ some g' → ∀ k, Q1.ownBlock = some k → w'.heap[k]? = w.heap[k]? := fun hne k hk => by
    obtain ⟨cur, t⟩ := h.ut k hk
    rcases hat with hat | ⟨_, hkp⟩
    · exact hblk k (lt_of_heap t) (fun e => hne (by rw [hk, ← e, hat]))
    · rw [hkp k (by have := hb.size; have := lt_of_heap t; omega), hb.block k (lt_of_heap t)]
  have hfl : ∀ (g : Nat) cur, w.heap[g]? = some (.cells cur 36 (0, 0)) → w'.heap[g]? = w.heap[g]? := fun g cur t => hblk g (lt_of_heap t) (fun e2 => by obtain ⟨c1, t2⟩ := hpt g e2; exact typed_ne t t2 (by decide))
  refine ⟨h.z.of_block (fun k e => by obtain ⟨cur, t⟩ := h.zt k e; exact hblk k (lt_of_heap t) (fun e2 => by obtain ⟨c1, t2⟩ := hpt k e2; exact typed_ne t t2 (by decide))), ?_, fun k e => by obtain ⟨cur, t⟩ := h.zt k e; exact ⟨cur, (hblk k (lt_of_heap t) (fun e2 => by obtain ⟨c1, t2⟩ := hpt k e2; exact typed_ne t t2 (by decide))).trans t⟩, fun k e => ?_, h.za, h.ua⟩
  · by_cases hs : Q1.ownBlock = some g'
    · obtain ⟨ao, c, e, hc, _⟩ := h.u
      exact SrcQ.of_row ho (fun j x _ hx => hm j x hx) e (by omega) hc (fun _ => by rw [hs]; rfl) (fun hp => h.ua ao m1 c e hp)
    · exact h.u.of_block (far hs) hfl
  · by_cases hs : Q1.ownBlock = some g'
    · have e2 : g' = k := by rw [hs] at e; simpa using e
      subst e2
      exact (row_typed ho rfl).2.2
    · obtain ⟨cur, t⟩ := h.ut k e
      exact ⟨cur, (far hs k e).trans t⟩
theorem O1.snoc {G cap : Nat} {w2 : World} {p r : Value} {n : Int} (h : O1 B w0 w q vo0 vo E P0 P zs Q0 Q vs) (hb : Below w.heap.size w w1)
    (ho : w2.ownsRow B 91 3 (.slice (some ⟨G, 0, none⟩) (E.length + 1) cap) (E.length + 1) (ocs E ++ [p, r, .int .i64 n])) (hg : w1.grownBy w2 vo.ownBlock) (hat : vo.ownBlock = some G ∨ G = w1.heap.size) :
    O1 B w0 (w2.setCell ⟨q, 0, none⟩ (.slice (some ⟨G, 0, none⟩) (E.length + 1) cap)) q vo0 (.slice (some ⟨G, 0, none⟩) (E.length + 1) cap) (E ++ [(p, r, n)]) P0 P zs Q0 Q vs ∧ ∀ (k : Nat) (cur : Array Value) (t : TypeId), w.heap[k]? = some (.cells cur t (0, 0)) → t = 3 ∨ t = 22 ∨ t = 36 → (w2.setCell ⟨q, 0, none⟩ (.slice (some ⟨G, 0, none⟩) (E.length + 1) cap)).heap[k]? = w.heap[k]? := by
  have hvo : ∀ k, vo.ownBlock = some k → ∃ cur, w.heap[k]? = some (.cells cur 91 (0, 0)) := fun k hk => (row_typed h.row hk).2.2
  have hqo : vo.ownBlock ≠ some q := fun e => by obtain ⟨cur, t⟩ := hvo q e; exact typed_ne h.qb t (by decide)
  have hq2 : w2.heap[q]? = some (.cells #[vo] 52 (0, 0)) := by
    rw [hg.block q (by have := hb.size; have := h.qlt; omega) (fun e => hqo e.symm), hb.block q h.qlt]; exact h.qb
  have hblk : ∀ k, k < w.heap.size → vo.ownBlock ≠ some k → k ≠ q → (w2.setCell ⟨q, 0, none⟩ (.slice (some ⟨G, 0, none⟩) (E.length + 1) cap)).heap[k]? = w.heap[k]? := fun k hk hne hkq => by
    rw [Below.heap_setCell _ _ _ _ hkq, hg.block k (by have := hb.size; omega) (fun e => hne e.symm), hb.block k hk]
  have hty : ∀ (k : Nat) (cur : Array Value) (t : TypeId), w.heap[k]? = some (.cells cur t (0, 0)) → t = 3 ∨ t = 22 ∨ t = 36 → (w2.setCell ⟨q, 0, none⟩ (.slice (some ⟨G, 0, none⟩) (E.length + 1) cap)).heap[k]? = w.heap[k]? := fun k cur t e ht =>
    hblk k (lt_of_heap e) (fun e2 => by obtain ⟨c1, t2⟩ := hvo k e2; exact typed_ne e t2 (by rcases ht with rfl | rfl | rfl <;> decide)) (fun e2 => by subst e2; exact typed_ne e h.qb (by rcases ht with rfl | rfl | rfl <;> decide))
  have hb2 : Below B w0 w2 := Below.grown (h.bel.trans (hb.mono h.size)) hg (Nat.le_trans h.size hb.size) (fun k hk => (row_typed h.row hk).1)
  refine ⟨⟨hb2.setCell h.hq _, h.hB, ?_, h.hq, ?_, ownsRow_of_block h.oP (fun k hk => ?_), ownsRow_of_block h.oQ (fun k hk => ?_), fun k hk => ?_, h.pb, h.qb', fun k h1 h2 h3 h4 h5 => ?_, fun k cur e => ?_⟩, hty⟩
  · rw [setCell_eq_setRow w2 q _ _ 52 (0, 0) _ hq2, setRow_heap w2 q _ _ 52 (0, 0) hq2]
    rfl
  · rw [List.length_append, ocs_app]
    exact ownsRow_of_block ho (fun k hk => Below.heap_setCell _ _ _ _ (fun e => by
      have e' : k = q := e
      subst e'
      obtain ⟨_, _, cur, t⟩ := row_typed ho hk
      exact typed_ne hq2 t (by decide)))
  · obtain ⟨_, k2, c1, t4⟩ := row_typed h.oP hk
    exact hty k c1 3 t4 (.inl rfl)
  · obtain ⟨_, k2, c1, t4⟩ := row_typed h.oQ hk
    exact hty k c1 _ t4 (.inr (.inl rfl))
  · have e : G = k := by simpa [Value.ownBlock] using hk
    subst e
    rcases hat with hat | hat
    · exact h.vb G hat
    · exact .inr (by have := hb.size; have := h.bel.size; omega)
  · rw [hblk k (Nat.lt_of_lt_of_le h1 h.bel.size) (fun e => by rcases h.vb k e with h6 | h6; exact h3 h6; omega) h2]
    exact h.fr k h1 h2 h3 h4 h5
  · have e2 := h.fl k cur e
    have e3 := e2
    rw [e] at e3
    rw [hty k cur _ e3 (.inr (.inr rfl))]
    exact e2
end Go.Proofs.YtfgfjkchcnpakaaDoor
