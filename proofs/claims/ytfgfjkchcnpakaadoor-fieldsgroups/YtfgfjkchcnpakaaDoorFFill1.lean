/-
  The law's owner: a list grows; an entry more.
-/
import Derived.Test.YtfgfjkchcnpakaaDoorFFill0
namespace Go.Proofs.YtfgfjkchcnpakaaDoor
set_option linter.unusedVariables false
open Go.RowKit

theorem set_at {us : List (Value × List Fld)} {d j : Nat} {x y : Value × List Fld} {z : Value × List Fld} (hd : us[d]? = some z) (e : (us.set d x)[j]? = some y) : (j = d ∧ y = x) ∨ (j ≠ d ∧ us[j]? = some y) := by
  rw [List.getElem?_set] at e
  split at e
  · next hj =>
    subst hj
    rw [if_pos (List.getElem?_eq_some_iff.1 hd).1] at e
    injection e with e
    exact .inl ⟨rfl, e.symm⟩
  · next hj => exact .inr ⟨fun h => hj h.symm, e⟩
theorem FS.grow {B : Nat} {w0 w : World} {p : Nat} {vo : Value} {E : List (Value × Nat)} {us : List (Value × List Fld)} {F : Nat → Nat → Prop} (h : FS B w0 w p vo E us F) {d N m e0 : Nat} {g u : Value} (hd : us[d]? = some (g, List.replicate N (YtfgfjkchcnpakaaDoor.mk (m : Int))))
    (hF : ∀ i, i < E.length → F i d → i = e0) (he : E[e0]? = some (u, m)) (hu : ∀ ao l c, u = .slice ao l c → l ≤ N) {w1 w' : World} (hb : Below w.heap.size w w1) {g' cap : Nat}
    (ho : w'.ownsRow B 36 2 (.slice (some ⟨g', 0, none⟩) (N + 1) cap) (N + 1) (fcs (List.replicate N (YtfgfjkchcnpakaaDoor.mk (m : Int))) ++ fcs [YtfgfjkchcnpakaaDoor.mk (m : Int)])) (hg : w1.grownBy w' g.ownBlock)
    (hat : g.ownBlock = some g' ∨ (g' = w1.heap.size ∧ ∀ k, k < w1.heap.size → w'.heap[k]? = w1.heap[k]?)) :
    FS B w0 w' p vo E (us.set d (.slice (some ⟨g', 0, none⟩) (N + 1) cap, List.replicate (N + 1) (YtfgfjkchcnpakaaDoor.mk (m : Int)))) F := by
  have hgo := h.own d _ _ hd
  have hon : OwnF w' B (.slice (some ⟨g', 0, none⟩) (N + 1) cap) (List.replicate (N + 1) (YtfgfjkchcnpakaaDoor.mk (m : Int))) := by
    unfold OwnF
    rw [List.length_replicate, List.replicate_succ', fcs_app]
    exact ho
  have hblk : ∀ q, q < w.heap.size → g.ownBlock ≠ some q → w'.heap[q]? = w.heap[q]? := fun q hq hne => by
    rw [hg.block q (by have := hb.size; omega) (fun e => hne e.symm), hb.block q hq]
  have hsz : w.heap.size ≤ w'.heap.size := Nat.le_trans hb.size hg.size
  have hgt : ∀ q, g.ownBlock = some q → ∃ cur, w.heap[q]? = some (.cells cur 36 (0, 0)) := fun q hq => (hgo.typed hq).2.2
  have hpg : g.ownBlock ≠ some p := fun e => by obtain ⟨cur, t⟩ := hgt p e; have := h.pb; rw [t] at this; cases this
  have hfar : ∀ (x : Value), (∀ k, x.ownBlock = some k → k < w.heap.size) → Ap g x → Ap (.slice (some ⟨g', 0, none⟩) (N + 1) cap) x := fun x hx ha k hk e => by
    have e1 : g' = k := by simpa [Value.ownBlock] using hk
    subst e1
    rcases hat with hat | ⟨hat, _⟩
    · exact ha g' hat e
    · have := hx g' e; have := hb.size; omega
  refine ⟨?_, h.hB, (hblk p h.plt hpg).trans h.pb, h.hp, ownsRow_of_block h.row (fun q hq => ?_), fun i v n ei => ?_, fun j x gs e => ?_, fun i j x fs' y gs e1 e2 hne => ?_, fun i v n j x gs e1 e2 hn => ?_, fun k o e1 e2 e3 e4 => by have := h.kp k o e1 e2 e3 e4; rw [hblk k (lt_of_heap this) (fun e => by obtain ⟨cur, t⟩ := hgt k e; rw [t] at this; injection this with this; exact e2 _ this.symm)]; exact this⟩
  · have hb1 := h.bel.trans (hb.mono h.size)
    exact Below.grown hb1 hg (Nat.le_trans h.hB hb1.size) (fun q hq => (hgo.typed hq).1)
  · obtain ⟨_, q2, cur1, t4⟩ := row_typed h.row hq
    exact hblk q q2 (fun e => by obtain ⟨cur, t⟩ := hgt q e; rw [t4] at t; cases t)
  · have hv := h.ent i v n ei
    by_cases hi : i = e0
    · subst hi
      rw [he] at ei
      injection ei with ei
      injection ei with ei1 ei2
      subst ei1 ei2
      rcases hat with hat | ⟨hat, hkeep⟩
      · by_cases hs : u.ownBlock = some g'
        · obtain ⟨h1, ⟨len, h2, h3⟩, hz, h4⟩ := hv
          refine ⟨h1, ⟨len, h2, ?_⟩, hz, fun k hk => ?_⟩
          · obtain ⟨ao, c, rfl, hc, h3⟩ := h3
            have hlen := hu _ _ _ rfl
            rw [List.length_replicate] at hlen
            refine ⟨ao, c, rfl, hc, ?_⟩
            rcases hz _ _ _ rfl with rfl | ⟨b, rfl⟩
            · cases hs
            · right
              have eb : b = g' := by simpa [Value.ownBlock] using hs
              subst eb
              refine ⟨b, 0, rfl, fun j f hj => ?_⟩
              rw [List.getElem?_replicate] at hj
              split at hj
              · next hjl =>
                obtain ⟨ao', c', e1, _, hh⟩ := hon.src
                injection e1 with e1
                subst e1
                rcases hh with h0 | ⟨b', off', e1, hh⟩
                · simp at h0
                · injection e1 with e1
                  injection e1 with e1 e2
                  subst e1 e2
                  exact hh j f (by rw [List.getElem?_replicate, if_pos (by omega)]; exact hj)
              · cases hj
          · have : g' = k := by rw [hs] at hk; simpa using hk
            subst this
            exact hon.typed rfl
        · exact hv.of_block hsz (fun k hk => hblk k (hv.2.2.2 k hk).2.1 (fun e => hs (by rw [hk, ← e, hat])))
      · exact hv.of_block hsz (fun k hk => by have := (hv.2.2.2 k hk).2.1; rw [hkeep k (by have := hb.size; omega), hb.block k this])
    · have ha := h.ape i v n d _ _ ei hd (fun hf => hi (hF i (List.getElem?_eq_some_iff.1 ei).1 hf))
      exact hv.of_block hsz (fun k hk => hblk k (hv.2.2.2 k hk).2.1 (fun e => ha k hk e))
  · rcases set_at hd e with ⟨rfl, e4⟩ | ⟨hj, e⟩
    · obtain ⟨e1, e2⟩ := Prod.mk.inj e4
      rw [e1, e2]
      exact hon
    · have hx := h.own j x gs e
      exact ownsRow_of_block hx (fun k hk => hblk k (hx.typed hk).2.1 (fun e2 => h.app d j _ _ x gs hd e (fun e3 => hj e3.symm) k e2 hk))
  · rcases set_at hd e1 with ⟨rfl, e5⟩ | ⟨hi, e8⟩
    · rcases set_at hd e2 with ⟨rfl, e6⟩ | ⟨hj, e2⟩
      · exact absurd rfl hne
      · rw [(Prod.mk.inj e5).1]
        exact hfar y (fun k hk => ((h.own j y gs e2).typed hk).2.1) (h.app i j _ _ y gs hd e2 hne)
    · rcases set_at hd e2 with ⟨rfl, e6⟩ | ⟨hj, e2⟩
      · rw [(Prod.mk.inj e6).1]
        exact (hfar x (fun k hk => ((h.own i x fs' e8).typed hk).2.1) (h.app j i _ _ x fs' hd e8 (fun e => hne e.symm))).symm
      · exact h.app i j x fs' y gs e8 e2 hne
  · rcases set_at hd e2 with ⟨rfl, e6⟩ | ⟨hj, e2⟩
    · rw [(Prod.mk.inj e6).1]
      exact (hfar v (fun k hk => ((h.ent i v n e1).2.2.2 k hk).2.1) (h.ape i v n j _ _ e1 hd hn).symm).symm
    · exact h.ape i v n j x gs e1 e2 hn
theorem FS.snoc {B : Nat} {w0 w : World} {p : Nat} {vo : Value} {E : List (Value × Nat)} {us : List (Value × List Fld)} {F F' : Nat → Nat → Prop} (h : FS B w0 w p vo E us F) {v : Value} {m : Nat} (hv : Ent w B v m) (hF : ∀ i j, i < E.length → F i j → F' i j)
    (hn : ∀ (j : Nat) u fs, us[j]? = some (u, fs) → ¬ F' E.length j → Ap v u) {w1 w2 : World} (hb : Below w.heap.size w w1) {G cap : Nat}
    (ho : w2.ownsRow B 89 2 (.slice (some ⟨G, 0, none⟩) (E.length + 1) cap) (E.length + 1) (ecs E ++ [v, .int .i64 (m : Int)])) (hg : w1.grownBy w2 vo.ownBlock) :
    FS B w0 (w2.setCell ⟨p, 0, none⟩ (.slice (some ⟨G, 0, none⟩) (E.length + 1) cap)) p (.slice (some ⟨G, 0, none⟩) (E.length + 1) cap) (E ++ [(v, m)]) us F' := by
  have hvo : ∀ q, vo.ownBlock = some q → ∃ cur, w.heap[q]? = some (.cells cur 89 (0, 0)) := fun q hq => (row_typed h.row hq).2.2
  have hpo : vo.ownBlock ≠ some p := fun e => by obtain ⟨cur, t⟩ := hvo p e; have := h.pb; rw [t] at this; cases this
  have hp2 : w2.heap[p]? = some (.cells #[vo] 48 (0, 0)) := by
    rw [hg.block p (by have := hb.size; have := h.plt; omega) (fun e => hpo e.symm), hb.block p h.plt]; exact h.pb
  have hsz : w.heap.size ≤ (w2.setCell ⟨p, 0, none⟩ (.slice (some ⟨G, 0, none⟩) (E.length + 1) cap)).heap.size := by
    have := Nat.le_trans hb.size hg.size
    simpa [World.setCell] using this
  have hblk : ∀ q, q < w.heap.size → vo.ownBlock ≠ some q → q ≠ p → (w2.setCell ⟨p, 0, none⟩ (.slice (some ⟨G, 0, none⟩) (E.length + 1) cap)).heap[q]? = w.heap[q]? := fun q hq hne hqp => by
    rw [Below.heap_setCell _ _ _ _ hqp, hg.block q (by have := hb.size; omega) (fun e => hne e.symm), hb.block q hq]
  have hfld : ∀ q cur, w.heap[q]? = some (.cells cur 36 (0, 0)) → q < w.heap.size → (w2.setCell ⟨p, 0, none⟩ (.slice (some ⟨G, 0, none⟩) (E.length + 1) cap)).heap[q]? = w.heap[q]? := fun q cur t hq =>
    hblk q hq (fun e => by obtain ⟨cur1, t1⟩ := hvo q e; rw [t] at t1; cases t1) (fun e => by subst e; have := h.pb; rw [t] at this; cases this)
  have hent : ∀ x n, Ent w B x n → Ent (w2.setCell ⟨p, 0, none⟩ (.slice (some ⟨G, 0, none⟩) (E.length + 1) cap)) B x n := fun x n hx =>
    hx.of_block hsz (fun k hk => by obtain ⟨_, q2, cur, t⟩ := hx.2.2.2 k hk; exact hfld k cur t q2)
  have hb2 : Below B w0 w2 := Below.grown (h.bel.trans (hb.mono h.size)) hg (Nat.le_trans h.size hb.size) (fun q hq => (row_typed h.row hq).1)
  refine ⟨hb2.setCell h.hp _, h.hB, ?_, h.hp, ?_, fun i x n e => ?_, fun j u fs e => ?_, h.app, fun i x n j u fs e1 e2 hne => ?_, fun k o e1 e2 e3 e4 => by have := h.kp k o e1 e2 e3 e4; rw [hblk k (lt_of_heap this) (fun e => by obtain ⟨cur, t⟩ := hvo k e; rw [t] at this; injection this with this; exact e3 _ this.symm) e4]; exact this⟩
  · rw [setCell_eq_setRow w2 p _ _ 48 (0, 0) _ hp2]
    rw [setRow_heap w2 p _ _ 48 (0, 0) hp2]
    rfl
  · rw [List.length_append, ecs_app]
    exact ownsRow_of_block ho (fun k hk => Below.heap_setCell _ _ _ _ (fun e => by
      have e' : k = p := e
      subst e'
      obtain ⟨_, _, cur, t⟩ := row_typed ho hk
      rw [hp2] at t; cases t))
  · by_cases hi : i < E.length
    · rw [List.getElem?_append_left hi] at e
      exact hent x n (h.ent i x n e)
    · rw [List.getElem?_append_right (by omega)] at e
      have : i - E.length = 0 := by
        rcases Nat.eq_zero_or_pos (i - E.length) with h | h
        · exact h
        · rw [List.getElem?_eq_none (by simp; omega)] at e; cases e
      rw [this] at e
      injection e with e
      injection e with e1 e2
      subst e1 e2
      exact hent v m hv
  · have hu := h.own j u fs e
    exact ownsRow_of_block hu (fun k hk => by obtain ⟨_, q2, cur, t⟩ := hu.typed hk; exact hfld k cur t q2)
  · by_cases hi : i < E.length
    · rw [List.getElem?_append_left hi] at e1
      exact h.ape i x n j u fs e1 e2 (fun hf => hne (hF i j hi hf))
    · rw [List.getElem?_append_right (by omega)] at e1
      have hi0 : i - E.length = 0 := by
        rcases Nat.eq_zero_or_pos (i - E.length) with h | h
        · exact h
        · rw [List.getElem?_eq_none (by simp; omega)] at e1; cases e1
      rw [hi0] at e1
      injection e1 with e1
      injection e1 with e1 e3
      subst e1 e3
      have hie : i = E.length := by omega
      subst hie
      exact hn j u fs e2 hne
end Go.Proofs.YtfgfjkchcnpakaaDoor
