/-
  FieldsParts: the lists that the law builds, apart from one another; parts that came in.
-/
import Derived.Test.YtfgfjkchcnpakaaDoorFPartsM
import Derived.Test.YtfgfjkchcnpakaaDoorFFour
namespace Go.Proofs.YtfgfjkchcnpakaaDoor
set_option linter.unusedVariables false
open Go.RowKit

theorem row_far {wr w1 w' : World} {B T s n : Nat} {u v : Value} {xs : List Value} (hu : wr.ownsRow B T s u n xs) (ha : Ap v u) (hb : Below wr.heap.size wr w1) (hg : w1.grownBy w' v.ownBlock) : w'.ownsRow B T s u n xs :=
  ownsRow_of_block hu fun k hk => by
    have h1 := (hu.lt k hk).2
    rw [hg.block k (by have := hb.size; omega) (fun e => ha k e.symm hk), hb.block k h1]
theorem ap_far {wr w1 : World} {B T s n g m c : Nat} {u v : Value} {xs : List Value} (hu : wr.ownsRow B T s u n xs) (ha : Ap v u) (hb : Below wr.heap.size wr w1) (hat : v.ownBlock = some g ∨ g = w1.heap.size) : Ap (.slice (some ⟨g, 0, none⟩) m c) u := fun k hk e => by
  have e1 : g = k := by simpa [Value.ownBlock] using hk
  subst e1
  rcases hat with hat | hat
  · exact ha g hat e
  · have := (hu.lt g e).2
    have := hb.size
    omega
/-- The list, and the parts that are wanted. -/
structure PS (w0 wr : World) (vl : Value) (L : List Fld) (vw : Value) (vs : List Value) (gss : List (List Fld)) : Prop where
  bel : Below w0.heap.size w0 wr
  ol : OwnF wr w0.heap.size vl L
  ow : wr.ownsRow w0.heap.size 22 1 vw gss.length vs
  op : ∀ (i : Nat) (gs : List Fld), gss[i]? = some gs → ∃ u, vs[i]? = some u ∧ OwnF wr w0.heap.size u gs
  al : ∀ (i : Nat) (u : Value), vs[i]? = some u → Ap vl u
/-- And one part more. -/
structure PQ (w0 wr : World) (vl : Value) (L : List Fld) (vw : Value) (vs : List Value) (gss : List (List Fld)) (vp : Value) (p : List Fld) : Prop where
  ps : PS w0 wr vl L vw vs gss
  oq : OwnF wr w0.heap.size vp p
  aq : Ap vl vp
  ar : ∀ (i : Nat) (u : Value), vs[i]? = some u → Ap vp u
theorem PS.len {w0 wr : World} {vl : Value} {L : List Fld} {vw : Value} {vs : List Value} {gss : List (List Fld)} (h : PS w0 wr vl L vw vs gss) : vs.length = gss.length := by have := h.ow.1; omega
theorem PS.own {w0 wr : World} {vl : Value} {L : List Fld} {vw : Value} {vs : List Value} {gss : List (List Fld)} (h : PS w0 wr vl L vw vs gss) {i : Nat} {u : Value} (hu : vs[i]? = some u) : ∃ gs, gss[i]? = some gs ∧ OwnF wr w0.heap.size u gs := by
  have hi := (List.getElem?_eq_some_iff.1 hu).1
  rw [h.len] at hi
  obtain ⟨u', e, ho⟩ := h.op i _ (List.getElem?_eq_getElem hi)
  rw [hu] at e; injection e with e; subst e
  exact ⟨_, List.getElem?_eq_getElem hi, ho⟩
theorem PS.apw {w0 wr : World} {vl : Value} {L : List Fld} {vw : Value} {vs : List Value} {gss : List (List Fld)} (h : PS w0 wr vl L vw vs gss) : Ap vw vl := h.ol.ne_row h.ow
theorem PS.zero (w0 wr : World) (hb : Below w0.heap.size w0 wr) : PS w0 wr (.slice none 0 0) [] (.slice none 0 0) [] [] :=
  ⟨hb, OwnF.nil _ _, World.ownsRow_nil _ _ _ _, fun i gs h => by simp at h, fun i u h => by simp at h⟩
theorem PS.below {w0 wr w' : World} {vl : Value} {L : List Fld} {vw : Value} {vs : List Value} {gss : List (List Fld)} (h : PS w0 wr vl L vw vs gss) (hb : Below wr.heap.size wr w') : PS w0 w' vl L vw vs gss :=
  ⟨h.bel.trans (hb.mono h.bel.size), h.ol.below hb, ownsRow_below h.ow hb, fun i gs hi => by obtain ⟨u, e, ho⟩ := h.op i gs hi; exact ⟨u, e, ho.below hb⟩, h.al⟩
theorem PQ.below {w0 wr w' : World} {vl : Value} {L : List Fld} {vw : Value} {vs : List Value} {gss : List (List Fld)} {vp : Value} {p : List Fld} (h : PQ w0 wr vl L vw vs gss vp p) (hb : Below wr.heap.size wr w') : PQ w0 w' vl L vw vs gss vp p :=
  ⟨h.ps.below hb, h.oq.below hb, h.aq, h.ar⟩
/-- The list grows. -/
theorem PS.grow {w0 wr w1 w' : World} {vl : Value} {L M : List Fld} {vw : Value} {vs : List Value} {gss : List (List Fld)} {g n cap : Nat} (h : PS w0 wr vl L vw vs gss) (hb : Below wr.heap.size wr w1)
    (hn : n = (L ++ M).length) (ho : w'.ownsRow w0.heap.size 36 2 (.slice (some ⟨g, 0, none⟩) n cap) n (fcs L ++ fcs M)) (hg : w1.grownBy w' vl.ownBlock) (hat : vl.ownBlock = some g ∨ g = w1.heap.size) :
    PS w0 w' (.slice (some ⟨g, 0, none⟩) n cap) (L ++ M) vw vs gss := by
  have hb1 := h.bel.trans (hb.mono h.bel.size)
  refine ⟨Below.grown hb1 hg hb1.size (fun q hq => (h.ol.lt q hq).1), ?_, row_far h.ow h.apw.symm hb hg, fun i gs hi => ?_, fun i u hu => ?_⟩
  · unfold OwnF; rw [fcs_app, ← hn]; exact ho
  · obtain ⟨u, e, hu⟩ := h.op i gs hi
    exact ⟨u, e, row_far hu (h.al i u e) hb hg⟩
  · obtain ⟨gs, _, hu2⟩ := h.own hu
    exact ap_far hu2 (h.al i u hu) hb hat
/-- A part begins. -/
theorem PQ.start {w0 wr : World} {vl : Value} {L : List Fld} {vw : Value} {vs : List Value} {gss : List (List Fld)} (h : PS w0 wr vl L vw vs gss) :
    PQ w0 (wr.alloc (.cells #[.int .i64 269, .string ⟨#[120]⟩] 36)) vl L vw vs gss (.slice (some ⟨wr.heap.size, 0, none⟩) 1 1) [(269, [120])] := by
  have hb : Below wr.heap.size wr (wr.alloc (.cells #[.int .i64 269, .string ⟨#[120]⟩] 36)) := (Below.refl _ wr).alloc (Nat.le_refl _) _
  refine ⟨h.below hb, World.ownsRow_lit wr #[.int .i64 269, .string ⟨#[120]⟩] 1 h.bel.size (by decide) rfl, fun k hk e => ?_, fun i u hu k hk e => ?_⟩
  · have e1 : wr.heap.size = k := by simpa [Value.ownBlock] using e
    have := (h.ol.lt k hk).2
    omega
  · have e1 : wr.heap.size = k := by simpa [Value.ownBlock] using hk
    obtain ⟨gs, _, hu2⟩ := h.own hu
    have := (hu2.lt k e).2
    omega
/-- A part grows. -/
theorem PQ.grow {w0 wr w1 w' : World} {vl : Value} {L p M : List Fld} {vw vp : Value} {vs : List Value} {gss : List (List Fld)} {g n cap : Nat} (h : PQ w0 wr vl L vw vs gss vp p) (hb : Below wr.heap.size wr w1)
    (hn : n = (p ++ M).length) (ho : w'.ownsRow w0.heap.size 36 2 (.slice (some ⟨g, 0, none⟩) n cap) n (fcs p ++ fcs M)) (hg : w1.grownBy w' vp.ownBlock) (hat : vp.ownBlock = some g ∨ g = w1.heap.size) :
    PQ w0 w' vl L vw vs gss (.slice (some ⟨g, 0, none⟩) n cap) (p ++ M) := by
  have hb1 := h.ps.bel.trans (hb.mono h.ps.bel.size)
  have hw := h.oq.ne_row h.ps.ow
  refine ⟨⟨Below.grown hb1 hg hb1.size (fun q hq => (h.oq.lt q hq).1), row_far h.ps.ol h.aq.symm hb hg, row_far h.ps.ow (Ap.symm hw) hb hg, fun i gs hi => ?_, h.ps.al⟩, ?_, (ap_far h.ps.ol h.aq.symm hb hat).symm, fun i u hu => ?_⟩
  · obtain ⟨u, e, hu⟩ := h.ps.op i gs hi
    exact ⟨u, e, row_far hu (h.ar i u e) hb hg⟩
  · unfold OwnF; rw [fcs_app, ← hn]; exact ho
  · obtain ⟨gs, _, hu2⟩ := h.ps.own hu
    exact ap_far hu2 (h.ar i u hu) hb hat
/-- A part is wanted. -/
theorem PQ.snoc {w0 wr w1 w' : World} {vl : Value} {L p : List Fld} {vw vp : Value} {vs : List Value} {gss : List (List Fld)} {g n cap : Nat} (h : PQ w0 wr vl L vw vs gss vp p) (hb : Below wr.heap.size wr w1)
    (hn : n = (gss ++ [p]).length) (ho : w'.ownsRow w0.heap.size 22 1 (.slice (some ⟨g, 0, none⟩) n cap) n (vs ++ [vp])) (hg : w1.grownBy w' vw.ownBlock) :
    PS w0 w' vl L (.slice (some ⟨g, 0, none⟩) n cap) (vs ++ [vp]) (gss ++ [p]) := by
  have hb1 := h.ps.bel.trans (hb.mono h.ps.bel.size)
  have hw := h.oq.ne_row h.ps.ow
  have hl := h.ps.len
  refine ⟨Below.grown hb1 hg hb1.size (fun q hq => (h.ps.ow.lt q hq).1), row_far h.ps.ol h.ps.apw hb hg, by rw [← hn]; exact ho, fun i gs hi => ?_, fun i u hu => ?_⟩
  · by_cases e : i < gss.length
    · rw [List.getElem?_append_left e] at hi
      obtain ⟨u, e2, hu⟩ := h.ps.op i gs hi
      exact ⟨u, by rw [List.getElem?_append_left (by omega)]; exact e2, row_far hu (hu.ne_row h.ps.ow) hb hg⟩
    · rw [List.getElem?_append_right (by omega)] at hi
      have ei : i - gss.length = 0 := by
        rcases Nat.eq_zero_or_pos (i - gss.length) with h | h
        · exact h
        · rw [List.getElem?_eq_none (by simp; omega)] at hi; cases hi
      rw [ei] at hi
      simp at hi
      subst hi
      exact ⟨vp, by rw [List.getElem?_append_right (by omega), show i - vs.length = 0 by omega]; rfl, row_far h.oq hw hb hg⟩
  · by_cases e : i < vs.length
    · rw [List.getElem?_append_left e] at hu
      exact h.ps.al i u hu
    · rw [List.getElem?_append_right (by omega)] at hu
      have ei : i - vs.length = 0 := by
        rcases Nat.eq_zero_or_pos (i - vs.length) with h | h
        · exact h
        · rw [List.getElem?_eq_none (by simp; omega)] at hu; cases hu
      rw [ei] at hu
      simp at hu
      subst hu
      exact h.aq
/-- Parts in memory: what may be read. -/
def SrcP (w : World) (v : Value) (ps : List (List Fld)) : Prop := ∃ ao cap, v = .slice ao ps.length cap ∧ ps.length ≤ cap ∧ (ps = [] ∨ ∃ b off, ao = some ⟨b, off, none⟩ ∧ ∀ j p, ps[j]? = some p → ∃ u, w.cell? ⟨b, off + j, none⟩ = some u ∧ SrcF w u p)
theorem SrcP.below {w w' : World} {v : Value} {ps : List (List Fld)} (h : SrcP w v ps) (hb : Below w.heap.size w w') : SrcP w' v ps := by
  obtain ⟨ao, cap, rfl, hc, h⟩ := h
  refine ⟨ao, cap, rfl, hc, ?_⟩
  rcases h with h | ⟨b, off, e, h⟩
  · exact .inl h
  · refine .inr ⟨b, off, e, fun j p hj => ?_⟩
    obtain ⟨u, h1, h2⟩ := h j p hj
    have hlt : b < w.heap.size := World.block_lt_of_cell? _ _ h1
    exact ⟨u, by rw [hb.cell (p := ⟨b, _, none⟩) hlt]; exact h1, h2.below hb⟩
theorem filter_snoc {α : Type} (p : α → Bool) (l : List α) (k : Nat) (h : k < l.length) : (l.take (k + 1)).filter p = (l.take k).filter p ++ (if p l[k] then [l[k]] else []) := by
  rw [List.take_succ_eq_append_getElem h, List.filter_append]
  congr 1
  simp [List.filter_cons]
theorem fnew (w : World) (f : Fld) : ∀ j u, (fcs [f])[j]? = some u → (w.alloc (.cells #[.int .i64 f.1, .string (bs f.2)] 36)).cell? ((⟨w.heap.size, 0, none⟩ : Addr).add j) = some u :=
  World.news_of_block (heap_alloc_new w (.cells #[.int .i64 f.1, .string (bs f.2)] 36))
end Go.Proofs.YtfgfjkchcnpakaaDoor
