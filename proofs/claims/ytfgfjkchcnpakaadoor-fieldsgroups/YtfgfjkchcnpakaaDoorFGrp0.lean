/-
  FieldsGroups: what a turn holds.
-/
import Derived.Test.YtfgfjkchcnpakaaDoorFRefGroups2
import Derived.Test.YtfgfjkchcnpakaaDoorFRefFind
import Derived.Test.YtfgfjkchcnpakaaDoorFFill2
import Derived.Test.YtfgfjkchcnpakaaDoorFOuts3
namespace Go.Proofs.YtfgfjkchcnpakaaDoor
set_option linter.unusedVariables false
open Go.RowKit

def gP (r : Except Int (List (List Fld) × List Fld)) : List (List Fld) := match r with | .ok (p, _) => p | .error _ => []
def gA (r : Except Int (List (List Fld) × List Fld)) : List Fld := match r with | .ok (_, a) => a | .error _ => []
def gE (r : Except Int (List (List Fld) × List Fld)) : Int := match r with | .ok _ => 0 | .error e => e
theorem GrpRet.uni {r : Except Int (List (List Fld) × List Fld)} {w w' : World} {x : Ending} (h : GrpRet r w x w') : ∃ p u, x = .returned (.tuple #[p, u, .int .i64 (gE r)]) ∧ OwnPW w' w.heap.size p (gP r) u ∧ OwnF w' w.heap.size u (gA r) ∧ Below w.heap.size w w' := by
  obtain ⟨hb, h⟩ := h
  match r, h with
  | .ok (ps, a), ⟨p, u, e, h1, h2⟩ => exact ⟨p, u, e, h1, h2, hb⟩
  | .error e, h => exact ⟨_, _, h, OwnPW.nil _ _ _, OwnF.nil _ _, hb⟩
theorem RGR.uni {r : Except Int (List (List Fld) × List Fld)} {w w' : World} {x : Ending} (h : RGR r w x w') : ∃ p u, x = .returned (.tuple #[p, u, .int .i64 (gE r)]) ∧ OwnP w' w.heap.size p (gP r) ∧ OwnF w' w.heap.size u (gA r) ∧ Below w.heap.size w w' := by
  obtain ⟨hb, h⟩ := h
  match r, h with
  | .ok (ps, a), ⟨p, u, e, h1, h2⟩ => exact ⟨p, u, e, h1, h2, hb⟩
  | .error e, h => exact ⟨_, _, h, OwnP.nil _ _, OwnF.nil _ _, hb⟩
theorem cutL_mem (b : List Fld) : ∀ (bg : List Nat) (gs : List Fld), gs ∈ cutL b bg → gs.length ≤ b.length
  | [], gs, h => by simp [cutL] at h
  | [x], gs, h => by simp [cutL] at h; subst h; simp
  | x :: y :: r, gs, h => by
    rcases List.mem_cons.1 (show gs ∈ (b.take y).drop x :: cutL b (y :: r) from h) with rfl | h
    · simp; omega
    · exact cutL_mem b (y :: r) gs h
theorem grp_bound (fs : List Fld) (c f : Int) : (gP (grpL fs c f)).length ≤ 99 ∧ (∀ gs ∈ gP (grpL fs c f), gs.length ≤ fs.length) ∧ (gA (grpL fs c f)).length ≤ fs.length := by
  unfold grpL
  split
  · exact ⟨by simp [gP], by simp [gP], by simp [gA]⟩
  · rename_i a _
    unfold grpAt
    split
    · split
      · rename_i h
        refine ⟨?_, fun gs hg => ?_, by simp [gA]; omega⟩
        · show (cutL _ _).length ≤ 99
          rw [cutL_len]
          have := puN_le ((fs[a]?.map (·.2)).getD []) 99 (by decide)
          omega
        · have := cutL_mem _ _ gs (show gs ∈ cutL _ _ from hg)
          rw [List.length_drop] at this
          omega
      · exact ⟨by simp [gP], by simp [gP], by simp [gA]⟩
    · exact ⟨by simp [gP], by simp [gP], by simp [gA]⟩
/-- A turn: its range of blocks, the places, the parts, what stood ahead. -/
structure TT where
  b : Nat
  e : Nat
  h : Nat
  pv : Value
  lv : Value
  uu : Value
  vs : List Value
structure Turn (w : World) (t : TT) (F : List Nat) (P : List (List Fld)) (A : List Fld) : Prop where
  pl : w.ownsRow t.b 3 1 t.pv F.length (ncs F)
  pr : w.ownsRow t.b 22 1 t.lv P.length t.vs
  pt : ∀ (i : Nat) (gs : List Fld), P[i]? = some gs → ∃ u, t.vs[i]? = some u ∧ OwnF w t.b u gs
  ap : ApL t.vs
  au : ∀ (i : Nat) x, t.vs[i]? = some x → Ap x t.uu
  hb : w.heap[t.h]? = some (.cells #[t.uu] 22 (0, 0))
  hh : t.b ≤ t.h ∧ t.h < t.e
  ou : OwnF w t.b t.uu A
  ep : ∀ k, t.pv.ownBlock = some k → k < t.e
  el : ∀ k, t.lv.ownBlock = some k → k < t.e
  ev : ∀ (i : Nat) x, t.vs[i]? = some x → ∀ k, x.ownBlock = some k → k < t.e
  eu : ∀ k, t.uu.ownBlock = some k → k < t.e
/-- All blocks but those of two types are as they were. -/
def Kt (w w' : World) : Prop := ∀ (k : Nat) cur t, w.heap[k]? = some (.cells cur t (0, 0)) → t ≠ 55 → t ≠ 37 → w'.heap[k]? = w.heap[k]?
theorem Kt.trans {w1 w2 w3 : World} (h : Kt w1 w2) (h2 : Kt w2 w3) : Kt w1 w3 := fun k cur t e n1 n2 => by
  have e2 := h k cur t e n1 n2
  rw [h2 k cur t (e2.trans e) n1 n2, e2]
theorem Kt.of_below {w w' : World} (h : Below w.heap.size w w') : Kt w w' := fun k cur t e _ _ => h.block k (lt_of_heap e)
theorem Kt.of_grown {w w1 w' : World} {B T s n : Nat} {v : Value} {xs : List Value} (hr : w.ownsRow B T s v n xs) (hT : T = 55 ∨ T = 37) (hb : Below w.heap.size w w1) (hg : w1.grownBy w' v.ownBlock) : Kt w w' := fun k cur t e n1 n2 => by
  have hlt := lt_of_heap e
  rw [hg.block k (by have := hb.size; omega) (fun e2 => by obtain ⟨_, _, c2, t2⟩ := row_typed hr e2.symm; exact typed_ne e t2 (by rcases hT with rfl | rfl <;> assumption)), hb.block k hlt]
theorem ownsRow_kt {w w' : World} {B T s n : Nat} {v : Value} {xs : List Value} (h : w.ownsRow B T s v n xs) (hk : Kt w w') (h1 : T ≠ 55) (h2 : T ≠ 37) : w'.ownsRow B T s v n xs :=
  ownsRow_of_block h fun k e => by obtain ⟨_, _, cur, t⟩ := row_typed h e; exact hk k cur T t h1 h2
theorem OwnF.kt {w w' : World} {B : Nat} {v : Value} {fs : List Fld} (h : OwnF w B v fs) (hk : Kt w w') : OwnF w' B v fs := ownsRow_kt h hk (by decide) (by decide)
theorem Turn.kt {w w' : World} {t : TT} {F : List Nat} {P : List (List Fld)} {A : List Fld} (h : Turn w t F P A) (hk : Kt w w') : Turn w' t F P A :=
  ⟨ownsRow_kt h.pl hk (by decide) (by decide), ownsRow_kt h.pr hk (by decide) (by decide), fun i gs e => by obtain ⟨u, e2, ho⟩ := h.pt i gs e; exact ⟨u, e2, ho.kt hk⟩, h.ap, h.au, (hk _ _ _ h.hb (by decide) (by decide)).trans h.hb, h.hh, h.ou.kt hk, h.ep, h.el, h.ev, h.eu⟩
def sv (t : TT) : Value := .slice (some ⟨t.h, 0, none⟩) 1 1
structure GS (B : Nat) (w : World) (T : List TT) (va vl : Value) (F : List Nat) (P : List (List Fld)) (A : List Fld) : Prop where
  tn : ∀ t ∈ T, Turn w t F P A ∧ B ≤ t.b ∧ t.e ≤ w.heap.size
  od : T.Pairwise (fun s t => s.e ≤ t.b)
  ra : w.ownsRow B 55 1 va T.length (T.map TT.pv)
  rl : w.ownsRow B 37 1 vl (2 * T.length) (T.flatMap fun t => [t.lv, sv t])
theorem GS.zero (B : Nat) (w : World) (F : List Nat) (P : List (List Fld)) (A : List Fld) : GS B w [] (.slice none 0 0) (.slice none 0 0) F P A :=
  ⟨fun t h => by simp at h, List.Pairwise.nil, World.ownsRow_nil _ _ _ _, World.ownsRow_nil _ _ _ _⟩
theorem GS.below {B : Nat} {w w' : World} {T : List TT} {va vl : Value} {F : List Nat} {P : List (List Fld)} {A : List Fld} (h : GS B w T va vl F P A) (hb : Below w.heap.size w w') : GS B w' T va vl F P A :=
  ⟨fun t ht => ⟨(h.tn t ht).1.kt (Kt.of_below hb), (h.tn t ht).2.1, Nat.le_trans (h.tn t ht).2.2 hb.size⟩, h.od, ownsRow_below h.ra hb, ownsRow_below h.rl hb⟩
theorem GS.snoc {B : Nat} {w w1 w2 w3 : World} {T : List TT} {va vl va' vl' pv lv uu : Value} {F : List Nat} {P : List (List Fld)} {A : List Fld} (h : GS B w T va vl F P A) (hB : B ≤ w.heap.size) (hb : Below w.heap.size w w1)
    (hp : OwnN w1 w.heap.size pv F) (hq : OwnPW w1 w.heap.size lv P uu) (hu : OwnF w1 w.heap.size uu A)
    (hg2 : (w1.alloc (.cells #[pv] 55)).grownBy w2 va.ownBlock) (ho2 : w2.ownsRow B 55 1 va' (T.length + 1) (T.map TT.pv ++ [pv]))
    (hg3 : ((w2.alloc (.cells #[uu] 22)).alloc (.cells #[lv, .slice (some ⟨w2.heap.size, 0, none⟩) 1 1] 37)).grownBy w3 vl.ownBlock) (ho3 : w3.ownsRow B 37 1 vl' (2 * T.length + 2) ((T.flatMap fun t => [t.lv, sv t]) ++ [lv, .slice (some ⟨w2.heap.size, 0, none⟩) 1 1])) :
    (∃ t, GS B w3 (T ++ [t]) va' vl' F P A) ∧ Kt w1 w3 ∧ Below B w w3 := by
  have g1 := h.below hb
  have ba : Below w1.heap.size w1 (w1.alloc (.cells #[pv] 55)) := (Below.refl _ w1).alloc (Nat.le_refl _) _
  have k12 : Kt w1 w2 := Kt.of_grown g1.ra (.inl rfl) ba hg2
  have bc : Below w2.heap.size w2 (w2.alloc (.cells #[uu] 22)) := (Below.refl _ w2).alloc (Nat.le_refl _) _
  have bd : Below w2.heap.size w2 ((w2.alloc (.cells #[uu] 22)).alloc (.cells #[lv, .slice (some ⟨w2.heap.size, 0, none⟩) 1 1] 37)) := bc.alloc (by simp) _
  have rl2 : w2.ownsRow B 37 1 vl (2 * T.length) (T.flatMap fun t => [t.lv, sv t]) := ownsRow_of_block g1.rl fun k e => by
    obtain ⟨_, k2, c1, t1⟩ := row_typed g1.rl e
    rw [hg2.block k (by simp; omega) (fun e2 => by obtain ⟨_, _, c2, t2⟩ := row_typed g1.ra e2.symm; exact typed_ne t1 t2 (by decide)), ba.block k k2]
  have k23 : Kt w2 w3 := Kt.of_grown rl2 (.inr rfl) bd hg3
  have k13 := k12.trans k23
  have bg2 : Below B w w2 := Below.grown ((hb.mono hB).trans (ba.mono (Nat.le_trans hB hb.size))) hg2 (Nat.le_trans hB (Nat.le_trans hb.size ba.size)) (fun k hk => (row_typed g1.ra hk).1)
  have bg3 : Below B w w3 := Below.grown (bg2.trans (bd.mono (Nat.le_trans hB bg2.size))) hg3 (Nat.le_trans hB (Nat.le_trans bg2.size bd.size)) (fun k hk => (row_typed rl2 hk).1)
  have s12 : w1.heap.size ≤ w2.heap.size := Nat.le_trans ba.size hg2.size
  have s23 : w2.heap.size < w3.heap.size := by have := hg3.size; simp at this; omega
  obtain ⟨vs, q1, q2, q3, q4⟩ := hq
  have hvl : vs.length = P.length := by have := q1.1; omega
  have ra3 : w3.ownsRow B 55 1 va' (T.length + 1) (T.map TT.pv ++ [pv]) := ownsRow_of_block ho2 fun k e => by
    obtain ⟨_, k2, c1, t1⟩ := row_typed ho2 e
    rw [hg3.block k (by simp; omega) (fun e2 => by obtain ⟨_, _, c2, t2⟩ := row_typed rl2 e2.symm; exact typed_ne t1 t2 (by decide)), bd.block k k2]
  have hblk : w3.heap[w2.heap.size]? = some (.cells #[uu] 22 (0, 0)) := by
    rw [hg3.block _ (by simp; omega) (fun e2 => by have := (row_typed rl2 e2.symm).2.1; omega)]
    rw [((Below.refl _ (w2.alloc (.cells #[uu] 22))).alloc (Nat.le_refl _) _).block _ (by simp)]
    exact heap_alloc_new w2 _
  refine ⟨⟨⟨w.heap.size, w3.heap.size, w2.heap.size, pv, lv, uu, vs⟩, fun t ht => ?_, ?_, ?_, ?_⟩, k13, bg3⟩
  · rcases List.mem_append.1 ht with ht | ht
    · exact ⟨(g1.tn t ht).1.kt k13, (h.tn t ht).2.1, by have := (g1.tn t ht).2.2; omega⟩
    · obtain rfl := List.mem_singleton.1 ht
      refine ⟨⟨ownsRow_kt hp k13 (by decide) (by decide), ownsRow_kt q1 k13 (by decide) (by decide), fun i gs e => by obtain ⟨u, e2, ho⟩ := q2 i gs e; exact ⟨u, e2, ho.kt k13⟩, q3, fun i x e k hk => q4 i x e k hk, hblk, ⟨by show w.heap.size ≤ w2.heap.size; have := hb.size; omega, s23⟩, hu.kt k13, fun k hk => ?_, fun k hk => ?_, fun i x e k hk => ?_, fun k hk => ?_⟩, hB, Nat.le_refl _⟩
      · have := (hp.lt k hk).2; show k < w3.heap.size; omega
      · have := (q1.lt k hk).2; show k < w3.heap.size; omega
      · have hi := (List.getElem?_eq_some_iff.1 e).1
        obtain ⟨u, e2, ho⟩ := q2 i _ (List.getElem?_eq_getElem (by have : i < vs.length := hi; omega))
        have e3 : vs[i]? = some x := e
        rw [e3] at e2
        injection e2 with e2
        subst e2
        have := (ho.lt k hk).2; show k < w3.heap.size; omega
      · have := (hu.lt k hk).2; show k < w3.heap.size; omega
  · rw [List.pairwise_append]
    refine ⟨h.od, List.pairwise_singleton _ _, fun s hs t ht => ?_⟩
    obtain rfl := List.mem_singleton.1 ht
    exact (h.tn s hs).2.2
  · rw [List.length_append, List.map_append]; exact ra3
  · rw [List.length_append, List.flatMap_append, Nat.mul_add]; exact ho3
end Go.Proofs.YtfgfjkchcnpakaaDoor
