/-
  FieldsGroups: the two loops that fill.
-/
import Derived.Test.YtfgfjkchcnpakaaDoorFGrp2
namespace Go.Proofs.YtfgfjkchcnpakaaDoor
set_option linter.unusedVariables false
open Go.RowKit

theorem row_block {w : World} {B T n c : Nat} {ao : Option Addr} {xs : List Value} (h : w.ownsRow B T 1 (.slice ao n c) n xs) {j : Nat} {u : Value} (hj : xs[j]? = some u) : ∃ b cur, ao = some ⟨b, 0, none⟩ ∧ w.heap[b]? = some (.cells cur T (0, 0)) ∧ cur[j]? = some u := by
  have hlt := (List.getElem?_eq_some_iff.1 hj).1
  have hl : xs.length = n := by have := h.1; omega
  rcases h.2 with ⟨e, h0⟩ | ⟨g, cap, cur, e, r1, r2, r3, r4, r5, r6⟩
  · omega
  · injection e with e _ _
    refine ⟨g, cur, e, r2, ?_⟩
    rw [← r6, List.getElem?_take, if_pos (by omega)] at hj
    simpa using hj
structure L7 (B : Nat) (w wr : World) (po qo : Nat) (T : List TT) (va vl : Value) (F : List Nat) (P : List (List Fld)) (us : List (Value × List Fld)) (m : Nat) : Prop where
  ex : ∃ vo E, FS B wr wr po vo E us (fun _ _ => False) ∧ E.length ≤ m
  hs : HS B wr T va vl F P
  qo : wr.heap[qo]? = some (.cells #[.slice none 0 0] 52 (0, 0))
  bel : Below B w wr
theorem fill7a {B : Nat} {w wr : World} {po qo : Nat} {T : List TT} {va vl : Value} {F : List Nat} {P : List (List Fld)} {A : List Fld} {k m : Nat} {t : TT} {b2 : Option Addr} {d2 : Nat} (h : L7 B w wr po qo T va vl F P (usOf P A (T.drop k)) m) (ht : T[k]? = some t) (hl : t.lv = .slice b2 P.length d2)
    (hP : P.length ≤ 99) (hm : m ≤ 1000) (hPl : ∀ gs ∈ P, gs.length ≤ 5864062014634) (hAl : A.length ≤ 5864062014634) :
    Calls Tryd.prog 19 #[.pointer (some ⟨po, 0, none⟩), .slice b2 P.length d2] wr fun e w' => e = .returned (.tuple #[]) ∧ L7 B w w' po qo T va vl F P ((t.uu, A) :: usOf P A (T.drop (k + 1))) (m + 198) := by
  obtain ⟨⟨vo, E, hf, hE⟩, hs, hq, hb⟩ := h
  have hlt := (List.getElem?_eq_some_iff.1 ht).1
  have hd : T.drop k = t :: T.drop (k + 1) := by rw [List.drop_eq_getElem_cons hlt]; rw [List.getElem?_eq_getElem hlt] at ht; injection ht with ht; rw [ht]
  rw [hd, usOf_cons] at hf
  have hr := (hs.pl t (List.mem_of_getElem? ht)).2.1
  have hvl : t.vs.length = P.length := by have := hr.1; omega
  rw [hl] at hr
  refine (fill_next B po vo E (t.vs.zip P) ((t.uu, A) :: usOf P A (T.drop (k + 1))) b2 P.length d2 wr hf (by rw [List.length_zip]; omega) (fun j u fs e => row_block hr (zip_at e).1) E.length rfl (by omega) (fun x hx => usOf_len (T := t :: T.drop (k + 1)) hPl hAl x (by rw [usOf_cons]; exact hx))).mono ?_
  rintro e w' ⟨he, vo', E', h1, h2, h3, h4⟩
  exact ⟨he, ⟨vo', E', h1, by omega⟩, hs.kf h4, h4 _ _ _ hq (by decide) (by decide) (by decide), hb.trans h3⟩
theorem fill7b {B : Nat} {w wr : World} {po qo : Nat} {T : List TT} {va vl : Value} {F : List Nat} {P : List (List Fld)} {A : List Fld} {k m : Nat} {t : TT} (h : L7 B w wr po qo T va vl F P ((t.uu, A) :: usOf P A (T.drop (k + 1))) m) (ht : T[k]? = some t)
    (hm : m ≤ 1000) (hPl : ∀ gs ∈ P, gs.length ≤ 5864062014634) (hAl : A.length ≤ 5864062014634) :
    Calls Tryd.prog 19 #[.pointer (some ⟨po, 0, none⟩), .slice (some ⟨t.h, 0, none⟩) 1 1] wr fun e w' => e = .returned (.tuple #[]) ∧ L7 B w w' po qo T va vl F P (usOf P A (T.drop (k + 1))) (m + 2) := by
  obtain ⟨⟨vo, E, hf, hE⟩, hs, hq, hb⟩ := h
  have hr := (hs.pl t (List.mem_of_getElem? ht)).2.2
  refine (fill_next B po vo E [(t.uu, A)] (usOf P A (T.drop (k + 1))) (some ⟨t.h, 0, none⟩) 1 1 wr hf rfl (fun j u fs e => ?_) E.length rfl (by omega) (fun x hx => ?_)).mono ?_
  · match j with
    | 0 => simp at e; exact ⟨t.h, _, rfl, hr, by simp [e.1]⟩
    | j + 1 => simp at e
  · rcases List.mem_cons.1 hx with rfl | hx
    · exact hAl
    · exact usOf_len hPl hAl x hx
  · rintro e w' ⟨he, vo', E', h1, h2, h3, h4⟩
    exact ⟨he, ⟨vo', E', h1, by omega⟩, hs.kf h4, h4 _ _ _ hq (by decide) (by decide) (by decide), hb.trans h3⟩
theorem L7.below {B : Nat} {w wr w' : World} {po qo : Nat} {T : List TT} {va vl : Value} {F : List Nat} {P : List (List Fld)} {us : List (Value × List Fld)} {m : Nat} (h : L7 B w wr po qo T va vl F P us m) (hb : Below wr.heap.size wr w') : L7 B w w' po qo T va vl F P us m := by
  obtain ⟨⟨vo, E, hf, hE⟩, hs, hq, hbl⟩ := h
  have h2 := hf.below hb
  exact ⟨⟨vo, E, ⟨Below.refl _ _, h2.size, h2.pb, h2.hp, h2.row, h2.ent, h2.own, h2.app, h2.ape, fun k o e _ _ _ => e⟩, hE⟩, hs.below hb, (hb.block _ (lt_of_heap hq)).trans hq, hbl.trans (hb.mono hf.size)⟩
/-- The rows of places and lists. -/
structure RR (B : Nat) (w : World) (T : List TT) (va vl : Value) : Prop where
  ra : w.ownsRow B 55 1 va T.length (T.map TT.pv)
  rl : w.ownsRow B 37 1 vl (2 * T.length) (T.flatMap fun t : TT => [t.lv, sv t])
theorem flat_at : ∀ (T : List TT) (i : Nat) (t : TT), T[i]? = some t → (T.flatMap fun t : TT => [t.lv, sv t])[2 * i]? = some t.lv := fun T => by
  induction T with
  | nil => intro i t h; simp at h
  | cons s T ih =>
    intro i t h
    match i with
    | 0 => simp at h; subst h; rfl
    | i + 1 =>
      have a := ih i t (by simpa using h)
      rw [List.flatMap_cons, show 2 * (i + 1) = 2 * i + 1 + 1 by omega]
      simpa using a
theorem RR.cells {B : Nat} {w : World} {T : List TT} {ga ca gl cl : Nat} (h : RR B w T (.slice (some ⟨ga, 0, none⟩) T.length ca) (.slice (some ⟨gl, 0, none⟩) (2 * T.length) cl)) {i : Nat} {t : TT} (hi : T[i]? = some t) : w.cell? ⟨ga, i, none⟩ = some t.pv ∧ w.cell? ⟨gl, 2 * i, none⟩ = some t.lv := by
  have hlt := (List.getElem?_eq_some_iff.1 hi).1
  exact ⟨by rw [h.ra.cellAt i (by omega), List.getElem?_map, hi]; rfl, by rw [h.rl.cellAt _ (by omega), flat_at T i t hi]⟩
structure L8 (B : Nat) (w wr : World) (po qo : Nat) (T : List TT) (va vl : Value) (F : List Nat) (P : List (List Fld)) (k : Nat) : Prop where
  ex : ∃ vo E vu Eu, FS B wr wr po vo E [] (fun _ _ => False) ∧ E.length ≤ 1000 ∧ US B wr qo vu Eu (T.drop k) F P ∧ Eu.length = 2 * k
  rr : RR B wr T va vl
  bel : Below B w wr
theorem L7.l8 {B : Nat} {w wr : World} {po qo : Nat} {T : List TT} {va vl : Value} {F : List Nat} {P : List (List Fld)} {m : Nat} (h : L7 B w wr po qo T va vl F P [] m) (hm : m ≤ 1000) (hq : B ≤ qo) : L8 B w wr po qo T va vl F P 0 := by
  obtain ⟨⟨vo, E, hf, hE⟩, hs, hqb, hb⟩ := h
  exact ⟨⟨vo, E, _, [], hf, by omega, hs.us hqb hq hf.size, rfl⟩, ⟨hs.ra, hs.rl⟩, hb⟩
theorem L8.below {B : Nat} {w wr w' : World} {po qo : Nat} {T : List TT} {va vl : Value} {F : List Nat} {P : List (List Fld)} {k : Nat} (h : L8 B w wr po qo T va vl F P k) (hb : Below wr.heap.size wr w') : L8 B w w' po qo T va vl F P k := by
  obtain ⟨⟨vo, E, vu, Eu, hf, hE, hu, hEu⟩, hr, hbl⟩ := h
  have h2 := hf.below hb
  exact ⟨⟨vo, E, vu, Eu, ⟨Below.refl _ _, h2.size, h2.pb, h2.hp, h2.row, h2.ent, h2.own, h2.app, h2.ape, fun k o e _ _ _ => e⟩, hE, hu.below hb, hEu⟩, ⟨ownsRow_below hr.ra hb, ownsRow_below hr.rl hb⟩, hbl.trans (hb.mono hf.size)⟩
theorem L8.form {B : Nat} {w wr : World} {po qo : Nat} {T : List TT} {va vl : Value} {F : List Nat} {P : List (List Fld)} {k : Nat} (h : L8 B w wr po qo T va vl F P k) {t : TT} (ht : T[k]? = some t) : ∃ b1 d1 b2 d2, t.pv = .slice b1 F.length d1 ∧ t.lv = .slice b2 P.length d2 := by
  obtain ⟨⟨vo, E, vu, Eu, hf, hE, hu, hEu⟩, hr, hbl⟩ := h
  have hlt := (List.getElem?_eq_some_iff.1 ht).1
  have hd : t ∈ T.drop k := by rw [List.drop_eq_getElem_cons hlt]; rw [List.getElem?_eq_getElem hlt] at ht; injection ht with ht; rw [ht]; exact List.mem_cons_self ..
  obtain ⟨b1, d1, e1, _⟩ := row_form (hu.pl t hd).1
  obtain ⟨b2, d2, e2, _⟩ := row_form (hu.pl t hd).2
  exact ⟨b1, d1, b2, d2, e1, e2⟩
theorem fill8 {B : Nat} {w wr : World} {po qo : Nat} {T : List TT} {va vl : Value} {F : List Nat} {P : List (List Fld)} {k : Nat} {t : TT} (h : L8 B w wr po qo T va vl F P k) (ht : T[k]? = some t) (hk : k < 3) (hP : P.length ≤ 99) (hF : F.length ≤ 5864062014634) :
    Calls Tryd.prog 20 #[.pointer (some ⟨qo, 0, none⟩), t.pv, t.lv] wr fun e w' => e = .returned (.tuple #[]) ∧ L8 B w w' po qo T va vl F P (k + 1) := by
  obtain ⟨⟨vo, E, vu, Eu, hf, hE, hu, hEu⟩, hr, hbl⟩ := h
  have hlt := (List.getElem?_eq_some_iff.1 ht).1
  have hd : T.drop k = t :: T.drop (k + 1) := by rw [List.drop_eq_getElem_cons hlt]; rw [List.getElem?_eq_getElem hlt] at ht; injection ht with ht; rw [ht]
  rw [hd] at hu
  refine (ofill_next B qo vu Eu t (T.drop (k + 1)) F P wr hu (by omega) hF (by omega)).mono ?_
  rintro e w' ⟨he, vu', Eu', h1, h2, h3, h4⟩
  exact ⟨he, ⟨vo, E, vu', Eu', h4.fs h3.size hf, hE, h1, by omega⟩, ⟨h4.row hr.ra (by decide) (by decide) (by decide) (by decide), h4.row hr.rl (by decide) (by decide) (by decide) (by decide)⟩, hbl.trans h3⟩
end Go.Proofs.YtfgfjkchcnpakaaDoor
