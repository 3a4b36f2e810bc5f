/-
  FieldsGroups: all lists are written over, and grown.
-/
import Derived.Test.YtfgfjkchcnpakaaDoorFGrp0
namespace Go.Proofs.YtfgfjkchcnpakaaDoor
set_option linter.unusedVariables false
open Go.RowKit

theorem FS.next {B : Nat} {w0 w : World} {p : Nat} {vo : Value} {E E0 : List (Value × Nat)} {us us' : List (Value × List Fld)} {s n : Nat} (h : FS B w0 w p vo E us' (fun _ j => j < n)) (hL : L2 s n us us' E n) : FS B w w p vo E (us.drop n) (fun _ _ => False) := by
  have get : ∀ (j : Nat), (us.drop n)[j]? = us'[n + j]? := fun j => by rw [List.getElem?_drop, hL.hi _ (by omega)]
  exact ⟨Below.refl _ _, h.size, h.pb, h.hp, h.row, h.ent, fun j u fs e => h.own (n + j) u fs (by rw [← get]; exact e), fun i j u fs v gs e1 e2 hne => h.app (n + i) (n + j) u fs v gs (by rw [← get]; exact e1) (by rw [← get]; exact e2) (by omega), fun i v m j u fs e1 e2 _ => h.ape i v m (n + j) u fs e1 (by rw [← get]; exact e2) (by omega), fun k o e _ _ _ => e⟩
/-- What a filling leaves. -/
def Kf (w w' : World) : Prop := ∀ (k : Nat) cur t, w.heap[k]? = some (.cells cur t (0, 0)) → t ≠ 36 → t ≠ 89 → t ≠ 48 → w'.heap[k]? = some (.cells cur t (0, 0))
theorem Kf.row {w w' : World} (hk : Kf w w') {B T s n : Nat} {v : Value} {xs : List Value} (h : w.ownsRow B T s v n xs) (h1 : T ≠ 36) (h2 : T ≠ 89) (h3 : T ≠ 48) : w'.ownsRow B T s v n xs :=
  ownsRow_of_block h fun k e => by obtain ⟨_, _, cur, t⟩ := row_typed h e; rw [hk k cur T t h1 h2 h3, t]
theorem Kf.trans {w1 w2 w3 : World} (h : Kf w1 w2) (h2 : Kf w2 w3) : Kf w1 w3 := fun k cur t e a b c => h2 k cur t (h k cur t e a b c) a b c
theorem Kf.refl (w : World) : Kf w w := fun k cur t e _ _ _ => e
theorem fill_next (B p : Nat) (vo : Value) (E : List (Value × Nat)) (hs rest : List (Value × List Fld)) (al : Option Addr) (n cl : Nat) (w : World) (h : FS B w w p vo E (hs ++ rest) (fun _ _ => False)) (hn : hs.length = n)
    (hl : ∀ (j : Nat) u fs, hs[j]? = some (u, fs) → ∃ b cur, al = some ⟨b, 0, none⟩ ∧ w.heap[b]? = some (.cells cur 22 (0, 0)) ∧ cur[j]? = some u)
    (s : Nat) (hE0 : E.length = s) (hE : s + 2 * n ≤ 1048000) (hlen : ∀ x ∈ hs ++ rest, x.2.length ≤ 5864062014634) :
    Calls Tryd.prog 19 #[.pointer (some ⟨p, 0, none⟩), .slice al n cl] w fun e w' => e = .returned (.tuple #[]) ∧ ∃ vo' E', FS B w' w' p vo' E' rest (fun _ _ => False) ∧ E'.length = s + 2 * n ∧ Below B w w' ∧ Kf w w' := by
  refine (fill_any B p vo E (hs ++ rest) al n cl w h ⟨by rw [List.length_append]; omega, fun j u fs hj e => hl j u fs (by rw [List.getElem?_append_left (by omega)] at e; exact e)⟩ s hE0 hE (fun j u fs e => hlen _ (List.mem_of_getElem? e))).mono ?_
  rintro e w' ⟨he, vo', E', us', h1, h2⟩
  have h3 := FS.next (E0 := E) h1 h2
  rw [List.drop_append, List.drop_of_length_le (by omega), List.nil_append, show n - hs.length = 0 by omega, List.drop_zero] at h3
  refine ⟨he, vo', E', h3, by rw [h2.el]; omega, h1.bel, fun k cur t e a b c => h1.kp k _ e (fun c2 e2 => ?_) (fun c2 e2 => ?_) (fun e2 => ?_)⟩
  · injection e2 with _ e2; exact a e2
  · injection e2 with _ e2; exact b e2
  · subst e2; exact typed_ne e h.pb c
/-- The lists of the turns that are left. -/
def usOf (P : List (List Fld)) (A : List Fld) (T : List TT) : List (Value × List Fld) := T.flatMap fun t => t.vs.zip P ++ [(t.uu, A)]
theorem usOf_cons (P : List (List Fld)) (A : List Fld) (t : TT) (T : List TT) : usOf P A (t :: T) = t.vs.zip P ++ ((t.uu, A) :: usOf P A T) := by simp [usOf]
theorem usOf_len {P : List (List Fld)} {A : List Fld} {T : List TT} {m : Nat} (hP : ∀ gs ∈ P, gs.length ≤ m) (hA : A.length ≤ m) : ∀ x ∈ usOf P A T, x.2.length ≤ m := fun x hx => by
  obtain ⟨t, _, hx⟩ := List.mem_flatMap.1 hx
  rcases List.mem_append.1 hx with hx | hx
  · obtain ⟨a, b⟩ := x
    exact hP _ (List.of_mem_zip hx).2
  · obtain rfl := List.mem_singleton.1 hx
    exact hA
theorem zip_at {α β : Type} {l : List α} {m : List β} {j : Nat} {a : α} {b : β} (h : (l.zip m)[j]? = some (a, b)) : l[j]? = some a ∧ m[j]? = some b := by
  rw [List.getElem?_zip_eq_some] at h
  exact h
theorem GS.fs {B : Nat} {w : World} {T : List TT} {va vl : Value} {F : List Nat} {P : List (List Fld)} {A : List Fld} (h : GS B w T va vl F P A) (p : Nat) (hp : w.heap[p]? = some (.cells #[.slice none 0 0] 48 (0, 0))) (hB : B ≤ p) (hBw : B ≤ w.heap.size) : FS B w w p (.slice none 0 0) [] (usOf P A T) (fun _ _ => False) := by
  have hown : ∀ t ∈ T, ∀ x ∈ t.vs.zip P ++ [(t.uu, A)], OwnF w t.b x.1 x.2 ∧ ∀ k, x.1.ownBlock = some k → k < t.e := fun t ht x hx => by
    have ht1 := (h.tn t ht).1
    rcases List.mem_append.1 hx with hx | hx
    · obtain ⟨j, hj⟩ := List.mem_iff_getElem?.1 hx
      obtain ⟨u, gs⟩ := x
      obtain ⟨e1, e2⟩ := zip_at hj
      obtain ⟨u', e3, ho⟩ := ht1.pt j gs e2
      rw [e1] at e3; injection e3 with e3; subst e3
      exact ⟨ho, ht1.ev j _ e1⟩
    · obtain rfl := List.mem_singleton.1 hx
      exact ⟨ht1.ou, ht1.eu⟩
  have hpw : (usOf P A T).Pairwise (fun x y => Ap x.1 y.1) := by
    unfold usOf
    rw [List.pairwise_flatMap]
    refine ⟨fun t ht => ?_, List.Pairwise.imp_of_mem ?_ h.od⟩
    · rw [List.pairwise_append]
      refine ⟨?_, List.pairwise_singleton _ _, fun x hx y hy => ?_⟩
      · rw [List.pairwise_iff_getElem]
        intro i j hi hj hij
        have e1 := zip_at (show (t.vs.zip P)[i]? = some ((t.vs.zip P)[i].1, (t.vs.zip P)[i].2) from List.getElem?_eq_getElem hi)
        have e2 := zip_at (show (t.vs.zip P)[j]? = some ((t.vs.zip P)[j].1, (t.vs.zip P)[j].2) from List.getElem?_eq_getElem hj)
        exact (h.tn t ht).1.ap i j _ _ e1.1 e2.1 (by omega)
      · obtain rfl := List.mem_singleton.1 hy
        obtain ⟨j, hj⟩ := List.mem_iff_getElem?.1 hx
        exact (h.tn t ht).1.au j _ (zip_at (show (t.vs.zip P)[j]? = some (x.1, x.2) from hj)).1
    · intro s t hs ht hst x hx y hy k hk hk2
      have h1 := (hown s hs x hx).2 k hk
      have h2 := ((hown t ht y hy).1.lt k hk2).1
      omega
  refine ⟨Below.refl _ _, hBw, hp, hB, World.ownsRow_nil _ _ _ _, fun i v n e => by simp at e, fun j u fs e => ?_, fun i j u fs v gs e1 e2 hne => ?_, fun i v n j u fs e => by simp at e, fun k o e _ _ _ => e⟩
  · obtain ⟨t, ht, hx⟩ := List.mem_flatMap.1 (List.mem_of_getElem? e)
    exact (hown t ht _ hx).1.mono (h.tn t ht).2.1
  · obtain ⟨i1, i2⟩ := List.getElem?_eq_some_iff.1 e1
    obtain ⟨j1, j2⟩ := List.getElem?_eq_some_iff.1 e2
    rcases Nat.lt_or_gt_of_ne hne with hl | hl
    · have := List.pairwise_iff_getElem.1 hpw i j i1 j1 hl
      rw [i2, j2] at this; exact this
    · have := List.pairwise_iff_getElem.1 hpw j i j1 i1 hl
      rw [i2, j2] at this; exact this.symm
/-- What of the turns is left behind a filling. -/
structure HS (B : Nat) (w : World) (T : List TT) (va vl : Value) (F : List Nat) (P : List (List Fld)) : Prop where
  pl : ∀ t ∈ T, w.ownsRow B 3 1 t.pv F.length (ncs F) ∧ w.ownsRow B 22 1 t.lv P.length t.vs ∧ w.heap[t.h]? = some (.cells #[t.uu] 22 (0, 0))
  od : T.Pairwise (fun s t => Ap s.pv t.pv ∧ Ap s.lv t.lv)
  ra : w.ownsRow B 55 1 va T.length (T.map TT.pv)
  rl : w.ownsRow B 37 1 vl (2 * T.length) (T.flatMap fun t => [t.lv, sv t])
theorem GS.hs {B : Nat} {w : World} {T : List TT} {va vl : Value} {F : List Nat} {P : List (List Fld)} {A : List Fld} (h : GS B w T va vl F P A) : HS B w T va vl F P := by
  refine ⟨fun t ht => ⟨ownsRow_mono (h.tn t ht).1.pl (h.tn t ht).2.1, ownsRow_mono (h.tn t ht).1.pr (h.tn t ht).2.1, (h.tn t ht).1.hb⟩, List.Pairwise.imp_of_mem ?_ h.od, h.ra, h.rl⟩
  intro s t hs ht hst
  refine ⟨fun k hk hk2 => ?_, fun k hk hk2 => ?_⟩
  · have h1 := (h.tn s hs).1.ep k hk
    have h2 := ((h.tn t ht).1.pl.lt k hk2).1
    omega
  · have h1 := (h.tn s hs).1.el k hk
    have h2 := ((h.tn t ht).1.pr.lt k hk2).1
    omega
theorem HS.kf {B : Nat} {w w' : World} {T : List TT} {va vl : Value} {F : List Nat} {P : List (List Fld)} (h : HS B w T va vl F P) (hk : Kf w w') : HS B w' T va vl F P :=
  ⟨fun t ht => ⟨hk.row (h.pl t ht).1 (by decide) (by decide) (by decide), hk.row (h.pl t ht).2.1 (by decide) (by decide) (by decide), hk _ _ _ (h.pl t ht).2.2 (by decide) (by decide) (by decide)⟩, h.od, hk.row h.ra (by decide) (by decide) (by decide), hk.row h.rl (by decide) (by decide) (by decide)⟩
theorem HS.below {B : Nat} {w w' : World} {T : List TT} {va vl : Value} {F : List Nat} {P : List (List Fld)} (h : HS B w T va vl F P) (hb : Below w.heap.size w w') : HS B w' T va vl F P :=
  h.kf (fun k cur t e _ _ _ => (hb.block k (lt_of_heap e)).trans e)
/-- What the rows of lists and places hold. -/
theorem HS.cells {B : Nat} {w : World} {T : List TT} {va vl : Value} {F : List Nat} {P : List (List Fld)} (h : HS B w T va vl F P) {i : Nat} {t : TT} (hi : T[i]? = some t) :
    ∃ ga ca gl cl, va = .slice (some ⟨ga, 0, none⟩) T.length ca ∧ vl = .slice (some ⟨gl, 0, none⟩) (2 * T.length) cl ∧ w.cell? ⟨ga, i, none⟩ = some t.pv ∧ w.cell? ⟨gl, 2 * i, none⟩ = some t.lv ∧ w.cell? ⟨gl, 2 * i + 1, none⟩ = some (sv t) ∧ w.cell? ⟨t.h, 0, none⟩ = some t.uu := by
  have hlt := (List.getElem?_eq_some_iff.1 hi).1
  obtain ⟨ga, ca, rfl, _, _, ha⟩ := row_form h.ra
  obtain ⟨gl, cl, rfl, _, _, hl⟩ := row_form h.rl
  obtain ⟨ga, rfl⟩ := ha (by omega)
  obtain ⟨gl, rfl⟩ := hl (by omega)
  have fm : ∀ (T : List TT) (i : Nat) (t : TT), T[i]? = some t → (T.flatMap fun t => [t.lv, sv t])[2 * i]? = some t.lv ∧ (T.flatMap fun t => [t.lv, sv t])[2 * i + 1]? = some (sv t) := fun T => by
    induction T with
    | nil => intro i t h; simp at h
    | cons s T ih =>
      intro i t h
      match i with
      | 0 => simp at h; subst h; exact ⟨rfl, rfl⟩
      | i + 1 =>
        obtain ⟨a, b⟩ := ih i t (by simpa using h)
        rw [List.flatMap_cons, show 2 * (i + 1) = 2 * i + 1 + 1 by omega]
        exact ⟨by simpa using a, by simpa using b⟩
  obtain ⟨f1, f2⟩ := fm T i t hi
  refine ⟨ga, ca, gl, cl, rfl, rfl, ?_, ?_, ?_, ?_⟩
  · rw [h.ra.cellAt i (by omega), List.getElem?_map, hi]; rfl
  · rw [h.rl.cellAt _ (by omega), f1]
  · rw [h.rl.cellAt _ (by omega), f2]
  · rw [cell_of_row w t.h _ _ _ _ (h.pl t (List.mem_of_getElem? hi)).2.2]; rfl
end Go.Proofs.YtfgfjkchcnpakaaDoor
