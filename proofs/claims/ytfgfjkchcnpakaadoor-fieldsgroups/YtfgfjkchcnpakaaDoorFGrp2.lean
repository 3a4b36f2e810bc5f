/-
  FieldsGroups: places and parts are written over, and grown.
-/
import Derived.Test.YtfgfjkchcnpakaaDoorFGrp1
namespace Go.Proofs.YtfgfjkchcnpakaaDoor
set_option linter.unusedVariables false
open Go.RowKit

theorem ncs_zcs (F : List Nat) : ncs F = zcs (F.map fun x : Nat => (x : Int)) := by simp [ncs, zcs]
/-- An entry of outs, typed. -/
def Ent2 (w : World) (p r : Value) (n : Int) : Prop := -2000 ≤ n ∧ n ≤ 0 ∧ ∃ l m, l ≤ 5864062014700 ∧ m ≤ 2000 ∧ E1 w p l r m n
structure US (B : Nat) (w : World) (q : Nat) (vo : Value) (E : List (Value × Value × Int)) (T : List TT) (F : List Nat) (P : List (List Fld)) : Prop where
  hB : B ≤ w.heap.size
  qb : w.heap[q]? = some (.cells #[vo] 52 (0, 0))
  hq : B ≤ q
  row : w.ownsRow B 91 3 vo E.length (ocs E)
  pl : ∀ t ∈ T, w.ownsRow B 3 1 t.pv F.length (ncs F) ∧ w.ownsRow B 22 1 t.lv P.length t.vs
  od : T.Pairwise (fun s t => Ap s.pv t.pv ∧ Ap s.lv t.lv)
  ent : ∀ (i : Nat) p r n, E[i]? = some (p, r, n) → Ent2 w p r n
  ape : ∀ (i : Nat) p r n, E[i]? = some (p, r, n) → ∀ t ∈ T, Ap p t.pv ∧ Ap r t.lv
theorem US.below {B : Nat} {w w' : World} {q : Nat} {vo : Value} {E : List (Value × Value × Int)} {T : List TT} {F : List Nat} {P : List (List Fld)} (h : US B w q vo E T F P) (hb : Below w.heap.size w w') : US B w' q vo E T F P :=
  ⟨Nat.le_trans h.hB hb.size, (hb.block q (lt_of_heap h.qb)).trans h.qb, h.hq, ownsRow_below h.row hb, fun t ht => ⟨ownsRow_below (h.pl t ht).1 hb, ownsRow_below (h.pl t ht).2 hb⟩, h.od, fun i p r n e => by obtain ⟨a, b, l, m, c, d, x⟩ := h.ent i p r n e; exact ⟨a, b, l, m, c, d, x.below hb⟩, h.ape⟩
theorem HS.us {B : Nat} {w : World} {T : List TT} {va vl : Value} {F : List Nat} {P : List (List Fld)} (h : HS B w T va vl F P) {q : Nat} (hq : w.heap[q]? = some (.cells #[.slice none 0 0] 52 (0, 0))) (hB : B ≤ q) (hBw : B ≤ w.heap.size) : US B w q (.slice none 0 0) [] T F P :=
  ⟨hBw, hq, hB, World.ownsRow_nil _ _ _ _, fun t ht => ⟨(h.pl t ht).1, (h.pl t ht).2.1⟩, h.od, fun i p r n e => by simp at e, fun i p r n e => by simp at e⟩
theorem US.out {B : Nat} {w : World} {q : Nat} {vo : Value} {E : List (Value × Value × Int)} {T : List TT} {F : List Nat} {P : List (List Fld)} (h : US B w q vo E T F P) : OutAt w q E := by
  have hc : w.cell? ⟨q, 0, none⟩ = some vo := by rw [cell_of_row w q _ _ _ _ h.qb]; rfl
  have hr := h.row
  obtain ⟨ao, c, rfl, hcl, _, hf⟩ := row_form h.row
  refine ⟨ao, c, hc, hcl, fun i p r n e => ?_⟩
  have hlt := (List.getElem?_eq_some_iff.1 e).1
  obtain ⟨g, rfl⟩ := hf (by omega)
  obtain ⟨a, b, l, m, h1, h2, x⟩ := h.ent i p r n e
  obtain ⟨e1, e2, e3⟩ := ocs_at E i p r n e
  exact ⟨⟨a, b, ⟨l, h1, x.z⟩, m, h2, x.u⟩, g, rfl, by rw [hr.cellAt _ (by omega), e1], by rw [hr.cellAt _ (by omega), e2], by rw [hr.cellAt _ (by omega), e3]⟩
/-- All blocks but those of three types are as they were. -/
def Ko (w w' : World) : Prop := ∀ (k : Nat) cur t, w.heap[k]? = some (.cells cur t (0, 0)) → t ≠ 3 → t ≠ 22 → t ≠ 91 → t ≠ 52 → w'.heap[k]? = some (.cells cur t (0, 0))
theorem Ko.row {w w' : World} (hk : Ko w w') {B T s n : Nat} {v : Value} {xs : List Value} (h : w.ownsRow B T s v n xs) (h1 : T ≠ 3) (h2 : T ≠ 22) (h3 : T ≠ 91) (h4 : T ≠ 52) : w'.ownsRow B T s v n xs :=
  ownsRow_of_block h fun k e => by obtain ⟨_, _, cur, t⟩ := row_typed h e; rw [hk k cur T t h1 h2 h3 h4, t]
theorem Ko.fs {B : Nat} {w0 w w' : World} {p : Nat} {vo : Value} {E : List (Value × Nat)} (hk : Ko w w') (hs : w.heap.size ≤ w'.heap.size) (h : FS B w0 w p vo E [] (fun _ _ => False)) : FS B w' w' p vo E [] (fun _ _ => False) :=
  ⟨Below.refl _ _, Nat.le_trans h.size hs, hk p _ _ h.pb (by decide) (by decide) (by decide) (by decide), h.hp, hk.row h.row (by decide) (by decide) (by decide) (by decide), fun i v n e => (h.ent i v n e).of_block hs (fun k e2 => by obtain ⟨_, _, cur, t⟩ := (h.ent i v n e).2.2.2 k e2; rw [hk k cur _ t (by decide) (by decide) (by decide) (by decide), t]), fun j u fs e => by simp at e, fun i j u fs v gs e => by simp at e, fun i v n j u fs e e2 => by simp at e2, fun k o e _ _ _ => e⟩
theorem ofill_next (B q : Nat) (vo : Value) (E : List (Value × Value × Int)) (t : TT) (T : List TT) (F : List Nat) (P : List (List Fld)) (w : World) (h : US B w q vo E (t :: T) F P) (hE : E.length ≤ 1000) (hF : F.length ≤ 5864062014634) (hP : P.length ≤ 1000) :
    Calls Tryd.prog 20 #[.pointer (some ⟨q, 0, none⟩), t.pv, t.lv] w fun e w' => e = .returned (.tuple #[]) ∧ ∃ vo' E', US B w' q vo' E' T F P ∧ E'.length = E.length + 2 ∧ Below B w w' ∧ Ko w w' := by
  have ht := h.pl t (List.mem_cons_self ..)
  have hvl : t.vs.length = P.length := by have := ht.2.1; omega
  have hO : O1 B w w q vo vo E t.pv t.pv (F.map fun x : Nat => (x : Int)) t.lv t.lv t.vs :=
    ⟨Below.refl _ _, h.hB, h.qb, h.hq, h.row, by rw [← ncs_zcs, List.length_map]; exact ht.1, by rw [hvl]; exact ht.2, fun k e => .inl e, fun k e => .inl e, fun k e => .inl e, fun k _ _ _ _ _ => rfl, fun g cur e => rfl⟩
  refine (ofill_any B q vo E t.pv _ t.lv t.vs w hO hE (by rw [List.length_map]; exact hF) (by omega)).mono ?_
  rintro e w' ⟨he, vo', P2, zs2, Q2, vs2, n, h1, h2, h3, h4, h5, h6⟩
  have ko : Ko w w' := fun k cur ty e a b c d => by
    by_cases hty : ty = 36
    · subst hty; rw [h1.fl k cur e, e]
    rw [h1.fr k (lt_of_heap e) (fun e2 => by subst e2; exact typed_ne e h.qb d) (fun e2 => by obtain ⟨_, _, c2, t2⟩ := row_typed h.row e2; exact typed_ne e t2 c) (fun e2 => by obtain ⟨_, _, c2, t2⟩ := row_typed ht.1 e2; exact typed_ne e t2 a) (fun e2 => by obtain ⟨_, _, c2, t2⟩ := row_typed ht.2 e2; exact typed_ne e t2 b), e]
  have kz : ∀ (v : Value), (∀ k, v.ownBlock = some k → ∃ cur, w.heap[k]? = some (.cells cur 3 (0, 0))) → Ap v t.pv → ∀ k, v.ownBlock = some k → w'.heap[k]? = w.heap[k]? := fun v hv ha k hk => by
    obtain ⟨cur, e⟩ := hv k hk
    exact h1.fr k (lt_of_heap e) (fun e2 => by subst e2; exact typed_ne e h.qb (by decide)) (fun e2 => by obtain ⟨_, _, c2, t2⟩ := row_typed h.row e2; exact typed_ne e t2 (by decide)) (fun e2 => ha k hk e2) (fun e2 => by obtain ⟨_, _, c2, t2⟩ := row_typed ht.2 e2; exact typed_ne e t2 (by decide))
  have ku : ∀ (v : Value), (∀ k, v.ownBlock = some k → ∃ cur, w.heap[k]? = some (.cells cur 22 (0, 0))) → Ap v t.lv → ∀ k, v.ownBlock = some k → w'.heap[k]? = w.heap[k]? := fun v hv ha k hk => by
    obtain ⟨cur, e⟩ := hv k hk
    exact h1.fr k (lt_of_heap e) (fun e2 => by subst e2; exact typed_ne e h.qb (by decide)) (fun e2 => by obtain ⟨_, _, c2, t2⟩ := row_typed h.row e2; exact typed_ne e t2 (by decide)) (fun e2 => by obtain ⟨_, _, c2, t2⟩ := row_typed ht.1 e2; exact typed_ne e t2 (by decide)) (fun e2 => ha k hk e2)
  have hod := (List.pairwise_cons.1 h.od).1
  have hn0 : n ≤ 0 ∧ -2000 ≤ n := by omega
  have hzl : zs2.length = F.length + 64 := by rw [h3]; simp
  have hoP := h1.oP
  rw [h3] at hoP
  simp only [List.length_replicate, List.length_map] at hoP
  obtain ⟨ap, cp, ep, hcp, _, hap⟩ := row_form hoP
  have hoQ := h1.oQ
  obtain ⟨aq, cq, eq, hcq, _, haq⟩ := row_form hoQ
  have old : ∀ (i : Nat) x, (E ++ [(t.pv, t.lv, n)] ++ [(P2, Q2, n)])[i]? = some x → E[i]? = some x ∨ x = (t.pv, t.lv, n) ∨ x = (P2, Q2, n) := fun i x e => by
    have := List.mem_of_getElem? e
    rw [List.append_assoc] at e
    by_cases hi : i < E.length
    · rw [List.getElem?_append_left hi] at e; exact .inl e
    · rw [List.getElem?_append_right (by omega)] at e
      have := List.mem_of_getElem? e
      simp at this
      exact .inr this
  refine ⟨he, vo', _, ⟨Nat.le_trans h.hB h1.bel.size, h1.qb, h1.hq, h1.row, fun s hs => ?_, (List.pairwise_cons.1 h.od).2, fun i p r m e => ?_, fun i p r m e s hs => ?_⟩, by simp, h1.bel, ko⟩
  · have hs1 := h.pl s (List.mem_cons_of_mem _ hs)
    have ha := hod s hs
    exact ⟨ownsRow_of_block hs1.1 (kz s.pv (fun k hk => (row_typed hs1.1 hk).2.2) ha.1.symm), ownsRow_of_block hs1.2 (ku s.lv (fun k hk => (row_typed hs1.2 hk).2.2) ha.2.symm)⟩
  · rcases old i _ e with e | e | e
    · obtain ⟨a, b, l, m2, c, d, x⟩ := h.ent i p r m e
      have ha := h.ape i p r m e t (List.mem_cons_self ..)
      have z1 := kz p x.zt ha.1
      have u1 := ku r x.ut ha.2
      exact ⟨a, b, l, m2, c, d, ⟨x.z.of_block z1, x.u.of_block u1 (fun g cur e => h1.fl g cur e), fun k hk => by obtain ⟨cur, t1⟩ := x.zt k hk; exact ⟨cur, (z1 k hk).trans t1⟩, fun k hk => by obtain ⟨cur, t1⟩ := x.ut k hk; exact ⟨cur, (u1 k hk).trans t1⟩, x.za, x.ua⟩⟩
    · injection e with e1 e2
      injection e2 with e2 e3
      subst e1 e2 e3
      rw [List.length_map] at h2
      exact ⟨hn0.2, hn0.1, _, _, by omega, by omega, h2⟩
    · injection e with e1 e2
      injection e2 with e2 e3
      subst e1 e2 e3
      exact ⟨hn0.2, hn0.1, F.length + 64, vs2.length, by omega, by omega, ⟨SrcZ.of_row hoP ep (by omega) hcp (fun _ => rfl) hap, SrcQ.of_row hoQ (fun j u _ e => h5 j u e) eq (Nat.le_refl _) hcq (fun _ => rfl) haq, fun k hk => (row_typed hoP hk).2.2, fun k hk => (row_typed hoQ hk).2.2, fun ao l c e hl => by rw [ep] at e; injection e with e1 e2; subst e1; exact hap (by omega), fun ao l c e hl => by rw [eq] at e; injection e with e1 e2; subst e1; exact haq (by omega)⟩⟩
  · have hs1 := h.pl s (List.mem_cons_of_mem _ hs)
    have ha := hod s hs
    rcases old i _ e with e | e | e
    · exact h.ape i p r m e s (List.mem_cons_of_mem _ hs)
    · injection e with e1 e2
      injection e2 with e2 e3
      subst e1 e2 e3
      exact ha
    · injection e with e1 e2
      injection e2 with e2 e3
      subst e1 e2 e3
      refine ⟨fun k hk hk2 => ?_, fun k hk hk2 => ?_⟩
      · rcases h1.pb k hk with hk3 | hk3
        · exact ha.1 k hk3 hk2
        · have := (hs1.1.lt k hk2).2; omega
      · rcases h1.qb' k hk with hk3 | hk3
        · exact ha.2 k hk3 hk2
        · have := (hs1.2.lt k hk2).2; omega
end Go.Proofs.YtfgfjkchcnpakaaDoor
