/-
  fix: fields behind the first one may stand in any order.
-/
import Derived.Test.YtchkpggdndnpjaaGreatDoorG46
namespace Go.Proofs.YtchkpggdndnpjaaGreatDoor
set_option linter.unusedVariables false
open Go.RowKit Go.Great

/-- No tag twice. -/
def Dst (fs : List Fld) : Prop := fs.Pairwise fun f g => f.1 ≠ g.1
theorem Dst.perm {fs L : List Fld} (h : Dst fs) (p : L.Perm fs) : Dst L := p.symm.pairwise h fun q e => q e.symm
theorem Dst.place {fs : List Fld} (h : Dst fs) {k : Nat} {f : Fld} (hk : fs[k]? = some f) : plN fs f.1 = k := by
  have hix : ix (tgB f.1) fs = some k := ix_some _ fs k f hk (fun j g hj hg => by
    obtain ⟨h1, e1⟩ := List.getElem?_eq_some_iff.1 hg
    obtain ⟨h2, e2⟩ := List.getElem?_eq_some_iff.1 hk
    have := List.pairwise_iff_getElem.1 h j k h1 h2 hj
    rw [e1, e2] at this
    simp [tgB, this]) (by simp [tgB])
  unfold plN
  rw [hix]
theorem Dst.look {fs : List Fld} (h : Dst fs) {f : Fld} (hf : f ∈ fs) : fs[plN fs f.1]? = some f := by
  obtain ⟨k, hk⟩ := List.getElem?_of_mem hf
  rw [h.place hk, hk]
theorem no_look {fs : List Fld} {t : Int} (h : ∀ f ∈ fs, f.1 ≠ t) : plN fs t = fs.length := by
  unfold plN
  rw [ix_none _ fs fun f hf => by simp [tgB, h f hf]]
theorem Dst.same {fs L : List Fld} (h : Dst fs) (p : L.Perm fs) (t : Int) : L[plN L t]? = fs[plN fs t]? ∧ (plN L t < L.length ↔ plN fs t < fs.length) := by
  by_cases hx : ∃ f ∈ fs, f.1 = t
  · obtain ⟨f, hf, rfl⟩ := hx
    have h1 := h.look hf
    have h2 := (h.perm p).look (p.mem_iff.2 hf)
    exact ⟨h2.trans h1.symm, ⟨fun _ => (List.getElem?_eq_some_iff.1 h1).1, fun _ => (List.getElem?_eq_some_iff.1 h2).1⟩⟩
  · have h1 : plN fs t = fs.length := no_look fun f hf e => hx ⟨f, hf, e⟩
    have h2 : plN L t = L.length := no_look fun f hf e => hx ⟨f, p.mem_iff.1 hf, e⟩
    rw [h1, h2]
    exact ⟨by rw [List.getElem?_eq_none (Nat.le_refl _), List.getElem?_eq_none (Nat.le_refl _)], ⟨fun q => absurd q (Nat.lt_irrefl _), fun q => absurd q (Nat.lt_irrefl _)⟩⟩
/-- The same fields, the first one first. -/
def Shf (fs L : List Fld) : Prop := ∃ h r s, fs = h :: r ∧ L = h :: s ∧ s.Perm r
theorem Shf.perm {fs L : List Fld} (h : Shf fs L) : L.Perm fs := by
  obtain ⟨x, r, s, rfl, rfl, p⟩ := h
  exact p.cons x
theorem Shf.ga {fs L : List Fld} (d : Dst fs) (h : Shf fs L) (l : List Slt) : gaM L l = gaM fs l := by
  unfold gaM
  have e : gaS L = gaS fs := by
    funext M t
    unfold gaS
    rw [(d.same h.perm t.1).1]
  rw [e]
theorem Shf.rk {fs L : List Fld} (h : Shf fs L) : rkK L = rkK fs ∧ rkE L = rkE fs := by
  obtain ⟨x, r, s, rfl, rfl, p⟩ := h
  exact ⟨rfl, rfl⟩
theorem Shf.rdM {fs L : List Fld} (d : Dst fs) (h : Shf fs L) : rdM L = rdM fs := by
  unfold Proofs.YtchkpggdndnpjaaGreatDoor.rdM
  rw [h.rk.1, h.ga d]
theorem ce_all {fs : List Fld} {l : List Slt} (h : ceE fs l = none) (a : Nat) (h1 : 1 ≤ a) : ceA fs l a = none := by
  by_cases ha : a < fs.length
  · have := List.findSome?_eq_none_iff.1 h a (List.mem_range.2 ha)
    rwa [if_neg (by omega)] at this
  · unfold ceA
    rw [List.getElem?_eq_none (by omega)]
theorem Shf.ce {fs L : List Fld} (d : Dst fs) (h : Shf fs L) {l : List Slt} (hc : ceE fs l = none) : ceE L l = none := ceE_none fun a h1 ha => by
  have dL := d.perm h.perm
  obtain ⟨f, hf⟩ : ∃ f, L[a]? = some f := ⟨_, List.getElem?_eq_getElem ha⟩
  obtain ⟨a', h1', hf'⟩ : ∃ a', 1 ≤ a' ∧ fs[a']? = some f := by
    obtain ⟨x, r, s, rfl, rfl, p⟩ := h
    obtain ⟨b, rfl⟩ : ∃ b, a = b + 1 := ⟨a - 1, by omega⟩
    rw [List.getElem?_cons_succ] at hf
    obtain ⟨k, hk⟩ := List.getElem?_of_mem (p.mem_iff.1 (List.mem_of_getElem? hf))
    exact ⟨k + 1, by omega, by rw [List.getElem?_cons_succ]; exact hk⟩
  have hc' := ce_all hc a' h1'
  unfold ceA at hc' ⊢
  rw [hf'] at hc'
  rw [hf]
  dsimp only at hc' ⊢
  cases hs : sx f.1 l with
  | none => rw [hs] at hc'; cases hc'
  | some i =>
    rw [hs] at hc'
    dsimp only at hc' ⊢
    rw [if_neg (by rw [d.place hf']; omega)] at hc'
    rw [if_neg (by rw [dL.place hf]; omega)]
    cases hl : l[i]? with
    | none => rfl
    | some t =>
      rw [hl] at hc'
      dsimp only at hc' ⊢
      cases hr : rdBo t.2.2 (bs f.2) with
      | true => rfl
      | false => rw [hr] at hc'; cases hc'
theorem Shf.cm {fs L : List Fld} (d : Dst fs) (h : Shf fs L) {l : List Slt} (hc : cmE fs l = none) : cmE L l = none := by
  unfold cmE at hc ⊢
  rw [List.findSome?_eq_none_iff] at hc ⊢
  intro t ht
  have hc' := hc t ht
  have e : (plN L t.1 == L.length) = (plN fs t.1 == fs.length) := by
    have q := (d.same h.perm t.1).2
    have l1 := plN_le L t.1
    have l2 := plN_le fs t.1
    rw [Bool.eq_iff_iff, beq_iff_eq, beq_iff_eq]
    omega
  unfold cmT at hc' ⊢
  rw [e]
  cases hb : (t.2.1 && (plN fs t.1 == fs.length)) with
  | false => rfl
  | true => rw [hb] at hc'; cases hc'
theorem cf_free {p p' v : Prop} [Decidable p] [Decidable p'] [Decidable v] {X : Bool} {x x' y y' z z' : Int × Nat × Int} (h : (if p then some x else if X = true then some y else if v then none else some z) = none) (hp : p' → p) :
    (if p' then some x' else if X = true then some y' else if v then none else some z') = none := by
  by_cases h1 : p
  · rw [if_pos h1] at h; cases h
  rw [if_neg h1] at h
  rw [if_neg (fun k => h1 (hp k))]
  by_cases h2 : X = true
  · rw [if_pos h2] at h; cases h
  rw [if_neg h2] at h ⊢
  by_cases h3 : v
  · rw [if_pos h3]
  · rw [if_neg h3] at h; cases h
theorem Shf.cf {fs L : List Fld} (d : Dst fs) (h : Shf fs L) {A : Msg} (hc : cfE fs A = none) : cfE L A = none := by
  unfold cfE at hc ⊢
  rw [(d.same h.perm 530).1]
  exact cf_free hc fun k => ⟨(d.same h.perm 18).2.1 k.1, k.2⟩
theorem orX_none {a b : Option (Int × Nat × Int)} : orX a b = none ↔ a = none ∧ b = none := by
  cases a <;> simp [orX]
theorem Shf.rdX {fs L : List Fld} (d : Dst fs) (h : Shf fs L) (hx : rdX fs = none) : rdX L = none := by
  unfold Proofs.YtchkpggdndnpjaaGreatDoor.rdX at hx ⊢
  rw [orX_none, orX_none, orX_none] at hx ⊢
  rw [h.rk.1, h.rk.2, h.rdM d]
  exact ⟨hx.1, h.ce d hx.2.1, h.cm d hx.2.2.1, h.cf d hx.2.2.2⟩
theorem Shf.join {fs L : List Fld} (h : Shf fs L) {b : List UInt8} (hj : joinL fs = .ok b) : ∃ c, joinL L = .ok c ∧ c.length = b.length := by
  have p := h.perm
  have hb : (bodyB L).length = (bodyB fs).length := (p.flatMap_right fldL).length_eq
  have hl : (closeL (aheadL (bodyB L))).length = (closeL (aheadL (bodyB fs))).length := by
    rw [close_length, close_length]
    unfold aheadL
    simp only [List.length_append, hb]
  unfold joinL at hj ⊢
  rw [p.all_eq, p.all_eq, hl]
  split at hj
  · cases hj
  · rename_i h1
    rw [if_neg h1]
    split at hj
    · cases hj
    · rename_i h2
      rw [if_neg h2]
      split at hj
      · cases hj
      · rename_i h3
        rw [if_neg h3]
        injection hj with hj
        exact ⟨_, rfl, by rw [hl, hj]⟩
/-- What is written of a message, in another order, is read as it was. -/
theorem shf_dec {M : Msg} (h : Vld M) {L : List Fld} (hs : Shf (encF M) L) : ∃ c, joinL L = .ok c ∧ c.length ≤ 1024 ∧ dcL c = .ok (rdM (encF M)) ∧ (rdM (encF M)).cs = M.cs := by
  obtain ⟨b, hj, hl⟩ := enc_join h
  obtain ⟨c, hc, hcl⟩ := hs.join hj
  have d : Dst (encF M) := enc_pw
  have hd := dec_enc h hj
  refine ⟨c, hc, by omega, ?_, hd.2⟩
  unfold dcL
  rw [join_split hc]
  dsimp only
  rw [hs.rdX d (rd_enc h).2, hs.rdM d]
theorem Shf.refl' {M : Msg} (h : Vld M) : Shf (encF M) (encF M) := by
  obtain ⟨fs, e⟩ := enc_head h
  exact ⟨_, fs, fs, e, e, List.Perm.refl _⟩
/-- One field is taken out and put in elsewhere. -/
def mvL (L : List Fld) (i j : Nat) : List Fld := match L[i]? with
  | some f => (L.eraseIdx i).take j ++ f :: (L.eraseIdx i).drop j
  | none => L
theorem Shf.mv {fs L : List Fld} (h : Shf fs L) {i j : Nat} (hi : 1 ≤ i) (hj : 1 ≤ j) (hil : i < L.length) : Shf fs (mvL L i j) := by
  obtain ⟨x, r, s, rfl, rfl, p⟩ := h
  obtain ⟨i, rfl⟩ : ∃ k, i = k + 1 := ⟨i - 1, by omega⟩
  obtain ⟨j, rfl⟩ : ∃ k, j = k + 1 := ⟨j - 1, by omega⟩
  have hi' : i < s.length := by simpa using hil
  unfold mvL
  rw [List.getElem?_cons_succ, List.getElem?_eq_getElem hi']
  dsimp only
  rw [List.eraseIdx_cons_succ, List.take_succ_cons, List.drop_succ_cons, List.cons_append]
  refine ⟨x, r, _, rfl, rfl, ?_⟩
  refine List.Perm.trans ?_ p
  refine List.perm_middle.trans ?_
  rw [List.take_append_drop, List.eraseIdx_eq_take_drop_succ]
  refine List.perm_middle.symm.trans ?_
  rw [← List.drop_eq_getElem_cons hi', List.take_append_drop]
end Go.Proofs.YtchkpggdndnpjaaGreatDoor
