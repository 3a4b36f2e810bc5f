import Derived.Test.YtchkpggdndnpjaaGreatDoorG46
import Derived.Laws.AppendOwnNone

namespace Go.Proofs.YtchkpggdndnpjaaGreatDoor
set_option linter.unusedVariables false
open Go.RowKit Go.Great

/-- No tag twice. -/
def Dst (fs : List Fld) : Prop := fs.Pairwise fun f g => f.1 ≠ g.1
theorem Dst.perm {fs L : List Fld} (h : Dst fs) (p : L.Perm fs) : Dst L := p.symm.pairwise h fun q e => q e.symm
theorem Dst.place {fs : List Fld} (h : Dst fs) {k : Nat} {f : Fld} (hk : fs[k]? = some f) : plN fs f.1 = k := by
  have hix : ix (tgB f.1) fs = some k := ix_some _ fs k f hk (fun j g hj hg => by
    obtain ⟨h1, e1⟩ := List.getElem?_eq_some_iff.1 hg
    obtain ⟨h2, e2⟩ := List.getElem?_eq_some_iff.1 hk
    have := List.pairwise_iff_getElem.1 h j k h1 h2 hj
    rw [e1, e2] at this
    simp [tgB, this]) (by simp [tgB])
  unfold plN
  rw [hix]
theorem Dst.look {fs : List Fld} (h : Dst fs) {f : Fld} (hf : f ∈ fs) : fs[plN fs f.1]? = some f := by
  obtain ⟨k, hk⟩ := List.getElem?_of_mem hf
  rw [h.place hk, hk]
theorem no_look {fs : List Fld} {t : Int} (h : ∀ f ∈ fs, f.1 ≠ t) : plN fs t = fs.length := by
  unfold plN
  rw [ix_none _ fs fun f hf => by simp [tgB, h f hf]]
theorem Dst.same {fs L : List Fld} (h : Dst fs) (p : L.Perm fs) (t : Int) : L[plN L t]? = fs[plN fs t]? ∧ (plN L t < L.length ↔ plN fs t < fs.length) := by
  by_cases hx : ∃ f ∈ fs, f.1 = t
  · obtain ⟨f, hf, rfl⟩ := hx
    have h1 := h.look hf
    have h2 := (h.perm p).look (p.mem_iff.2 hf)
    exact ⟨h2.trans h1.symm, ⟨fun _ => (List.getElem?_eq_some_iff.1 h1).1, fun _ => (List.getElem?_eq_some_iff.1 h2).1⟩⟩
  · have h1 : plN fs t = fs.length := no_look fun f hf e => hx ⟨f, hf, e⟩
    have h2 : plN L t = L.length := no_look fun f hf e => hx ⟨f, p.mem_iff.1 hf, e⟩
    rw [h1, h2]
    exact ⟨by rw [List.getElem?_eq_none (Nat.le_refl _), List.getElem?_eq_none (Nat.le_refl _)], ⟨fun q => absurd q (Nat.lt_irrefl _), fun q => absurd q (Nat.lt_irrefl _)⟩⟩
/-- The same fields, the first one first. -/
def Shf (fs L : List Fld) : Prop := ∃ h r s, fs = h :: r ∧ L = h :: s ∧ s.Perm r
theorem Shf.perm {fs L : List Fld} (h : Shf fs L) : L.Perm fs := by
  obtain ⟨x, r, s, rfl, rfl, p⟩ := h
  exact p.cons x
theorem Shf.ga {fs L : List Fld} (d : Dst fs) (h : Shf fs L) (l : List Slt) : gaM L l = gaM fs l := by
  unfold gaM
  have e : gaS L = gaS fs := by
    funext M t
    unfold gaS
    rw [(d.same h.perm t.1).1]
  rw [e]
theorem Shf.rk {fs L : List Fld} (h : Shf fs L) : rkK L = rkK fs ∧ rkE L = rkE fs := by
  obtain ⟨x, r, s, rfl, rfl, p⟩ := h
  exact ⟨rfl, rfl⟩
theorem Shf.rdM {fs L : List Fld} (d : Dst fs) (h : Shf fs L) : rdM L = rdM fs := by
  unfold Proofs.YtchkpggdndnpjaaGreatDoor.rdM
  rw [h.rk.1, h.ga d]
theorem ce_all {fs : List Fld} {l : List Slt} (h : ceE fs l = none) (a : Nat) (h1 : 1 ≤ a) : ceA fs l a = none := by
  by_cases ha : a < fs.length
  · have := List.findSome?_eq_none_iff.1 h a (List.mem_range.2 ha)
    rwa [if_neg (by omega)] at this
  · unfold ceA
    rw [List.getElem?_eq_none (by omega)]
theorem Shf.ce {fs L : List Fld} (d : Dst fs) (h : Shf fs L) {l : List Slt} (hc : ceE fs l = none) : ceE L l = none := ceE_none fun a h1 ha => by
  have dL := d.perm h.perm
  obtain ⟨f, hf⟩ : ∃ f, L[a]? = some f := ⟨_, List.getElem?_eq_getElem ha⟩
  obtain ⟨a', h1', hf'⟩ : ∃ a', 1 ≤ a' ∧ fs[a']? = some f := by
    obtain ⟨x, r, s, rfl, rfl, p⟩ := h
    obtain ⟨b, rfl⟩ : ∃ b, a = b + 1 := ⟨a - 1, by omega⟩
    rw [List.getElem?_cons_succ] at hf
    obtain ⟨k, hk⟩ := List.getElem?_of_mem (p.mem_iff.1 (List.mem_of_getElem? hf))
    exact ⟨k + 1, by omega, by rw [List.getElem?_cons_succ]; exact hk⟩
  have hc' := ce_all hc a' h1'
  unfold ceA at hc' ⊢
  rw [hf'] at hc'
  rw [hf]
  dsimp only at hc' ⊢
  cases hs : sx f.1 l with
  | none => rw [hs] at hc'; cases hc'
  | some i =>
    rw [hs] at hc'
    dsimp only at hc' ⊢
    rw [if_neg (by rw [d.place hf']; omega)] at hc'
    rw [if_neg (by rw [dL.place hf]; omega)]
    cases hl : l[i]? with
    | none => rfl
    | some t =>
      rw [hl] at hc'
      dsimp only at hc' ⊢
      cases hr : rdBo t.2.2 (bs f.2) with
      | true => rfl
      | false => rw [hr] at hc'; cases hc'
theorem Shf.cm {fs L : List Fld} (d : Dst fs) (h : Shf fs L) {l : List Slt} (hc : cmE fs l = none) : cmE L l = none := by
  unfold cmE at hc ⊢
  rw [List.findSome?_eq_none_iff] at hc ⊢
  intro t ht
  have hc' := hc t ht
  have e : (plN L t.1 == L.length) = (plN fs t.1 == fs.length) := by
    have q := (d.same h.perm t.1).2
    have l1 := plN_le L t.1
    have l2 := plN_le fs t.1
    rw [Bool.eq_iff_iff, beq_iff_eq, beq_iff_eq]
    omega
  unfold cmT at hc' ⊢
  rw [e]
  cases hb : (t.2.1 && (plN fs t.1 == fs.length)) with
  | false => rfl
  | true => rw [hb] at hc'; cases hc'
theorem cf_free {p p' v : Prop} [Decidable p] [Decidable p'] [Decidable v] {X : Bool} {x x' y y' z z' : Int × Nat × Int} (h : (if p then some x else if X = true then some y else if v then none else some z) = none) (hp : p' → p) :
    (if p' then some x' else if X = true then some y' else if v then none else some z') = none := by
  by_cases h1 : p
  · rw [if_pos h1] at h; cases h
  rw [if_neg h1] at h
  rw [if_neg (fun k => h1 (hp k))]
  by_cases h2 : X = true
  · rw [if_pos h2] at h; cases h
  rw [if_neg h2] at h ⊢
  by_cases h3 : v
  · rw [if_pos h3]
  · rw [if_neg h3] at h; cases h
theorem Shf.cf {fs L : List Fld} (d : Dst fs) (h : Shf fs L) {A : Msg} (hc : cfE fs A = none) : cfE L A = none := by
  unfold cfE at hc ⊢
  rw [(d.same h.perm 530).1]
  exact cf_free hc fun k => ⟨(d.same h.perm 18).2.1 k.1, k.2⟩
theorem orX_none {a b : Option (Int × Nat × Int)} : orX a b = none ↔ a = none ∧ b = none := by
  cases a <;> simp [orX]
theorem Shf.rdX {fs L : List Fld} (d : Dst fs) (h : Shf fs L) (hx : rdX fs = none) : rdX L = none := by
  unfold Proofs.YtchkpggdndnpjaaGreatDoor.rdX at hx ⊢
  rw [orX_none, orX_none, orX_none] at hx ⊢
  rw [h.rk.1, h.rk.2, h.rdM d]
  exact ⟨hx.1, h.ce d hx.2.1, h.cm d hx.2.2.1, h.cf d hx.2.2.2⟩
theorem Shf.join {fs L : List Fld} (h : Shf fs L) {b : List UInt8} (hj : joinL fs = .ok b) : ∃ c, joinL L = .ok c ∧ c.length = b.length := by
  have p := h.perm
  have hb : (bodyB L).length = (bodyB fs).length := (p.flatMap_right fldL).length_eq
  have hl : (closeL (aheadL (bodyB L))).length = (closeL (aheadL (bodyB fs))).length := by
    rw [close_length, close_length]
    unfold aheadL
    simp only [List.length_append, hb]
  unfold joinL at hj ⊢
  rw [p.all_eq, p.all_eq, hl]
  split at hj
  · cases hj
  · rename_i h1
    rw [if_neg h1]
    split at hj
    · cases hj
    · rename_i h2
      rw [if_neg h2]
      split at hj
      · cases hj
      · rename_i h3
        rw [if_neg h3]
        injection hj with hj
        exact ⟨_, rfl, by rw [hl, hj]⟩
/-- What is written of a message, in another order, is read as it was. -/
theorem shf_dec {M : Msg} (h : Vld M) {L : List Fld} (hs : Shf (encF M) L) : ∃ c, joinL L = .ok c ∧ c.length ≤ 1024 ∧ dcL c = .ok (rdM (encF M)) ∧ (rdM (encF M)).cs = M.cs := by
  obtain ⟨b, hj, hl⟩ := enc_join h
  obtain ⟨c, hc, hcl⟩ := hs.join hj
  have d : Dst (encF M) := enc_pw
  have hd := dec_enc h hj
  refine ⟨c, hc, by omega, ?_, hd.2⟩
  unfold dcL
  rw [join_split hc]
  dsimp only
  rw [hs.rdX d (rd_enc h).2, hs.rdM d]
theorem Shf.refl' {M : Msg} (h : Vld M) : Shf (encF M) (encF M) := by
  obtain ⟨fs, e⟩ := enc_head h
  exact ⟨_, fs, fs, e, e, List.Perm.refl _⟩
/-- One field is taken out and put in elsewhere. -/
def mvL (L : List Fld) (i j : Nat) : List Fld := match L[i]? with
  | some f => (L.eraseIdx i).take j ++ f :: (L.eraseIdx i).drop j
  | none => L
theorem Shf.mv {fs L : List Fld} (h : Shf fs L) {i j : Nat} (hi : 1 ≤ i) (hj : 1 ≤ j) (hil : i < L.length) : Shf fs (mvL L i j) := by
  obtain ⟨x, r, s, rfl, rfl, p⟩ := h
  obtain ⟨i, rfl⟩ : ∃ k, i = k + 1 := ⟨i - 1, by omega⟩
  obtain ⟨j, rfl⟩ : ∃ k, j = k + 1 := ⟨j - 1, by omega⟩
  have hi' : i < s.length := by simpa using hil
  unfold mvL
  rw [List.getElem?_cons_succ, List.getElem?_eq_getElem hi']
  dsimp only
  rw [List.eraseIdx_cons_succ, List.take_succ_cons, List.drop_succ_cons, List.cons_append]
  refine ⟨x, r, _, rfl, rfl, ?_⟩
  refine List.Perm.trans ?_ p
  refine List.perm_middle.trans ?_
  rw [List.take_append_drop, List.eraseIdx_eq_take_drop_succ]
  refine List.perm_middle.symm.trans ?_
  rw [← List.drop_eq_getElem_cons hi', List.take_append_drop]
end Go.Proofs.YtchkpggdndnpjaaGreatDoor

namespace Go.Proofs.YtchkpggdndnpjaaGreatDoor
set_option linter.unusedVariables false
open Go.RowKit Go.Great

theorem SrcF.cut {w : World} {b off n cap : Nat} {fs : List Fld} (h : SrcF w (.slice (some ⟨b, off, none⟩) n cap) fs) (x e : Nat) (hx : x ≤ e) (he : e ≤ fs.length) (c : Nat) (hc : e - x ≤ c) : SrcF w (.slice (some ⟨b, off + x * 2, none⟩) (e - x) c) ((fs.take e).drop x) := by
  obtain ⟨ao, cp, e1, hcp, h⟩ := h
  injection e1 with e1 e2 e3
  have hl : ((fs.take e).drop x).length = e - x := by simp; omega
  refine ⟨_, c, by rw [hl], by rw [hl]; exact hc, ?_⟩
  rcases h with h | ⟨b', off', e4, hr⟩
  · subst h; left; simp
  · rw [← e1] at e4
    injection e4 with e4
    injection e4 with e5 e6
    subst e5 e6
    refine .inr ⟨b, off + x * 2, rfl, fun j f hj => ?_⟩
    have hj2 : fs[x + j]? = some f := by
      rw [List.getElem?_drop, List.getElem?_take] at hj
      split at hj
      · exact hj
      · cases hj
    obtain ⟨g1, g2⟩ := hr (x + j) f hj2
    rw [show off + x * 2 + j * 2 = off + (x + j) * 2 by omega]
    exact ⟨g1, g2⟩
theorem SrcF.cells {w : World} {b off n cap : Nat} {P : List Fld} (h : SrcF w (.slice (some ⟨b, off, none⟩) n cap) P) : ∀ j u, (fcs P)[j]? = some u → w.cell? ((⟨b, off, none⟩ : Addr).add j) = some u := fun j u hj => by
  obtain ⟨ao, c, e, -, h0 | ⟨b', off', e2, hc⟩⟩ := h
  · rw [h0] at hj; simp [fcs] at hj
  · injection e with e
    rw [e2] at e
    injection e with e
    injection e with e3 e4
    subst e3 e4
    have hl : j < P.length * 2 := by rw [← fcs_length]; exact (List.getElem?_eq_some_iff.1 hj).1
    obtain ⟨f, hf⟩ : ∃ f, P[j / 2]? = some f := ⟨_, List.getElem?_eq_getElem (by omega)⟩
    have h1 := fcs_at P (j / 2) f hf
    have h2 := hc (j / 2) f hf
    rw [addr_add]
    rcases (by omega : j = j / 2 * 2 ∨ j = j / 2 * 2 + 1) with q | q
    · rw [q] at hj ⊢
      rw [h1.1] at hj
      rw [← hj]
      exact h2.1
    · rw [q] at hj ⊢
      rw [h1.2] at hj
      rw [← hj, ← Nat.add_assoc]
      exact h2.2
theorem OwnF.form {w : World} {B : Nat} {v : Value} {L : List Fld} (h : OwnF w B v L) : ∃ a c, v = .slice a L.length c := by
  obtain ⟨a, c, e, -⟩ := h.src
  exact ⟨a, c, e⟩
/-- Fields behind a row of one's own. -/
theorem wpList_appF {w : World} {ops : Array Oper} {rest : List Oper} {o : Oper} {a : Act} {Q : Exit → Act → World → Prop} (hgd : o.guard = none) (s x : Operand) (ho : o.op = .call { callee := .builtin .append, args := #[s, x], argTypes := #[39, 39] })
    (B : Nat) (v : Value) (L : List Fld) (hs : a.eval s = v) (hown : OwnF w B v L) (ad : Addr) (n cap : Nat) (P : List Fld) (hn : n = P.length) (hx : a.eval x = .slice (some ad) n cap)
    (hc : ∀ j u, (fcs P)[j]? = some u → w.cell? (ad.add j) = some u) (hb : L.length + P.length ≤ 4096) (hB : B ≤ w.heap.size) (d : Option Tmp) (hd : o.dst = d) (N : Nat) (hN : N = L.length + P.length)
    (h : ∀ av c w', OwnF w' B (.slice av N c) (L ++ P) → Below B w w' → wpList Tryz.prog ops Q rest (a.put d (.slice av N c)) w') : wpList Tryz.prog ops Q (o :: rest) a w := by
  subst hd hn hs hN
  obtain ⟨i0, hi, hz0, hz1, hz2⟩ := info_parts infoF
  refine wpList_append_own _ hgd s x 39 ho B 51 i0 (.agg #[.int .i64 0, .string ⟨#[]⟩]) 2 24 Tryz.underlying39 hi hz0 hz1 hz2 rfl (by decide) _ L.length (fcs L) rfl hown ad P.length cap (fcs P) hx (fcs_length P) hc (fcs_one _) (by unfold maxLen; omega) (by omega) hB ?_
  intro v' w' hown' hgrow' hnil'
  have ho' : OwnF w' B v' (L ++ P) := by
    unfold OwnF
    rw [fcs_app, List.length_append]
    exact hown'
  obtain ⟨a', c', e⟩ := ho'.form
  rw [List.length_append] at e
  subst e
  exact h a' c' w' ho' (below_grownBy (Below.refl _ _) hgrow' hB (fun q hq => (hown.lt q hq).1))
/-- turned, the law's own: field i is taken out and put in at j. -/
structure TD (w wr : World) (b off n cap : Nat) (L : List Fld) : Prop where
  src : SrcF wr (.slice (some ⟨b, off, none⟩) n cap) L
  below : Below w.heap.size w wr
theorem TD.low {w wr w' : World} {b off n cap : Nat} {L : List Fld} (h : TD w wr b off n cap L) (hb : Below wr.heap.size wr w') : TD w w' b off n cap L := ⟨h.src.below hb, h.below.trans (hb.mono h.below.size)⟩
set_option maxRecDepth 100000 in
set_option maxHeartbeats 2000000 in
theorem turned_any (v : Value) (L : List Fld) (i j : Nat) (w : World) (hs : SrcF w v L) (hi1 : 1 ≤ i) (hi : i < L.length) (hj1 : 1 ≤ j) (hj : j < L.length) (hn : L.length ≤ 1024) :
    Calls Tryz.prog 16 #[v, .int .i64 (i : Int), .int .i64 (j : Int)] w fun e w' => ∃ u, e = .returned u ∧ OwnF w' w.heap.size u (mvL L i j) ∧ Below w.heap.size w w' := by
  obtain ⟨b, off, n, cap, rfl, hnL, hcap⟩ : ∃ b off n cap, v = .slice (some ⟨b, off, none⟩) n cap ∧ n = L.length ∧ n ≤ cap := by
    obtain ⟨ao, c, e, h1, h0 | ⟨b, off, e2, -⟩⟩ := hs
    · rw [h0] at hi; cases hi
    · exact ⟨b, off, L.length, c, by rw [e, e2], rfl, h1⟩
  obtain ⟨f, hf⟩ : ∃ f, L[i]? = some f := ⟨_, List.getElem?_eq_getElem hi⟩
  have hcl := hs.cells
  obtain ⟨q0, q1⟩ := fcs_at L i f hf
  have c0 := hcl _ _ q0
  have c1 := hcl _ _ q1
  rw [addr_add] at c0 c1
  rw [← Nat.add_assoc] at c1
  have HT : Hid (TD w w b off n cap L ∧ n = L.length ∧ L[i]? = some f) := ⟨⟨hs, Below.refl _ _⟩, hnL, hf⟩
  rw [← hnL] at hi hj hn
  clear hs hcl q0 q1 hf hnL
  have hiI : (i : Int) < (n : Int) := by omega
  have hjI : (j : Int) < (n : Int) := by omega
  generalize hft : f.1 = ft at *
  generalize hfv : bs f.2 = fv at *
  go_enter Tryz.func16, Tryz.ntmps16
  go_upto_region 3 with fail
  have hb1 : Below w.heap.size w (w.alloc (.cells #[.int .i64 ft, .string fv] 51)) := (Below.refl _ w).alloc (Nat.le_refl _) _
  have HT1 : Hid (TD w (w.alloc (.cells #[.int .i64 ft, .string fv] 51)) b off n cap L ∧ (w.alloc (.cells #[.int .i64 ft, .string fv] 51)).heap[w.heap.size]? = some (.cells #[.int .i64 ft, .string fv] 51 (0, 0)) ∧ w.heap.size < (w.alloc (.cells #[.int .i64 ft, .string fv] 51)).heap.size) := ⟨HT.out.1.low hb1, heap_alloc_new w _, by simp⟩
  have HN : Hid (n = L.length ∧ L[i]? = some f) := HT.out.2
  have hwl : w.heap.size ≤ (w.alloc (.cells #[.int .i64 ft, .string fv] 51)).heap.size := by simp
  generalize w.alloc (.cells #[.int .i64 ft, .string fv] 51) = w1 at *
  clear hb1 HT c0 c1
  generalize hgt : w.heap.size = gt at *
  have HC3 : Hid (∀ j u, (fcs (L.take i))[j]? = some u → w1.cell? ((⟨b, off, none⟩ : Addr).add j) = some u) := by
    have h := HT1.out.1.src.cut 0 i (Nat.zero_le _) (by rw [← HN.out.1]; omega) cap (by omega)
    rw [Nat.zero_mul, Nat.add_zero, Nat.sub_zero, List.drop_zero] at h
    exact h.cells
  have HL3 : Hid (i = (L.take i).length) := by show i = _; rw [List.length_take, ← HN.out.1]; omega
  go_upto_region 4 with (at_builtin; refine wpList_appF rfl _ _ rfl w1.heap.size _ [] rfl (OwnF.nil _ _) ⟨b, off, none⟩ i cap (L.take i) HL3.out rfl HC3.out (by rw [← HL3.out]; simp; omega) (Nat.le_refl _) _ rfl i (by rw [← HL3.out]; simp) ?_; intro a2 c2 w2 ho2 hb2)
  have HT2 : Hid (TD w w2 b off n cap L ∧ w2.heap[gt]? = some (.cells #[.int .i64 ft, .string fv] 51 (0, 0)) ∧ gt < w1.heap.size ∧ OwnF w2 w1.heap.size (.slice a2 i c2) (L.take i) ∧ w1.heap.size ≤ w2.heap.size) := ⟨HT1.out.1.low hb2, (hb2.block gt HT1.out.2.2).trans HT1.out.2.1, HT1.out.2.2, ho2, hb2.size⟩
  clear ho2 hb2 HT1 HC3 hwl
  generalize hB1 : w1.heap.size = B at *
  obtain ⟨o4, hif4, hc4⟩ : ∃ o4, (if cap = i + 1 then some (⟨b, off, none⟩ : Addr) else some ⟨b, off + (i + 1) * 2, none⟩) = some ⟨b, o4, none⟩ ∧ ∀ j u, (fcs (L.drop (i + 1)))[j]? = some u → w2.cell? ((⟨b, o4, none⟩ : Addr).add j) = some u := by
    by_cases hc : cap = i + 1
    · refine ⟨off, by rw [if_pos hc], fun j u h => ?_⟩
      rw [List.drop_eq_nil_of_le (by have := HN.out.1; omega)] at h
      simp [fcs] at h
    · refine ⟨off + (i + 1) * 2, by rw [if_neg hc], ?_⟩
      have h := HT2.out.1.src.cut (i + 1) n (by omega) (by have := HN.out.1; omega) (cap - (i + 1)) (by omega)
      rw [List.take_of_length_le (by have := HN.out.1; omega)] at h
      exact h.cells
  have HC4 : Hid (∀ j u, (fcs (L.drop (i + 1)))[j]? = some u → w2.cell? ((⟨b, o4, none⟩ : Addr).add j) = some u) := hc4
  have HL4 : Hid (n - (i + 1) = (L.drop (i + 1)).length) := by show _ = _; rw [List.length_drop, ← HN.out.1]
  clear hc4
  go_upto_region 6 with (at_builtin; refine wpList_appF rfl _ _ rfl B _ (L.take i) rfl HT2.out.2.2.2.1 ⟨b, o4, none⟩ (n - (i + 1)) (cap - (i + 1)) (L.drop (i + 1)) HL4.out rfl HC4.out (by rw [← HL3.out, ← HL4.out]; omega) HT2.out.2.2.2.2 _ rfl (n - 1) (by rw [← HL3.out, ← HL4.out]; omega) ?_; intro a4 c4 w4 ho4 hb4)
  obtain ⟨E, hE⟩ : ∃ E, E = L.eraseIdx i := ⟨_, rfl⟩
  rw [← List.eraseIdx_eq_take_drop_succ, ← hE] at ho4
  have HEl : Hid (n - 1 = E.length ∧ E = L.eraseIdx i) := ⟨by rw [hE, List.length_eraseIdx, if_pos (by have := HN.out.1; omega), ← HN.out.1], hE⟩
  obtain ⟨g4, rfl⟩ : ∃ g, a4 = some ⟨g, 0, none⟩ := by
    rcases ho4.2 with ⟨e, h0⟩ | ⟨g, c, cur, e, -⟩
    · have := HEl.out.1; omega
    · injection e with e; exact ⟨g, e⟩
  have HT4 : Hid (Below w.heap.size w w4 ∧ w4.heap[gt]? = some (.cells #[.int .i64 ft, .string fv] 51 (0, 0)) ∧ gt < w4.heap.size ∧ SrcF w4 (.slice (some ⟨g4, 0, none⟩) (n - 1) c4) E ∧ n - 1 ≤ c4) := by
    have hlt : gt < w2.heap.size := Nat.lt_of_lt_of_le HT2.out.2.2.1 HT2.out.2.2.2.2
    have hwB : w.heap.size ≤ B := by rw [hgt]; exact Nat.le_of_lt HT2.out.2.2.1
    refine ⟨HT2.out.1.below.trans (hb4.mono hwB), (hb4.block gt HT2.out.2.2.1).trans HT2.out.2.1, Nat.lt_of_lt_of_le hlt hb4.size, ho4.src, ?_⟩
    obtain ⟨_, _, e, h1, -⟩ := ho4.src
    injection e with _ _ e3
    rw [e3, HEl.out.1]; exact h1
  clear ho4 hb4 HT2 HC4 hif4 HL3 HL4 hE hB1
  have hjm : j ≤ n - 1 := by omega
  have hm0 : n - 1 ≤ 1024 := by omega
  generalize n - 1 = m at *
  have hjmI : (j : Int) ≤ (m : Int) := by omega
  have hmc := HT4.out.2.2.2.2
  have HC6 : Hid (∀ k u, (fcs (E.take j))[k]? = some u → w4.cell? ((⟨g4, 0, none⟩ : Addr).add k) = some u) := by
    have h := HT4.out.2.2.2.1.cut 0 j (Nat.zero_le _) (by rw [← HEl.out.1]; exact hjm) c4 (by omega)
    rw [Nat.zero_mul, Nat.add_zero, Nat.sub_zero, List.drop_zero] at h
    exact h.cells
  have HL6 : Hid (j = (E.take j).length) := by show j = _; rw [List.length_take, ← HEl.out.1]; omega
  go_upto_region 7 with (at_builtin; refine wpList_appF rfl _ _ rfl w4.heap.size _ [] rfl (OwnF.nil _ _) ⟨g4, 0, none⟩ j c4 (E.take j) HL6.out rfl HC6.out (by rw [← HL6.out]; simp; omega) (Nat.le_refl _) _ rfl j (by rw [← HL6.out]; simp) ?_; intro a6 c6 w6 ho6 hb6)
  have HT6 : Hid (Below w.heap.size w w6 ∧ w6.heap[gt]? = some (.cells #[.int .i64 ft, .string fv] 51 (0, 0)) ∧ gt < w6.heap.size ∧ SrcF w6 (.slice (some ⟨g4, 0, none⟩) m c4) E ∧ OwnF w6 w4.heap.size (.slice a6 j c6) (E.take j) ∧ w4.heap.size ≤ w6.heap.size ∧ w.heap.size ≤ w4.heap.size ∧ Below w4.heap.size w4 w6 ∧ SrcF w4 (.slice (some ⟨g4, 0, none⟩) m c4) E) :=
    ⟨HT4.out.1.trans (hb6.mono HT4.out.1.size), (hb6.block gt HT4.out.2.2.1).trans HT4.out.2.1, Nat.lt_of_lt_of_le HT4.out.2.2.1 hb6.size, HT4.out.2.2.2.1.below hb6, ho6, hb6.size, HT4.out.1.size, hb6, HT4.out.2.2.2.1⟩
  clear ho6 hb6 HT4 HC6
  generalize hB4 : w4.heap.size = B4 at *
  have d0 : w6.cell? ⟨gt, 0, none⟩ = some (.int .i64 ft) := cell_of_row _ _ _ _ _ _ HT6.out.2.1
  have d1 : w6.cell? ⟨gt, 1, none⟩ = some (.string fv) := cell_of_row _ _ _ _ _ _ HT6.out.2.1
  have hba : Below w6.heap.size w6 (w6.alloc (.cells #[.int .i64 ft, .string fv] 51)) := (Below.refl _ w6).alloc (Nat.le_refl _) _
  have HC7 : Hid (∀ k u, (fcs [f])[k]? = some u → (w6.alloc (.cells #[.int .i64 ft, .string fv] 51)).cell? ((⟨w6.heap.size, 0, none⟩ : Addr).add k) = some u) := fun k u hk => by
    rw [addr_add, Nat.zero_add, cell_of_row _ _ _ _ _ _ (heap_alloc_new w6 _), ← hft, ← hfv]
    have e : fcs [f] = [.int .i64 f.1, .string (bs f.2)] := rfl
    rw [e] at hk
    simpa using hk
  have HO7 : Hid (OwnF (w6.alloc (.cells #[.int .i64 ft, .string fv] 51)) B4 (.slice a6 j c6) (E.take j) ∧ B4 ≤ (w6.alloc (.cells #[.int .i64 ft, .string fv] 51)).heap.size) := ⟨HT6.out.2.2.2.2.1.below hba, Nat.le_trans HT6.out.2.2.2.2.2.1 hba.size⟩
  go_upto_region 8 with (at_builtin; refine wpList_appF rfl _ _ rfl B4 _ (E.take j) rfl HO7.out.1 ⟨w6.heap.size, 0, none⟩ 1 1 [f] rfl rfl HC7.out (by rw [← HL6.out]; simp; omega) HO7.out.2 _ rfl (j + 1) (by rw [← HL6.out]; rfl) ?_; intro a7 c7 w7 ho7 hb7)
  have hba4 : Below B4 w6 (w6.alloc (.cells #[.int .i64 ft, .string fv] 51)) := hba.mono HT6.out.2.2.2.2.2.1
  have hb67 : Below B4 w6 w7 := hba4.trans hb7
  have HT7 : Hid (Below w.heap.size w w7 ∧ SrcF w7 (.slice (some ⟨g4, 0, none⟩) m c4) E ∧ OwnF w7 B4 (.slice a7 (j + 1) c7) (E.take j ++ [f]) ∧ B4 ≤ w7.heap.size ∧ w.heap.size ≤ B4) := by
    have hb47 : Below B4 w4 w7 := HT6.out.2.2.2.2.2.2.2.1.trans hb67
    have hwB := HT6.out.2.2.2.2.2.2.1
    refine ⟨HT6.out.1.trans (hb67.mono hwB), ?_, ho7, Nat.le_trans HO7.out.2 hb7.size, hwB⟩
    have h := HT6.out.2.2.2.2.2.2.2.2
    rw [← hB4] at hb47
    exact h.below hb47
  clear ho7 hb7 HT6 HO7 HC7 hba hba4 hb67 d0 d1
  obtain ⟨o8, hif8, hc8⟩ : ∃ o8, (if c4 = j then some (⟨g4, 0, none⟩ : Addr) else some ⟨g4, j * 2, none⟩) = some ⟨g4, o8, none⟩ ∧ ∀ k u, (fcs (E.drop j))[k]? = some u → w7.cell? ((⟨g4, o8, none⟩ : Addr).add k) = some u := by
    by_cases hc : c4 = j
    · refine ⟨0, by rw [if_pos hc], fun k u h => ?_⟩
      rw [List.drop_eq_nil_of_le (by rw [← HEl.out.1]; omega)] at h
      simp [fcs] at h
    · refine ⟨j * 2, by rw [if_neg hc], ?_⟩
      have h := HT7.out.2.1.cut j m hjm (by rw [← HEl.out.1]; exact Nat.le_refl _) (c4 - j) (by omega)
      rw [List.take_of_length_le (by rw [← HEl.out.1]; exact Nat.le_refl _), Nat.zero_add] at h
      exact h.cells
  have HC8 : Hid (∀ k u, (fcs (E.drop j))[k]? = some u → w7.cell? ((⟨g4, o8, none⟩ : Addr).add k) = some u) := hc8
  have HL8 : Hid (m - j = (E.drop j).length ∧ (E.take j ++ [f]).length = j + 1) := ⟨by rw [List.length_drop, ← HEl.out.1], by rw [List.length_append, ← HL6.out]; rfl⟩
  have HMV : Hid (E.take j ++ [f] ++ E.drop j = mvL L i j) := by
    show _ = _
    unfold mvL
    rw [HN.out.2, ← HEl.out.2]
    simp
  clear hc8
  go_wp2_with (at_builtin; refine wpList_appF rfl _ _ rfl B4 _ (E.take j ++ [f]) rfl HT7.out.2.2.1 ⟨g4, o8, none⟩ (m - j) (c4 - j) (E.drop j) HL8.out.1 rfl HC8.out (by rw [← HL8.out.1, HL8.out.2]; omega) HT7.out.2.2.2.1 _ rfl (j + 1 + (m - j)) (by rw [← HL8.out.1, HL8.out.2]) ?_; intro a8 c8 w8 ho8 hb8)
  have HF : Hid (OwnF w8 w.heap.size (.slice a8 (j + 1 + (m - j)) c8) (mvL L i j) ∧ Below w.heap.size w w8) := by
    rw [HMV.out] at ho8
    exact ⟨ho8.mono HT7.out.2.2.2.2, HT7.out.1.trans (hb8.mono HT7.out.2.2.2.2)⟩
  clear ho8 hb8 HT7
  go_ret
  exact ⟨_, rfl, HF.out⟩
end Go.Proofs.YtchkpggdndnpjaaGreatDoor
