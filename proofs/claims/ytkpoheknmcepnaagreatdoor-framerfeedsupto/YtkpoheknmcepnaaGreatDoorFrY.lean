import Derived.Test.YtkpoheknmcepnaaGreatDoorFrW

namespace Go.Proofs.YtkpoheknmcepnaaGreatDoor
set_option linter.unusedVariables false
set_option linter.unusedSimpArgs false
open Go.RowKit Go.Great Go.Shelf

def dF (l : List UInt8) (j : Nat) : Nat := (l.getD j 0).toNat
theorem dF_at {l : List UInt8} {j : Nat} (h : j < l.length) : dF l j = l[j].toNat := by
  unfold dF; rw [List.getD_eq_getElem?_getD, List.getElem?_eq_getElem h]; rfl
theorem PcAt.src {g n c : Nat} {w : World} {a : Option Addr} {l : List UInt8} (h : PcAt g w (.slice a n c) l) : Src w a n (dF l) := by
  obtain ⟨a', o, c', e, h2, h3, h4⟩ := h
  injection e with e1 e2 e3
  subst e1 e2
  by_cases h0 : 0 < l.length
  · refine .inr ⟨g, o, h3 h0, fun j hj => ⟨?_, UInt8.toNat_lt _⟩⟩
    rw [dF_at hj]
    exact lsrc_cell h4 hj
  · exact .inl (by omega)
theorem OwnA.lsrc {w : World} {g n : Nat} {f : Nat → Nat} {l : List UInt8} (h : OwnA w g n f) (hn : l.length ≤ n) (hf : ∀ j, j < l.length → f j = dF l j) : LSrc w (some ⟨g, 0, none⟩) l :=
  .inr ⟨g, 0, rfl, fun j hj => by rw [Nat.zero_add, h.cell j (by omega), hf j hj, dF_at hj]⟩
/-- A framer and the reference's, both of them behind the bytes b. -/
structure Pr (f : List UInt8 → Sight) (lk : FuncId) (kd : Int) (w : World) (p : Nat) (vb : Value) (q : Nat) (vs : Value) (b : List UInt8) : Prop where
  fm : ∃ wants told, FmB w p (.func (.func lk) #[] #[]) vb wants (walkL f b 0).k told ∧ told + (walkL f b 0).j = (walkL f b 0).k ∧ wants ≤ 1024 ∧ ∀ c, ((walkL f b 0).r ++ c).length < wants → ∃ m, f ((walkL f b 0).r ++ c) = .begun m
  row : ByAt w vb (walkL f b 0).r
  rlt : (walkL f b 0).r.length < 1024
  rf : ∃ P, RFB w q kd vs P (walkL f b 0).k (walkL f b 0).j ∧ P ≤ b.length ∧ b.drop P = (walkL f b 0).r
  rrow : ByAt w vs b
  ap : ∀ x, vb.ownBlock = some x → vs.ownBlock ≠ some x
def PrB (p : Nat) (vb : Value) (q : Nat) (vs : Value) (x : Nat) : Prop := x = p ∨ vb.ownBlock = some x ∨ x = q ∨ vs.ownBlock = some x
/-- The reference's Feed does what it should. -/
def RefOK (f : List UInt8 → Sight) (kd : Int) : Prop := ∀ {w : World} {p P K J g : Nat} {vs va : Value} {st l : List UInt8}, RFB w p kd vs P K J → ByAt w vs st → P ≤ st.length → PcAt g w va l → st.length + l.length ≤ 1000000000 → J ≤ 1000000000 → K ≤ 1000000000 →
  Calls Tryz.prog 38 #[.pointer (some ⟨p, 0, none⟩), va] w fun e w' => ∃ v, e = .returned v ∧ RFE f w w' p kd vs v (st ++ l) P J K
theorem ref_text : RefOK textS 1 := fun hb hrow hP hpc hl hJ hK => refFeed_text hb hrow hP hpc hl hJ hK
theorem ref_bin : RefOK binS 2 := fun hb hrow hP hpc hl hJ hK => refFeed_bin hb hrow hP hpc hl hJ hK
section
variable {f : List UInt8 → Sight} {lk : FuncId} {kd : Int} {w w' : World} {p q : Nat} {vb vs : Value} {b : List UInt8} {ex : Nat → Prop}
theorem RFB.fr' {P K J : Nat} (h : RFB w q kd vs P K J) (hf : Fr w w' ex) (hn : ¬ ex q) : RFB w' q kd vs P K J := (hf.block q h.lt hn).trans h
theorem Pr.fr (h : Pr f lk kd w p vb q vs b) (hf : Fr w w' ex) (hn : ∀ x, PrB p vb q vs x → ¬ ex x) : Pr f lk kd w' p vb q vs b := by
  obtain ⟨wants, told, h1, h2⟩ := h.fm
  obtain ⟨P, h3, h4⟩ := h.rf
  exact ⟨⟨wants, told, h1.fr hf (hn p (.inl rfl)), h2⟩, RowAt.fr h.row hf fun x hx => hn x (.inr (.inl hx)), h.rlt, ⟨P, h3.fr' hf (hn q (.inr (.inr (.inl rfl)))), h4⟩, RowAt.fr h.rrow hf fun x hx => hn x (.inr (.inr (.inr hx))), h.ap⟩
theorem Pr.start (hf : Steady f) (hp : w.heap[p]? = some (newF lk)) (hq : RFB w q kd (.slice none 0 0) 0 0 0) : Pr f lk kd w p (.slice none 0 0) q (.slice none 0 0) [] := by
  obtain ⟨m, hm⟩ := steady_nil hf
  have e := walkL_begun hm 0
  refine ⟨⟨0, 0, ?_, ?_, by decide, fun c h => absurd h (Nat.not_lt_zero _)⟩, ?_, ?_, ⟨0, ?_, Nat.le_refl _, ?_⟩, RowAt.none0 _ _ _, fun _ h => (by cases h)⟩
  · rw [e]; exact hp
  · rw [e]; rfl
  · rw [e]; exact RowAt.none0 _ _ _
  · rw [e]; decide
  · rw [e]; exact hq
  · rw [e]; rfl
/-- What the reference found is what the walk finds. -/
theorem ref_walk (hf : Steady f) {l : List UInt8} {w1 w2 : World} {vo : Value} {fs : List Fm} {P0 P J K : Nat} (hP : P0 ≤ b.length) (hd : b.drop P0 = (walkL f b 0).r) (h : RK f w1 w2 q kd vs vo (b ++ l) P0 (walkL f b 0).j (walkL f b 0).k fs P J K) (he : (∃ m, f ((b ++ l).drop P) = .begun m) ∨ P = (b ++ l).length) :
    fsOf fs = (walkL f ((walkL f b 0).r ++ l) (walkL f b 0).j).fs ∧ J = (walkL f (b ++ l) 0).j ∧ K = (walkL f (b ++ l) 0).k ∧ (b ++ l).drop P = (walkL f (b ++ l) 0).r := by
  have hbg : ∃ m, f ((b ++ l).drop P) = .begun m := by
    rcases he with q | q
    · exact q
    · rw [q, List.drop_length]; exact steady_nil hf
  obtain ⟨m, hm⟩ := hbg
  obtain ⟨k2, hk2, heq⟩ := h.eq
  have e := walkL_begun hm J
  rw [e, List.drop_append_of_le_length hP, hd] at heq
  obtain ⟨q1, q2, q3, q4⟩ := walk_step hf b l 0
  rw [heq] at q1 q2 q3 q4 ⊢
  simp only [List.append_nil, Nat.add_zero] at q1 q2 q3 q4 ⊢
  exact ⟨trivial, q2.symm, by omega, q4.symm⟩
end
theorem sum_le {l : List (List UInt8 × Nat)} {x : List UInt8 × Nat} (h : x ∈ l) : x.1.length ≤ sumF l := by
  induction l with
  | nil => cases h
  | cons y ys ih =>
    have e : sumF (y :: ys) = y.1.length + sumF ys := rfl
    rcases List.mem_cons.1 h with q | q
    · subst q; omega
    · have := ih q; omega
end Go.Proofs.YtkpoheknmcepnaaGreatDoor

namespace Go.Proofs.YtkpoheknmcepnaaGreatDoor
set_option linter.unusedVariables false
set_option linter.unusedSimpArgs false
open Go.RowKit Go.Great Go.Shelf

def NwB (v1 v2 : Value) (fs1 fs2 : List Fm) (x : Nat) : Prop := v1.ownBlock = some x ∨ v2.ownBlock = some x ∨ (∃ y, y ∈ fs1 ∧ y.v.ownBlock = some x) ∨ ∃ y, y ∈ fs2 ∧ y.v.ownBlock = some x
/-- Behind both Feeds. -/
structure Mid (f : List UInt8 → Sight) (lk : FuncId) (kd : Int) (w w4 : World) (p : Nat) (vb : Value) (q : Nat) (vs : Value) (b l : List UInt8) (vb' vs' v1 v2 : Value) (fs1 fs2 : List Fm) : Prop where
  pr : Pr f lk kd w4 p vb' q vs' (b ++ l)
  f1 : FoundAt w4 v1 fs1
  f2 : FoundAt w4 v2 fs2
  e1 : fsOf fs1 = (walkL f ((walkL f b 0).r ++ l) (walkL f b 0).j).fs
  e2 : fsOf fs2 = (walkL f ((walkL f b 0).r ++ l) (walkL f b 0).j).fs
  fr : Fr w w4 (PrB p vb q vs)
  new : ∀ x, NwB v1 v2 fs1 fs2 x → w.heap.size ≤ x ∧ x < w4.heap.size ∧ ¬ PrB p vb' q vs' x
  old : ∀ x, PrB p vb' q vs' x → x < w4.heap.size ∧ (PrB p vb q vs x ∨ w.heap.size ≤ x)
theorem fed_mid {f : List UInt8 → Sight} {lk : FuncId} {kd : Int} (hf : Steady f) {w w1 w2 w3 w4 : World} {p q : Nat} {vb vs vb' v1 v2 sv : Value} {b l : List UInt8} {fs1 : List Fm} {wants' told' P : Nat} (h : Pr f lk kd w p vb q vs b)
    (hF1 : Fr w w1 (fun _ => False)) (hs1 : w.heap.size < w1.heap.size) (hH : FH sv w1 w2 p lk vb vb' v1 wants' told' ((walkL f b 0).k + (walkL f ((walkL f b 0).r ++ l) (walkL f b 0).j).k) (walkL f ((walkL f b 0).r ++ l) (walkL f b 0).j).j (walkL f ((walkL f b 0).r ++ l) (walkL f b 0).j).r fs1)
    (hfs : fsOf fs1 = (walkL f ((walkL f b 0).r ++ l) (walkL f b 0).j).fs) (hrl : (walkL f ((walkL f b 0).r ++ l) (walkL f b 0).j).r.length < 1024) (hwa : wants' ≤ 1024) (hmo : ∀ c, ((walkL f ((walkL f b 0).r ++ l) (walkL f b 0).j).r ++ c).length < wants' → ∃ m, f ((walkL f ((walkL f b 0).r ++ l) (walkL f b 0).j).r ++ c) = .begun m)
    (hF3 : Fr w2 w3 (fun x => x = w.heap.size)) (hP : P ≤ b.length) (hd : b.drop P = (walkL f b 0).r) (hR : RFE f w3 w4 q kd vs v2 (b ++ l) P (walkL f b 0).j (walkL f b 0).k) : ∃ vs' fs2, Mid f lk kd w w4 p vb q vs b l vb' vs' v1 v2 fs1 fs2 ∧ newer w vb vb' ∧ newer w vs vs' := by
  obtain ⟨wm, vs', fs2, P', J', K', hFm, hnm, hlm, hRK, hend⟩ := hR.out
  obtain ⟨r1, r2, r3, r4⟩ := ref_walk hf hP hd hRK hend
  obtain ⟨q1, q2, q3, q4⟩ := walk_step hf b l 0
  obtain ⟨wants, told, h1, -⟩ := h.fm
  obtain ⟨P0, h3, -⟩ := h.rf
  have hG := hH.G
  have z2 := hG.fr.size
  have z3 := hF3.size
  have zm := hFm.size
  have z4 := hRK.fr.size
  have pl : p < w.heap.size := h1.lt
  have ql : q < w.heap.size := h3.lt
  have vbl : ∀ x, vb.ownBlock = some x → x < w.heap.size := fun x hx => (RowAt.lt h.row hx).1
  have vsl : ∀ x, vs.ownBlock = some x → x < w.heap.size := fun x hx => (RowAt.lt h.rrow hx).1
  have pq : p ≠ q := fun e => by subst e; exact absurd (obj_type h1 h3) (by decide)
  have vbq : vb.ownBlock ≠ some q := RowAt.ne_type h.row h3 (by decide)
  have vsp : vs.ownBlock ≠ some p := RowAt.ne_type h.rrow h1 (by decide)
  have vb'l : ∀ x, vb'.ownBlock = some x → x < w2.heap.size := fun x hx => (RowAt.lt hG.row hx).1
  have vb'n : ∀ x, vb'.ownBlock = some x → vb.ownBlock = some x ∨ w1.heap.size ≤ x := fun x hx => by
    rcases hG.nvb with e | ⟨g, e, hg⟩
    · exact .inl (by rw [← e]; exact hx)
    · rw [e] at hx; injection hx with hx; exact .inr (by omega)
  have vs'n : ∀ x, vs'.ownBlock = some x → vs.ownBlock = some x ∨ w3.heap.size ≤ x := fun x hx => by
    rcases hnm with e | ⟨g, e, hg⟩
    · exact .inl (by rw [← e]; exact hx)
    · rw [e] at hx; injection hx with hx; exact .inr (by omega)
  -- from w2 on
  have hF24 : Fr w2 w4 (fun x => x = w.heap.size ∨ x = q ∨ vs.ownBlock = some x) := (hF3.trans hFm (e3 := fun x => x = w.heap.size ∨ x = q ∨ vs.ownBlock = some x) fun x _ e => e).trans hRK.fr fun x _ e => by
    rcases e with e | e
    · exact e
    · exact .inr (.inl e)
  have nvb' : ∀ x, vb'.ownBlock = some x → ¬ (x = w.heap.size ∨ x = q ∨ vs.ownBlock = some x) := fun x hx e => by
    rcases vb'n x hx with k | k
    · have := vbl x k
      rcases e with e | e | e
      · omega
      · subst e; exact vbq k
      · exact h.ap x k e
    · rcases e with e | e | e
      · omega
      · omega
      · have := vsl x e; omega
  have nhi : ∀ x, w1.heap.size ≤ x → ¬ (x = w.heap.size ∨ x = q ∨ vs.ownBlock = some x) := fun x hx e => by
    rcases e with e | e | e
    · omega
    · omega
    · have := vsl x e; omega
  have hblk4 := hG.blk.fr hF24 (fun e => by rcases e with e | e | e; omega; exact pq e; exact vsp e)
  have hrow4 := RowAt.fr hG.row hF24 nvb'
  have hf14 := hG.found.frx hF24 (fun x hx => nhi x (hG.nv x hx)) (fun y hy x hx => nhi x (hG.news y hy x hx))
  have f1lt : ∀ y, y ∈ fs1 → ∀ x, y.v.ownBlock = some x → x < w2.heap.size := fun y hy x hx => (RowAt.lt (hG.found.each y hy) hx).1
  refine ⟨vs', fs2, ⟨⟨⟨wants', told', ?_, ?_, hwa, ?_⟩, ?_, ?_, ⟨P', ?_, hRK.ple, r4⟩, hRK.row, fun x hx hx2 => ?_⟩, hf14, hRK.found, hfs, r1, ?_, fun x hx => ?_, fun x hx => ?_⟩, ?_, ?_⟩
  · rw [q3]; exact hblk4
  · rw [q2, q3]; exact hG.tj
  · rw [q4]; exact hmo
  · rw [q4]; exact hrow4
  · rw [q4]; exact hrl
  · have := hRK.blk; rw [r2, r3] at this; exact this
  · rcases vb'n x hx with k | k
    · rcases vs'n x hx2 with k2 | k2
      · exact h.ap x k k2
      · have := vbl x k; omega
    · rcases vs'n x hx2 with k2 | k2
      · have := vsl x k2; omega
      · have := vb'l x hx; omega
  · refine ((hF1.trans hG.fr (e3 := PrB p vb q vs) fun x _ e => ?_).trans hF24 fun x hxl e => ?_)
    · rcases e with e | e | e
      · exact e.elim
      · exact .inl e
      · exact .inr (.inl e)
    · rcases e with e | e | e | e
      · exact e
      · omega
      · exact .inr (.inr (.inl e))
      · exact .inr (.inr (.inr e))
  · rcases hx with hx | hx | ⟨y, hy, hx⟩ | ⟨y, hy, hx⟩
    · obtain ⟨hl4, cur, hc⟩ := hf14.row.lt hx
      refine ⟨by have := hG.nv x hx; omega, hl4, fun e => ?_⟩
      rcases e with e | e | e | e
      · subst e; exact absurd (obj_type hc hblk4) (by decide)
      · exact RowAt.ne_type hrow4 hc (by decide) e
      · subst e; exact absurd (obj_type hc hRK.blk) (by decide)
      · exact RowAt.ne_type hRK.row hc (by decide) e
    · obtain ⟨hl4, cur, hc⟩ := hRK.found.row.lt hx
      refine ⟨by have := hRK.vnew x hx; omega, hl4, fun e => ?_⟩
      rcases e with e | e | e | e
      · subst e; exact absurd (obj_type hc hblk4) (by decide)
      · exact RowAt.ne_type hrow4 hc (by decide) e
      · subst e; exact absurd (obj_type hc hRK.blk) (by decide)
      · exact RowAt.ne_type hRK.row hc (by decide) e
    · have k1 := hG.news y hy x hx
      have k2 := f1lt y hy x hx
      refine ⟨by omega, by omega, fun e => ?_⟩
      rcases e with e | e | e | e
      · omega
      · exact hG.apart y hy x hx e
      · omega
      · rcases vs'n x e with k | k
        · have := vsl x k; omega
        · omega
    · have k1 := hRK.news y hy x hx
      have k2 := (RowAt.lt (hRK.found.each y hy) hx).1
      refine ⟨by omega, k2, fun e => ?_⟩
      rcases e with e | e | e | e
      · omega
      · have := vb'l x e; omega
      · omega
      · have := hlm x e; omega
  · rcases hx with hx | hx | hx | hx
    · subst hx; exact ⟨by omega, .inl (.inl rfl)⟩
    · have := vb'l x hx
      refine ⟨by omega, ?_⟩
      rcases vb'n x hx with k | k
      · exact .inl (.inr (.inl k))
      · exact .inr (by omega)
    · subst hx; exact ⟨by omega, .inl (.inr (.inr (.inl rfl)))⟩
    · have := hlm x hx
      refine ⟨by omega, ?_⟩
      rcases vs'n x hx with k | k
      · exact .inl (.inr (.inr (.inr k)))
      · exact .inr (by omega)
  · rcases hG.nvb with e | ⟨g, e, hg⟩
    · exact .inl e
    · exact .inr ⟨g, e, by omega⟩
  · rcases hnm with e | ⟨g, e, hg⟩
    · exact .inl e
    · exact .inr ⟨g, e, by omega⟩
end Go.Proofs.YtkpoheknmcepnaaGreatDoor

namespace Go.Proofs.YtkpoheknmcepnaaGreatDoor
set_option linter.unusedVariables false
set_option linter.unusedSimpArgs false
open Go.RowKit Go.Great Go.Shelf

/-- What fed leaves. -/
structure FdO (f : List UInt8 → Sight) (lk : FuncId) (kd : Int) (w w' : World) (p : Nat) (vb : Value) (q : Nat) (vs : Value) (po : Nat) (b l : List UInt8) (S0 : Nat → Prop) (NE NL : Nat) : Prop where
  out : ∃ vb' vs' vl vL vh vw E LE hfs wfs S', Pr f lk kd w' p vb' q vs' (b ++ l) ∧ OT w' po vl vL vh vw E LE hfs wfs S' ∧ (∀ x, PrB p vb' q vs' x → (PrB p vb q vs x ∨ w.heap.size ≤ x) ∧ x < w'.heap.size ∧ ¬ S' x) ∧ (∀ x, S' x → (S0 x ∨ w.heap.size ≤ x) ∧ x < w'.heap.size) ∧ E.length = NE ∧ LE.length = NL ∧ hfs.length + (walkL f b 0).fs.length = (walkL f (b ++ l) 0).fs.length ∧ (∀ x, x ∈ hfs → x.l.length ≤ 900000000)
  fr : Fr w w' (fun x => PrB p vb q vs x ∨ S0 x)
set_option maxRecDepth 100000 in
set_option maxHeartbeats 4000000 in
theorem fed_any {W0 : World} {f : List UInt8 → Sight} {lk : FuncId} {kd : Int} (hf : Steady f) (hlk : LookOK W0 lk f) (hcf : ∀ args w, (callFunc lk args).run Tryz.prog w = .ok (.enter lk args) w) (hbeg : ∀ b n, f b = .begun n → n ≤ 1024) (href : RefOK f kd)
    {w : World} {p q po g : Nat} {vb vs va vl vL vh vw : Value} {b l : List UInt8} {E : List Ow} {LE : List Lw} {hfs wfs : List Fm} {S0 : Nat → Prop}
    (hp : Pr f lk kd w p vb q vs b) (ho : OT w po vl vL vh vw E LE hfs wfs S0) (hpc : PcAt g w va l) (hg : 0 < l.length → g < W0.heap.size) (hW0 : Below W0.heap.size W0 w)
    (hB : ∀ x, PrB p vb q vs x → W0.heap.size ≤ x ∧ ¬ S0 x) (hS : ∀ x, S0 x → W0.heap.size ≤ x ∧ x < w.heap.size)
    (hlen : b.length + l.length ≤ 5000000) (hE : E.length + 2 * hfs.length ≤ 80000000) (hLE : LE.length ≤ 80000000) (hh : hfs.length ≤ 10000000) (hb9 : ∀ x, x ∈ hfs → x.l.length ≤ 900000000) :
    Calls Tryz.prog 17 #[.pointer (some ⟨p, 0, none⟩), .pointer (some ⟨q, 0, none⟩), .pointer (some ⟨po, 0, none⟩), va] w fun e w' => e = .returned (.bool true) ∧ FdO f lk kd w w' p vb q vs po b l S0 (E.length + 2 * hfs.length) (LE.length + 2) := by
  obtain ⟨a, o, c, rfl, hlc, ha, hls⟩ := id hpc
  obtain ⟨n, hn⟩ : ∃ n, l.length = n := ⟨_, rfl⟩
  obtain ⟨NE, hNE⟩ : ∃ NE, E.length + 2 * hfs.length = NE := ⟨_, rfl⟩
  obtain ⟨NL, hNL⟩ : ∃ NL, LE.length + 2 = NL := ⟨_, rfl⟩
  obtain ⟨wants, told, hfm, htj, hwa, hmore⟩ := hp.fm
  obtain ⟨P, hrf, hPl, hdr⟩ := hp.rf
  have hall := walk_all hf _ b 0 (Nat.le_refl _)
  have hjk := (walk_junk hf _ b 0 (Nat.le_refl _)).1
  have hbg := (walk_junk hf _ b 0 (Nat.le_refl _)).2
  have hkb : (walkL f b 0).k ≤ 5000000 := by omega
  rw [hn] at hpc hlc
  have hlent := lent_any a n c (dF l) w (by omega) hpc.src
  have HH : Hid (Pr f lk kd w p vb q vs b ∧ OT w po vl vL vh vw E LE hfs wfs S0 ∧ PcAt g w (.slice a n c) l ∧ Below W0.heap.size W0 w) := ⟨hp, ho, hpc, hW0⟩
  have HG : Hid ((0 < l.length → g < W0.heap.size) ∧ (∀ x, PrB p vb q vs x → W0.heap.size ≤ x ∧ ¬ S0 x) ∧ (∀ x, S0 x → W0.heap.size ≤ x ∧ x < w.heap.size) ∧ l.length = n ∧ b.length + l.length ≤ 5000000) := ⟨hg, hB, hS, hn, hlen⟩
  have HN : Hid (E.length + 2 * hfs.length = NE ∧ LE.length + 2 = NL ∧ E.length + 2 * hfs.length ≤ 80000000 ∧ LE.length ≤ 80000000 ∧ hfs.length ≤ 10000000 ∧ (∀ x, x ∈ hfs → x.l.length ≤ 900000000)) := ⟨hNE, hNL, hE, hLE, hh, hb9⟩
  have HM : Hid (FmB w p (.func (.func lk) #[] #[]) vb wants (walkL f b 0).k told ∧ told + (walkL f b 0).j = (walkL f b 0).k ∧ wants ≤ 1024 ∧ (∀ c, ((walkL f b 0).r ++ c).length < wants → ∃ m, f ((walkL f b 0).r ++ c) = .begun m) ∧ RFB w q kd vs P (walkL f b 0).k (walkL f b 0).j ∧ P ≤ b.length ∧ b.drop P = (walkL f b 0).r ∧ (∃ m, f (walkL f b 0).r = .begun m) ∧ (walkL f b 0).k ≤ 5000000 ∧ (walkL f b 0).j ≤ 5000000) := ⟨hfm, htj, hwa, hmore, hrf, hPl, hdr, hbg, hkb, by omega⟩
  have hn9 : n ≤ 5000000 := by omega
  have hnl : (n : Int) ≤ (n : Int) + 8 := by omega
  rw [hNE, hNL, hn]
  clear hp ho hpc hg hB hS hlen hE hLE hh hb9 hfm htj hwa hmore hrf hPl hdr hall hjk hbg hkb hls ha hNE hNL hn hW0
  go_enter Tryz.func17, Tryz.ntmps17
  go_wp2_with (go_at_call 36; fail)
  refine hlent.mono ?_
  clear hlent
  rintro e w1 ⟨rfl, hO1, hB1⟩
  have hF1 : Fr w w1 (fun _ => False) := Fr.of_below hB1 _
  have hg1 := hO1.lt
  have hplt : p < w.heap.size := HM.out.1.lt
  have hfeed := Feed_any (W0 := W0) (g := w.heap.size) (o := 0) (a := some ⟨w.heap.size, 0, none⟩) (n := n) (c := n + 8) (l := l) hf hlk hcf hbeg (HM.out.1.fr hF1 id) HM.out.2.1 (RowAt.fr HH.out.1.row hF1 fun _ _ e => e) HM.out.2.2.2.2.2.2.2.1 HH.out.1.rlt HM.out.2.2.1 HM.out.2.2.2.1 (hO1.lsrc (by have := HG.out.2.2.2.1; omega) fun j hj => if_pos (by have := HG.out.2.2.2.1; omega)) (fun _ => ⟨rfl, by omega, fun e => by have := (RowAt.lt HH.out.1.row e).1; omega⟩) HG.out.2.2.2.1 (by omega) (by omega) (by have := HM.out.2.2.2.2.2.2.2.2.1; omega) (HH.out.2.2.2.trans (hF1.below HH.out.2.2.2.size fun _ _ e => e)) (HG.out.2.1 p (.inl rfl)).1 (fun x hx => (HG.out.2.1 x (.inr (.inl hx))).1)
  have HF1 : Hid (Fr w w1 (fun _ => False) ∧ w.heap.size < w1.heap.size ∧ OwnA w1 w.heap.size (n + 8) (fun j => if j < n then dF l j else 201)) := ⟨hF1, hg1, hO1⟩
  clear hF1 hg1 hO1 hB1 hplt
  go_wp2_with (go_at_call 10; fail)
  refine hfeed.mono ?_
  clear hfeed
  rintro e w2 ⟨vb', v1, wants', told', fs1, rfl, hH, hfs1, hrl1, hwa1, hmo1⟩
  have hpc2 : PcAt g w2 (.slice a n c) l := HH.out.2.2.1.fr' (HF1.out.1.trans hH.G.fr (e3 := fun x => x = p ∨ vb.ownBlock = some x) fun x _ e => e.elim False.elim id) fun h0 e => by
    have h5 := HG.out.1 h0
    rcases e with e | e
    · have := (HG.out.2.1 p (.inl rfl)).1; omega
    · have := (HG.out.2.1 g (.inr (.inl e))).1; omega
  have hO2 : OwnA w2 w.heap.size (n + 8) (fun j => if j < n then dF l j else 201) := HF1.out.2.2.keep (hH.G.fr.block _ HF1.out.2.1 fun e => by
    rcases e with e | e
    · have := HM.out.1.lt; omega
    · have := (RowAt.lt HH.out.1.row e).1; omega)
  have hstl := still_any w.heap.size n (n + 8) a c (dF l) w2 (by omega) hpc2.src (fun b' off e h0 e2 => by
    obtain ⟨a5, o5, c5, e5, -, ha5, -⟩ := HH.out.2.2.1
    injection e5 with e5 e6 e7
    have h6 := ha5 (by have := HG.out.2.2.2.1; omega)
    rw [← e5, e] at h6
    injection h6 with h6
    injection h6 with h6 h7
    have h8 := HG.out.1 (by have := HG.out.2.2.2.1; omega)
    have h9 := HH.out.2.2.2.size
    omega) hO2
  have HF2 : Hid (FH (.slice (some ⟨w.heap.size, 0, none⟩) n (n + 8)) w1 w2 p lk vb vb' v1 wants' told' ((walkL f b 0).k + (walkL f ((walkL f b 0).r ++ l) (walkL f b 0).j).k) (walkL f ((walkL f b 0).r ++ l) (walkL f b 0).j).j (walkL f ((walkL f b 0).r ++ l) (walkL f b 0).j).r fs1 ∧ fsOf fs1 = (walkL f ((walkL f b 0).r ++ l) (walkL f b 0).j).fs ∧ (walkL f ((walkL f b 0).r ++ l) (walkL f b 0).j).r.length < 1024 ∧ wants' ≤ 1024 ∧ (∀ c, ((walkL f ((walkL f b 0).r ++ l) (walkL f b 0).j).r ++ c).length < wants' → ∃ m, f ((walkL f ((walkL f b 0).r ++ l) (walkL f b 0).j).r ++ c) = .begun m) ∧ PcAt g w2 (.slice a n c) l) := ⟨hH, hfs1, hrl1, hwa1, hmo1, hpc2⟩
  clear hH hfs1 hrl1 hwa1 hmo1 hpc2 hO2
  go_wp2_with (go_at_call 37; fail)
  refine hstl.mono ?_
  clear hstl
  rintro e w3 ⟨rfl, hF3⟩
  have hF03 : Fr w w3 (fun x => x = p ∨ vb.ownBlock = some x) := (HF1.out.1.trans HF2.out.1.G.fr (e3 := fun x => x = p ∨ vb.ownBlock = some x) fun x _ e => e.elim False.elim id).trans hF3 fun x hx e => by
    rcases e with e | e
    · exact e
    · omega
  have hrfd := href (HM.out.2.2.2.2.1.fr' hF03 (fun e => by
      rcases e with e | e
      · subst e; exact absurd (obj_type HM.out.2.2.2.2.1 HM.out.1) (by decide)
      · exact RowAt.ne_type HH.out.1.row HM.out.2.2.2.2.1 (by decide) e)) (RowAt.fr HH.out.1.rrow hF03 fun x hx e => by
      rcases e with e | e
      · subst e; exact RowAt.ne_type HH.out.1.rrow HM.out.1 (by decide) hx
      · exact HH.out.1.ap x e hx) HM.out.2.2.2.2.2.1 (HF2.out.2.2.2.2.2.fr' hF3 fun h0 e => by have := HG.out.1 h0; have := HH.out.2.2.2.size; omega) (by have := HG.out.2.2.2.2; omega) (by have := HM.out.2.2.2.2.2.2.2.2.2; omega) (by have := HM.out.2.2.2.2.2.2.2.2.1; omega)
  have HF3 : Hid (Fr w2 w3 (fun x => x = w.heap.size)) := hF3
  clear hF3 hF03
  go_wp2_with (go_at_call 38; fail)
  refine hrfd.mono ?_
  clear hrfd
  rintro e w4 ⟨v2, rfl, hRF⟩
  obtain ⟨vs', fs2, hMid, -, -⟩ := fed_mid hf HH.out.1 HF1.out.1 HF1.out.2.1 HF2.out.1 HF2.out.2.1 HF2.out.2.2.1 HF2.out.2.2.2.1 HF2.out.2.2.2.2.1 HF3.out HM.out.2.2.2.2.2.1 HM.out.2.2.2.2.2.2.1 hRF
  have HMid : Hid (Mid f lk kd w w4 p vb q vs b l vb' vs' v1 v2 fs1 fs2) := hMid
  obtain ⟨wq, tq, hfm4, -⟩ := hMid.pr.fm
  obtain ⟨P4, hrf4, hP4, hd4⟩ := hMid.pr.rf
  obtain ⟨a1, c1, hv1, -⟩ := hMid.f1.row.form
  obtain ⟨a2, c2, hv2, -⟩ := hMid.f2.row.form
  obtain ⟨ab, cb, hvb, -⟩ := RowAt.form hMid.pr.row
  obtain ⟨az, cz, hvs, -⟩ := RowAt.form hMid.pr.rrow
  have hl12 : fs2.length = fs1.length := by
    have h5 := congrArg List.length (hMid.e1.trans hMid.e2.symm)
    simp only [fsOf, List.length_map] at h5
    omega
  rw [hl12] at hv2
  obtain ⟨m, hm⟩ : ∃ m, fs1.length = m := ⟨_, rfl⟩
  rw [hm] at hv1 hv2
  obtain ⟨K4, hK4⟩ : ∃ K4, (walkL f (b ++ l) 0).k = K4 := ⟨_, rfl⟩
  obtain ⟨nr, hnr⟩ : ∃ nr, (walkL f (b ++ l) 0).r.length = nr := ⟨_, rfl⟩
  rw [hnr] at hvb
  rw [hK4] at hfm4 hrf4
  have hwt : (b ++ l).length - P4 = nr := by rw [← hnr, ← hd4, List.length_drop]
  have hbl : (b ++ l).length ≤ 5000000 := by rw [List.length_append]; exact HG.out.2.2.2.2
  subst hv1 hv2
  rw [hvb] at hfm4
  rw [hvs] at hrf4
  have hw1 := Waits_any hfm4
  have hw2 := refWaits_any hrf4 hP4 (by omega)
  rw [hwt] at hw2
  have HFM : Hid (FmB w4 p (.func (.func lk) #[] #[]) (.slice ab nr cb) wq K4 tq ∧ RFB w4 q kd (.slice az (b ++ l).length cz) P4 K4 (walkL f (b ++ l) 0).j) := ⟨hfm4, hrf4⟩
  have HLN : Hid (fs1.length = m ∧ fs2.length = fs1.length) := ⟨hm, hl12⟩
  clear hRF HF1 HF2 HF3 hMid hfm4 hrf4 hP4 hd4 hwt hbl hvb hvs hl12 hm hK4 hnr
  go_wp2_with (go_at_call 13; fail)
  refine hw1.mono ?_
  clear hw1
  rintro e w4' ⟨rfl, rfl⟩
  go_wp2_with (go_at_call 39; fail)
  refine hw2.mono ?_
  clear hw2
  rintro e w5 ⟨rfl, hB5⟩
  have hF5 : Fr w4' w5 (fun _ => False) := Fr.of_below hB5 _
  have hj1 := Junk_any (HFM.out.1.fr hF5 id)
  have hj2 := refJunk_any (HFM.out.2.fr' hF5 id)
  have HM5 : Hid (Mid f lk kd w w5 p vb q vs b l vb' vs' (.slice a1 m c1) (.slice a2 m c2) fs1 fs2) := by
    have hz := hF5.size
    exact ⟨HMid.out.pr.fr hF5 fun _ _ e => e, HMid.out.f1.fr0 hF5, HMid.out.f2.fr0 hF5, HMid.out.e1, HMid.out.e2, HMid.out.fr.trans hF5 fun x _ e => e.elim id False.elim, fun x hx => ⟨(HMid.out.new x hx).1, by have := (HMid.out.new x hx).2.1; omega, (HMid.out.new x hx).2.2⟩, fun x hx => ⟨by have := (HMid.out.old x hx).1; omega, (HMid.out.old x hx).2⟩⟩
  clear hB5 hF5 HMid HFM
  go_wp2_with (go_at_call 12; fail)
  refine hj1.mono ?_
  clear hj1
  rintro e w5' ⟨rfl, rfl⟩
  go_wp2_with (go_at_call 40; fail)
  refine hj2.mono ?_
  clear hj2
  rintro e w5 ⟨rfl, rfl⟩
  have hM := HM5.out
  have hT := takes_any fill_any (S := fun x => S0 x ∨ NwB (.slice a1 m c1) (.slice a2 m c2) fs1 fs2 x) (HH.out.2.1.fr hM.fr fun x hx e => (HG.out.2.1 x e).2 hx) hM.f1 hM.f2 (hM.e1.trans hM.e2.symm) (fun x hx => .inl hx)
    (fun x hx => ⟨.inr (.inl hx), fun e => by have := (hM.new x (.inl hx)).1; have := (HG.out.2.2.1 x e).2; omega⟩)
    (fun x hx => ⟨.inr (.inr (.inl hx)), fun e => by have := (hM.new x (.inr (.inl hx))).1; have := (HG.out.2.2.1 x e).2; omega⟩)
    (fun y hy x hx => ⟨.inr (.inr (.inr (.inl ⟨y, hy, hx⟩))), fun e => by have := (hM.new x (.inr (.inr (.inl ⟨y, hy, hx⟩)))).1; have := (HG.out.2.2.1 x e).2; omega⟩)
    (fun y hy x hx => ⟨.inr (.inr (.inr (.inr ⟨y, hy, hx⟩))), fun e => by have := (hM.new x (.inr (.inr (.inr ⟨y, hy, hx⟩)))).1; have := (HG.out.2.2.1 x e).2; omega⟩)
    HN.out.2.2.1 HN.out.2.2.2.1 HN.out.2.2.2.2.1 (by
      have h5 := congrArg List.length hM.e1
      simp only [fsOf, List.length_map] at h5
      have h6 := walk_count hf _ ((walkL f b 0).r ++ l) (walkL f b 0).j (Nat.le_refl _)
      have h7 := HH.out.1.rlt
      have h8 := HG.out.2.2.2.2
      rw [List.length_append] at h6
      omega) HN.out.2.2.2.2.2
  clear hM
  go_wp2_with (go_at_call 18; fail)
  refine hT.mono ?_
  clear hT
  rintro e w6 ⟨rfl, hTO⟩
  have HO : Hid (FdO f lk kd w w6 p vb q vs po b l S0 NE NL) := by
    have hM := HM5.out
    obtain ⟨vl', vL', E', LE', hOT, hE', hL'⟩ := hTO.out
    have hz := hTO.fr.size
    have hz5 := hM.fr.size
    have hno : ∀ x, PrB p vb' q vs' x → ¬ (S0 x ∨ NwB (.slice a1 m c1) (.slice a2 m c2) fs1 fs2 x) := fun x hx e => by
      rcases e with e | e
      · rcases (hM.old x hx).2 with k | k
        · exact (HG.out.2.1 x k).2 e
        · have := (HG.out.2.2.1 x e).2; omega
      · exact (hM.new x e).2.2 hx
    obtain ⟨q1, -, -, -⟩ := walk_step hf b l 0
    refine ⟨⟨vb', vs', vl', vL', _, _, E', LE', fs1, fs2, fun x => ((S0 x ∨ NwB (.slice a1 m c1) (.slice a2 m c2) fs1 fs2 x) ∨ w5.heap.size ≤ x) ∧ x < w6.heap.size, hM.pr.fr hTO.fr hno, hOT.mono fun x hx e => ⟨e, hx⟩, fun x hx => ⟨(hM.old x hx).2, by have := (hM.old x hx).1; omega, fun e => ?_⟩, fun x hx => ⟨?_, hx.2⟩, by rw [hE']; exact HN.out.1, by rw [hL']; exact HN.out.2.1, ?_, fun y hy => ?_⟩, ?_⟩
    · rcases e.1 with k | k
      · exact hno x hx k
      · have := (hM.old x hx).1; omega
    · rcases hx.1 with (k | k) | k
      · exact .inl k
      · exact .inr (hM.new x k).1
      · exact .inr (by omega)
    · have h5 := congrArg List.length hM.e1
      simp only [fsOf, List.length_map] at h5
      have h6 := congrArg List.length q1
      rw [List.length_append] at h6
      omega
    · have h5 : (y.l, y.j) ∈ fsOf fs1 := List.mem_map.2 ⟨y, hy, rfl⟩
      rw [hM.e1] at h5
      have h6 := sum_le h5
      have h7 := walk_all hf _ ((walkL f b 0).r ++ l) (walkL f b 0).j (Nat.le_refl _)
      have h8 := HH.out.1.rlt
      have h9 := HG.out.2.2.2.2
      rw [List.length_append] at h7
      have h10 : (y.l, y.j).1 = y.l := rfl
      rw [h10] at h6
      omega
    · refine hM.fr.trans hTO.fr fun x hx e => ?_
      rcases e with e | e | e
      · exact .inl e
      · exact .inr e
      · have := (hM.new x e).1; omega
  clear hTO HM5
  go_wp2
  go_ret
  exact ⟨rfl, HO.out⟩
end Go.Proofs.YtkpoheknmcepnaaGreatDoor

namespace Go.Proofs.YtkpoheknmcepnaaGreatDoor
set_option linter.unusedVariables false
set_option linter.unusedSimpArgs false
open Go.RowKit Go.Great Go.Shelf

def fK (k : Nat) : List UInt8 → Sight := if k = 0 then textS else binS
def lkK (k : Nat) : FuncId := if k = 0 then 19 else 20
theorem fK_steady (k : Nat) : Steady (fK k) := by
  unfold fK; split
  · exact textS_steady
  · exact binS_steady
theorem lkK_ok (k : Nat) {W0 : World} (hP : Pow W0) : LookOK W0 (lkK k) (fK k) := by
  unfold fK lkK; split
  · exact lookText_any W0 hP
  · exact lookBinary_any W0
theorem lkK_enter (k : Nat) : ∀ args w, (callFunc (lkK k) args).run Tryz.prog w = .ok (.enter (lkK k) args) w := by
  unfold lkK; split
  · exact enter_text
  · exact enter_bin
theorem fK_le (k : Nat) : ∀ b n, fK k b = .begun n → n ≤ 1024 := by
  unfold fK; split
  · exact textS_le
  · exact binS_le
def kdK (k : Nat) : Int := if k = 0 then 1 else 2
theorem kdK_or (k : Nat) : kdK k = 1 ∨ kdK k = 2 := by
  unfold kdK; split
  · exact .inl rfl
  · exact .inr rfl
theorem kdK_wrap {k : Nat} (h : k < 2) : IntKind.i64.wrap ((k : Int) + 1) = kdK k := by
  unfold kdK; rw [IntKind.wrap_i64]; split <;> omega
theorem refK (k : Nat) : RefOK (fK k) (kdK k) := by
  unfold fK kdK; split
  · exact ref_text
  · exact ref_bin
theorem newK (k : Nat) (w : World) : Calls Tryz.prog 8 #[.int .i64 (kdK k)] w fun e w' => e = .returned (.tuple #[.pointer (some ⟨w.heap.size, 0, none⟩), .int .i64 0]) ∧ w' = w.alloc (newF (lkK k)) := by
  unfold kdK lkK; split
  · exact New_text w
  · exact New_bin w
def ptK (i : Nat) (P : Nat → Nat) (k : Nat) : Value := if k < i then .pointer (some ⟨P k, 0, none⟩) else .pointer none
/-- Where the law stands: the first i framers and references, the owner; X tells what else lies there and stays. -/
structure LwS (W0 wr : World) (po FA RA i : Nat) (P Q : Nat → Nat) (VB VS : Nat → Value) (B : Nat → List UInt8) (vl vL vh vw : Value) (E : List Ow) (LE : List Lw) (hfs wfs : List Fm) (S X : Nat → Prop) : Prop where
  fa : wr.heap[FA]? = some (.cells #[ptK i P 0, ptK i P 1] 54 (0, 0))
  ra : wr.heap[RA]? = some (.cells #[ptK i Q 0, ptK i Q 1] 56 (0, 0))
  pr : ∀ k, k < i → Pr (fK k) (lkK k) (kdK k) wr (P k) (VB k) (Q k) (VS k) (B k)
  ot : OT wr po vl vL vh vw E LE hfs wfs S
  nb : ∀ k, k < i → ∀ x, PrB (P k) (VB k) (Q k) (VS k) x → W0.heap.size ≤ x ∧ x < wr.heap.size ∧ ¬ S x ∧ ¬ X x
  ap : ∀ k j, k < i → j < i → k ≠ j → ∀ x, PrB (P k) (VB k) (Q k) (VS k) x → ¬ PrB (P j) (VB j) (Q j) (VS j) x
  sS : ∀ x, S x → W0.heap.size ≤ x ∧ x < wr.heap.size ∧ ¬ X x
  fX : X FA
  rX : X RA
  fr : Fr W0 wr (fun _ => False)
section
variable {W0 wr wx : World} {po FA RA i : Nat} {P Q : Nat → Nat} {VB VS : Nat → Value} {B : Nat → List UInt8} {vl vL vh vw : Value} {E : List Ow} {LE : List Lw} {hfs wfs : List Fm} {S X : Nat → Prop}
theorem LwS.lt (h : LwS W0 wr po FA RA i P Q VB VS B vl vL vh vw E LE hfs wfs S X) : FA < wr.heap.size ∧ RA < wr.heap.size := ⟨(Array.getElem?_eq_some_iff.1 h.fa).1, (Array.getElem?_eq_some_iff.1 h.ra).1⟩
theorem LwS.fr0 (h : LwS W0 wr po FA RA i P Q VB VS B vl vL vh vw E LE hfs wfs S X) (hf : Fr wr wx (fun _ => False)) : LwS W0 wx po FA RA i P Q VB VS B vl vL vh vw E LE hfs wfs S X := by
  have hz := hf.size
  exact ⟨(hf.block FA h.lt.1 id).trans h.fa, (hf.block RA h.lt.2 id).trans h.ra, fun k hk => (h.pr k hk).fr hf fun _ _ e => e, h.ot.fr hf fun _ _ e => e, fun k hk x hx => ⟨(h.nb k hk x hx).1, by have := (h.nb k hk x hx).2.1; omega, (h.nb k hk x hx).2.2⟩, h.ap, fun x hx => ⟨(h.sS x hx).1, by have := (h.sS x hx).2.1; omega, (h.sS x hx).2.2⟩, h.fX, h.rX, h.fr.trans hf fun _ _ e => e.elim id id⟩
/-- More that stays. -/
theorem LwS.more (h : LwS W0 wr po FA RA i P Q VB VS B vl vL vh vw E LE hfs wfs S X) {X' : Nat → Prop} (h1 : ∀ x, X x → X' x) (h2 : ∀ x, X' x → X x ∨ wr.heap.size ≤ x) : LwS W0 wr po FA RA i P Q VB VS B vl vL vh vw E LE hfs wfs S X' :=
  ⟨h.fa, h.ra, h.pr, h.ot, fun k hk x hx => ⟨(h.nb k hk x hx).1, (h.nb k hk x hx).2.1, (h.nb k hk x hx).2.2.1, fun e => (h2 x e).elim (h.nb k hk x hx).2.2.2 fun e => by have := (h.nb k hk x hx).2.1; omega⟩, h.ap, fun x hx => ⟨(h.sS x hx).1, (h.sS x hx).2.1, fun e => (h2 x e).elim (h.sS x hx).2.2 fun e => by have := (h.sS x hx).2.1; omega⟩, h1 _ h.fX, h1 _ h.rX, h.fr⟩
def upK {α : Type} (f : Nat → α) (k : Nat) (a : α) (j : Nat) : α := if j = k then a else f j
theorem upK_same {α : Type} (f : Nat → α) (k : Nat) (a : α) : upK f k a k = a := if_pos rfl
theorem upK_ne {α : Type} (f : Nat → α) {k j : Nat} (a : α) (h : j ≠ k) : upK f k a j = f j := if_neg h
/-- One piece more is fed. -/
theorem LwS.fed {w' : World} {l : List UInt8} {NE NL k : Nat} (h : LwS W0 wr po FA RA i P Q VB VS B vl vL vh vw E LE hfs wfs S X) (hk : k < i) (hX : ∀ x, X x → x < wr.heap.size) (hO : FdO (fK k) (lkK k) (kdK k) wr w' (P k) (VB k) (Q k) (VS k) po (B k) l S NE NL) :
    ∃ VB' VS' vl' vL' vh' vw' E' LE' hfs' wfs' S', LwS W0 w' po FA RA i P Q VB' VS' (upK B k (B k ++ l)) vl' vL' vh' vw' E' LE' hfs' wfs' S' X ∧ E'.length = NE ∧ LE'.length = NL ∧ hfs'.length + (walkL (fK k) (B k) 0).fs.length = (walkL (fK k) (B k ++ l) 0).fs.length ∧ (∀ x, x ∈ hfs' → x.l.length ≤ 900000000) ∧ ∀ x, X x → w'.heap[x]? = wr.heap[x]? := by
  obtain ⟨vb', vs', vl', vL', vh', vw', E', LE', hfs', wfs', S', h1, h2, h3, h4, h5, h6, h7, h8⟩ := hO.out
  have hz := hO.fr.size
  have hno : ∀ x, X x → ¬ (PrB (P k) (VB k) (Q k) (VS k) x ∨ S x) := fun x hx e => e.elim (fun e => (h.nb k hk x e).2.2.2 hx) fun e => (h.sS x e).2.2 hx
  have hbl : ∀ x, X x → w'.heap[x]? = wr.heap[x]? := fun x hx => hO.fr.block x (hX x hx) (hno x hx)
  refine ⟨upK VB k vb', upK VS k vs', vl', vL', vh', vw', E', LE', hfs', wfs', S', ⟨(hbl _ h.fX).trans h.fa, (hbl _ h.rX).trans h.ra, fun j hj => ?_, h2, fun j hj x hx => ?_, fun j1 j2 hj1 hj2 hne x hx1 hx2 => ?_, fun x hx => ?_, h.fX, h.rX, ?_⟩, h5, h6, h7, h8, hbl⟩
  · by_cases e : j = k
    · subst e; rw [upK_same, upK_same, upK_same]; exact h1
    · rw [upK_ne _ _ e, upK_ne _ _ e, upK_ne _ _ e]
      exact (h.pr j hj).fr hO.fr fun x hx e2 => e2.elim (h.ap j k hj hk e x hx) (h.nb j hj x hx).2.2.1
  · by_cases e : j = k
    · subst e
      rw [upK_same, upK_same] at hx
      obtain ⟨q1, q2, q3⟩ := h3 x hx
      refine ⟨?_, q2, q3, fun e => ?_⟩
      · rcases q1 with q1 | q1
        · exact (h.nb j hj x q1).1
        · have := h.fr.size; omega
      · rcases q1 with q1 | q1
        · exact (h.nb j hj x q1).2.2.2 e
        · have := hX x e; omega
    · rw [upK_ne _ _ e, upK_ne _ _ e] at hx
      obtain ⟨q1, q2, q3, q4⟩ := h.nb j hj x hx
      refine ⟨q1, by omega, fun e => ?_, q4⟩
      rcases (h4 x e).1 with e | e
      · exact q3 e
      · omega
  · have key : ∀ j, j < i → j ≠ k → PrB (P j) (VB j) (Q j) (VS j) x → ¬ PrB (P k) vb' (Q k) vs' x := fun j hj hjk hx e => by
      rcases (h3 x e).1 with e | e
      · exact h.ap j k hj hk hjk x hx e
      · have := (h.nb j hj x hx).2.1; omega
    by_cases e1 : j1 = k
    · have e2 : j2 ≠ k := fun e2 => hne (e1.trans e2.symm)
      subst e1
      rw [upK_same, upK_same] at hx1
      rw [upK_ne _ _ e2, upK_ne _ _ e2] at hx2
      exact key j2 hj2 e2 hx2 hx1
    · rw [upK_ne _ _ e1, upK_ne _ _ e1] at hx1
      by_cases e2 : j2 = k
      · subst e2
        rw [upK_same, upK_same] at hx2
        exact key j1 hj1 e1 hx1 hx2
      · rw [upK_ne _ _ e2, upK_ne _ _ e2] at hx2
        exact h.ap j1 j2 hj1 hj2 hne x hx1 hx2
  · obtain ⟨q1, q2⟩ := h4 x hx
    refine ⟨?_, q2, fun e => ?_⟩
    · rcases q1 with q1 | q1
      · exact (h.sS x q1).1
      · have := h.fr.size; omega
    · rcases q1 with q1 | q1
      · exact (h.sS x q1).2.2 e
      · have := hX x e; omega
  · exact h.fr.trans hO.fr fun x hx e => by
      rcases e with e | e | e
      · exact e
      · have := (h.nb k hk x e).1; omega
      · have := (h.sS x e).1; omega
end
end Go.Proofs.YtkpoheknmcepnaaGreatDoor

namespace Go.Proofs.YtkpoheknmcepnaaGreatDoor
set_option linter.unusedVariables false
set_option linter.unusedSimpArgs false
open Go.RowKit Go.Great Go.Shelf

def newR (k : Nat) : Obj := .cells #[.int .i64 (kdK k), .slice none 0 0, .int .i64 0, .int .i64 0, .int .i64 0] 99
theorem OT.none {w : World} {po : Nat} (h : OwB w po (.slice none 0 0) (.slice none 0 0) (.slice none 0 0) (.slice none 0 0)) : OT w po (.slice none 0 0) (.slice none 0 0) (.slice none 0 0) (.slice none 0 0) [] [] [] [] (fun x => x = po) :=
  ⟨h, ⟨RowAt.none0 _ _ _, fun _ h => (by cases h)⟩, ⟨RowAt.none0 _ _ _, fun _ h => (by cases h)⟩, ⟨RowAt.none0 _ _ _, fun _ h => (by cases h), List.Pairwise.nil⟩, ⟨RowAt.none0 _ _ _, fun _ h => (by cases h), List.Pairwise.nil⟩, rfl, fun _ h => (by cases h), fun _ h => (by cases h), rfl, fun _ h => (by cases h), fun _ h => (by cases h), fun _ h => (by cases h), fun _ h => (by cases h), fun _ h => (by cases h), fun _ h => (by cases h), fun _ h => (by cases h), fun _ h => (by cases h)⟩
theorem ptK_set {i : Nat} (hi : i < 2) (P : Nat → Nat) (p : Nat) : (#[ptK i P 0, ptK i P 1] : Array Value).setIfInBounds i (.pointer (some ⟨p, 0, none⟩)) = #[ptK (i + 1) (upK P i p) 0, ptK (i + 1) (upK P i p) 1] := by
  have : i = 0 ∨ i = 1 := by omega
  rcases this with rfl | rfl
  · rfl
  · rfl
section
variable {W0 wr : World} {po FA RA i : Nat} {P Q : Nat → Nat} {VB VS : Nat → Value} {B : Nat → List UInt8} {vl vL vh vw : Value} {E : List Ow} {LE : List Lw} {hfs wfs : List Fm} {S X : Nat → Prop}
/-- One framer more, and its reference. -/
theorem LwS.add (h : LwS W0 wr po FA RA i P Q VB VS B vl vL vh vw E LE hfs wfs S X) (hi : i < 2) (hX : ∀ x, X x → x < wr.heap.size) (hX0 : ∀ x, X x → W0.heap.size ≤ x) :
    LwS W0 ((((wr.alloc (newF (lkK i))).alloc (newR i)).setCell ⟨FA, i, none⟩ (.pointer (some ⟨wr.heap.size, 0, none⟩))).setCell ⟨RA, i, none⟩ (.pointer (some ⟨wr.heap.size + 1, 0, none⟩))) po FA RA (i + 1) (upK P i wr.heap.size) (upK Q i (wr.heap.size + 1)) (upK VB i (.slice none 0 0)) (upK VS i (.slice none 0 0)) (upK B i []) vl vL vh vw E LE hfs wfs S X ∧ FmB ((wr.alloc (newF (lkK i))).alloc (newR i)) wr.heap.size (.func (.func (lkK i)) #[] #[]) (.slice none 0 0) 0 0 0 ∧ ((wr.alloc (newF (lkK i))).alloc (newR i)).heap[FA]? = some (.cells #[ptK i P 0, ptK i P 1] 54 (0, 0)) ∧ ((((wr.alloc (newF (lkK i))).alloc (newR i)).setCell ⟨FA, i, none⟩ (.pointer (some ⟨wr.heap.size, 0, none⟩))).heap[RA]? = some (.cells #[ptK i Q 0, ptK i Q 1] 56 (0, 0))) := by
  have hF12 : Fr wr ((wr.alloc (newF (lkK i))).alloc (newR i)) (fun _ => False) := (Fr.alloc _ _ (fun _ => False)).trans (Fr.alloc _ _ (fun _ => False)) fun _ _ e => e.elim id id
  have hp : ((wr.alloc (newF (lkK i))).alloc (newR i)).heap[wr.heap.size]? = some (newF (lkK i)) := (Below.heap_alloc (wr.alloc (newF (lkK i))) _ _ (by simp)).trans (heap_alloc_new wr _)
  have hq : ((wr.alloc (newF (lkK i))).alloc (newR i)).heap[wr.heap.size + 1]? = some (newR i) := by have := heap_alloc_new (wr.alloc (newF (lkK i))) (newR i); rwa [World.size_alloc] at this
  have hsz : ((wr.alloc (newF (lkK i))).alloc (newR i)).heap.size = wr.heap.size + 2 := by simp
  have h2 := h.fr0 hF12
  have hlt := h.lt
  generalize (wr.alloc (newF (lkK i))).alloc (newR i) = w2 at *
  have hne : FA ≠ RA := fun e => by subst e; exact absurd (obj_type h.fa h.ra) (by decide)
  have hF3 : Fr w2 (w2.setCell ⟨FA, i, none⟩ (.pointer (some ⟨wr.heap.size, 0, none⟩))) (fun b => b = FA) := Fr.setCell _ _ _ _ rfl
  have hfa3 : (w2.setCell ⟨FA, i, none⟩ (.pointer (some ⟨wr.heap.size, 0, none⟩))).heap[FA]? = some (.cells #[ptK (i + 1) (upK P i wr.heap.size) 0, ptK (i + 1) (upK P i wr.heap.size) 1] 54 (0, 0)) := by
    rw [setCell_eq_setRow w2 _ i _ _ _ _ h2.fa, setRow_heap w2 _ _ _ _ _ h2.fa, ptK_set hi]
  have hra3 : (w2.setCell ⟨FA, i, none⟩ (.pointer (some ⟨wr.heap.size, 0, none⟩))).heap[RA]? = some (.cells #[ptK i Q 0, ptK i Q 1] 56 (0, 0)) := (hF3.block RA h2.lt.2 (Ne.symm hne)).trans h2.ra
  have hz3 := hF3.size
  refine ⟨?_, hp, h2.fa, hra3⟩
  generalize w2.setCell ⟨FA, i, none⟩ (.pointer (some ⟨wr.heap.size, 0, none⟩)) = w3 at *
  have hF4 : Fr w3 (w3.setCell ⟨RA, i, none⟩ (.pointer (some ⟨wr.heap.size + 1, 0, none⟩))) (fun b => b = RA) := Fr.setCell _ _ _ _ rfl
  have hra4 : (w3.setCell ⟨RA, i, none⟩ (.pointer (some ⟨wr.heap.size + 1, 0, none⟩))).heap[RA]? = some (.cells #[ptK (i + 1) (upK Q i (wr.heap.size + 1)) 0, ptK (i + 1) (upK Q i (wr.heap.size + 1)) 1] 56 (0, 0)) := by
    rw [setCell_eq_setRow w3 _ i _ _ _ _ hra3, setRow_heap w3 _ _ _ _ _ hra3, ptK_set hi]
  have hz4 := hF4.size
  have hfa4 := (hF4.block FA (by omega) hne).trans hfa3
  generalize w3.setCell ⟨RA, i, none⟩ (.pointer (some ⟨wr.heap.size + 1, 0, none⟩)) = w4 at *
  have hF24 : Fr w2 w4 (fun b => b = FA ∨ b = RA) := hF3.trans hF4 fun _ _ e => e
  have hnX : ∀ x, ¬ X x → ¬ (x = FA ∨ x = RA) := fun x hx e => by
    rcases e with e | e
    · subst e; exact hx h.fX
    · subst e; exact hx h.rX
  have hp4 : w4.heap[wr.heap.size]? = some (newF (lkK i)) := (hF24.block _ (by omega) fun e => by rcases e with e | e <;> omega).trans hp
  have hq4 : w4.heap[wr.heap.size + 1]? = some (newR i) := (hF24.block _ (by omega) fun e => by rcases e with e | e <;> omega).trans hq
  have hz0 := h.fr.size
  have hnew : ∀ x, PrB wr.heap.size (.slice none 0 0) (wr.heap.size + 1) (.slice none 0 0) x → wr.heap.size ≤ x ∧ x < wr.heap.size + 2 := fun x hx => by
    rcases hx with e | e | e | e
    · omega
    · cases e
    · omega
    · cases e
  refine ⟨hfa4, hra4, fun k hk => ?_, h2.ot.fr hF24 fun x hx => hnX x (h2.sS x hx).2.2, fun k hk x hx => ?_, fun k j hk hj hkj x hx hx2 => ?_, fun x hx => ⟨(h.sS x hx).1, by have := (h.sS x hx).2.1; omega, (h.sS x hx).2.2⟩, h.fX, h.rX, h2.fr.trans hF24 fun x hx e => ?_⟩
  · by_cases e : k = i
    · subst e
      rw [upK_same, upK_same, upK_same, upK_same, upK_same]
      exact Pr.start (fK_steady k) hp4 hq4
    · rw [upK_ne _ _ e, upK_ne _ _ e, upK_ne _ _ e, upK_ne _ _ e, upK_ne _ _ e]
      exact (h2.pr k (by omega)).fr hF24 fun x hx => hnX x (h2.nb k (by omega) x hx).2.2.2
  · by_cases e : k = i
    · subst e
      rw [upK_same, upK_same, upK_same, upK_same] at hx
      have := hnew x hx
      exact ⟨by omega, by omega, fun e => by have := (h.sS x e).2.1; omega, fun e => by have := hX x e; omega⟩
    · rw [upK_ne _ _ e, upK_ne _ _ e, upK_ne _ _ e, upK_ne _ _ e] at hx
      have := h.nb k (by omega) x hx
      exact ⟨this.1, by omega, this.2.2⟩
  · have key : ∀ j, j < i → PrB (P j) (VB j) (Q j) (VS j) x → ¬ PrB wr.heap.size (.slice none 0 0) (wr.heap.size + 1) (.slice none 0 0) x := fun j hj hx e => by
      have := (h.nb j hj x hx).2.1
      have := hnew x e
      omega
    by_cases e1 : k = i
    · have e2 : j ≠ i := fun e2 => hkj (e1.trans e2.symm)
      subst e1
      rw [upK_same, upK_same, upK_same, upK_same] at hx
      rw [upK_ne _ _ e2, upK_ne _ _ e2, upK_ne _ _ e2, upK_ne _ _ e2] at hx2
      exact key j (by omega) hx2 hx
    · rw [upK_ne _ _ e1, upK_ne _ _ e1, upK_ne _ _ e1, upK_ne _ _ e1] at hx
      by_cases e2 : j = i
      · subst e2
        rw [upK_same, upK_same, upK_same, upK_same] at hx2
        exact key k (by omega) hx hx2
      · rw [upK_ne _ _ e2, upK_ne _ _ e2, upK_ne _ _ e2, upK_ne _ _ e2] at hx2
        exact h.ap k j (by omega) (by omega) hkj x hx hx2
  · rcases e with e | e | e
    · exact e
    · have := hX0 _ h.fX; omega
    · have := hX0 _ h.rX; omega
end
end Go.Proofs.YtkpoheknmcepnaaGreatDoor

namespace Go.Proofs.YtkpoheknmcepnaaGreatDoor
set_option linter.unusedVariables false
set_option linter.unusedSimpArgs false
open Go.RowKit Go.Great Go.Shelf

def catN (bs : List (Value × List UInt8)) (n : Nat) : List UInt8 := ((bs.take n).map (·.2)).flatten
theorem catN_zero (bs : List (Value × List UInt8)) : catN bs 0 = [] := by simp [catN]
theorem catN_next {bs : List (Value × List UInt8)} {n : Nat} {x : Value × List UInt8} (h : bs[n]? = some x) : catN bs (n + 1) = catN bs n ++ x.2 := by
  unfold catN; rw [List.take_add_one, h]; simp
theorem catN_end {bs : List (Value × List UInt8)} {n : Nat} (h : bs.length ≤ n) : catN bs (n + 1) = catN bs n := by
  unfold catN; rw [List.take_of_length_le h, List.take_of_length_le (by omega)]
theorem catN_le (bs : List (Value × List UInt8)) (n : Nat) : (catN bs n).length ≤ ((bs.map (·.2)).flatten).length := by
  have h : (bs.map (·.2)).flatten = catN bs n ++ ((bs.drop n).map (·.2)).flatten := by
    unfold catN; rw [← List.flatten_append, ← List.map_append, List.take_append_drop]
  rw [h, List.length_append]; omega
/-- What came in lies as it lay. -/
theorem PcAt.back {g : Nat} {w w5 : World} {v : Value} {l : List UInt8} (h : PcAt g w5 v l) (hf : Fr w w5 (fun _ => False)) (hg : 0 < l.length → g < w.heap.size) : PcAt g w v l := by
  obtain ⟨a, o, c, h1, h2, h3, h4⟩ := h
  refine ⟨a, o, c, h1, h2, h3, ?_⟩
  by_cases h0 : 0 < l.length
  · rcases h4 with q | ⟨b, off, e, q⟩
    · exact .inl q
    · injection e with e
      injection e with e1 e2
      subst e1 e2
      refine .inr ⟨g, o, rfl, fun j hj => ?_⟩
      rw [← q j hj]
      exact (World.cell?_of_block (a := ⟨g, o + j, none⟩) (hf.block g (hg h0) id)).symm
  · exact .inl (List.length_eq_zero_iff.1 (by omega))
/-- How far the pieces are fed: i of each, and the first k of the next. -/
structure FW (w w5 wr : World) (po FA RA : Nat) (P Q : Nat → Nat) (X : Nat → Prop) (BS : Nat → List (Value × List UInt8)) (i k : Nat) : Prop where
  out : ∃ VB VS B vl vL vh vw E LE hfs wfs S, LwS w wr po FA RA 2 P Q VB VS B vl vL vh vw E LE hfs wfs S X ∧ (∀ j, j < 2 → B j = catN (BS j) (if j < k then i + 1 else i)) ∧ E.length + 2 * hfs.length ≤ 2 * ((walkL (fK 0) (B 0) 0).fs.length + (walkL (fK 1) (B 1) 0).fs.length) ∧ LE.length ≤ 4 * i + 2 * k ∧ hfs.length ≤ 5000000 ∧ ∀ x, x ∈ hfs → x.l.length ≤ 900000000
  kx : ∀ x, X x → wr.heap[x]? = w5.heap[x]? ∧ x < w5.heap.size
  sz : w5.heap.size ≤ wr.heap.size
section
variable {w w5 wr wx : World} {po FA RA i k : Nat} {P Q : Nat → Nat} {X : Nat → Prop} {BS : Nat → List (Value × List UInt8)}
theorem FW.fr0 (h : FW w w5 wr po FA RA P Q X BS i k) (hf : Fr wr wx (fun _ => False)) : FW w w5 wx po FA RA P Q X BS i k := by
  obtain ⟨VB, VS, B, vl, vL, vh, vw, E, LE, hfs, wfs, S, h1, h2⟩ := h.out
  have hz := hf.size
  have hz5 := h.sz
  exact ⟨⟨VB, VS, B, vl, vL, vh, vw, E, LE, hfs, wfs, S, h1.fr0 hf, h2⟩, fun x hx => ⟨(hf.block x (by have := (h.kx x hx).2; omega) id).trans (h.kx x hx).1, (h.kx x hx).2⟩, by omega⟩
theorem FW.skip (h : FW w w5 wr po FA RA P Q X BS i k) (hk : k < 2) (he : (BS k).length ≤ i) : FW w w5 wr po FA RA P Q X BS i (k + 1) := by
  obtain ⟨VB, VS, B, vl, vL, vh, vw, E, LE, hfs, wfs, S, h1, h2, h3, h4, h5, h6⟩ := h.out
  refine ⟨⟨VB, VS, B, vl, vL, vh, vw, E, LE, hfs, wfs, S, h1, fun j hj => ?_, h3, by omega, h5, h6⟩, h.kx, h.sz⟩
  rw [h2 j hj]
  by_cases e : j = k
  · subst e
    rw [if_neg (by omega), if_pos (by omega), catN_end he]
  · by_cases e2 : j < k
    · rw [if_pos e2, if_pos (by omega)]
    · rw [if_neg e2, if_neg (by omega)]
theorem FW.next (h : FW w w5 wr po FA RA P Q X BS i 2) : FW w w5 wr po FA RA P Q X BS (i + 1) 0 := by
  obtain ⟨VB, VS, B, vl, vL, vh, vw, E, LE, hfs, wfs, S, h1, h2, h3, h4, h5, h6⟩ := h.out
  refine ⟨⟨VB, VS, B, vl, vL, vh, vw, E, LE, hfs, wfs, S, h1, fun j hj => ?_, h3, by omega, h5, h6⟩, h.kx, h.sz⟩
  rw [h2 j hj, if_pos hj, if_neg (Nat.not_lt_zero _)]
/-- One piece more. -/
theorem FW.call (h : FW w w5 wr po FA RA P Q X BS i k) (hP : Pow w) (hk : k < 2) {x : Value × List UInt8} (hx : (BS k)[i]? = some x) {g : Nat} (hpc : PcAt g w x.1 x.2) (hg : 0 < x.2.length → g < w.heap.size) (hlen : ∀ j, j < 2 → (((BS j).map (·.2)).flatten).length ≤ 2000000) (hi : i ≤ 3000000) :
    Calls Tryz.prog 17 #[.pointer (some ⟨P k, 0, none⟩), .pointer (some ⟨Q k, 0, none⟩), .pointer (some ⟨po, 0, none⟩), x.1] wr fun e w' => e = .returned (.bool true) ∧ FW w w5 w' po FA RA P Q X BS i (k + 1) := by
  obtain ⟨VB, VS, B, vl, vL, vh, vw, E, LE, hfs, wfs, S, h1, h2, h3, h4, h5, h6⟩ := h.out
  have hBk : B k = catN (BS k) i := by rw [h2 k hk, if_neg (by omega)]
  have hcat := catN_le (BS k) (i + 1)
  have hlk := hlen k hk
  rw [catN_next hx, List.length_append, ← hBk] at hcat
  have hB0 : (B 0).length ≤ 2000000 := by rw [h2 0 (by decide)]; exact Nat.le_trans (catN_le _ _) (hlen 0 (by decide))
  have hB1 : (B 1).length ≤ 2000000 := by rw [h2 1 (by decide)]; exact Nat.le_trans (catN_le _ _) (hlen 1 (by decide))
  have hc0 := walk_count (fK_steady 0) _ (B 0) 0 (Nat.le_refl _)
  have hc1 := walk_count (fK_steady 1) _ (B 1) 0 (Nat.le_refl _)
  have hXl : ∀ y, X y → y < wr.heap.size := fun y hy => by have := (h.kx y hy).2; have := h.sz; omega
  refine (fed_any (W0 := w) (fK_steady k) (lkK_ok k hP) (lkK_enter k) (fK_le k) (refK k) (h1.pr k hk) h1.ot (hpc.fr' h1.fr fun _ e => e) hg (h1.fr.below (Nat.le_refl _) fun _ _ e => e) (fun y hy => ⟨(h1.nb k hk y hy).1, (h1.nb k hk y hy).2.2.1⟩) (fun y hy => ⟨(h1.sS y hy).1, (h1.sS y hy).2.1⟩) (by omega) (by omega) (by omega) (by omega) h6).mono ?_
  rintro e w' ⟨rfl, hO⟩
  obtain ⟨VB', VS', vl', vL', vh', vw', E', LE', hfs', wfs', S', g1, g2, g3, g4, g5, g6⟩ := h1.fed hk hXl hO
  have hz := hO.fr.size
  have hz5 := h.sz
  have hck := walk_count (fK_steady k) _ (B k ++ x.2) 0 (Nat.le_refl _)
  rw [List.length_append] at hck
  refine ⟨rfl, ⟨⟨VB', VS', _, vl', vL', vh', vw', E', LE', hfs', wfs', S', g1, fun j hj => ?_, ?_, by omega, by omega, g5⟩, fun y hy => ⟨(g6 y hy).trans (h.kx y hy).1, (h.kx y hy).2⟩, by omega⟩⟩
  · by_cases e : j = k
    · subst e
      rw [upK_same, if_pos (by omega), catN_next hx, hBk]
    · rw [upK_ne _ _ e, h2 j hj]
      by_cases e2 : j < k
      · rw [if_pos e2, if_pos (by omega)]
      · rw [if_neg e2, if_neg (by omega)]
  · have hk' : k = 0 ∨ k = 1 := by omega
    rcases hk' with e | e
    · subst e
      rw [upK_same, upK_ne _ _ (by decide : (1 : Nat) ≠ 0)]
      omega
    · subst e
      rw [upK_same, upK_ne _ _ (by decide : (0 : Nat) ≠ 1)]
      omega
end
end Go.Proofs.YtkpoheknmcepnaaGreatDoor

namespace Go.Proofs.YtkpoheknmcepnaaGreatDoor
set_option linter.unusedVariables false
set_option linter.unusedSimpArgs false
open Go.RowKit Go.Great Go.Shelf

/-- The pieces in memory. -/
structure PK (w w5 : World) (PA : Nat) (A : Nat → Option Addr) (NB C : Nat → Nat) (BS : Nat → List (Value × List UInt8)) (X : Nat → Prop) (G : Nat → Nat) : Prop where
  cell : ∀ k, k < 2 → w5.cell? ⟨PA, k, none⟩ = some (.slice (A k) (NB k) (C k))
  len : ∀ k, k < 2 → (BS k).length = NB k
  piece : ∀ k, k < 2 → ∀ (i : Nat) (x : Value × List UInt8), (BS k)[i]? = some x → ∃ gr o, A k = some ⟨gr, o, none⟩ ∧ w5.cell? ⟨gr, o + i, none⟩ = some x.1 ∧ X gr
  pc : ∀ k, k < 2 → ∀ x, x ∈ BS k → PcAt (G k) w x.1 x.2 ∧ (0 < x.2.length → G k < w.heap.size)
  flat : ∀ k, k < 2 → (((BS k).map (·.2)).flatten).length ≤ 2000000
  px : X PA
def tw {α : Type} (a b : α) (k : Nat) : α := if k = 0 then a else b
theorem mkPK {w wr wA wB : World} {b0 b1 : Option Addr} {nb0 nb1 e0 e1 g0 g1 : Nat} {l0 l1 : List UInt8} {bs0 bs1 : List (Value × List UInt8)} {X0 : Nat → Prop} (hF : Fr w wr (fun _ => False)) (h0 : PJ g0 wr wA l0 (.slice b0 nb0 e0) nb0 bs0 []) (h1 : PJ g1 wA wB l1 (.slice b1 nb1 e1) nb1 bs1 []) (hl0 : l0.length ≤ 2000000) (hl1 : l1.length ≤ 2000000) (hg0 : 0 < l0.length → g0 < w.heap.size) (hg1 : 0 < l1.length → g1 < w.heap.size) :
    Fr wr ((wB.alloc (.cells #[.slice none 0 0, .slice none 0 0] 59)).setCells wB.heap.size 0 [.slice b0 nb0 e0, .slice b1 nb1 e1]) (fun _ => False) ∧ (wB.alloc (.cells #[.slice none 0 0, .slice none 0 0] 59)).there wB.heap.size 0 2 ∧
    PK w ((wB.alloc (.cells #[.slice none 0 0, .slice none 0 0] 59)).setCells wB.heap.size 0 [.slice b0 nb0 e0, .slice b1 nb1 e1]) wB.heap.size (tw b0 b1) (tw nb0 nb1) (tw e0 e1) (tw bs0 bs1) (fun x => X0 x ∨ wr.heap.size ≤ x ∧ x < ((wB.alloc (.cells #[.slice none 0 0, .slice none 0 0] 59)).setCells wB.heap.size 0 [.slice b0 nb0 e0, .slice b1 nb1 e1]).heap.size) (tw g0 g1) := by
  have hFB : Fr wB (wB.alloc (.cells #[.slice none 0 0, .slice none 0 0] 59)) (fun _ => False) := Fr.alloc _ _ _
  have hb : (wB.alloc (.cells #[.slice none 0 0, .slice none 0 0] 59)).heap[wB.heap.size]? = some (.cells #[.slice none 0 0, .slice none 0 0] 59 (0, 0)) := heap_alloc_new wB _
  have hs : (wB.alloc (.cells #[.slice none 0 0, .slice none 0 0] 59)).heap.size = wB.heap.size + 1 := by simp
  generalize wB.alloc (.cells #[.slice none 0 0, .slice none 0 0] 59) = w1 at *
  have k1 : (w1.setCell ⟨wB.heap.size, 0, none⟩ (.slice b0 nb0 e0)).heap[wB.heap.size]? = some (.cells #[.slice b0 nb0 e0, .slice none 0 0] 59 (0, 0)) := by
    rw [setCell_eq_setRow w1 _ 0 _ _ _ _ hb, setRow_heap w1 _ _ _ _ _ hb]; rfl
  have k2 : (w1.setCells wB.heap.size 0 [.slice b0 nb0 e0, .slice b1 nb1 e1]).heap[wB.heap.size]? = some (.cells #[.slice b0 nb0 e0, .slice b1 nb1 e1] 59 (0, 0)) := by
    show ((w1.setCell ⟨wB.heap.size, 0, none⟩ (.slice b0 nb0 e0)).setCell ⟨wB.heap.size, 1, none⟩ (.slice b1 nb1 e1)).heap[wB.heap.size]? = _
    rw [setCell_eq_setRow _ _ 1 _ _ _ _ k1, setRow_heap _ _ _ _ _ _ k1]; rfl
  have hF5 : Fr wB (w1.setCells wB.heap.size 0 [.slice b0 nb0 e0, .slice b1 nb1 e1]) (fun _ => False) := hFB.trans (Fr.setCells wB.heap.size (fun b => b = wB.heap.size) rfl _ _ _) fun b hb q => by
      rcases q with q | q
      · exact q
      · omega
  have hth : w1.there wB.heap.size 0 2 := fun j hj => ⟨by rw [cell_of_row _ _ _ _ _ _ hb, Array.getElem?_eq_getElem (by simpa using hj)]; rfl, frozen_of_row _ _ _ _ _ hb⟩
  generalize w1.setCells wB.heap.size 0 [.slice b0 nb0 e0, .slice b1 nb1 e1] = w5 at *
  have hz := hF5.size
  have hlt : wB.heap.size < w5.heap.size := (Array.getElem?_eq_some_iff.1 k2).1
  have hzA := h0.fr.size
  have hzB := h1.fr.size
  have r0 := (h0.row.fr h1.fr fun _ _ e => e).fr hF5 fun _ _ e => e
  have r1 := h1.row.fr hF5 fun _ _ e => e
  have hFr : Fr wr w5 (fun _ => False) := (h0.fr.trans h1.fr (e3 := fun _ => False) fun _ _ e => e.elim id id).trans hF5 fun _ _ e => e.elim id id
  have fl0 : (bs0.map (·.2)).flatten = l0 := by have := h0.eq; rwa [List.append_nil] at this
  have fl1 : (bs1.map (·.2)).flatten = l1 := by have := h1.eq; rwa [List.append_nil] at this
  have inl : ∀ (bs : List (Value × List UInt8)) (x : Value × List UInt8), x ∈ bs → x.2.length ≤ ((bs.map (·.2)).flatten).length := fun bs x hx => by
    obtain ⟨i, hi⟩ := List.getElem?_of_mem hx
    have := catN_le bs (i + 1)
    rw [catN_next hi, List.length_append] at this
    omega
  have pce : ∀ {a : Option Addr} {n e : Nat} {bs : List (Value × List UInt8)} {i : Nat} {x : Value × List UInt8}, RowAt w5 22 1 (.slice a n e) n (bs.map (·.1)) → bs.length = n → bs[i]? = some x → (∀ b, (Value.slice a n e).ownBlock = some b → wr.heap.size ≤ b) → ∃ gr o, a = some ⟨gr, o, none⟩ ∧ w5.cell? ⟨gr, o + i, none⟩ = some x.1 ∧ (X0 gr ∨ wr.heap.size ≤ gr ∧ gr < w5.heap.size) := fun hr hl hx hn => by
    have hi := (List.getElem?_eq_some_iff.1 hx).1
    obtain ⟨gr, o, cap, cur, e9, -⟩ := hr.more (by omega)
    injection e9 with e9 _ e10
    subst e9
    refine ⟨gr, o, rfl, hr.cell rfl (by rw [List.getElem?_map, hx]; rfl), .inr ⟨hn gr rfl, (hr.lt rfl).1⟩⟩
  refine ⟨hFr, hth, ⟨fun k hk => ?_, fun k hk => ?_, fun k hk i x hx => ?_, fun k hk x hx => ?_, fun k hk => ?_, .inr ⟨by omega, hlt⟩⟩⟩
  · have : k = 0 ∨ k = 1 := by omega
    rcases this with rfl | rfl
    · exact cell_at k2 rfl
    · exact cell_at k2 rfl
  · have : k = 0 ∨ k = 1 := by omega
    rcases this with rfl | rfl
    · exact h0.len
    · exact h1.len
  · have : k = 0 ∨ k = 1 := by omega
    rcases this with rfl | rfl
    · exact pce r0 h0.len hx h0.new
    · exact pce r1 h1.len hx fun b hb => by have := h1.new b hb; omega
  · have : k = 0 ∨ k = 1 := by omega
    rcases this with rfl | rfl
    · have hgx : 0 < x.2.length → g0 < w.heap.size := fun h => hg0 (by have := inl bs0 x hx; rw [fl0] at this; omega)
      exact ⟨(h0.each x hx).back hF hgx, hgx⟩
    · have hgx : 0 < x.2.length → g1 < w.heap.size := fun h => hg1 (by have := inl bs1 x hx; rw [fl1] at this; omega)
      exact ⟨(h1.each x hx).back (hF.trans h0.fr fun _ _ e => e.elim id id) hgx, hgx⟩
  · have : k = 0 ∨ k = 1 := by omega
    rcases this with rfl | rfl
    · show ((bs0.map (·.2)).flatten).length ≤ _; rw [fl0]; exact hl0
    · show ((bs1.map (·.2)).flatten).length ≤ _; rw [fl1]; exact hl1
end Go.Proofs.YtkpoheknmcepnaaGreatDoor

namespace Go.Proofs.YtkpoheknmcepnaaGreatDoor
set_option linter.unusedVariables false
set_option linter.unusedSimpArgs false
open Go.RowKit Go.Great Go.Shelf

theorem start_LwS {w w1 : World} (hB1 : Below w.heap.size w w1) : LwS w (((w1.alloc (.cells #[.slice none 0 0, .slice none 0 0, .slice none 0 0, .slice none 0 0] 53)).alloc (.cells #[.pointer none, .pointer none] 54)).alloc (.cells #[.pointer none, .pointer none] 56)) w1.heap.size (w1.heap.size + 1) (w1.heap.size + 2) 0 (fun _ => 0) (fun _ => 0) (fun _ => .slice none 0 0) (fun _ => .slice none 0 0) (fun _ => []) (.slice none 0 0) (.slice none 0 0) (.slice none 0 0) (.slice none 0 0) [] [] [] [] (fun x => x = w1.heap.size) (fun x => x = w1.heap.size + 1 ∨ x = w1.heap.size + 2) := by
  have hz := hB1.size
  have h1 : (w1.alloc (.cells #[.slice none 0 0, .slice none 0 0, .slice none 0 0, .slice none 0 0] 53)).heap[w1.heap.size]? = some (.cells #[.slice none 0 0, .slice none 0 0, .slice none 0 0, .slice none 0 0] 53 (0, 0)) := heap_alloc_new w1 _
  have s1 : (w1.alloc (.cells #[.slice none 0 0, .slice none 0 0, .slice none 0 0, .slice none 0 0] 53)).heap.size = w1.heap.size + 1 := by simp
  have f1 : Fr w1 (w1.alloc (.cells #[.slice none 0 0, .slice none 0 0, .slice none 0 0, .slice none 0 0] 53)) (fun _ => False) := Fr.alloc _ _ _
  generalize w1.alloc (.cells #[.slice none 0 0, .slice none 0 0, .slice none 0 0, .slice none 0 0] 53) = w2 at *
  have h2 : (w2.alloc (.cells #[.pointer none, .pointer none] 54)).heap[w2.heap.size]? = some (.cells #[.pointer none, .pointer none] 54 (0, 0)) := heap_alloc_new w2 _
  have s2 : (w2.alloc (.cells #[.pointer none, .pointer none] 54)).heap.size = w2.heap.size + 1 := by simp
  have f2 : Fr w2 (w2.alloc (.cells #[.pointer none, .pointer none] 54)) (fun _ => False) := Fr.alloc _ _ _
  generalize w2.alloc (.cells #[.pointer none, .pointer none] 54) = w3 at *
  have h3 : (w3.alloc (.cells #[.pointer none, .pointer none] 56)).heap[w3.heap.size]? = some (.cells #[.pointer none, .pointer none] 56 (0, 0)) := heap_alloc_new w3 _
  have s3 : (w3.alloc (.cells #[.pointer none, .pointer none] 56)).heap.size = w3.heap.size + 1 := by simp
  have f3 : Fr w3 (w3.alloc (.cells #[.pointer none, .pointer none] 56)) (fun _ => False) := Fr.alloc _ _ _
  generalize w3.alloc (.cells #[.pointer none, .pointer none] 56) = w4 at *
  have e2 : w2.heap.size = w1.heap.size + 1 := s1
  have e3 : w3.heap.size = w1.heap.size + 2 := by omega
  rw [e2] at h2
  rw [e3] at h3
  refine ⟨(f3.block _ (by omega) id).trans h2, h3, fun k hk => absurd hk (Nat.not_lt_zero _), OT.none ((f3.block _ (by omega) id).trans ((f2.block _ (by omega) id).trans h1)), fun k hk => absurd hk (Nat.not_lt_zero _), fun k j hk => absurd hk (Nat.not_lt_zero _), fun x hx => ⟨by omega, by omega, by omega⟩, .inl rfl, .inr rfl, ((Fr.of_below hB1 (fun _ => False)).trans f1 fun _ _ e => e.elim id id).trans (f2.trans f3 (e3 := fun _ => False) fun _ _ e => e.elim id id) fun _ _ e => e.elim id id⟩
set_option maxRecDepth 100000 in
set_option maxHeartbeats 600000 in
theorem FramerFeeds_law {w : World} (hM : Mon w) (hP : Pow w) {g0 g1 n0 n1 c0 c1 nc cc : Nat} {a0 a1 ac : Option Addr} {l0 l1 : List UInt8} (hs0 : PcAt g0 w (.slice a0 n0 c0) l0) (hn0 : l0.length = n0) (hn01 : n0 ≤ 2000000) (hs1 : PcAt g1 w (.slice a1 n1 c1) l1) (hn1 : l1.length = n1) (hn11 : n1 ≤ 2000000) (hnc : nc ≤ 2000000)
    (hcuts : ∀ k, k < nc → ∃ z : Int, -9223372036854775808 ≤ z ∧ z ≤ 9223372036854775807 ∧ ∃ gc oc, ac = some ⟨gc, oc, none⟩ ∧ w.cell? ⟨gc, oc + k, none⟩ = some (.int .i64 z)) :
    Calls Tryz.prog 6 #[.slice a0 n0 c0, .slice a1 n1 c1, .slice ac nc cc] w fun e w' => e = .returned (.bool true) ∧ Below w.heap.size w w' := by
  have HM : Hid (Mon w ∧ Pow w) := ⟨hM, hP⟩
  have HS : Hid (PcAt g0 w (.slice a0 n0 c0) l0 ∧ l0.length = n0 ∧ PcAt g1 w (.slice a1 n1 c1) l1 ∧ l1.length = n1) := ⟨hs0, hn0, hs1, hn1⟩
  have HCU : Hid _ := hcuts
  clear hM hP hs0 hn0 hs1 hn1 hcuts
  go_enter Tryz.func6, Tryz.ntmps6
  go_wp2_with (go_at_call 7; fail)
  refine (shown_any w HM.out.1 HM.out.2).mono ?_
  rintro e w1 ⟨rfl, hB1⟩
  have HL0 : Hid _ := start_LwS hB1
  have HB1 : Hid (w.heap.size ≤ w1.heap.size ∧ (((w1.alloc (.cells #[.slice none 0 0, .slice none 0 0, .slice none 0 0, .slice none 0 0] 53)).alloc (.cells #[.pointer none, .pointer none] 54)).alloc (.cells #[.pointer none, .pointer none] 56)).heap.size = w1.heap.size + 3) := ⟨hB1.size, by simp⟩
  clear hB1
  go_upto_region 5 with fail
  generalize (((w1.alloc (.cells #[.slice none 0 0, .slice none 0 0, .slice none 0 0, .slice none 0 0] 53)).alloc (.cells #[.pointer none, .pointer none] 54)).alloc (.cells #[.pointer none, .pointer none] 56)) = w4 at *
  obtain ⟨po, hpo⟩ : ∃ po, w1.heap.size = po := ⟨_, rfl⟩
  rw [hpo] at HL0 HB1 ⊢
  obtain ⟨FA, hFA⟩ : ∃ FA, po + 1 = FA := ⟨_, rfl⟩
  obtain ⟨RA, hRA⟩ : ∃ RA, po + 2 = RA := ⟨_, rfl⟩
  rw [hFA, hRA] at HL0
  rw [show po + 1 + 1 = RA from hRA, hFA]
  have HB : Hid (w.heap.size ≤ po ∧ po + 1 = FA ∧ po + 2 = RA ∧ w4.heap.size = po + 3) := ⟨HB1.out.1, hFA, hRA, HB1.out.2⟩
  clear HB1 hpo hFA hRA
  go_wp2
  go_loopw [11, 12, 13, 14, 15] (fun x11 _ _ _ _ wr => ∃ (i : Nat) (P Q : Nat → Nat) (VB VS : Nat → Value) (B : Nat → List UInt8), i ≤ 2 ∧ x11 = .int .i64 (i : Int) ∧ Hid (LwS w wr po FA RA i P Q VB VS B (.slice none 0 0) (.slice none 0 0) (.slice none 0 0) (.slice none 0 0) [] [] [] [] (fun x => x = po) (fun x => x = FA ∨ x = RA) ∧ ∀ k, B k = [])) (fun x11 _ _ _ _ _ => 2 - (intOf x11).toNat)
  case atStart => exact ⟨0, _, _, _, _, _, by decide, rfl, HL0.out, fun _ => rfl⟩
  case round =>
    obtain ⟨i, P, Q, VB, VS, B, hi, rfl, HI⟩ := hrel
    by_cases hlt : i < 2
    · have hlt' : (i : Int) < 2 := by omega
      have hiw : IntKind.i64.wrap ((i : Int) + 1) = (i : Int) + 1 := by rw [IntKind.wrap_i64]; omega
      have hkd := kdK_wrap hlt
      rw [hiw] at hkd
      have hXl : ∀ x, (x = FA ∨ x = RA) → x < wr.heap.size := fun x e => by
        rcases e with e | e
        · rw [e]; exact HI.out.1.lt.1
        · rw [e]; exact HI.out.1.lt.2
      have hX0 : ∀ x, (x = FA ∨ x = RA) → w.heap.size ≤ x := fun x e => by have := HB.out; omega
      obtain ⟨hA1, hA2, hA3, hA4⟩ := HI.out.1.add hlt hXl hX0
      have HA : Hid _ := And.intro hA1 (And.intro hA3 hA4)
      have hnf := newK i wr
      have hnr := refNew_any (kdK i) (kdK_or i) (wr.alloc (newF (lkK i)))
      rw [World.size_alloc] at hnr
      have hw := Waits_any hA2
      have hj := Junk_any hA2
      have HBe : Hid (∀ k, B k = []) := HI.out.2
      clear hXl hX0 hA1 hA2 hA3 hA4 HI
      go_wp2_with (go_at_call 8; fail)
      refine hnf.mono ?_
      rintro e w5 ⟨rfl, rfl⟩
      clear hnf
      go_wp2_with (go_at_call 16; fail)
      refine hnr.mono ?_
      rintro e w5 ⟨rfl, rfl⟩
      clear hnr
      obtain ⟨w5, hw5⟩ : ∃ w5, (wr.alloc (newF (lkK i))).alloc (newR i) = w5 := ⟨_, rfl⟩
      have hw5' : (wr.alloc (newF (lkK i))).alloc (.cells #[.int .i64 (kdK i), .slice none 0 0, .int .i64 0, .int .i64 0, .int .i64 0] 99) = w5 := hw5
      rw [hw5] at HA hw hj
      rw [hw5']
      obtain ⟨p, hp⟩ : ∃ p, wr.heap.size = p := ⟨_, rfl⟩
      rw [hp] at HA hw hj ⊢
      clear hw5 hw5' hp
      go_wp2_with (go_at_call 13; fail)
      refine hw.mono ?_
      rintro e w6 ⟨rfl, rfl⟩
      clear hw
      go_wp2_with (go_at_call 12; fail)
      refine hj.mono ?_
      rintro e w6 ⟨rfl, rfl⟩
      clear hj
      have kf : ∃ u, w6.cell? ⟨FA, i, none⟩ = some u := by
        rw [cell_of_row _ _ _ _ _ _ HA.out.2.1]
        exact ⟨_, Array.getElem?_eq_getElem (by simpa using hlt)⟩
      have zf : w6.frozen? ⟨FA, i, none⟩ = false := frozen_of_row _ _ _ _ _ HA.out.2.1
      have kr : ∃ u, (w6.setCell ⟨FA, i, none⟩ (.pointer (some ⟨p, 0, none⟩))).cell? ⟨RA, i, none⟩ = some u := by
        rw [cell_of_row _ _ _ _ _ _ HA.out.2.2]
        exact ⟨_, Array.getElem?_eq_getElem (by simpa using hlt)⟩
      have zr : (w6.setCell ⟨FA, i, none⟩ (.pointer (some ⟨p, 0, none⟩))).frozen? ⟨RA, i, none⟩ = false := frozen_of_row _ _ _ _ _ HA.out.2.2
      obtain ⟨uf, kf⟩ := kf
      obtain ⟨ur, kr⟩ := kr
      have HA1 : Hid _ := HA.out.1
      clear HA
      go_upto_region 12 with fail
      rename_i Kc hKc
      refine wp_region_lit ?_
      refine wpList_runTo rfl (some 56) rfl (.int .i64 (i : Int)) w6 (by kernel_rfl) ?_
      simp only [Act.put, List.setIfInBounds_toArray, List.set_cons_zero, List.set_cons_succ]
      refine wpList_runTo rfl (some 57) rfl (.pointer (some ⟨p, 0, none⟩)) w6 (by kernel_rfl) ?_
      simp only [Act.put, List.setIfInBounds_toArray, List.set_cons_zero, List.set_cons_succ]
      refine wpList_runTo rfl (some 58) rfl (.pointer (some ⟨FA, i, none⟩)) w6 (by clear hkd; go_simp) ?_
      simp only [Act.put, List.setIfInBounds_toArray, List.set_cons_zero, List.set_cons_succ]
      refine wpList_skipTo rfl rfl (w6.setCell ⟨FA, i, none⟩ (.pointer (some ⟨p, 0, none⟩))) (by clear kr zr; go_simp) ?_
      refine wpList_nil ?_
      refine hKc _ _ ?_
      clear hKc kf zf
      generalize w6.setCell ⟨FA, i, none⟩ (.pointer (some ⟨p, 0, none⟩)) = w7 at *
      go_upto_region 13 with fail
      refine wp_region_lit ?_
      refine wpList_runTo rfl (some 59) rfl (.int .i64 (i : Int)) w7 (by kernel_rfl) ?_
      simp only [Act.put, List.setIfInBounds_toArray, List.set_cons_zero, List.set_cons_succ]
      refine wpList_runTo rfl (some 60) rfl (.pointer (some ⟨p + 1, 0, none⟩)) w7 (by kernel_rfl) ?_
      simp only [Act.put, List.setIfInBounds_toArray, List.set_cons_zero, List.set_cons_succ]
      refine wpList_runTo rfl (some 61) rfl (.pointer (some ⟨RA, i, none⟩)) w7 (by clear hkd; go_simp) ?_
      simp only [Act.put, List.setIfInBounds_toArray, List.set_cons_zero, List.set_cons_succ]
      refine wpList_skipTo rfl rfl (w7.setCell ⟨RA, i, none⟩ (.pointer (some ⟨p + 1, 0, none⟩))) (by go_simp) ?_
      refine wpList_nil ?_
      clear kr zr
      generalize w7.setCell ⟨RA, i, none⟩ (.pointer (some ⟨p + 1, 0, none⟩)) = w8 at *
      go_wp2
      go_roundw
      case rel => exact ⟨i + 1, _, _, _, _, _, by omega, by go_num, HA1.out, fun k => by unfold upK; split; rfl; exact HBe.out k⟩
      case measure => simp [intOf]; omega
    · have hge : ¬ (i : Int) < 2 := by omega
      have HL2 : Hid (LwS w wr po FA RA 2 P Q VB VS B (.slice none 0 0) (.slice none 0 0) (.slice none 0 0) (.slice none 0 0) [] [] [] [] (fun x => x = po) (fun x => x = FA ∨ x = RA) ∧ ∀ k, B k = []) := by
        have h := HI.out
        rw [show i = 2 by omega] at h
        exact h
      have hFw := HL2.out.1.fr
      have hcu : ∀ k, k < nc → ∃ z : Int, -9223372036854775808 ≤ z ∧ z ≤ 9223372036854775807 ∧ ∃ gc oc, ac = some ⟨gc, oc, none⟩ ∧ wr.cell? ⟨gc, oc + k, none⟩ = some (.int .i64 z) := fun k hk => by
        obtain ⟨z, h1, h2, gc, oc, h3, h4⟩ := HCU.out k hk
        exact ⟨z, h1, h2, gc, oc, h3, hFw.cell h4 id⟩
      have hp0 := pieces_any (cc := cc) (HS.out.1.fr' hFw fun _ e => e) HS.out.2.1 (by omega) (by omega) hcu
      clear HI hcu
      go_wp2_with (go_at_call 11; fail)
      refine hp0.mono ?_
      rintro e wA ⟨v0, rfl, hPO0⟩
      clear hp0
      obtain ⟨nb0, bs0, hPJ0, hnb0⟩ := hPO0.out
      obtain ⟨b0, e0, rfl, -⟩ := hPJ0.row.form
      have hFA := hFw.trans hPJ0.fr (e3 := fun _ => False) fun _ _ e => e.elim id id
      have hcu : ∀ k, k < nc → ∃ z : Int, -9223372036854775808 ≤ z ∧ z ≤ 9223372036854775807 ∧ ∃ gc oc, ac = some ⟨gc, oc, none⟩ ∧ wA.cell? ⟨gc, oc + k, none⟩ = some (.int .i64 z) := fun k hk => by
        obtain ⟨z, h1, h2, gc, oc, h3, h4⟩ := HCU.out k hk
        exact ⟨z, h1, h2, gc, oc, h3, hFA.cell h4 id⟩
      have hp1 := pieces_any (cc := cc) (HS.out.2.2.1.fr' hFA fun _ e => e) HS.out.2.2.2 (by omega) (by omega) hcu
      have HP0 : Hid _ := hPJ0
      clear hcu hPO0 hPJ0 hFA
      go_wp2_with (go_at_call 11; fail)
      rename_i Kc hKc
      refine hp1.mono ?_
      rintro e wB ⟨v1, rfl, hPO1⟩
      clear hp1
      obtain ⟨nb1, bs1, hPJ1, hnb1⟩ := hPO1.out
      obtain ⟨b1, e1, rfl, -⟩ := hPJ1.row.form
      obtain ⟨hF5, hth, hPK⟩ := mkPK (X0 := fun x => x = FA ∨ x = RA) hFw HP0.out hPJ1 (by have := HS.out.2.1; omega) (by have := HS.out.2.2.2; omega) (fun h => HS.out.1.lt h) (fun h => HS.out.2.2.1.lt h)
      refine hKc _ _ ?_
      clear hKc
      refine wpList_runTo rfl (some 68) rfl (.agg #[.slice b0 nb0 e0, .slice b1 nb1 e1]) wB (by kernel_rfl) ?_
      simp only [Act.put, List.setIfInBounds_toArray, List.set_cons_zero, List.set_cons_succ]
      refine wpList_runTo rfl (some 16) rfl (.pointer (some ⟨wB.heap.size, 0, none⟩)) (wB.alloc (.cells #[.slice none 0 0, .slice none 0 0] 59)) (by kernel_rfl) ?_
      simp only [Act.put, List.setIfInBounds_toArray, List.set_cons_zero, List.set_cons_succ]
      refine wpList_store_mid rfl 59 _ _ rfl wB.heap.size 0 #[.slice b0 nb0 e0, .slice b1 nb1 e1] (by kernel_rfl) (by kernel_rfl) hth (by kernel_rfl) (by kernel_rfl) ?_
      refine wpList_nil ?_
      have HC0 : Hid (Fr wr ((wB.alloc (.cells #[.slice none 0 0, .slice none 0 0] 59)).setCells wB.heap.size 0 [.slice b0 nb0 e0, .slice b1 nb1 e1]) (fun _ => False)) := hF5
      have HPK0 : Hid _ := hPK
      clear hth hF5 hPK hPJ1 hPO1 HP0 hFw
      have e9 : (#[Value.slice b0 nb0 e0, Value.slice b1 nb1 e1] : Array Value).toList = [Value.slice b0 nb0 e0, Value.slice b1 nb1 e1] := rfl
      try rw [e9]
      obtain ⟨PA, hPA⟩ : ∃ PA, wB.heap.size = PA := ⟨_, rfl⟩
      rw [hPA] at HC0 HPK0 ⊢
      generalize (wB.alloc (.cells #[.slice none 0 0, .slice none 0 0] 59)).setCells PA 0 [.slice b0 nb0 e0, .slice b1 nb1 e1] = w5 at *
      clear e9 hPA
      obtain ⟨X2, hX2⟩ : ∃ X2 : Nat → Prop, (fun x => (x = FA ∨ x = RA) ∨ wr.heap.size ≤ x ∧ x < w5.heap.size) = X2 := ⟨_, rfl⟩
      have HF0 : Hid (FW w w5 w5 po FA RA P Q X2 (tw bs0 bs1) 0 0) := by
        have hz := HC0.out.size
        rw [← hX2]
        refine ⟨⟨VB, VS, B, _, _, _, _, [], [], [], [], _, (HL2.out.1.more (fun x hx => .inl hx) (fun x hx => hx.elim .inl fun h => .inr h.1)).fr0 HC0.out, fun j hj => by rw [HL2.out.2 j, if_neg (Nat.not_lt_zero _), catN_zero], by simp, by simp, by simp, fun _ h => (by cases h)⟩, fun x hx => ⟨rfl, ?_⟩, Nat.le_refl _⟩
        rcases hx with (e | e) | e
        · rw [e]; have := HL2.out.1.lt.1; omega
        · rw [e]; have := HL2.out.1.lt.2; omega
        · exact e.2
      have HPK : Hid (PK w w5 PA (tw b0 b1) (tw nb0 nb1) (tw e0 e1) (tw bs0 bs1) X2 (tw g0 g1)) := by rw [← hX2]; exact HPK0.out
      have HC5 : Hid (∀ k, k < 2 → w5.cell? ⟨FA, k, none⟩ = some (.pointer (some ⟨P k, 0, none⟩)) ∧ w5.cell? ⟨RA, k, none⟩ = some (.pointer (some ⟨Q k, 0, none⟩)) ∧ X2 FA ∧ X2 RA) := fun k hk => by
        have hL := HL2.out.1.fr0 HC0.out
        have hk' : k = 0 ∨ k = 1 := by omega
        refine ⟨?_, ?_, by rw [← hX2]; exact .inl (.inl rfl), by rw [← hX2]; exact .inl (.inr rfl)⟩
        · rcases hk' with rfl | rfl
          · exact cell_at hL.fa rfl
          · exact cell_at hL.fa rfl
        · rcases hk' with rfl | rfl
          · exact cell_at hL.ra rfl
          · exact cell_at hL.ra rfl
      clear HPK0 hX2 HC0 HL2
      have hnb0' : nb0 ≤ 2000001 := by omega
      have hnb1' : nb1 ≤ 2000001 := by omega
      go_wp2
      go_loopw [17, 18, 19] (fun x17 _ _ wr => ∃ i : Nat, i ≤ 2000001 ∧ x17 = .int .i64 (i : Int) ∧ Hid (FW w w5 wr po FA RA P Q X2 (tw bs0 bs1) i 0)) (fun x17 _ _ _ => 2000001 - (intOf x17).toNat)
      case atStart => exact ⟨0, by decide, rfl, HF0.out⟩
      clear HF0
      case round =>
        obtain ⟨i, hi9, rfl, HI2⟩ := hrel
        have kc0 : wr.cell? ⟨PA, 0, none⟩ = some (.slice b0 nb0 e0) := (World.cell?_of_block (a := ⟨PA, 0, none⟩) (HI2.out.kx PA HPK.out.px).1).trans (HPK.out.cell 0 (by decide))
        have kc1 : wr.cell? ⟨PA, 1, none⟩ = some (.slice b1 nb1 e1) := (World.cell?_of_block (a := ⟨PA, 1, none⟩) (HI2.out.kx PA HPK.out.px).1).trans (HPK.out.cell 1 (by decide))
        have hiw : IntKind.i64.wrap ((i : Int) + 1) = (i : Int) + 1 := by rw [IntKind.wrap_i64]; omega
        by_cases hA : i < nb0
        · have hA' : (i : Int) < (nb0 : Int) := by omega
          go_wp2
          go_loopw [18, 19] (fun x18 _ wr => ∃ k : Nat, k ≤ 2 ∧ x18 = .int .i64 (k : Int) ∧ Hid (FW w w5 wr po FA RA P Q X2 (tw bs0 bs1) i k)) (fun x18 _ _ => 2 - (intOf x18).toNat)
          case atStart => exact ⟨0, by decide, rfl, HI2.out⟩
          case round =>
            obtain ⟨k, hk, rfl, HK⟩ := hrel
            by_cases hk2 : k < 2
            · have hk2' : (k : Int) < 2 := by omega
              have hkw : IntKind.i64.wrap ((k : Int) + 1) = (k : Int) + 1 := by rw [IntKind.wrap_i64]; omega
              have kc : wr.cell? ⟨PA, k, none⟩ = some (.slice (tw b0 b1 k) (tw nb0 nb1 k) (tw e0 e1 k)) := (World.cell?_of_block (a := ⟨PA, k, none⟩) (HK.out.kx PA HPK.out.px).1).trans (HPK.out.cell k hk2)
              by_cases hend : tw nb0 nb1 k ≤ i
              · have hend' : (i : Int) ≥ ((tw nb0 nb1 k : Nat) : Int) := by omega
                have HN : Hid (FW w w5 wr po FA RA P Q X2 (tw bs0 bs1) i (k + 1)) := HK.out.skip hk2 (by rw [HPK.out.len k hk2]; exact hend)
                clear HK
                go_wp2
                go_roundw
                case rel => exact ⟨k + 1, by omega, by go_num, HN.out⟩
                case measure => simp [intOf]; omega
              · have hend' : ¬ (i : Int) ≥ ((tw nb0 nb1 k : Nat) : Int) := by omega
                have hend2 : (i : Int) < ((tw nb0 nb1 k : Nat) : Int) := by omega
                obtain ⟨x, hx⟩ : ∃ x, (tw bs0 bs1 k)[i]? = some x := ⟨_, List.getElem?_eq_getElem (by rw [HPK.out.len k hk2]; omega)⟩
                obtain ⟨gr, og, hAk, hcx, hXg⟩ := HPK.out.piece k hk2 i x hx
                obtain ⟨hpc, hgk⟩ := HPK.out.pc k hk2 x (List.mem_of_getElem? hx)
                have hFd : Fr wr wr.drew (fun _ => False) := (Fr.refl wr (fun _ => False)).drew
                have hKd := HK.out.fr0 hFd
                have hcall := hKd.call HM.out.2 hk2 hx hpc hgk HPK.out.flat (by omega)
                obtain ⟨xa, xo, xc, hx1, -⟩ := id hpc
                obtain ⟨xn, hxn⟩ : ∃ xn, x.2.length = xn := ⟨_, rfl⟩
                rw [hxn] at hx1
                rw [hx1] at hcall hcx
                have HXX : Hid (∀ W, FW w w5 W po FA RA P Q X2 (tw bs0 bs1) i k ∨ FW w w5 W po FA RA P Q X2 (tw bs0 bs1) i (k + 1) → W.cell? ⟨FA, k, none⟩ = some (.pointer (some ⟨P k, 0, none⟩)) ∧ W.cell? ⟨RA, k, none⟩ = some (.pointer (some ⟨Q k, 0, none⟩)) ∧ W.cell? ⟨PA, k, none⟩ = some (.slice (tw b0 b1 k) (tw nb0 nb1 k) (tw e0 e1 k)) ∧ W.cell? ⟨gr, og + i, none⟩ = some (.slice xa xn xc)) := fun W hW => by
                  have kx : ∀ y, X2 y → W.heap[y]? = w5.heap[y]? := fun y hy => hW.elim (fun h => (h.kx y hy).1) fun h => (h.kx y hy).1
                  obtain ⟨h1, h2, h3, h4⟩ := HC5.out k hk2
                  exact ⟨(World.cell?_of_block (a := ⟨FA, k, none⟩) (kx _ h3)).trans h1, (World.cell?_of_block (a := ⟨RA, k, none⟩) (kx _ h4)).trans h2, (World.cell?_of_block (a := ⟨PA, k, none⟩) (kx _ HPK.out.px)).trans (HPK.out.cell k hk2), (World.cell?_of_block (a := ⟨gr, og + i, none⟩) (kx _ hXg)).trans hcx⟩
                have hSS := HXX.out wr.drew (.inl hKd)
                rw [hAk] at hSS kc
                have HAk : Hid (tw b0 b1 k = some ⟨gr, og, none⟩) := hAk
                clear hFd hKd HK hpc hgk hcx hx hXg hxn hAk hx1
                generalize tw nb0 nb1 k = nk at *
                generalize tw e0 e1 k = ek at *
                go_upto_region 22 with fail
                rename_i Kc hKc
                clear kc
                refine wp_region_held (S := fun w' => w'.cell? ⟨FA, k, none⟩ = some (.pointer (some ⟨P k, 0, none⟩)) ∧ w'.cell? ⟨RA, k, none⟩ = some (.pointer (some ⟨Q k, 0, none⟩)) ∧ w'.cell? ⟨PA, k, none⟩ = some (.slice (some ⟨gr, og, none⟩) nk ek) ∧ w'.cell? ⟨gr, og + i, none⟩ = some (.slice xa xn xc)) (by kernel_rfl) ?_
                change wpAnyH _ _ _ _ _ _ _ _ (World.drew _)
                generalize wr.drew = wd at *
                refine takeR (i := 0) (v := .int .i64 (k : Int)) (some 93) rfl rfl (by kernel_rfl) (by kernel_rfl) (by kernel_rfl) (fun _ _ _ h => h) (Or.inl ⟨by kernel_rfl, fun w' hSw => by kernel_rfl⟩) hSS ?_
                simp only [Act.put, List.setIfInBounds_toArray, List.set_cons_zero, List.set_cons_succ]
                refine takeR (i := 1) (v := .pointer (some ⟨FA, k, none⟩)) (some 94) rfl rfl (by kernel_rfl) (by kernel_rfl) (by kernel_rfl) (fun _ _ _ h => h) (Or.inl ⟨by kernel_rfl, fun w' hSw => by clear hSw; go_simp⟩) hSS ?_
                simp only [Act.put, List.setIfInBounds_toArray, List.set_cons_zero, List.set_cons_succ]
                refine takeR (i := 2) (v := .pointer (some ⟨P k, 0, none⟩)) (some 95) rfl rfl (by kernel_rfl) (by kernel_rfl) (by kernel_rfl) (fun _ _ _ h => h) (Or.inl ⟨by kernel_rfl, fun w' hSw => by have q0 := hSw.1; clear hSw; go_simp⟩) hSS ?_
                simp only [Act.put, List.setIfInBounds_toArray, List.set_cons_zero, List.set_cons_succ]
                refine takeR (i := 3) (v := .int .i64 (k : Int)) (some 96) rfl rfl (by kernel_rfl) (by kernel_rfl) (by kernel_rfl) (fun _ _ _ h => h) (Or.inl ⟨by kernel_rfl, fun w' hSw => by kernel_rfl⟩) hSS ?_
                simp only [Act.put, List.setIfInBounds_toArray, List.set_cons_zero, List.set_cons_succ]
                refine takeR (i := 4) (v := .pointer (some ⟨RA, k, none⟩)) (some 97) rfl rfl (by kernel_rfl) (by kernel_rfl) (by kernel_rfl) (fun _ _ _ h => h) (Or.inl ⟨by kernel_rfl, fun w' hSw => by clear hSw; go_simp⟩) hSS ?_
                simp only [Act.put, List.setIfInBounds_toArray, List.set_cons_zero, List.set_cons_succ]
                refine takeR (i := 5) (v := .pointer (some ⟨Q k, 0, none⟩)) (some 98) rfl rfl (by kernel_rfl) (by kernel_rfl) (by kernel_rfl) (fun _ _ _ h => h) (Or.inl ⟨by kernel_rfl, fun w' hSw => by have q0 := hSw.2.1; clear hSw; go_simp⟩) hSS ?_
                simp only [Act.put, List.setIfInBounds_toArray, List.set_cons_zero, List.set_cons_succ]
                refine takeR (i := 6) (v := .pointer (some ⟨po, 0, none⟩)) (some 99) rfl rfl (by kernel_rfl) (by kernel_rfl) (by kernel_rfl) (fun _ _ _ h => h) (Or.inl ⟨by kernel_rfl, fun w' hSw => by kernel_rfl⟩) hSS ?_
                simp only [Act.put, List.setIfInBounds_toArray, List.set_cons_zero, List.set_cons_succ]
                refine takeR (i := 7) (v := .int .i64 (k : Int)) (some 100) rfl rfl (by kernel_rfl) (by kernel_rfl) (by kernel_rfl) (fun _ _ _ h => h) (Or.inl ⟨by kernel_rfl, fun w' hSw => by kernel_rfl⟩) hSS ?_
                simp only [Act.put, List.setIfInBounds_toArray, List.set_cons_zero, List.set_cons_succ]
                refine takeR (i := 8) (v := .pointer (some ⟨PA, k, none⟩)) (some 101) rfl rfl (by kernel_rfl) (by kernel_rfl) (by kernel_rfl) (fun _ _ _ h => h) (Or.inl ⟨by kernel_rfl, fun w' hSw => by clear hSw; go_simp⟩) hSS ?_
                simp only [Act.put, List.setIfInBounds_toArray, List.set_cons_zero, List.set_cons_succ]
                refine takeR (i := 9) (v := .slice (some ⟨gr, og, none⟩) nk ek) (some 102) rfl rfl (by kernel_rfl) (by kernel_rfl) (by kernel_rfl) (fun _ _ _ h => h) (Or.inl ⟨by kernel_rfl, fun w' hSw => by have q0 := hSw.2.2.1; clear hSw; go_simp⟩) hSS ?_
                simp only [Act.put, List.setIfInBounds_toArray, List.set_cons_zero, List.set_cons_succ]
                refine takeR (i := 10) (v := .int .i64 (i : Int)) (some 103) rfl rfl (by kernel_rfl) (by kernel_rfl) (by kernel_rfl) (fun _ _ _ h => h) (Or.inl ⟨by kernel_rfl, fun w' hSw => by kernel_rfl⟩) hSS ?_
                simp only [Act.put, List.setIfInBounds_toArray, List.set_cons_zero, List.set_cons_succ]
                refine takeR (i := 11) (v := .pointer (some ⟨gr, og + i, none⟩)) (some 104) rfl rfl (by kernel_rfl) (by kernel_rfl) (by kernel_rfl) (fun _ _ _ h => h) (Or.inl ⟨by kernel_rfl, fun w' hSw => by clear hSw; go_simp⟩) hSS ?_
                simp only [Act.put, List.setIfInBounds_toArray, List.set_cons_zero, List.set_cons_succ]
                refine takeR (i := 12) (v := .slice xa xn xc) (some 105) rfl rfl (by kernel_rfl) (by kernel_rfl) (by kernel_rfl) (fun _ _ _ h => h) (Or.inl ⟨by kernel_rfl, fun w' hSw => by have q0 := hSw.2.2.2; clear hSw; go_simp⟩) hSS ?_
                simp only [Act.put, List.setIfInBounds_toArray, List.set_cons_zero, List.set_cons_succ]
                refine wpAnyH_ready (rs := [13]) (by kernel_rfl) (by simp) ?_
                refine AllReadyH.cons rfl (fun K1 hK1 => ?_) AllReadyH.nil
                rw [if_pos (by kernel_rfl)]
                refine callR (d := some 106) rfl 17 #[.pointer (some ⟨P k, 0, none⟩), .pointer (some ⟨Q k, 0, none⟩), .pointer (some ⟨po, 0, none⟩), .slice xa xn xc] (by kernel_rfl) hcall ?_
                rintro e w6 ⟨rfl, hF6⟩
                have hS6 := HXX.out w6 (.inr hF6)
                rw [HAk.out] at hS6
                have HF6 : Hid _ := hF6
                refine ⟨_, rfl, ?_⟩
                refine hK1.out _ _ hS6 (fun _ => ?_)
                clear hK1 hcall hSS hF6 HXX
                simp only [Act.put, List.setIfInBounds_toArray, List.set_cons_zero, List.set_cons_succ]
                refine takeR (i := 14) (v := .bool true) (some 19) rfl rfl (by kernel_rfl) (by kernel_rfl) (by kernel_rfl) (fun _ _ _ h => h) (Or.inl ⟨by kernel_rfl, fun w' hSw => by kernel_rfl⟩) hS6 ?_
                simp only [Act.put, List.setIfInBounds_toArray, List.set_cons_zero, List.set_cons_succ]
                refine wpAnyH_done (by kernel_rfl) ?_ _
                refine hKc _ _ ?_
                clear hKc hS6
                go_wp2
                go_roundw
                case rel => exact ⟨k + 1, by omega, by go_num, HF6.out⟩
                case measure => simp [intOf]; omega
            · have hk2' : ¬ (k : Int) < 2 := by omega
              have HN : Hid (FW w w5 wr po FA RA P Q X2 (tw bs0 bs1) (i + 1) 0) := by
                have h := HK.out
                rw [show k = 2 by omega] at h
                exact h.next
              clear HK
              go_wp2
              go_roundw
              case rel => exact ⟨i + 1, by omega, by go_num, HN.out⟩
              case measure => simp [intOf]; omega
        · have hA' : ¬ (i : Int) < (nb0 : Int) := by omega
          by_cases hB : i < nb1
          · have hB' : (i : Int) < (nb1 : Int) := by omega
            go_wp2
            go_loopw [18, 19] (fun x18 _ wr => ∃ k : Nat, k ≤ 2 ∧ x18 = .int .i64 (k : Int) ∧ Hid (FW w w5 wr po FA RA P Q X2 (tw bs0 bs1) i k)) (fun x18 _ _ => 2 - (intOf x18).toNat)
            case atStart => exact ⟨0, by decide, rfl, HI2.out⟩
            case round =>
              obtain ⟨k, hk, rfl, HK⟩ := hrel
              by_cases hk2 : k < 2
              · have hk2' : (k : Int) < 2 := by omega
                have hkw : IntKind.i64.wrap ((k : Int) + 1) = (k : Int) + 1 := by rw [IntKind.wrap_i64]; omega
                have kc : wr.cell? ⟨PA, k, none⟩ = some (.slice (tw b0 b1 k) (tw nb0 nb1 k) (tw e0 e1 k)) := (World.cell?_of_block (a := ⟨PA, k, none⟩) (HK.out.kx PA HPK.out.px).1).trans (HPK.out.cell k hk2)
                by_cases hend : tw nb0 nb1 k ≤ i
                · have hend' : (i : Int) ≥ ((tw nb0 nb1 k : Nat) : Int) := by omega
                  have HN : Hid (FW w w5 wr po FA RA P Q X2 (tw bs0 bs1) i (k + 1)) := HK.out.skip hk2 (by rw [HPK.out.len k hk2]; exact hend)
                  clear HK
                  go_wp2
                  go_roundw
                  case rel => exact ⟨k + 1, by omega, by go_num, HN.out⟩
                  case measure => simp [intOf]; omega
                · have hend' : ¬ (i : Int) ≥ ((tw nb0 nb1 k : Nat) : Int) := by omega
                  have hend2 : (i : Int) < ((tw nb0 nb1 k : Nat) : Int) := by omega
                  obtain ⟨x, hx⟩ : ∃ x, (tw bs0 bs1 k)[i]? = some x := ⟨_, List.getElem?_eq_getElem (by rw [HPK.out.len k hk2]; omega)⟩
                  obtain ⟨gr, og, hAk, hcx, hXg⟩ := HPK.out.piece k hk2 i x hx
                  obtain ⟨hpc, hgk⟩ := HPK.out.pc k hk2 x (List.mem_of_getElem? hx)
                  have hFd : Fr wr wr.drew (fun _ => False) := (Fr.refl wr (fun _ => False)).drew
                  have hKd := HK.out.fr0 hFd
                  have hcall := hKd.call HM.out.2 hk2 hx hpc hgk HPK.out.flat (by omega)
                  obtain ⟨xa, xo, xc, hx1, -⟩ := id hpc
                  obtain ⟨xn, hxn⟩ : ∃ xn, x.2.length = xn := ⟨_, rfl⟩
                  rw [hxn] at hx1
                  rw [hx1] at hcall hcx
                  have HXX : Hid (∀ W, FW w w5 W po FA RA P Q X2 (tw bs0 bs1) i k ∨ FW w w5 W po FA RA P Q X2 (tw bs0 bs1) i (k + 1) → W.cell? ⟨FA, k, none⟩ = some (.pointer (some ⟨P k, 0, none⟩)) ∧ W.cell? ⟨RA, k, none⟩ = some (.pointer (some ⟨Q k, 0, none⟩)) ∧ W.cell? ⟨PA, k, none⟩ = some (.slice (tw b0 b1 k) (tw nb0 nb1 k) (tw e0 e1 k)) ∧ W.cell? ⟨gr, og + i, none⟩ = some (.slice xa xn xc)) := fun W hW => by
                    have kx : ∀ y, X2 y → W.heap[y]? = w5.heap[y]? := fun y hy => hW.elim (fun h => (h.kx y hy).1) fun h => (h.kx y hy).1
                    obtain ⟨h1, h2, h3, h4⟩ := HC5.out k hk2
                    exact ⟨(World.cell?_of_block (a := ⟨FA, k, none⟩) (kx _ h3)).trans h1, (World.cell?_of_block (a := ⟨RA, k, none⟩) (kx _ h4)).trans h2, (World.cell?_of_block (a := ⟨PA, k, none⟩) (kx _ HPK.out.px)).trans (HPK.out.cell k hk2), (World.cell?_of_block (a := ⟨gr, og + i, none⟩) (kx _ hXg)).trans hcx⟩
                  have hSS := HXX.out wr.drew (.inl hKd)
                  rw [hAk] at hSS kc
                  have HAk : Hid (tw b0 b1 k = some ⟨gr, og, none⟩) := hAk
                  clear hFd hKd HK hpc hgk hcx hx hXg hxn hAk hx1
                  generalize tw nb0 nb1 k = nk at *
                  generalize tw e0 e1 k = ek at *
                  go_upto_region 22 with fail
                  rename_i Kc hKc
                  clear kc
                  refine wp_region_held (S := fun w' => w'.cell? ⟨FA, k, none⟩ = some (.pointer (some ⟨P k, 0, none⟩)) ∧ w'.cell? ⟨RA, k, none⟩ = some (.pointer (some ⟨Q k, 0, none⟩)) ∧ w'.cell? ⟨PA, k, none⟩ = some (.slice (some ⟨gr, og, none⟩) nk ek) ∧ w'.cell? ⟨gr, og + i, none⟩ = some (.slice xa xn xc)) (by kernel_rfl) ?_
                  change wpAnyH _ _ _ _ _ _ _ _ (World.drew _)
                  generalize wr.drew = wd at *
                  refine takeR (i := 0) (v := .int .i64 (k : Int)) (some 93) rfl rfl (by kernel_rfl) (by kernel_rfl) (by kernel_rfl) (fun _ _ _ h => h) (Or.inl ⟨by kernel_rfl, fun w' hSw => by kernel_rfl⟩) hSS ?_
                  simp only [Act.put, List.setIfInBounds_toArray, List.set_cons_zero, List.set_cons_succ]
                  refine takeR (i := 1) (v := .pointer (some ⟨FA, k, none⟩)) (some 94) rfl rfl (by kernel_rfl) (by kernel_rfl) (by kernel_rfl) (fun _ _ _ h => h) (Or.inl ⟨by kernel_rfl, fun w' hSw => by clear hSw; go_simp⟩) hSS ?_
                  simp only [Act.put, List.setIfInBounds_toArray, List.set_cons_zero, List.set_cons_succ]
                  refine takeR (i := 2) (v := .pointer (some ⟨P k, 0, none⟩)) (some 95) rfl rfl (by kernel_rfl) (by kernel_rfl) (by kernel_rfl) (fun _ _ _ h => h) (Or.inl ⟨by kernel_rfl, fun w' hSw => by have q0 := hSw.1; clear hSw; go_simp⟩) hSS ?_
                  simp only [Act.put, List.setIfInBounds_toArray, List.set_cons_zero, List.set_cons_succ]
                  refine takeR (i := 3) (v := .int .i64 (k : Int)) (some 96) rfl rfl (by kernel_rfl) (by kernel_rfl) (by kernel_rfl) (fun _ _ _ h => h) (Or.inl ⟨by kernel_rfl, fun w' hSw => by kernel_rfl⟩) hSS ?_
                  simp only [Act.put, List.setIfInBounds_toArray, List.set_cons_zero, List.set_cons_succ]
                  refine takeR (i := 4) (v := .pointer (some ⟨RA, k, none⟩)) (some 97) rfl rfl (by kernel_rfl) (by kernel_rfl) (by kernel_rfl) (fun _ _ _ h => h) (Or.inl ⟨by kernel_rfl, fun w' hSw => by clear hSw; go_simp⟩) hSS ?_
                  simp only [Act.put, List.setIfInBounds_toArray, List.set_cons_zero, List.set_cons_succ]
                  refine takeR (i := 5) (v := .pointer (some ⟨Q k, 0, none⟩)) (some 98) rfl rfl (by kernel_rfl) (by kernel_rfl) (by kernel_rfl) (fun _ _ _ h => h) (Or.inl ⟨by kernel_rfl, fun w' hSw => by have q0 := hSw.2.1; clear hSw; go_simp⟩) hSS ?_
                  simp only [Act.put, List.setIfInBounds_toArray, List.set_cons_zero, List.set_cons_succ]
                  refine takeR (i := 6) (v := .pointer (some ⟨po, 0, none⟩)) (some 99) rfl rfl (by kernel_rfl) (by kernel_rfl) (by kernel_rfl) (fun _ _ _ h => h) (Or.inl ⟨by kernel_rfl, fun w' hSw => by kernel_rfl⟩) hSS ?_
                  simp only [Act.put, List.setIfInBounds_toArray, List.set_cons_zero, List.set_cons_succ]
                  refine takeR (i := 7) (v := .int .i64 (k : Int)) (some 100) rfl rfl (by kernel_rfl) (by kernel_rfl) (by kernel_rfl) (fun _ _ _ h => h) (Or.inl ⟨by kernel_rfl, fun w' hSw => by kernel_rfl⟩) hSS ?_
                  simp only [Act.put, List.setIfInBounds_toArray, List.set_cons_zero, List.set_cons_succ]
                  refine takeR (i := 8) (v := .pointer (some ⟨PA, k, none⟩)) (some 101) rfl rfl (by kernel_rfl) (by kernel_rfl) (by kernel_rfl) (fun _ _ _ h => h) (Or.inl ⟨by kernel_rfl, fun w' hSw => by clear hSw; go_simp⟩) hSS ?_
                  simp only [Act.put, List.setIfInBounds_toArray, List.set_cons_zero, List.set_cons_succ]
                  refine takeR (i := 9) (v := .slice (some ⟨gr, og, none⟩) nk ek) (some 102) rfl rfl (by kernel_rfl) (by kernel_rfl) (by kernel_rfl) (fun _ _ _ h => h) (Or.inl ⟨by kernel_rfl, fun w' hSw => by have q0 := hSw.2.2.1; clear hSw; go_simp⟩) hSS ?_
                  simp only [Act.put, List.setIfInBounds_toArray, List.set_cons_zero, List.set_cons_succ]
                  refine takeR (i := 10) (v := .int .i64 (i : Int)) (some 103) rfl rfl (by kernel_rfl) (by kernel_rfl) (by kernel_rfl) (fun _ _ _ h => h) (Or.inl ⟨by kernel_rfl, fun w' hSw => by kernel_rfl⟩) hSS ?_
                  simp only [Act.put, List.setIfInBounds_toArray, List.set_cons_zero, List.set_cons_succ]
                  refine takeR (i := 11) (v := .pointer (some ⟨gr, og + i, none⟩)) (some 104) rfl rfl (by kernel_rfl) (by kernel_rfl) (by kernel_rfl) (fun _ _ _ h => h) (Or.inl ⟨by kernel_rfl, fun w' hSw => by clear hSw; go_simp⟩) hSS ?_
                  simp only [Act.put, List.setIfInBounds_toArray, List.set_cons_zero, List.set_cons_succ]
                  refine takeR (i := 12) (v := .slice xa xn xc) (some 105) rfl rfl (by kernel_rfl) (by kernel_rfl) (by kernel_rfl) (fun _ _ _ h => h) (Or.inl ⟨by kernel_rfl, fun w' hSw => by have q0 := hSw.2.2.2; clear hSw; go_simp⟩) hSS ?_
                  simp only [Act.put, List.setIfInBounds_toArray, List.set_cons_zero, List.set_cons_succ]
                  refine wpAnyH_ready (rs := [13]) (by kernel_rfl) (by simp) ?_
                  refine AllReadyH.cons rfl (fun K1 hK1 => ?_) AllReadyH.nil
                  rw [if_pos (by kernel_rfl)]
                  refine callR (d := some 106) rfl 17 #[.pointer (some ⟨P k, 0, none⟩), .pointer (some ⟨Q k, 0, none⟩), .pointer (some ⟨po, 0, none⟩), .slice xa xn xc] (by kernel_rfl) hcall ?_
                  rintro e w6 ⟨rfl, hF6⟩
                  have hS6 := HXX.out w6 (.inr hF6)
                  rw [HAk.out] at hS6
                  have HF6 : Hid _ := hF6
                  refine ⟨_, rfl, ?_⟩
                  refine hK1.out _ _ hS6 (fun _ => ?_)
                  clear hK1 hcall hSS hF6 HXX
                  simp only [Act.put, List.setIfInBounds_toArray, List.set_cons_zero, List.set_cons_succ]
                  refine takeR (i := 14) (v := .bool true) (some 19) rfl rfl (by kernel_rfl) (by kernel_rfl) (by kernel_rfl) (fun _ _ _ h => h) (Or.inl ⟨by kernel_rfl, fun w' hSw => by kernel_rfl⟩) hS6 ?_
                  simp only [Act.put, List.setIfInBounds_toArray, List.set_cons_zero, List.set_cons_succ]
                  refine wpAnyH_done (by kernel_rfl) ?_ _
                  refine hKc _ _ ?_
                  clear hKc hS6
                  go_wp2
                  go_roundw
                  case rel => exact ⟨k + 1, by omega, by go_num, HF6.out⟩
                  case measure => simp [intOf]; omega
              · have hk2' : ¬ (k : Int) < 2 := by omega
                have HN : Hid (FW w w5 wr po FA RA P Q X2 (tw bs0 bs1) (i + 1) 0) := by
                  have h := HK.out
                  rw [show k = 2 by omega] at h
                  exact h.next
                clear HK
                go_wp2
                go_roundw
                case rel => exact ⟨i + 1, by omega, by go_num, HN.out⟩
                case measure => simp [intOf]; omega
          · have hB' : ¬ (i : Int) < (nb1 : Int) := by omega
            obtain ⟨VB', VS', B', vl', vL', vh', vw', E', LE', hfs', wfs', S', g1', g2', g3', g4', g5', g6'⟩ := HI2.out.out
            have hN0 : FoundAt wr (.slice none 0 0) [] := ⟨RowAt.none0 _ _ _, fun _ h => (by cases h), List.Pairwise.nil⟩
            have hbl0 : (B' 0).length ≤ 2000000 := by rw [g2' 0 (by decide)]; exact Nat.le_trans (catN_le _ _) (HPK.out.flat 0 (by decide))
            have hbl1 : (B' 1).length ≤ 2000000 := by rw [g2' 1 (by decide)]; exact Nat.le_trans (catN_le _ _) (HPK.out.flat 1 (by decide))
            have hc0' := walk_count (fK_steady 0) _ (B' 0) 0 (Nat.le_refl _)
            have hc1' := walk_count (fK_steady 1) _ (B' 1) 0 (Nat.le_refl _)
            have hT := takes_any fill_any (S := S') g1'.ot hN0 hN0 rfl (fun _ h => h) (fun _ h => (by cases h)) (fun _ h => (by cases h)) (fun _ h => (by cases h)) (fun _ h => (by cases h)) (by omega) (by omega) (by omega) (by simp) g6'
            have HG1 : Hid (Fr w wr (fun _ => False) ∧ ∀ x, S' x → w.heap.size ≤ x) := ⟨g1'.fr, fun x hx => (g1'.sS x hx).1⟩
            clear hN0 hbl0 hbl1 hc0' hc1' g1' g2' g3' g4' g5' g6' HI2
            go_wp2_with (go_at_call 18; fail)
            refine hT.mono ?_
            clear hT
            rintro e w9 ⟨rfl, hTO⟩
            have HE : Hid (Below w.heap.size w w9) := (HG1.out.1.trans hTO.fr (e3 := fun _ => False) fun x hx e => e.elim id fun e => by have := HG1.out.2 x e; omega).below (Nat.le_refl _) fun _ _ e => e
            clear hTO
            go_wp2
            go_ret
            exact ⟨rfl, HE.out⟩
end Go.Proofs.YtkpoheknmcepnaaGreatDoor
