import Derived.Test.YtkpoheknmcepnaaGreatDoorFrShown

namespace Go.Proofs.YtkpoheknmcepnaaGreatDoor
set_option linter.unusedVariables false
set_option linter.unusedSimpArgs false
open Go.RowKit Go.Great Go.Shelf

def sumJ (l : List (List UInt8 × Nat)) : Nat := (l.map fun x => x.2).foldr (· + ·) 0
theorem walk_junk {f : List UInt8 → Sight} (hf : Steady f) : ∀ (n : Nat) (b : List UInt8) (j : Nat), b.length ≤ n → sumJ (walkL f b j).fs + (walkL f b j).j = j + (walkL f b j).k ∧ ∃ m, f (walkL f b j).r = .begun m := fun n => by
  induction n with
  | zero =>
    intro b j hb
    obtain rfl : b = [] := List.length_eq_zero_iff.1 (by omega)
    cases h : f [] with
    | begun s => rw [walkL_begun h]; exact ⟨by simp [sumJ], s, h⟩
    | whole s => obtain ⟨g1, g2, _⟩ := hf.whole h; simp at g2; omega
    | wrong => exact absurd rfl (hf.wrong h).1
  | succ n ih =>
    intro b j hb
    cases h : f b with
    | begun s => rw [walkL_begun h]; exact ⟨by simp [sumJ], s, h⟩
    | whole s =>
      obtain ⟨g1, g2, g3⟩ := hf.whole h
      have i := ih (b.drop s) 0 (by rw [List.length_drop]; omega)
      rw [walkL_whole hf h]
      refine ⟨?_, i.2⟩
      have i1 := i.1
      simp only [sumJ, List.map_cons, List.foldr_cons] at i1 ⊢
      omega
    | wrong =>
      have hl : 1 ≤ b.length := List.length_pos_iff.2 (hf.wrong h).1
      have i := ih (b.drop 1) (j + 1) (by rw [List.length_drop]; omega)
      rw [walkL_wrong hf h]
      refine ⟨?_, i.2⟩
      have i1 := i.1
      simp only at i1 ⊢
      omega
theorem run_append_zero {P : Program} (w : World) (t ty e : TypeId) (i : TypeInfo) (ht : P.underlying t = some (.slice e)) (hi : P.info? e = some i) (base : Option Addr) (n cap : Nat) (h : n ≤ cap) (ax : Option Addr) (cx : Nat) :
    (Builtin.append_ #[t, t] ty #[.slice base n cap, .slice ax 0 cx]).run P w = .ok (.slice base n cap) w := by
  cases base <;> cases ax <;> simp [Builtin.append_, run_underlying ht, sizeOf, typeInfo, hi, Builtin.lenOf, Builtin.firstCells, h, storeCells, loadCells, loadCellsFrom]
theorem fms_one : ∀ {fs' : List Fm}, (∀ x, x ∈ fs' → x.v.oneCell' = true) → ∀ u, u ∈ flatL fmV fs' → u.oneCell' = true
  | [], _, u, hu => by cases hu
  | x :: xs, hone, u, hu => by
    rcases List.mem_append.1 hu with q | q
    · rcases List.mem_cons.1 q with rfl | q
      · exact hone x (by simp)
      · rcases List.mem_cons.1 q with rfl | q
        · rfl
        · cases q
    · exact fms_one (fun y hy => hone y (by simp [hy])) u q
/-- Frames behind frames. -/
theorem found_app {w : World} {vp v : Value} {fs fs' : List Fm} (h : FoundAt w vp fs) (h' : FoundAt w v fs') (hb : fs.length + fs'.length ≤ 2000000000) (hone : ∀ x, x ∈ fs' → x.v.oneCell' = true) :
    ∃ v2 w2, (Builtin.append_ #[30, 30] 30 #[vp, v]).run Tryz.prog w = .ok v2 w2 ∧ RowAt w2 36 2 v2 (fs ++ fs').length (flatL fmV (fs ++ fs')) ∧ Fr w w2 (fun b => vp.ownBlock = some b) ∧ (v2.ownBlock = vp.ownBlock ∨ v2.ownBlock = some w.heap.size) := by
  obtain ⟨i, hi, hz, hsz, hby⟩ := infoFm
  obtain ⟨av, cv, hv, hle⟩ := h'.row.form
  obtain ⟨ap, cp, hp, hlp⟩ := h.row.form
  by_cases h0 : fs'.length = 0
  · obtain rfl : fs' = [] := List.length_eq_zero_iff.1 h0
    subst hv hp
    exact ⟨_, w, run_append_zero w _ _ 36 i Tryz.underlying30 hi ap _ cp hlp av cv, by rw [List.append_nil]; exact h.row, Fr.refl _ _, .inl rfl⟩
  · obtain ⟨g, o, c, cur, e1, e2, _⟩ := h'.row.more (by omega)
    obtain ⟨v2, w2, h1, h2, h3, h4⟩ := run_append_row (P := Tryz.prog) w 30 30 36 i _ 2 32 Tryz.underlying30 hi hz hsz hby (by rfl) vp fs.length (flatL fmV fs) h.row ⟨g, o, none⟩ fs'.length c (flatL fmV fs') (flatL_len fmV_len fs') (fun j u hj => by rw [Addr.add_mid]; exact h'.row.cell e1 hj) (fms_one hone) (.inl (by omega)) (by unfold maxLen; omega) (by omega)
    rw [e1]
    refine ⟨v2, w2, h1, by rw [List.length_append, flatL_app]; exact h2, h3, ?_⟩
    rcases h4 with q | ⟨q, _⟩
    · exact .inl q
    · exact .inr q
end Go.Proofs.YtkpoheknmcepnaaGreatDoor

namespace Go.Proofs.YtkpoheknmcepnaaGreatDoor
set_option linter.unusedVariables false
set_option linter.unusedSimpArgs false
open Go.RowKit Go.Great Go.Shelf

/-- The framer that the pieces are fed to, and the frames so far. -/
structure PI (f : List UInt8 → Sight) (w wr : World) (p : Nat) (lk : FuncId) (b : List UInt8) (vp vb : Value) (wants told : Nat) (fs : List Fm) : Prop where
  blk : FmB wr p (.func (.func lk) #[] #[]) vb wants (walkL f b 0).k told
  tj : told + (walkL f b 0).j = (walkL f b 0).k
  row : ByAt wr vb (walkL f b 0).r
  rlt : (walkL f b 0).r.length < 1024
  wle : wants ≤ 1024
  more : ∀ c, ((walkL f b 0).r ++ c).length < wants → ∃ m, f ((walkL f b 0).r ++ c) = .begun m
  bnew : ∀ b', vb.ownBlock = some b' → w.heap.size ≤ b'
  apart : ∀ x, x ∈ fs → ∀ b', x.v.ownBlock = some b' → vb.ownBlock ≠ some b'
  found : FoundAt wr vp fs
  eq : fsOf fs = (walkL f b 0).fs
  news : ∀ x, x ∈ fs → ∀ b', x.v.ownBlock = some b' → w.heap.size ≤ b'
  vnew : ∀ b', vp.ownBlock = some b' → w.heap.size ≤ b'
  fr : Fr w wr (fun b => b = p)
  plt : p < w.heap.size
theorem ByAt.one {w : World} {v : Value} {l : List UInt8} (h : ByAt w v l) : v.oneCell' = true := by
  obtain ⟨a, c, e, _⟩ := RowAt.form h
  rw [e]; rfl
section
variable {f : List UInt8 → Sight} {w wr w6 : World} {p : Nat} {lk : FuncId} {b l : List UInt8} {vp vb v : Value} {wants told : Nat} {fs : List Fm}
theorem PI.start (hf : Steady f) (hp : w.heap[p]? = some (newF lk)) : PI f w w p lk [] (.slice none 0 0) (.slice none 0 0) 0 0 [] := by
  obtain ⟨m, hm⟩ := steady_nil hf
  have e := walkL_begun hm 0
  refine ⟨?_, ?_, ?_, ?_, by decide, fun c h => absurd h (Nat.not_lt_zero _), fun _ h => (by cases h), fun _ h => (by cases h), ⟨RowAt.none0 _ _ _, fun _ h => (by cases h), List.Pairwise.nil⟩, ?_, fun _ h => (by cases h), fun _ h => (by cases h), Fr.refl _ _, (Array.getElem?_eq_some_iff.1 hp).1⟩
  · rw [e]; exact hp
  · rw [e]
    rfl
  · rw [e]; exact RowAt.none0 _ _ _
  · rw [e]; decide
  · rw [e]; rfl
/-- Feed of a further piece. -/
theorem PI.feed {W0 : World} (hf : Steady f) (hlk : LookOK W0 lk f) (hcf : ∀ args w, (callFunc lk args).run Tryz.prog w = .ok (.enter lk args) w) (hbeg : ∀ b n, f b = .begun n → n ≤ 1024)
    (h : PI f w wr p lk b vp vb wants told fs) {g : Nat} {va : Value} (hp : PcAt g w va l) (hg : 0 < l.length → g < w.heap.size ∧ g ≠ p) (hl : b.length + l.length ≤ 1000000000) (hW0 : Below W0.heap.size W0 w) (hlp : W0.heap.size ≤ p) :
    Calls Tryz.prog 10 #[.pointer (some ⟨p, 0, none⟩), va] wr fun e w' => ∃ v, e = .returned v ∧ FdE f wr w' p lk vb v (walkL f b 0).k (walkL f b 0).j ((walkL f b 0).r ++ l) := by
  obtain ⟨a, o, c, rfl, hlc, ha, hs⟩ := hp
  have hcnt := walk_count hf _ b 0 (Nat.le_refl _)
  have hplt := h.plt
  have hsz := h.fr.size
  have hs' : LSrc wr (some ⟨g, o, none⟩) l := by
    by_cases h0 : 0 < l.length
    · exact hs.fr h.fr (hg h0).2
    · exact .inl (List.length_eq_zero_iff.1 (by omega))
  refine (Feed_any (W0 := W0) (g := g) (o := o) hf hlk hcf hbeg h.blk h.tj h.row (walk_junk hf _ b 0 (Nat.le_refl _)).2 h.rlt h.wle h.more hs' (fun h0 => ⟨ha h0, (hg h0).2, fun e => by have := h.bnew _ e; have := (hg h0).1; omega⟩) rfl hlc (by omega) (by omega) (hW0.trans (h.fr.below hW0.size fun b hb q => by omega)) hlp (fun b' e => Nat.le_trans hW0.size (h.bnew b' e))).mono ?_
  rintro e w' ⟨vb', v, wants', told', fs, rfl, h⟩
  exact ⟨v, rfl, ⟨_, vb', wants', told', fs, h⟩⟩
/-- And its frames behind those of the pieces ahead of it. -/
theorem PI.app (hf : Steady f) (h : PI f w wr p lk b vp vb wants told fs) (hl : b.length + l.length ≤ 1000000000) (hE : FdE f wr w6 p lk vb v (walkL f b 0).k (walkL f b 0).j ((walkL f b 0).r ++ l)) :
    ∃ v2 w7 vb' wants' told' fs', (Builtin.append_ #[30, 30] 30 #[vp, v]).run Tryz.prog w6 = .ok v2 w7 ∧ PI f w w7 p lk (b ++ l) v2 vb' wants' told' fs' := by
  obtain ⟨sv, vb', wants', told', fs', hH, hfs, hrl, hwl, hmo⟩ := hE.out
  obtain ⟨q1, q2, q3, q4⟩ := walk_step hf b l 0
  have hG := hH.G
  have hsz := hG.fr.size
  have hsz0 := h.fr.size
  have hplt := h.plt
  have hf6 : FoundAt w6 vp fs := ⟨h.found.row.fr hG.fr fun b' hb q => by
      rcases q with q | q
      · subst q; exact h.found.row.ne_type h.blk (by decide) hb
      · obtain ⟨_, cur, hc⟩ := h.found.row.lt hb
        exact RowAt.ne_type h.row hc (by decide) q, fun x hx => RowAt.fr (h.found.each x hx) hG.fr fun b' hb q => by
      rcases q with q | q
      · subst q; exact RowAt.ne_type (h.found.each x hx) h.blk (by decide) hb
      · exact h.apart x hx b' hb q, h.found.sep⟩
  have hlen1 : fs.length = (walkL f b 0).fs.length := by rw [← h.eq]; simp [fsOf]
  have hlen2 : fs'.length = (walkL f ((walkL f b 0).r ++ l) (walkL f b 0).j).fs.length := by rw [← hfs]; simp [fsOf]
  have hc1 := walk_count hf _ b 0 (Nat.le_refl _)
  have hc2 := walk_count hf _ ((walkL f b 0).r ++ l) (walkL f b 0).j (Nat.le_refl _)
  have hrl0 := h.rlt
  rw [List.length_append] at hc2
  obtain ⟨v2, w7, hrun, hrow, hfr7, hnw⟩ := found_app hf6 hG.found (by omega) (fun x hx => (hG.found.each x hx).one)
  have hvpt : ∀ {b' : Nat} {cur : Array Value} {e : TypeId}, w6.heap[b']? = some (.cells cur e (0, 0)) → 36 ≠ e → vp.ownBlock ≠ some b' := fun hb hne => hf6.row.ne_type hb hne
  have key : ∀ x, x ∈ fs ++ fs' → ByAt w6 x.v x.l := fun x hx => by
    rcases List.mem_append.1 hx with q | q
    · exact hf6.each x q
    · exact hG.found.each x q
  refine ⟨v2, w7, vb', wants', told', fs ++ fs', hrun, ⟨?_, ?_, ?_, ?_, hwl, ?_, fun b' e => ?_, fun x hx b' e q => ?_, ⟨hrow, fun x hx => RowAt.fr (key x hx) hfr7 fun b' hb q => ?_, List.pairwise_append.2 ⟨h.found.sep, hG.found.sep, fun x hx y hy b' hb e => by have := hG.news y hy b' e; have := (RowAt.lt (h.found.each x hx) hb).1; omega⟩⟩, ?_, fun x hx b' e => ?_, fun b' e => ?_, ?_, h.plt⟩⟩
  · rw [q3]; exact hG.blk.fr hfr7 (hvpt hG.blk (by decide))
  · rw [q2, q3]; exact hG.tj
  · rw [q4]; exact RowAt.fr hG.row hfr7 fun b' hb q => by
      obtain ⟨_, cur, hc⟩ := RowAt.lt hG.row hb
      exact hvpt hc (by decide) q
  · rw [q4]; exact hrl
  · rw [q4]; exact hmo
  · rcases hG.nvb with q | ⟨g', q, hg'⟩
    · rw [q] at e; exact h.bnew b' e
    · rw [q] at e; injection e with e; omega
  · rcases List.mem_append.1 hx with y | y
    · rcases hG.nvb with z | ⟨g', z, hg'⟩
      · rw [z] at q; exact h.apart x y b' e q
      · rw [z] at q; injection q with q
        have := (RowAt.lt (h.found.each x y) e).1; omega
    · exact hG.apart x y b' e q
  · obtain ⟨_, cur, hc⟩ := RowAt.lt (key x hx) hb
    exact hvpt hc (by decide) q
  · rw [q1, ← h.eq, ← hfs]; simp [fsOf]
  · rcases List.mem_append.1 hx with y | y
    · exact h.news x y b' e
    · have := hG.news x y b' e; omega
  · rcases hnw with q | q
    · rw [q] at e; exact h.vnew b' e
    · rw [q] at e; injection e with e; omega
  · refine (h.fr.trans hG.fr (e3 := fun b' => b' = p) fun b' hb q => ?_).trans hfr7 fun b' hb q => ?_
    · rcases q with q | q | q
      · exact q
      · exact q
      · have := h.bnew b' q; omega
    · rcases q with q | q
      · exact q
      · have := h.vnew b' q; omega
end
end Go.Proofs.YtkpoheknmcepnaaGreatDoor

namespace Go.Proofs.YtkpoheknmcepnaaGreatDoor
set_option linter.unusedVariables false
set_option linter.unusedSimpArgs false
open Go.RowKit Go.Great Go.Shelf

theorem wpList_wanted {P : Program} {ops : Array Oper} {rest : List Oper} {o : Oper} {a : Act} {w : World} {Q : Exit → Act → World → Prop} (hw : Region.wanted o (yielded ops a.tmps) = true)
    (h : ∀ K : Act → World → Prop, (∀ a w, wpList P ops Q rest a w → K a w) → o.wp P a w K Q) : wpList P ops Q (o :: rest) a w :=
  wpList_step fun K hK => by rw [if_pos hw]; exact h K hK
theorem wpList_runToG {P : Program} {ops : Array Oper} {rest : List Oper} {o : Oper} {a : Act} {w : World} {Q : Exit → Act → World → Prop} (hw : Region.wanted o (yielded ops a.tmps) = true) (dst : Option Tmp) (hdst : o.dst = dst)
    (v : Value) (w' : World) (hrun : (execOp a.eval o).run P w = .ok (.value v) w')
    (h : wpList P ops Q rest (a.put dst v) w') : wpList P ops Q (o :: rest) a w := by
  subst hdst
  refine wpList_wanted hw fun K hK => ?_
  unfold Oper.wp
  rw [hrun, Oper.upon_value]
  exact hK _ _ h
theorem wpList_callG {P : Program} {ops : Array Oper} {rest : List Oper} {op : Oper} {a : Act} {w : World} {Q : Exit → Act → World → Prop} (hw : Region.wanted op (yielded ops a.tmps) = true) (d : Option Tmp) (hd : op.dst = d)
    (f : FuncId) (args : Array Value) (hrun : (execOp a.eval op).run P w = .ok (.enter f args) w) {R : Ending → World → Prop} (hc : Calls P f args w R)
    (h : ∀ e w', R e w' → ∃ v, e = .returned v ∧ wpList P ops Q rest (a.put d v) w') : wpList P ops Q (op :: rest) a w := by
  subst hd
  refine wpList_wanted hw fun K hK => ?_
  unfold Oper.wp
  rw [hrun, Oper.upon_enter]
  refine hc.mono fun e w'' hh => ?_
  obtain ⟨v, rfl, hw⟩ := h _ _ hh
  exact hK _ _ hw
theorem PcAt.fr' {g : Nat} {w w' : World} {v : Value} {l : List UInt8} {ex : Nat → Prop} (h : PcAt g w v l) (hf : Fr w w' ex) (hn : 0 < l.length → ¬ ex g) : PcAt g w' v l := by
  obtain ⟨a, o, c, h1, h2, h3, h4⟩ := h
  refine ⟨a, o, c, h1, h2, h3, ?_⟩
  by_cases h0 : 0 < l.length
  · exact h4.fr hf (hn h0)
  · exact .inl (List.length_eq_zero_iff.1 (by omega))
theorem PcAt.lt {g : Nat} {w : World} {v : Value} {l : List UInt8} (h : PcAt g w v l) (h0 : 0 < l.length) : g < w.heap.size := by
  obtain ⟨a, o, c, h1, h2, h3, h4⟩ := h
  rcases h4 with rfl | ⟨b, off, e, h4⟩
  · cases h0
  · injection e with e
    injection e with e1 e2
    subst e1
    exact World.block_lt_of_cell? _ _ (h4 0 h0)
theorem sumF_app (a b : List (List UInt8 × Nat)) : sumF (a ++ b) = sumF a + sumF b ∧ sumJ (a ++ b) = sumJ a + sumJ b := by
  induction a with
  | nil => simp [sumF, sumJ]
  | cons x xs ih =>
    simp only [sumF, sumJ, List.cons_append, List.map_cons, List.foldr_cons] at ih ⊢
    omega
theorem sum_take {l : List (List UInt8 × Nat)} {i : Nat} {x : List UInt8 × Nat} (h : l[i]? = some x) : sumF (l.take (i + 1)) = sumF (l.take i) + x.1.length ∧ sumJ (l.take (i + 1)) = sumJ (l.take i) + x.2 ∧ sumF (l.take (i + 1)) ≤ sumF l ∧ sumJ (l.take (i + 1)) ≤ sumJ l := by
  have e : l.take (i + 1) = l.take i ++ [x] := by rw [List.take_add_one, h]; rfl
  have h1 := sumF_app (l.take i) [x]
  have h2 := sumF_app (l.take (i + 1)) (l.drop (i + 1))
  rw [List.take_append_drop] at h2
  have h3 : sumF [x] = x.1.length ∧ sumJ [x] = x.2 := by simp [sumF, sumJ]
  rw [e] at h2 ⊢
  omega
theorem FoundAt.fr0 {w w' : World} {v : Value} {fs : List Fm} (h : FoundAt w v fs) (hf : Fr w w' (fun _ => False)) : FoundAt w' v fs := ⟨h.row.fr hf fun _ _ q => q, fun x hx => RowAt.fr (h.each x hx) hf fun _ _ q => q, h.sep⟩
theorem FoundAt.at {w : World} {g o n c i : Nat} {fs : List Fm} {x : Fm} (h : FoundAt w (.slice (some ⟨g, o, none⟩) n c) fs) (hn : fs.length = n) (hx : fs[i]? = some x) : w.cell? ⟨g, o + i * 2, none⟩ = some x.v ∧ w.cell? ⟨g, o + i * 2 + 1, none⟩ = some (.int .i64 (x.j : Int)) := by
  subst hn
  have h0 := flatL_get (f := fmV) fmV_len hx (k := 0) (by decide)
  have h1 := flatL_get (f := fmV) fmV_len hx (k := 1) (by decide)
  refine ⟨h.row.cell rfl (j := i * 2) ?_, ?_⟩
  · exact h0
  · rw [Nat.add_assoc]; exact h.row.cell rfl (j := i * 2 + 1) h1
set_option maxRecDepth 100000 in
theorem conv_by {w : World} {a : Option Addr} {n c : Nat} {l : List UInt8} (h : ByAt w (.slice a n c) l) : (convert 22 9 (.slice a n c)).run Tryz.prog w = .ok (.string ⟨l.toArray⟩) w := by
  rcases h.2 with ⟨e, h0⟩ | ⟨g, off, cap, cur, e, _⟩
  · obtain rfl : l = [] := List.length_eq_zero_iff.1 h0
    rw [e]
    exact run_convert_bytes_nil (P := Tryz.prog) w 22 5 Tryz.underlying22 Tryz.underlying5 0 0 9 Tryz.underlying9
  · injection e with e1 e2 e3
    subst e1
    exact conv_src (ByAt.src h) n e2
/-- What the first framer has told. -/
structure WH (f : List UInt8 → Sight) (w w4 : World) (p : Nat) (lk : FuncId) (l : List UInt8) (v : Value) (a1 : Option Addr) (c1 wants told : Nat) (fs : List Fm) : Prop where
  blk : FmB w4 p (.func (.func lk) #[] #[]) (.slice a1 (walkL f l 0).r.length c1) wants (walkL f l 0).k told
  found : FoundAt w4 v fs
  eq : fsOf fs = (walkL f l 0).fs
  rlt : (walkL f l 0).r.length < 1024
theorem FdE.wh {f : List UInt8 → Sight} {w w4 : World} {p : Nat} {lk : FuncId} {l : List UInt8} {v : Value} (h : FdE f w w4 p lk (.slice none 0 0) v 0 0 l) : ∃ a1 c1 wants told fs, WH f w w4 p lk l v a1 c1 wants told fs ∧ Fr w w4 (fun b => b = p) := by
  obtain ⟨sv, vb', wants, told, fs, hH, hfs, hrl, _, _⟩ := h.out
  obtain ⟨a1, c1, e, _⟩ := hH.G.row.form
  refine ⟨a1, c1, wants, told, fs, ⟨?_, hH.G.found, hfs, hrl⟩, (Fr.refl w (fun _ => False)).trans hH.G.fr fun b _ q => ?_⟩
  · have := hH.G.blk
    rw [e, Nat.zero_add] at this
    exact this
  · rcases q with q | q | q
    · exact q.elim
    · exact q
    · cases q
theorem WH.fr {f : List UInt8 → Sight} {w w4 w5 : World} {p : Nat} {lk : FuncId} {l : List UInt8} {v : Value} {a1 : Option Addr} {c1 wants told : Nat} {fs : List Fm} (h : WH f w w4 p lk l v a1 c1 wants told fs) {p2 : Nat} {cur : Array Value} (hf : Fr w4 w5 (fun b => b = p2)) (hp : w4.heap[p2]? = some (.cells cur 66 (0, 0))) (hne : p ≠ p2) : WH f w w5 p lk l v a1 c1 wants told fs :=
  ⟨h.blk.fr hf hne, ⟨h.found.row.fr hf fun b hb e => by subst e; exact h.found.row.ne_type hp (by decide) hb, fun x hx => RowAt.fr (h.found.each x hx) hf fun b hb e => by subst e; exact RowAt.ne_type (h.found.each x hx) hp (by decide) hb, h.found.sep⟩, h.eq, h.rlt⟩
set_option maxRecDepth 100000 in
set_option maxHeartbeats 4000000 in
theorem FramerPieces_for {f : List UInt8 → Sight} {lk : FuncId} (hf : Steady f) (hlk : ∀ W0, Pow W0 → LookOK W0 lk f) (hcf : ∀ args w, (callFunc lk args).run Tryz.prog w = .ok (.enter lk args) w) (hbeg : ∀ b n, f b = .begun n → n ≤ 1024) {kind : Int} {pk : Nat} (hpk : pickN kind 2 = pk) (hk0 : -9223372036854775808 ≤ kind) (hk1 : kind ≤ 9223372036854775807) {z1 : Int} (hz1 : IntKind.i64.wrap (1 + (pk : Int)) = z1)
    (hnew : ∀ w : World, Calls Tryz.prog 8 #[.int .i64 z1] w fun e w' => e = .returned (.tuple #[.pointer (some ⟨w.heap.size, 0, none⟩), .int .i64 0]) ∧ w' = w.alloc (newF lk))
    {w : World} (hM : Mon w) (hP : Pow w) {g n c nc cc : Nat} {a ac : Option Addr} {l : List UInt8} (hs : PcAt g w (.slice a n c) l) (hn : l.length = n) (hn1 : n ≤ 2000000) (hnc : nc ≤ 2000000)
    (hcuts : ∀ k, k < nc → ∃ z : Int, -9223372036854775808 ≤ z ∧ z ≤ 9223372036854775807 ∧ ∃ gc oc, ac = some ⟨gc, oc, none⟩ ∧ w.cell? ⟨gc, oc + k, none⟩ = some (.int .i64 z)) :
    Calls Tryz.prog 3 #[.int .i64 kind, .slice a n c, .slice ac nc cc] w fun e w' => e = .returned (.bool true) ∧ Below w.heap.size w w' := by
  have HM : Hid (Mon w ∧ Pow w) := ⟨hM, hP⟩
  have HS : Hid (PcAt g w (.slice a n c) l ∧ l.length = n) := ⟨hs, hn⟩
  have HCU : Hid _ := hcuts
  have HPK : Hid (pickN kind 2 = pk) := hpk
  have hnc' : n ≤ c := by obtain ⟨a0, o0, c0, e0, h0, -⟩ := hs; injection e0 with _ e1 e2; omega
  clear hM hP hs hn hcuts hpk
  go_enter Tryz.func3, Tryz.ntmps3
  go_wp2_with (go_at_call 7; fail)
  refine (shown_any w HM.out.1 HM.out.2).mono ?_
  rintro e w1 ⟨rfl, hB1⟩
  have HB1 : Hid (Below w.heap.size w w1) := hB1
  clear hB1
  go_wp2_with (go_at_call 9; fail)
  refine (pick_any kind 2 2 rfl w1 (by decide) (by decide) hk0 hk1).mono ?_
  rintro e w2 ⟨rfl, rfl⟩
  rw [HPK.out]
  go_wp2_with (go_at_call 8; fail)
  refine (hnew _).mono ?_
  rintro e w3 ⟨rfl, rfl⟩
  go_wp2_with (go_at_call 9; fail)
  refine (pick_any kind 2 2 rfl _ (by decide) (by decide) hk0 hk1).mono ?_
  rintro e w3 ⟨rfl, rfl⟩
  rw [HPK.out]
  go_wp2_with (go_at_call 8; fail)
  refine (hnew _).mono ?_
  rintro e w3 ⟨rfl, rfl⟩
  have hsz : ((w2.alloc (newF lk)).alloc (newF lk)).heap.size = w2.heap.size + 2 := by simp
  have hf1 : ((w2.alloc (newF lk)).alloc (newF lk)).heap[w2.heap.size]? = some (newF lk) := (Below.heap_alloc (w2.alloc (newF lk)) _ _ (by simp)).trans (heap_alloc_new w2 _)
  have hf2 : ((w2.alloc (newF lk)).alloc (newF lk)).heap[w2.heap.size + 1]? = some (newF lk) := by have := heap_alloc_new (w2.alloc (newF lk)) (newF lk); rwa [World.size_alloc] at this
  have hF2 : Fr w2 ((w2.alloc (newF lk)).alloc (newF lk)) (fun _ => False) := (Fr.alloc _ _ (fun _ => False)).trans (Fr.alloc _ _ (fun _ => False)) fun _ _ q => q.elim id id
  simp only [World.size_alloc]
  generalize (w2.alloc (newF lk)).alloc (newF lk) = w3 at *
  have H3 : Hid (w3.heap.size = w2.heap.size + 2 ∧ w3.heap[w2.heap.size]? = some (newF lk) ∧ w3.heap[w2.heap.size + 1]? = some (newF lk) ∧ Fr w2 w3 (fun _ => False)) := ⟨hsz, hf1, hf2, hF2⟩
  clear hsz hf1 hf2 hF2
  go_wp2_with (go_at_call 10; fail)
  have hF13 : Fr w w3 (fun _ => False) := (Fr.of_below HB1.out _).trans H3.out.2.2.2 fun _ _ q => q.elim id id
  have hB3 : Below w.heap.size w w3 := hF13.below (Nat.le_refl _) fun _ _ q => q
  have hz2 := HB1.out.size
  have hz3 := H3.out.1
  obtain ⟨a0, o0, c0, e0, hlc0, ha0, hs0⟩ := HS.out.1
  injection e0 with e00 e01 e02
  have hs3 := hs0.fr hF13 id
  have hFd := Feed_fresh (W0 := w) (a := a) (n := n) (c := c) hf (hlk w HM.out.2) hcf hbeg H3.out.2.1 hs3 (fun h => ⟨e00.trans (ha0 (by omega)), by have := HS.out.1.lt (by omega); omega⟩) HS.out.2 hnc' (by omega) hB3 hz2
  clear e00 e01 e02 hs0 hs3 ha0 hlc0
  refine hFd.mono ?_
  clear hFd
  rintro e w4 ⟨v, rfl, hE⟩
  obtain ⟨a1, c1, wants1, told1, fs1, hWH, hF4⟩ := hE.wh
  clear hE
  obtain ⟨av, cv, hv, -⟩ := hWH.found.row.form
  obtain ⟨nv, hnv⟩ : ∃ nv, fs1.length = nv := ⟨_, rfl⟩
  rw [hnv] at hv
  subst hv
  have hz4 := hF4.size
  have hp4 : w4.heap[w2.heap.size + 1]? = some (newF lk) := (hF4.block _ (by omega) (by omega)).trans H3.out.2.2.1
  have hF14 : Fr w w4 (fun b => b = w2.heap.size) := hF13.trans hF4 fun b _ q => q.elim False.elim id
  have hpc4 : PcAt g w4 (.slice a n c) l := HS.out.1.fr' hF14 fun h0 => by have := HS.out.1.lt h0; omega
  have hpcs := pieces_any (ac := ac) (nc := nc) (cc := cc) hpc4 HS.out.2 (by omega) (by omega) (fun k hk => by
    obtain ⟨z, h1, h2, gc, oc, h3, h4⟩ := HCU.out k hk
    have hlt := World.block_lt_of_cell? w ⟨gc, oc + k, none⟩ h4
    exact ⟨z, h1, h2, gc, oc, h3, (World.cell?_of_block (hF14.block gc hlt (by have : gc < w.heap.size := hlt; omega))).trans h4⟩)
  have H4 : Hid (WH f w3 w4 w2.heap.size lk l (.slice av nv cv) a1 c1 wants1 told1 fs1 ∧ fs1.length = nv ∧ w4.heap[w2.heap.size + 1]? = some (newF lk) ∧ Fr w w4 (fun b => b = w2.heap.size) ∧ w3.heap.size ≤ w4.heap.size) := ⟨hWH, hnv, hp4, hF14, hz4⟩
  clear hWH hnv hp4 hF14 hF4 hB3 hF13 hpc4
  go_wp2_with (go_at_call 11; fail)
  refine hpcs.mono ?_
  clear hpcs
  rintro e w5 ⟨vo, rfl, hPO⟩
  obtain ⟨nb, bs, hPJ, hnb⟩ := hPO.out
  clear hPO
  obtain ⟨ao, co, hvo, -⟩ := hPJ.row.form
  subst hvo
  have hz5 := hPJ.fr.size
  have hp5 : w5.heap[w2.heap.size + 1]? = some (newF lk) := (hPJ.fr.block _ (by omega) id).trans H4.out.2.2.1
  have hPI0 := PI.start (f := f) (w := w5) hf hp5
  have HPJ : Hid (PJ g w4 w5 l (.slice ao nb co) nb bs [] ∧ w5.heap[w2.heap.size + 1]? = some (newF lk)) := ⟨hPJ, hp5⟩
  clear hPJ hp5
  have HPI0 : Hid _ := hPI0
  clear hPI0
  go_wp2
  go_loopw [13, 15, 16] (fun x13 x15 _ wr => ∃ (k np cp : Nat) (ap : Option Addr), k ≤ nb ∧ x15 = .int .i64 (k : Int) ∧ x13 = .slice ap np cp ∧ Hid (∃ vb wants told fs, PI f w5 wr (w2.heap.size + 1) lk ((bs.take k).map (·.2)).flatten (.slice ap np cp) vb wants told fs ∧ fs.length = np)) (fun _ x15 _ _ => nb - (intOf x15).toNat)
  case atStart => exact ⟨0, 0, 0, none, Nat.zero_le _, rfl, rfl, _, _, _, [], HPI0.out, rfl⟩
  case round =>
    obtain ⟨k, np, cp, ap, hk, rfl, rfl, HJ⟩ := hrel
    by_cases hlt : k < nb
    · obtain ⟨vb, wants, told, fs, hPI, hfl⟩ := HJ.out
      obtain ⟨X, hX⟩ : ∃ X, bs[k]? = some X := ⟨_, List.getElem?_eq_getElem (by rw [HPJ.out.1.len]; exact hlt)⟩
      have hXm : X ∈ bs := List.mem_of_getElem? hX
      obtain ⟨go, oo, co', cur, eo, hgo, -⟩ := HPJ.out.1.row.more (by omega)
      injection eo with eo1 eo2 eo3
      subst eo1
      clear eo2 eo3
      have hrowr := HPJ.out.1.row.fr hPI.fr fun b hb e => by subst e; exact HPJ.out.1.row.ne_type HPJ.out.2 (by decide) hb
      have hcl : wr.cell? ⟨go, oo + k, none⟩ = some X.1 := hrowr.cell rfl (by rw [List.getElem?_map, hX]; rfl)
      have hpc := (HPJ.out.1.each X hXm).fr HPJ.out.1.fr id
      have htk : ((bs.take (k + 1)).map (·.2)).flatten = ((bs.take k).map (·.2)).flatten ++ X.2 := by
        rw [List.take_add_one, hX]; simp
      have hln : ((bs.take k).map (·.2)).flatten.length + X.2.length ≤ n := by
        have e1 := HPJ.out.1.eq
        rw [List.append_nil] at e1
        have e2 : ((bs.take (k + 1)).map (·.2)).flatten ++ ((bs.drop (k + 1)).map (·.2)).flatten = l := by rw [← List.flatten_append, ← List.map_append, List.take_append_drop]; exact e1
        have e3 := congrArg List.length e2
        rw [htk, List.length_append, List.length_append, HS.out.2] at e3
        omega
      have hB5 : Below w.heap.size w w5 := (H4.out.2.2.2.1.below (Nat.le_refl _) fun b hb q => by omega).trans (HPJ.out.1.fr.below (by omega) fun _ _ q => q)
      have hfeed := hPI.feed (W0 := w) hf (hlk w HM.out.2) hcf hbeg hpc (fun h0 => by
        have hg0 : g < w.heap.size ∨ w.heap.size ≤ g := by omega
        rcases hg0 with q | q
        · omega
        · have hl0 : 0 < l.length := by have := HS.out.2; omega
          have := HS.out.1.lt hl0
          omega) (by omega) hB5 (by omega)
      obtain ⟨xa, xo, xc, hxv, -⟩ := hpc
      have HPI : Hid (PI f w5 wr (w2.heap.size + 1) lk ((bs.take k).map (·.2)).flatten (.slice ap np cp) vb wants told fs) := hPI
      have HX : Hid (((bs.take (k + 1)).map (·.2)).flatten = ((bs.take k).map (·.2)).flatten ++ X.2 ∧ ((bs.take k).map (·.2)).flatten.length + X.2.length ≤ n) := ⟨htk, hln⟩
      rw [hxv] at hfeed hcl
      generalize X.2.length = xl at hfeed hcl
      have HFD : Hid _ := hfeed
      clear hfeed hPI htk hln hX hXm hrowr hB5 hxv HJ
      have hlt' : (k : Int) < (nb : Int) := by omega
      have hkn : ¬ (nb : Int) ≤ (k : Int) := by omega
      have hkw : IntKind.i64.wrap ((k : Int) + 1) = (k : Int) + 1 := by rw [IntKind.wrap_i64]; omega
      go_upto_region 12 with fail
      rename_i Kc hKc
      refine wp_region_lit ?_
      refine wpList_runTo rfl (some 57) rfl (.pointer (some ⟨w2.heap.size + 1, 0, none⟩)) wr (by kernel_rfl) ?_
      simp only [Act.put, List.setIfInBounds_toArray, List.set_cons_zero, List.set_cons_succ]
      refine wpList_runTo rfl (some 58) rfl (.slice (some ⟨go, oo, none⟩) nb co) wr (by kernel_rfl) ?_
      simp only [Act.put, List.setIfInBounds_toArray, List.set_cons_zero, List.set_cons_succ]
      refine wpList_runTo rfl (some 59) rfl (.int .i64 (k : Int)) wr (by kernel_rfl) ?_
      simp only [Act.put, List.setIfInBounds_toArray, List.set_cons_zero, List.set_cons_succ]
      refine wpList_runTo rfl (some 60) rfl (.pointer (some ⟨go, oo + k, none⟩)) wr (by go_simp) ?_
      simp only [Act.put, List.setIfInBounds_toArray, List.set_cons_zero, List.set_cons_succ]
      refine wpList_runTo rfl (some 61) rfl (.slice xa xl xc) wr (by go_simp) ?_
      simp only [Act.put, List.setIfInBounds_toArray, List.set_cons_zero, List.set_cons_succ]
      refine wpList_callF rfl (some 62) rfl 10 #[.pointer (some ⟨w2.heap.size + 1, 0, none⟩), .slice xa xl xc] (by kernel_rfl) HFD.out ?_
      rintro e w6 ⟨v, rfl, hE⟩
      refine ⟨_, rfl, ?_⟩
      simp only [Act.put, List.setIfInBounds_toArray, List.set_cons_zero, List.set_cons_succ]
      clear HFD
      obtain ⟨v2, w7, vb', wants', told', fs', hrun, hPI7⟩ := HPI.out.app hf (by have := HX.out.2; omega) hE
      clear hE
      obtain ⟨a7, c7, hv7, -⟩ := hPI7.found.row.form
      obtain ⟨n7, hn7⟩ : ∃ n7, fs'.length = n7 := ⟨_, rfl⟩
      rw [hn7] at hv7
      subst hv7
      rw [← HX.out.1] at hPI7
      have H7 : Hid (∃ vb wants told fs, PI f w5 w7 (w2.heap.size + 1) lk ((bs.take (k + 1)).map (·.2)).flatten (.slice a7 n7 c7) vb wants told fs ∧ fs.length = n7) := ⟨_, _, _, _, hPI7, hn7⟩
      have HR : Hid _ := hrun
      clear hPI7 hrun hn7
      refine wpList_runTo rfl (some 16) rfl (v) w6 (by kernel_rfl) ?_
      simp only [Act.put, List.setIfInBounds_toArray, List.set_cons_zero, List.set_cons_succ]
      refine wpList_nil ?_
      refine hKc _ _ ?_
      clear hKc
      go_upto_region 13 with fail
      rename_i Kc hKc
      refine wp_region_lit ?_
      refine wpList_runTo rfl (some 63) rfl (.slice ap np cp) w6 (by kernel_rfl) ?_
      simp only [Act.put, List.setIfInBounds_toArray, List.set_cons_zero, List.set_cons_succ]
      refine wpList_runTo rfl (some 64) rfl (v) w6 (by kernel_rfl) ?_
      simp only [Act.put, List.setIfInBounds_toArray, List.set_cons_zero, List.set_cons_succ]
      refine wpList_runTo rfl (some 65) rfl (.slice a7 n7 c7) w7 (exec_append (.tmp 63) (.tmp 64) 30 rfl (by kernel_rfl) (by kernel_rfl) HR.out) ?_
      simp only [Act.put, List.setIfInBounds_toArray, List.set_cons_zero, List.set_cons_succ]
      refine wpList_runTo rfl (some 13) rfl (.slice a7 n7 c7) w7 (by kernel_rfl) ?_
      simp only [Act.put, List.setIfInBounds_toArray, List.set_cons_zero, List.set_cons_succ]
      refine wpList_nil ?_
      refine hKc _ _ ?_
      clear hKc HR
      go_wp2
      go_roundw
      case rel => exact ⟨k + 1, n7, c7, a7, by omega, by go_num, rfl, H7.out⟩
      case measure => simp [intOf]; omega
    · obtain ⟨vb, wants, told, fs, hPI, hfl⟩ := HJ.out
      obtain rfl : k = nb := by omega
      have hall : ((bs.take k).map (·.2)).flatten = l := by
        rw [List.take_of_length_le (by rw [HPJ.out.1.len]; exact Nat.le_refl _)]
        have := HPJ.out.1.eq
        rwa [List.append_nil] at this
      rw [hall] at hPI
      have hWH := (H4.out.1.fr (p2 := w2.heap.size + 1) (HPJ.out.1.fr.trans (Fr.refl w5 (fun _ => False)) fun _ _ q => (q.elim id id : False).elim) H4.out.2.2.1 (by omega)).fr hPI.fr HPJ.out.2 (by omega)
      obtain rfl : np = nv := by
        have e1 := congrArg List.length hPI.eq
        have e2 := congrArg List.length hWH.eq
        simp [fsOf] at e1 e2
        have := H4.out.2.1
        omega
      have hrl := hWH.rlt
      obtain ⟨vba, vbc, hvb, -⟩ := hPI.row.form
      subst hvb
      have hbl := hPI.blk
      have hbw := hWH.blk
      have HWH : Hid (WH f w3 wr w2.heap.size lk l (.slice av np cv) a1 c1 wants1 told1 fs1 ∧ fs1.length = np ∧ fs.length = np) := ⟨hWH, H4.out.2.1, hfl⟩
      have HPI : Hid _ := hPI
      obtain ⟨O, hO⟩ : ∃ O, walkL f l 0 = O := ⟨_, rfl⟩
      have HO : Hid (walkL f l 0 = O) := hO
      rw [hO] at hrl hbl hbw
      obtain ⟨jk, hjk⟩ : ∃ jk, O.k = jk := ⟨_, rfl⟩
      obtain ⟨rl, hrl'⟩ : ∃ rl, O.r.length = rl := ⟨_, rfl⟩
      rw [hjk, hrl'] at hbl hbw
      rw [hrl'] at hrl
      have HN : Hid (O.k = jk ∧ O.r.length = rl) := ⟨hjk, hrl'⟩
      have HE : Hid (FmB wr w2.heap.size (.func (.func lk) #[] #[]) (.slice a1 rl c1) wants1 jk told1 ∧ FmB wr (w2.heap.size + 1) (.func (.func lk) #[] #[]) (.slice vba rl vbc) wants jk told) := ⟨hbw, hbl⟩
      have hjn : jk + rl ≤ n := by
        have := walk_all hf _ l 0 (Nat.le_refl _)
        rw [hO, hjk, hrl', HS.out.2] at this
        omega
      clear hbl hbw hPI hWH hO hjk hrl' hfl hall HJ
      have hjw : IntKind.i64.wrap ((jk : Int) + (rl : Int)) = (jk : Int) + (rl : Int) := by rw [IntKind.wrap_i64]; omega
      have hge : ¬ (k : Int) < (k : Int) := by omega
      go_upto_region 14 with fail
      rename_i Kc hKc
      refine wp_region_lit ?_
      refine wpList_runToG (by kernel_rfl) (some 66) rfl (.slice av np cv) wr (by kernel_rfl) ?_
      simp only [Act.put, List.setIfInBounds_toArray, List.set_cons_zero, List.set_cons_succ]
      refine wpList_runToG (by kernel_rfl) (some 67) rfl (.int .i64 (np : Int)) wr (by kernel_rfl) ?_
      simp only [Act.put, List.setIfInBounds_toArray, List.set_cons_zero, List.set_cons_succ]
      refine wpList_runToG (by kernel_rfl) (some 68) rfl (.slice ap np cp) wr (by kernel_rfl) ?_
      simp only [Act.put, List.setIfInBounds_toArray, List.set_cons_zero, List.set_cons_succ]
      refine wpList_runToG (by kernel_rfl) (some 69) rfl (.int .i64 (np : Int)) wr (by kernel_rfl) ?_
      simp only [Act.put, List.setIfInBounds_toArray, List.set_cons_zero, List.set_cons_succ]
      refine wpList_runToG (by kernel_rfl) (some 70) rfl (.bool false) wr (by go_simp) ?_
      simp only [Act.put, List.setIfInBounds_toArray, List.set_cons_zero, List.set_cons_succ]
      refine wpList_runToG (by kernel_rfl) (some 71) rfl (.bool false) wr (by kernel_rfl) ?_
      simp only [Act.put, List.setIfInBounds_toArray, List.set_cons_zero, List.set_cons_succ]
      refine wpList_runToG (by kernel_rfl) (some 72) rfl (.pointer (some ⟨w2.heap.size, 0, none⟩)) wr (by kernel_rfl) ?_
      simp only [Act.put, List.setIfInBounds_toArray, List.set_cons_zero, List.set_cons_succ]
      refine wpList_callG (by kernel_rfl) (some 73) rfl 12 #[.pointer (some ⟨w2.heap.size, 0, none⟩)] (by kernel_rfl) (Junk_any HE.out.1) ?_
      rintro e w9 ⟨rfl, hw9⟩
      rw [hw9]
      clear hw9
      refine ⟨_, rfl, ?_⟩
      simp only [Act.put, List.setIfInBounds_toArray, List.set_cons_zero, List.set_cons_succ]
      refine wpList_runToG (by kernel_rfl) (some 74) rfl (.pointer (some ⟨w2.heap.size + 1, 0, none⟩)) wr (by kernel_rfl) ?_
      simp only [Act.put, List.setIfInBounds_toArray, List.set_cons_zero, List.set_cons_succ]
      refine wpList_callG (by kernel_rfl) (some 75) rfl 12 #[.pointer (some ⟨w2.heap.size + 1, 0, none⟩)] (by kernel_rfl) (Junk_any HE.out.2) ?_
      rintro e w9 ⟨rfl, hw9⟩
      rw [hw9]
      clear hw9
      refine ⟨_, rfl, ?_⟩
      simp only [Act.put, List.setIfInBounds_toArray, List.set_cons_zero, List.set_cons_succ]
      refine wpList_runToG (by kernel_rfl) (some 76) rfl (.bool false) wr (by go_simp) ?_
      simp only [Act.put, List.setIfInBounds_toArray, List.set_cons_zero, List.set_cons_succ]
      refine wpList_runToG (by kernel_rfl) (some 77) rfl (.bool false) wr (by kernel_rfl) ?_
      simp only [Act.put, List.setIfInBounds_toArray, List.set_cons_zero, List.set_cons_succ]
      refine wpList_runToG (by kernel_rfl) (some 78) rfl (.bool false) wr (by kernel_rfl) ?_
      simp only [Act.put, List.setIfInBounds_toArray, List.set_cons_zero, List.set_cons_succ]
      refine wpList_runToG (by kernel_rfl) (some 79) rfl (.pointer (some ⟨w2.heap.size, 0, none⟩)) wr (by kernel_rfl) ?_
      simp only [Act.put, List.setIfInBounds_toArray, List.set_cons_zero, List.set_cons_succ]
      refine wpList_callG (by kernel_rfl) (some 80) rfl 13 #[.pointer (some ⟨w2.heap.size, 0, none⟩)] (by kernel_rfl) (Waits_any HE.out.1) ?_
      rintro e w9 ⟨rfl, hw9⟩
      rw [hw9]
      clear hw9
      refine ⟨_, rfl, ?_⟩
      simp only [Act.put, List.setIfInBounds_toArray, List.set_cons_zero, List.set_cons_succ]
      refine wpList_runToG (by kernel_rfl) (some 81) rfl (.pointer (some ⟨w2.heap.size + 1, 0, none⟩)) wr (by kernel_rfl) ?_
      simp only [Act.put, List.setIfInBounds_toArray, List.set_cons_zero, List.set_cons_succ]
      refine wpList_callG (by kernel_rfl) (some 82) rfl 13 #[.pointer (some ⟨w2.heap.size + 1, 0, none⟩)] (by kernel_rfl) (Waits_any HE.out.2) ?_
      rintro e w9 ⟨rfl, hw9⟩
      rw [hw9]
      clear hw9
      refine ⟨_, rfl, ?_⟩
      simp only [Act.put, List.setIfInBounds_toArray, List.set_cons_zero, List.set_cons_succ]
      refine wpList_runToG (by kernel_rfl) (some 83) rfl (.bool false) wr (by go_simp) ?_
      simp only [Act.put, List.setIfInBounds_toArray, List.set_cons_zero, List.set_cons_succ]
      refine wpList_runToG (by kernel_rfl) (some 84) rfl (.bool false) wr (by kernel_rfl) ?_
      simp only [Act.put, List.setIfInBounds_toArray, List.set_cons_zero, List.set_cons_succ]
      refine wpList_runToG (by kernel_rfl) (some 85) rfl (.bool false) wr (by kernel_rfl) ?_
      simp only [Act.put, List.setIfInBounds_toArray, List.set_cons_zero, List.set_cons_succ]
      refine wpList_runToG (by kernel_rfl) (some 86) rfl (.pointer (some ⟨w2.heap.size, 0, none⟩)) wr (by kernel_rfl) ?_
      simp only [Act.put, List.setIfInBounds_toArray, List.set_cons_zero, List.set_cons_succ]
      refine wpList_callG (by kernel_rfl) (some 87) rfl 13 #[.pointer (some ⟨w2.heap.size, 0, none⟩)] (by kernel_rfl) (Waits_any HE.out.1) ?_
      rintro e w9 ⟨rfl, hw9⟩
      rw [hw9]
      clear hw9
      refine ⟨_, rfl, ?_⟩
      simp only [Act.put, List.setIfInBounds_toArray, List.set_cons_zero, List.set_cons_succ]
      refine wpList_runToG (by kernel_rfl) (some 88) rfl (.bool false) wr (by go_simp; omega) ?_
      simp only [Act.put, List.setIfInBounds_toArray, List.set_cons_zero, List.set_cons_succ]
      refine wpList_runToG (by kernel_rfl) (some 89) rfl (.bool false) wr (by kernel_rfl) ?_
      simp only [Act.put, List.setIfInBounds_toArray, List.set_cons_zero, List.set_cons_succ]
      refine wpList_nil ?_
      refine hKc _ _ ?_
      clear hKc
      go_upto_region 16 with fail
      rename_i Kc hKc
      refine wp_region_lit ?_
      refine wpList_runToG (by kernel_rfl) (some 90) rfl (.pointer (some ⟨w2.heap.size, 0, none⟩)) wr (by kernel_rfl) ?_
      simp only [Act.put, List.setIfInBounds_toArray, List.set_cons_zero, List.set_cons_succ]
      refine wpList_callG (by kernel_rfl) (some 91) rfl 12 #[.pointer (some ⟨w2.heap.size, 0, none⟩)] (by kernel_rfl) (Junk_any HE.out.1) ?_
      rintro e w9 ⟨rfl, hw9⟩
      rw [hw9]
      clear hw9
      refine ⟨_, rfl, ?_⟩
      simp only [Act.put, List.setIfInBounds_toArray, List.set_cons_zero, List.set_cons_succ]
      refine wpList_runToG (by kernel_rfl) (some 92) rfl (.pointer (some ⟨w2.heap.size, 0, none⟩)) wr (by kernel_rfl) ?_
      simp only [Act.put, List.setIfInBounds_toArray, List.set_cons_zero, List.set_cons_succ]
      refine wpList_callG (by kernel_rfl) (some 93) rfl 13 #[.pointer (some ⟨w2.heap.size, 0, none⟩)] (by kernel_rfl) (Waits_any HE.out.1) ?_
      rintro e w9 ⟨rfl, hw9⟩
      rw [hw9]
      clear hw9
      refine ⟨_, rfl, ?_⟩
      simp only [Act.put, List.setIfInBounds_toArray, List.set_cons_zero, List.set_cons_succ]
      refine wpList_runToG (by kernel_rfl) (some 94) rfl (.int .i64 ((jk : Int) + (rl : Int))) wr (by go_simp) ?_
      simp only [Act.put, List.setIfInBounds_toArray, List.set_cons_zero, List.set_cons_succ]
      refine wpList_runToG (by kernel_rfl) (some 17) rfl (.int .i64 ((jk : Int) + (rl : Int))) wr (by kernel_rfl) ?_
      simp only [Act.put, List.setIfInBounds_toArray, List.set_cons_zero, List.set_cons_succ]
      refine wpList_nil ?_
      refine hKc _ _ ?_
      clear hKc
      go_wp2
      have hOk : sumF (fsOf fs1) + jk + rl = n ∧ sumJ (fsOf fs1) ≤ jk := by
        have e1 := walk_all hf _ l 0 (Nat.le_refl _)
        have e2 := (walk_junk hf _ l 0 (Nat.le_refl _)).1
        have e3 := HN.out
        rw [HWH.out.1.eq]
        rw [HS.out.2] at e1
        rw [HO.out] at e1 e2 ⊢
        omega
      have hnp : np ≤ n := by
        have e1 := walk_count hf _ l 0 (Nat.le_refl _)
        have e2 := congrArg List.length HWH.out.1.eq
        simp only [fsOf, List.length_map] at e2
        have e3 := HWH.out.2.1
        rw [HS.out.2] at e1
        omega
      have HOk : Hid (sumF (fsOf fs1) + jk + rl = n ∧ sumJ (fsOf fs1) ≤ jk) := hOk
      clear hOk
      obtain ⟨wq, rfl⟩ : ∃ wq, wq = wr := ⟨_, rfl⟩
      go_loopw [17, 18, 19] (fun x17 x18 x19 w' => ∃ i A B : Nat, i ≤ np ∧ x19 = .int .i64 (i : Int) ∧ x17 = .int .i64 (A : Int) ∧ x18 = .int .i64 (B : Int) ∧ Hid (A = jk + rl + sumF ((fsOf fs1).take i) ∧ B = sumJ ((fsOf fs1).take i) ∧ Fr wq w' (fun _ => False))) (fun _ _ x19 _ => np - (intOf x19).toNat)
      case atStart => exact ⟨0, jk + rl, 0, Nat.zero_le _, rfl, by go_num, rfl, by simp [sumF], by simp [sumJ], Fr.refl _ _⟩
      case round =>
        obtain ⟨w8, rfl⟩ : ∃ w8, w8 = wr := ⟨_, rfl⟩
        obtain ⟨i, A, B, hi, rfl, rfl, rfl, HAB⟩ := hrel
        by_cases hlt : i < np
        · obtain ⟨x, hx⟩ : ∃ x, fs1[i]? = some x := ⟨_, List.getElem?_eq_getElem (by have := HWH.out.2.1; omega)⟩
          obtain ⟨y, hy⟩ : ∃ y, fs[i]? = some y := ⟨_, List.getElem?_eq_getElem (by have := HWH.out.2.2; omega)⟩
          have hF9 : Fr wq w8.drew (fun _ => False) := HAB.out.2.2.trans (Fr.of_below (Below.drew (Below.refl _ w8)) (fun _ => False)) fun _ _ q => q.elim id id
          have hW9 := HWH.out.1.found.fr0 hF9
          have hP9 := HPI.out.found.fr0 hF9
          obtain ⟨gw, ow, cw', curw, ew, -⟩ := hW9.row.more (by have := HWH.out.2.1; omega)
          injection ew with ew1 ew2 ew3
          subst ew1
          obtain ⟨gp, op, cp', curp, ep, -⟩ := hP9.row.more (by have := HWH.out.2.2; omega)
          injection ep with ep1 ep2 ep3
          subst ep1
          obtain ⟨hc1, hc2⟩ := hW9.at HWH.out.2.1 hx
          obtain ⟨hd1, hd2⟩ := hP9.at HWH.out.2.2 hy
          have hbx := hW9.each x (List.mem_of_getElem? hx)
          have hby := hP9.each y (List.mem_of_getElem? hy)
          have hxy : (x.l, x.j) = (y.l, y.j) := by
            have e1 : (fsOf fs1)[i]? = some (x.l, x.j) := by simp [fsOf, hx]
            have e2 : (fsOf fs)[i]? = some (y.l, y.j) := by simp [fsOf, hy]
            rw [HWH.out.1.eq] at e1
            rw [HPI.out.eq, e1] at e2
            injection e2
          injection hxy with hxy1 hxy2
          obtain ⟨ax, cx, hxv, -⟩ := RowAt.form hbx
          obtain ⟨ay, cy, hyv, -⟩ := RowAt.form hby
          have hst := sum_take (l := fsOf fs1) (i := i) (x := (x.l, x.j)) (by simp [fsOf, hx])
          rw [hxv] at hc1 hbx
          rw [hyv] at hd1 hby
          rw [← hxy1] at hby hd1
          rw [← hxy2] at hd2
          have HST : Hid (sumF ((fsOf fs1).take (i + 1)) = sumF ((fsOf fs1).take i) + x.l.length ∧ sumJ ((fsOf fs1).take (i + 1)) = sumJ ((fsOf fs1).take i) + x.j ∧ sumF ((fsOf fs1).take (i + 1)) ≤ sumF (fsOf fs1) ∧ sumJ ((fsOf fs1).take (i + 1)) ≤ sumJ (fsOf fs1)) := hst
          have hAn : A + x.l.length ≤ n ∧ B + x.j ≤ n := by have := HOk.out; have := HAB.out; have := HST.out; omega
          clear hst hxv hyv hxy1 hxy2 hW9 hP9 hx hy ew2 ew3 ep2 ep3
          generalize x.l = L at *
          generalize x.j = xj at *
          have HLX : Hid _ := HST
          have hbx' : ByAt w8.drew (.slice ax L.length cx) L := hbx
          obtain ⟨lx, hlx⟩ : ∃ lx, L.length = lx := ⟨_, rfl⟩
          rw [hlx] at hc1 hbx hd1 hby hAn HST
          have HLen : Hid (L.length = lx) := hlx
          have HAB' : Hid (A = jk + rl + sumF ((fsOf fs1).take i) ∧ B = sumJ ((fsOf fs1).take i) ∧ Fr wq w8.drew (fun _ => False)) := ⟨HAB.out.1, HAB.out.2.1, hF9⟩
          have hSS : w8.drew.cell? ⟨gw, ow + i * 2, none⟩ = some (.slice ax lx cx) ∧ w8.drew.cell? ⟨gw, ow + i * 2 + 1, none⟩ = some (.int .i64 (xj : Int)) ∧ ByAt w8.drew (.slice ax lx cx) L ∧ w8.drew.cell? ⟨gp, op + i * 2, none⟩ = some (.slice ay lx cy) ∧ w8.drew.cell? ⟨gp, op + i * 2 + 1, none⟩ = some (.int .i64 (xj : Int)) ∧ ByAt w8.drew (.slice ay lx cy) L := ⟨hc1, hc2, hbx, hd1, hd2, hby⟩
          clear hc1 hc2 hbx hd1 hd2 hby hbx' hF9 hlx HAB HLX
          have hlt' : (i : Int) < (np : Int) := by omega
          have hin : ¬ (np : Int) ≤ (i : Int) := by omega
          have hiw : IntKind.i64.wrap ((i : Int) + 1) = (i : Int) + 1 := by rw [IntKind.wrap_i64]; omega
          have hAw : IntKind.i64.wrap ((A : Int) + (lx : Int)) = (A : Int) + (lx : Int) := by rw [IntKind.wrap_i64]; omega
          have hBw : IntKind.i64.wrap ((B : Int) + (xj : Int)) = (B : Int) + (xj : Int) := by rw [IntKind.wrap_i64]; omega
          go_upto_region 21 with fail
          rename_i Kc hKc
          refine wp_region_held (S := fun w' => w'.cell? ⟨gw, ow + i * 2, none⟩ = some (.slice ax lx cx) ∧ w'.cell? ⟨gw, ow + i * 2 + 1, none⟩ = some (.int .i64 (xj : Int)) ∧ ByAt w' (.slice ax lx cx) L ∧ w'.cell? ⟨gp, op + i * 2, none⟩ = some (.slice ay lx cy) ∧ w'.cell? ⟨gp, op + i * 2 + 1, none⟩ = some (.int .i64 (xj : Int)) ∧ ByAt w' (.slice ay lx cy) L) (by kernel_rfl) ?_
          change wpAnyH _ _ _ _ _ _ _ _ (World.drew _)
          generalize w8.drew = w9 at *
          refine takeR (i := 0) (v := .slice (some ⟨gw, ow, none⟩) np cv) (some 101) rfl rfl (by kernel_rfl) (by kernel_rfl) (by kernel_rfl) (fun _ _ _ h => h) (Or.inl ⟨by kernel_rfl, fun w' hSw => by kernel_rfl⟩) hSS ?_
          simp only [Act.put, List.setIfInBounds_toArray, List.set_cons_zero, List.set_cons_succ]
          refine takeR (i := 1) (v := .int .i64 (i : Int)) (some 102) rfl rfl (by kernel_rfl) (by kernel_rfl) (by kernel_rfl) (fun _ _ _ h => h) (Or.inl ⟨by kernel_rfl, fun w' hSw => by kernel_rfl⟩) hSS ?_
          simp only [Act.put, List.setIfInBounds_toArray, List.set_cons_zero, List.set_cons_succ]
          refine takeR (i := 2) (v := .pointer (some ⟨gw, ow + i * 2, none⟩)) (some 103) rfl rfl (by kernel_rfl) (by kernel_rfl) (by kernel_rfl) (fun _ _ _ h => h) (Or.inl ⟨by kernel_rfl, fun w' hSw => by go_simp⟩) hSS ?_
          simp only [Act.put, List.setIfInBounds_toArray, List.set_cons_zero, List.set_cons_succ]
          refine takeR (i := 3) (v := .pointer (some ⟨gw, ow + i * 2, none⟩)) (some 104) rfl rfl (by kernel_rfl) (by kernel_rfl) (by kernel_rfl) (fun _ _ _ h => h) (Or.inl ⟨by kernel_rfl, fun w' hSw => by go_simp⟩) hSS ?_
          simp only [Act.put, List.setIfInBounds_toArray, List.set_cons_zero, List.set_cons_succ]
          refine takeR (i := 4) (v := .slice ax lx cx) (some 105) rfl rfl (by kernel_rfl) (by kernel_rfl) (by kernel_rfl) (fun _ _ _ h => h) (Or.inl ⟨by kernel_rfl, fun w' hSw => by have q0 := hSw.1; go_simp⟩) hSS ?_
          simp only [Act.put, List.setIfInBounds_toArray, List.set_cons_zero, List.set_cons_succ]
          refine takeR (i := 5) (v := .string ⟨L.toArray⟩) (some 106) rfl rfl (by kernel_rfl) (by kernel_rfl) (by kernel_rfl) (fun _ _ _ h => h) (Or.inl ⟨by kernel_rfl, fun w' hSw => by exact exec_convert (v := .slice ax lx cx) (.tmp 105) rfl (by kernel_rfl) (conv_by hSw.2.2.1)⟩) hSS ?_
          simp only [Act.put, List.setIfInBounds_toArray, List.set_cons_zero, List.set_cons_succ]
          refine takeR (i := 6) (v := .slice (some ⟨gp, op, none⟩) np cp) (some 107) rfl rfl (by kernel_rfl) (by kernel_rfl) (by kernel_rfl) (fun _ _ _ h => h) (Or.inl ⟨by kernel_rfl, fun w' hSw => by kernel_rfl⟩) hSS ?_
          simp only [Act.put, List.setIfInBounds_toArray, List.set_cons_zero, List.set_cons_succ]
          refine takeR (i := 7) (v := .int .i64 (i : Int)) (some 108) rfl rfl (by kernel_rfl) (by kernel_rfl) (by kernel_rfl) (fun _ _ _ h => h) (Or.inl ⟨by kernel_rfl, fun w' hSw => by kernel_rfl⟩) hSS ?_
          simp only [Act.put, List.setIfInBounds_toArray, List.set_cons_zero, List.set_cons_succ]
          refine takeR (i := 8) (v := .pointer (some ⟨gp, op + i * 2, none⟩)) (some 109) rfl rfl (by kernel_rfl) (by kernel_rfl) (by kernel_rfl) (fun _ _ _ h => h) (Or.inl ⟨by kernel_rfl, fun w' hSw => by go_simp⟩) hSS ?_
          simp only [Act.put, List.setIfInBounds_toArray, List.set_cons_zero, List.set_cons_succ]
          refine takeR (i := 9) (v := .pointer (some ⟨gp, op + i * 2, none⟩)) (some 110) rfl rfl (by kernel_rfl) (by kernel_rfl) (by kernel_rfl) (fun _ _ _ h => h) (Or.inl ⟨by kernel_rfl, fun w' hSw => by go_simp⟩) hSS ?_
          simp only [Act.put, List.setIfInBounds_toArray, List.set_cons_zero, List.set_cons_succ]
          refine takeR (i := 10) (v := .slice ay lx cy) (some 111) rfl rfl (by kernel_rfl) (by kernel_rfl) (by kernel_rfl) (fun _ _ _ h => h) (Or.inl ⟨by kernel_rfl, fun w' hSw => by have q0 := hSw.2.2.2.1; go_simp⟩) hSS ?_
          simp only [Act.put, List.setIfInBounds_toArray, List.set_cons_zero, List.set_cons_succ]
          refine takeR (i := 11) (v := .string ⟨L.toArray⟩) (some 112) rfl rfl (by kernel_rfl) (by kernel_rfl) (by kernel_rfl) (fun _ _ _ h => h) (Or.inl ⟨by kernel_rfl, fun w' hSw => by exact exec_convert (v := .slice ay lx cy) (.tmp 111) rfl (by kernel_rfl) (conv_by hSw.2.2.2.2.2)⟩) hSS ?_
          simp only [Act.put, List.setIfInBounds_toArray, List.set_cons_zero, List.set_cons_succ]
          refine takeR (i := 12) (v := .bool false) (some 113) rfl rfl (by kernel_rfl) (by kernel_rfl) (by kernel_rfl) (fun _ _ _ h => h) (Or.inl ⟨by kernel_rfl, fun w' hSw => by clear hSw; go_simp⟩) hSS ?_
          simp only [Act.put, List.setIfInBounds_toArray, List.set_cons_zero, List.set_cons_succ]
          refine takeR (i := 13) (v := .bool false) (some 114) rfl rfl (by kernel_rfl) (by kernel_rfl) (by kernel_rfl) (fun _ _ _ h => h) (Or.inl ⟨by kernel_rfl, fun w' hSw => by kernel_rfl⟩) hSS ?_
          simp only [Act.put, List.setIfInBounds_toArray, List.set_cons_zero, List.set_cons_succ]
          refine takeR (i := 14) (v := .slice (some ⟨gw, ow, none⟩) np cv) (some 115) rfl rfl (by kernel_rfl) (by kernel_rfl) (by kernel_rfl) (fun _ _ _ h => h) (Or.inl ⟨by kernel_rfl, fun w' hSw => by kernel_rfl⟩) hSS ?_
          simp only [Act.put, List.setIfInBounds_toArray, List.set_cons_zero, List.set_cons_succ]
          refine takeR (i := 15) (v := .int .i64 (i : Int)) (some 116) rfl rfl (by kernel_rfl) (by kernel_rfl) (by kernel_rfl) (fun _ _ _ h => h) (Or.inl ⟨by kernel_rfl, fun w' hSw => by kernel_rfl⟩) hSS ?_
          simp only [Act.put, List.setIfInBounds_toArray, List.set_cons_zero, List.set_cons_succ]
          refine takeR (i := 16) (v := .pointer (some ⟨gw, ow + i * 2, none⟩)) (some 117) rfl rfl (by kernel_rfl) (by kernel_rfl) (by kernel_rfl) (fun _ _ _ h => h) (Or.inl ⟨by kernel_rfl, fun w' hSw => by go_simp⟩) hSS ?_
          simp only [Act.put, List.setIfInBounds_toArray, List.set_cons_zero, List.set_cons_succ]
          refine takeR (i := 17) (v := .pointer (some ⟨gw, ow + i * 2 + 1, none⟩)) (some 118) rfl rfl (by kernel_rfl) (by kernel_rfl) (by kernel_rfl) (fun _ _ _ h => h) (Or.inl ⟨by kernel_rfl, fun w' hSw => by go_simp⟩) hSS ?_
          simp only [Act.put, List.setIfInBounds_toArray, List.set_cons_zero, List.set_cons_succ]
          refine takeR (i := 18) (v := .int .i64 (xj : Int)) (some 119) rfl rfl (by kernel_rfl) (by kernel_rfl) (by kernel_rfl) (fun _ _ _ h => h) (Or.inl ⟨by kernel_rfl, fun w' hSw => by have q0 := hSw.2.1; go_simp⟩) hSS ?_
          simp only [Act.put, List.setIfInBounds_toArray, List.set_cons_zero, List.set_cons_succ]
          refine takeR (i := 19) (v := .slice (some ⟨gp, op, none⟩) np cp) (some 120) rfl rfl (by kernel_rfl) (by kernel_rfl) (by kernel_rfl) (fun _ _ _ h => h) (Or.inl ⟨by kernel_rfl, fun w' hSw => by kernel_rfl⟩) hSS ?_
          simp only [Act.put, List.setIfInBounds_toArray, List.set_cons_zero, List.set_cons_succ]
          refine takeR (i := 20) (v := .int .i64 (i : Int)) (some 121) rfl rfl (by kernel_rfl) (by kernel_rfl) (by kernel_rfl) (fun _ _ _ h => h) (Or.inl ⟨by kernel_rfl, fun w' hSw => by kernel_rfl⟩) hSS ?_
          simp only [Act.put, List.setIfInBounds_toArray, List.set_cons_zero, List.set_cons_succ]
          refine takeR (i := 21) (v := .pointer (some ⟨gp, op + i * 2, none⟩)) (some 122) rfl rfl (by kernel_rfl) (by kernel_rfl) (by kernel_rfl) (fun _ _ _ h => h) (Or.inl ⟨by kernel_rfl, fun w' hSw => by go_simp⟩) hSS ?_
          simp only [Act.put, List.setIfInBounds_toArray, List.set_cons_zero, List.set_cons_succ]
          refine takeR (i := 22) (v := .pointer (some ⟨gp, op + i * 2 + 1, none⟩)) (some 123) rfl rfl (by kernel_rfl) (by kernel_rfl) (by kernel_rfl) (fun _ _ _ h => h) (Or.inl ⟨by kernel_rfl, fun w' hSw => by go_simp⟩) hSS ?_
          simp only [Act.put, List.setIfInBounds_toArray, List.set_cons_zero, List.set_cons_succ]
          refine takeR (i := 23) (v := .int .i64 (xj : Int)) (some 124) rfl rfl (by kernel_rfl) (by kernel_rfl) (by kernel_rfl) (fun _ _ _ h => h) (Or.inl ⟨by kernel_rfl, fun w' hSw => by have q0 := hSw.2.2.2.2.1; go_simp⟩) hSS ?_
          simp only [Act.put, List.setIfInBounds_toArray, List.set_cons_zero, List.set_cons_succ]
          refine takeR (i := 24) (v := .bool false) (some 125) rfl rfl (by kernel_rfl) (by kernel_rfl) (by kernel_rfl) (fun _ _ _ h => h) (Or.inl ⟨by kernel_rfl, fun w' hSw => by clear hSw; go_simp⟩) hSS ?_
          simp only [Act.put, List.setIfInBounds_toArray, List.set_cons_zero, List.set_cons_succ]
          refine takeR (i := 25) (v := .bool false) (some 126) rfl rfl (by kernel_rfl) (by kernel_rfl) (by kernel_rfl) (fun _ _ _ h => h) (Or.inl ⟨by kernel_rfl, fun w' hSw => by kernel_rfl⟩) hSS ?_
          simp only [Act.put, List.setIfInBounds_toArray, List.set_cons_zero, List.set_cons_succ]
          refine wpAnyH_done (by kernel_rfl) ?_ _
          refine hKc _ _ ?_
          clear hKc
          obtain ⟨hc1, hc2, -, -, -, -⟩ := hSS
          go_wp2
          go_roundw
          case rel => exact ⟨i + 1, A + lx, B + xj, by omega, by go_num, by go_num, by go_num, by have := HST.out; have := HAB'.out; omega, by have := HST.out; have := HAB'.out; omega, HAB'.out.2.2⟩
          case measure => simp [intOf]; omega
        · obtain rfl : i = np := by omega
          have hfin : A = n ∧ B ≤ jk := by
            have h1 := HOk.out
            have h2 := HAB.out
            have h3 : (fsOf fs1).take i = fsOf fs1 := List.take_of_length_le (by have := HWH.out.2.1; simp [fsOf]; omega)
            rw [h3] at h2
            omega
          obtain ⟨rfl, hBj⟩ := hfin
          have hm8 := HE.out.1.fr HAB.out.2.2 id
          have HM8 : Hid _ := hm8
          clear hm8
          have hBj' : (B : Int) ≤ (jk : Int) := by omega
          have hBelow : Below w.heap.size w w8 := ((H4.out.2.2.2.1.below (Nat.le_refl _) fun b hb q => by omega).trans (HPJ.out.1.fr.below (by omega) fun _ _ q => q)).trans ((HPI.out.fr.below (by omega) fun b hb q => by omega).trans (HAB.out.2.2.below (by have := HPI.out.fr.size; omega) fun _ _ q => q))
          have HBL : Hid _ := hBelow
          clear hBelow
          have hge2 : ¬ (i : Int) < (i : Int) := by omega
          go_upto_region 25 with fail
          rename_i Kc hKc
          refine wp_region_lit ?_
          refine wpList_runToG (by kernel_rfl) (some 142) rfl (.int .i64 (A : Int)) w8 (by kernel_rfl) ?_
          simp only [Act.put, List.setIfInBounds_toArray, List.set_cons_zero, List.set_cons_succ]
          refine wpList_runToG (by kernel_rfl) (some 143) rfl (.slice a A c) w8 (by kernel_rfl) ?_
          simp only [Act.put, List.setIfInBounds_toArray, List.set_cons_zero, List.set_cons_succ]
          refine wpList_runToG (by kernel_rfl) (some 144) rfl (.int .i64 (A : Int)) w8 (by kernel_rfl) ?_
          simp only [Act.put, List.setIfInBounds_toArray, List.set_cons_zero, List.set_cons_succ]
          refine wpList_runToG (by kernel_rfl) (some 145) rfl (.bool true) w8 (by go_simp) ?_
          simp only [Act.put, List.setIfInBounds_toArray, List.set_cons_zero, List.set_cons_succ]
          refine wpList_runToG (by kernel_rfl) (some 146) rfl (.bool true) w8 (by kernel_rfl) ?_
          simp only [Act.put, List.setIfInBounds_toArray, List.set_cons_zero, List.set_cons_succ]
          refine wpList_runToG (by kernel_rfl) (some 147) rfl (.int .i64 (B : Int)) w8 (by kernel_rfl) ?_
          simp only [Act.put, List.setIfInBounds_toArray, List.set_cons_zero, List.set_cons_succ]
          refine wpList_runToG (by kernel_rfl) (some 148) rfl (.pointer (some ⟨w2.heap.size, 0, none⟩)) w8 (by kernel_rfl) ?_
          simp only [Act.put, List.setIfInBounds_toArray, List.set_cons_zero, List.set_cons_succ]
          refine wpList_callG (by kernel_rfl) (some 149) rfl 12 #[.pointer (some ⟨w2.heap.size, 0, none⟩)] (by kernel_rfl) (Junk_any HM8.out) ?_
          rintro e w9 ⟨rfl, hw9⟩
          rw [hw9]
          clear hw9
          refine ⟨_, rfl, ?_⟩
          simp only [Act.put, List.setIfInBounds_toArray, List.set_cons_zero, List.set_cons_succ]
          refine wpList_runToG (by kernel_rfl) (some 150) rfl (.bool true) w8 (by go_simp) ?_
          simp only [Act.put, List.setIfInBounds_toArray, List.set_cons_zero, List.set_cons_succ]
          refine wpList_runToG (by kernel_rfl) (some 151) rfl (.bool true) w8 (by kernel_rfl) ?_
          simp only [Act.put, List.setIfInBounds_toArray, List.set_cons_zero, List.set_cons_succ]
          refine wpList_runToG (by kernel_rfl) (some 6) rfl (.bool true) w8 (by kernel_rfl) ?_
          simp only [Act.put, List.setIfInBounds_toArray, List.set_cons_zero, List.set_cons_succ]
          refine wpList_nil ?_
          refine hKc _ _ ?_
          clear hKc
          go_wp2
          go_ret
          exact ⟨rfl, HBL.out⟩
end Go.Proofs.YtkpoheknmcepnaaGreatDoor

namespace Go.Proofs.YtkpoheknmcepnaaGreatDoor
set_option linter.unusedVariables false
open Go.RowKit Go.Great Go.Shelf

theorem FramerPieces_law {kind : Int} (hk0 : -9223372036854775808 ≤ kind) (hk1 : kind ≤ 9223372036854775807) {w : World} (hM : Mon w) (hP : Pow w) {g n c nc cc : Nat} {a ac : Option Addr} {l : List UInt8} (hs : PcAt g w (.slice a n c) l) (hn : l.length = n) (hn1 : n ≤ 2000000) (hnc : nc ≤ 2000000)
    (hcuts : ∀ k, k < nc → ∃ z : Int, -9223372036854775808 ≤ z ∧ z ≤ 9223372036854775807 ∧ ∃ gc oc, ac = some ⟨gc, oc, none⟩ ∧ w.cell? ⟨gc, oc + k, none⟩ = some (.int .i64 z)) :
    Calls Tryz.prog 3 #[.int .i64 kind, .slice a n c, .slice ac nc cc] w fun e w' => e = .returned (.bool true) ∧ Below w.heap.size w w' := by
  have h2 := pickN_lt kind (n := 2) (by decide)
  by_cases h0 : pickN kind 2 = 0
  · exact FramerPieces_for textS_steady (fun W0 hp => lookText_any W0 hp) enter_text textS_le h0 hk0 hk1 (z1 := 1) (by decide) New_text hM hP hs hn hn1 hnc hcuts
  · exact FramerPieces_for binS_steady (fun W0 _ => lookBinary_any W0) enter_bin binS_le (pk := 1) (by omega) hk0 hk1 (z1 := 2) (by decide) New_bin hM hP hs hn hn1 hnc hcuts
end Go.Proofs.YtkpoheknmcepnaaGreatDoor
