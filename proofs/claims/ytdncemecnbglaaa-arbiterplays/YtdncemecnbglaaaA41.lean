/-
  step: Wants twice; what a step leaves.
-/
import Derived.Test.YtdncemecnbglaaaA40
namespace Go.Proofs.Ytdncemecnbglaaa
set_option linter.unusedVariables false
set_option linter.unusedSimpArgs false
open Go.RowKit Go.Great Go.Maps

theorem StepR.below {s N : Nat} {G : Gh} {w W W' : World} {P : PR} (h : StepR s G w P N W) (hb : Below W.heap.size W W') : StepR s G w P N W' := by
  obtain ⟨G', P', a, b, c, d⟩ := h
  exact ⟨G', P', a.below hb, b, c.trans0 (Stp.below a.gi hb), d⟩
theorem StepR.mono {s N M : Nat} {G : Gh} {w W : World} {P : PR} (h : StepR s G w P N W) (hM : N ≤ M) : StepR s G w P M W := by
  obtain ⟨G', P', a, b, c, d⟩ := h
  exact ⟨G', P', a.mono hM, b, c, d⟩
theorem StepR.from {s N : Nat} {G : Gh} {w w1 W : World} {P : PR} (hb : Below w.heap.size w w1) (gi : Gi G w) (hx : ∀ q cur T, P.own q → w.heap[q]? = some (.cells cur T (0, 0)) → ¬ hotT T) (h : StepR s G w1 P N W) : StepR s G w P N W := by
  obtain ⟨G', P', a, b, c, d⟩ := h
  exact ⟨G', P', a, b, ((Stp.below (s := 1000 + s) gi hb).mono (fun _ _ e => e.elim) hx).trans c fun _ _ e => e, fun q hq => (d q hq).imp id fun e => Nat.le_trans hb.size e⟩
/-- The pair behind wants. -/
theorem PrAt.rv {s t N M : Nat} {G G' : Gh} {W W' : World} {P : PR} {c : PC} {rs : List (Value × Nat)} (h : PrAt s G W P N) (ht : t = 2000 + s ∨ t = 3000 + s) (hs : s < 400) (k : RV t G W P.p P.c G' W' c rs) (hlen : rs.length = P.rs.length + 4) (hM : N ≤ M) (hb : P.rs.length + 4 ≤ 8 * M) : StepR s G W P M W' ∧ PrAt s G' W' { P with c := c, rs := rs } M ∧ Stp (1000 + s) P.own G W G' W' ∧ ∀ q, ({ P with c := c, rs := rs } : PR).own q → P.own q ∨ W.heap.size ≤ q := by
  have hc : ∀ q, (G q).1 = 0 ∨ G q = (1, 2 * s) ∨ G q = (1, 2 * s + 1) → q < W.heap.size → G' q = G q := fun q hq hl => by
    rcases k.st.col q hl with e | ⟨e1, e2⟩
    · exact e
    · exfalso
      rcases hq with hq | hq | hq
      · omega
      · rw [hq] at e2; simp at e2; omega
      · rw [hq] at e2; simp at e2; omega
  have hz : ∀ q m, G q = (1, 2 * s) ∨ G q = (1, 2 * s + 1) ∨ (G q).1 = 0 → q < W.heap.size → G' q ≠ (2, m) := fun q m hq hl e => by
    rcases hq with hq | hq | hq
    · rw [hc q (.inr (.inl hq)) hl, hq] at e; simp at e
    · rw [hc q (.inr (.inr hq)) hl, hq] at e; simp at e
    · rw [hc q (.inl hq) hl] at e; rw [e] at hq; simp at hq
  have hxT : ∀ q, rx P.p P.c q → ∀ {cur : Array Value} {T : TypeId}, W.heap[q]? = some (.cells cur T (0, 0)) → T = 54 ∨ T = 59 := fun q hq cur T hc2 => by
    rcases hq with rfl | hq
    · have := h.blk
      unfold Blk at this
      rw [this] at hc2
      injection hc2 with hc2
      injection hc2 with _ hc2 _
      exact .inl hc2.symm
    · obtain ⟨_, c2, h2⟩ := h.rs.row.lt hq
      rw [hc2] at h2
      injection h2 with h2
      injection h2 with _ h2 _
      exact .inr h2
  have rn : ∀ {e : TypeId} {size n : Nat} {v : Value} {xs : List Value}, RowAt W e size v n xs → e ≠ 54 → e ≠ 59 → ∀ q, v.ownBlock = some q → ¬ rx P.p P.c q := fun r h1 h2 q hq e => by
    obtain ⟨_, cur, hc2⟩ := r.lt hq
    rcases hxT q e hc2 with e | e
    · exact h1 e
    · exact h2 e
  have hbn : ¬ rx P.p P.c P.b := fun e => by
    obtain ⟨es, c2, hm⟩ := h.ab.map.is
    rcases e with e | e
    · have h1 := h.blk
      unfold Blk at h1
      rw [← e, hm] at h1
      cases h1
    · obtain ⟨_, cur, hc2⟩ := h.rs.row.lt e
      rw [hm] at hc2; cases hc2
  have hcc := k.same
  have e1 : c.a = P.c.a := by rw [hcc]
  have e2 : c.b = P.c.b := by rw [hcc]
  have e3 : c.k = P.c.k := by rw [hcc]
  have e4 : c.o = P.c.o := by rw [hcc]
  have e5 : c.w = P.c.w := by rw [hcc]
  have e6 : c.s = P.c.s := by rw [hcc]
  have e7 : c.d = P.c.d := by rw [hcc]
  have hpr : PrAt s G' W' { P with c := c, rs := rs } M := by
    refine ⟨k.st.gi, by show c.a = _; rw [e1]; exact h.ca, by show c.b = _; rw [e2]; exact h.cb, k.blk, h.ab.stp k.st (fun e => by rcases hxT _ e h.ab.blk with e | e <;> exact absurd e (by decide)) hbn (fun x hx q hq m => hz q m (.inl (h.kc x hx q hq)) ((h.ab.pk x hx).1.lt hq).1), h.gt,
      h.rb.stp k.st (fun q hq => by
        rcases hq with rfl | hq
        · exact fun e => by rcases hxT _ e h.rb.blk with e | e <;> exact absurd e (by decide)
        · exact rn h.rb.row (by decide) (by decide) q hq) (fun x hx q hq m => hz q m (.inr (.inr (by rw [h.rc x hx q hq]))) ((h.rb.pk x hx).1.lt hq).1), h.rel, by show Hs _ _ c.k _; rw [e3]; exact h.hs.stp k.st (rn h.hs.row (by decide) (by decide)), by show Ls _ _ _ _ _ c.o _; rw [e4]; exact h.os.stp nhO k.st (rn h.os.row (by decide) (by decide)), k.rs, ?_, by show RowAt _ _ _ c.s _ _; rw [e6]; exact h.sr.stpO k.st nh9 (rn h.sr (by decide) (by decide)), by show MkA _ _ _ _ _ c.d _; rw [e7]; exact h.dk.stp k.st, fun x hx q hq => by rw [hc q (.inr (.inl (h.kc x hx q hq))) ((h.ab.pk x hx).1.lt hq).1]; exact h.kc x hx q hq, h.kd, fun x hx q hq => by rw [hc q (.inl (by rw [h.rc x hx q hq])) ((h.rb.pk x hx).1.lt hq).1]; exact h.rc x hx q hq, h.kl, h.wl, fun i => by have := h.cn i; show P.a.cn i ≤ _; omega, h.eb, h.o4, by show rs.length % 4 = 0; have := h.r4; omega, by have := h.ob; show P.os.length ≤ _; omega, by show rs.length ≤ _; omega⟩
    show Wt _ _ _ c.w _
    rw [e5]
    exact ⟨h.wt.row.stpC k.st (.inr (.inr rfl)) fun q hq m => hz q m (.inr (.inl (h.wt.col q hq))) (h.wt.row.lt hq).1, fun q hq => by rw [hc q (.inr (.inr (h.wt.col q hq))) (h.wt.row.lt hq).1]; exact h.wt.col q hq, fun x hx => (h.wt.pk x hx).stp k.st fun q hq m => hz q m (.inr (.inl (h.wt.pc x hx q hq))) ((h.wt.pk x hx).1.lt hq).1, fun x hx q hq => by rw [hc q (.inr (.inr (h.wt.pc x hx q hq))) ((h.wt.pk x hx).1.lt hq).1]; exact h.wt.pc x hx q hq, h.wt.dis⟩
  have hst : Stp (1000 + s) P.own G W G' W' := (k.st.wide (by rcases ht with e | e <;> omega) hs).mono (fun q _ e => by
    rcases e with e | e
    · exact .inl e
    · exact .inr (.inr (.inr (.inr (.inr (.inr (.inl e))))))) h.exT
  have hown : ∀ q, ({ P with c := c, rs := rs } : PR).own q → P.own q ∨ W.heap.size ≤ q := fun q hq => by
    rcases hq with e | e | e | hq | hq | hq | hq | hq
    · exact .inl (.inl e)
    · exact .inl (.inr (.inl e))
    · exact .inl (.inr (.inr (.inl e)))
    · exact .inl (.inr (.inr (.inr (.inl hq))))
    · exact .inl (.inr (.inr (.inr (.inr (.inl (by have h9 : c.k.ownBlock = some q := hq; rw [e3] at h9; exact h9))))))
    · exact .inl (.inr (.inr (.inr (.inr (.inr (.inl (by have h9 : c.o.ownBlock = some q := hq; rw [e4] at h9; exact h9)))))))
    · exact (k.ro q hq).imp (fun e => .inr (.inr (.inr (.inr (.inr (.inr (.inl e))))))) id
    · exact .inl (.inr (.inr (.inr (.inr (.inr (.inr (.inr (by have h9 : c.s.ownBlock = some q := hq; rw [e6] at h9; exact h9))))))))
  exact ⟨⟨G', _, hpr, rfl, hst, hown⟩, hpr, hst, hown⟩
/-- Rows that came out get their colours. -/
theorem PrAt.w0 {s N n1 n2 : Nat} {G : Gh} {w W1 W : World} {P : PR} {av cv : Value} {xs ys : List Value} (h : PrAt s G w P N) (hb : Below w.heap.size w W) (ha : RowAt W 61 2 av n1 xs) (hal : ∀ q, av.ownBlock = some q → w.heap.size ≤ q ∧ q < W1.heap.size) (hc : RowAt W 61 2 cv n2 ys) (hcl : ∀ q, cv.ownBlock = some q → w.heap.size ≤ q ∧ W1.heap.size ≤ q) : ∃ G2, PrAt s G2 W P N ∧ Stp (1000 + s) P.own G w G2 W ∧ (∀ q, av.ownBlock = some q → G2 q = (1, 2000 + s)) ∧ (∀ q, cv.ownBlock = some q → G2 q = (1, 3000 + s)) ∧ ∀ q, av.ownBlock ≠ some q → cv.ownBlock ≠ some q → G2 q = G q := by
  obtain ⟨G1, hr1⟩ := Rcl.ex G (fun q => av.ownBlock = some q) (1, 2000 + s)
  obtain ⟨G2, hr2⟩ := Rcl.ex G1 (fun q => cv.ownBlock = some q) (1, 3000 + s)
  have hst1 : Stp (1000 + s) (fun _ => False) G w G1 W := (Stp.below h.gi hb).paintS (fun q hq => by
    obtain ⟨_, cur, hc2⟩ := ha.lt hq
    exact ⟨(hal q hq).1, h.gi.zero (hal q hq).1, cur, _, hc2, .inr (.inl rfl)⟩) _ (fun m e => by simp at e) hr1
  have hst2 : Stp (1000 + s) (fun _ => False) G w G2 W := hst1.paintS (fun q hq => by
    obtain ⟨_, cur, hc2⟩ := hc.lt hq
    refine ⟨(hcl q hq).1, ?_, cur, _, hc2, .inr (.inl rfl)⟩
    rw [hr1.no q fun e => by have := (hal q e).2; have := (hcl q hq).2; omega]
    exact h.gi.zero (hcl q hq).1) _ (fun m e => by simp at e) hr2
  have hno : ∀ q, av.ownBlock ≠ some q → cv.ownBlock ≠ some q → G2 q = G q := fun q h1 h2 => by rw [hr2.no q h2, hr1.no q h1]
  refine ⟨G2, h.keep hst2 (fun _ _ => id) fun q _ hl => hno q (fun e => by have := (hal q e).1; omega) fun e => by have := (hcl q e).1; omega, hst2.mono (fun _ _ e => e.elim) h.exT, fun q hq => ?_, fun q hq => hr2.yes q hq, hno⟩
  rw [hr2.no q fun e => by have := (hal q hq).2; have := (hcl q e).2; omega]
  exact hr1.yes q hq
theorem infoOp : (Try.prog.info? 56).map (·.size) = some 5 := by kernel_rfl
theorem ls_same {a r : Ab} (h : Rel a r) : r.ls = a.ls := by unfold Ab.ls; rw [h.cn]
end Go.Proofs.Ytdncemecnbglaaa
