/-
  tape: Append.
-/
import Derived.Test.YtjnnecoikcmaeaaTQ3
namespace Go.Proofs.Ytjnnecoikcmaeaa
set_option linter.unusedVariables false
set_option linter.unusedSimpArgs false
open Go.RowKit Go.Great

/-- Behind a record more: the bytes. -/
theorem TpAt.bytes {w : World} {t : Tp} (h : TpAt w t) {u : Value} {m : List Nat} (hu : By w u m) (hm : 0 < m.length) (hl : t.l.length + m.length ≤ 100000000000) (ty : TypeId) :
    ∃ v' w', (Builtin.append_ #[28, 28] ty #[t.wv, u]).run Try.prog w = .ok v' w' ∧ RowAt w' 5 1 v' (t.l ++ m).length (bvals (t.l ++ m)) ∧ Fr w w' (fun b => t.wv.ownBlock = some b) ∧ (v'.ownBlock = t.wv.ownBlock ∨ v'.ownBlock = some w.heap.size) := by
  rcases h.app with k | ⟨b, e, h0⟩
  · exact run_append_by k hu hl ty
  · obtain ⟨i0, hi, hz0, hz1, hz2⟩ := info_parts info5
    have hmx : 100000000000 ≤ maxLen := by decide
    obtain ⟨a, cap, rfl, h1, h2, h3⟩ := hu.ex
    rcases h3 with h3 | ⟨c, off, rfl, h3⟩
    · rw [h3] at hm; simp at hm
    have src : ∀ {b o : Nat} {l : List Nat}, (∀ (j x : Nat), l[j]? = some x → w.cell? ⟨b, o + j, none⟩ = some (.int .u8 (x : Int))) → ∀ (j : Nat) (x : Value), (bvals l)[j]? = some x → w.cell? ((⟨b, o, none⟩ : Addr).add j) = some x := fun {b o l} hh j x hj => by
      rw [Addr.add_mid]
      unfold bvals at hj
      rw [List.getElem?_map] at hj
      cases hx : l[j]? with
      | none => rw [hx] at hj; cases hj
      | some y =>
        rw [hx] at hj
        have e : .int .u8 (y : Int) = x := by simpa using hj
        subst e
        exact hh j y hx
    have hw : ∀ (j x : Nat), t.l[j]? = some x → w.cell? ⟨b, 0 + j, none⟩ = some (.int .u8 (x : Int)) := by
      obtain ⟨a', cap', e', _, _, k3⟩ := h.by'.ex
      rcases k3 with k3 | ⟨b', o', e2, k3⟩
      · rw [k3] at h0; simp at h0
      · rw [e] at e'
        injection e' with e3 _ _
        rw [e2] at e3
        injection e3 with e3
        injection e3 with e4 e5
        subst e4
        rw [← e5] at k3
        exact k3
    have hr := run_append_grow (P := Try.prog) w 28 ty 5 i0 _ Try.underlying28 hi hz0 ⟨b, 0, none⟩ t.l.length t.l.length (bvals t.l) (by rw [bvals_length, hz1, Nat.mul_one]) (src hw) ⟨c, off, none⟩ m.length cap (bvals m) (by rw [bvals_length, hz1, Nat.mul_one]) (src h3) (by omega) (by omega) (growslice_fits (by omega) (by rw [hz2]; omega))
    have hge := grownCap_ge w (t.l.length + m.length) t.l.length 5
    have hcm : grownCap w (t.l.length + m.length) t.l.length 5 ≤ maxLen := grownCap_le_maxLen w _ t.l.length 5 (by omega)
    rw [e]
    refine ⟨_, _, hr, ?_, ⟨rfl, rfl, rfl, by simp, fun q hq _ => heap_alloc_old w.drew _ hq⟩, .inr rfl⟩
    rw [List.length_append, bvals_append]
    refine ⟨by rw [List.length_append, bvals_length, bvals_length, Nat.mul_one], .inr ⟨w.heap.size, 0, _, _, rfl, heap_alloc_new w.drew _, hge, hcm, ?_, ?_⟩⟩
    · simp only [Array.size_append, List.size_toArray, size_zeroCells, bvals_length]
      show 0 + _ * 1 ≤ t.l.length + m.length + (_ - (t.l.length + m.length)) * 1
      omega
    · simp only [Array.toList_append, List.append_assoc, List.drop_zero]
      rw [← List.append_assoc, show (t.l.length + m.length) * 1 = (bvals t.l ++ bvals m).length by rw [List.length_append, bvals_length, bvals_length, Nat.mul_one]]
      exact List.take_left
theorem info3 : (Try.prog.info? 3).map (fun i => (i.zero, i.size, i.bytes)) = some (some (.int .i64 0), 1, 8) := by kernel_rfl
theorem intC_one (l : List Nat) : ∀ u ∈ flatL intC l, u.oneCell' = true := by
  induction l with
  | nil => intro u hu; cases hu
  | cons x t ih =>
    intro u hu
    rcases List.mem_append.1 hu with h | h
    · have : u = .int .i64 (x : Int) := by simpa [intC] using h
      rw [this]; rfl
    · exact ih u h
/-- A tape with a record more. -/
def Tp.more (t : Tp) (r : List Nat) (wv ev : Value) : Tp := ⟨t.g, wv, t.l ++ r, ev, t.es ++ [t.l.length + r.length]⟩
/-- What Append leaves. -/
def AppR (w : World) (t : Tp) (c : Cm) (e : Ending) (w' : World) : Prop :=
  (encE c ≠ 0 ∧ e = .returned (.int .i64 (encE c)) ∧ Hid (Below w.heap.size w w')) ∨
  (encE c = 0 ∧ e = .returned (.int .i64 0) ∧ Hid (∃ wv ev, TpAt w' (t.more (recL t.es.length (encL c)) wv ev) ∧ Fr w w' t.own ∧ ∀ b, (t.more (recL t.es.length (encL c)) wv ev).own b → t.own b ∨ w.heap.size ≤ b))
theorem geqM_run {op : Oper} {a : Act} {n : Nat} (x y : Operand) (ho : op.op = .binOp .geq 3 x y 3) (hx : a.eval x = .int .i64 (n : Int)) (hy : a.eval y = .int .i64 1000000) (hn : n < 1000000) (w : World) : (execOp a.eval op).run Try.prog w = .ok (.value (.bool false)) w := by
  obtain ⟨M, hM⟩ : ∃ M : Int, M = 1000000 := ⟨_, rfl⟩
  rw [← hM] at hy
  have h1 : ¬ M ≤ (n : Int) := by omega
  clear hM
  unfold execOp
  simp only [ho, hx, hy]
  go_simp
/-- The bytes are there, the block still tells the old ones. -/
structure Mid (w W : World) (t : Tp) (r : List Nat) (nv : Value) : Prop where
  bel : Fr w W t.own
  blk : Blk W t.g 79 t.cs
  new : RowAt W 5 1 nv (t.l ++ r).length (bvals (t.l ++ r))
  bb : BB (t.l ++ r)
  row : RowAt W 3 1 t.ev t.es.length (flatL intC t.es)
  low : ∀ q, nv.ownBlock = some q → t.own q ∨ w.heap.size ≤ q
  ne1 : nv.ownBlock ≠ some t.g
  ne2 : ∀ q, nv.ownBlock = some q → t.ev.ownBlock ≠ some q
theorem Mid.of {w Y1 Y2 : World} {t : Tp} {r : List Nat} {nv : Value} (ht : TpAt w t) (hb : Below w.heap.size w Y1) (h1 : TpAt Y1 t) (hrow : RowAt Y2 5 1 nv (t.l ++ r).length (bvals (t.l ++ r))) (hf : Fr Y1 Y2 (fun b => t.wv.ownBlock = some b)) (ho : nv.ownBlock = t.wv.ownBlock ∨ nv.ownBlock = some Y1.heap.size) (hbb : BB r) : Mid w Y2 t r nv := by
  refine ⟨(Fr.of_below hb t.own).trans hf fun i _ q => ?_, h1.blk.fr hf fun e => h1.ne1 e, hrow, h1.by'.bb.app hbb, h1.row.fr hf fun q hq e => h1.ne2 q e hq, fun q hq => ?_, fun e => ?_, fun q hq e => ?_⟩
  · rcases q with q | q
    · exact q
    · exact .inr (.inl q)
  · rcases ho with o | o
    · exact .inl (.inr (.inl (o ▸ hq)))
    · rw [o] at hq
      injection hq with hq
      exact .inr (by have := hb.size; omega)
  · rcases ho with o | o
    · exact h1.ne1 (o ▸ e)
    · rw [o] at e
      injection e with e
      have := h1.blk.lt
      omega
  · rcases ho with o | o
    · exact h1.ne2 q (o ▸ hq) e
    · rw [o] at hq
      injection hq with hq
      have := (h1.row.lt e).1
      omega
/-- The block tells the new bytes, and the old ends. -/
structure Mid2 (w W : World) (t : Tp) (r : List Nat) (nv : Value) : Prop where
  bel : Fr w W t.own
  blk : Blk W t.g 79 #[nv, t.ev]
  new : RowAt W 5 1 nv (t.l ++ r).length (bvals (t.l ++ r))
  bb : BB (t.l ++ r)
  row : RowAt W 3 1 t.ev t.es.length (flatL intC t.es)
  low : ∀ q, nv.ownBlock = some q → t.own q ∨ w.heap.size ≤ q
  ne1 : nv.ownBlock ≠ some t.g
  ne2 : ∀ q, nv.ownBlock = some q → t.ev.ownBlock ≠ some q
theorem Mid.set {w W : World} {t : Tp} {r : List Nat} {nv : Value} (h : Mid w W t r nv) : Mid2 w (W.setCell ⟨t.g, 0, none⟩ nv) t r nv := by
  have hf : Fr W (W.setCell ⟨t.g, 0, none⟩ nv) (fun b => b = t.g) := Fr.setCell _ _ _ _ rfl
  refine ⟨h.bel.trans hf fun i _ q => ?_, h.blk.set 0 nv, h.new.fr hf fun q hq e => h.ne1 (e ▸ hq), h.bb, h.row.fr hf fun q hq e => h.row.ne_type h.blk (by decide) (e ▸ hq), h.low, h.ne1, h.ne2⟩
  rcases q with q | q
  · exact q
  · exact .inl q
theorem Mid2.below {w W W' : World} {t : Tp} {r : List Nat} {nv : Value} (h : Mid2 w W t r nv) (hb : Below W.heap.size W W') : Mid2 w W' t r nv :=
  ⟨h.bel.trans (Fr.of_below hb t.own) fun i _ q => by rcases q with q | q <;> exact q, h.blk.below hb h.blk.lt, h.new.fr (Fr.of_below hb (fun _ => False)) fun _ _ => id, h.bb, h.row.fr (Fr.of_below hb (fun _ => False)) fun _ _ => id, h.low, h.ne1, h.ne2⟩
theorem Mid2.ends {w W : World} {t : Tp} {r : List Nat} {nv : Value} (h : Mid2 w W t r nv) (zb N : Nat) (hc : W.cell? ⟨zb, 0, none⟩ = some (.int .i64 (N : Int))) (hl : t.es.length < 1000000) (ty : TypeId) :
    ∃ v' w', (Builtin.append_ #[41, 41] ty #[t.ev, .slice (some ⟨zb, 0, none⟩) 1 1]).run Try.prog W = .ok v' w' ∧ RowAt w' 3 1 v' (t.es.length + 1) (flatL intC (t.es ++ [N])) ∧ Fr W w' (fun b => t.ev.ownBlock = some b) ∧ (v'.ownBlock = t.ev.ownBlock ∨ v'.ownBlock = some W.heap.size) := by
  obtain ⟨i0, hi, hz0, hz1, hz2⟩ := info_parts info3
  have hmx : 100000000000 ≤ maxLen := by decide
  obtain ⟨v', w', k1, k2, k3, k4⟩ := run_append_row (P := Try.prog) W 41 ty 3 i0 _ 1 8 Try.underlying41 hi hz0 hz1 hz2 rfl t.ev t.es.length _ h.row ⟨zb, 0, none⟩ 1 1 (intC N) rfl (fun j x hj => by
    rw [Addr.add_mid]
    cases j with
    | zero =>
      have e : .int .i64 (N : Int) = x := by simpa [intC] using hj
      subst e; exact hc
    | succ j => simp [intC] at hj) (fun u hu => by
    have : u = .int .i64 (N : Int) := by simpa [intC] using hu
    rw [this]; rfl) (.inl (by decide)) (by omega) (by omega)
  refine ⟨v', w', k1, ?_, k3, ?_⟩
  · rw [flatL_app, flatL_one]; exact k2
  · rcases k4 with k4 | ⟨k4, _⟩
    · exact .inl k4
    · exact .inr k4
/-- The new ends are there, the block still tells the old ones. -/
structure Mid3 (w W : World) (t : Tp) (r : List Nat) (nv nev : Value) (N : Nat) : Prop where
  bel : Fr w W t.own
  blk : Blk W t.g 79 #[nv, t.ev]
  new : RowAt W 5 1 nv (t.l ++ r).length (bvals (t.l ++ r))
  bb : BB (t.l ++ r)
  row : RowAt W 3 1 nev (t.es.length + 1) (flatL intC (t.es ++ [N]))
  low : ∀ q, nv.ownBlock = some q → t.own q ∨ w.heap.size ≤ q
  low2 : ∀ q, nev.ownBlock = some q → t.own q ∨ w.heap.size ≤ q
  ne1 : nv.ownBlock ≠ some t.g
  ne2 : ∀ q, nv.ownBlock = some q → nev.ownBlock ≠ some q
  ne3 : nev.ownBlock ≠ some t.g
theorem Mid3.of {w W W' : World} {t : Tp} {r : List Nat} {nv nev : Value} {N : Nat} (h : Mid2 w W t r nv) (hrow : RowAt W' 3 1 nev (t.es.length + 1) (flatL intC (t.es ++ [N]))) (hf : Fr W W' (fun b => t.ev.ownBlock = some b)) (ho : nev.ownBlock = t.ev.ownBlock ∨ nev.ownBlock = some W.heap.size) : Mid3 w W' t r nv nev N := by
  have hg : t.ev.ownBlock ≠ some t.g := h.row.ne_type h.blk (by decide)
  refine ⟨h.bel.trans hf fun i _ q => ?_, h.blk.fr hf fun e => hg e, h.new.fr hf fun q hq e => h.ne2 q hq e, h.bb, hrow, h.low, fun q hq => ?_, h.ne1, fun q hq e => ?_, fun e => ?_⟩
  · rcases q with q | q
    · exact q
    · exact .inr (.inr q)
  · rcases ho with o | o
    · exact .inl (.inr (.inr (o ▸ hq)))
    · rw [o] at hq
      injection hq with hq
      exact .inr (by have := h.bel.size; omega)
  · rcases ho with o | o
    · exact h.ne2 q hq (o ▸ e)
    · rw [o] at e
      injection e with e
      have := (h.new.lt hq).1
      omega
  · rcases ho with o | o
    · exact hg (o ▸ e)
    · rw [o] at e
      injection e with e
      have := h.blk.lt
      omega
theorem Mid3.done {w W : World} {t : Tp} {r : List Nat} {nv nev : Value} {N : Nat} (h : Mid3 w W t r nv nev N) (hN : N = t.l.length + r.length) : TpAt (W.setCell ⟨t.g, 1, none⟩ nev) (t.more r nv nev) ∧ Fr w (W.setCell ⟨t.g, 1, none⟩ nev) t.own ∧ ∀ b, (t.more r nv nev).own b → t.own b ∨ w.heap.size ≤ b := by
  subst hN
  have hf : Fr W (W.setCell ⟨t.g, 1, none⟩ nev) (fun b => b = t.g) := Fr.setCell _ _ _ _ rfl
  have hnew : RowAt (W.setCell ⟨t.g, 1, none⟩ nev) 5 1 nv (t.l ++ r).length (bvals (t.l ++ r)) := h.new.fr hf fun q hq e => h.ne1 (e ▸ hq)
  refine ⟨⟨h.blk.set 1 nev, hnew.by' h.bb, .inl hnew, ?_, fun q hq => ?_, h.ne1, fun q hq => h.ne2 q hq⟩, h.bel.trans hf fun i _ q => ?_, fun b hb => ?_⟩
  · have hr := h.row.fr hf fun q hq e => h.ne3 (e ▸ hq)
    show RowAt _ 3 1 nev (t.es ++ [t.l.length + r.length]).length _
    rw [List.length_append]
    exact hr
  · exact (hnew.lt hq).1
  · rcases q with q | q
    · exact q
    · exact .inl q
  · rcases hb with e | e | e
    · exact .inl (.inl e)
    · exact h.low b e
    · exact h.low2 b e
set_option maxRecDepth 100000 in
set_option maxHeartbeats 4000000 in
theorem Append_any {w : World} {t : Tp} (h : TpAt w t) (c : Cm) (hc : c.ok) (hes : t.es.length < 1000000) (htl : t.l.length ≤ 10000000000) : Calls Try.prog 12 #[.pointer (some ⟨t.g, 0, none⟩), .agg c.cs] w fun e w' => AppR w t c e w' := by
  obtain ⟨X, hX⟩ : ∃ X, X = c.cs := ⟨_, rfl⟩
  have HX : Hid (X = c.cs) := hX
  have hen := fun W => Encode_any c hc W
  rw [← hX] at hen ⊢
  clear hX
  have hb0 : Below w.heap.size w (w.alloc (.cells X 27)) := (Below.refl _ w).alloc (Nat.le_refl _) _
  have HB0 : Hid (Below w.heap.size w (w.alloc (.cells X 27)) ∧ Blk (w.alloc (.cells X 27)) w.heap.size 27 X ∧ TpAt (w.alloc (.cells X 27)) t) := ⟨hb0, Blk.new _ _ _, h.below hb0⟩
  have HL : Hid (t.es.length < 1000000 ∧ t.l.length ≤ 10000000000) := ⟨hes, htl⟩
  have HT : Hid (TpAt w t) := h
  clear hb0 h
  go_enter Try.func12, Try.ntmps12
  go_upto_region 1 with fail
  rename_i K1 hK1
  generalize w.alloc (.cells X 27) = W0 at *
  refine wp_region_lit ?_
  refine wpList_load_row rfl 27 (.tmp 3) rfl w.heap.size (by kernel_rfl) 27 X (0, 0) _ HB0.out.2.1 Try.underlying27 rfl (by rw [HX.out, Cm.cs_size]; exact info27) ?_
  simp only [Act.put, List.setIfInBounds_toArray, List.set_cons_zero, List.set_cons_succ]
  refine wpList_callW rfl (some 9) rfl 9 #[.agg X] (by kernel_rfl) (hen W0) ?_
  clear hen
  rintro e W1 ⟨cv, rfl, hx⟩
  refine ⟨_, rfl, ?_⟩
  simp only [Act.put, List.setIfInBounds_toArray, List.set_cons_zero, List.set_cons_succ]
  obtain ⟨ee, hee⟩ : ∃ ee, ee = encE c := ⟨_, rfl⟩
  rw [← hee] at hx ⊢
  have HEE : Hid (ee = encE c) := hee
  clear hee
  refine wpList_runTo rfl (some 7) rfl (.tuple #[cv, .int .i64 ee]) W1 (by kernel_rfl) ?_
  simp only [Act.put, List.setIfInBounds_toArray, List.set_cons_zero, List.set_cons_succ]
  refine wpList_runTo rfl (some 10) rfl (cv) W1 (by kernel_rfl) ?_
  simp only [Act.put, List.setIfInBounds_toArray, List.set_cons_zero, List.set_cons_succ]
  refine wpList_runTo rfl (some 11) rfl (.int .i64 ee) W1 (by kernel_rfl) ?_
  simp only [Act.put, List.setIfInBounds_toArray, List.set_cons_zero, List.set_cons_succ]
  refine wpList_runTo rfl (some 5) rfl (cv) W1 (by kernel_rfl) ?_
  simp only [Act.put, List.setIfInBounds_toArray, List.set_cons_zero, List.set_cons_succ]
  refine wpList_runTo rfl (some 6) rfl (.int .i64 ee) W1 (by kernel_rfl) ?_
  simp only [Act.put, List.setIfInBounds_toArray, List.set_cons_zero, List.set_cons_succ]
  refine wpList_nil ?_
  refine hK1 _ _ ?_
  clear hK1
  have HB1 : Hid (Below w.heap.size w W1 ∧ TpAt W1 t) := ⟨below_step HB0.out.1 hx.out.1, HB0.out.2.2.below hx.out.1⟩
  by_cases he0 : ee = 0
  · have hrow := hx.out.2.1 he0
    have HRw : Hid (By W1 cv (encL c)) := hrow.by'
    have HEl : Hid ((encL c).length ≤ 3000) := by
      show (encL c).length ≤ 3000
      have ha : allM c 24 = true := by
        have e1 : encE c = 0 := by rw [← HEE.out]; exact he0
        unfold encE at e1
        split at e1
        · rename_i hk
          cases hm : allM c 24
          · rw [hm] at e1; cases e1
          · rfl
        · cases e1
      have h1 := vlU_len ha
      have h2 := mkU_lt c 24
      have h3 := varL_length10 (foldN_lt hc.k0 hc.k1)
      have h4 := varL_length10 (foldN_lt (n := (mkU c 24 : Int)) (by omega) (by omega))
      unfold encL
      rw [List.length_append, List.length_append]
      omega
    clear hx hrow HB0
    have hln := Len_any HB1.out.2 (by omega)
    have hg1 : ¬ (1000000 : Int) ≤ (t.es.length : Int) := by omega
    subst he0
    go_upto_region 4 with fail
    rename_i K4 hK4
    refine wp_region_lit ?_
    refine wpList_runTo rfl (some 15) rfl (.pointer (some ⟨t.g, 0, none⟩)) W1 (by kernel_rfl) ?_
    simp only [Act.put, List.setIfInBounds_toArray, List.set_cons_zero, List.set_cons_succ]
    refine wpList_callW rfl (some 16) rfl 15 #[.pointer (some ⟨t.g, 0, none⟩)] (by kernel_rfl) hln ?_
    rintro e w2 ⟨rfl, ew⟩
    replace ew := ew.symm
    subst ew
    refine ⟨_, rfl, ?_⟩
    simp only [Act.put, List.setIfInBounds_toArray, List.set_cons_zero, List.set_cons_succ]
    refine wpList_runTo rfl (some 17) rfl (.bool false) W1 (by exact geqM_run (.tmp 16) (.const (.int .i64 1000000)) rfl (by kernel_rfl) rfl HL.out.1 _) ?_
    simp only [Act.put, List.setIfInBounds_toArray, List.set_cons_zero, List.set_cons_succ]
    refine wpList_nil ?_
    refine hK4 _ _ ?_
    clear hK4 hln hg1
    go_upto_region 6 with fail
    rename_i K6 hK6
    have HES : Hid (∃ n, n = t.es.length) := ⟨_, rfl⟩
    have hbd : Below W1.heap.size W1 W1.drew := ⟨rfl, rfl, rfl, Nat.le_refl _, fun _ _ => rfl⟩
    have HZ : Hid (Below w.heap.size w W1.drew ∧ TpAt W1.drew t ∧ By W1.drew cv (encL c)) := ⟨below_step HB1.out.1 hbd, HB1.out.2.below hbd, HRw.out.below hbd⟩
    clear hbd HB1 HRw
    obtain ⟨wa, wc, hwf, _⟩ := HZ.out.2.1.by'.form
    have HWF : Hid (t.wv = .slice wa t.l.length wc) := hwf
    refine wp_region_late (fun w' => w'.cell? ⟨t.g, 0, none⟩ = some t.wv) 12 (by kernel_rfl) ?_
    intro hCl
    generalize W1.drew = Z at *
    change wpAnyL _ _ _ _ _ _ 13 _ _ _
    have hS : Z.cell? ⟨t.g, 0, none⟩ = some t.wv := HZ.out.2.1.blk.cell 0
    refine takeL (i := 0) (v := .pointer (some ⟨t.g, 0, none⟩)) 12 (some 18) rfl rfl (by kernel_rfl) (by kernel_rfl) (by kernel_rfl) (by kernel_rfl) hCl (fun _ _ _ h => h) (Or.inl ⟨by kernel_rfl, fun w' hSw => by kernel_rfl⟩) hS ?_
    clear hCl
    intro hCl
    simp only [Act.put, List.setIfInBounds_toArray, List.set_cons_zero, List.set_cons_succ]
    refine takeL (i := 1) (v := .pointer (some ⟨t.g, 0, none⟩)) 12 (some 19) rfl rfl (by kernel_rfl) (by kernel_rfl) (by kernel_rfl) (by kernel_rfl) hCl (fun _ _ _ h => h) (Or.inl ⟨by kernel_rfl, fun w' hSw => by kernel_rfl⟩) hS ?_
    clear hCl
    intro hCl
    simp only [Act.put, List.setIfInBounds_toArray, List.set_cons_zero, List.set_cons_succ]
    refine takeL (i := 2) (v := .pointer (some ⟨t.g, 0, none⟩)) 12 (some 20) rfl rfl (by kernel_rfl) (by kernel_rfl) (by kernel_rfl) (by kernel_rfl) hCl (fun _ _ _ h => h) (Or.inl ⟨by kernel_rfl, fun w' hSw => by kernel_rfl⟩) hS ?_
    clear hCl
    intro hCl
    simp only [Act.put, List.setIfInBounds_toArray, List.set_cons_zero, List.set_cons_succ]
    refine takeL (i := 3) (v := .pointer (some ⟨t.g, 0, none⟩)) 12 (some 21) rfl rfl (by kernel_rfl) (by kernel_rfl) (by kernel_rfl) (by kernel_rfl) hCl (fun _ _ _ h => h) (Or.inl ⟨by kernel_rfl, fun w' hSw => by kernel_rfl⟩) hS ?_
    clear hCl
    intro hCl
    simp only [Act.put, List.setIfInBounds_toArray, List.set_cons_zero, List.set_cons_succ]
    refine takeL (i := 4) (v := t.wv) 12 (some 22) rfl rfl (by kernel_rfl) (by kernel_rfl) (by kernel_rfl) (by kernel_rfl) hCl (fun _ _ _ h => h) (Or.inl ⟨by kernel_rfl, fun w' hSw => by have q0 := hSw; clear hSw; rw [hwf] at q0 ⊢; go_simp⟩) hS ?_
    clear hCl
    intro hCl
    simp only [Act.put, List.setIfInBounds_toArray, List.set_cons_zero, List.set_cons_succ]
    refine takeL (i := 5) (v := cv) 12 (some 23) rfl rfl (by kernel_rfl) (by kernel_rfl) (by kernel_rfl) (by kernel_rfl) hCl (fun _ _ _ h => h) (Or.inl ⟨by kernel_rfl, fun w' hSw => by kernel_rfl⟩) hS ?_
    clear hCl
    intro hCl
    simp only [Act.put, List.setIfInBounds_toArray, List.set_cons_zero, List.set_cons_succ]
    refine takeL (i := 6) (v := .pointer (some ⟨t.g, 0, none⟩)) 12 (some 24) rfl rfl (by kernel_rfl) (by kernel_rfl) (by kernel_rfl) (by kernel_rfl) hCl (fun _ _ _ h => h) (Or.inl ⟨by kernel_rfl, fun w' hSw => by kernel_rfl⟩) hS ?_
    clear hCl
    intro hCl
    simp only [Act.put, List.setIfInBounds_toArray, List.set_cons_zero, List.set_cons_succ]
    refine oneL (i := 7) rfl (by kernel_rfl) hCl (by kernel_rfl) (fun K1 hK1 => ?_)
    refine callR (d := some 25) rfl 15 #[.pointer (some ⟨t.g, 0, none⟩)] (by kernel_rfl) (Len_any HZ.out.2.1 (by omega)) ?_
    rintro e w7 ⟨rfl, ew⟩
    replace ew := ew.symm
    subst ew
    refine ⟨_, rfl, ?_⟩
    refine hK1.out _ _ (fun _ => hS) ?_
    clear hK1 hCl
    intro hCl
    simp only [Act.put, List.setIfInBounds_toArray, List.set_cons_zero, List.set_cons_succ]
    refine oneL (i := 8) rfl (by kernel_rfl) hCl (by kernel_rfl) (fun K1 hK1 => ?_)
    refine callR (d := some 26) rfl 32 #[cv, .int .i64 (t.es.length : Int)] (by kernel_rfl) (record_any HZ.out.2.2 (by have := HEl.out; omega) t.es.length (by omega)) ?_
    rintro e Y1 ⟨rv, rfl, hx⟩
    refine ⟨_, rfl, ?_⟩
    have HY1 : Hid (Below w.heap.size w Y1 ∧ TpAt Y1 t ∧ By Y1 rv (recL t.es.length (encL c))) := ⟨below_step HZ.out.1 hx.out.bel, HZ.out.2.1.below hx.out.bel, hx.out.by'⟩
    clear hx HZ hS
    have hS : Y1.cell? ⟨t.g, 0, none⟩ = some t.wv := HY1.out.2.1.blk.cell 0
    refine hK1.out _ _ (fun _ => hS) ?_
    clear hK1 hCl
    intro hCl
    simp only [Act.put, List.setIfInBounds_toArray, List.set_cons_zero, List.set_cons_succ]
    have HRl : Hid ((recL t.es.length (encL c)).length = 6 + (encL c).length) := recL_len _ _
    obtain ⟨nv, Y2, hr, hrow, hfr, hob⟩ := HY1.out.2.1.bytes HY1.out.2.2 (by rw [HRl.out]; omega) (by rw [HRl.out]; have := HEl.out; have := HL.out; omega) 28
    have HM : Hid (Mid w Y2 t (recL t.es.length (encL c)) nv) := Mid.of HT.out HY1.out.1 HY1.out.2.1 hrow hfr hob HY1.out.2.2.bb
    have hS2 : Y2.cell? ⟨t.g, 0, none⟩ = some t.wv := HM.out.blk.cell 0
    have hF2 : Y2.frozen? ⟨t.g, 0, none⟩ = false := HM.out.blk.frozen 0
    obtain ⟨na, nc, hnf, _⟩ := hrow.form
    refine oneL (i := 9) rfl (by kernel_rfl) hCl (by kernel_rfl) (fun K1 hK1 => ?_)
    refine valR (d := some 27) rfl (w' := Y2) nv (exec_append (v1 := t.wv) (v2 := rv) (.tmp 22) (.tmp 26) rfl (by kernel_rfl) (by kernel_rfl) hr) ?_
    refine hK1.out _ _ (fun _ => hS2) ?_
    clear hK1 hCl hr hfr hob hS HY1
    intro hCl
    simp only [Act.put, List.setIfInBounds_toArray, List.set_cons_zero, List.set_cons_succ]
    refine takeL (i := 10) (v := .pointer (some ⟨t.g, 0, none⟩)) 12 (some 28) rfl rfl (by kernel_rfl) (by kernel_rfl) (by kernel_rfl) (by kernel_rfl) hCl (fun _ _ _ h => h) (Or.inl ⟨by kernel_rfl, fun w' hSw => by kernel_rfl⟩) hS2 ?_
    clear hCl
    intro hCl
    simp only [Act.put, List.setIfInBounds_toArray, List.set_cons_zero, List.set_cons_succ]
    refine takeL (i := 11) (v := .pointer (some ⟨t.g, 0, none⟩)) 12 (some 29) rfl rfl (by kernel_rfl) (by kernel_rfl) (by kernel_rfl) (by kernel_rfl) hCl (fun _ _ _ h => h) (Or.inl ⟨by kernel_rfl, fun w' hSw => by kernel_rfl⟩) hS2 ?_
    clear hCl
    intro hCl
    simp only [Act.put, List.setIfInBounds_toArray, List.set_cons_zero, List.set_cons_succ]
    refine oneL (i := 12) rfl (by kernel_rfl) hCl (by kernel_rfl) (fun K1 hK1 => ?_)
    refine skipR (d := none) rfl (w' := Y2.setCell ⟨t.g, 0, none⟩ nv) (by rw [hwf] at hS2; subst hnf; go_simp) ?_
    refine hK1.out _ _ (fun h => absurd rfl h) ?_
    clear hK1 hCl
    intro hCl
    simp only [Act.put, List.setIfInBounds_toArray, List.set_cons_zero, List.set_cons_succ]
    refine doneL (by kernel_rfl) ?_
    clear hCl
    refine hK6 _ _ ?_
    clear hK6 hS2 hF2
    have HM2 : Hid (Mid2 w (Y2.setCell ⟨t.g, 0, none⟩ nv) t (recL t.es.length (encL c)) nv) := HM.out.set
    clear HM
    generalize Y2.setCell ⟨t.g, 0, none⟩ nv = Y3 at *
    have HRl2 : Hid (t.l.length + (recL t.es.length (encL c)).length ≤ 100000000000) := by
      show t.l.length + _ ≤ _
      rw [HRl.out]
      have := HEl.out
      have := HL.out
      omega
    clear hrow HRl HEl
    rw [List.length_append] at hnf
    generalize hr : recL t.es.length (encL c) = r at *
    have HR : Hid (recL t.es.length (encL c) = r) := hr
    clear hr
    generalize hN : t.l.length + r.length = N at *
    have HN : Hid (t.l.length + r.length = N) := hN
    clear hN
    go_upto_region 7 with fail
    rename_i K7 hK7
    have hbd : Below Y3.heap.size Y3 Y3.drew := ⟨rfl, rfl, rfl, Nat.le_refl _, fun _ _ => rfl⟩
    have HZ : Hid (Mid2 w Y3.drew t r nv) := HM2.out.below hbd
    clear hbd HM2
    obtain ⟨ea, ec, hef, _⟩ := HZ.out.row.form
    refine wp_region_late (fun w' => w'.cell? ⟨t.g, 0, none⟩ = some nv ∧ w'.cell? ⟨t.g, 1, none⟩ = some t.ev) 14 (by kernel_rfl) ?_
    intro hCl
    generalize Y3.drew = Z at *
    change wpAnyL _ _ _ _ _ _ 15 _ _ _
    have hS : Z.cell? ⟨t.g, 0, none⟩ = some nv ∧ Z.cell? ⟨t.g, 1, none⟩ = some t.ev := ⟨HZ.out.blk.cell 0, HZ.out.blk.cell 1⟩
    refine takeL (i := 0) (v := .pointer (some ⟨t.g, 0, none⟩)) 14 (some 30) rfl rfl (by kernel_rfl) (by kernel_rfl) (by kernel_rfl) (by kernel_rfl) hCl (fun _ _ _ h => h) (Or.inl ⟨by kernel_rfl, fun w' hSw => by kernel_rfl⟩) hS ?_
    clear hCl
    intro hCl
    simp only [Act.put, List.setIfInBounds_toArray, List.set_cons_zero, List.set_cons_succ]
    refine takeL (i := 1) (v := .pointer (some ⟨t.g, 0, none⟩)) 14 (some 31) rfl rfl (by kernel_rfl) (by kernel_rfl) (by kernel_rfl) (by kernel_rfl) hCl (fun _ _ _ h => h) (Or.inl ⟨by kernel_rfl, fun w' hSw => by kernel_rfl⟩) hS ?_
    clear hCl
    intro hCl
    simp only [Act.put, List.setIfInBounds_toArray, List.set_cons_zero, List.set_cons_succ]
    refine takeL (i := 2) (v := .pointer (some ⟨t.g, 0, none⟩)) 14 (some 32) rfl rfl (by kernel_rfl) (by kernel_rfl) (by kernel_rfl) (by kernel_rfl) hCl (fun _ _ _ h => h) (Or.inl ⟨by kernel_rfl, fun w' hSw => by kernel_rfl⟩) hS ?_
    clear hCl
    intro hCl
    simp only [Act.put, List.setIfInBounds_toArray, List.set_cons_zero, List.set_cons_succ]
    refine takeL (i := 3) (v := .pointer (some ⟨t.g, 1, none⟩)) 14 (some 33) rfl rfl (by kernel_rfl) (by kernel_rfl) (by kernel_rfl) (by kernel_rfl) hCl (fun _ _ _ h => h) (Or.inl ⟨by kernel_rfl, fun w' hSw => by kernel_rfl⟩) hS ?_
    clear hCl
    intro hCl
    simp only [Act.put, List.setIfInBounds_toArray, List.set_cons_zero, List.set_cons_succ]
    refine takeL (i := 4) (v := t.ev) 14 (some 34) rfl rfl (by kernel_rfl) (by kernel_rfl) (by kernel_rfl) (by kernel_rfl) hCl (fun _ _ _ h => h) (Or.inl ⟨by kernel_rfl, fun w' hSw => by have q0 := hSw.2; clear hSw; rw [hef] at q0 ⊢; go_simp⟩) hS ?_
    clear hCl
    intro hCl
    simp only [Act.put, List.setIfInBounds_toArray, List.set_cons_zero, List.set_cons_succ]
    refine takeL (i := 5) (v := .pointer (some ⟨t.g, 0, none⟩)) 14 (some 35) rfl rfl (by kernel_rfl) (by kernel_rfl) (by kernel_rfl) (by kernel_rfl) hCl (fun _ _ _ h => h) (Or.inl ⟨by kernel_rfl, fun w' hSw => by kernel_rfl⟩) hS ?_
    clear hCl
    intro hCl
    simp only [Act.put, List.setIfInBounds_toArray, List.set_cons_zero, List.set_cons_succ]
    refine takeL (i := 6) (v := .pointer (some ⟨t.g, 0, none⟩)) 14 (some 36) rfl rfl (by kernel_rfl) (by kernel_rfl) (by kernel_rfl) (by kernel_rfl) hCl (fun _ _ _ h => h) (Or.inl ⟨by kernel_rfl, fun w' hSw => by kernel_rfl⟩) hS ?_
    clear hCl
    intro hCl
    simp only [Act.put, List.setIfInBounds_toArray, List.set_cons_zero, List.set_cons_succ]
    refine takeL (i := 7) (v := .pointer (some ⟨t.g, 0, none⟩)) 14 (some 37) rfl rfl (by kernel_rfl) (by kernel_rfl) (by kernel_rfl) (by kernel_rfl) hCl (fun _ _ _ h => h) (Or.inl ⟨by kernel_rfl, fun w' hSw => by kernel_rfl⟩) hS ?_
    clear hCl
    intro hCl
    simp only [Act.put, List.setIfInBounds_toArray, List.set_cons_zero, List.set_cons_succ]
    refine takeL (i := 8) (v := .slice na N nc) 14 (some 38) rfl rfl (by kernel_rfl) (by kernel_rfl) (by kernel_rfl) (by kernel_rfl) hCl (fun _ _ _ h => h) (Or.inl ⟨by kernel_rfl, fun w' hSw => by have q0 := hSw.1; clear hSw; rw [hnf] at q0; go_simp⟩) hS ?_
    clear hCl
    intro hCl
    simp only [Act.put, List.setIfInBounds_toArray, List.set_cons_zero, List.set_cons_succ]
    refine takeL (i := 9) (v := .int .i64 (N : Int)) 14 (some 39) rfl rfl (by kernel_rfl) (by kernel_rfl) (by kernel_rfl) (by kernel_rfl) hCl (fun _ _ _ h => h) (Or.inl ⟨by kernel_rfl, fun w' hSw => by kernel_rfl⟩) hS ?_
    clear hCl
    intro hCl
    simp only [Act.put, List.setIfInBounds_toArray, List.set_cons_zero, List.set_cons_succ]
    refine oneL (i := 10) rfl (by kernel_rfl) hCl (by kernel_rfl) (fun K1 hK1 => ?_)
    refine valR (d := some 40) rfl (w' := Z.alloc (.cells #[.int .i64 (N : Int)] 3)) (.slice (some ⟨Z.heap.size, 0, none⟩) 1 1) (by kernel_rfl) ?_
    have HZ2 : Hid (Mid2 w (Z.alloc (.cells #[.int .i64 (N : Int)] 3)) t r nv) := HZ.out.below ((Below.refl _ Z).alloc (Nat.le_refl _) _)
    have hcN : (Z.alloc (.cells #[.int .i64 (N : Int)] 3)).cell? ⟨Z.heap.size, 0, none⟩ = some (.int .i64 (N : Int)) := (Blk.new Z 3 #[.int .i64 (N : Int)]).cell 0
    refine hK1.out _ _ (fun _ => ⟨HZ2.out.blk.cell 0, HZ2.out.blk.cell 1⟩) ?_
    clear hK1 hCl hS HZ
    intro hCl
    simp only [Act.put, List.setIfInBounds_toArray, List.set_cons_zero, List.set_cons_succ]
    generalize Z.alloc (.cells #[.int .i64 (N : Int)] 3) = Z2 at *
    generalize Z.heap.size = zb at *
    obtain ⟨nev, Y4, hr4, hrow4, hfr4, hob4⟩ := HZ2.out.ends zb N hcN (by have := HL.out; omega) 41
    have HM4 : Hid (Mid3 w Y4 t r nv nev N) := Mid3.of HZ2.out hrow4 hfr4 hob4
    have hS4 : Y4.cell? ⟨t.g, 0, none⟩ = some nv ∧ Y4.cell? ⟨t.g, 1, none⟩ = some t.ev := ⟨HM4.out.blk.cell 0, HM4.out.blk.cell 1⟩
    have hF4 : Y4.frozen? ⟨t.g, 1, none⟩ = false := HM4.out.blk.frozen 1
    obtain ⟨xa, xc, hxf, _⟩ := hrow4.form
    refine oneL (i := 11) rfl (by kernel_rfl) hCl (by kernel_rfl) (fun K1 hK1 => ?_)
    refine valR (d := some 41) rfl (w' := Y4) nev (exec_append (v1 := t.ev) (v2 := .slice (some ⟨zb, 0, none⟩) 1 1) (.tmp 34) (.tmp 40) rfl (by kernel_rfl) (by kernel_rfl) hr4) ?_
    refine hK1.out _ _ (fun _ => hS4) ?_
    clear hK1 hCl hr4 hfr4 hob4 HZ2 hcN
    intro hCl
    simp only [Act.put, List.setIfInBounds_toArray, List.set_cons_zero, List.set_cons_succ]
    refine takeL (i := 12) (v := .pointer (some ⟨t.g, 0, none⟩)) 14 (some 42) rfl rfl (by kernel_rfl) (by kernel_rfl) (by kernel_rfl) (by kernel_rfl) hCl (fun _ _ _ h => h) (Or.inl ⟨by kernel_rfl, fun w' hSw => by kernel_rfl⟩) hS4 ?_
    clear hCl
    intro hCl
    simp only [Act.put, List.setIfInBounds_toArray, List.set_cons_zero, List.set_cons_succ]
    refine takeL (i := 13) (v := .pointer (some ⟨t.g, 1, none⟩)) 14 (some 43) rfl rfl (by kernel_rfl) (by kernel_rfl) (by kernel_rfl) (by kernel_rfl) hCl (fun _ _ _ h => h) (Or.inl ⟨by kernel_rfl, fun w' hSw => by kernel_rfl⟩) hS4 ?_
    clear hCl
    intro hCl
    simp only [Act.put, List.setIfInBounds_toArray, List.set_cons_zero, List.set_cons_succ]
    refine oneL (i := 14) rfl (by kernel_rfl) hCl (by kernel_rfl) (fun K1 hK1 => ?_)
    refine skipR (d := none) rfl (w' := Y4.setCell ⟨t.g, 1, none⟩ nev) (by have q1 := hS4.2; clear hS4; rw [hef] at q1; subst hxf; go_simp) ?_
    refine hK1.out _ _ (fun h => absurd rfl h) ?_
    clear hK1 hCl
    intro hCl
    simp only [Act.put, List.setIfInBounds_toArray, List.set_cons_zero, List.set_cons_succ]
    refine doneL (by kernel_rfl) ?_
    clear hCl
    refine hK7 _ _ ?_
    clear hK7 hS4 hF4
    have HF : Hid (encE c = 0 ∧ TpAt (Y4.setCell ⟨t.g, 1, none⟩ nev) (t.more (recL t.es.length (encL c)) nv nev) ∧ Fr w (Y4.setCell ⟨t.g, 1, none⟩ nev) t.own ∧ ∀ b, (t.more (recL t.es.length (encL c)) nv nev).own b → t.own b ∨ w.heap.size ≤ b) := by
      rw [HR.out]
      exact ⟨HEE.out.symm, HM4.out.done HN.out.symm⟩
    clear HM4
    generalize Y4.setCell ⟨t.g, 1, none⟩ nev = Y5 at *
    clear hnf hef hxf hwf hrow4
    go_wp2
    go_ret
    exact .inr ⟨HF.out.1, rfl, nv, nev, HF.out.2⟩
  · as_aux_lemma =>
    have HF : Hid (encE c ≠ 0 ∧ Below w.heap.size w W1) := ⟨by rw [← HEE.out]; exact he0, HB1.out.1⟩
    have he1 : (ee == 0) = false := by simp [he0]
    have he2 : (ee != 0) = true := by simp [he0]
    clear hx HB0 HB1
    go_wp2
    go_ret
    exact .inl ⟨HF.out.1, by rw [← HEE.out]; rfl, HF.out.2⟩
end Go.Proofs.Ytjnnecoikcmaeaa
