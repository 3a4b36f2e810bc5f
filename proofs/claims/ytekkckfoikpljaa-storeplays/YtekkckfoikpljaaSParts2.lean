/-
  store: Parts, of numbers that were passed.
-/
import Derived.Test.YtekkckfoikpljaaSPartsA
namespace Go.Proofs.Ytekkckfoikpljaa
set_option linter.unusedVariables false
set_option linter.unusedSimpArgs false
open Go.RowKit Go.Great

theorem skipL_len (l : List (Pt Msg)) (a nx : Nat) : (skipL l a nx).length ≤ l.length + 1 := by
  unfold skipL
  split
  · simp
  · omega
theorem PS.alloc {w wr : World} {v : Value} {np : Nat} {l : List (Pt Msg)} (h : PS w wr v np l) (o : Obj) : PS w (wr.alloc o) v np l :=
  ⟨h.len, h.row.fr (Fr.alloc wr o fun _ => False) (fun _ _ h => h), h.below.alloc h.below.size o, h.new⟩
/-- The parts so far, and a block of the call's own beside them. -/
structure PW (w wr : World) (gp : Nat) (cur : Array Value) (ty : TypeId) (v : Value) (np : Nat) (l : List (Pt Msg)) : Prop where
  ps : PS w wr v np l
  own : wr.heap[gp]? = some (.cells cur ty (0, 0))
  hi : w.heap.size ≤ gp
  ne : v.ownBlock ≠ some gp
theorem PS.own {w wr : World} {v : Value} {np : Nat} {l : List (Pt Msg)} (h : PS w wr v np l) (cur : Array Value) (ty : TypeId) : PW w (wr.alloc (.cells cur ty)) wr.heap.size cur ty v np l :=
  ⟨h.alloc _, heap_alloc_new wr _, h.below.size, fun e => by have := (h.row.lt e).1; omega⟩
section
variable {w wr wy : World} {gp : Nat} {cur : Array Value} {ty : TypeId} {v v' : Value} {np : Nat} {l l' : List (Pt Msg)}
theorem PW.drew (h : PW w wr gp cur ty v np l) : PW w wr.drew gp cur ty v np l :=
  ⟨⟨h.ps.len, h.ps.row.keep fun _ _ => rfl, h.ps.below.drew, h.ps.new⟩, h.own, h.hi, h.ne⟩
theorem PW.alloc (h : PW w wr gp cur ty v np l) (o : Obj) : PW w (wr.alloc o) gp cur ty v np l :=
  ⟨h.ps.alloc o, (Below.heap_alloc _ _ _ (Array.getElem?_eq_some_iff.1 h.own).1).trans h.own, h.hi, h.ne⟩
theorem PW.step (h : PW w wr gp cur ty v np l) (hf : Fr wr wy (fun b => v.ownBlock = some b)) (hn : newer wr v v') (hr : RowAt wy 36 45 v' l'.length (flatL ptL l')) : PW w wy gp cur ty v' l'.length l' := by
  have hgp := (Array.getElem?_eq_some_iff.1 h.own).1
  refine ⟨⟨rfl, hr, h.ps.below.trans (hf.below h.ps.below.size fun b hb e => by have := h.ps.new b e; omega), fun g hg => ?_⟩, (hf.block gp hgp h.ne).trans h.own, h.hi, fun e => ?_⟩
  · rcases hn with q | ⟨g', q, q2⟩
    · exact h.ps.new g (q ▸ hg)
    · rw [q] at hg; injection hg with hg; have := h.ps.below.size; omega
  · rcases hn with q | ⟨g', q, q2⟩
    · exact h.ne (q ▸ e)
    · rw [q] at e; injection e with e; omega
theorem PW.app (h : PW w wr gp cur ty v np l) (P : Pt Msg) {gn : Nat} (hg : wr.heap[gn]? = some (.cells (ptL P).toArray 36 (0, 0))) (hlen : np ≤ 10000000000) :
    ∃ v8 w8, (Builtin.append_ #[29, 29] 29 #[v, .slice (some ⟨gn, 0, none⟩) 1 1]).run Try.prog wr = .ok v8 w8 ∧ PW w w8 gp cur ty v8 (l ++ [P]).length (l ++ [P]) := by
  obtain ⟨i1, hi1, hx0, hx1, hx2⟩ := infoP'
  obtain ⟨v8, w8, h1, h2, h3, h4⟩ := run_append_row (P := Try.prog) wr 29 29 36 i1 _ 45 424 Try.underlying29 hi1 hx0 hx1 hx2 (by rw [Value.cells]; simp [ptL_len]) v np (flatL ptL l) h.ps.row ⟨gn, 0, none⟩ 1 1 (ptL P) (by rw [ptL_len]) (World.news_of_block (cs := (ptL P).toArray) (t := 36) (fr := (0, 0)) hg) (ptL_one _) (.inl (by decide)) (by unfold maxLen; omega) (by omega)
  refine ⟨v8, w8, h1, h.step (l' := l ++ [P]) h3 ?_ ?_⟩
  · rcases h4 with q | ⟨q, _⟩
    · exact .inl q
    · exact .inr ⟨_, q, Nat.le_refl _⟩
  · rw [List.length_append, h.ps.len, flatL_app, flatL_one]; exact h2
end
theorem loadP_run {op : Oper} {a : Act} {w : World} {g : Nat} {P : Pt Msg} (h : w.heap[g]? = some (.cells (ptL P).toArray 36 (0, 0))) (x : Operand) (ho : op.op = .load 36 x) (hx : a.eval x = .pointer (some ⟨g, 0, none⟩)) : (execOp a.eval op).run Try.prog w = .ok (.value (.agg (ptL P).toArray)) w := by
  have hl : Sem.run Try.prog (loadVar 36 ⟨g, 0, none⟩) w = .ok (.agg (ptL P).toArray) w := run_loadVar_row w g 36 36 (ptL P).toArray (0, 0) _ h Try.underlying36 rfl (by rw [show (ptL P).toArray.size = 45 by simp [ptL_len]]; kernel_rfl)
  unfold execOp
  simp only [ho, hx, Instr.loadAt, Instr.sureAddr, Sem.run_bind, Sem.run_pure, Result.andThen_ok, hl]
set_option maxRecDepth 100000 in
set_option maxHeartbeats 4000000 in
theorem Parts_yes {w : World} {p keep : Nat} {ev : List (Option Msg)} {vk vl : Value} (a b : Nat) (z2 : Int) (h : StAt w p keep ev vk vl) (hn : ev.length ≤ 900000000) (ha : 1 ≤ a) (hab : a ≤ b) (hb : b ≤ ev.length) (hz2 : z2 = b ∨ z2 = 0 ∧ b = ev.length) (hk : keep ≤ 200) :
    Calls Try.prog 10 #[.pointer (some ⟨p, 0, none⟩), .int .i64 (a : Int), .int .i64 z2] w fun e w' => ∃ v, e = .returned (.tuple #[v, .int .i64 0]) ∧ RowAt w' 36 45 v (prt keep ev a b).length (flatL ptL (prt keep ev a b)) ∧ Below w.heap.size w w' ∧ ∀ g, v.ownBlock = some g → w.heap.size ≤ g := by
  have hI := ev_inv keep h.evm.ok
  obtain ⟨-, c1, -, c3, c4⟩ := h.at
  obtain ⟨aol, capl, rfl, -⟩ := h.lost.form
  obtain ⟨aok, capk, rfl, -⟩ := h.kept.form
  have hll := lostL_len keep h.evm
  obtain ⟨f, k, hfk, hkn, hF, hK, hlo⟩ := lostOf_any (a := a) (b := b) (X := lostL seqM keep ev) rfl (by omega) h.lost (fun x _ => rfl) (fun x _ => rfl) c4 h.lt hab (fun i j x y hij hx hy => by have := hI.lup i j x y hij hx hy; have := hI.lin j y hy; omega) (fun i j x y hij hx hy => by have := hI.lup i j x y hij hx hy; have := hI.lin i x hx; omega) (fun x hx => by obtain ⟨i, hi⟩ := List.getElem?_of_mem hx; exact (hI.lin i x hi).2.1)
  have hK2 := fun (w' : World) (hw : Below w.heap.size w w') => keptOf_any (w := w') (p := p) (a := a) (b := b) (X := keptL keep ev) rfl (by rw [keptL_len]; omega) (h.kept.keep fun g hg => hw.block g (h.kept.lt hg).1) (Kept_seq h.evm) (Kept_seq h.evm) ((hw.cell h.lt).trans c3) (by have := hw.size; have := h.lt; omega) hab (fun i j x y hij hx hy => by have := hI.kup i j x y hij hx hy; omega) (fun i j x y hij hx hy => by have := hI.kup i j x y hij hx hy; omega) (fun x hx => Nat.le_refl _)
  have HALL : Hid (StAt w p keep ev (.slice aok (keptL keep ev).length capk) (.slice aol (lostL seqM keep ev).length capl) ∧ Inv seqM ev.length (cd keep ev) (mm keep ev) (keptL keep ev) (lostL seqM keep ev)) := ⟨h, hI⟩
  have HF : Hid ((∀ (i : Nat) (x : Nat × Nat), (lostL seqM keep ev)[i]? = some x → (i < f ↔ x.2 < a)) ∧ (∀ (i : Nat) (x : Nat × Nat), (lostL seqM keep ev)[i]? = some x → (i < k ↔ x.1 ≤ b))) := ⟨hF, hK⟩
  have HK2 : Hid _ := hK2
  clear hF hK hK2 h hI
  rw [show ((ev.length + 1 : Nat) : Int) = (ev.length : Int) + 1 by omega] at c1
  have HEV : Hid (ev.length ≤ 900000000 ∧ b ≤ ev.length) := ⟨hn, hb⟩
  have hbn : (b : Int) < (ev.length : Int) + 1 := by omega
  have hnb : ¬ (ev.length : Int) + 1 ≤ (b : Int) := by omega
  have hb1 : (ev.length : Int) + 1 - 1 = (ev.length : Int) := by omega
  have hb4 : IntKind.i64.wrap (ev.length : Int) = (ev.length : Int) := by rw [IntKind.wrap_i64]; omega
  have hab' : (a : Int) ≤ (b : Int) := by omega
  have ha' : ¬ (a : Int) < 1 := by omega
  have hab2 : ¬ (b : Int) < (a : Int) := by omega
  rcases hz2 with hz2 | ⟨hz2, hz3⟩
  · subst hz2
    have hbz : ¬ (b : Int) = 0 := by omega
    go_enter Try.func10, Try.ntmps10
    go_wp2_with (go_at_call 18; fail)
    refine hlo.mono ?_
    rintro e w1 ⟨ao1, rfl, hr1, hb1', ho1⟩
    have HL1 : Hid (RowAt w1 62 2 (.slice ao1 (k - f) (k - f)) (k - f) (flatL rowV (((lostL seqM keep ev).drop f).take (k - f))) ∧ Below w.heap.size w w1 ∧ ((Value.slice ao1 (k - f) (k - f)).ownBlock = none ∨ (Value.slice ao1 (k - f) (k - f)).ownBlock = (Value.slice aol (lostL seqM keep ev).length capl).ownBlock)) := ⟨hr1, hb1', ho1⟩
    clear hr1 hb1' ho1 hlo
    obtain ⟨N1, hN1⟩ : ∃ N1, k - f = N1 := ⟨_, rfl⟩
    rw [hN1] at HL1 ⊢
    have HN1 : Hid (k - f = N1 ∧ f ≤ k ∧ k ≤ (lostL seqM keep ev).length) := ⟨hN1, hfk, hkn⟩
    clear hN1 hfk hkn
    go_upto_region 7 with fail
    go_loopw [8, 10, 11, 41] (fun x8 _ _ x41 wr => ∃ (t np : Nat) (ao : Option Addr) (cp : Nat), t ≤ N1 ∧ x41 = .int .i64 (t : Int) ∧ x8 = .slice ao np cp ∧ Hid (∃ cu, GA (cd keep ev) (lostL seqM keep ev) a b f t cu ∧ PS w wr (.slice ao np cp) np (gr (cd keep ev) (mm keep ev) a (cu - a)))) (fun _ _ _ x41 _ => N1 - (intOf x41).toNat)
    case atStart => exact ⟨0, 0, none, 0, Nat.zero_le _, rfl, rfl, a, ga_zero (by omega), by rw [Nat.sub_self]; exact ⟨rfl, RowAt.none0 _ _ _, HL1.out.2.1, fun g hg => by cases hg⟩⟩
    case round =>
      obtain ⟨t, np, ao, cp, ht, rfl, rfl, hG⟩ := hrel
      by_cases hlt : t < N1
      · have hlt' : (t : Int) < (N1 : Int) := by omega
        have htb : (t : Int) + 1 < 9223372036854775808 := by have h1 := HN1.out; have h2 := HEV.out; omega
        have htw : IntKind.i64.wrap ((t : Int) + 1) = (t : Int) + 1 := by rw [IntKind.wrap_i64]; omega
        obtain ⟨r, hr⟩ : ∃ r, (lostL seqM keep ev)[f + t]? = some r := ⟨_, List.getElem?_eq_getElem (by have := HN1.out; omega)⟩
        have hrp : (((lostL seqM keep ev).drop f).take N1)[t]? = some r := by rw [List.getElem?_take, if_pos hlt, List.getElem?_drop]; exact hr
        obtain ⟨cu, hga, hps⟩ := hG.out
        have hrw : RowAt wr 62 2 (.slice ao1 N1 N1) N1 (flatL rowV (((lostL seqM keep ev).drop f).take N1)) := HL1.out.1.keep fun g hg => by
          rcases HL1.out.2.2 with q | q
          · rw [q] at hg; cases hg
          · have hgl := (HALL.out.1.lost.lt (q ▸ hg)).1
            exact (hps.below.block g hgl).trans (HL1.out.2.1.block g hgl).symm
        obtain ⟨g1, o1, c1', cur1, e1, -⟩ := hrw.more (by omega)
        injection e1 with e1 _ e2
        subst e1
        clear e2
        have cr1 : wr.cell? ⟨g1, o1 + (t * 2 + 0), none⟩ = some (.int .i64 (r.1 : Int)) := hrw.cell rfl (by rw [flatL_get rowV_len hrp (by decide)]; rfl)
        have cr2 : wr.cell? ⟨g1, o1 + (t * 2 + 1), none⟩ = some (.int .i64 (r.2 : Int)) := hrw.cell rfl (by rw [flatL_get rowV_len hrp (by decide)]; rfl)
        rw [Nat.add_zero] at cr1
        rw [← Nat.add_assoc] at cr2
        obtain ⟨m, hm⟩ : ∃ m, max r.1 a = m + 1 := ⟨max r.1 a - 1, by omega⟩
        obtain ⟨y, hy⟩ : ∃ y, min r.2 b = y := ⟨_, rfl⟩
        have hstep := ga_step HALL.out.2 ha hab HEV.out.2 HF.out.1 HF.out.2 hga hr (by have := HN1.out; omega)
        rw [hm, hy] at hstep
        have HST : Hid _ := hstep
        have hyb : y ≤ b := by omega
        have hmb : m + 1 ≤ y := hstep.2.2.1
        have HPS : Hid (PS w wr (.slice ao np cp) np (gr (cd keep ev) (mm keep ev) a (cu - a)) ∧ m + 1 ≤ y ∧ y ≤ b) := ⟨hps, hmb, hyb⟩
        have HB : Hid (np ≤ 1000000000 ∧ a ≤ 10000000000 ∧ m ≤ 10000000000 ∧ ∀ q, q ∈ gr (cd keep ev) (mm keep ev) a (cu - a) → q.to ≤ 10000000000) := by
          have h0 := HEV.out
          have hcu := hga.2.1
          refine ⟨by have := gr_len (c := cd keep ev) (g := mm keep ev) a (cu - a); rw [hps.len] at this; omega, by omega, by omega, fun q hq => by have := gr_to hq; omega⟩
        clear hstep hps hrw hrp hga hr hG hyb hmb
        go_upto_region 9 with fail
        clear cr1 cr2
        rename_i Kc hKc
        refine wp_region_lit ?_
        have HX2 : Hid (PS w (wr.alloc (Obj.cells #[.int .i64 (r.1 : Int), .int .i64 (r.2 : Int)] 62)) (.slice ao np cp) np (gr (cd keep ev) (mm keep ev) a (cu - a))) := HPS.out.1.alloc _
        generalize hw2 : wr.alloc (Obj.cells #[.int .i64 (r.1 : Int), .int .i64 (r.2 : Int)] 62) = w2 at *
        have d0 : w2.cell? ⟨wr.heap.size, 0, none⟩ = some (.int .i64 (r.1 : Int)) := by rw [← hw2]; exact cell_at (heap_alloc_new wr _) rfl
        have d1 : w2.cell? ⟨wr.heap.size, 1, none⟩ = some (.int .i64 (r.2 : Int)) := by rw [← hw2]; exact cell_at (heap_alloc_new wr _) rfl
        clear hw2
        have hmx : max (r.1 : Int) (a : Int) = (m : Int) + 1 := by omega
        have hmn : min (r.2 : Int) (b : Int) = (y : Int) := by omega
        refine wpList_runTo rfl (some 45) rfl (.pointer (some ⟨wr.heap.size, 0, none⟩)) w2 (by kernel_rfl) ?_
        simp only [Act.put, List.setIfInBounds_toArray, List.set_cons_zero, List.set_cons_succ]
        refine wpList_runTo rfl (some 46) rfl (.int .i64 (r.1 : Int)) w2 (by go_simp) ?_
        simp only [Act.put, List.setIfInBounds_toArray, List.set_cons_zero, List.set_cons_succ]
        refine wpList_runTo rfl (some 47) rfl (.int .i64 (a : Int)) w2 (by kernel_rfl) ?_
        simp only [Act.put, List.setIfInBounds_toArray, List.set_cons_zero, List.set_cons_succ]
        refine wpList_runTo rfl (some 48) rfl (.int .i64 ((m : Int) + 1)) w2 (by go_simp) ?_
        simp only [Act.put, List.setIfInBounds_toArray, List.set_cons_zero, List.set_cons_succ]
        refine wpList_runTo rfl (some 49) rfl (.pointer (some ⟨wr.heap.size, 1, none⟩)) w2 (by kernel_rfl) ?_
        simp only [Act.put, List.setIfInBounds_toArray, List.set_cons_zero, List.set_cons_succ]
        refine wpList_runTo rfl (some 50) rfl (.int .i64 (r.2 : Int)) w2 (by go_simp) ?_
        simp only [Act.put, List.setIfInBounds_toArray, List.set_cons_zero, List.set_cons_succ]
        refine wpList_runTo rfl (some 51) rfl (.int .i64 (b : Int)) w2 (by kernel_rfl) ?_
        simp only [Act.put, List.setIfInBounds_toArray, List.set_cons_zero, List.set_cons_succ]
        refine wpList_runTo rfl (some 52) rfl (.int .i64 (y : Int)) w2 (by go_simp) ?_
        simp only [Act.put, List.setIfInBounds_toArray, List.set_cons_zero, List.set_cons_succ]
        refine wpList_runTo rfl (some 53) rfl (.agg (ptL (⟨m + 1, y, true, none⟩ : Pt Msg)).toArray) w2 (by kernel_rfl) ?_
        simp only [Act.put, List.setIfInBounds_toArray, List.set_cons_zero, List.set_cons_succ]
        refine wpList_runTo rfl (some 11) rfl (.pointer (some ⟨w2.heap.size, 0, none⟩)) (w2.alloc (.cells (ptL (⟨0, 0, false, none⟩ : Pt Msg)).toArray 36)) (by kernel_rfl) ?_
        simp only [Act.put, List.setIfInBounds_toArray, List.set_cons_zero, List.set_cons_succ]
        refine wpList_store_row rfl 36 (.tmp 11) (.tmp 53) rfl w2.heap.size (ptL (⟨m + 1, y, true, none⟩ : Pt Msg)).toArray (by kernel_rfl) (by kernel_rfl) 36 _ (heap_alloc_new w2 _) (by kernel_rfl) (by kernel_rfl) (by kernel_rfl) ?_
        rw [World.setRow_alloc_new]
        refine wpList_nil ?_
        refine hKc _ _ ?_
        simp only [Act.put, List.setIfInBounds_toArray, List.set_cons_zero, List.set_cons_succ]
        have HX0 : Hid (PW w (w2.alloc (.cells (ptL (⟨m + 1, y, true, none⟩ : Pt Msg)).toArray 36)) w2.heap.size (ptL (⟨m + 1, y, true, none⟩ : Pt Msg)).toArray 36 (.slice ao np cp) np (gr (cd keep ev) (mm keep ev) a (cu - a))) := HX2.out.own _ _
        clear hKc d0 d1 hmx hmn HX2
        generalize w2.alloc (.cells (ptL (⟨m + 1, y, true, none⟩ : Pt Msg)).toArray 36) = wp at *
        generalize w2.heap.size = gp at *
        clear HPS
        generalize hpq : (ptL (⟨m + 1, y, true, none⟩ : Pt Msg)).toArray = pq at *
        go_upto_region 10 with fail
        subst hpq
        rename_i Kc hKc
        refine wp_region_held (S := fun w' => w'.heap[gp]? = some (.cells (ptL (⟨m + 1, y, true, none⟩ : Pt Msg)).toArray 36 (0, 0))) (by kernel_rfl) ?_
        change wpAnyH _ _ _ _ _ _ _ _ (World.drew _)
        have HX : Hid _ := HX0.out.drew
        clear HX0
        generalize wp.drew = w5 at *
        have hS5 := HX.out.own
        refine takeR (i := 0) (v := .slice ao np cp) (some 54) rfl rfl (by kernel_rfl) (by kernel_rfl) (by kernel_rfl) (fun _ _ _ h => h) (Or.inl ⟨by kernel_rfl, fun w' hSw => by kernel_rfl⟩) hS5 ?_
        simp only [Act.put, List.setIfInBounds_toArray, List.set_cons_zero, List.set_cons_succ]
        refine takeR (i := 1) (v := .int .i64 (a : Int)) (some 55) rfl rfl (by kernel_rfl) (by kernel_rfl) (by kernel_rfl) (fun _ _ _ h => h) (Or.inl ⟨by kernel_rfl, fun w' hSw => by kernel_rfl⟩) hS5 ?_
        simp only [Act.put, List.setIfInBounds_toArray, List.set_cons_zero, List.set_cons_succ]
        refine takeR (i := 2) (v := .pointer (some ⟨gp, 0, none⟩)) (some 56) rfl rfl (by kernel_rfl) (by kernel_rfl) (by kernel_rfl) (fun _ _ _ h => h) (Or.inl ⟨by kernel_rfl, fun w' hSw => by kernel_rfl⟩) hS5 ?_
        simp only [Act.put, List.setIfInBounds_toArray, List.set_cons_zero, List.set_cons_succ]
        refine takeR (i := 3) (v := .int .i64 ((m : Int) + 1)) (some 57) rfl rfl (by kernel_rfl) (by kernel_rfl) (by kernel_rfl) (fun _ _ _ h => h) (Or.inl ⟨by kernel_rfl, fun w' hSw => by have q0 : w'.cell? ⟨gp, 0, none⟩ = some (.int .i64 ((m : Int) + 1)) := cell_at hSw rfl; go_simp⟩) hS5 ?_
        simp only [Act.put, List.setIfInBounds_toArray, List.set_cons_zero, List.set_cons_succ]
        refine takeR (i := 5) (v := .agg (ptL (⟨m + 1, y, true, none⟩ : Pt Msg)).toArray) (some 59) rfl rfl (by kernel_rfl) (by kernel_rfl) (by kernel_rfl) (fun _ _ _ h => h) (Or.inl ⟨by kernel_rfl, fun w' hSw => by exact loadP_run hSw (.tmp 11) rfl (by kernel_rfl)⟩) hS5 ?_
        simp only [Act.put, List.setIfInBounds_toArray, List.set_cons_zero, List.set_cons_succ]
        refine wpAnyH_ready (rs := [4, 6]) (by kernel_rfl) (by simp) ?_
        refine AllReadyH.cons rfl (fun K1 hK1 => ?_) (AllReadyH.cons rfl (fun K1 hK1 => ?_) AllReadyH.nil)
        · rw [if_pos (by kernel_rfl)]
          refine callR (d := some 58) rfl 19 #[.slice ao np cp, .int .i64 (a : Int), .int .i64 ((m : Int) + 1)] (by kernel_rfl) (skipTo_any (a := a) (m := m) _ HX.out.ps.len HX.out.ps.row HB.out.1 HB.out.2.1 HB.out.2.2.1 HB.out.2.2.2) ?_
          rintro e w6 ⟨v6, rfl, hr6, hf6, hn6⟩
          refine ⟨_, rfl, ?_⟩
          have HX6 : Hid _ := HX.out.step hf6 hn6 hr6
          refine hK1.out _ _ HX6.out.own (fun _ => ?_)
          clear hK1 hf6 hn6 hr6
          simp only [Act.put, List.setIfInBounds_toArray, List.set_cons_zero, List.set_cons_succ]
          refine wpAnyH_ready (rs := [6]) (by kernel_rfl) (by simp) ?_
          refine AllReadyH.cons rfl (fun K2 hK2 => ?_) AllReadyH.nil
          rw [if_pos (by kernel_rfl)]
          refine valR (d := some 60) rfl (.slice (some ⟨w6.heap.size, 0, none⟩) 1 1) (w' := w6.alloc (.cells (ptL (⟨m + 1, y, true, none⟩ : Pt Msg)).toArray 36)) (by kernel_rfl) ?_
          have HX7 : Hid _ := HX6.out.alloc (.cells (ptL (⟨m + 1, y, true, none⟩ : Pt Msg)).toArray 36)
          have hgn : (w6.alloc (.cells (ptL (⟨m + 1, y, true, none⟩ : Pt Msg)).toArray 36)).heap[w6.heap.size]? = some (.cells (ptL (⟨m + 1, y, true, none⟩ : Pt Msg)).toArray 36 (0, 0)) := heap_alloc_new w6 _
          refine hK2.out _ _ HX7.out.own (fun _ => ?_)
          clear hK2 HX6
          simp only [Act.put, List.setIfInBounds_toArray, List.set_cons_zero, List.set_cons_succ]
          generalize w6.alloc (.cells (ptL (⟨m + 1, y, true, none⟩ : Pt Msg)).toArray 36) = w7 at *
          generalize w6.heap.size = gn at *
          refine wpAnyH_ready (rs := [7]) (by kernel_rfl) (by simp) ?_
          refine AllReadyH.cons rfl (fun K3 hK3 => ?_) AllReadyH.nil
          rw [if_pos (by kernel_rfl)]
          obtain ⟨v8, w8, hrun, hx8⟩ := HX7.out.app (⟨m + 1, y, true, none⟩ : Pt Msg) hgn (by have h0 := HX.out.ps.len; have h1 := HB.out.1; have h2 := skipL_len (gr (cd keep ev) (mm keep ev) a (cu - a)) a (m + 1); omega)
          refine valR (d := some 61) rfl v8 (exec_append (.tmp 58) (.tmp 60) 29 rfl (by kernel_rfl) (by kernel_rfl) hrun) ?_
          refine hK3.out _ _ hx8.own (fun hS8 => ?_)
          clear hK3 hrun
          simp only [Act.put, List.setIfInBounds_toArray, List.set_cons_zero, List.set_cons_succ]
          have HX8 : Hid _ := hx8
          clear hx8 HX7 hgn
          refine takeR (i := 8) (v := v8) (some 8) rfl rfl (by kernel_rfl) (by kernel_rfl) (by kernel_rfl) (fun _ _ _ h => h) (Or.inl ⟨by kernel_rfl, fun w' hSw => by kernel_rfl⟩) hS8 ?_
          simp only [Act.put, List.setIfInBounds_toArray, List.set_cons_zero, List.set_cons_succ]
          refine wpAnyH_done (by kernel_rfl) ?_ _
          refine hKc _ _ ?_
          obtain ⟨ao8, cp8, rfl, -⟩ := HX8.out.ps.row.form
          clear hKc hS8 hS5
          generalize hn8 : (skipL (gr (cd keep ev) (mm keep ev) a (cu - a)) a (m + 1) ++ [(⟨m + 1, y, true, none⟩ : Pt Msg)]).length = n8 at *
          clear hn8
          generalize hpc : (ptL (⟨m + 1, y, true, none⟩ : Pt Msg)).toArray = pcs at *
          clear hpc
          go_wp2
          go_roundw
          case rel => exact ⟨t + 1, _, ao8, cp8, by omega, by go_num, rfl, y + 1, HST.out.2.1, by have e := HST.out.1; have h8 := HX8.out.ps; rw [e] at h8; exact h8⟩
          case measure => simp [intOf]; omega
        · rw [if_pos (by kernel_rfl)]
          refine valR (d := some 60) rfl (.slice (some ⟨w5.heap.size, 0, none⟩) 1 1) (w' := w5.alloc (.cells (ptL (⟨m + 1, y, true, none⟩ : Pt Msg)).toArray 36)) (by kernel_rfl) ?_
          have HX6 : Hid _ := HX.out.alloc (.cells (ptL (⟨m + 1, y, true, none⟩ : Pt Msg)).toArray 36)
          have hgn6 : (w5.alloc (.cells (ptL (⟨m + 1, y, true, none⟩ : Pt Msg)).toArray 36)).heap[w5.heap.size]? = some (.cells (ptL (⟨m + 1, y, true, none⟩ : Pt Msg)).toArray 36 (0, 0)) := heap_alloc_new w5 _
          have hgv : (Value.slice ao np cp).ownBlock ≠ some w5.heap.size := fun e => by have := (HX.out.ps.row.lt e).1; omega
          refine hK1.out _ _ HX6.out.own (fun _ => ?_)
          clear hK1
          simp only [Act.put, List.setIfInBounds_toArray, List.set_cons_zero, List.set_cons_succ]
          generalize w5.alloc (.cells (ptL (⟨m + 1, y, true, none⟩ : Pt Msg)).toArray 36) = w6 at *
          generalize w5.heap.size = gn at *
          refine wpAnyH_ready (rs := [4]) (by kernel_rfl) (by simp) ?_
          refine AllReadyH.cons rfl (fun K2 hK2 => ?_) AllReadyH.nil
          rw [if_pos (by kernel_rfl)]
          refine callR (d := some 58) rfl 19 #[.slice ao np cp, .int .i64 (a : Int), .int .i64 ((m : Int) + 1)] (by kernel_rfl) (skipTo_any (a := a) (m := m) _ HX6.out.ps.len HX6.out.ps.row HB.out.1 HB.out.2.1 HB.out.2.2.1 HB.out.2.2.2) ?_
          rintro e w7 ⟨v6, rfl, hr6, hf6, hn6⟩
          refine ⟨_, rfl, ?_⟩
          have HX7 : Hid _ := HX6.out.step hf6 hn6 hr6
          have hgn : w7.heap[gn]? = some (.cells (ptL (⟨m + 1, y, true, none⟩ : Pt Msg)).toArray 36 (0, 0)) := (hf6.block gn (Array.getElem?_eq_some_iff.1 hgn6).1 hgv).trans hgn6
          refine hK2.out _ _ HX7.out.own (fun _ => ?_)
          clear hK2 hf6 hn6 hr6 hgn6 hgv HX6
          simp only [Act.put, List.setIfInBounds_toArray, List.set_cons_zero, List.set_cons_succ]
          refine wpAnyH_ready (rs := [7]) (by kernel_rfl) (by simp) ?_
          refine AllReadyH.cons rfl (fun K3 hK3 => ?_) AllReadyH.nil
          rw [if_pos (by kernel_rfl)]
          obtain ⟨v8, w8, hrun, hx8⟩ := HX7.out.app (⟨m + 1, y, true, none⟩ : Pt Msg) hgn (by have h0 := HX.out.ps.len; have h1 := HB.out.1; have h2 := skipL_len (gr (cd keep ev) (mm keep ev) a (cu - a)) a (m + 1); omega)
          refine valR (d := some 61) rfl v8 (exec_append (.tmp 58) (.tmp 60) 29 rfl (by kernel_rfl) (by kernel_rfl) hrun) ?_
          refine hK3.out _ _ hx8.own (fun hS8 => ?_)
          clear hK3 hrun
          simp only [Act.put, List.setIfInBounds_toArray, List.set_cons_zero, List.set_cons_succ]
          have HX8 : Hid _ := hx8
          clear hx8 HX7 hgn
          refine takeR (i := 8) (v := v8) (some 8) rfl rfl (by kernel_rfl) (by kernel_rfl) (by kernel_rfl) (fun _ _ _ h => h) (Or.inl ⟨by kernel_rfl, fun w' hSw => by kernel_rfl⟩) hS8 ?_
          simp only [Act.put, List.setIfInBounds_toArray, List.set_cons_zero, List.set_cons_succ]
          refine wpAnyH_done (by kernel_rfl) ?_ _
          refine hKc _ _ ?_
          obtain ⟨ao8, cp8, rfl, -⟩ := HX8.out.ps.row.form
          clear hKc hS8 hS5
          generalize hn8 : (skipL (gr (cd keep ev) (mm keep ev) a (cu - a)) a (m + 1) ++ [(⟨m + 1, y, true, none⟩ : Pt Msg)]).length = n8 at *
          clear hn8
          generalize hpc : (ptL (⟨m + 1, y, true, none⟩ : Pt Msg)).toArray = pcs at *
          clear hpc
          go_wp2
          go_roundw
          case rel => exact ⟨t + 1, _, ao8, cp8, by omega, by go_num, rfl, y + 1, HST.out.2.1, by have e := HST.out.1; have h8 := HX8.out.ps; rw [e] at h8; exact h8⟩
          case measure => simp [intOf]; omega
      · obtain rfl : t = N1 := by omega
        obtain ⟨cu, hga, hps⟩ := hG.out
        have hga0 := hga
        rw [← HN1.out.1] at hga
        have hend := ga_end HALL.out.2 ha HEV.out.2 HF.out.1 HF.out.2 HN1.out.2.1 hga
        obtain ⟨f2, k2, hfk2, hkn2, hF2, hE2, hko⟩ := HK2.out wr hps.below
        have HGA : Hid ((∀ q, cu ≤ q → q ≤ b → cd keep ev q ≠ 2) ∧ a ≤ cu ∧ cu ≤ b + 1 ∧ (cu = a ∨ cd keep ev (cu - 1) = 2)) := ⟨hend, hga0.1, hga0.2.1, hga0.2.2.1⟩
        have HPS : Hid (PS w wr (.slice ao np cp) np (gr (cd keep ev) (mm keep ev) a (cu - a))) := hps
        have HF2 : Hid ((∀ (i : Nat) (x : Msg), (keptL keep ev)[i]? = some x → (i < f2 ↔ seqM x < a)) ∧ (∀ (i : Nat) (x : Msg), (keptL keep ev)[i]? = some x → (i < k2 ↔ seqM x ≤ b))) := ⟨hF2, hE2⟩
        obtain ⟨N2, hN2⟩ : ∃ N2, k2 - f2 = N2 := ⟨_, rfl⟩
        rw [hN2] at hko
        have HN2 : Hid (k2 - f2 = N2 ∧ f2 ≤ k2 ∧ k2 ≤ (keptL keep ev).length) := ⟨hN2, hfk2, hkn2⟩
        clear hend hga0 hga hps hG HK2 hF2 hE2 hN2 hfk2 hkn2
        go_wp2_with (go_at_call 20; fail)
        refine hko.mono ?_
        rintro e w1' ⟨ao2, rfl, hr2, hb2, ho2⟩
        have HL2 : Hid (RowAt w1' 34 42 (.slice ao2 N2 N2) N2 (flatL msgV (((keptL keep ev).drop f2).take N2)) ∧ Below wr.heap.size wr w1' ∧ ((Value.slice ao2 N2 N2).ownBlock = none ∨ (Value.slice ao2 N2 N2).ownBlock = (Value.slice aok (keptL keep ev).length capk).ownBlock)) := ⟨hr2, hb2, ho2⟩
        have HBW : Hid (Below w.heap.size w w1') := HPS.out.below.trans (hb2.mono HPS.out.below.size)
        have HPS1 : Hid (PS w w1' (.slice ao np cp) np (gr (cd keep ev) (mm keep ev) a (cu - a))) := ⟨HPS.out.len, HPS.out.row.keep (fun g hg => hb2.block g (HPS.out.row.lt hg).1), HBW.out, HPS.out.new⟩
        clear hr2 hb2 ho2 hko HPS
        go_upto_region 13 with fail
        generalize hcu0 : cu = c0 at *
        clear hcu0
        go_loopw [8, 13, 68] (fun x8 _ x68 wq => ∃ (t np : Nat) (ao : Option Addr) (cp : Nat), t ≤ N2 ∧ x68 = .int .i64 (t : Int) ∧ x8 = .slice ao np cp ∧ Hid (∃ cu, GB (cd keep ev) (keptL keep ev) a b c0 f2 t cu ∧ PS w wq (.slice ao np cp) np (gr (cd keep ev) (mm keep ev) a (cu - a)))) (fun _ _ x68 _ => N2 - (intOf x68).toNat)
        case atStart => exact ⟨0, np, ao, cp, Nat.zero_le _, rfl, rfl, c0, gb_zero HGA.out.2.2.1 HGA.out.2.2.2, HPS1.out⟩
        case round =>
          clear HPS1
          obtain ⟨t, np, ao, cp, ht, rfl, rfl, hG⟩ := hrel
          by_cases hlt : t < N2
          · have hlt' : (t : Int) < (N2 : Int) := by omega
            have hkl2 := keptL_len keep ev
            have htb : (t : Int) + 1 < 9223372036854775808 := by have h1 := HN2.out; omega
            have htw : IntKind.i64.wrap ((t : Int) + 1) = (t : Int) + 1 := by rw [IntKind.wrap_i64]; omega
            clear hkl2
            obtain ⟨M, hM⟩ : ∃ M, (keptL keep ev)[f2 + t]? = some M := ⟨_, List.getElem?_eq_getElem (by have := HN2.out; omega)⟩
            have hMp : (((keptL keep ev).drop f2).take N2)[t]? = some M := by rw [List.getElem?_take, if_pos hlt, List.getElem?_drop]; exact hM
            obtain ⟨cu, hgb, hps⟩ := hG.out
            have hrw : RowAt wr 34 42 (.slice ao2 N2 N2) N2 (flatL msgV (((keptL keep ev).drop f2).take N2)) := HL2.out.1.keep fun g hg => by
              rcases HL2.out.2.2 with q | q
              · rw [q] at hg; cases hg
              · have hgl := (HALL.out.1.kept.lt (q ▸ hg)).1
                exact (hps.below.block g hgl).trans (HBW.out.block g hgl).symm
            obtain ⟨g2, o2, c2', cur2, e1, -⟩ := hrw.more (by omega)
            injection e1 with e1 _ e2
            subst e1
            clear e2
            have HRG : Hid (wr.rangeAt g2 (o2 + t * 42) M.cs.toList) := fun j u hu => by
              have hj : j < 42 := by have := (List.getElem?_eq_some_iff.1 hu).1; rw [M.cs_len] at this; exact this
              rw [Nat.add_assoc]
              exact hrw.cell rfl (by rw [flatL_get msgV_len hMp hj]; exact hu)
            have hk3 := HALL.out.2.kin _ _ hM
            obtain ⟨m, hm⟩ : ∃ m, seqM M = m + 1 := ⟨seqM M - 1, by omega⟩
            have hmz := HALL.out.1.evm.seq (List.mem_of_mem_drop (List.mem_of_getElem? hM))
            rw [hm] at hmz
            have HMZ : Hid (M.z 3 = (m : Int) + 1) := by show M.z 3 = _; omega
            have hstep := gb_step HALL.out.2 ha hab HEV.out.2 HGA.out.2.1 HGA.out.2.2.2 HGA.out.1 HF2.out.1 HF2.out.2 hgb hM (by have := HN2.out; omega)
            rw [hm] at hstep
            have HST : Hid _ := hstep
            have hmb : m + 1 ≤ b := hstep.2.2.2.2
            have HPS : Hid (PS w wr (.slice ao np cp) np (gr (cd keep ev) (mm keep ev) a (cu - a))) := hps
            have HB : Hid (np ≤ 1000000000 ∧ a ≤ 10000000000 ∧ m ≤ 10000000000 ∧ ∀ q, q ∈ gr (cd keep ev) (mm keep ev) a (cu - a) → q.to ≤ 10000000000) := by
              have h0 := HEV.out
              have hcu := hgb.2.1
              refine ⟨by have := gr_len (c := cd keep ev) (g := mm keep ev) a (cu - a); rw [hps.len] at this; omega, by omega, by omega, fun q hq => by have := gr_to hq; omega⟩
            clear hstep hps hrw hMp hgb hM hG hmb hk3 hm hmz
            go_upto_region 14 with fail
            rename_i Kc hKc
            refine wp_region_lit ?_
            refine wpList_runTo rfl (some 70) rfl (.pointer (some ⟨g2, o2 + t * 42, none⟩)) wr (by go_simp) ?_
            simp only [Act.put, List.setIfInBounds_toArray, List.set_cons_zero, List.set_cons_succ]
            refine wpList_load_mid rfl 34 (.tmp 70) rfl g2 (o2 + t * 42) (by kernel_rfl) M.cs.toList _ HRG.out Try.underlying34 rfl (by rw [M.cs_len]; kernel_rfl) ?_
            rw [show M.cs.toList.toArray = M.cs by simp]
            simp only [Act.put, List.setIfInBounds_toArray, List.set_cons_zero, List.set_cons_succ]
            refine wpList_runTo rfl (some 13) rfl (.pointer (some ⟨wr.heap.size, 0, none⟩)) (wr.alloc (.cells zeroM.cs 34)) (by kernel_rfl) ?_
            simp only [Act.put, List.setIfInBounds_toArray, List.set_cons_zero, List.set_cons_succ]
            refine wpList_store_row rfl 34 (.tmp 13) (.tmp 71) rfl wr.heap.size M.cs (by kernel_rfl) (by kernel_rfl) 34 _ (heap_alloc_new wr _) (by first | (rw [M.cs_size]; kernel_rfl) | rw [M.cs_size, zeroM.cs_size] | exact M.one) (by first | (rw [M.cs_size, zeroM.cs_size]; done) | exact M.one | (rw [M.cs_size]; kernel_rfl)) (by first | exact M.one | rw [M.cs_size, zeroM.cs_size]) ?_
            rw [World.setRow_alloc_new]
            refine wpList_nil ?_
            refine hKc _ _ ?_
            simp only [Act.put, List.setIfInBounds_toArray, List.set_cons_zero, List.set_cons_succ]
            have HX0 : Hid (PW w (wr.alloc (.cells M.cs 34)) wr.heap.size M.cs 34 (.slice ao np cp) np (gr (cd keep ev) (mm keep ev) a (cu - a))) := HPS.out.own _ _
            clear hKc HRG HPS
            generalize wr.alloc (.cells M.cs 34) = wp at *
            generalize wr.heap.size = gp at *
            generalize hcsq : M.cs = csq at *
            go_upto_region 15 with fail
            subst hcsq
            rename_i Kc hKc
            refine wp_region_held (S := fun w' => w'.heap[gp]? = some (.cells M.cs 34 (0, 0))) (by kernel_rfl) ?_
            change wpAnyH _ _ _ _ _ _ _ _ (World.drew _)
            have HX : Hid _ := HX0.out.drew
            clear HX0
            generalize wp.drew = w5 at *
            have hS5 := HX.out.own
            refine takeR (i := 0) (v := .slice ao np cp) (some 72) rfl rfl (by kernel_rfl) (by kernel_rfl) (by kernel_rfl) (fun _ _ _ h => h) (Or.inl ⟨by kernel_rfl, fun w' hSw => by kernel_rfl⟩) hS5 ?_
            simp only [Act.put, List.setIfInBounds_toArray, List.set_cons_zero, List.set_cons_succ]
            refine takeR (i := 1) (v := .int .i64 (a : Int)) (some 73) rfl rfl (by kernel_rfl) (by kernel_rfl) (by kernel_rfl) (fun _ _ _ h => h) (Or.inl ⟨by kernel_rfl, fun w' hSw => by kernel_rfl⟩) hS5 ?_
            simp only [Act.put, List.setIfInBounds_toArray, List.set_cons_zero, List.set_cons_succ]
            refine takeR (i := 2) (v := .pointer (some ⟨gp, 3, none⟩)) (some 74) rfl rfl (by kernel_rfl) (by kernel_rfl) (by kernel_rfl) (fun _ _ _ h => h) (Or.inl ⟨by kernel_rfl, fun w' hSw => by kernel_rfl⟩) hS5 ?_
            simp only [Act.put, List.setIfInBounds_toArray, List.set_cons_zero, List.set_cons_succ]
            refine takeR (i := 3) (v := .int .i64 ((m : Int) + 1)) (some 75) rfl rfl (by kernel_rfl) (by kernel_rfl) (by kernel_rfl) (fun _ _ _ h => h) (Or.inl ⟨by kernel_rfl, fun w' hSw => by have q0 : w'.cell? ⟨gp, 3, none⟩ = some (.int .i64 ((m : Int) + 1)) := (cell_at hSw (M.cs_get 3 (by decide))).trans (by rw [← HMZ.out]; rfl); go_simp⟩) hS5 ?_
            simp only [Act.put, List.setIfInBounds_toArray, List.set_cons_zero, List.set_cons_succ]
            refine takeR (i := 5) (v := .pointer (some ⟨gp, 3, none⟩)) (some 77) rfl rfl (by kernel_rfl) (by kernel_rfl) (by kernel_rfl) (fun _ _ _ h => h) (Or.inl ⟨by kernel_rfl, fun w' hSw => by kernel_rfl⟩) hS5 ?_
            simp only [Act.put, List.setIfInBounds_toArray, List.set_cons_zero, List.set_cons_succ]
            refine takeR (i := 6) (v := .int .i64 ((m : Int) + 1)) (some 78) rfl rfl (by kernel_rfl) (by kernel_rfl) (by kernel_rfl) (fun _ _ _ h => h) (Or.inl ⟨by kernel_rfl, fun w' hSw => by have q0 : w'.cell? ⟨gp, 3, none⟩ = some (.int .i64 ((m : Int) + 1)) := (cell_at hSw (M.cs_get 3 (by decide))).trans (by rw [← HMZ.out]; rfl); go_simp⟩) hS5 ?_
            simp only [Act.put, List.setIfInBounds_toArray, List.set_cons_zero, List.set_cons_succ]
            refine takeR (i := 7) (v := .pointer (some ⟨gp, 3, none⟩)) (some 79) rfl rfl (by kernel_rfl) (by kernel_rfl) (by kernel_rfl) (fun _ _ _ h => h) (Or.inl ⟨by kernel_rfl, fun w' hSw => by kernel_rfl⟩) hS5 ?_
            simp only [Act.put, List.setIfInBounds_toArray, List.set_cons_zero, List.set_cons_succ]
            refine takeR (i := 8) (v := .int .i64 ((m : Int) + 1)) (some 80) rfl rfl (by kernel_rfl) (by kernel_rfl) (by kernel_rfl) (fun _ _ _ h => h) (Or.inl ⟨by kernel_rfl, fun w' hSw => by have q0 : w'.cell? ⟨gp, 3, none⟩ = some (.int .i64 ((m : Int) + 1)) := (cell_at hSw (M.cs_get 3 (by decide))).trans (by rw [← HMZ.out]; rfl); go_simp⟩) hS5 ?_
            simp only [Act.put, List.setIfInBounds_toArray, List.set_cons_zero, List.set_cons_succ]
            refine takeR (i := 9) (v := .agg M.cs) (some 81) rfl rfl (by kernel_rfl) (by kernel_rfl) (by kernel_rfl) (fun _ _ _ h => h) (Or.inl ⟨by kernel_rfl, fun w' hSw => by exact loadM_run hSw (.tmp 13) rfl (by kernel_rfl)⟩) hS5 ?_
            simp only [Act.put, List.setIfInBounds_toArray, List.set_cons_zero, List.set_cons_succ]
            refine takeR (i := 10) (v := .agg (ptL (⟨m + 1, m + 1, false, some M⟩ : Pt Msg)).toArray) (some 82) rfl rfl (by kernel_rfl) (by kernel_rfl) (by kernel_rfl) (fun _ _ _ h => h) (Or.inl ⟨by kernel_rfl, fun w' hSw => by kernel_rfl⟩) hS5 ?_
            simp only [Act.put, List.setIfInBounds_toArray, List.set_cons_zero, List.set_cons_succ]
            refine wpAnyH_ready (rs := [4, 11]) (by kernel_rfl) (by simp) ?_
            refine AllReadyH.cons rfl (fun K1 hK1 => ?_) (AllReadyH.cons rfl (fun K1 hK1 => ?_) AllReadyH.nil)
            · rw [if_pos (by kernel_rfl)]
              refine callR (d := some 76) rfl 19 #[.slice ao np cp, .int .i64 (a : Int), .int .i64 ((m : Int) + 1)] (by kernel_rfl) (skipTo_any (a := a) (m := m) _ HX.out.ps.len HX.out.ps.row HB.out.1 HB.out.2.1 HB.out.2.2.1 HB.out.2.2.2) ?_
              rintro e w6 ⟨v6, rfl, hr6, hf6, hn6⟩
              refine ⟨_, rfl, ?_⟩
              have HX6 : Hid _ := HX.out.step hf6 hn6 hr6
              refine hK1.out _ _ HX6.out.own (fun _ => ?_)
              clear hK1 hf6 hn6 hr6
              simp only [Act.put, List.setIfInBounds_toArray, List.set_cons_zero, List.set_cons_succ]
              refine wpAnyH_ready (rs := [11]) (by kernel_rfl) (by simp) ?_
              refine AllReadyH.cons rfl (fun K2 hK2 => ?_) AllReadyH.nil
              rw [if_pos (by kernel_rfl)]
              refine valR (d := some 83) rfl (.slice (some ⟨w6.heap.size, 0, none⟩) 1 1) (w' := w6.alloc (.cells (ptL (⟨m + 1, m + 1, false, some M⟩ : Pt Msg)).toArray 36)) (by kernel_rfl) ?_
              have HX7 : Hid _ := HX6.out.alloc (.cells (ptL (⟨m + 1, m + 1, false, some M⟩ : Pt Msg)).toArray 36)
              have hgn : (w6.alloc (.cells (ptL (⟨m + 1, m + 1, false, some M⟩ : Pt Msg)).toArray 36)).heap[w6.heap.size]? = some (.cells (ptL (⟨m + 1, m + 1, false, some M⟩ : Pt Msg)).toArray 36 (0, 0)) := heap_alloc_new w6 _
              refine hK2.out _ _ HX7.out.own (fun _ => ?_)
              clear hK2 HX6
              simp only [Act.put, List.setIfInBounds_toArray, List.set_cons_zero, List.set_cons_succ]
              generalize w6.alloc (.cells (ptL (⟨m + 1, m + 1, false, some M⟩ : Pt Msg)).toArray 36) = w7 at *
              generalize w6.heap.size = gn at *
              refine wpAnyH_ready (rs := [12]) (by kernel_rfl) (by simp) ?_
              refine AllReadyH.cons rfl (fun K3 hK3 => ?_) AllReadyH.nil
              rw [if_pos (by kernel_rfl)]
              obtain ⟨v8, w8, hrun, hx8⟩ := HX7.out.app (⟨m + 1, m + 1, false, some M⟩ : Pt Msg) hgn (by have h0 := HX.out.ps.len; have h1 := HB.out.1; have h2 := skipL_len (gr (cd keep ev) (mm keep ev) a (cu - a)) a (m + 1); omega)
              refine valR (d := some 84) rfl v8 (exec_append (.tmp 76) (.tmp 83) 29 rfl (by kernel_rfl) (by kernel_rfl) hrun) ?_
              refine hK3.out _ _ hx8.own (fun hS8 => ?_)
              clear hK3 hrun
              simp only [Act.put, List.setIfInBounds_toArray, List.set_cons_zero, List.set_cons_succ]
              have HX8 : Hid _ := hx8
              clear hx8 HX7 hgn
              refine takeR (i := 13) (v := v8) (some 8) rfl rfl (by kernel_rfl) (by kernel_rfl) (by kernel_rfl) (fun _ _ _ h => h) (Or.inl ⟨by kernel_rfl, fun w' hSw => by kernel_rfl⟩) hS8 ?_
              simp only [Act.put, List.setIfInBounds_toArray, List.set_cons_zero, List.set_cons_succ]
              refine wpAnyH_done (by kernel_rfl) ?_ _
              refine hKc _ _ ?_
              obtain ⟨ao8, cp8, rfl, -⟩ := HX8.out.ps.row.form
              clear hKc hS8 hS5
              generalize hn8 : (skipL (gr (cd keep ev) (mm keep ev) a (cu - a)) a (m + 1) ++ [(⟨m + 1, m + 1, false, some M⟩ : Pt Msg)]).length = n8 at *
              clear hn8
              generalize hpc : (ptL (⟨m + 1, m + 1, false, some M⟩ : Pt Msg)).toArray = pcs at *
              clear hpc
              generalize M.cs = csM at *
              go_wp2
              go_roundw
              case rel => exact ⟨t + 1, _, ao8, cp8, by omega, by go_num, rfl, m + 1 + 1, HST.out.2.1, by have e := HST.out.1; have h8 := HX8.out.ps; rw [e] at h8; exact h8⟩
              case measure => simp [intOf]; omega
            · rw [if_pos (by kernel_rfl)]
              refine valR (d := some 83) rfl (.slice (some ⟨w5.heap.size, 0, none⟩) 1 1) (w' := w5.alloc (.cells (ptL (⟨m + 1, m + 1, false, some M⟩ : Pt Msg)).toArray 36)) (by kernel_rfl) ?_
              have HX6 : Hid _ := HX.out.alloc (.cells (ptL (⟨m + 1, m + 1, false, some M⟩ : Pt Msg)).toArray 36)
              have hgn6 : (w5.alloc (.cells (ptL (⟨m + 1, m + 1, false, some M⟩ : Pt Msg)).toArray 36)).heap[w5.heap.size]? = some (.cells (ptL (⟨m + 1, m + 1, false, some M⟩ : Pt Msg)).toArray 36 (0, 0)) := heap_alloc_new w5 _
              have hgv : (Value.slice ao np cp).ownBlock ≠ some w5.heap.size := fun e => by have := (HX.out.ps.row.lt e).1; omega
              refine hK1.out _ _ HX6.out.own (fun _ => ?_)
              clear hK1
              simp only [Act.put, List.setIfInBounds_toArray, List.set_cons_zero, List.set_cons_succ]
              generalize w5.alloc (.cells (ptL (⟨m + 1, m + 1, false, some M⟩ : Pt Msg)).toArray 36) = w6 at *
              generalize w5.heap.size = gn at *
              refine wpAnyH_ready (rs := [4]) (by kernel_rfl) (by simp) ?_
              refine AllReadyH.cons rfl (fun K2 hK2 => ?_) AllReadyH.nil
              rw [if_pos (by kernel_rfl)]
              refine callR (d := some 76) rfl 19 #[.slice ao np cp, .int .i64 (a : Int), .int .i64 ((m : Int) + 1)] (by kernel_rfl) (skipTo_any (a := a) (m := m) _ HX6.out.ps.len HX6.out.ps.row HB.out.1 HB.out.2.1 HB.out.2.2.1 HB.out.2.2.2) ?_
              rintro e w7 ⟨v6, rfl, hr6, hf6, hn6⟩
              refine ⟨_, rfl, ?_⟩
              have HX7 : Hid _ := HX6.out.step hf6 hn6 hr6
              have hgn : w7.heap[gn]? = some (.cells (ptL (⟨m + 1, m + 1, false, some M⟩ : Pt Msg)).toArray 36 (0, 0)) := (hf6.block gn (Array.getElem?_eq_some_iff.1 hgn6).1 hgv).trans hgn6
              refine hK2.out _ _ HX7.out.own (fun _ => ?_)
              clear hK2 hf6 hn6 hr6 hgn6 hgv HX6
              simp only [Act.put, List.setIfInBounds_toArray, List.set_cons_zero, List.set_cons_succ]
              refine wpAnyH_ready (rs := [12]) (by kernel_rfl) (by simp) ?_
              refine AllReadyH.cons rfl (fun K3 hK3 => ?_) AllReadyH.nil
              rw [if_pos (by kernel_rfl)]
              obtain ⟨v8, w8, hrun, hx8⟩ := HX7.out.app (⟨m + 1, m + 1, false, some M⟩ : Pt Msg) hgn (by have h0 := HX.out.ps.len; have h1 := HB.out.1; have h2 := skipL_len (gr (cd keep ev) (mm keep ev) a (cu - a)) a (m + 1); omega)
              refine valR (d := some 84) rfl v8 (exec_append (.tmp 76) (.tmp 83) 29 rfl (by kernel_rfl) (by kernel_rfl) hrun) ?_
              refine hK3.out _ _ hx8.own (fun hS8 => ?_)
              clear hK3 hrun
              simp only [Act.put, List.setIfInBounds_toArray, List.set_cons_zero, List.set_cons_succ]
              have HX8 : Hid _ := hx8
              clear hx8 HX7 hgn
              refine takeR (i := 13) (v := v8) (some 8) rfl rfl (by kernel_rfl) (by kernel_rfl) (by kernel_rfl) (fun _ _ _ h => h) (Or.inl ⟨by kernel_rfl, fun w' hSw => by kernel_rfl⟩) hS8 ?_
              simp only [Act.put, List.setIfInBounds_toArray, List.set_cons_zero, List.set_cons_succ]
              refine wpAnyH_done (by kernel_rfl) ?_ _
              refine hKc _ _ ?_
              obtain ⟨ao8, cp8, rfl, -⟩ := HX8.out.ps.row.form
              clear hKc hS8 hS5
              generalize hn8 : (skipL (gr (cd keep ev) (mm keep ev) a (cu - a)) a (m + 1) ++ [(⟨m + 1, m + 1, false, some M⟩ : Pt Msg)]).length = n8 at *
              clear hn8
              generalize hpc : (ptL (⟨m + 1, m + 1, false, some M⟩ : Pt Msg)).toArray = pcs at *
              clear hpc
              generalize M.cs = csM at *
              go_wp2
              go_roundw
              case rel => exact ⟨t + 1, _, ao8, cp8, by omega, by go_num, rfl, m + 1 + 1, HST.out.2.1, by have e := HST.out.1; have h8 := HX8.out.ps; rw [e] at h8; exact h8⟩
              case measure => simp [intOf]; omega
          · obtain rfl : t = N2 := by omega
            obtain ⟨cu, hgb, hps⟩ := hG.out
            have hcu := hgb.2.1
            rw [← HN2.out.1] at hgb
            have hend := gb_end HALL.out.2 ha hab HEV.out.2 HGA.out.2.1 HGA.out.1 HF2.out.1 HF2.out.2 HN2.out.2.1 hgb
            have hbw : IntKind.i64.wrap ((b : Int) + 1) = (b : Int) + 1 := by rw [IntKind.wrap_i64]; have := HEV.out; omega
            have hsk := skipTo_any (a := a) (m := b) _ hps.len hps.row (by have := gr_len (c := cd keep ev) (g := mm keep ev) a (cu - a); rw [hps.len] at this; have := HEV.out; omega) (by have := HEV.out; omega) (by have := HEV.out; omega) (fun q hq => by have := gr_to hq; have := HEV.out; omega)
            rw [hend] at hsk
            have HPS : Hid (PS w wr (.slice ao np cp) np (gr (cd keep ev) (mm keep ev) a (cu - a))) := hps
            have hbb : (b : Int) + 1 < 9223372036854775808 := by have := HEV.out; omega
            clear hgb hps hG hend hcu
            go_wp2_with (go_at_call 19; fail)
            refine hsk.mono ?_
            rintro e w9 ⟨v9, rfl, hr9, hf9, hn9⟩
            have HR9 : Hid _ := And.intro hr9 (And.intro hf9 hn9)
            obtain ⟨ao9, cp9, rfl, -⟩ := hr9.form
            clear hr9 hf9 hn9 hsk
            generalize hLL : (gr (cd keep ev) (mm keep ev) a (b + 1 - a)).length = LL at *
            go_wp2
            go_ret2
            refine ⟨.slice ao9 LL cp9, rfl, ?_, ?_, ?_⟩
            · show RowAt _ _ _ _ (gr (cd keep ev) (mm keep ev) a (b + 1 - a)).length _
              rw [hLL]; exact HR9.out.1
            · exact HPS.out.below.trans (HR9.out.2.1.below HPS.out.below.size fun q hq e => by have := HPS.out.new q e; omega)
            · intro g hg
              rcases HR9.out.2.2 with q | ⟨g', q, q2⟩
              · exact HPS.out.new g (q ▸ hg)
              · rw [q] at hg; injection hg with hg; have := HPS.out.below.size; omega
  · subst hz2
    rw [← hz3] at c1 hbn hnb hb1 hb4
    clear hz3
    go_enter Try.func10, Try.ntmps10
    go_wp2_with (go_at_call 18; fail)
    refine hlo.mono ?_
    rintro e w1 ⟨ao1, rfl, hr1, hb1', ho1⟩
    have HL1 : Hid (RowAt w1 62 2 (.slice ao1 (k - f) (k - f)) (k - f) (flatL rowV (((lostL seqM keep ev).drop f).take (k - f))) ∧ Below w.heap.size w w1 ∧ ((Value.slice ao1 (k - f) (k - f)).ownBlock = none ∨ (Value.slice ao1 (k - f) (k - f)).ownBlock = (Value.slice aol (lostL seqM keep ev).length capl).ownBlock)) := ⟨hr1, hb1', ho1⟩
    clear hr1 hb1' ho1 hlo
    obtain ⟨N1, hN1⟩ : ∃ N1, k - f = N1 := ⟨_, rfl⟩
    rw [hN1] at HL1 ⊢
    have HN1 : Hid (k - f = N1 ∧ f ≤ k ∧ k ≤ (lostL seqM keep ev).length) := ⟨hN1, hfk, hkn⟩
    clear hN1 hfk hkn
    go_upto_region 7 with fail
    go_loopw [8, 10, 11, 41] (fun x8 _ _ x41 wr => ∃ (t np : Nat) (ao : Option Addr) (cp : Nat), t ≤ N1 ∧ x41 = .int .i64 (t : Int) ∧ x8 = .slice ao np cp ∧ Hid (∃ cu, GA (cd keep ev) (lostL seqM keep ev) a b f t cu ∧ PS w wr (.slice ao np cp) np (gr (cd keep ev) (mm keep ev) a (cu - a)))) (fun _ _ _ x41 _ => N1 - (intOf x41).toNat)
    case atStart => exact ⟨0, 0, none, 0, Nat.zero_le _, rfl, rfl, a, ga_zero (by omega), by rw [Nat.sub_self]; exact ⟨rfl, RowAt.none0 _ _ _, HL1.out.2.1, fun g hg => by cases hg⟩⟩
    case round =>
      obtain ⟨t, np, ao, cp, ht, rfl, rfl, hG⟩ := hrel
      by_cases hlt : t < N1
      · have hlt' : (t : Int) < (N1 : Int) := by omega
        have htb : (t : Int) + 1 < 9223372036854775808 := by have h1 := HN1.out; have h2 := HEV.out; omega
        have htw : IntKind.i64.wrap ((t : Int) + 1) = (t : Int) + 1 := by rw [IntKind.wrap_i64]; omega
        obtain ⟨r, hr⟩ : ∃ r, (lostL seqM keep ev)[f + t]? = some r := ⟨_, List.getElem?_eq_getElem (by have := HN1.out; omega)⟩
        have hrp : (((lostL seqM keep ev).drop f).take N1)[t]? = some r := by rw [List.getElem?_take, if_pos hlt, List.getElem?_drop]; exact hr
        obtain ⟨cu, hga, hps⟩ := hG.out
        have hrw : RowAt wr 62 2 (.slice ao1 N1 N1) N1 (flatL rowV (((lostL seqM keep ev).drop f).take N1)) := HL1.out.1.keep fun g hg => by
          rcases HL1.out.2.2 with q | q
          · rw [q] at hg; cases hg
          · have hgl := (HALL.out.1.lost.lt (q ▸ hg)).1
            exact (hps.below.block g hgl).trans (HL1.out.2.1.block g hgl).symm
        obtain ⟨g1, o1, c1', cur1, e1, -⟩ := hrw.more (by omega)
        injection e1 with e1 _ e2
        subst e1
        clear e2
        have cr1 : wr.cell? ⟨g1, o1 + (t * 2 + 0), none⟩ = some (.int .i64 (r.1 : Int)) := hrw.cell rfl (by rw [flatL_get rowV_len hrp (by decide)]; rfl)
        have cr2 : wr.cell? ⟨g1, o1 + (t * 2 + 1), none⟩ = some (.int .i64 (r.2 : Int)) := hrw.cell rfl (by rw [flatL_get rowV_len hrp (by decide)]; rfl)
        rw [Nat.add_zero] at cr1
        rw [← Nat.add_assoc] at cr2
        obtain ⟨m, hm⟩ : ∃ m, max r.1 a = m + 1 := ⟨max r.1 a - 1, by omega⟩
        obtain ⟨y, hy⟩ : ∃ y, min r.2 b = y := ⟨_, rfl⟩
        have hstep := ga_step HALL.out.2 ha hab HEV.out.2 HF.out.1 HF.out.2 hga hr (by have := HN1.out; omega)
        rw [hm, hy] at hstep
        have HST : Hid _ := hstep
        have hyb : y ≤ b := by omega
        have hmb : m + 1 ≤ y := hstep.2.2.1
        have HPS : Hid (PS w wr (.slice ao np cp) np (gr (cd keep ev) (mm keep ev) a (cu - a)) ∧ m + 1 ≤ y ∧ y ≤ b) := ⟨hps, hmb, hyb⟩
        have HB : Hid (np ≤ 1000000000 ∧ a ≤ 10000000000 ∧ m ≤ 10000000000 ∧ ∀ q, q ∈ gr (cd keep ev) (mm keep ev) a (cu - a) → q.to ≤ 10000000000) := by
          have h0 := HEV.out
          have hcu := hga.2.1
          refine ⟨by have := gr_len (c := cd keep ev) (g := mm keep ev) a (cu - a); rw [hps.len] at this; omega, by omega, by omega, fun q hq => by have := gr_to hq; omega⟩
        clear hstep hps hrw hrp hga hr hG hyb hmb
        go_upto_region 9 with fail
        clear cr1 cr2
        rename_i Kc hKc
        refine wp_region_lit ?_
        have HX2 : Hid (PS w (wr.alloc (Obj.cells #[.int .i64 (r.1 : Int), .int .i64 (r.2 : Int)] 62)) (.slice ao np cp) np (gr (cd keep ev) (mm keep ev) a (cu - a))) := HPS.out.1.alloc _
        generalize hw2 : wr.alloc (Obj.cells #[.int .i64 (r.1 : Int), .int .i64 (r.2 : Int)] 62) = w2 at *
        have d0 : w2.cell? ⟨wr.heap.size, 0, none⟩ = some (.int .i64 (r.1 : Int)) := by rw [← hw2]; exact cell_at (heap_alloc_new wr _) rfl
        have d1 : w2.cell? ⟨wr.heap.size, 1, none⟩ = some (.int .i64 (r.2 : Int)) := by rw [← hw2]; exact cell_at (heap_alloc_new wr _) rfl
        clear hw2
        have hmx : max (r.1 : Int) (a : Int) = (m : Int) + 1 := by omega
        have hmn : min (r.2 : Int) (b : Int) = (y : Int) := by omega
        refine wpList_runTo rfl (some 45) rfl (.pointer (some ⟨wr.heap.size, 0, none⟩)) w2 (by kernel_rfl) ?_
        simp only [Act.put, List.setIfInBounds_toArray, List.set_cons_zero, List.set_cons_succ]
        refine wpList_runTo rfl (some 46) rfl (.int .i64 (r.1 : Int)) w2 (by go_simp) ?_
        simp only [Act.put, List.setIfInBounds_toArray, List.set_cons_zero, List.set_cons_succ]
        refine wpList_runTo rfl (some 47) rfl (.int .i64 (a : Int)) w2 (by kernel_rfl) ?_
        simp only [Act.put, List.setIfInBounds_toArray, List.set_cons_zero, List.set_cons_succ]
        refine wpList_runTo rfl (some 48) rfl (.int .i64 ((m : Int) + 1)) w2 (by go_simp) ?_
        simp only [Act.put, List.setIfInBounds_toArray, List.set_cons_zero, List.set_cons_succ]
        refine wpList_runTo rfl (some 49) rfl (.pointer (some ⟨wr.heap.size, 1, none⟩)) w2 (by kernel_rfl) ?_
        simp only [Act.put, List.setIfInBounds_toArray, List.set_cons_zero, List.set_cons_succ]
        refine wpList_runTo rfl (some 50) rfl (.int .i64 (r.2 : Int)) w2 (by go_simp) ?_
        simp only [Act.put, List.setIfInBounds_toArray, List.set_cons_zero, List.set_cons_succ]
        refine wpList_runTo rfl (some 51) rfl (.int .i64 (b : Int)) w2 (by kernel_rfl) ?_
        simp only [Act.put, List.setIfInBounds_toArray, List.set_cons_zero, List.set_cons_succ]
        refine wpList_runTo rfl (some 52) rfl (.int .i64 (y : Int)) w2 (by go_simp) ?_
        simp only [Act.put, List.setIfInBounds_toArray, List.set_cons_zero, List.set_cons_succ]
        refine wpList_runTo rfl (some 53) rfl (.agg (ptL (⟨m + 1, y, true, none⟩ : Pt Msg)).toArray) w2 (by kernel_rfl) ?_
        simp only [Act.put, List.setIfInBounds_toArray, List.set_cons_zero, List.set_cons_succ]
        refine wpList_runTo rfl (some 11) rfl (.pointer (some ⟨w2.heap.size, 0, none⟩)) (w2.alloc (.cells (ptL (⟨0, 0, false, none⟩ : Pt Msg)).toArray 36)) (by kernel_rfl) ?_
        simp only [Act.put, List.setIfInBounds_toArray, List.set_cons_zero, List.set_cons_succ]
        refine wpList_store_row rfl 36 (.tmp 11) (.tmp 53) rfl w2.heap.size (ptL (⟨m + 1, y, true, none⟩ : Pt Msg)).toArray (by kernel_rfl) (by kernel_rfl) 36 _ (heap_alloc_new w2 _) (by kernel_rfl) (by kernel_rfl) (by kernel_rfl) ?_
        rw [World.setRow_alloc_new]
        refine wpList_nil ?_
        refine hKc _ _ ?_
        simp only [Act.put, List.setIfInBounds_toArray, List.set_cons_zero, List.set_cons_succ]
        have HX0 : Hid (PW w (w2.alloc (.cells (ptL (⟨m + 1, y, true, none⟩ : Pt Msg)).toArray 36)) w2.heap.size (ptL (⟨m + 1, y, true, none⟩ : Pt Msg)).toArray 36 (.slice ao np cp) np (gr (cd keep ev) (mm keep ev) a (cu - a))) := HX2.out.own _ _
        clear hKc d0 d1 hmx hmn HX2
        generalize w2.alloc (.cells (ptL (⟨m + 1, y, true, none⟩ : Pt Msg)).toArray 36) = wp at *
        generalize w2.heap.size = gp at *
        clear HPS
        generalize hpq : (ptL (⟨m + 1, y, true, none⟩ : Pt Msg)).toArray = pq at *
        go_upto_region 10 with fail
        subst hpq
        rename_i Kc hKc
        refine wp_region_held (S := fun w' => w'.heap[gp]? = some (.cells (ptL (⟨m + 1, y, true, none⟩ : Pt Msg)).toArray 36 (0, 0))) (by kernel_rfl) ?_
        change wpAnyH _ _ _ _ _ _ _ _ (World.drew _)
        have HX : Hid _ := HX0.out.drew
        clear HX0
        generalize wp.drew = w5 at *
        have hS5 := HX.out.own
        refine takeR (i := 0) (v := .slice ao np cp) (some 54) rfl rfl (by kernel_rfl) (by kernel_rfl) (by kernel_rfl) (fun _ _ _ h => h) (Or.inl ⟨by kernel_rfl, fun w' hSw => by kernel_rfl⟩) hS5 ?_
        simp only [Act.put, List.setIfInBounds_toArray, List.set_cons_zero, List.set_cons_succ]
        refine takeR (i := 1) (v := .int .i64 (a : Int)) (some 55) rfl rfl (by kernel_rfl) (by kernel_rfl) (by kernel_rfl) (fun _ _ _ h => h) (Or.inl ⟨by kernel_rfl, fun w' hSw => by kernel_rfl⟩) hS5 ?_
        simp only [Act.put, List.setIfInBounds_toArray, List.set_cons_zero, List.set_cons_succ]
        refine takeR (i := 2) (v := .pointer (some ⟨gp, 0, none⟩)) (some 56) rfl rfl (by kernel_rfl) (by kernel_rfl) (by kernel_rfl) (fun _ _ _ h => h) (Or.inl ⟨by kernel_rfl, fun w' hSw => by kernel_rfl⟩) hS5 ?_
        simp only [Act.put, List.setIfInBounds_toArray, List.set_cons_zero, List.set_cons_succ]
        refine takeR (i := 3) (v := .int .i64 ((m : Int) + 1)) (some 57) rfl rfl (by kernel_rfl) (by kernel_rfl) (by kernel_rfl) (fun _ _ _ h => h) (Or.inl ⟨by kernel_rfl, fun w' hSw => by have q0 : w'.cell? ⟨gp, 0, none⟩ = some (.int .i64 ((m : Int) + 1)) := cell_at hSw rfl; go_simp⟩) hS5 ?_
        simp only [Act.put, List.setIfInBounds_toArray, List.set_cons_zero, List.set_cons_succ]
        refine takeR (i := 5) (v := .agg (ptL (⟨m + 1, y, true, none⟩ : Pt Msg)).toArray) (some 59) rfl rfl (by kernel_rfl) (by kernel_rfl) (by kernel_rfl) (fun _ _ _ h => h) (Or.inl ⟨by kernel_rfl, fun w' hSw => by exact loadP_run hSw (.tmp 11) rfl (by kernel_rfl)⟩) hS5 ?_
        simp only [Act.put, List.setIfInBounds_toArray, List.set_cons_zero, List.set_cons_succ]
        refine wpAnyH_ready (rs := [4, 6]) (by kernel_rfl) (by simp) ?_
        refine AllReadyH.cons rfl (fun K1 hK1 => ?_) (AllReadyH.cons rfl (fun K1 hK1 => ?_) AllReadyH.nil)
        · rw [if_pos (by kernel_rfl)]
          refine callR (d := some 58) rfl 19 #[.slice ao np cp, .int .i64 (a : Int), .int .i64 ((m : Int) + 1)] (by kernel_rfl) (skipTo_any (a := a) (m := m) _ HX.out.ps.len HX.out.ps.row HB.out.1 HB.out.2.1 HB.out.2.2.1 HB.out.2.2.2) ?_
          rintro e w6 ⟨v6, rfl, hr6, hf6, hn6⟩
          refine ⟨_, rfl, ?_⟩
          have HX6 : Hid _ := HX.out.step hf6 hn6 hr6
          refine hK1.out _ _ HX6.out.own (fun _ => ?_)
          clear hK1 hf6 hn6 hr6
          simp only [Act.put, List.setIfInBounds_toArray, List.set_cons_zero, List.set_cons_succ]
          refine wpAnyH_ready (rs := [6]) (by kernel_rfl) (by simp) ?_
          refine AllReadyH.cons rfl (fun K2 hK2 => ?_) AllReadyH.nil
          rw [if_pos (by kernel_rfl)]
          refine valR (d := some 60) rfl (.slice (some ⟨w6.heap.size, 0, none⟩) 1 1) (w' := w6.alloc (.cells (ptL (⟨m + 1, y, true, none⟩ : Pt Msg)).toArray 36)) (by kernel_rfl) ?_
          have HX7 : Hid _ := HX6.out.alloc (.cells (ptL (⟨m + 1, y, true, none⟩ : Pt Msg)).toArray 36)
          have hgn : (w6.alloc (.cells (ptL (⟨m + 1, y, true, none⟩ : Pt Msg)).toArray 36)).heap[w6.heap.size]? = some (.cells (ptL (⟨m + 1, y, true, none⟩ : Pt Msg)).toArray 36 (0, 0)) := heap_alloc_new w6 _
          refine hK2.out _ _ HX7.out.own (fun _ => ?_)
          clear hK2 HX6
          simp only [Act.put, List.setIfInBounds_toArray, List.set_cons_zero, List.set_cons_succ]
          generalize w6.alloc (.cells (ptL (⟨m + 1, y, true, none⟩ : Pt Msg)).toArray 36) = w7 at *
          generalize w6.heap.size = gn at *
          refine wpAnyH_ready (rs := [7]) (by kernel_rfl) (by simp) ?_
          refine AllReadyH.cons rfl (fun K3 hK3 => ?_) AllReadyH.nil
          rw [if_pos (by kernel_rfl)]
          obtain ⟨v8, w8, hrun, hx8⟩ := HX7.out.app (⟨m + 1, y, true, none⟩ : Pt Msg) hgn (by have h0 := HX.out.ps.len; have h1 := HB.out.1; have h2 := skipL_len (gr (cd keep ev) (mm keep ev) a (cu - a)) a (m + 1); omega)
          refine valR (d := some 61) rfl v8 (exec_append (.tmp 58) (.tmp 60) 29 rfl (by kernel_rfl) (by kernel_rfl) hrun) ?_
          refine hK3.out _ _ hx8.own (fun hS8 => ?_)
          clear hK3 hrun
          simp only [Act.put, List.setIfInBounds_toArray, List.set_cons_zero, List.set_cons_succ]
          have HX8 : Hid _ := hx8
          clear hx8 HX7 hgn
          refine takeR (i := 8) (v := v8) (some 8) rfl rfl (by kernel_rfl) (by kernel_rfl) (by kernel_rfl) (fun _ _ _ h => h) (Or.inl ⟨by kernel_rfl, fun w' hSw => by kernel_rfl⟩) hS8 ?_
          simp only [Act.put, List.setIfInBounds_toArray, List.set_cons_zero, List.set_cons_succ]
          refine wpAnyH_done (by kernel_rfl) ?_ _
          refine hKc _ _ ?_
          obtain ⟨ao8, cp8, rfl, -⟩ := HX8.out.ps.row.form
          clear hKc hS8 hS5
          generalize hn8 : (skipL (gr (cd keep ev) (mm keep ev) a (cu - a)) a (m + 1) ++ [(⟨m + 1, y, true, none⟩ : Pt Msg)]).length = n8 at *
          clear hn8
          generalize hpc : (ptL (⟨m + 1, y, true, none⟩ : Pt Msg)).toArray = pcs at *
          clear hpc
          go_wp2
          go_roundw
          case rel => exact ⟨t + 1, _, ao8, cp8, by omega, by go_num, rfl, y + 1, HST.out.2.1, by have e := HST.out.1; have h8 := HX8.out.ps; rw [e] at h8; exact h8⟩
          case measure => simp [intOf]; omega
        · rw [if_pos (by kernel_rfl)]
          refine valR (d := some 60) rfl (.slice (some ⟨w5.heap.size, 0, none⟩) 1 1) (w' := w5.alloc (.cells (ptL (⟨m + 1, y, true, none⟩ : Pt Msg)).toArray 36)) (by kernel_rfl) ?_
          have HX6 : Hid _ := HX.out.alloc (.cells (ptL (⟨m + 1, y, true, none⟩ : Pt Msg)).toArray 36)
          have hgn6 : (w5.alloc (.cells (ptL (⟨m + 1, y, true, none⟩ : Pt Msg)).toArray 36)).heap[w5.heap.size]? = some (.cells (ptL (⟨m + 1, y, true, none⟩ : Pt Msg)).toArray 36 (0, 0)) := heap_alloc_new w5 _
          have hgv : (Value.slice ao np cp).ownBlock ≠ some w5.heap.size := fun e => by have := (HX.out.ps.row.lt e).1; omega
          refine hK1.out _ _ HX6.out.own (fun _ => ?_)
          clear hK1
          simp only [Act.put, List.setIfInBounds_toArray, List.set_cons_zero, List.set_cons_succ]
          generalize w5.alloc (.cells (ptL (⟨m + 1, y, true, none⟩ : Pt Msg)).toArray 36) = w6 at *
          generalize w5.heap.size = gn at *
          refine wpAnyH_ready (rs := [4]) (by kernel_rfl) (by simp) ?_
          refine AllReadyH.cons rfl (fun K2 hK2 => ?_) AllReadyH.nil
          rw [if_pos (by kernel_rfl)]
          refine callR (d := some 58) rfl 19 #[.slice ao np cp, .int .i64 (a : Int), .int .i64 ((m : Int) + 1)] (by kernel_rfl) (skipTo_any (a := a) (m := m) _ HX6.out.ps.len HX6.out.ps.row HB.out.1 HB.out.2.1 HB.out.2.2.1 HB.out.2.2.2) ?_
          rintro e w7 ⟨v6, rfl, hr6, hf6, hn6⟩
          refine ⟨_, rfl, ?_⟩
          have HX7 : Hid _ := HX6.out.step hf6 hn6 hr6
          have hgn : w7.heap[gn]? = some (.cells (ptL (⟨m + 1, y, true, none⟩ : Pt Msg)).toArray 36 (0, 0)) := (hf6.block gn (Array.getElem?_eq_some_iff.1 hgn6).1 hgv).trans hgn6
          refine hK2.out _ _ HX7.out.own (fun _ => ?_)
          clear hK2 hf6 hn6 hr6 hgn6 hgv HX6
          simp only [Act.put, List.setIfInBounds_toArray, List.set_cons_zero, List.set_cons_succ]
          refine wpAnyH_ready (rs := [7]) (by kernel_rfl) (by simp) ?_
          refine AllReadyH.cons rfl (fun K3 hK3 => ?_) AllReadyH.nil
          rw [if_pos (by kernel_rfl)]
          obtain ⟨v8, w8, hrun, hx8⟩ := HX7.out.app (⟨m + 1, y, true, none⟩ : Pt Msg) hgn (by have h0 := HX.out.ps.len; have h1 := HB.out.1; have h2 := skipL_len (gr (cd keep ev) (mm keep ev) a (cu - a)) a (m + 1); omega)
          refine valR (d := some 61) rfl v8 (exec_append (.tmp 58) (.tmp 60) 29 rfl (by kernel_rfl) (by kernel_rfl) hrun) ?_
          refine hK3.out _ _ hx8.own (fun hS8 => ?_)
          clear hK3 hrun
          simp only [Act.put, List.setIfInBounds_toArray, List.set_cons_zero, List.set_cons_succ]
          have HX8 : Hid _ := hx8
          clear hx8 HX7 hgn
          refine takeR (i := 8) (v := v8) (some 8) rfl rfl (by kernel_rfl) (by kernel_rfl) (by kernel_rfl) (fun _ _ _ h => h) (Or.inl ⟨by kernel_rfl, fun w' hSw => by kernel_rfl⟩) hS8 ?_
          simp only [Act.put, List.setIfInBounds_toArray, List.set_cons_zero, List.set_cons_succ]
          refine wpAnyH_done (by kernel_rfl) ?_ _
          refine hKc _ _ ?_
          obtain ⟨ao8, cp8, rfl, -⟩ := HX8.out.ps.row.form
          clear hKc hS8 hS5
          generalize hn8 : (skipL (gr (cd keep ev) (mm keep ev) a (cu - a)) a (m + 1) ++ [(⟨m + 1, y, true, none⟩ : Pt Msg)]).length = n8 at *
          clear hn8
          generalize hpc : (ptL (⟨m + 1, y, true, none⟩ : Pt Msg)).toArray = pcs at *
          clear hpc
          go_wp2
          go_roundw
          case rel => exact ⟨t + 1, _, ao8, cp8, by omega, by go_num, rfl, y + 1, HST.out.2.1, by have e := HST.out.1; have h8 := HX8.out.ps; rw [e] at h8; exact h8⟩
          case measure => simp [intOf]; omega
      · obtain rfl : t = N1 := by omega
        obtain ⟨cu, hga, hps⟩ := hG.out
        have hga0 := hga
        rw [← HN1.out.1] at hga
        have hend := ga_end HALL.out.2 ha HEV.out.2 HF.out.1 HF.out.2 HN1.out.2.1 hga
        obtain ⟨f2, k2, hfk2, hkn2, hF2, hE2, hko⟩ := HK2.out wr hps.below
        have HGA : Hid ((∀ q, cu ≤ q → q ≤ b → cd keep ev q ≠ 2) ∧ a ≤ cu ∧ cu ≤ b + 1 ∧ (cu = a ∨ cd keep ev (cu - 1) = 2)) := ⟨hend, hga0.1, hga0.2.1, hga0.2.2.1⟩
        have HPS : Hid (PS w wr (.slice ao np cp) np (gr (cd keep ev) (mm keep ev) a (cu - a))) := hps
        have HF2 : Hid ((∀ (i : Nat) (x : Msg), (keptL keep ev)[i]? = some x → (i < f2 ↔ seqM x < a)) ∧ (∀ (i : Nat) (x : Msg), (keptL keep ev)[i]? = some x → (i < k2 ↔ seqM x ≤ b))) := ⟨hF2, hE2⟩
        obtain ⟨N2, hN2⟩ : ∃ N2, k2 - f2 = N2 := ⟨_, rfl⟩
        rw [hN2] at hko
        have HN2 : Hid (k2 - f2 = N2 ∧ f2 ≤ k2 ∧ k2 ≤ (keptL keep ev).length) := ⟨hN2, hfk2, hkn2⟩
        clear hend hga0 hga hps hG HK2 hF2 hE2 hN2 hfk2 hkn2
        go_wp2_with (go_at_call 20; fail)
        refine hko.mono ?_
        rintro e w1' ⟨ao2, rfl, hr2, hb2, ho2⟩
        have HL2 : Hid (RowAt w1' 34 42 (.slice ao2 N2 N2) N2 (flatL msgV (((keptL keep ev).drop f2).take N2)) ∧ Below wr.heap.size wr w1' ∧ ((Value.slice ao2 N2 N2).ownBlock = none ∨ (Value.slice ao2 N2 N2).ownBlock = (Value.slice aok (keptL keep ev).length capk).ownBlock)) := ⟨hr2, hb2, ho2⟩
        have HBW : Hid (Below w.heap.size w w1') := HPS.out.below.trans (hb2.mono HPS.out.below.size)
        have HPS1 : Hid (PS w w1' (.slice ao np cp) np (gr (cd keep ev) (mm keep ev) a (cu - a))) := ⟨HPS.out.len, HPS.out.row.keep (fun g hg => hb2.block g (HPS.out.row.lt hg).1), HBW.out, HPS.out.new⟩
        clear hr2 hb2 ho2 hko HPS
        go_upto_region 13 with fail
        generalize hcu0 : cu = c0 at *
        clear hcu0
        go_loopw [8, 13, 68] (fun x8 _ x68 wq => ∃ (t np : Nat) (ao : Option Addr) (cp : Nat), t ≤ N2 ∧ x68 = .int .i64 (t : Int) ∧ x8 = .slice ao np cp ∧ Hid (∃ cu, GB (cd keep ev) (keptL keep ev) a b c0 f2 t cu ∧ PS w wq (.slice ao np cp) np (gr (cd keep ev) (mm keep ev) a (cu - a)))) (fun _ _ x68 _ => N2 - (intOf x68).toNat)
        case atStart => exact ⟨0, np, ao, cp, Nat.zero_le _, rfl, rfl, c0, gb_zero HGA.out.2.2.1 HGA.out.2.2.2, HPS1.out⟩
        case round =>
          clear HPS1
          obtain ⟨t, np, ao, cp, ht, rfl, rfl, hG⟩ := hrel
          by_cases hlt : t < N2
          · have hlt' : (t : Int) < (N2 : Int) := by omega
            have hkl2 := keptL_len keep ev
            have htb : (t : Int) + 1 < 9223372036854775808 := by have h1 := HN2.out; omega
            have htw : IntKind.i64.wrap ((t : Int) + 1) = (t : Int) + 1 := by rw [IntKind.wrap_i64]; omega
            clear hkl2
            obtain ⟨M, hM⟩ : ∃ M, (keptL keep ev)[f2 + t]? = some M := ⟨_, List.getElem?_eq_getElem (by have := HN2.out; omega)⟩
            have hMp : (((keptL keep ev).drop f2).take N2)[t]? = some M := by rw [List.getElem?_take, if_pos hlt, List.getElem?_drop]; exact hM
            obtain ⟨cu, hgb, hps⟩ := hG.out
            have hrw : RowAt wr 34 42 (.slice ao2 N2 N2) N2 (flatL msgV (((keptL keep ev).drop f2).take N2)) := HL2.out.1.keep fun g hg => by
              rcases HL2.out.2.2 with q | q
              · rw [q] at hg; cases hg
              · have hgl := (HALL.out.1.kept.lt (q ▸ hg)).1
                exact (hps.below.block g hgl).trans (HBW.out.block g hgl).symm
            obtain ⟨g2, o2, c2', cur2, e1, -⟩ := hrw.more (by omega)
            injection e1 with e1 _ e2
            subst e1
            clear e2
            have HRG : Hid (wr.rangeAt g2 (o2 + t * 42) M.cs.toList) := fun j u hu => by
              have hj : j < 42 := by have := (List.getElem?_eq_some_iff.1 hu).1; rw [M.cs_len] at this; exact this
              rw [Nat.add_assoc]
              exact hrw.cell rfl (by rw [flatL_get msgV_len hMp hj]; exact hu)
            have hk3 := HALL.out.2.kin _ _ hM
            obtain ⟨m, hm⟩ : ∃ m, seqM M = m + 1 := ⟨seqM M - 1, by omega⟩
            have hmz := HALL.out.1.evm.seq (List.mem_of_mem_drop (List.mem_of_getElem? hM))
            rw [hm] at hmz
            have HMZ : Hid (M.z 3 = (m : Int) + 1) := by show M.z 3 = _; omega
            have hstep := gb_step HALL.out.2 ha hab HEV.out.2 HGA.out.2.1 HGA.out.2.2.2 HGA.out.1 HF2.out.1 HF2.out.2 hgb hM (by have := HN2.out; omega)
            rw [hm] at hstep
            have HST : Hid _ := hstep
            have hmb : m + 1 ≤ b := hstep.2.2.2.2
            have HPS : Hid (PS w wr (.slice ao np cp) np (gr (cd keep ev) (mm keep ev) a (cu - a))) := hps
            have HB : Hid (np ≤ 1000000000 ∧ a ≤ 10000000000 ∧ m ≤ 10000000000 ∧ ∀ q, q ∈ gr (cd keep ev) (mm keep ev) a (cu - a) → q.to ≤ 10000000000) := by
              have h0 := HEV.out
              have hcu := hgb.2.1
              refine ⟨by have := gr_len (c := cd keep ev) (g := mm keep ev) a (cu - a); rw [hps.len] at this; omega, by omega, by omega, fun q hq => by have := gr_to hq; omega⟩
            clear hstep hps hrw hMp hgb hM hG hmb hk3 hm hmz
            go_upto_region 14 with fail
            rename_i Kc hKc
            refine wp_region_lit ?_
            refine wpList_runTo rfl (some 70) rfl (.pointer (some ⟨g2, o2 + t * 42, none⟩)) wr (by go_simp) ?_
            simp only [Act.put, List.setIfInBounds_toArray, List.set_cons_zero, List.set_cons_succ]
            refine wpList_load_mid rfl 34 (.tmp 70) rfl g2 (o2 + t * 42) (by kernel_rfl) M.cs.toList _ HRG.out Try.underlying34 rfl (by rw [M.cs_len]; kernel_rfl) ?_
            rw [show M.cs.toList.toArray = M.cs by simp]
            simp only [Act.put, List.setIfInBounds_toArray, List.set_cons_zero, List.set_cons_succ]
            refine wpList_runTo rfl (some 13) rfl (.pointer (some ⟨wr.heap.size, 0, none⟩)) (wr.alloc (.cells zeroM.cs 34)) (by kernel_rfl) ?_
            simp only [Act.put, List.setIfInBounds_toArray, List.set_cons_zero, List.set_cons_succ]
            refine wpList_store_row rfl 34 (.tmp 13) (.tmp 71) rfl wr.heap.size M.cs (by kernel_rfl) (by kernel_rfl) 34 _ (heap_alloc_new wr _) (by first | (rw [M.cs_size]; kernel_rfl) | rw [M.cs_size, zeroM.cs_size] | exact M.one) (by first | (rw [M.cs_size, zeroM.cs_size]; done) | exact M.one | (rw [M.cs_size]; kernel_rfl)) (by first | exact M.one | rw [M.cs_size, zeroM.cs_size]) ?_
            rw [World.setRow_alloc_new]
            refine wpList_nil ?_
            refine hKc _ _ ?_
            simp only [Act.put, List.setIfInBounds_toArray, List.set_cons_zero, List.set_cons_succ]
            have HX0 : Hid (PW w (wr.alloc (.cells M.cs 34)) wr.heap.size M.cs 34 (.slice ao np cp) np (gr (cd keep ev) (mm keep ev) a (cu - a))) := HPS.out.own _ _
            clear hKc HRG HPS
            generalize wr.alloc (.cells M.cs 34) = wp at *
            generalize wr.heap.size = gp at *
            generalize hcsq : M.cs = csq at *
            go_upto_region 15 with fail
            subst hcsq
            rename_i Kc hKc
            refine wp_region_held (S := fun w' => w'.heap[gp]? = some (.cells M.cs 34 (0, 0))) (by kernel_rfl) ?_
            change wpAnyH _ _ _ _ _ _ _ _ (World.drew _)
            have HX : Hid _ := HX0.out.drew
            clear HX0
            generalize wp.drew = w5 at *
            have hS5 := HX.out.own
            refine takeR (i := 0) (v := .slice ao np cp) (some 72) rfl rfl (by kernel_rfl) (by kernel_rfl) (by kernel_rfl) (fun _ _ _ h => h) (Or.inl ⟨by kernel_rfl, fun w' hSw => by kernel_rfl⟩) hS5 ?_
            simp only [Act.put, List.setIfInBounds_toArray, List.set_cons_zero, List.set_cons_succ]
            refine takeR (i := 1) (v := .int .i64 (a : Int)) (some 73) rfl rfl (by kernel_rfl) (by kernel_rfl) (by kernel_rfl) (fun _ _ _ h => h) (Or.inl ⟨by kernel_rfl, fun w' hSw => by kernel_rfl⟩) hS5 ?_
            simp only [Act.put, List.setIfInBounds_toArray, List.set_cons_zero, List.set_cons_succ]
            refine takeR (i := 2) (v := .pointer (some ⟨gp, 3, none⟩)) (some 74) rfl rfl (by kernel_rfl) (by kernel_rfl) (by kernel_rfl) (fun _ _ _ h => h) (Or.inl ⟨by kernel_rfl, fun w' hSw => by kernel_rfl⟩) hS5 ?_
            simp only [Act.put, List.setIfInBounds_toArray, List.set_cons_zero, List.set_cons_succ]
            refine takeR (i := 3) (v := .int .i64 ((m : Int) + 1)) (some 75) rfl rfl (by kernel_rfl) (by kernel_rfl) (by kernel_rfl) (fun _ _ _ h => h) (Or.inl ⟨by kernel_rfl, fun w' hSw => by have q0 : w'.cell? ⟨gp, 3, none⟩ = some (.int .i64 ((m : Int) + 1)) := (cell_at hSw (M.cs_get 3 (by decide))).trans (by rw [← HMZ.out]; rfl); go_simp⟩) hS5 ?_
            simp only [Act.put, List.setIfInBounds_toArray, List.set_cons_zero, List.set_cons_succ]
            refine takeR (i := 5) (v := .pointer (some ⟨gp, 3, none⟩)) (some 77) rfl rfl (by kernel_rfl) (by kernel_rfl) (by kernel_rfl) (fun _ _ _ h => h) (Or.inl ⟨by kernel_rfl, fun w' hSw => by kernel_rfl⟩) hS5 ?_
            simp only [Act.put, List.setIfInBounds_toArray, List.set_cons_zero, List.set_cons_succ]
            refine takeR (i := 6) (v := .int .i64 ((m : Int) + 1)) (some 78) rfl rfl (by kernel_rfl) (by kernel_rfl) (by kernel_rfl) (fun _ _ _ h => h) (Or.inl ⟨by kernel_rfl, fun w' hSw => by have q0 : w'.cell? ⟨gp, 3, none⟩ = some (.int .i64 ((m : Int) + 1)) := (cell_at hSw (M.cs_get 3 (by decide))).trans (by rw [← HMZ.out]; rfl); go_simp⟩) hS5 ?_
            simp only [Act.put, List.setIfInBounds_toArray, List.set_cons_zero, List.set_cons_succ]
            refine takeR (i := 7) (v := .pointer (some ⟨gp, 3, none⟩)) (some 79) rfl rfl (by kernel_rfl) (by kernel_rfl) (by kernel_rfl) (fun _ _ _ h => h) (Or.inl ⟨by kernel_rfl, fun w' hSw => by kernel_rfl⟩) hS5 ?_
            simp only [Act.put, List.setIfInBounds_toArray, List.set_cons_zero, List.set_cons_succ]
            refine takeR (i := 8) (v := .int .i64 ((m : Int) + 1)) (some 80) rfl rfl (by kernel_rfl) (by kernel_rfl) (by kernel_rfl) (fun _ _ _ h => h) (Or.inl ⟨by kernel_rfl, fun w' hSw => by have q0 : w'.cell? ⟨gp, 3, none⟩ = some (.int .i64 ((m : Int) + 1)) := (cell_at hSw (M.cs_get 3 (by decide))).trans (by rw [← HMZ.out]; rfl); go_simp⟩) hS5 ?_
            simp only [Act.put, List.setIfInBounds_toArray, List.set_cons_zero, List.set_cons_succ]
            refine takeR (i := 9) (v := .agg M.cs) (some 81) rfl rfl (by kernel_rfl) (by kernel_rfl) (by kernel_rfl) (fun _ _ _ h => h) (Or.inl ⟨by kernel_rfl, fun w' hSw => by exact loadM_run hSw (.tmp 13) rfl (by kernel_rfl)⟩) hS5 ?_
            simp only [Act.put, List.setIfInBounds_toArray, List.set_cons_zero, List.set_cons_succ]
            refine takeR (i := 10) (v := .agg (ptL (⟨m + 1, m + 1, false, some M⟩ : Pt Msg)).toArray) (some 82) rfl rfl (by kernel_rfl) (by kernel_rfl) (by kernel_rfl) (fun _ _ _ h => h) (Or.inl ⟨by kernel_rfl, fun w' hSw => by kernel_rfl⟩) hS5 ?_
            simp only [Act.put, List.setIfInBounds_toArray, List.set_cons_zero, List.set_cons_succ]
            refine wpAnyH_ready (rs := [4, 11]) (by kernel_rfl) (by simp) ?_
            refine AllReadyH.cons rfl (fun K1 hK1 => ?_) (AllReadyH.cons rfl (fun K1 hK1 => ?_) AllReadyH.nil)
            · rw [if_pos (by kernel_rfl)]
              refine callR (d := some 76) rfl 19 #[.slice ao np cp, .int .i64 (a : Int), .int .i64 ((m : Int) + 1)] (by kernel_rfl) (skipTo_any (a := a) (m := m) _ HX.out.ps.len HX.out.ps.row HB.out.1 HB.out.2.1 HB.out.2.2.1 HB.out.2.2.2) ?_
              rintro e w6 ⟨v6, rfl, hr6, hf6, hn6⟩
              refine ⟨_, rfl, ?_⟩
              have HX6 : Hid _ := HX.out.step hf6 hn6 hr6
              refine hK1.out _ _ HX6.out.own (fun _ => ?_)
              clear hK1 hf6 hn6 hr6
              simp only [Act.put, List.setIfInBounds_toArray, List.set_cons_zero, List.set_cons_succ]
              refine wpAnyH_ready (rs := [11]) (by kernel_rfl) (by simp) ?_
              refine AllReadyH.cons rfl (fun K2 hK2 => ?_) AllReadyH.nil
              rw [if_pos (by kernel_rfl)]
              refine valR (d := some 83) rfl (.slice (some ⟨w6.heap.size, 0, none⟩) 1 1) (w' := w6.alloc (.cells (ptL (⟨m + 1, m + 1, false, some M⟩ : Pt Msg)).toArray 36)) (by kernel_rfl) ?_
              have HX7 : Hid _ := HX6.out.alloc (.cells (ptL (⟨m + 1, m + 1, false, some M⟩ : Pt Msg)).toArray 36)
              have hgn : (w6.alloc (.cells (ptL (⟨m + 1, m + 1, false, some M⟩ : Pt Msg)).toArray 36)).heap[w6.heap.size]? = some (.cells (ptL (⟨m + 1, m + 1, false, some M⟩ : Pt Msg)).toArray 36 (0, 0)) := heap_alloc_new w6 _
              refine hK2.out _ _ HX7.out.own (fun _ => ?_)
              clear hK2 HX6
              simp only [Act.put, List.setIfInBounds_toArray, List.set_cons_zero, List.set_cons_succ]
              generalize w6.alloc (.cells (ptL (⟨m + 1, m + 1, false, some M⟩ : Pt Msg)).toArray 36) = w7 at *
              generalize w6.heap.size = gn at *
              refine wpAnyH_ready (rs := [12]) (by kernel_rfl) (by simp) ?_
              refine AllReadyH.cons rfl (fun K3 hK3 => ?_) AllReadyH.nil
              rw [if_pos (by kernel_rfl)]
              obtain ⟨v8, w8, hrun, hx8⟩ := HX7.out.app (⟨m + 1, m + 1, false, some M⟩ : Pt Msg) hgn (by have h0 := HX.out.ps.len; have h1 := HB.out.1; have h2 := skipL_len (gr (cd keep ev) (mm keep ev) a (cu - a)) a (m + 1); omega)
              refine valR (d := some 84) rfl v8 (exec_append (.tmp 76) (.tmp 83) 29 rfl (by kernel_rfl) (by kernel_rfl) hrun) ?_
              refine hK3.out _ _ hx8.own (fun hS8 => ?_)
              clear hK3 hrun
              simp only [Act.put, List.setIfInBounds_toArray, List.set_cons_zero, List.set_cons_succ]
              have HX8 : Hid _ := hx8
              clear hx8 HX7 hgn
              refine takeR (i := 13) (v := v8) (some 8) rfl rfl (by kernel_rfl) (by kernel_rfl) (by kernel_rfl) (fun _ _ _ h => h) (Or.inl ⟨by kernel_rfl, fun w' hSw => by kernel_rfl⟩) hS8 ?_
              simp only [Act.put, List.setIfInBounds_toArray, List.set_cons_zero, List.set_cons_succ]
              refine wpAnyH_done (by kernel_rfl) ?_ _
              refine hKc _ _ ?_
              obtain ⟨ao8, cp8, rfl, -⟩ := HX8.out.ps.row.form
              clear hKc hS8 hS5
              generalize hn8 : (skipL (gr (cd keep ev) (mm keep ev) a (cu - a)) a (m + 1) ++ [(⟨m + 1, m + 1, false, some M⟩ : Pt Msg)]).length = n8 at *
              clear hn8
              generalize hpc : (ptL (⟨m + 1, m + 1, false, some M⟩ : Pt Msg)).toArray = pcs at *
              clear hpc
              generalize M.cs = csM at *
              go_wp2
              go_roundw
              case rel => exact ⟨t + 1, _, ao8, cp8, by omega, by go_num, rfl, m + 1 + 1, HST.out.2.1, by have e := HST.out.1; have h8 := HX8.out.ps; rw [e] at h8; exact h8⟩
              case measure => simp [intOf]; omega
            · rw [if_pos (by kernel_rfl)]
              refine valR (d := some 83) rfl (.slice (some ⟨w5.heap.size, 0, none⟩) 1 1) (w' := w5.alloc (.cells (ptL (⟨m + 1, m + 1, false, some M⟩ : Pt Msg)).toArray 36)) (by kernel_rfl) ?_
              have HX6 : Hid _ := HX.out.alloc (.cells (ptL (⟨m + 1, m + 1, false, some M⟩ : Pt Msg)).toArray 36)
              have hgn6 : (w5.alloc (.cells (ptL (⟨m + 1, m + 1, false, some M⟩ : Pt Msg)).toArray 36)).heap[w5.heap.size]? = some (.cells (ptL (⟨m + 1, m + 1, false, some M⟩ : Pt Msg)).toArray 36 (0, 0)) := heap_alloc_new w5 _
              have hgv : (Value.slice ao np cp).ownBlock ≠ some w5.heap.size := fun e => by have := (HX.out.ps.row.lt e).1; omega
              refine hK1.out _ _ HX6.out.own (fun _ => ?_)
              clear hK1
              simp only [Act.put, List.setIfInBounds_toArray, List.set_cons_zero, List.set_cons_succ]
              generalize w5.alloc (.cells (ptL (⟨m + 1, m + 1, false, some M⟩ : Pt Msg)).toArray 36) = w6 at *
              generalize w5.heap.size = gn at *
              refine wpAnyH_ready (rs := [4]) (by kernel_rfl) (by simp) ?_
              refine AllReadyH.cons rfl (fun K2 hK2 => ?_) AllReadyH.nil
              rw [if_pos (by kernel_rfl)]
              refine callR (d := some 76) rfl 19 #[.slice ao np cp, .int .i64 (a : Int), .int .i64 ((m : Int) + 1)] (by kernel_rfl) (skipTo_any (a := a) (m := m) _ HX6.out.ps.len HX6.out.ps.row HB.out.1 HB.out.2.1 HB.out.2.2.1 HB.out.2.2.2) ?_
              rintro e w7 ⟨v6, rfl, hr6, hf6, hn6⟩
              refine ⟨_, rfl, ?_⟩
              have HX7 : Hid _ := HX6.out.step hf6 hn6 hr6
              have hgn : w7.heap[gn]? = some (.cells (ptL (⟨m + 1, m + 1, false, some M⟩ : Pt Msg)).toArray 36 (0, 0)) := (hf6.block gn (Array.getElem?_eq_some_iff.1 hgn6).1 hgv).trans hgn6
              refine hK2.out _ _ HX7.out.own (fun _ => ?_)
              clear hK2 hf6 hn6 hr6 hgn6 hgv HX6
              simp only [Act.put, List.setIfInBounds_toArray, List.set_cons_zero, List.set_cons_succ]
              refine wpAnyH_ready (rs := [12]) (by kernel_rfl) (by simp) ?_
              refine AllReadyH.cons rfl (fun K3 hK3 => ?_) AllReadyH.nil
              rw [if_pos (by kernel_rfl)]
              obtain ⟨v8, w8, hrun, hx8⟩ := HX7.out.app (⟨m + 1, m + 1, false, some M⟩ : Pt Msg) hgn (by have h0 := HX.out.ps.len; have h1 := HB.out.1; have h2 := skipL_len (gr (cd keep ev) (mm keep ev) a (cu - a)) a (m + 1); omega)
              refine valR (d := some 84) rfl v8 (exec_append (.tmp 76) (.tmp 83) 29 rfl (by kernel_rfl) (by kernel_rfl) hrun) ?_
              refine hK3.out _ _ hx8.own (fun hS8 => ?_)
              clear hK3 hrun
              simp only [Act.put, List.setIfInBounds_toArray, List.set_cons_zero, List.set_cons_succ]
              have HX8 : Hid _ := hx8
              clear hx8 HX7 hgn
              refine takeR (i := 13) (v := v8) (some 8) rfl rfl (by kernel_rfl) (by kernel_rfl) (by kernel_rfl) (fun _ _ _ h => h) (Or.inl ⟨by kernel_rfl, fun w' hSw => by kernel_rfl⟩) hS8 ?_
              simp only [Act.put, List.setIfInBounds_toArray, List.set_cons_zero, List.set_cons_succ]
              refine wpAnyH_done (by kernel_rfl) ?_ _
              refine hKc _ _ ?_
              obtain ⟨ao8, cp8, rfl, -⟩ := HX8.out.ps.row.form
              clear hKc hS8 hS5
              generalize hn8 : (skipL (gr (cd keep ev) (mm keep ev) a (cu - a)) a (m + 1) ++ [(⟨m + 1, m + 1, false, some M⟩ : Pt Msg)]).length = n8 at *
              clear hn8
              generalize hpc : (ptL (⟨m + 1, m + 1, false, some M⟩ : Pt Msg)).toArray = pcs at *
              clear hpc
              generalize M.cs = csM at *
              go_wp2
              go_roundw
              case rel => exact ⟨t + 1, _, ao8, cp8, by omega, by go_num, rfl, m + 1 + 1, HST.out.2.1, by have e := HST.out.1; have h8 := HX8.out.ps; rw [e] at h8; exact h8⟩
              case measure => simp [intOf]; omega
          · obtain rfl : t = N2 := by omega
            obtain ⟨cu, hgb, hps⟩ := hG.out
            have hcu := hgb.2.1
            rw [← HN2.out.1] at hgb
            have hend := gb_end HALL.out.2 ha hab HEV.out.2 HGA.out.2.1 HGA.out.1 HF2.out.1 HF2.out.2 HN2.out.2.1 hgb
            have hbw : IntKind.i64.wrap ((b : Int) + 1) = (b : Int) + 1 := by rw [IntKind.wrap_i64]; have := HEV.out; omega
            have hsk := skipTo_any (a := a) (m := b) _ hps.len hps.row (by have := gr_len (c := cd keep ev) (g := mm keep ev) a (cu - a); rw [hps.len] at this; have := HEV.out; omega) (by have := HEV.out; omega) (by have := HEV.out; omega) (fun q hq => by have := gr_to hq; have := HEV.out; omega)
            rw [hend] at hsk
            have HPS : Hid (PS w wr (.slice ao np cp) np (gr (cd keep ev) (mm keep ev) a (cu - a))) := hps
            have hbb : (b : Int) + 1 < 9223372036854775808 := by have := HEV.out; omega
            clear hgb hps hG hend hcu
            go_wp2_with (go_at_call 19; fail)
            refine hsk.mono ?_
            rintro e w9 ⟨v9, rfl, hr9, hf9, hn9⟩
            have HR9 : Hid _ := And.intro hr9 (And.intro hf9 hn9)
            obtain ⟨ao9, cp9, rfl, -⟩ := hr9.form
            clear hr9 hf9 hn9 hsk
            generalize hLL : (gr (cd keep ev) (mm keep ev) a (b + 1 - a)).length = LL at *
            go_wp2
            go_ret2
            refine ⟨.slice ao9 LL cp9, rfl, ?_, ?_, ?_⟩
            · show RowAt _ _ _ _ (gr (cd keep ev) (mm keep ev) a (b + 1 - a)).length _
              rw [hLL]; exact HR9.out.1
            · exact HPS.out.below.trans (HR9.out.2.1.below HPS.out.below.size fun q hq e => by have := HPS.out.new q e; omega)
            · intro g hg
              rcases HR9.out.2.2 with q | ⟨g', q, q2⟩
              · exact HPS.out.new g (q ▸ hg)
              · rw [q] at hg; injection hg with hg; have := HPS.out.below.size; omega
end Go.Proofs.Ytekkckfoikpljaa
