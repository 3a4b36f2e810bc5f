/-
  ledger: a booking is added to all, to the day's lines and to the account's totals.
-/
import Derived.Test.YtidhahooebepfaaJLg
namespace Go.Proofs.Ytidhahooebepfaa
set_option linter.unusedVariables false
set_option linter.unusedSimpArgs false
open Go.RowKit Go.Great Go.Maps

theorem skipR {P : Program} {op : Oper} {a : Act} {w w' : World} {K : Act → World → Prop} {Q : Exit → Act → World → Prop} {d : Option Tmp} (hd : op.dst = d)
    (hrun : (execOp a.eval op).run P w = .ok .skip w') (h : K (a.put d undef) w') : op.wp P a w K Q := by
  subst hd
  unfold Oper.wp
  rw [hrun]
  exact h
theorem exLook {op : Oper} {a : Act} {w : World} {t : TypeId} {v vm vx : Value} (m x : Operand) (ho : op.op = .lookup t m x false) (hm : a.eval m = vm) (hx : a.eval x = vx) (hr : (Instr.lookup t vm vx false).run Try.prog w = .ok v w) : (execOp a.eval op).run Try.prog w = .ok (.value v) w := by
  unfold execOp
  simp only [ho, hm, hx, Sem.run_bind, hr, Result.andThen_ok, Sem.run_pure]
theorem exDel {op : Oper} {a : Act} {w w' : World} {t k : TypeId} {v vm vx : Value} (m x : Operand) (ho : op.op = Op.call { callee := Callee.builtin Builtin.delete, args := #[m, x], argTypes := #[t, k] }) (hm : a.eval m = vm) (hx : a.eval x = vx) (hr : (Builtin.delete_ #[t, k] op.type #[vm, vx]).run Try.prog w = .ok v w') : (execOp a.eval op).run Try.prog w = .ok (.value v) w' := by
  unfold execOp
  simp only [ho, resolve, invoke, builtin, Sem.run_bind, Sem.run_pure, Result.andThen_ok, List.map_toArray, List.map_cons, List.map_nil, hm, hx, hr]
theorem exUpd {op : Oper} {a : Act} {w w' : World} {t : TypeId} {vm vx vy : Value} (m x y : Operand) (ho : op.op = .mapUpdate t m x y) (hm : a.eval m = vm) (hx : a.eval x = vx) (hy : a.eval y = vy) (hr : (Instr.mapUpdate t vm vx vy).run Try.prog w = .ok () w') : (execOp a.eval op).run Try.prog w = .ok .skip w' := by
  unfold execOp
  simp only [ho, hm, hx, hy, Sem.run_bind, hr, Result.andThen_ok, Sem.run_pure]
theorem below_drew (w : World) : Below w.heap.size w w.drew := ⟨rfl, rfl, rfl, Nat.le_refl _, fun _ _ => rfl⟩
theorem Fr.both {a b c : World} {e : Nat → Prop} (h : Fr a b e) (k : Fr b c e) : Fr a c e := h.trans k fun _ _ q => by rcases q with q | q <;> exact q
set_option maxRecDepth 100000 in
set_option maxHeartbeats 4000000 in
theorem add_any (G : Lg) (b : Bk) (w : World) (h : LgAt w G) (hk : AddOk G b) :
    Calls Try.prog 38 #[.pointer (some ⟨G.g, 0, none⟩), .agg b.cs] w fun e w' => e = .returned (.tuple #[]) ∧ LgAt w' (G.add b) ∧ Fr w w' G.own := by
  have HK : Hid (AddOk G b) := hk
  have H1 : Hid (LgAt (w.alloc (.cells b.cs 42)) G ∧ Blk (w.alloc (.cells b.cs 42)) w.heap.size 42 b.cs ∧ Fr w (w.alloc (.cells b.cs 42)) G.own) :=
    ⟨h.below ((Below.refl _ w).alloc (Nat.le_refl _) _), Blk.new _ _ _, Fr.alloc w _ _⟩
  have HKey : Hid (keyOf Try.prog 9 (.string b.ac) = some (sK b.ac)) := keyS Try.underlying9 hk.sz.1
  clear h hk
  unfold Bk.cs
  go_enter Try.func38, Try.ntmps38
  go_upto_region 1 with fail
  rw [show (#[.string b.ac, .string b.sy, .int .i64 b.q, .int .i64 b.c, .int .i64 b.f] : Array Value) = b.cs from rfl]
  generalize w.alloc (.cells b.cs 42) = W1 at *
  generalize hbx : w.heap.size = bx at *
  have HBx : Hid (w.heap.size = bx) := hbx
  clear hbx
  have D1 : Hid (LgAt W1.drew G ∧ Blk W1.drew bx 42 b.cs ∧ Fr w W1.drew G.own) := ⟨H1.out.1.below (below_drew _), H1.out.2.1.below (below_drew _) H1.out.2.1.lt, H1.out.2.2.drew⟩
  go_upto_region 1 with fail
  refine wp_region_held (S := fun w' => Blk w' G.g 67 G.cs ∧ Blk w' bx 42 b.cs) (by kernel_rfl) ?_
  change wpAnyH _ _ _ _ _ _ _ _ (World.drew _)
  generalize W1.drew = Z1 at *
  have hS : Blk Z1 G.g 67 G.cs ∧ Blk Z1 bx 42 b.cs := ⟨D1.out.1.blk, D1.out.2.1⟩
  clear H1
  refine takeR (i := 0) (v := .pointer (some ⟨G.g, 0, none⟩)) (some 5) rfl rfl (by kernel_rfl) (by kernel_rfl) (by kernel_rfl) (fun _ _ _ h => h) (Or.inl ⟨by kernel_rfl, fun w' hSw => by kernel_rfl⟩) hS ?_
  simp only [Act.put, List.setIfInBounds_toArray, List.set_cons_zero, List.set_cons_succ]
  refine takeR (i := 1) (v := .pointer (some ⟨G.g, 0, none⟩)) (some 6) rfl rfl (by kernel_rfl) (by kernel_rfl) (by kernel_rfl) (fun _ _ _ h => h) (Or.inl ⟨by kernel_rfl, fun w' hSw => by kernel_rfl⟩) hS ?_
  simp only [Act.put, List.setIfInBounds_toArray, List.set_cons_zero, List.set_cons_succ]
  refine takeR (i := 2) (v := .pointer (some ⟨G.g, 0, none⟩)) (some 7) rfl rfl (by kernel_rfl) (by kernel_rfl) (by kernel_rfl) (fun _ _ _ h => h) (Or.inl ⟨by kernel_rfl, fun w' hSw => by kernel_rfl⟩) hS ?_
  simp only [Act.put, List.setIfInBounds_toArray, List.set_cons_zero, List.set_cons_succ]
  refine takeR (i := 3) (v := .map (some G.ma)) (some 8) rfl rfl (by kernel_rfl) (by kernel_rfl) (by kernel_rfl) (fun _ _ _ h => h) (Or.inl ⟨by kernel_rfl, fun w' hSw => by have q : w'.cell? ⟨G.g, 0, none⟩ = some (.map (some G.ma)) := hSw.1.cell 0; clear hSw; go_simp⟩) hS ?_
  simp only [Act.put, List.setIfInBounds_toArray, List.set_cons_zero, List.set_cons_succ]
  refine takeR (i := 4) (v := .agg b.cs) (some 9) rfl rfl (by kernel_rfl) (by kernel_rfl) (by kernel_rfl) (fun _ _ _ h => h) (Or.inl ⟨by kernel_rfl, fun w' hSw => by exact ldK_run hSw.2.range rfl (.tmp 3) rfl (by kernel_rfl)⟩) hS ?_
  simp only [Act.put, List.setIfInBounds_toArray, List.set_cons_zero, List.set_cons_succ]
  refine wpAnyH_ready (rs := [5]) (by kernel_rfl) (by simp) ?_
  refine AllReadyH.cons rfl (fun K1 hK1 => ?_) AllReadyH.nil
  rw [if_pos (by kernel_rfl)]
  refine callR (d := some 10) rfl 54 #[.map (some G.ma), .agg b.cs] (by kernel_rfl) (lnadd_any G.A b G.ma Z1 D1.out.1.all D1.out.1.szA HK.out.sz HK.out.la HK.out.a1 HK.out.a2 HK.out.a3) ?_
  rintro e W2 ⟨rfl, hm, hf⟩
  have H2 : Hid (LgAt W2 (G.setA (lnAdd G.A b)) ∧ Blk W2 bx 42 b.cs ∧ Fr w W2 G.own) := ⟨D1.out.1.setA hm hf (D1.out.1.szA.add HK.out.sz), D1.out.2.1.fr hf (fun e => D1.out.1.ne_blk D1.out.2.1 (by decide) (by decide) (by decide) (by rw [e]; exact .inr (.inl rfl))), D1.out.2.2.both (hf.mono fun i _ e => by rw [e]; exact .inr (.inl rfl))⟩
  clear hm hf hS
  have hS : Blk W2 G.g 67 G.cs ∧ Blk W2 bx 42 b.cs := ⟨H2.out.1.blk, H2.out.2.1⟩
  refine ⟨_, rfl, ?_⟩
  refine hK1.out _ _ hS (fun _ => ?_)
  clear hK1 D1
  simp only [Act.put, List.setIfInBounds_toArray, List.set_cons_zero, List.set_cons_succ]
  refine wpAnyH_done (by kernel_rfl) ?_ _
  clear hS
  have D2 : Hid (LgAt W2.drew (G.setA (lnAdd G.A b)) ∧ Blk W2.drew bx 42 b.cs ∧ Fr w W2.drew G.own) := ⟨H2.out.1.below (below_drew _), H2.out.2.1.below (below_drew _) H2.out.2.1.lt, H2.out.2.2.drew⟩
  go_upto_region 2 with fail
  refine wp_region_held (S := fun w' => Blk w' G.g 67 G.cs ∧ Blk w' bx 42 b.cs) (by kernel_rfl) ?_
  change wpAnyH _ _ _ _ _ _ _ _ (World.drew _)
  generalize W2.drew = Z2 at *
  have hS : Blk Z2 G.g 67 G.cs ∧ Blk Z2 bx 42 b.cs := ⟨D2.out.1.blk, D2.out.2.1⟩
  clear H2
  refine takeR (i := 0) (v := .pointer (some ⟨G.g, 0, none⟩)) (some 11) rfl rfl (by kernel_rfl) (by kernel_rfl) (by kernel_rfl) (fun _ _ _ h => h) (Or.inl ⟨by kernel_rfl, fun w' hSw => by kernel_rfl⟩) hS ?_
  simp only [Act.put, List.setIfInBounds_toArray, List.set_cons_zero, List.set_cons_succ]
  refine takeR (i := 1) (v := .pointer (some ⟨G.g, 0, none⟩)) (some 12) rfl rfl (by kernel_rfl) (by kernel_rfl) (by kernel_rfl) (fun _ _ _ h => h) (Or.inl ⟨by kernel_rfl, fun w' hSw => by kernel_rfl⟩) hS ?_
  simp only [Act.put, List.setIfInBounds_toArray, List.set_cons_zero, List.set_cons_succ]
  refine takeR (i := 2) (v := .pointer (some ⟨G.g, 1, none⟩)) (some 13) rfl rfl (by kernel_rfl) (by kernel_rfl) (by kernel_rfl) (fun _ _ _ h => h) (Or.inl ⟨by kernel_rfl, fun w' hSw => by kernel_rfl⟩) hS ?_
  simp only [Act.put, List.setIfInBounds_toArray, List.set_cons_zero, List.set_cons_succ]
  refine takeR (i := 3) (v := .map (some G.mt)) (some 14) rfl rfl (by kernel_rfl) (by kernel_rfl) (by kernel_rfl) (fun _ _ _ h => h) (Or.inl ⟨by kernel_rfl, fun w' hSw => by have q : w'.cell? ⟨G.g, 1, none⟩ = some (.map (some G.mt)) := hSw.1.cell 1; clear hSw; go_simp⟩) hS ?_
  simp only [Act.put, List.setIfInBounds_toArray, List.set_cons_zero, List.set_cons_succ]
  refine takeR (i := 4) (v := .agg b.cs) (some 15) rfl rfl (by kernel_rfl) (by kernel_rfl) (by kernel_rfl) (fun _ _ _ h => h) (Or.inl ⟨by kernel_rfl, fun w' hSw => by exact ldK_run hSw.2.range rfl (.tmp 3) rfl (by kernel_rfl)⟩) hS ?_
  simp only [Act.put, List.setIfInBounds_toArray, List.set_cons_zero, List.set_cons_succ]
  refine wpAnyH_ready (rs := [5]) (by kernel_rfl) (by simp) ?_
  refine AllReadyH.cons rfl (fun K1 hK1 => ?_) AllReadyH.nil
  rw [if_pos (by kernel_rfl)]
  refine callR (d := some 16) rfl 54 #[.map (some G.mt), .agg b.cs] (by kernel_rfl) (lnadd_any G.T b G.mt Z2 D2.out.1.tod D2.out.1.szT HK.out.sz HK.out.lt HK.out.t1 HK.out.t2 HK.out.t3) ?_
  rintro e W3 ⟨rfl, hm, hf⟩
  have H3 : Hid (LgAt W3 ((G.setA (lnAdd G.A b)).setT (lnAdd G.T b)) ∧ Blk W3 bx 42 b.cs ∧ Fr w W3 G.own) := ⟨D2.out.1.setT hm hf (D2.out.1.szT.add HK.out.sz), D2.out.2.1.fr hf (fun e => D2.out.1.ne_blk D2.out.2.1 (by decide) (by decide) (by decide) (by rw [e]; exact .inr (.inr (.inl rfl)))), D2.out.2.2.both (hf.mono fun i _ e => by rw [e]; exact .inr (.inr (.inl rfl)))⟩
  clear hm hf hS
  have hS : Blk W3 G.g 67 G.cs ∧ Blk W3 bx 42 b.cs := ⟨H3.out.1.blk, H3.out.2.1⟩
  refine ⟨_, rfl, ?_⟩
  refine hK1.out _ _ hS (fun _ => ?_)
  clear hK1 D2
  simp only [Act.put, List.setIfInBounds_toArray, List.set_cons_zero, List.set_cons_succ]
  refine wpAnyH_done (by kernel_rfl) ?_ _
  clear hS
  generalize hG : (G.setA (lnAdd G.A b)).setT (lnAdd G.T b) = G3 at *
  have HG : Hid (G3.g = G.g ∧ G3.mo = G.mo ∧ G3.O = G.O ∧ G3.cs = G.cs ∧ (∀ x, G3.own x ↔ G.own x) ∧ G3.setO (toAdd G.O b) = G.add b) := by
    subst hG
    exact ⟨rfl, rfl, rfl, rfl, fun _ => Iff.rfl, rfl⟩
  clear hG
  have D3 : Hid (LgAt W3.drew G3 ∧ Blk W3.drew bx 42 b.cs ∧ Fr w W3.drew G.own) := ⟨H3.out.1.below (below_drew _), H3.out.2.1.below (below_drew _) H3.out.2.1.lt, H3.out.2.2.drew⟩
  go_upto_region 3 with fail
  refine wp_region_held (S := fun w' => Blk w' G.g 67 G.cs ∧ Blk w' bx 42 b.cs ∧ MapL Try.prog w' 9 G.mo (G.O.map To.ent)) (by kernel_rfl) ?_
  change wpAnyH _ _ _ _ _ _ _ _ (World.drew _)
  generalize W3.drew = Z3 at *
  have HS3 : Hid (∀ w', Below Z3.heap.size Z3 w' → Blk w' G.g 67 G.cs ∧ Blk w' bx 42 b.cs ∧ MapL Try.prog w' 9 G.mo (G.O.map To.ent)) := fun w' hb => by
    have h1 := D3.out.1.below hb
    refine ⟨?_, D3.out.2.1.below hb D3.out.2.1.lt, ?_⟩
    · have := h1.blk
      rwa [HG.out.1, HG.out.2.2.2.1] at this
    · have := h1.tot
      rwa [HG.out.2.1, HG.out.2.2.1] at this
  have hS := HS3.out Z3 (Below.refl _ _)
  clear H3
  generalize hto : tot G.O b.ac = mf at *
  obtain ⟨m0, f0⟩ := mf
  have HTo : Hid (tot G.O b.ac = (m0, f0)) := hto
  clear hto
  refine takeR (i := 0) (v := .pointer (some ⟨G.g, 0, none⟩)) (some 17) rfl rfl (by kernel_rfl) (by kernel_rfl) (by kernel_rfl) (fun _ _ _ h => h) (Or.inl ⟨by kernel_rfl, fun w' hSw => by kernel_rfl⟩) hS ?_
  simp only [Act.put, List.setIfInBounds_toArray, List.set_cons_zero, List.set_cons_succ]
  refine takeR (i := 1) (v := .pointer (some ⟨G.g, 0, none⟩)) (some 18) rfl rfl (by kernel_rfl) (by kernel_rfl) (by kernel_rfl) (fun _ _ _ h => h) (Or.inl ⟨by kernel_rfl, fun w' hSw => by kernel_rfl⟩) hS ?_
  simp only [Act.put, List.setIfInBounds_toArray, List.set_cons_zero, List.set_cons_succ]
  refine takeR (i := 2) (v := .pointer (some ⟨G.g, 2, none⟩)) (some 19) rfl rfl (by kernel_rfl) (by kernel_rfl) (by kernel_rfl) (fun _ _ _ h => h) (Or.inl ⟨by kernel_rfl, fun w' hSw => by kernel_rfl⟩) hS ?_
  simp only [Act.put, List.setIfInBounds_toArray, List.set_cons_zero, List.set_cons_succ]
  refine takeR (i := 3) (v := .map (some G.mo)) (some 20) rfl rfl (by kernel_rfl) (by kernel_rfl) (by kernel_rfl) (fun _ _ _ h => h) (Or.inl ⟨by kernel_rfl, fun w' hSw => by have q : w'.cell? ⟨G.g, 2, none⟩ = some (.map (some G.mo)) := hSw.1.cell 2; clear hSw; go_simp⟩) hS ?_
  simp only [Act.put, List.setIfInBounds_toArray, List.set_cons_zero, List.set_cons_succ]
  refine takeR (i := 4) (v := .pointer (some ⟨bx, 0, none⟩)) (some 21) rfl rfl (by kernel_rfl) (by kernel_rfl) (by kernel_rfl) (fun _ _ _ h => h) (Or.inl ⟨by kernel_rfl, fun w' hSw => by kernel_rfl⟩) hS ?_
  simp only [Act.put, List.setIfInBounds_toArray, List.set_cons_zero, List.set_cons_succ]
  refine takeR (i := 5) (v := .string b.ac) (some 22) rfl rfl (by kernel_rfl) (by kernel_rfl) (by kernel_rfl) (fun _ _ _ h => h) (Or.inl ⟨by kernel_rfl, fun w' hSw => by have q : w'.cell? ⟨bx, 0, none⟩ = some (.string b.ac) := hSw.2.1.cell 0; clear hSw; go_simp⟩) hS ?_
  simp only [Act.put, List.setIfInBounds_toArray, List.set_cons_zero, List.set_cons_succ]
  refine takeR (i := 6) (v := .agg #[.int .i64 m0, .int .i64 f0]) (some 23) rfl rfl (by kernel_rfl) (by kernel_rfl) (by kernel_rfl) (fun _ _ _ h => h) (Or.inl ⟨by kernel_rfl, fun w' hSw => by exact exLook (.tmp 20) (.tmp 22) rfl (by kernel_rfl) (by kernel_rfl) (by rw [(hSw.2.2.look law9 Try.underlying64 (zeroT _) HKey.out).2, atL_tot, HTo.out])⟩) hS ?_
  simp only [Act.put, List.setIfInBounds_toArray, List.set_cons_zero, List.set_cons_succ]
  refine wpAnyH_ready (rs := [7]) (by kernel_rfl) (by simp) ?_
  refine AllReadyH.cons rfl (fun K1 hK1 => ?_) AllReadyH.nil
  rw [if_pos (by kernel_rfl)]
  refine valR (d := some 4) rfl (.pointer (some ⟨Z3.heap.size, 0, none⟩)) (w' := Z3.alloc (.cells #[.int .i64 0, .int .i64 0] 77)) (by kernel_rfl) ?_
  refine hK1.out _ _ (HS3.out _ ((Below.refl _ Z3).alloc (Nat.le_refl _) _)) (fun _ => ?_)
  clear hK1
  simp only [Act.put, List.setIfInBounds_toArray, List.set_cons_zero, List.set_cons_succ]
  refine wpAnyH_ready (rs := [8]) (by kernel_rfl) (by simp) ?_
  refine AllReadyH.cons rfl (fun K1 hK1 => ?_) AllReadyH.nil
  rw [if_pos (by kernel_rfl)]
  have hbz : Blk (Z3.alloc (.cells #[.int .i64 0, .int .i64 0] 77)) Z3.heap.size 77 #[.int .i64 0, .int .i64 0] := Blk.new _ _ _
  refine wp_store_row 77 (.tmp 4) (.tmp 23) rfl Z3.heap.size #[.int .i64 m0, .int .i64 f0] (by kernel_rfl) (by kernel_rfl) 77 _ hbz (by kernel_rfl) rfl (by kernel_rfl) ?_
  have hb4 : Below Z3.heap.size Z3 ((Z3.alloc (.cells #[.int .i64 0, .int .i64 0] 77)).setRow Z3.heap.size #[.int .i64 m0, .int .i64 f0]) := by
    have h0 : Below Z3.heap.size Z3 (Z3.alloc (.cells #[.int .i64 0, .int .i64 0] 77)) := (Below.refl _ Z3).alloc (Nat.le_refl _) _
    exact ⟨h0.os, h0.tape, h0.output, by simp [World.setRow], fun q hq => by
      have e : ((Z3.alloc (.cells #[.int .i64 0, .int .i64 0] 77)).setRow Z3.heap.size #[.int .i64 m0, .int .i64 f0]).heap[q]? = (Z3.alloc (.cells #[.int .i64 0, .int .i64 0] 77)).heap[q]? := by
        simp only [World.setRow, Array.getElem?_modify]
        rw [if_neg (by omega)]
      exact e.trans (h0.block q hq)⟩
  refine hK1.out _ _ (HS3.out _ hb4) (fun _ => ?_)
  clear hK1
  simp only [Act.put, List.setIfInBounds_toArray, List.set_cons_zero, List.set_cons_succ]
  refine wpAnyH_done (by kernel_rfl) ?_ _
  have HTb : Hid (Blk ((Z3.alloc (.cells #[.int .i64 0, .int .i64 0] 77)).setRow Z3.heap.size #[.int .i64 m0, .int .i64 f0]) Z3.heap.size 77 #[.int .i64 m0, .int .i64 f0]) := setRow_heap _ _ _ _ _ _ hbz
  have H4 : Hid (LgAt ((Z3.alloc (.cells #[.int .i64 0, .int .i64 0] 77)).setRow Z3.heap.size #[.int .i64 m0, .int .i64 f0]) G3 ∧ Blk ((Z3.alloc (.cells #[.int .i64 0, .int .i64 0] 77)).setRow Z3.heap.size #[.int .i64 m0, .int .i64 f0]) bx 42 b.cs ∧ Fr w ((Z3.alloc (.cells #[.int .i64 0, .int .i64 0] 77)).setRow Z3.heap.size #[.int .i64 m0, .int .i64 f0]) G.own) := ⟨D3.out.1.below hb4, D3.out.2.1.below hb4 D3.out.2.1.lt, D3.out.2.2.both (Fr.of_below hb4 _)⟩
  have hlt : bx < Z3.heap.size := D3.out.2.1.lt
  clear hb4 hbz hS HS3 D3
  generalize (Z3.alloc (.cells #[.int .i64 0, .int .i64 0] 77)).setRow Z3.heap.size #[.int .i64 m0, .int .i64 f0] = Y at *
  generalize Z3.heap.size = tb at *
  have hne : bx ≠ tb := by omega
  have hne' : tb ≠ bx := by omega
  have c0 : Y.cell? ⟨tb, 0, none⟩ = some (.int .i64 m0) := HTb.out.cell 0
  have c1 : Y.cell? ⟨tb, 1, none⟩ = some (.int .i64 f0) := HTb.out.cell 1
  have fz0 : Y.frozen? ⟨tb, 0, none⟩ = false := HTb.out.frozen 0
  have fz1 : Y.frozen? ⟨tb, 1, none⟩ = false := HTb.out.frozen 1
  have b3 : Y.cell? ⟨bx, 3, none⟩ = some (.int .i64 b.c) := H4.out.2.1.cell 3
  have b4 : Y.cell? ⟨bx, 4, none⟩ = some (.int .i64 b.f) := H4.out.2.1.cell 4
  have r0 := HK.out.o0
  have r1 := HK.out.o1
  have r2 := HK.out.o2
  rw [HTo.out] at r1 r2
  unfold i64R at r0 r1 r2
  simp only at r1 r2
  have HLw : Hid (w.heap.size < tb) := by rw [HBx.out]; exact hlt
  clear hlt
  go_upto_region 6 with fail
  have HF5 : Hid (Fr Y ((Y.setCell ⟨tb, 0, none⟩ (.int .i64 (m0 + (b.c - b.f)))).setCell ⟨tb, 1, none⟩ (.int .i64 (f0 + b.f))) (fun x => x = tb)) := (Fr.setCell Y ⟨tb, 0, none⟩ _ (fun x => x = tb) rfl).both (Fr.setCell _ ⟨tb, 1, none⟩ _ (fun x => x = tb) rfl)
  have HT5 : Hid (Blk ((Y.setCell ⟨tb, 0, none⟩ (.int .i64 (m0 + (b.c - b.f)))).setCell ⟨tb, 1, none⟩ (.int .i64 (f0 + b.f))) tb 77 #[.int .i64 (m0 + (b.c - b.f)), .int .i64 (f0 + b.f)]) := (HTb.out.set 0 _).set 1 _
  have HO5 : Hid (¬ G3.own tb) := H4.out.1.ne_blk HTb.out (by decide) (by decide) (by decide)
  have H5 : Hid (LgAt ((Y.setCell ⟨tb, 0, none⟩ (.int .i64 (m0 + (b.c - b.f)))).setCell ⟨tb, 1, none⟩ (.int .i64 (f0 + b.f))) G3 ∧ Blk ((Y.setCell ⟨tb, 0, none⟩ (.int .i64 (m0 + (b.c - b.f)))).setCell ⟨tb, 1, none⟩ (.int .i64 (f0 + b.f))) bx 42 b.cs ∧ Fr w ((Y.setCell ⟨tb, 0, none⟩ (.int .i64 (m0 + (b.c - b.f)))).setCell ⟨tb, 1, none⟩ (.int .i64 (f0 + b.f))) G.own) := by
    refine ⟨H4.out.1.fr HF5.out (fun x hx e => HO5.out (e ▸ hx)), H4.out.2.1.fr HF5.out hne, ?_⟩
    exact H4.out.2.2.trans HF5.out fun i hi q => by
      rcases q with q | q
      · exact q
      · exact absurd hi (by have := HLw.out; omega)
  have HAd : Hid (toAdd G.O b = if m0 + (b.c - b.f) = 0 ∧ f0 + b.f = 0 then butT G.O b.ac else ⟨b.ac, m0 + (b.c - b.f), f0 + b.f⟩ :: butT G.O b.ac) := by unfold toAdd; rw [HTo.out]; exact rfl
  clear c0 c1 fz0 fz1 b3 b4 r0 r1 r2 H4 HTb HF5 hne hne' HO5
  generalize (Y.setCell ⟨tb, 0, none⟩ (.int .i64 (m0 + (b.c - b.f)))).setCell ⟨tb, 1, none⟩ (.int .i64 (f0 + b.f)) = Y5 at *
  generalize m0 + (b.c - b.f) = m1 at *
  generalize f0 + b.f = f1 at *
  have HFin : Hid (∀ w1 w2 O', Below Y5.heap.size Y5 w1 → MapL Try.prog w2 9 G.mo (O'.map To.ent) → Fr w1 w2 (fun x => x = G.mo) → O' = toAdd G.O b → LgAt w2 (G.add b) ∧ Fr w w2 G.own) := fun w1 w2 O' hb hm hf e => by
    have h1 := H5.out.1.below hb
    have h2 : LgAt w2 (G3.setO O') := h1.setO (by rw [HG.out.2.1]; exact hm) (by rw [HG.out.2.1]; exact hf) (by rw [e, ← HG.out.2.2.1]; exact H5.out.1.szO.add HK.out.sz.1)
    rw [e, HG.out.2.2.2.2.2] at h2
    exact ⟨h2, (H5.out.2.2.both (Fr.of_below hb _)).both (hf.mono fun i _ e => by rw [e]; exact .inr (.inr (.inr (.inl rfl))))⟩
  have HMo : Hid (∀ w1, Below Y5.heap.size Y5 w1 → Blk w1 G.g 67 G.cs ∧ Blk w1 bx 42 b.cs ∧ MapL Try.prog w1 9 G.mo (G.O.map To.ent) ∧ Blk w1 tb 77 #[.int .i64 m1, .int .i64 f1]) := fun w1 hb => by
    have h1 := H5.out.1.below hb
    refine ⟨?_, H5.out.2.1.below hb H5.out.2.1.lt, ?_, HT5.out.below hb HT5.out.lt⟩
    · have := h1.blk
      rwa [HG.out.1, HG.out.2.2.2.1] at this
    · have := h1.tot
      rwa [HG.out.2.1, HG.out.2.2.1] at this
  have HLo : Hid ((G.O.map To.ent).length < maxLen) := by rw [List.length_map]; exact HK.out.lo
  clear HG HK HLw HTo
  rename_i K6 hK6
  refine wp_region_lit ?_
  refine wpList_runTo rfl (some 39) rfl (.agg #[.int .i64 m1, .int .i64 f1]) Y5 (by exact ldT_run HT5.out.range rfl (.tmp 4) rfl (by kernel_rfl)) ?_
  simp only [Act.put, List.setIfInBounds_toArray, List.set_cons_zero, List.set_cons_succ]
  refine wpList_runTo rfl (some 40) rfl (.agg #[.int .i64 0, .int .i64 0]) Y5 (by kernel_rfl) ?_
  simp only [Act.put, List.setIfInBounds_toArray, List.set_cons_zero, List.set_cons_succ]
  by_cases hn : m1 = 0 ∧ f1 = 0
  · have HE : Hid (butT G.O b.ac = toAdd G.O b) := by rw [HAd.out, if_pos hn]; exact rfl
    obtain ⟨rfl, rfl⟩ := hn
    refine wpList_runTo rfl (some 41) rfl (.bool true) Y5 (by kernel_rfl) ?_
    simp only [Act.put, List.setIfInBounds_toArray, List.set_cons_zero, List.set_cons_succ]
    refine wpList_nil ?_
    refine hK6 _ _ ?_
    clear HAd H5 HT5 hK6
    go_upto_region 7 with fail
    refine wp_region_held (S := fun w' => Blk w' G.g 67 G.cs ∧ Blk w' bx 42 b.cs) (by kernel_rfl) ?_
    change wpAnyH _ _ _ _ _ _ _ _ (World.drew _)
    have hb5 := below_drew Y5
    generalize Y5.drew = Z5 at *
    have hS : Blk Z5 G.g 67 G.cs ∧ Blk Z5 bx 42 b.cs := ⟨(HMo.out _ hb5).1, (HMo.out _ hb5).2.1⟩
    refine takeR (i := 0) (v := .pointer (some ⟨G.g, 0, none⟩)) (some 42) rfl rfl (by kernel_rfl) (by kernel_rfl) (by kernel_rfl) (fun _ _ _ h => h) (Or.inl ⟨by kernel_rfl, fun w' hSw => by kernel_rfl⟩) hS ?_
    simp only [Act.put, List.setIfInBounds_toArray, List.set_cons_zero, List.set_cons_succ]
    refine takeR (i := 1) (v := .pointer (some ⟨G.g, 0, none⟩)) (some 43) rfl rfl (by kernel_rfl) (by kernel_rfl) (by kernel_rfl) (fun _ _ _ h => h) (Or.inl ⟨by kernel_rfl, fun w' hSw => by kernel_rfl⟩) hS ?_
    simp only [Act.put, List.setIfInBounds_toArray, List.set_cons_zero, List.set_cons_succ]
    refine takeR (i := 2) (v := .pointer (some ⟨G.g, 2, none⟩)) (some 44) rfl rfl (by kernel_rfl) (by kernel_rfl) (by kernel_rfl) (fun _ _ _ h => h) (Or.inl ⟨by kernel_rfl, fun w' hSw => by kernel_rfl⟩) hS ?_
    simp only [Act.put, List.setIfInBounds_toArray, List.set_cons_zero, List.set_cons_succ]
    refine takeR (i := 3) (v := .map (some G.mo)) (some 45) rfl rfl (by kernel_rfl) (by kernel_rfl) (by kernel_rfl) (fun _ _ _ h => h) (Or.inl ⟨by kernel_rfl, fun w' hSw => by have q : w'.cell? ⟨G.g, 2, none⟩ = some (.map (some G.mo)) := hSw.1.cell 2; clear hSw; go_simp⟩) hS ?_
    simp only [Act.put, List.setIfInBounds_toArray, List.set_cons_zero, List.set_cons_succ]
    refine takeR (i := 4) (v := .pointer (some ⟨bx, 0, none⟩)) (some 46) rfl rfl (by kernel_rfl) (by kernel_rfl) (by kernel_rfl) (fun _ _ _ h => h) (Or.inl ⟨by kernel_rfl, fun w' hSw => by kernel_rfl⟩) hS ?_
    simp only [Act.put, List.setIfInBounds_toArray, List.set_cons_zero, List.set_cons_succ]
    refine takeR (i := 5) (v := .string b.ac) (some 47) rfl rfl (by kernel_rfl) (by kernel_rfl) (by kernel_rfl) (fun _ _ _ h => h) (Or.inl ⟨by kernel_rfl, fun w' hSw => by have q : w'.cell? ⟨bx, 0, none⟩ = some (.string b.ac) := hSw.2.cell 0; clear hSw; go_simp⟩) hS ?_
    simp only [Act.put, List.setIfInBounds_toArray, List.set_cons_zero, List.set_cons_succ]
    refine wpAnyH_ready (rs := [6]) (by kernel_rfl) (by simp) ?_
    refine AllReadyH.cons rfl (fun K1 hK1 => ?_) AllReadyH.nil
    rw [if_pos (by kernel_rfl)]
    obtain ⟨w6, hrun, hm6, hf6, hs6⟩ := (HMo.out _ hb5).2.2.1.drop law9 Try.underlying64 HKey.out 0
    refine valR (d := none) rfl (.tuple #[]) (w' := w6) (exDel (.tmp 45) (.tmp 47) rfl (by kernel_rfl) (by kernel_rfl) hrun) ?_
    refine hK1.out _ _ ⟨hS.1.fr hf6 (fun e => (HMo.out _ hb5).2.2.1.ne_blk hS.1 e.symm), hS.2.fr hf6 (fun e => (HMo.out _ hb5).2.2.1.ne_blk hS.2 e.symm)⟩ (fun _ => ?_)
    clear hK1
    simp only [Act.put, List.setIfInBounds_toArray, List.set_cons_zero, List.set_cons_succ]
    refine wpAnyH_done (by kernel_rfl) ?_ _
    rw [butL_tot] at hm6
    have HZ := HFin.out _ _ _ hb5 hm6 hf6 HE.out
    have HZ' : Hid (LgAt w6 (G.add b) ∧ Fr w w6 G.own) := HZ
    clear HZ hm6 hf6 hs6 hrun hS hb5 HFin HMo HLo HE HKey
    go_wp2
    exact ⟨by rfl, .tuple #[], results_none (by rfl) _ _ _, rfl, HZ'.out⟩
  · have HE : Hid (⟨b.ac, m1, f1⟩ :: butT G.O b.ac = toAdd G.O b) := by rw [HAd.out, if_neg hn]; exact rfl
    refine wpList_runTo rfl (some 41) rfl (.bool false) Y5 (by exact eqT_run (.tmp 39) (.tmp 40) rfl (by kernel_rfl) (by kernel_rfl) hn Y5) ?_
    simp only [Act.put, List.setIfInBounds_toArray, List.set_cons_zero, List.set_cons_succ]
    refine wpList_nil ?_
    refine hK6 _ _ ?_
    clear HAd H5 HT5 hK6 hn
    go_upto_region 8 with fail
    refine wp_region_held (S := fun w' => Blk w' G.g 67 G.cs ∧ Blk w' bx 42 b.cs ∧ Blk w' tb 77 #[.int .i64 m1, .int .i64 f1]) (by kernel_rfl) ?_
    change wpAnyH _ _ _ _ _ _ _ _ (World.drew _)
    have hb5 := below_drew Y5
    generalize Y5.drew = Z5 at *
    have hS : Blk Z5 G.g 67 G.cs ∧ Blk Z5 bx 42 b.cs ∧ Blk Z5 tb 77 #[.int .i64 m1, .int .i64 f1] := ⟨(HMo.out _ hb5).1, (HMo.out _ hb5).2.1, (HMo.out _ hb5).2.2.2⟩
    refine takeR (i := 0) (v := .pointer (some ⟨G.g, 0, none⟩)) (some 48) rfl rfl (by kernel_rfl) (by kernel_rfl) (by kernel_rfl) (fun _ _ _ h => h) (Or.inl ⟨by kernel_rfl, fun w' hSw => by kernel_rfl⟩) hS ?_
    simp only [Act.put, List.setIfInBounds_toArray, List.set_cons_zero, List.set_cons_succ]
    refine takeR (i := 1) (v := .pointer (some ⟨G.g, 0, none⟩)) (some 49) rfl rfl (by kernel_rfl) (by kernel_rfl) (by kernel_rfl) (fun _ _ _ h => h) (Or.inl ⟨by kernel_rfl, fun w' hSw => by kernel_rfl⟩) hS ?_
    simp only [Act.put, List.setIfInBounds_toArray, List.set_cons_zero, List.set_cons_succ]
    refine takeR (i := 2) (v := .pointer (some ⟨G.g, 2, none⟩)) (some 50) rfl rfl (by kernel_rfl) (by kernel_rfl) (by kernel_rfl) (fun _ _ _ h => h) (Or.inl ⟨by kernel_rfl, fun w' hSw => by kernel_rfl⟩) hS ?_
    simp only [Act.put, List.setIfInBounds_toArray, List.set_cons_zero, List.set_cons_succ]
    refine takeR (i := 3) (v := .map (some G.mo)) (some 51) rfl rfl (by kernel_rfl) (by kernel_rfl) (by kernel_rfl) (fun _ _ _ h => h) (Or.inl ⟨by kernel_rfl, fun w' hSw => by have q : w'.cell? ⟨G.g, 2, none⟩ = some (.map (some G.mo)) := hSw.1.cell 2; clear hSw; go_simp⟩) hS ?_
    simp only [Act.put, List.setIfInBounds_toArray, List.set_cons_zero, List.set_cons_succ]
    refine takeR (i := 4) (v := .pointer (some ⟨bx, 0, none⟩)) (some 52) rfl rfl (by kernel_rfl) (by kernel_rfl) (by kernel_rfl) (fun _ _ _ h => h) (Or.inl ⟨by kernel_rfl, fun w' hSw => by kernel_rfl⟩) hS ?_
    simp only [Act.put, List.setIfInBounds_toArray, List.set_cons_zero, List.set_cons_succ]
    refine takeR (i := 5) (v := .string b.ac) (some 53) rfl rfl (by kernel_rfl) (by kernel_rfl) (by kernel_rfl) (fun _ _ _ h => h) (Or.inl ⟨by kernel_rfl, fun w' hSw => by have q : w'.cell? ⟨bx, 0, none⟩ = some (.string b.ac) := hSw.2.1.cell 0; clear hSw; go_simp⟩) hS ?_
    simp only [Act.put, List.setIfInBounds_toArray, List.set_cons_zero, List.set_cons_succ]
    refine takeR (i := 6) (v := .agg #[.int .i64 m1, .int .i64 f1]) (some 54) rfl rfl (by kernel_rfl) (by kernel_rfl) (by kernel_rfl) (fun _ _ _ h => h) (Or.inl ⟨by kernel_rfl, fun w' hSw => by exact ldT_run hSw.2.2.range rfl (.tmp 4) rfl (by kernel_rfl)⟩) hS ?_
    simp only [Act.put, List.setIfInBounds_toArray, List.set_cons_zero, List.set_cons_succ]
    refine wpAnyH_ready (rs := [7]) (by kernel_rfl) (by simp) ?_
    refine AllReadyH.cons rfl (fun K1 hK1 => ?_) AllReadyH.nil
    rw [if_pos (by kernel_rfl)]
    obtain ⟨w6, hrun, hm6, hf6, hs6⟩ := (HMo.out _ hb5).2.2.1.store law9 Try.underlying64 HLo.out HKey.out (val := .agg #[.int .i64 m1, .int .i64 f1])
    refine skipR (d := none) rfl (w' := w6) (exUpd (.tmp 51) (.tmp 53) (.tmp 54) rfl (by kernel_rfl) (by kernel_rfl) (by kernel_rfl) hrun) ?_
    refine hK1.out _ _ ⟨hS.1.fr hf6 (fun e => (HMo.out _ hb5).2.2.1.ne_blk hS.1 e.symm), hS.2.1.fr hf6 (fun e => (HMo.out _ hb5).2.2.1.ne_blk hS.2.1 e.symm), hS.2.2.fr hf6 (fun e => (HMo.out _ hb5).2.2.1.ne_blk hS.2.2 e.symm)⟩ (fun _ => ?_)
    clear hK1
    simp only [Act.put, List.setIfInBounds_toArray, List.set_cons_zero, List.set_cons_succ]
    refine wpAnyH_done (by kernel_rfl) ?_ _
    rw [butL_tot] at hm6
    have HZ := HFin.out _ _ (⟨b.ac, m1, f1⟩ :: butT G.O b.ac) hb5 hm6 hf6 HE.out
    exact ⟨by rfl, .tuple #[], results_none (by rfl) _ _ _, rfl, HZ⟩
end Go.Proofs.Ytidhahooebepfaa
