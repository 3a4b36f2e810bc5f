/-
  HeapPlays: a step on an item.
-/
import Derived.Test.YtdnhhcbabdoomaaHP5
namespace Go.Proofs.Ytdnhhcbabdoomaa
set_option linter.unusedVariables false
set_option linter.unusedSimpArgs false
open Go.RowKit Go.Great
attribute [local irreducible] wpList

theorem wpList_wanted {P : Program} {ops : Array Oper} {rest : List Oper} {o : Oper} {a : Act} {w : World} {Q : Exit → Act → World → Prop} (hw : Region.wanted o (yielded ops a.tmps) = true)
    (h : ∀ K : Act → World → Prop, (∀ a w, wpList P ops Q rest a w → K a w) → o.wp P a w K Q) : wpList P ops Q (o :: rest) a w :=
  wpList_step fun K hK => by rw [if_pos hw]; exact h K hK
theorem wpList_runToG {P : Program} {ops : Array Oper} {rest : List Oper} {o : Oper} {a : Act} {w : World} {Q : Exit → Act → World → Prop} (hw : Region.wanted o (yielded ops a.tmps) = true) (dst : Option Tmp) (hdst : o.dst = dst)
    (v : Value) (w' : World) (hrun : (execOp a.eval o).run P w = .ok (.value v) w')
    (h : wpList P ops Q rest (a.put dst v) w') : wpList P ops Q (o :: rest) a w := by
  subst hdst
  refine wpList_wanted hw fun K hK => ?_
  unfold Oper.wp
  rw [hrun, Oper.upon_value]
  exact hK _ _ h
theorem eqTh_run {op : Oper} {a : Act} {p q : Int} (x y : Operand) (ho : op.op = .binOp .eql 30 x y 30) (hx : a.eval x = .agg #[.int .i64 p, .int .i64 q]) (hy : a.eval y = .agg #[.int .i64 p, .int .i64 q]) (w : World) : (execOp a.eval op).run Try.prog w = .ok (.value (.bool true)) w := by
  unfold execOp
  simp only [ho, hx, hy]
  go_simp
theorem eqE_run {op : Oper} {a : Act} {p : Int} (x y : Operand) (ho : op.op = .binOp .eql 37 x y 37) (hx : a.eval x = .int .i64 p) (hy : a.eval y = .int .i64 p) (w : World) : (execOp a.eval op).run Try.prog w = .ok (.value (.bool true)) w := by
  unfold execOp
  simp only [ho, hx, hy]
  go_simp
theorem eqK_run {op : Oper} {a : Act} {p q : Int} (x y : Operand) (ho : op.op = .binOp .eql 3 x y 3) (hx : a.eval x = .int .i64 p) (hy : a.eval y = .int .i64 q) (w : World) : (execOp a.eval op).run Try.prog w = .ok (.value (.bool (decide (p = q)))) w := by
  unfold execOp
  simp only [ho, hx, hy]
  by_cases h : p = q
  · subst h
    go_simp
  · have e : (p == q) = false := by simp [h]
    have e2 : decide (p = q) = false := by simp [h]
    rw [e2]
    go_simp
theorem lenC_run {op : Oper} {a : Act} {v : Value} {ao : Option Addr} {n c : Nat} {T : TypeId} (hT : T = 42 ∨ T = 87 ∨ T = 31) (hv : v = .slice ao n c) (x : Operand) (ho : op.op = .call { callee := .builtin .len, args := #[x], argTypes := #[T] }) (hx : a.eval x = v) (w : World) : (execOp a.eval op).run Try.prog w = .ok (.value (.int .i64 (n : Int))) w := by
  subst hv
  unfold execOp
  simp only [ho, resolve, invoke, builtin, Sem.run_bind, Sem.run_pure, Result.andThen_ok, List.map_toArray, List.map_cons, List.map_nil, hx]
  rcases hT with rfl | rfl | rfl <;> go_simp
theorem neNil_run {op : Oper} {a : Act} {g : Nat} (x y : Operand) (ho : op.op = .binOp .neq 27 x y 27) (hx : a.eval x = ptr g) (hy : a.eval y = .pointer none) (w : World) : (execOp a.eval op).run Try.prog w = .ok (.value (.bool true)) w := by
  unfold execOp
  simp only [ho, hx, hy]
  go_simp
theorem stT_run {op : Oper} {a : Act} {w : World} {g : Nat} {p q : Int} {c d : Value} (x y : Operand) (ho : op.op = .store 30 x y) (hx : a.eval x = .pointer (some ⟨g, 0, none⟩)) (hy : a.eval y = .agg #[.int .i64 p, .int .i64 q]) (hb : Blk w g 30 #[c, d]) : (execOp a.eval op).run Try.prog w = .ok .skip ((w.setCell ⟨g, 0, none⟩ (.int .i64 p)).setCell ⟨g, 1, none⟩ (.int .i64 q)) := by
  have c0 := hb.cell 0
  have c1 := hb.cell 1
  have f0 := hb.frozen 0
  have f1 := hb.frozen 1
  clear hb
  unfold execOp
  simp only [ho, hx, hy]
  go_simp
theorem stT_fr {w : World} {g : Nat} {p q : Int} {c d : Value} (hb : Blk w g 30 #[c, d]) : Fr w ((w.setCell ⟨g, 0, none⟩ (.int .i64 p)).setCell ⟨g, 1, none⟩ (.int .i64 q)) (fun b => b = g) ∧ Blk ((w.setCell ⟨g, 0, none⟩ (.int .i64 p)).setCell ⟨g, 1, none⟩ (.int .i64 q)) g 30 #[.int .i64 p, .int .i64 q] :=
  ⟨(Fr.setCell _ ⟨g, 0, none⟩ _ (fun b => b = g) rfl).trans (Fr.setCell _ ⟨g, 1, none⟩ _ (fun b => b = g) rfl) fun _ _ q => by rcases q with q | q <;> exact q, (hb.set 0 _).set 1 _⟩
theorem alTh_run {op : Oper} {a : Act} (w : World) (ho : op.op = .alloc 30) : (execOp a.eval op).run Try.prog w = .ok (.value (ptr w.heap.size)) (w.alloc (.cells #[.int .i64 0, .int .i64 0] 30)) := by
  unfold execOp
  simp only [ho]
  kernel_rfl
theorem stp_rng {w : World} {b : Nat} {k1 k2 k3 k4 k5 k6 : Value} (h : Blk w b 93 #[k1, k2, k3, k4, k5, k6]) : w.rangeAt b 4 (#[k5, k6] : Array Value).toList := fun j u hu => by
  have hj : j < 2 := (List.getElem?_eq_some_iff.1 hu).1
  rw [h.cell]
  match j, hj with
  | 0, _ => exact hu
  | 1, _ => exact hu
section
variable {w W : World} {wb : Nat} {S : St} {col : Nat → Nat}
def exO (S : St) (k b : Nat) : Prop := ownH (S.h k) (S.v k) (Lk S.C k) b ∨ ownR (S.r k) (S.rv k) (Rk S.C k) b
theorem PW.exT (H : PW w W wb S col) {k : Nat} (hk : k < 3) {b : Nat} {T : TypeId} {cs : Array Value} (hb : Blk W b T cs) (hT : T ≠ 98 ∧ T ≠ 27 ∧ T ≠ 100 ∧ T ≠ 128 ∧ T ≠ 133 ∧ T ≠ 137) : ¬ exO S k b := fun q => by
  rcases q with q | q
  · exact (H.hp k hk).other hb hT.1 hT.2.1 hT.2.2.1 q
  · exact (H.rh k hk).other hb hT.2.2.2.1 hT.2.2.2.2.1 hT.2.2.2.2.2 q
theorem PW.exC (H : PW w W wb S col) {k : Nat} (hk : k < 3) {b : Nat} (hb : 6 ≤ col b) : ¬ exO S k b := fun q => by
  rcases q with q | q
  · have := H.cp k hk b q; omega
  · have := H.cr k hk b q; omega
theorem PW.exL (H : PW w W wb S col) {k : Nat} (hk : k < 3) {b : Nat} (hb : exO S k b) : b < W.heap.size := by
  rcases hb with q | q
  · exact (H.hp k hk).lt q
  · exact (H.rh k hk).lt q
theorem PW.rows (H : PW w W wb S col) {m : Nat} {e : Ent} (he : S.C[m]? = some e) : ∃ gi oi ci gj oj cj, S.vi = .slice (some ⟨gi, oi, none⟩) S.C.length ci ∧ S.vj = .slice (some ⟨gj, oj, none⟩) S.C.length cj ∧ W.cell? ⟨gi, oi + m, none⟩ = some (ptr e.p) ∧ W.cell? ⟨gj, oj + m, none⟩ = some (ptr e.q) := by
  have hn : 0 < S.C.length := by have := get_lt he; omega
  obtain ⟨gi, oi, ci, cur, e1, _⟩ := H.ri.more hn
  obtain ⟨gj, oj, cj, cur2, e2, _⟩ := H.rj.more hn
  exact ⟨gi, oi, ci, gj, oj, cj, e1, e2, H.ri.cell e1 (by rw [List.getElem?_map, he]; rfl), H.rj.cell e2 (by rw [List.getElem?_map, he]; rfl)⟩
set_option maxRecDepth 100000 in
set_option maxHeartbeats 8000000 in
theorem item_any (H : PW w W wb S col) {k : Nat} (hk : k < 3) (kd on im nn : Int) (x : Th) (h0 : -9223372036854775808 ≤ im) (h1 : im ≤ 9223372036854775807) :
    Calls Try.prog 69 #[ptr wb, .agg #[.int .i64 kd, .int .i64 on, .int .i64 im, .int .i64 nn, .int .i64 x.k, .int .i64 x.g], .int .i64 (k : Int)] W fun e W' => e = .returned (.bool true) ∧ Hid (Nx w W W' wb S col 0) := by
  have HH : Hid (PW w W wb S col) := H
  obtain ⟨b4, hb4⟩ : ∃ b, b = W.heap.size := ⟨_, rfl⟩
  obtain ⟨n, hn⟩ : ∃ n, n = S.C.length := ⟨_, rfl⟩
  have HN : Hid (n = S.C.length ∧ b4 = W.heap.size) := ⟨hn, hb4⟩
  have hn1 : n ≤ 100000 := by have := H.le; omega
  have F0 : Fr W (W.alloc (.cells #[.int .i64 kd, .int .i64 on, .int .i64 im, .int .i64 nn, .int .i64 x.k, .int .i64 x.g] 93)) (fun _ => False) := Fr.alloc _ _ _
  have H0 : Hid (Fr W (W.alloc (.cells #[.int .i64 kd, .int .i64 on, .int .i64 im, .int .i64 nn, .int .i64 x.k, .int .i64 x.g] 93)) (fun _ => False) ∧ (Blk (W.alloc (.cells #[.int .i64 kd, .int .i64 on, .int .i64 im, .int .i64 nn, .int .i64 x.k, .int .i64 x.g] 93)) wb 89 S.cs ∧ Blk (W.alloc (.cells #[.int .i64 kd, .int .i64 on, .int .i64 im, .int .i64 nn, .int .i64 x.k, .int .i64 x.g] 93)) b4 93 #[.int .i64 kd, .int .i64 on, .int .i64 im, .int .i64 nn, .int .i64 x.k, .int .i64 x.g])) := ⟨F0, H.bw.fr F0 (fun q => q), by rw [hb4]; exact Blk.new _ _ _⟩
  clear H hb4 hn F0
  go_enter Try.func69, Try.ntmps69
  go_upto_region 1 with fail
  generalize W.alloc (.cells #[.int .i64 kd, .int .i64 on, .int .i64 im, .int .i64 nn, .int .i64 x.k, .int .i64 x.g] 93) = Z0 at *
  rw [← HN.out.2]
  obtain ⟨ai, ci, ei, hxx⟩ := HH.out.ri.form
  clear hxx
  rw [← HN.out.1] at ei
  rename_i K hK
  refine wp_region_lit ?_
  refine wpList_runTo rfl (some 12) rfl (ptr wb) Z0 (by kernel_rfl) ?_
  simp only [Act.put, List.setIfInBounds_toArray, List.set_cons_zero, List.set_cons_succ]
  refine wpList_runTo rfl (some 13) rfl (ptr wb) Z0 (by kernel_rfl) ?_
  simp only [Act.put, List.setIfInBounds_toArray, List.set_cons_zero, List.set_cons_succ]
  refine wpList_runTo rfl (some 14) rfl (.pointer (some ⟨wb, 6, none⟩)) Z0 (by kernel_rfl) ?_
  simp only [Act.put, List.setIfInBounds_toArray, List.set_cons_zero, List.set_cons_succ]
  refine wpList_runTo rfl (some 15) rfl (.slice ai n ci) Z0 (by exact ldC_run (by unfold LC; simp) (.tmp 14) rfl (by kernel_rfl) (by have := H0.out.2.1.cell 6; unfold St.cs at this; rw [ei] at this; exact this)) ?_
  simp only [Act.put, List.setIfInBounds_toArray, List.set_cons_zero, List.set_cons_succ]
  refine wpList_runTo rfl (some 16) rfl (.int .i64 (n : Int)) Z0 (by exact lenC_run (.inl rfl) (v := .slice ai n ci) (ao := ai) (n := n) (c := ci) rfl (.tmp 15) rfl (by kernel_rfl) _) ?_
  simp only [Act.put, List.setIfInBounds_toArray, List.set_cons_zero, List.set_cons_succ]
  refine wpList_runTo rfl (some 17) rfl (.bool (decide ((n : Int) = 0))) Z0 (by exact eqK_run (.tmp 16) (.const (.int .i64 0)) rfl (by kernel_rfl) (by kernel_rfl) _) ?_
  simp only [Act.put, List.setIfInBounds_toArray, List.set_cons_zero, List.set_cons_succ]
  refine wpList_nil ?_
  refine hK _ _ ?_
  clear hK
  by_cases hz : n = 0
  · have e : decide ((n : Int) = 0) = true := by simp [hz]
    have HX : Hid (Nx w W Z0 wb S col 0) := HH.out.nx H0.out.1 0
    clear HH H0 ei
    rw [e]
    go_wp2
    go_ret
    exact ⟨rfl, HX⟩
  have e : decide ((n : Int) = 0) = false := by simp [hz]
  rw [e]
  clear e
  obtain ⟨m, hm⟩ : ∃ m, m = pickN im n := ⟨_, rfl⟩
  have hml : m < n := by rw [hm]; exact pickN_lt im (by omega)
  obtain ⟨e, he⟩ : ∃ e, S.C[m]? = some e := ⟨_, List.getElem?_eq_getElem (by have := HN.out.1; omega)⟩
  obtain ⟨gi, oi, ci2, gj, oj, cj, ei2, ej2, q1, q2⟩ := (HH.out.sm H0.out.1).rows he
  have HM : Hid (m = pickN im n ∧ S.C[m]? = some e) := ⟨hm, he⟩
  rw [← HN.out.1] at ei2 ej2
  obtain rfl : ai = some ⟨gi, oi, none⟩ := by rw [ei] at ei2; injection ei2
  obtain rfl : ci = ci2 := by rw [ei] at ei2; injection ei2
  have HV : Hid (S.vi = .slice (some ⟨gi, oi, none⟩) n ci ∧ S.vj = .slice (some ⟨gj, oj, none⟩) n cj) := ⟨ei, ej2⟩
  have H1 : Hid (Fr W Z0 (fun _ => False) ∧ (Blk Z0 wb 89 S.cs ∧ Blk Z0 b4 93 #[.int .i64 kd, .int .i64 on, .int .i64 im, .int .i64 nn, .int .i64 x.k, .int .i64 x.g] ∧ Z0.cell? ⟨gi, oi + m, none⟩ = some (ptr e.p) ∧ Z0.cell? ⟨gj, oj + m, none⟩ = some (ptr e.q))) := ⟨H0.out.1, H0.out.2.1, H0.out.2.2, q1, q2⟩
  clear ei ei2 ej2 q1 q2 H0 hm he
  go_upto_region 3 with fail
  rename_i K hK
  refine wp_region_held (S := fun w' => (Blk w' wb 89 S.cs ∧ Blk w' b4 93 #[.int .i64 kd, .int .i64 on, .int .i64 im, .int .i64 nn, .int .i64 x.k, .int .i64 x.g])) (by kernel_rfl) ?_
  change wpAnyH _ _ _ _ _ _ _ _ (World.drew _)
  have fd : Fr Z0 Z0.drew (fun _ => False) := (Fr.refl Z0 _).drew
  have hS : (Blk Z0.drew wb 89 S.cs ∧ Blk Z0.drew b4 93 #[.int .i64 kd, .int .i64 on, .int .i64 im, .int .i64 nn, .int .i64 x.k, .int .i64 x.g]) := ⟨H1.out.2.1.fr fd fun q => q, H1.out.2.2.1.fr fd fun q => q⟩
  have H2 : Hid (Fr W Z0.drew (fun _ => False) ∧ (Blk Z0.drew wb 89 S.cs ∧ Blk Z0.drew b4 93 #[.int .i64 kd, .int .i64 on, .int .i64 im, .int .i64 nn, .int .i64 x.k, .int .i64 x.g] ∧ Z0.drew.cell? ⟨gi, oi + m, none⟩ = some (ptr e.p) ∧ Z0.drew.cell? ⟨gj, oj + m, none⟩ = some (ptr e.q))) := ⟨H1.out.1.trans fd fun _ _ q => by rcases q with q | q <;> exact q, hS.1, hS.2, fd.cell H1.out.2.2.2.1 (fun q => q), fd.cell H1.out.2.2.2.2 (fun q => q)⟩
  clear fd H1
  generalize Z0.drew = Z1 at *
  refine takeR (i := 0) (v := .pointer (some ⟨b4, 2, none⟩)) (some 18) rfl rfl (by kernel_rfl) (by kernel_rfl) (by kernel_rfl) (fun _ _ _ h => h) (Or.inl ⟨by kernel_rfl, fun w' hSw => by kernel_rfl⟩) hS ?_
  simp only [Act.put, List.setIfInBounds_toArray, List.set_cons_zero, List.set_cons_succ]
  refine takeR (i := 1) (v := .int .i64 im) (some 19) rfl rfl (by kernel_rfl) (by kernel_rfl) (by kernel_rfl) (fun _ _ _ h => h) (Or.inl ⟨by kernel_rfl, fun w' hSw => by exact ldC_run (by unfold LC; simp) (.tmp 18) rfl (by kernel_rfl) (hSw.2.cell 2)⟩) hS ?_
  simp only [Act.put, List.setIfInBounds_toArray, List.set_cons_zero, List.set_cons_succ]
  refine takeR (i := 2) (v := ptr wb) (some 20) rfl rfl (by kernel_rfl) (by kernel_rfl) (by kernel_rfl) (fun _ _ _ h => h) (Or.inl ⟨by kernel_rfl, fun w' hSw => by kernel_rfl⟩) hS ?_
  simp only [Act.put, List.setIfInBounds_toArray, List.set_cons_zero, List.set_cons_succ]
  refine takeR (i := 3) (v := ptr wb) (some 21) rfl rfl (by kernel_rfl) (by kernel_rfl) (by kernel_rfl) (fun _ _ _ h => h) (Or.inl ⟨by kernel_rfl, fun w' hSw => by kernel_rfl⟩) hS ?_
  simp only [Act.put, List.setIfInBounds_toArray, List.set_cons_zero, List.set_cons_succ]
  refine takeR (i := 4) (v := .pointer (some ⟨wb, 6, none⟩)) (some 22) rfl rfl (by kernel_rfl) (by kernel_rfl) (by kernel_rfl) (fun _ _ _ h => h) (Or.inl ⟨by kernel_rfl, fun w' hSw => by kernel_rfl⟩) hS ?_
  simp only [Act.put, List.setIfInBounds_toArray, List.set_cons_zero, List.set_cons_succ]
  refine takeR (i := 5) (v := .slice (some ⟨gi, oi, none⟩) n ci) (some 23) rfl rfl (by kernel_rfl) (by kernel_rfl) (by kernel_rfl) (fun _ _ _ h => h) (Or.inl ⟨by kernel_rfl, fun w' hSw => by exact ldC_run (by unfold LC; simp) (.tmp 22) rfl (by kernel_rfl) (by have := hSw.1.cell 6; unfold St.cs at this; rw [HV.out.1] at this; exact this)⟩) hS ?_
  simp only [Act.put, List.setIfInBounds_toArray, List.set_cons_zero, List.set_cons_succ]
  refine takeR (i := 6) (v := .int .i64 (n : Int)) (some 24) rfl rfl (by kernel_rfl) (by kernel_rfl) (by kernel_rfl) (fun _ _ _ h => h) (Or.inl ⟨by kernel_rfl, fun w' hSw => by exact lenC_run (.inl rfl) (v := .slice (some ⟨gi, oi, none⟩) n ci) (ao := some ⟨gi, oi, none⟩) (n := n) (c := ci) rfl (.tmp 23) rfl (by kernel_rfl) _⟩) hS ?_
  simp only [Act.put, List.setIfInBounds_toArray, List.set_cons_zero, List.set_cons_succ]
  refine wpAnyH_ready (rs := [7]) (by kernel_rfl) (by simp) ?_
  refine AllReadyH.cons rfl (fun K1 hK1 => ?_) AllReadyH.nil
  rw [if_pos (by kernel_rfl)]
  refine callR (d := some 25) rfl 9 #[.int .i64 im, .int .i64 (n : Int)] (by kernel_rfl) (pick_any im (n : Int) n rfl _ (by omega) (by omega) h0 h1) ?_
  rintro ee Z2 ⟨rfl, ez⟩
  replace ez := ez.symm
  subst ez
  rw [← HM.out.1]
  refine ⟨_, rfl, ?_⟩
  refine hK1.out _ _ hS (fun _ => ?_)
  clear hK1
  simp only [Act.put, List.setIfInBounds_toArray, List.set_cons_zero, List.set_cons_succ]
  refine takeR (i := 8) (v := .int .i64 (m : Int)) (some 7) rfl rfl (by kernel_rfl) (by kernel_rfl) (by kernel_rfl) (fun _ _ _ h => h) (Or.inl ⟨by kernel_rfl, fun w' hSw => by kernel_rfl⟩) hS ?_
  simp only [Act.put, List.setIfInBounds_toArray, List.set_cons_zero, List.set_cons_succ]
  refine wpAnyH_done (by kernel_rfl) ?_ _
  clear hS
  refine hK _ _ ?_
  clear hK
  go_upto_region 4 with fail
  rename_i K hK
  refine wp_region_lit ?_
  refine wpList_runTo rfl (some 26) rfl (.pointer (some ⟨b4, 0, none⟩)) Z1 (by kernel_rfl) ?_
  simp only [Act.put, List.setIfInBounds_toArray, List.set_cons_zero, List.set_cons_succ]
  refine wpList_runTo rfl (some 27) rfl (.int .i64 kd) Z1 (by exact ldC_run (by unfold LC; simp) (.tmp 26) rfl (by kernel_rfl) (H2.out.2.2.1.cell 0)) ?_
  simp only [Act.put, List.setIfInBounds_toArray, List.set_cons_zero, List.set_cons_succ]
  refine wpList_nil ?_
  refine hK _ _ ?_
  clear hK
  go_upto_region 5 with fail
  rename_i K hK
  refine wp_region_lit ?_
  refine wpList_runTo rfl (some 29) rfl (.bool (decide (kd = 4))) Z1 (by exact eqK_run (.tmp 27) (.const (.int .i64 4)) rfl (by kernel_rfl) (by kernel_rfl) _) ?_
  simp only [Act.put, List.setIfInBounds_toArray, List.set_cons_zero, List.set_cons_succ]
  refine wpList_runTo rfl (some 28) rfl (.bool (decide (kd = 4))) Z1 (by kernel_rfl) ?_
  simp only [Act.put, List.setIfInBounds_toArray, List.set_cons_zero, List.set_cons_succ]
  refine wpList_nil ?_
  refine hK _ _ ?_
  clear hK
  by_cases h4 : kd = 4
  · have ed : decide (kd = 4) = true := by simp [h4]
    rw [ed]
    go_upto_region 6 with fail
    obtain ⟨Z3, hZ3⟩ : ∃ z, z = Z1.drew := ⟨_, rfl⟩
    have fd : Fr Z1 Z3 (fun _ => False) := by rw [hZ3]; exact (Fr.refl Z1 _).drew
    have H3 : Hid (Fr W Z3 (fun _ => False)) := H2.out.1.trans fd fun _ _ q => by rcases q with q | q <;> exact q
    have HP : Hid (PW w Z3 wb S col) := HH.out.sm H3.out
    have hS : (Blk Z3 wb 89 S.cs ∧ Blk Z3 b4 93 #[.int .i64 kd, .int .i64 on, .int .i64 im, .int .i64 nn, .int .i64 x.k, .int .i64 x.g] ∧ Z3.cell? ⟨gi, oi + m, none⟩ = some (ptr e.p) ∧ Z3.cell? ⟨gj, oj + m, none⟩ = some (ptr e.q)) := ⟨H2.out.2.1.fr fd fun q => q, H2.out.2.2.1.fr fd fun q => q, fd.cell H2.out.2.2.2.1 (fun q => q), fd.cell H2.out.2.2.2.2 (fun q => q)⟩
    clear fd
    have HSF : Hid (∀ W1, Fr Z3 W1 (exO S k) → (Blk W1 wb 89 S.cs ∧ Blk W1 b4 93 #[.int .i64 kd, .int .i64 on, .int .i64 im, .int .i64 nn, .int .i64 x.k, .int .i64 x.g] ∧ W1.cell? ⟨gi, oi + m, none⟩ = some (ptr e.p) ∧ W1.cell? ⟨gj, oj + m, none⟩ = some (ptr e.q))) := fun W1 f => ⟨hS.1.fr f (HP.out.exC hk (by rw [HP.out.cw]; omega)), hS.2.1.fr f (HP.out.exT hk hS.2.1 (by decide)), f.cell hS.2.2.1 (HP.out.exC hk (by rw [HP.out.ci gi (by rw [HV.out.1]; rfl)]; omega)), f.cell hS.2.2.2 (HP.out.exC hk (by rw [HP.out.cj gj (by rw [HV.out.2]; rfl)]; omega))⟩
    go_cut [8, 9] from 30 to 46 (fun x8 x9 wx => ∃ b8 y r, x8 = ptr b8 ∧ x9 = .int .i64 r ∧ Hid (PW w Z3 wb S col ∧ Fr W Z3 (fun _ => False) ∧ Rmd w Z3 wx S k m e y r ∧ Blk wx b8 30 #[.int .i64 y.k, .int .i64 y.g] ∧ Z3.heap.size ≤ b8))
    case first => as_aux_lemma =>
      rename_i J9 K9 hJ9 hK9
      refine wp_region_held (S := fun w' => (Blk w' wb 89 S.cs ∧ Blk w' b4 93 #[.int .i64 kd, .int .i64 on, .int .i64 im, .int .i64 nn, .int .i64 x.k, .int .i64 x.g] ∧ w'.cell? ⟨gi, oi + m, none⟩ = some (ptr e.p) ∧ w'.cell? ⟨gj, oj + m, none⟩ = some (ptr e.q))) (by kernel_rfl) ?_
      change wpAnyH _ _ _ _ _ _ _ _ (World.drew _)
      rw [← hZ3]
      clear hZ3 H2
      have HF0 : Fr Z3 Z3 (exO S k) := Fr.refl _ _
      refine takeR (i := 0) (v := ptr wb) (some 31) rfl rfl (by kernel_rfl) (by kernel_rfl) (by kernel_rfl) (fun _ _ _ h => h) (Or.inl ⟨by kernel_rfl, fun w' hSw => by kernel_rfl⟩) hS ?_
      simp only [Act.put, List.setIfInBounds_toArray, List.set_cons_zero, List.set_cons_succ]
      refine takeR (i := 1) (v := .int .i64 (k : Int)) (some 32) rfl rfl (by kernel_rfl) (by kernel_rfl) (by kernel_rfl) (fun _ _ _ h => h) (Or.inl ⟨by kernel_rfl, fun w' hSw => by kernel_rfl⟩) hS ?_
      simp only [Act.put, List.setIfInBounds_toArray, List.set_cons_zero, List.set_cons_succ]
      refine takeR (i := 2) (v := ptr wb) (some 33) rfl rfl (by kernel_rfl) (by kernel_rfl) (by kernel_rfl) (fun _ _ _ h => h) (Or.inl ⟨by kernel_rfl, fun w' hSw => by kernel_rfl⟩) hS ?_
      simp only [Act.put, List.setIfInBounds_toArray, List.set_cons_zero, List.set_cons_succ]
      refine takeR (i := 3) (v := .pointer (some ⟨wb, 0, none⟩)) (some 34) rfl rfl (by kernel_rfl) (by kernel_rfl) (by kernel_rfl) (fun _ _ _ h => h) (Or.inl ⟨by kernel_rfl, fun w' hSw => by kernel_rfl⟩) hS ?_
      simp only [Act.put, List.setIfInBounds_toArray, List.set_cons_zero, List.set_cons_succ]
      refine takeR (i := 4) (v := .pointer (some ⟨wb, 0 + k, none⟩)) (some 35) rfl rfl (by kernel_rfl) (by kernel_rfl) (by kernel_rfl) (fun _ _ _ h => h) (Or.inl ⟨by kernel_rfl, fun w' hSw => by exact ixW_run (.inl rfl) (.tmp 34) (.tmp 32) rfl (by kernel_rfl) (by kernel_rfl) hk _⟩) hS ?_
      simp only [Act.put, List.setIfInBounds_toArray, List.set_cons_zero, List.set_cons_succ]
      refine takeR (i := 5) (v := ptr (S.h k)) (some 36) rfl rfl (by kernel_rfl) (by kernel_rfl) (by kernel_rfl) (fun _ _ _ h => h) (Or.inl ⟨by kernel_rfl, fun w' hSw => by exact ldC_run (by unfold LC; simp) (.tmp 35) rfl (by kernel_rfl) ((hSw.1.cell _).trans (cs_h S hk))⟩) hS ?_
      simp only [Act.put, List.setIfInBounds_toArray, List.set_cons_zero, List.set_cons_succ]
      refine takeR (i := 6) (v := ptr wb) (some 37) rfl rfl (by kernel_rfl) (by kernel_rfl) (by kernel_rfl) (fun _ _ _ h => h) (Or.inl ⟨by kernel_rfl, fun w' hSw => by kernel_rfl⟩) hS ?_
      simp only [Act.put, List.setIfInBounds_toArray, List.set_cons_zero, List.set_cons_succ]
      refine takeR (i := 7) (v := ptr wb) (some 38) rfl rfl (by kernel_rfl) (by kernel_rfl) (by kernel_rfl) (fun _ _ _ h => h) (Or.inl ⟨by kernel_rfl, fun w' hSw => by kernel_rfl⟩) hS ?_
      simp only [Act.put, List.setIfInBounds_toArray, List.set_cons_zero, List.set_cons_succ]
      refine takeR (i := 8) (v := .pointer (some ⟨wb, 6, none⟩)) (some 39) rfl rfl (by kernel_rfl) (by kernel_rfl) (by kernel_rfl) (fun _ _ _ h => h) (Or.inl ⟨by kernel_rfl, fun w' hSw => by kernel_rfl⟩) hS ?_
      simp only [Act.put, List.setIfInBounds_toArray, List.set_cons_zero, List.set_cons_succ]
      refine takeR (i := 9) (v := .slice (some ⟨gi, oi, none⟩) n ci) (some 40) rfl rfl (by kernel_rfl) (by kernel_rfl) (by kernel_rfl) (fun _ _ _ h => h) (Or.inl ⟨by kernel_rfl, fun w' hSw => by exact ldC_run (by unfold LC; simp) (.tmp 39) rfl (by kernel_rfl) (by have := hSw.1.cell 6; unfold St.cs at this; rw [HV.out.1] at this; exact this)⟩) hS ?_
      simp only [Act.put, List.setIfInBounds_toArray, List.set_cons_zero, List.set_cons_succ]
      refine takeR (i := 10) (v := .int .i64 (m : Int)) (some 41) rfl rfl (by kernel_rfl) (by kernel_rfl) (by kernel_rfl) (fun _ _ _ h => h) (Or.inl ⟨by kernel_rfl, fun w' hSw => by kernel_rfl⟩) hS ?_
      simp only [Act.put, List.setIfInBounds_toArray, List.set_cons_zero, List.set_cons_succ]
      refine takeR (i := 11) (v := .pointer (some ⟨gi, oi + m, none⟩)) (some 42) rfl rfl (by kernel_rfl) (by kernel_rfl) (by kernel_rfl) (fun _ _ _ h => h) (Or.inl ⟨by kernel_rfl, fun w' hSw => by exact ixI_run (.inl rfl) (n := n) (c := ci) (.tmp 40) (.tmp 41) rfl (by kernel_rfl) (by kernel_rfl) hml _⟩) hS ?_
      simp only [Act.put, List.setIfInBounds_toArray, List.set_cons_zero, List.set_cons_succ]
      refine takeR (i := 12) (v := ptr e.p) (some 43) rfl rfl (by kernel_rfl) (by kernel_rfl) (by kernel_rfl) (fun _ _ _ h => h) (Or.inl ⟨by kernel_rfl, fun w' hSw => by exact ldC_run (by unfold LC; simp) (.tmp 42) rfl (by kernel_rfl) (hSw.2.2.1)⟩) hS ?_
      simp only [Act.put, List.setIfInBounds_toArray, List.set_cons_zero, List.set_cons_succ]
      refine wpAnyH_ready (rs := [13, 17]) (by kernel_rfl) (by simp) ?_
      refine AllReadyH.cons rfl (fun K1 hK1 => ?_) (AllReadyH.cons rfl (fun K1 hK1 => ?_) AllReadyH.nil)
      · skip
        rw [if_pos (by kernel_rfl)]
        have hc := HP.out.rem hk HM.out.2
        refine callR (d := some 44) rfl 16 #[ptr (S.h k), ptr e.p] (by kernel_rfl) hc ?_
        clear hc
        rintro ee z4 ⟨y, r, rfl, HR⟩
        refine ⟨_, rfl, ?_⟩
        have F4 : Fr Z3 z4 (exO S k) := HR.fr.mono fun _ _ q => .inl q
        have hS4 := HSF.out _ F4
        refine hK1.out _ _ hS4 (fun _ => ?_)
        clear hK1
        simp only [Act.put, List.setIfInBounds_toArray, List.set_cons_zero, List.set_cons_succ]
        refine takeR (i := 14) (v := popE y r) (some 30) rfl rfl (by kernel_rfl) (by kernel_rfl) (by kernel_rfl) (fun _ _ _ h => h) (Or.inl ⟨by kernel_rfl, fun w' hSw => by kernel_rfl⟩) hS4 ?_
        simp only [Act.put, List.setIfInBounds_toArray, List.set_cons_zero, List.set_cons_succ]
        refine takeR (i := 15) (v := .agg #[.int .i64 y.k, .int .i64 y.g]) (some 45) rfl rfl (by kernel_rfl) (by kernel_rfl) (by kernel_rfl) (fun _ _ _ h => h) (Or.inl ⟨by kernel_rfl, fun w' hSw => by kernel_rfl⟩) hS4 ?_
        simp only [Act.put, List.setIfInBounds_toArray, List.set_cons_zero, List.set_cons_succ]
        refine takeR (i := 16) (v := .int .i64 r) (some 46) rfl rfl (by kernel_rfl) (by kernel_rfl) (by kernel_rfl) (fun _ _ _ h => h) (Or.inl ⟨by kernel_rfl, fun w' hSw => by kernel_rfl⟩) hS4 ?_
        simp only [Act.put, List.setIfInBounds_toArray, List.set_cons_zero, List.set_cons_succ]
        refine wpAnyH_ready (rs := [17]) (by kernel_rfl) (by simp) ?_
        refine AllReadyH.cons rfl (fun K1 hK1 => ?_) AllReadyH.nil
        rw [if_pos (by kernel_rfl)]
        have F5 := F4.trans (Fr.alloc z4 (.cells #[.int .i64 0, .int .i64 0] 30) (exO S k)) fun _ _ q => by rcases q with q | q <;> exact q
        refine valR (d := some 8) rfl (ptr z4.heap.size) (alTh_run z4 rfl) ?_
        obtain ⟨b8, hb8⟩ : ∃ b, b = z4.heap.size := ⟨_, rfl⟩
        rw [← hb8]
        have fal : Fr z4 (z4.alloc (.cells #[.int .i64 0, .int .i64 0] 30)) (fun _ => False) := Fr.alloc _ _ _
        have hbk : Blk (z4.alloc (.cells #[.int .i64 0, .int .i64 0] 30)) b8 30 #[.int .i64 0, .int .i64 0] := by rw [hb8]; exact Blk.new _ _ _
        generalize z4.alloc (.cells #[.int .i64 0, .int .i64 0] 30) = z5 at *
        have hS5 := HSF.out _ F5
        refine hK1.out _ _ hS5 (fun _ => ?_)
        clear hK1
        simp only [Act.put, List.setIfInBounds_toArray, List.set_cons_zero, List.set_cons_succ]
        refine wpAnyH_ready (rs := [18]) (by kernel_rfl) (by simp) ?_
        refine AllReadyH.cons rfl (fun K1 hK1 => ?_) AllReadyH.nil
        rw [if_pos (by kernel_rfl)]
        refine skipR (d := none) rfl (w' := (z5.setCell ⟨b8, 0, none⟩ (.int .i64 y.k)).setCell ⟨b8, 1, none⟩ (.int .i64 y.g)) (stT_run (.tmp 8) (.tmp 45) rfl (by kernel_rfl) (by kernel_rfl) hbk) ?_
        have fst := stT_fr (p := y.k) (q := y.g) hbk
        obtain ⟨z6, hz6⟩ : ∃ z, z = (z5.setCell ⟨b8, 0, none⟩ (.int .i64 y.k)).setCell ⟨b8, 1, none⟩ (.int .i64 y.g) := ⟨_, rfl⟩
        rw [← hz6] at fst ⊢
        clear hz6
        have hle : Z3.heap.size ≤ b8 := by rw [hb8]; exact F4.size
        have F6 : Fr Z3 z6 (exO S k) := F5.trans fst.1 fun b hb q => by rcases q with q | q; exact q; omega
        have HX : Hid (PW w Z3 wb S col ∧ Fr W Z3 (fun _ => False) ∧ Rmd w Z3 z6 S k m e y r ∧ Blk z6 b8 30 #[.int .i64 y.k, .int .i64 y.g] ∧ Z3.heap.size ≤ b8) := ⟨HP.out, H3.out, (HR.post HP.out hk HM.out.2 fal fun _ q => q.elim).post HP.out hk HM.out.2 fst.1 fun b q => by omega, fst.2, hle⟩
        have hS6 := HSF.out _ F6
        refine hK1.out _ _ hS6 (fun _ => ?_)
        clear hK1
        simp only [Act.put, List.setIfInBounds_toArray, List.set_cons_zero, List.set_cons_succ]
        refine takeR (i := 19) (v := .int .i64 r) (some 9) rfl rfl (by kernel_rfl) (by kernel_rfl) (by kernel_rfl) (fun _ _ _ h => h) (Or.inl ⟨by kernel_rfl, fun w' hSw => by kernel_rfl⟩) hS6 ?_
        simp only [Act.put, List.setIfInBounds_toArray, List.set_cons_zero, List.set_cons_succ]
        refine wpAnyH_done (by kernel_rfl) ?_ _
        first
          | refine hK9 _ _ (hJ9 _ _ ?_)
          | refine hJ9 _ _ ?_
        repeat apply Exists.intro
        exact ⟨⟨b8, y, r, rfl, rfl, HX⟩, rfl⟩
      · skip
        rw [if_pos (by kernel_rfl)]
        have F4 : Fr Z3 (Z3.alloc (.cells #[.int .i64 0, .int .i64 0] 30)) (exO S k) := Fr.alloc _ _ _
        have fal : Fr Z3 (Z3.alloc (.cells #[.int .i64 0, .int .i64 0] 30)) (fun _ => False) := Fr.alloc _ _ _
        refine valR (d := some 8) rfl (ptr Z3.heap.size) (alTh_run Z3 rfl) ?_
        obtain ⟨b8, hb8⟩ : ∃ b, b = Z3.heap.size := ⟨_, rfl⟩
        rw [← hb8]
        have hbk4 : Blk (Z3.alloc (.cells #[.int .i64 0, .int .i64 0] 30)) b8 30 #[.int .i64 0, .int .i64 0] := by rw [hb8]; exact Blk.new _ _ _
        generalize Z3.alloc (.cells #[.int .i64 0, .int .i64 0] 30) = z4 at *
        have hS4 := HSF.out _ (HF0.trans F4 fun _ _ q => by rcases q with q | q <;> exact q)
        refine hK1.out _ _ hS4 (fun _ => ?_)
        clear hK1
        simp only [Act.put, List.setIfInBounds_toArray, List.set_cons_zero, List.set_cons_succ]
        refine wpAnyH_ready (rs := [13]) (by kernel_rfl) (by simp) ?_
        refine AllReadyH.cons rfl (fun K1 hK1 => ?_) AllReadyH.nil
        rw [if_pos (by kernel_rfl)]
        have HP4 := HP.out.sm fal
        have hc := HP4.rem hk HM.out.2
        refine callR (d := some 44) rfl 16 #[ptr (S.h k), ptr e.p] (by kernel_rfl) hc ?_
        clear hc
        rintro ee z5 ⟨y, r, rfl, HR⟩
        refine ⟨_, rfl, ?_⟩
        have FB : Fr z4 z5 (exO S k) := HR.fr.mono fun _ _ q => .inl q
        have F5 : Fr Z3 z5 (exO S k) := F4.trans FB fun _ _ q => by rcases q with q | q <;> exact q
        have HB8 : ¬ exO S k b8 := fun q => by have := HP.out.exL hk q; omega
        have hbk : Blk z5 b8 30 #[.int .i64 0, .int .i64 0] := hbk4.fr FB fun q => HB8 q
        have hS5 := HSF.out _ F5
        refine hK1.out _ _ hS5 (fun _ => ?_)
        clear hK1
        simp only [Act.put, List.setIfInBounds_toArray, List.set_cons_zero, List.set_cons_succ]
        refine takeR (i := 14) (v := popE y r) (some 30) rfl rfl (by kernel_rfl) (by kernel_rfl) (by kernel_rfl) (fun _ _ _ h => h) (Or.inl ⟨by kernel_rfl, fun w' hSw => by kernel_rfl⟩) hS5 ?_
        simp only [Act.put, List.setIfInBounds_toArray, List.set_cons_zero, List.set_cons_succ]
        refine takeR (i := 15) (v := .agg #[.int .i64 y.k, .int .i64 y.g]) (some 45) rfl rfl (by kernel_rfl) (by kernel_rfl) (by kernel_rfl) (fun _ _ _ h => h) (Or.inl ⟨by kernel_rfl, fun w' hSw => by kernel_rfl⟩) hS5 ?_
        simp only [Act.put, List.setIfInBounds_toArray, List.set_cons_zero, List.set_cons_succ]
        refine takeR (i := 16) (v := .int .i64 r) (some 46) rfl rfl (by kernel_rfl) (by kernel_rfl) (by kernel_rfl) (fun _ _ _ h => h) (Or.inl ⟨by kernel_rfl, fun w' hSw => by kernel_rfl⟩) hS5 ?_
        simp only [Act.put, List.setIfInBounds_toArray, List.set_cons_zero, List.set_cons_succ]
        refine wpAnyH_ready (rs := [18]) (by kernel_rfl) (by simp) ?_
        refine AllReadyH.cons rfl (fun K1 hK1 => ?_) AllReadyH.nil
        rw [if_pos (by kernel_rfl)]
        refine skipR (d := none) rfl (w' := (z5.setCell ⟨b8, 0, none⟩ (.int .i64 y.k)).setCell ⟨b8, 1, none⟩ (.int .i64 y.g)) (stT_run (.tmp 8) (.tmp 45) rfl (by kernel_rfl) (by kernel_rfl) hbk) ?_
        have fst := stT_fr (p := y.k) (q := y.g) hbk
        obtain ⟨z6, hz6⟩ : ∃ z, z = (z5.setCell ⟨b8, 0, none⟩ (.int .i64 y.k)).setCell ⟨b8, 1, none⟩ (.int .i64 y.g) := ⟨_, rfl⟩
        rw [← hz6] at fst ⊢
        clear hz6
        have hle : Z3.heap.size ≤ b8 := by omega
        have F6 : Fr Z3 z6 (exO S k) := F5.trans fst.1 fun b hb q => by rcases q with q | q; exact q; omega
        have HX : Hid (PW w Z3 wb S col ∧ Fr W Z3 (fun _ => False) ∧ Rmd w Z3 z6 S k m e y r ∧ Blk z6 b8 30 #[.int .i64 y.k, .int .i64 y.g] ∧ Z3.heap.size ≤ b8) := ⟨HP.out, H3.out, (HR.pre fal).post HP.out hk HM.out.2 fst.1 fun b q => by omega, fst.2, hle⟩
        have hS6 := HSF.out _ F6
        refine hK1.out _ _ hS6 (fun _ => ?_)
        clear hK1
        simp only [Act.put, List.setIfInBounds_toArray, List.set_cons_zero, List.set_cons_succ]
        refine takeR (i := 19) (v := .int .i64 r) (some 9) rfl rfl (by kernel_rfl) (by kernel_rfl) (by kernel_rfl) (fun _ _ _ h => h) (Or.inl ⟨by kernel_rfl, fun w' hSw => by kernel_rfl⟩) hS6 ?_
        simp only [Act.put, List.setIfInBounds_toArray, List.set_cons_zero, List.set_cons_succ]
        refine wpAnyH_done (by kernel_rfl) ?_ _
        first
          | refine hK9 _ _ (hJ9 _ _ ?_)
          | refine hJ9 _ _ ?_
        repeat apply Exists.intro
        exact ⟨⟨b8, y, r, rfl, rfl, HX⟩, rfl⟩
    case rest => as_aux_lemma =>
      obtain ⟨b8, y, r, rfl, rfl, HR⟩ := hcut
      clear HP H3 hZ3 hS
      go_upto_region 7 with fail
      have HF7 : Hid (Fr Z3 wc (exO S k)) := HR.out.2.2.1.fr.mono fun _ _ q => .inl q
      have hS : ((Blk wc wb 89 S.cs ∧ Blk wc b4 93 #[.int .i64 kd, .int .i64 on, .int .i64 im, .int .i64 nn, .int .i64 x.k, .int .i64 x.g] ∧ wc.cell? ⟨gi, oi + m, none⟩ = some (ptr e.p) ∧ wc.cell? ⟨gj, oj + m, none⟩ = some (ptr e.q))) ∧ Blk wc b8 30 #[.int .i64 y.k, .int .i64 y.g] := ⟨HSF.out _ HF7.out, HR.out.2.2.2.1⟩
      have HSF7 : Hid (∀ W1, Fr wc W1 (exO S k) → ((Blk W1 wb 89 S.cs ∧ Blk W1 b4 93 #[.int .i64 kd, .int .i64 on, .int .i64 im, .int .i64 nn, .int .i64 x.k, .int .i64 x.g] ∧ W1.cell? ⟨gi, oi + m, none⟩ = some (ptr e.p) ∧ W1.cell? ⟨gj, oj + m, none⟩ = some (ptr e.q))) ∧ Blk W1 b8 30 #[.int .i64 y.k, .int .i64 y.g]) := fun W1 f => ⟨HSF.out _ (HF7.out.trans f fun _ _ q => by rcases q with q | q <;> exact q), HR.out.2.2.2.1.fr f fun q => by have := HR.out.1.exL hk q; have := HR.out.2.2.2.2; omega⟩
      go_cut [10, 11] from 47 to 63 (fun x10 x11 wx => ∃ b10, x10 = ptr b10 ∧ x11 = .int .i64 r ∧ Hid (Nx w Z3 wx wb S col 0 ∧ Fr W Z3 (fun _ => False) ∧ Blk wx b10 30 #[.int .i64 y.k, .int .i64 y.g] ∧ Blk wx b8 30 #[.int .i64 y.k, .int .i64 y.g]))
      case first => as_aux_lemma =>
        rename_i J9 K9 hJ9 hK9
        refine wp_region_held (S := fun w' => ((Blk w' wb 89 S.cs ∧ Blk w' b4 93 #[.int .i64 kd, .int .i64 on, .int .i64 im, .int .i64 nn, .int .i64 x.k, .int .i64 x.g] ∧ w'.cell? ⟨gi, oi + m, none⟩ = some (ptr e.p) ∧ w'.cell? ⟨gj, oj + m, none⟩ = some (ptr e.q))) ∧ Blk w' b8 30 #[.int .i64 y.k, .int .i64 y.g]) (by kernel_rfl) ?_
        change wpAnyH _ _ _ _ _ _ _ _ (World.drew _)
        have fd : Fr wc wc.drew (fun _ => False) := (Fr.refl wc _).drew
        have HF0 : Fr wc wc.drew (exO S k) := (Fr.refl wc _).drew
        generalize wc.drew = Z7 at *
        replace hS := HSF7.out _ HF0
        refine takeR (i := 0) (v := ptr wb) (some 48) rfl rfl (by kernel_rfl) (by kernel_rfl) (by kernel_rfl) (fun _ _ _ h => h) (Or.inl ⟨by kernel_rfl, fun w' hSw => by kernel_rfl⟩) hS ?_
        simp only [Act.put, List.setIfInBounds_toArray, List.set_cons_zero, List.set_cons_succ]
        refine takeR (i := 1) (v := .int .i64 (k : Int)) (some 49) rfl rfl (by kernel_rfl) (by kernel_rfl) (by kernel_rfl) (fun _ _ _ h => h) (Or.inl ⟨by kernel_rfl, fun w' hSw => by kernel_rfl⟩) hS ?_
        simp only [Act.put, List.setIfInBounds_toArray, List.set_cons_zero, List.set_cons_succ]
        refine takeR (i := 2) (v := ptr wb) (some 50) rfl rfl (by kernel_rfl) (by kernel_rfl) (by kernel_rfl) (fun _ _ _ h => h) (Or.inl ⟨by kernel_rfl, fun w' hSw => by kernel_rfl⟩) hS ?_
        simp only [Act.put, List.setIfInBounds_toArray, List.set_cons_zero, List.set_cons_succ]
        refine takeR (i := 3) (v := .pointer (some ⟨wb, 3, none⟩)) (some 51) rfl rfl (by kernel_rfl) (by kernel_rfl) (by kernel_rfl) (fun _ _ _ h => h) (Or.inl ⟨by kernel_rfl, fun w' hSw => by kernel_rfl⟩) hS ?_
        simp only [Act.put, List.setIfInBounds_toArray, List.set_cons_zero, List.set_cons_succ]
        refine takeR (i := 4) (v := .pointer (some ⟨wb, 3 + k, none⟩)) (some 52) rfl rfl (by kernel_rfl) (by kernel_rfl) (by kernel_rfl) (fun _ _ _ h => h) (Or.inl ⟨by kernel_rfl, fun w' hSw => by exact ixW_run (.inr rfl) (.tmp 51) (.tmp 49) rfl (by kernel_rfl) (by kernel_rfl) hk _⟩) hS ?_
        simp only [Act.put, List.setIfInBounds_toArray, List.set_cons_zero, List.set_cons_succ]
        refine takeR (i := 5) (v := ptr (S.r k)) (some 53) rfl rfl (by kernel_rfl) (by kernel_rfl) (by kernel_rfl) (fun _ _ _ h => h) (Or.inl ⟨by kernel_rfl, fun w' hSw => by exact ldC_run (by unfold LC; simp) (.tmp 52) rfl (by kernel_rfl) ((hSw.1.1.cell _).trans (cs_r S hk))⟩) hS ?_
        simp only [Act.put, List.setIfInBounds_toArray, List.set_cons_zero, List.set_cons_succ]
        refine takeR (i := 6) (v := ptr wb) (some 54) rfl rfl (by kernel_rfl) (by kernel_rfl) (by kernel_rfl) (fun _ _ _ h => h) (Or.inl ⟨by kernel_rfl, fun w' hSw => by kernel_rfl⟩) hS ?_
        simp only [Act.put, List.setIfInBounds_toArray, List.set_cons_zero, List.set_cons_succ]
        refine takeR (i := 7) (v := ptr wb) (some 55) rfl rfl (by kernel_rfl) (by kernel_rfl) (by kernel_rfl) (fun _ _ _ h => h) (Or.inl ⟨by kernel_rfl, fun w' hSw => by kernel_rfl⟩) hS ?_
        simp only [Act.put, List.setIfInBounds_toArray, List.set_cons_zero, List.set_cons_succ]
        refine takeR (i := 8) (v := .pointer (some ⟨wb, 7, none⟩)) (some 56) rfl rfl (by kernel_rfl) (by kernel_rfl) (by kernel_rfl) (fun _ _ _ h => h) (Or.inl ⟨by kernel_rfl, fun w' hSw => by kernel_rfl⟩) hS ?_
        simp only [Act.put, List.setIfInBounds_toArray, List.set_cons_zero, List.set_cons_succ]
        refine takeR (i := 9) (v := .slice (some ⟨gj, oj, none⟩) n cj) (some 57) rfl rfl (by kernel_rfl) (by kernel_rfl) (by kernel_rfl) (fun _ _ _ h => h) (Or.inl ⟨by kernel_rfl, fun w' hSw => by exact ldC_run (by unfold LC; simp) (.tmp 56) rfl (by kernel_rfl) (by have := hSw.1.1.cell 7; unfold St.cs at this; rw [HV.out.2] at this; exact this)⟩) hS ?_
        simp only [Act.put, List.setIfInBounds_toArray, List.set_cons_zero, List.set_cons_succ]
        refine takeR (i := 10) (v := .int .i64 (m : Int)) (some 58) rfl rfl (by kernel_rfl) (by kernel_rfl) (by kernel_rfl) (fun _ _ _ h => h) (Or.inl ⟨by kernel_rfl, fun w' hSw => by kernel_rfl⟩) hS ?_
        simp only [Act.put, List.setIfInBounds_toArray, List.set_cons_zero, List.set_cons_succ]
        refine takeR (i := 11) (v := .pointer (some ⟨gj, oj + m, none⟩)) (some 59) rfl rfl (by kernel_rfl) (by kernel_rfl) (by kernel_rfl) (fun _ _ _ h => h) (Or.inl ⟨by kernel_rfl, fun w' hSw => by exact ixI_run (.inr rfl) (n := n) (c := cj) (.tmp 57) (.tmp 58) rfl (by kernel_rfl) (by kernel_rfl) hml _⟩) hS ?_
        simp only [Act.put, List.setIfInBounds_toArray, List.set_cons_zero, List.set_cons_succ]
        refine takeR (i := 12) (v := ptr e.q) (some 60) rfl rfl (by kernel_rfl) (by kernel_rfl) (by kernel_rfl) (fun _ _ _ h => h) (Or.inl ⟨by kernel_rfl, fun w' hSw => by exact ldC_run (by unfold LC; simp) (.tmp 59) rfl (by kernel_rfl) (hSw.1.2.2.2)⟩) hS ?_
        simp only [Act.put, List.setIfInBounds_toArray, List.set_cons_zero, List.set_cons_succ]
        refine wpAnyH_ready (rs := [13, 17]) (by kernel_rfl) (by simp) ?_
        refine AllReadyH.cons rfl (fun K1 hK1 => ?_) (AllReadyH.cons rfl (fun K1 hK1 => ?_) AllReadyH.nil)
        · skip
          rw [if_pos (by kernel_rfl)]
          have hc := HR.out.1.rem2 hk HM.out.2 HR.out.2.2.1 fd
          refine callR (d := some 61) rfl 82 #[ptr (S.r k), ptr e.q] (by kernel_rfl) hc ?_
          clear hc
          rintro ee z4 ⟨rfl, HN7, HFr⟩
          refine ⟨_, rfl, ?_⟩
          have F4 : Fr wc z4 (exO S k) := HF0.trans HFr fun _ _ q => by rcases q with q | q; exact q; exact .inr q
          have hS4 := HSF7.out _ F4
          refine hK1.out _ _ hS4 (fun _ => ?_)
          clear hK1
          simp only [Act.put, List.setIfInBounds_toArray, List.set_cons_zero, List.set_cons_succ]
          refine takeR (i := 14) (v := popE y r) (some 47) rfl rfl (by kernel_rfl) (by kernel_rfl) (by kernel_rfl) (fun _ _ _ h => h) (Or.inl ⟨by kernel_rfl, fun w' hSw => by kernel_rfl⟩) hS4 ?_
          simp only [Act.put, List.setIfInBounds_toArray, List.set_cons_zero, List.set_cons_succ]
          refine takeR (i := 15) (v := .agg #[.int .i64 y.k, .int .i64 y.g]) (some 62) rfl rfl (by kernel_rfl) (by kernel_rfl) (by kernel_rfl) (fun _ _ _ h => h) (Or.inl ⟨by kernel_rfl, fun w' hSw => by kernel_rfl⟩) hS4 ?_
          simp only [Act.put, List.setIfInBounds_toArray, List.set_cons_zero, List.set_cons_succ]
          refine takeR (i := 16) (v := .int .i64 r) (some 63) rfl rfl (by kernel_rfl) (by kernel_rfl) (by kernel_rfl) (fun _ _ _ h => h) (Or.inl ⟨by kernel_rfl, fun w' hSw => by kernel_rfl⟩) hS4 ?_
          simp only [Act.put, List.setIfInBounds_toArray, List.set_cons_zero, List.set_cons_succ]
          refine wpAnyH_ready (rs := [17]) (by kernel_rfl) (by simp) ?_
          refine AllReadyH.cons rfl (fun K1 hK1 => ?_) AllReadyH.nil
          rw [if_pos (by kernel_rfl)]
          have F5 := F4.trans (Fr.alloc z4 (.cells #[.int .i64 0, .int .i64 0] 30) (exO S k)) fun _ _ q => by rcases q with q | q <;> exact q
          refine valR (d := some 10) rfl (ptr z4.heap.size) (alTh_run z4 rfl) ?_
          obtain ⟨b10, hb10⟩ : ∃ b, b = z4.heap.size := ⟨_, rfl⟩
          rw [← hb10]
          have fal : Fr z4 (z4.alloc (.cells #[.int .i64 0, .int .i64 0] 30)) (fun _ => False) := Fr.alloc _ _ _
          have hbk : Blk (z4.alloc (.cells #[.int .i64 0, .int .i64 0] 30)) b10 30 #[.int .i64 0, .int .i64 0] := by rw [hb10]; exact Blk.new _ _ _
          generalize z4.alloc (.cells #[.int .i64 0, .int .i64 0] 30) = z5 at *
          have hS5 := HSF7.out _ F5
          refine hK1.out _ _ hS5 (fun _ => ?_)
          clear hK1
          simp only [Act.put, List.setIfInBounds_toArray, List.set_cons_zero, List.set_cons_succ]
          refine wpAnyH_ready (rs := [18]) (by kernel_rfl) (by simp) ?_
          refine AllReadyH.cons rfl (fun K1 hK1 => ?_) AllReadyH.nil
          rw [if_pos (by kernel_rfl)]
          refine skipR (d := none) rfl (w' := (z5.setCell ⟨b10, 0, none⟩ (.int .i64 y.k)).setCell ⟨b10, 1, none⟩ (.int .i64 y.g)) (stT_run (.tmp 10) (.tmp 62) rfl (by kernel_rfl) (by kernel_rfl) hbk) ?_
          have fst := stT_fr (p := y.k) (q := y.g) hbk
          obtain ⟨z6, hz6⟩ : ∃ z, z = (z5.setCell ⟨b10, 0, none⟩ (.int .i64 y.k)).setCell ⟨b10, 1, none⟩ (.int .i64 y.g) := ⟨_, rfl⟩
          rw [← hz6] at fst ⊢
          clear hz6
          have hle : wc.heap.size ≤ b10 := by rw [hb10]; exact F4.size
          have hle2 : Z3.heap.size ≤ b10 := by have := HR.out.2.2.1.fr.size; omega
          have F6 : Fr wc z6 (exO S k) := F5.trans fst.1 fun b hb q => by rcases q with q | q; exact q; omega
          have HX : Hid (Nx w Z3 z6 wb S col 0 ∧ Fr W Z3 (fun _ => False) ∧ Blk z6 b10 30 #[.int .i64 y.k, .int .i64 y.g] ∧ Blk z6 b8 30 #[.int .i64 y.k, .int .i64 y.g]) := ⟨(HN7.sm fal).st fst.1 hbk (by unfold freeT; decide) hle2 HR.out.1.fr.size, HR.out.2.1, fst.2, (HSF7.out _ F6).2⟩
          have hS6 := HSF7.out _ F6
          refine hK1.out _ _ hS6 (fun _ => ?_)
          clear hK1
          simp only [Act.put, List.setIfInBounds_toArray, List.set_cons_zero, List.set_cons_succ]
          refine takeR (i := 19) (v := .int .i64 r) (some 11) rfl rfl (by kernel_rfl) (by kernel_rfl) (by kernel_rfl) (fun _ _ _ h => h) (Or.inl ⟨by kernel_rfl, fun w' hSw => by kernel_rfl⟩) hS6 ?_
          simp only [Act.put, List.setIfInBounds_toArray, List.set_cons_zero, List.set_cons_succ]
          refine wpAnyH_done (by kernel_rfl) ?_ _
          first
            | refine hK9 _ _ (hJ9 _ _ ?_)
            | refine hJ9 _ _ ?_
          repeat apply Exists.intro
          exact ⟨⟨b10, rfl, rfl, HX⟩, rfl⟩
        · skip
          rw [if_pos (by kernel_rfl)]
          have F4 : Fr Z7 (Z7.alloc (.cells #[.int .i64 0, .int .i64 0] 30)) (exO S k) := Fr.alloc _ _ _
          have fal : Fr Z7 (Z7.alloc (.cells #[.int .i64 0, .int .i64 0] 30)) (fun _ => False) := Fr.alloc _ _ _
          refine valR (d := some 10) rfl (ptr Z7.heap.size) (alTh_run Z7 rfl) ?_
          obtain ⟨b10, hb10⟩ : ∃ b, b = Z7.heap.size := ⟨_, rfl⟩
          rw [← hb10]
          have hbk4 : Blk (Z7.alloc (.cells #[.int .i64 0, .int .i64 0] 30)) b10 30 #[.int .i64 0, .int .i64 0] := by rw [hb10]; exact Blk.new _ _ _
          generalize Z7.alloc (.cells #[.int .i64 0, .int .i64 0] 30) = z4 at *
          have hS4 := HSF7.out _ (HF0.trans F4 fun _ _ q => by rcases q with q | q <;> exact q)
          refine hK1.out _ _ hS4 (fun _ => ?_)
          clear hK1
          simp only [Act.put, List.setIfInBounds_toArray, List.set_cons_zero, List.set_cons_succ]
          refine wpAnyH_ready (rs := [13]) (by kernel_rfl) (by simp) ?_
          refine AllReadyH.cons rfl (fun K1 hK1 => ?_) AllReadyH.nil
          rw [if_pos (by kernel_rfl)]
          have hc := HR.out.1.rem2 hk HM.out.2 HR.out.2.2.1 (fd.trans fal fun _ _ q => by rcases q with q | q <;> exact q)
          refine callR (d := some 61) rfl 82 #[ptr (S.r k), ptr e.q] (by kernel_rfl) hc ?_
          clear hc
          rintro ee z5 ⟨rfl, HN7, HFr⟩
          refine ⟨_, rfl, ?_⟩
          have FB : Fr z4 z5 (exO S k) := HFr.mono fun _ _ q => .inr q
          have F5 : Fr wc z5 (exO S k) := (HF0.trans F4 (e3 := exO S k) fun _ _ q => by rcases q with q | q <;> exact q).trans FB fun _ _ q => by rcases q with q | q <;> exact q
          have HB8 : ¬ exO S k b10 := fun q => by have := HR.out.1.exL hk q; have := HF0.size; have := HR.out.2.2.1.fr.size; omega
          have hbk : Blk z5 b10 30 #[.int .i64 0, .int .i64 0] := hbk4.fr FB fun q => HB8 q
          have hS5 := HSF7.out _ F5
          refine hK1.out _ _ hS5 (fun _ => ?_)
          clear hK1
          simp only [Act.put, List.setIfInBounds_toArray, List.set_cons_zero, List.set_cons_succ]
          refine takeR (i := 14) (v := popE y r) (some 47) rfl rfl (by kernel_rfl) (by kernel_rfl) (by kernel_rfl) (fun _ _ _ h => h) (Or.inl ⟨by kernel_rfl, fun w' hSw => by kernel_rfl⟩) hS5 ?_
          simp only [Act.put, List.setIfInBounds_toArray, List.set_cons_zero, List.set_cons_succ]
          refine takeR (i := 15) (v := .agg #[.int .i64 y.k, .int .i64 y.g]) (some 62) rfl rfl (by kernel_rfl) (by kernel_rfl) (by kernel_rfl) (fun _ _ _ h => h) (Or.inl ⟨by kernel_rfl, fun w' hSw => by kernel_rfl⟩) hS5 ?_
          simp only [Act.put, List.setIfInBounds_toArray, List.set_cons_zero, List.set_cons_succ]
          refine takeR (i := 16) (v := .int .i64 r) (some 63) rfl rfl (by kernel_rfl) (by kernel_rfl) (by kernel_rfl) (fun _ _ _ h => h) (Or.inl ⟨by kernel_rfl, fun w' hSw => by kernel_rfl⟩) hS5 ?_
          simp only [Act.put, List.setIfInBounds_toArray, List.set_cons_zero, List.set_cons_succ]
          refine wpAnyH_ready (rs := [18]) (by kernel_rfl) (by simp) ?_
          refine AllReadyH.cons rfl (fun K1 hK1 => ?_) AllReadyH.nil
          rw [if_pos (by kernel_rfl)]
          refine skipR (d := none) rfl (w' := (z5.setCell ⟨b10, 0, none⟩ (.int .i64 y.k)).setCell ⟨b10, 1, none⟩ (.int .i64 y.g)) (stT_run (.tmp 10) (.tmp 62) rfl (by kernel_rfl) (by kernel_rfl) hbk) ?_
          have fst := stT_fr (p := y.k) (q := y.g) hbk
          obtain ⟨z6, hz6⟩ : ∃ z, z = (z5.setCell ⟨b10, 0, none⟩ (.int .i64 y.k)).setCell ⟨b10, 1, none⟩ (.int .i64 y.g) := ⟨_, rfl⟩
          rw [← hz6] at fst ⊢
          clear hz6
          have hle : wc.heap.size ≤ b10 := by rw [hb10]; exact HF0.size
          have hle2 : Z3.heap.size ≤ b10 := by have := HR.out.2.2.1.fr.size; omega
          have F6 : Fr wc z6 (exO S k) := F5.trans fst.1 fun b hb q => by rcases q with q | q; exact q; omega
          have HX : Hid (Nx w Z3 z6 wb S col 0 ∧ Fr W Z3 (fun _ => False) ∧ Blk z6 b10 30 #[.int .i64 y.k, .int .i64 y.g] ∧ Blk z6 b8 30 #[.int .i64 y.k, .int .i64 y.g]) := ⟨(HN7).st fst.1 hbk (by unfold freeT; decide) hle2 HR.out.1.fr.size, HR.out.2.1, fst.2, (HSF7.out _ F6).2⟩
          have hS6 := HSF7.out _ F6
          refine hK1.out _ _ hS6 (fun _ => ?_)
          clear hK1
          simp only [Act.put, List.setIfInBounds_toArray, List.set_cons_zero, List.set_cons_succ]
          refine takeR (i := 19) (v := .int .i64 r) (some 11) rfl rfl (by kernel_rfl) (by kernel_rfl) (by kernel_rfl) (fun _ _ _ h => h) (Or.inl ⟨by kernel_rfl, fun w' hSw => by kernel_rfl⟩) hS6 ?_
          simp only [Act.put, List.setIfInBounds_toArray, List.set_cons_zero, List.set_cons_succ]
          refine wpAnyH_done (by kernel_rfl) ?_ _
          first
            | refine hK9 _ _ (hJ9 _ _ ?_)
            | refine hJ9 _ _ ?_
          repeat apply Exists.intro
          exact ⟨⟨b10, rfl, rfl, HX⟩, rfl⟩
      case rest => as_aux_lemma =>
        obtain ⟨b10, rfl, rfl, HY⟩ := hcut
        clear HSF HSF7 HF7 hS
        go_upto_region 8 with fail
        rename_i K hK
        refine wp_region_lit ?_
        refine wpList_runTo rfl (some 64) rfl (.agg #[.int .i64 y.k, .int .i64 y.g]) wc (by exact ldT_run (blk_rng HY.out.2.2.2) Try.underlying30 rfl infoThS (.tmp 8) rfl (by kernel_rfl)) ?_
        simp only [Act.put, List.setIfInBounds_toArray, List.set_cons_zero, List.set_cons_succ]
        refine wpList_runTo rfl (some 65) rfl (.agg #[.int .i64 y.k, .int .i64 y.g]) wc (by exact ldT_run (blk_rng HY.out.2.2.1) Try.underlying30 rfl infoThS (.tmp 10) rfl (by kernel_rfl)) ?_
        simp only [Act.put, List.setIfInBounds_toArray, List.set_cons_zero, List.set_cons_succ]
        refine wpList_runTo rfl (some 66) rfl (.bool true) wc (by exact eqTh_run (p := y.k) (q := y.g) (.tmp 64) (.tmp 65) rfl (by kernel_rfl) (by kernel_rfl) _) ?_
        simp only [Act.put, List.setIfInBounds_toArray, List.set_cons_zero, List.set_cons_succ]
        refine wpList_runTo rfl (some 67) rfl (.bool true) wc (by kernel_rfl) ?_
        simp only [Act.put, List.setIfInBounds_toArray, List.set_cons_zero, List.set_cons_succ]
        refine wpList_runToG (by kernel_rfl) (some 68) rfl (.int .i64 r) wc (by kernel_rfl) ?_
        simp only [Act.put, List.setIfInBounds_toArray, List.set_cons_zero, List.set_cons_succ]
        refine wpList_runToG (by kernel_rfl) (some 69) rfl (.int .i64 r) wc (by kernel_rfl) ?_
        simp only [Act.put, List.setIfInBounds_toArray, List.set_cons_zero, List.set_cons_succ]
        refine wpList_runToG (by kernel_rfl) (some 70) rfl (.bool true) wc (by exact eqE_run (p := r) (.tmp 68) (.tmp 69) rfl (by kernel_rfl) (by kernel_rfl) _) ?_
        simp only [Act.put, List.setIfInBounds_toArray, List.set_cons_zero, List.set_cons_succ]
        refine wpList_runTo rfl (some 71) rfl (.bool true) wc (by kernel_rfl) ?_
        simp only [Act.put, List.setIfInBounds_toArray, List.set_cons_zero, List.set_cons_succ]
        refine wpList_runTo rfl (some 6) rfl (.bool true) wc (by kernel_rfl) ?_
        simp only [Act.put, List.setIfInBounds_toArray, List.set_cons_zero, List.set_cons_succ]
        refine wpList_nil ?_
        refine hK _ _ ?_
        clear hK
        have HZ : Hid (Nx w W wc wb S col 0) := HY.out.1.pre HY.out.2.1
        clear HY HR HM HV HH H2
        go_wp2
        go_ret
        exact ⟨rfl, HZ⟩
  have ed : decide (kd = 4) = false := by simp [h4]
  rw [ed]
  go_upto_region 9 with fail
  rename_i K hK
  refine wp_region_lit ?_
  refine wpList_runTo rfl (some 73) rfl (.bool (decide (kd = 5))) Z1 (by exact eqK_run (.tmp 27) (.const (.int .i64 5)) rfl (by kernel_rfl) (by kernel_rfl) _) ?_
  simp only [Act.put, List.setIfInBounds_toArray, List.set_cons_zero, List.set_cons_succ]
  refine wpList_runTo rfl (some 72) rfl (.bool (decide (kd = 5))) Z1 (by kernel_rfl) ?_
  simp only [Act.put, List.setIfInBounds_toArray, List.set_cons_zero, List.set_cons_succ]
  refine wpList_nil ?_
  refine hK _ _ ?_
  clear hK
  by_cases h5 : kd = 5
  · have ed : decide (kd = 5) = true := by simp [h5]
    rw [ed]
    go_upto_region 10 with fail
    obtain ⟨Z3, hZ3⟩ : ∃ z, z = Z1.drew := ⟨_, rfl⟩
    have fd : Fr Z1 Z3 (fun _ => False) := by rw [hZ3]; exact (Fr.refl Z1 _).drew
    have H3 : Hid (Fr W Z3 (fun _ => False)) := H2.out.1.trans fd fun _ _ q => by rcases q with q | q <;> exact q
    have HP : Hid (PW w Z3 wb S col) := HH.out.sm H3.out
    have hS : (Blk Z3 wb 89 S.cs ∧ Blk Z3 b4 93 #[.int .i64 kd, .int .i64 on, .int .i64 im, .int .i64 nn, .int .i64 x.k, .int .i64 x.g] ∧ Z3.cell? ⟨gi, oi + m, none⟩ = some (ptr e.p) ∧ Z3.cell? ⟨gj, oj + m, none⟩ = some (ptr e.q)) := ⟨H2.out.2.1.fr fd fun q => q, H2.out.2.2.1.fr fd fun q => q, fd.cell H2.out.2.2.2.1 (fun q => q), fd.cell H2.out.2.2.2.2 (fun q => q)⟩
    clear fd
    have HSF : Hid (∀ W1, Fr Z3 W1 (exO S k) → (Blk W1 wb 89 S.cs ∧ Blk W1 b4 93 #[.int .i64 kd, .int .i64 on, .int .i64 im, .int .i64 nn, .int .i64 x.k, .int .i64 x.g] ∧ W1.cell? ⟨gi, oi + m, none⟩ = some (ptr e.p) ∧ W1.cell? ⟨gj, oj + m, none⟩ = some (ptr e.q))) := fun W1 f => ⟨hS.1.fr f (HP.out.exC hk (by rw [HP.out.cw]; omega)), hS.2.1.fr f (HP.out.exT hk hS.2.1 (by decide)), f.cell hS.2.2.1 (HP.out.exC hk (by rw [HP.out.ci gi (by rw [HV.out.1]; rfl)]; omega)), f.cell hS.2.2.2 (HP.out.exC hk (by rw [HP.out.cj gj (by rw [HV.out.2]; rfl)]; omega))⟩
    rename_i K hK
    refine wp_region_held (S := fun w' => (Blk w' wb 89 S.cs ∧ Blk w' b4 93 #[.int .i64 kd, .int .i64 on, .int .i64 im, .int .i64 nn, .int .i64 x.k, .int .i64 x.g] ∧ w'.cell? ⟨gi, oi + m, none⟩ = some (ptr e.p) ∧ w'.cell? ⟨gj, oj + m, none⟩ = some (ptr e.q))) (by kernel_rfl) ?_
    change wpAnyH _ _ _ _ _ _ _ _ (World.drew _)
    rw [← hZ3]
    clear hZ3 H2
    refine takeR (i := 0) (v := ptr wb) (some 74) rfl rfl (by kernel_rfl) (by kernel_rfl) (by kernel_rfl) (fun _ _ _ h => h) (Or.inl ⟨by kernel_rfl, fun w' hSw => by kernel_rfl⟩) hS ?_
    simp only [Act.put, List.setIfInBounds_toArray, List.set_cons_zero, List.set_cons_succ]
    refine takeR (i := 1) (v := .int .i64 (k : Int)) (some 75) rfl rfl (by kernel_rfl) (by kernel_rfl) (by kernel_rfl) (fun _ _ _ h => h) (Or.inl ⟨by kernel_rfl, fun w' hSw => by kernel_rfl⟩) hS ?_
    simp only [Act.put, List.setIfInBounds_toArray, List.set_cons_zero, List.set_cons_succ]
    refine takeR (i := 2) (v := ptr wb) (some 76) rfl rfl (by kernel_rfl) (by kernel_rfl) (by kernel_rfl) (fun _ _ _ h => h) (Or.inl ⟨by kernel_rfl, fun w' hSw => by kernel_rfl⟩) hS ?_
    simp only [Act.put, List.setIfInBounds_toArray, List.set_cons_zero, List.set_cons_succ]
    refine takeR (i := 3) (v := .pointer (some ⟨wb, 0, none⟩)) (some 77) rfl rfl (by kernel_rfl) (by kernel_rfl) (by kernel_rfl) (fun _ _ _ h => h) (Or.inl ⟨by kernel_rfl, fun w' hSw => by kernel_rfl⟩) hS ?_
    simp only [Act.put, List.setIfInBounds_toArray, List.set_cons_zero, List.set_cons_succ]
    refine takeR (i := 4) (v := .pointer (some ⟨wb, 0 + k, none⟩)) (some 78) rfl rfl (by kernel_rfl) (by kernel_rfl) (by kernel_rfl) (fun _ _ _ h => h) (Or.inl ⟨by kernel_rfl, fun w' hSw => by exact ixW_run (.inl rfl) (.tmp 77) (.tmp 75) rfl (by kernel_rfl) (by kernel_rfl) hk _⟩) hS ?_
    simp only [Act.put, List.setIfInBounds_toArray, List.set_cons_zero, List.set_cons_succ]
    refine takeR (i := 5) (v := ptr (S.h k)) (some 79) rfl rfl (by kernel_rfl) (by kernel_rfl) (by kernel_rfl) (fun _ _ _ h => h) (Or.inl ⟨by kernel_rfl, fun w' hSw => by exact ldC_run (by unfold LC; simp) (.tmp 78) rfl (by kernel_rfl) ((hSw.1.cell _).trans (cs_h S hk))⟩) hS ?_
    simp only [Act.put, List.setIfInBounds_toArray, List.set_cons_zero, List.set_cons_succ]
    refine takeR (i := 6) (v := ptr wb) (some 80) rfl rfl (by kernel_rfl) (by kernel_rfl) (by kernel_rfl) (fun _ _ _ h => h) (Or.inl ⟨by kernel_rfl, fun w' hSw => by kernel_rfl⟩) hS ?_
    simp only [Act.put, List.setIfInBounds_toArray, List.set_cons_zero, List.set_cons_succ]
    refine takeR (i := 7) (v := ptr wb) (some 81) rfl rfl (by kernel_rfl) (by kernel_rfl) (by kernel_rfl) (fun _ _ _ h => h) (Or.inl ⟨by kernel_rfl, fun w' hSw => by kernel_rfl⟩) hS ?_
    simp only [Act.put, List.setIfInBounds_toArray, List.set_cons_zero, List.set_cons_succ]
    refine takeR (i := 8) (v := .pointer (some ⟨wb, 6, none⟩)) (some 82) rfl rfl (by kernel_rfl) (by kernel_rfl) (by kernel_rfl) (fun _ _ _ h => h) (Or.inl ⟨by kernel_rfl, fun w' hSw => by kernel_rfl⟩) hS ?_
    simp only [Act.put, List.setIfInBounds_toArray, List.set_cons_zero, List.set_cons_succ]
    refine takeR (i := 9) (v := .slice (some ⟨gi, oi, none⟩) n ci) (some 83) rfl rfl (by kernel_rfl) (by kernel_rfl) (by kernel_rfl) (fun _ _ _ h => h) (Or.inl ⟨by kernel_rfl, fun w' hSw => by exact ldC_run (by unfold LC; simp) (.tmp 82) rfl (by kernel_rfl) (by have := hSw.1.cell 6; unfold St.cs at this; rw [HV.out.1] at this; exact this)⟩) hS ?_
    simp only [Act.put, List.setIfInBounds_toArray, List.set_cons_zero, List.set_cons_succ]
    refine takeR (i := 10) (v := .int .i64 (m : Int)) (some 84) rfl rfl (by kernel_rfl) (by kernel_rfl) (by kernel_rfl) (fun _ _ _ h => h) (Or.inl ⟨by kernel_rfl, fun w' hSw => by kernel_rfl⟩) hS ?_
    simp only [Act.put, List.setIfInBounds_toArray, List.set_cons_zero, List.set_cons_succ]
    refine takeR (i := 11) (v := .pointer (some ⟨gi, oi + m, none⟩)) (some 85) rfl rfl (by kernel_rfl) (by kernel_rfl) (by kernel_rfl) (fun _ _ _ h => h) (Or.inl ⟨by kernel_rfl, fun w' hSw => by exact ixI_run (.inl rfl) (n := n) (c := ci) (.tmp 83) (.tmp 84) rfl (by kernel_rfl) (by kernel_rfl) hml _⟩) hS ?_
    simp only [Act.put, List.setIfInBounds_toArray, List.set_cons_zero, List.set_cons_succ]
    refine takeR (i := 12) (v := ptr e.p) (some 86) rfl rfl (by kernel_rfl) (by kernel_rfl) (by kernel_rfl) (fun _ _ _ h => h) (Or.inl ⟨by kernel_rfl, fun w' hSw => by exact ldC_run (by unfold LC; simp) (.tmp 85) rfl (by kernel_rfl) (hSw.2.2.1)⟩) hS ?_
    simp only [Act.put, List.setIfInBounds_toArray, List.set_cons_zero, List.set_cons_succ]
    refine takeR (i := 13) (v := .pointer (some ⟨b4, 4, none⟩)) (some 87) rfl rfl (by kernel_rfl) (by kernel_rfl) (by kernel_rfl) (fun _ _ _ h => h) (Or.inl ⟨by kernel_rfl, fun w' hSw => by kernel_rfl⟩) hS ?_
    simp only [Act.put, List.setIfInBounds_toArray, List.set_cons_zero, List.set_cons_succ]
    refine takeR (i := 14) (v := .agg #[.int .i64 x.k, .int .i64 x.g]) (some 88) rfl rfl (by kernel_rfl) (by kernel_rfl) (by kernel_rfl) (fun _ _ _ h => h) (Or.inl ⟨by kernel_rfl, fun w' hSw => by exact ldT_run (cs := #[.int .i64 x.k, .int .i64 x.g]) (stp_rng hSw.2.1) Try.underlying30 rfl infoThS (.tmp 87) rfl (by kernel_rfl)⟩) hS ?_
    simp only [Act.put, List.setIfInBounds_toArray, List.set_cons_zero, List.set_cons_succ]
    refine takeR (i := 16) (v := ptr wb) (some 90) rfl rfl (by kernel_rfl) (by kernel_rfl) (by kernel_rfl) (fun _ _ _ h => h) (Or.inl ⟨by kernel_rfl, fun w' hSw => by kernel_rfl⟩) hS ?_
    simp only [Act.put, List.setIfInBounds_toArray, List.set_cons_zero, List.set_cons_succ]
    refine takeR (i := 17) (v := .int .i64 (k : Int)) (some 91) rfl rfl (by kernel_rfl) (by kernel_rfl) (by kernel_rfl) (fun _ _ _ h => h) (Or.inl ⟨by kernel_rfl, fun w' hSw => by kernel_rfl⟩) hS ?_
    simp only [Act.put, List.setIfInBounds_toArray, List.set_cons_zero, List.set_cons_succ]
    refine takeR (i := 18) (v := ptr wb) (some 92) rfl rfl (by kernel_rfl) (by kernel_rfl) (by kernel_rfl) (fun _ _ _ h => h) (Or.inl ⟨by kernel_rfl, fun w' hSw => by kernel_rfl⟩) hS ?_
    simp only [Act.put, List.setIfInBounds_toArray, List.set_cons_zero, List.set_cons_succ]
    refine takeR (i := 19) (v := .pointer (some ⟨wb, 3, none⟩)) (some 93) rfl rfl (by kernel_rfl) (by kernel_rfl) (by kernel_rfl) (fun _ _ _ h => h) (Or.inl ⟨by kernel_rfl, fun w' hSw => by kernel_rfl⟩) hS ?_
    simp only [Act.put, List.setIfInBounds_toArray, List.set_cons_zero, List.set_cons_succ]
    refine takeR (i := 20) (v := .pointer (some ⟨wb, 3 + k, none⟩)) (some 94) rfl rfl (by kernel_rfl) (by kernel_rfl) (by kernel_rfl) (fun _ _ _ h => h) (Or.inl ⟨by kernel_rfl, fun w' hSw => by exact ixW_run (.inr rfl) (.tmp 93) (.tmp 91) rfl (by kernel_rfl) (by kernel_rfl) hk _⟩) hS ?_
    simp only [Act.put, List.setIfInBounds_toArray, List.set_cons_zero, List.set_cons_succ]
    refine takeR (i := 21) (v := ptr (S.r k)) (some 95) rfl rfl (by kernel_rfl) (by kernel_rfl) (by kernel_rfl) (fun _ _ _ h => h) (Or.inl ⟨by kernel_rfl, fun w' hSw => by exact ldC_run (by unfold LC; simp) (.tmp 94) rfl (by kernel_rfl) ((hSw.1.cell _).trans (cs_r S hk))⟩) hS ?_
    simp only [Act.put, List.setIfInBounds_toArray, List.set_cons_zero, List.set_cons_succ]
    refine takeR (i := 22) (v := ptr wb) (some 96) rfl rfl (by kernel_rfl) (by kernel_rfl) (by kernel_rfl) (fun _ _ _ h => h) (Or.inl ⟨by kernel_rfl, fun w' hSw => by kernel_rfl⟩) hS ?_
    simp only [Act.put, List.setIfInBounds_toArray, List.set_cons_zero, List.set_cons_succ]
    refine takeR (i := 23) (v := ptr wb) (some 97) rfl rfl (by kernel_rfl) (by kernel_rfl) (by kernel_rfl) (fun _ _ _ h => h) (Or.inl ⟨by kernel_rfl, fun w' hSw => by kernel_rfl⟩) hS ?_
    simp only [Act.put, List.setIfInBounds_toArray, List.set_cons_zero, List.set_cons_succ]
    refine takeR (i := 24) (v := .pointer (some ⟨wb, 7, none⟩)) (some 98) rfl rfl (by kernel_rfl) (by kernel_rfl) (by kernel_rfl) (fun _ _ _ h => h) (Or.inl ⟨by kernel_rfl, fun w' hSw => by kernel_rfl⟩) hS ?_
    simp only [Act.put, List.setIfInBounds_toArray, List.set_cons_zero, List.set_cons_succ]
    refine takeR (i := 25) (v := .slice (some ⟨gj, oj, none⟩) n cj) (some 99) rfl rfl (by kernel_rfl) (by kernel_rfl) (by kernel_rfl) (fun _ _ _ h => h) (Or.inl ⟨by kernel_rfl, fun w' hSw => by exact ldC_run (by unfold LC; simp) (.tmp 98) rfl (by kernel_rfl) (by have := hSw.1.cell 7; unfold St.cs at this; rw [HV.out.2] at this; exact this)⟩) hS ?_
    simp only [Act.put, List.setIfInBounds_toArray, List.set_cons_zero, List.set_cons_succ]
    refine takeR (i := 26) (v := .int .i64 (m : Int)) (some 100) rfl rfl (by kernel_rfl) (by kernel_rfl) (by kernel_rfl) (fun _ _ _ h => h) (Or.inl ⟨by kernel_rfl, fun w' hSw => by kernel_rfl⟩) hS ?_
    simp only [Act.put, List.setIfInBounds_toArray, List.set_cons_zero, List.set_cons_succ]
    refine takeR (i := 27) (v := .pointer (some ⟨gj, oj + m, none⟩)) (some 101) rfl rfl (by kernel_rfl) (by kernel_rfl) (by kernel_rfl) (fun _ _ _ h => h) (Or.inl ⟨by kernel_rfl, fun w' hSw => by exact ixI_run (.inr rfl) (n := n) (c := cj) (.tmp 99) (.tmp 100) rfl (by kernel_rfl) (by kernel_rfl) hml _⟩) hS ?_
    simp only [Act.put, List.setIfInBounds_toArray, List.set_cons_zero, List.set_cons_succ]
    refine takeR (i := 28) (v := ptr e.q) (some 102) rfl rfl (by kernel_rfl) (by kernel_rfl) (by kernel_rfl) (fun _ _ _ h => h) (Or.inl ⟨by kernel_rfl, fun w' hSw => by exact ldC_run (by unfold LC; simp) (.tmp 101) rfl (by kernel_rfl) (hSw.2.2.2)⟩) hS ?_
    simp only [Act.put, List.setIfInBounds_toArray, List.set_cons_zero, List.set_cons_succ]
    refine takeR (i := 29) (v := .pointer (some ⟨b4, 4, none⟩)) (some 103) rfl rfl (by kernel_rfl) (by kernel_rfl) (by kernel_rfl) (fun _ _ _ h => h) (Or.inl ⟨by kernel_rfl, fun w' hSw => by kernel_rfl⟩) hS ?_
    simp only [Act.put, List.setIfInBounds_toArray, List.set_cons_zero, List.set_cons_succ]
    refine takeR (i := 30) (v := .agg #[.int .i64 x.k, .int .i64 x.g]) (some 104) rfl rfl (by kernel_rfl) (by kernel_rfl) (by kernel_rfl) (fun _ _ _ h => h) (Or.inl ⟨by kernel_rfl, fun w' hSw => by exact ldT_run (cs := #[.int .i64 x.k, .int .i64 x.g]) (stp_rng hSw.2.1) Try.underlying30 rfl infoThS (.tmp 103) rfl (by kernel_rfl)⟩) hS ?_
    simp only [Act.put, List.setIfInBounds_toArray, List.set_cons_zero, List.set_cons_succ]
    have hc := HP.out.set hk HM.out.2 x
    refine wpAnyH_ready (rs := [15]) (by kernel_rfl) (by simp) ?_
    refine AllReadyH.cons rfl (fun K1 hK1 => ?_) AllReadyH.nil
    rw [if_pos (by kernel_rfl)]
    refine callR (d := some 89) rfl 17 #[ptr (S.h k), ptr e.p, .agg #[.int .i64 x.k, .int .i64 x.g]] (by kernel_rfl) hc ?_
    clear hc
    rintro ee z4 ⟨r, rfl, HR⟩
    refine ⟨_, rfl, ?_⟩
    have F4 : Fr Z3 z4 (exO S k) := HR.fr.mono fun _ _ q => .inl q
    have hS4 := HSF.out _ F4
    have hc := HP.out.set2 hk HM.out.2 HR (Fr.refl z4 _)
    refine hK1.out _ _ hS4 (fun _ => ?_)
    clear hK1
    simp only [Act.put, List.setIfInBounds_toArray, List.set_cons_zero, List.set_cons_succ]
    refine wpAnyH_ready (rs := [31]) (by kernel_rfl) (by simp) ?_
    refine AllReadyH.cons rfl (fun K1 hK1 => ?_) AllReadyH.nil
    rw [if_pos (by kernel_rfl)]
    refine callR (d := some 105) rfl 83 #[ptr (S.r k), ptr e.q, .agg #[.int .i64 x.k, .int .i64 x.g]] (by kernel_rfl) hc ?_
    clear hc
    rintro ee z5 ⟨rfl, HN5, HFr⟩
    refine ⟨_, rfl, ?_⟩
    have hS5 := HSF.out _ (F4.trans HFr fun _ _ q => by rcases q with q | q; exact q; exact .inr q)
    have HZ : Hid (Nx w W z5 wb S col 0) := HN5.pre H3.out
    refine hK1.out _ _ hS5 (fun _ => ?_)
    clear hK1
    simp only [Act.put, List.setIfInBounds_toArray, List.set_cons_zero, List.set_cons_succ]
    refine takeR (i := 32) (v := .bool true) (some 106) rfl rfl (by kernel_rfl) (by kernel_rfl) (by kernel_rfl) (fun _ _ _ h => h) (Or.inl ⟨by kernel_rfl, fun w' hSw => by exact eqE_run (p := r) (.tmp 89) (.tmp 105) rfl (by kernel_rfl) (by kernel_rfl) _⟩) hS5 ?_
    simp only [Act.put, List.setIfInBounds_toArray, List.set_cons_zero, List.set_cons_succ]
    refine takeR (i := 33) (v := .bool true) (some 6) rfl rfl (by kernel_rfl) (by kernel_rfl) (by kernel_rfl) (fun _ _ _ h => h) (Or.inl ⟨by kernel_rfl, fun w' hSw => by kernel_rfl⟩) hS5 ?_
    simp only [Act.put, List.setIfInBounds_toArray, List.set_cons_zero, List.set_cons_succ]
    refine wpAnyH_done (by kernel_rfl) ?_ _
    clear hS hS4 hS5 F4 HFr HN5 HR HSF HP H3 HM HV HH
    refine hK _ _ ?_
    clear hK
    go_wp2
    go_ret
    exact ⟨rfl, HZ⟩
  have ed : decide (kd = 5) = false := by simp [h5]
  rw [ed]
  go_upto_region 11 with fail
  obtain ⟨Z3, hZ3⟩ : ∃ z, z = Z1.drew := ⟨_, rfl⟩
  have fd : Fr Z1 Z3 (fun _ => False) := by rw [hZ3]; exact (Fr.refl Z1 _).drew
  have H3 : Hid (Fr W Z3 (fun _ => False)) := H2.out.1.trans fd fun _ _ q => by rcases q with q | q <;> exact q
  have HP : Hid (PW w Z3 wb S col) := HH.out.sm H3.out
  have hS : (Blk Z3 wb 89 S.cs ∧ Blk Z3 b4 93 #[.int .i64 kd, .int .i64 on, .int .i64 im, .int .i64 nn, .int .i64 x.k, .int .i64 x.g] ∧ Z3.cell? ⟨gi, oi + m, none⟩ = some (ptr e.p) ∧ Z3.cell? ⟨gj, oj + m, none⟩ = some (ptr e.q)) := ⟨H2.out.2.1.fr fd fun q => q, H2.out.2.2.1.fr fd fun q => q, fd.cell H2.out.2.2.2.1 (fun q => q), fd.cell H2.out.2.2.2.2 (fun q => q)⟩
  clear fd
  have HSF : Hid (∀ W1, Fr Z3 W1 (exO S k) → (Blk W1 wb 89 S.cs ∧ Blk W1 b4 93 #[.int .i64 kd, .int .i64 on, .int .i64 im, .int .i64 nn, .int .i64 x.k, .int .i64 x.g] ∧ W1.cell? ⟨gi, oi + m, none⟩ = some (ptr e.p) ∧ W1.cell? ⟨gj, oj + m, none⟩ = some (ptr e.q))) := fun W1 f => ⟨hS.1.fr f (HP.out.exC hk (by rw [HP.out.cw]; omega)), hS.2.1.fr f (HP.out.exT hk hS.2.1 (by decide)), f.cell hS.2.2.1 (HP.out.exC hk (by rw [HP.out.ci gi (by rw [HV.out.1]; rfl)]; omega)), f.cell hS.2.2.2 (HP.out.exC hk (by rw [HP.out.cj gj (by rw [HV.out.2]; rfl)]; omega))⟩
  rename_i K hK
  refine wp_region_held (S := fun w' => (Blk w' wb 89 S.cs ∧ Blk w' b4 93 #[.int .i64 kd, .int .i64 on, .int .i64 im, .int .i64 nn, .int .i64 x.k, .int .i64 x.g] ∧ w'.cell? ⟨gi, oi + m, none⟩ = some (ptr e.p) ∧ w'.cell? ⟨gj, oj + m, none⟩ = some (ptr e.q))) (by kernel_rfl) ?_
  change wpAnyH _ _ _ _ _ _ _ _ (World.drew _)
  rw [← hZ3]
  clear hZ3 H2
  refine takeR (i := 0) (v := ptr wb) (some 107) rfl rfl (by kernel_rfl) (by kernel_rfl) (by kernel_rfl) (fun _ _ _ h => h) (Or.inl ⟨by kernel_rfl, fun w' hSw => by kernel_rfl⟩) hS ?_
  simp only [Act.put, List.setIfInBounds_toArray, List.set_cons_zero, List.set_cons_succ]
  refine takeR (i := 1) (v := ptr wb) (some 108) rfl rfl (by kernel_rfl) (by kernel_rfl) (by kernel_rfl) (fun _ _ _ h => h) (Or.inl ⟨by kernel_rfl, fun w' hSw => by kernel_rfl⟩) hS ?_
  simp only [Act.put, List.setIfInBounds_toArray, List.set_cons_zero, List.set_cons_succ]
  refine takeR (i := 2) (v := .pointer (some ⟨wb, 6, none⟩)) (some 109) rfl rfl (by kernel_rfl) (by kernel_rfl) (by kernel_rfl) (fun _ _ _ h => h) (Or.inl ⟨by kernel_rfl, fun w' hSw => by kernel_rfl⟩) hS ?_
  simp only [Act.put, List.setIfInBounds_toArray, List.set_cons_zero, List.set_cons_succ]
  refine takeR (i := 3) (v := .slice (some ⟨gi, oi, none⟩) n ci) (some 110) rfl rfl (by kernel_rfl) (by kernel_rfl) (by kernel_rfl) (fun _ _ _ h => h) (Or.inl ⟨by kernel_rfl, fun w' hSw => by exact ldC_run (by unfold LC; simp) (.tmp 109) rfl (by kernel_rfl) (by have := hSw.1.cell 6; unfold St.cs at this; rw [HV.out.1] at this; exact this)⟩) hS ?_
  simp only [Act.put, List.setIfInBounds_toArray, List.set_cons_zero, List.set_cons_succ]
  refine takeR (i := 4) (v := .int .i64 (m : Int)) (some 111) rfl rfl (by kernel_rfl) (by kernel_rfl) (by kernel_rfl) (fun _ _ _ h => h) (Or.inl ⟨by kernel_rfl, fun w' hSw => by kernel_rfl⟩) hS ?_
  simp only [Act.put, List.setIfInBounds_toArray, List.set_cons_zero, List.set_cons_succ]
  refine takeR (i := 5) (v := .pointer (some ⟨gi, oi + m, none⟩)) (some 112) rfl rfl (by kernel_rfl) (by kernel_rfl) (by kernel_rfl) (fun _ _ _ h => h) (Or.inl ⟨by kernel_rfl, fun w' hSw => by exact ixI_run (.inl rfl) (n := n) (c := ci) (.tmp 110) (.tmp 111) rfl (by kernel_rfl) (by kernel_rfl) hml _⟩) hS ?_
  simp only [Act.put, List.setIfInBounds_toArray, List.set_cons_zero, List.set_cons_succ]
  refine takeR (i := 6) (v := ptr e.p) (some 113) rfl rfl (by kernel_rfl) (by kernel_rfl) (by kernel_rfl) (fun _ _ _ h => h) (Or.inl ⟨by kernel_rfl, fun w' hSw => by exact ldC_run (by unfold LC; simp) (.tmp 112) rfl (by kernel_rfl) (hSw.2.2.1)⟩) hS ?_
  simp only [Act.put, List.setIfInBounds_toArray, List.set_cons_zero, List.set_cons_succ]
  refine takeR (i := 7) (v := .bool true) (some 114) rfl rfl (by kernel_rfl) (by kernel_rfl) (by kernel_rfl) (fun _ _ _ h => h) (Or.inl ⟨by kernel_rfl, fun w' hSw => by exact neNil_run (g := e.p) (.tmp 113) (.const (.pointer none)) rfl (by kernel_rfl) (by kernel_rfl) _⟩) hS ?_
  simp only [Act.put, List.setIfInBounds_toArray, List.set_cons_zero, List.set_cons_succ]
  refine takeR (i := 8) (v := .bool true) (some 115) rfl rfl (by kernel_rfl) (by kernel_rfl) (by kernel_rfl) (fun _ _ _ h => h) (Or.inl ⟨by kernel_rfl, fun w' hSw => by kernel_rfl⟩) hS ?_
  simp only [Act.put, List.setIfInBounds_toArray, List.set_cons_zero, List.set_cons_succ]
  refine takeR (i := 9) (v := ptr wb) (some 116) rfl rfl (by kernel_rfl) (by kernel_rfl) (by kernel_rfl) (fun _ _ _ h => h) (Or.inl ⟨by kernel_rfl, fun w' hSw => by kernel_rfl⟩) hS ?_
  simp only [Act.put, List.setIfInBounds_toArray, List.set_cons_zero, List.set_cons_succ]
  refine takeR (i := 10) (v := ptr wb) (some 117) rfl rfl (by kernel_rfl) (by kernel_rfl) (by kernel_rfl) (fun _ _ _ h => h) (Or.inl ⟨by kernel_rfl, fun w' hSw => by kernel_rfl⟩) hS ?_
  simp only [Act.put, List.setIfInBounds_toArray, List.set_cons_zero, List.set_cons_succ]
  refine takeR (i := 11) (v := .pointer (some ⟨wb, 6, none⟩)) (some 118) rfl rfl (by kernel_rfl) (by kernel_rfl) (by kernel_rfl) (fun _ _ _ h => h) (Or.inl ⟨by kernel_rfl, fun w' hSw => by kernel_rfl⟩) hS ?_
  simp only [Act.put, List.setIfInBounds_toArray, List.set_cons_zero, List.set_cons_succ]
  refine takeR (i := 12) (v := .slice (some ⟨gi, oi, none⟩) n ci) (some 119) rfl rfl (by kernel_rfl) (by kernel_rfl) (by kernel_rfl) (fun _ _ _ h => h) (Or.inl ⟨by kernel_rfl, fun w' hSw => by exact ldC_run (by unfold LC; simp) (.tmp 118) rfl (by kernel_rfl) (by have := hSw.1.cell 6; unfold St.cs at this; rw [HV.out.1] at this; exact this)⟩) hS ?_
  simp only [Act.put, List.setIfInBounds_toArray, List.set_cons_zero, List.set_cons_succ]
  refine takeR (i := 13) (v := .int .i64 (m : Int)) (some 120) rfl rfl (by kernel_rfl) (by kernel_rfl) (by kernel_rfl) (fun _ _ _ h => h) (Or.inl ⟨by kernel_rfl, fun w' hSw => by kernel_rfl⟩) hS ?_
  simp only [Act.put, List.setIfInBounds_toArray, List.set_cons_zero, List.set_cons_succ]
  refine takeR (i := 14) (v := .pointer (some ⟨gi, oi + m, none⟩)) (some 121) rfl rfl (by kernel_rfl) (by kernel_rfl) (by kernel_rfl) (fun _ _ _ h => h) (Or.inl ⟨by kernel_rfl, fun w' hSw => by exact ixI_run (.inl rfl) (n := n) (c := ci) (.tmp 119) (.tmp 120) rfl (by kernel_rfl) (by kernel_rfl) hml _⟩) hS ?_
  simp only [Act.put, List.setIfInBounds_toArray, List.set_cons_zero, List.set_cons_succ]
  refine takeR (i := 15) (v := ptr e.p) (some 122) rfl rfl (by kernel_rfl) (by kernel_rfl) (by kernel_rfl) (fun _ _ _ h => h) (Or.inl ⟨by kernel_rfl, fun w' hSw => by exact ldC_run (by unfold LC; simp) (.tmp 121) rfl (by kernel_rfl) (hSw.2.2.1)⟩) hS ?_
  simp only [Act.put, List.setIfInBounds_toArray, List.set_cons_zero, List.set_cons_succ]
  refine takeR (i := 17) (v := ptr wb) (some 124) rfl rfl (by kernel_rfl) (by kernel_rfl) (by kernel_rfl) (fun _ _ _ h => h) (Or.inl ⟨by kernel_rfl, fun w' hSw => by kernel_rfl⟩) hS ?_
  simp only [Act.put, List.setIfInBounds_toArray, List.set_cons_zero, List.set_cons_succ]
  refine takeR (i := 18) (v := ptr wb) (some 125) rfl rfl (by kernel_rfl) (by kernel_rfl) (by kernel_rfl) (fun _ _ _ h => h) (Or.inl ⟨by kernel_rfl, fun w' hSw => by kernel_rfl⟩) hS ?_
  simp only [Act.put, List.setIfInBounds_toArray, List.set_cons_zero, List.set_cons_succ]
  refine takeR (i := 19) (v := .pointer (some ⟨wb, 7, none⟩)) (some 126) rfl rfl (by kernel_rfl) (by kernel_rfl) (by kernel_rfl) (fun _ _ _ h => h) (Or.inl ⟨by kernel_rfl, fun w' hSw => by kernel_rfl⟩) hS ?_
  simp only [Act.put, List.setIfInBounds_toArray, List.set_cons_zero, List.set_cons_succ]
  refine takeR (i := 20) (v := .slice (some ⟨gj, oj, none⟩) n cj) (some 127) rfl rfl (by kernel_rfl) (by kernel_rfl) (by kernel_rfl) (fun _ _ _ h => h) (Or.inl ⟨by kernel_rfl, fun w' hSw => by exact ldC_run (by unfold LC; simp) (.tmp 126) rfl (by kernel_rfl) (by have := hSw.1.cell 7; unfold St.cs at this; rw [HV.out.2] at this; exact this)⟩) hS ?_
  simp only [Act.put, List.setIfInBounds_toArray, List.set_cons_zero, List.set_cons_succ]
  refine takeR (i := 21) (v := .int .i64 (m : Int)) (some 128) rfl rfl (by kernel_rfl) (by kernel_rfl) (by kernel_rfl) (fun _ _ _ h => h) (Or.inl ⟨by kernel_rfl, fun w' hSw => by kernel_rfl⟩) hS ?_
  simp only [Act.put, List.setIfInBounds_toArray, List.set_cons_zero, List.set_cons_succ]
  refine takeR (i := 22) (v := .pointer (some ⟨gj, oj + m, none⟩)) (some 129) rfl rfl (by kernel_rfl) (by kernel_rfl) (by kernel_rfl) (fun _ _ _ h => h) (Or.inl ⟨by kernel_rfl, fun w' hSw => by exact ixI_run (.inr rfl) (n := n) (c := cj) (.tmp 127) (.tmp 128) rfl (by kernel_rfl) (by kernel_rfl) hml _⟩) hS ?_
  simp only [Act.put, List.setIfInBounds_toArray, List.set_cons_zero, List.set_cons_succ]
  refine takeR (i := 23) (v := ptr e.q) (some 130) rfl rfl (by kernel_rfl) (by kernel_rfl) (by kernel_rfl) (fun _ _ _ h => h) (Or.inl ⟨by kernel_rfl, fun w' hSw => by exact ldC_run (by unfold LC; simp) (.tmp 129) rfl (by kernel_rfl) (hSw.2.2.2)⟩) hS ?_
  simp only [Act.put, List.setIfInBounds_toArray, List.set_cons_zero, List.set_cons_succ]
  obtain ⟨jj, hjj⟩ := HP.out.it e (List.mem_of_getElem? HM.out.2)
  have hc := Value_any (it := e.it) hjj
  refine wpAnyH_ready (rs := [16]) (by kernel_rfl) (by simp) ?_
  refine AllReadyH.cons rfl (fun K1 hK1 => ?_) AllReadyH.nil
  rw [if_pos (by kernel_rfl)]
  refine callR (d := some 123) rfl 18 #[ptr e.p] (by kernel_rfl) hc ?_
  clear hc hjj
  rintro ee z4 ⟨rfl, F4⟩
  refine ⟨_, rfl, ?_⟩
  have hS4 := HSF.out _ (F4.mono fun _ _ q => q.elim)
  have HP4 := HP.out.sm F4
  have hc := rValue_any (HP4.rh e.k (HP4.ce e (List.mem_of_getElem? HM.out.2)).1) (a := e.ri) (Rk_get HM.out.2 rfl)
  refine hK1.out _ _ hS4 (fun _ => ?_)
  clear hK1
  simp only [Act.put, List.setIfInBounds_toArray, List.set_cons_zero, List.set_cons_succ]
  refine wpAnyH_ready (rs := [24]) (by kernel_rfl) (by simp) ?_
  refine AllReadyH.cons rfl (fun K1 hK1 => ?_) AllReadyH.nil
  rw [if_pos (by kernel_rfl)]
  refine callR (d := some 131) rfl 84 #[ptr e.q] (by kernel_rfl) hc ?_
  clear hc
  rintro ee z5 ⟨rfl, F5⟩
  refine ⟨_, rfl, ?_⟩
  have hS5 := HSF.out _ ((F4.trans F5 (e3 := fun _ => False) fun _ _ q => by rcases q with q | q <;> exact q).mono fun _ _ q => q.elim)
  have HZ : Hid (Nx w W z5 wb S col 0) := ((HP4.sm F5).nx (Fr.refl _ _) 0).pre (H3.out.trans (F4.trans F5 (e3 := fun _ => False) fun _ _ q => by rcases q with q | q <;> exact q) fun _ _ q => by rcases q with q | q <;> exact q)
  refine hK1.out _ _ hS5 (fun _ => ?_)
  clear hK1
  simp only [Act.put, List.setIfInBounds_toArray, List.set_cons_zero, List.set_cons_succ]
  refine takeR (i := 25) (v := .bool true) (some 132) rfl rfl (by kernel_rfl) (by kernel_rfl) (by kernel_rfl) (fun _ _ _ h => h) (Or.inl ⟨by kernel_rfl, fun w' hSw => by exact eqTh_run (p := e.x.k) (q := e.x.g) (.tmp 123) (.tmp 131) rfl (by kernel_rfl) (by kernel_rfl) _⟩) hS5 ?_
  simp only [Act.put, List.setIfInBounds_toArray, List.set_cons_zero, List.set_cons_succ]
  refine takeR (i := 26) (v := .bool true) (some 133) rfl rfl (by kernel_rfl) (by kernel_rfl) (by kernel_rfl) (fun _ _ _ h => h) (Or.inl ⟨by kernel_rfl, fun w' hSw => by kernel_rfl⟩) hS5 ?_
  simp only [Act.put, List.setIfInBounds_toArray, List.set_cons_zero, List.set_cons_succ]
  refine takeR (i := 27) (v := .bool true) (some 6) rfl rfl (by kernel_rfl) (by kernel_rfl) (by kernel_rfl) (fun _ _ _ h => h) (Or.inl ⟨by kernel_rfl, fun w' hSw => by kernel_rfl⟩) hS5 ?_
  simp only [Act.put, List.setIfInBounds_toArray, List.set_cons_zero, List.set_cons_succ]
  refine wpAnyH_done (by kernel_rfl) ?_ _
  clear hS hS4 hS5 F4 F5 HP4 HSF HP H3 HM HV HH
  refine hK _ _ ?_
  clear hK
  go_wp2
  go_ret
  exact ⟨rfl, HZ⟩
end
end Go.Proofs.Ytdnhhcbabdoomaa
