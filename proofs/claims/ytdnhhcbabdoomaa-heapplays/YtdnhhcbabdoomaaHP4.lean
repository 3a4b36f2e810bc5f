/-
  HeapPlays: single operations; the law's push.
-/
import Derived.Test.YtdnhhcbabdoomaaHP3
namespace Go.Proofs.Ytdnhhcbabdoomaa
set_option linter.unusedVariables false
set_option linter.unusedSimpArgs false
open Go.RowKit Go.Great
attribute [local irreducible] wpList

def LC (T : TypeId) : Prop := T = 25 ∨ T = 85 ∨ T = 42 ∨ T = 87 ∨ T = 27 ∨ T = 133 ∨ T = 3 ∨ T = 4 ∨ T = 31 ∨ T = 83
theorem ldC_run {op : Oper} {a : Act} {w : World} {g o : Nat} {v : Value} {T : TypeId} (hT : LC T) (x : Operand) (ho : op.op = .load T x) (hx : a.eval x = .pointer (some ⟨g, o, none⟩)) (h : w.cell? ⟨g, o, none⟩ = some v) : (execOp a.eval op).run Try.prog w = .ok (.value v) w := by
  unfold execOp
  simp only [ho, hx]
  rcases hT with rfl | rfl | rfl | rfl | rfl | rfl | rfl | rfl | rfl | rfl <;> go_simp
theorem ldT_run {op : Oper} {a : Act} {w : World} {g o : Nat} {T : TypeId} {cs : Array Value} {d : TypeDesc} (h : w.rangeAt g o cs.toList) (hu : Try.prog.underlying T = some d) (hd : d.isRow = true) (hi : (Try.prog.info? T).map (·.size) = some cs.size) (x : Operand) (ho : op.op = .load T x) (hx : a.eval x = .pointer (some ⟨g, o, none⟩)) : (execOp a.eval op).run Try.prog w = .ok (.value (.agg cs)) w := by
  have hl := run_loadVar_mid (P := Try.prog) w g o T cs.toList _ h hu hd (by rw [Array.length_toList]; exact hi)
  unfold execOp
  simp only [ho, hx, Instr.loadAt, Instr.sureAddr, Sem.run_bind, Sem.run_pure, Result.andThen_ok, hl]
theorem infoThS : (Try.prog.info? 30).map (·.size) = some 2 := by kernel_rfl
theorem blk_rng {w : World} {g : Nat} {T : TypeId} {cs : Array Value} (h : Blk w g T cs) : w.rangeAt g 0 cs.toList := fun z u hu => by
  rw [Nat.zero_add, h.cell]
  simpa using hu
theorem ixW_run {op : Oper} {a : Act} {b o k : Nat} {T : TypeId} (hT : T = 84 ∨ T = 86) (x y : Operand) (ho : op.op = .indexAddr T x y) (hx : a.eval x = .pointer (some ⟨b, o, none⟩)) (hy : a.eval y = .int .i64 (k : Int)) (hk : k < 3) (w : World) : (execOp a.eval op).run Try.prog w = .ok (.value (.pointer (some ⟨b, o + k, none⟩))) w := by
  unfold execOp
  simp only [ho, hx, hy]
  obtain rfl | rfl | rfl : k = 0 ∨ k = 1 ∨ k = 2 := by omega
  all_goals rcases hT with rfl | rfl <;> kernel_rfl
theorem ixI_run {op : Oper} {a : Act} {g o n c i : Nat} {T : TypeId} (hT : T = 42 ∨ T = 87) (x y : Operand) (ho : op.op = .indexAddr T x y) (hx : a.eval x = .slice (some ⟨g, o, none⟩) n c) (hy : a.eval y = .int .i64 (i : Int)) (hi : i < n) (w : World) : (execOp a.eval op).run Try.prog w = .ok (.value (.pointer (some ⟨g, o + i, none⟩))) w := by
  have h1 : (i : Int) < (n : Int) := by omega
  have h2 : ¬ (n : Int) ≤ (i : Int) := by omega
  unfold execOp
  simp only [ho, hx, hy]
  rcases hT with rfl | rfl <;> go_simp
theorem cs_h (S : St) {k : Nat} (hk : k < 3) : S.cs[0 + k]? = some (ptr (S.h k)) := by
  obtain rfl | rfl | rfl : k = 0 ∨ k = 1 ∨ k = 2 := by omega
  all_goals rfl
theorem cs_r (S : St) {k : Nat} (hk : k < 3) : S.cs[3 + k]? = some (ptr (S.r k)) := by
  obtain rfl | rfl | rfl : k = 0 ∨ k = 1 ∨ k = 2 := by omega
  all_goals rfl
theorem info_items : ∃ i, Try.prog.info? 27 = some i ∧ i.zero = some (.pointer none) ∧ i.size = 1 ∧ i.bytes = 8 := infoP
theorem stI_run {op : Oper} {a : Act} {w : World} {g o : Nat} {v v0 : Value} {T : TypeId} (hT : T = 42 ∨ T = 87) (hvf : ∃ a n c, v = .slice a n c) (hvf0 : ∃ a n c, v0 = .slice a n c) (x y : Operand) (ho : op.op = .store T x y) (hx : a.eval x = .pointer (some ⟨g, o, none⟩)) (hy : a.eval y = v) (h : w.cell? ⟨g, o, none⟩ = some v0) (hf : w.frozen? ⟨g, o, none⟩ = false) : (execOp a.eval op).run Try.prog w = .ok .skip (w.setCell ⟨g, o, none⟩ v) := by
  obtain ⟨_, _, _, rfl⟩ := hvf
  obtain ⟨_, _, _, rfl⟩ := hvf0
  unfold execOp
  simp only [ho, hx, hy]
  rcases hT with rfl | rfl <;> go_simp
section
variable {w W : World} {wb : Nat} {S : St} {col : Nat → Nat}
set_option maxRecDepth 100000 in
set_option maxHeartbeats 4000000 in
theorem push_any (H : PW w W wb S col) {k : Nat} (hk : k < 3) (x : Th) (hC : S.C.length < 100000) :
    Calls Try.prog 65 #[ptr wb, .int .i64 (k : Int), .agg #[.int .i64 x.k, .int .i64 x.g]] W fun e W' => e = .returned (.tuple #[]) ∧ Hid (Nx w W W' wb S col 1) := by
  have HH : Hid (PW w W wb S col ∧ S.C.length < 100000) := ⟨H, hC⟩
  obtain ⟨b5, hb5⟩ : ∃ b, b = W.heap.size := ⟨_, rfl⟩
  obtain ⟨n, hn⟩ : ∃ n, n = S.C.length := ⟨_, rfl⟩
  have HN : Hid (n = S.C.length ∧ b5 = W.heap.size) := ⟨hn, hb5⟩
  have hn1 : n < 100000 := by omega
  have F0 : Fr W (W.alloc (.cells #[.int .i64 x.k, .int .i64 x.g] 30)) (fun _ => False) := Fr.alloc _ _ _
  have H0 : Hid (Fr W (W.alloc (.cells #[.int .i64 x.k, .int .i64 x.g] 30)) (fun _ => False) ∧ Blk (W.alloc (.cells #[.int .i64 x.k, .int .i64 x.g] 30)) wb 89 S.cs ∧ Blk (W.alloc (.cells #[.int .i64 x.k, .int .i64 x.g] 30)) b5 30 #[.int .i64 x.k, .int .i64 x.g] ∧ (W.alloc (.cells #[.int .i64 x.k, .int .i64 x.g] 30)).heap.size = W.heap.size + 1) := ⟨F0, H.bw.fr F0 (fun q => q), by rw [hb5]; exact Blk.new _ _ _, by simp⟩
  clear H hC hb5 hn F0
  go_enter Try.func65, Try.ntmps65
  go_upto_region 1 with fail
  generalize W.alloc (.cells #[.int .i64 x.k, .int .i64 x.g] 30) = Z0 at *
  rw [← HN.out.2]
  rename_i K hK
  refine wp_region_held (S := fun w' => (Blk w' wb 89 S.cs ∧ Blk w' b5 30 #[.int .i64 x.k, .int .i64 x.g])) (by kernel_rfl) ?_
  change wpAnyH _ _ _ _ _ _ _ _ (World.drew _)
  have fd : Fr Z0 Z0.drew (fun _ => False) := (Fr.refl Z0 _).drew
  have H1 : Hid (Fr W Z0.drew (fun _ => False) ∧ Z0.drew.heap.size = W.heap.size + 1) := ⟨H0.out.1.trans fd fun _ _ q => by rcases q with q | q <;> exact q, H0.out.2.2.2⟩
  have hS : (Blk Z0.drew wb 89 S.cs ∧ Blk Z0.drew b5 30 #[.int .i64 x.k, .int .i64 x.g]) := ⟨H0.out.2.1.fr fd fun q => q, H0.out.2.2.1.fr fd fun q => q⟩
  clear fd H0
  generalize Z0.drew = W0 at *
  refine takeR (i := 0) (v := ptr wb) (some 8) rfl rfl (by kernel_rfl) (by kernel_rfl) (by kernel_rfl) (fun _ _ _ h => h) (Or.inl ⟨by kernel_rfl, fun w' hSw => by kernel_rfl⟩) hS ?_
  simp only [Act.put, List.setIfInBounds_toArray, List.set_cons_zero, List.set_cons_succ]
  refine takeR (i := 1) (v := .int .i64 (k : Int)) (some 9) rfl rfl (by kernel_rfl) (by kernel_rfl) (by kernel_rfl) (fun _ _ _ h => h) (Or.inl ⟨by kernel_rfl, fun w' hSw => by kernel_rfl⟩) hS ?_
  simp only [Act.put, List.setIfInBounds_toArray, List.set_cons_zero, List.set_cons_succ]
  refine takeR (i := 2) (v := ptr wb) (some 10) rfl rfl (by kernel_rfl) (by kernel_rfl) (by kernel_rfl) (fun _ _ _ h => h) (Or.inl ⟨by kernel_rfl, fun w' hSw => by kernel_rfl⟩) hS ?_
  simp only [Act.put, List.setIfInBounds_toArray, List.set_cons_zero, List.set_cons_succ]
  refine takeR (i := 3) (v := .pointer (some ⟨wb, 0, none⟩)) (some 11) rfl rfl (by kernel_rfl) (by kernel_rfl) (by kernel_rfl) (fun _ _ _ h => h) (Or.inl ⟨by kernel_rfl, fun w' hSw => by kernel_rfl⟩) hS ?_
  simp only [Act.put, List.setIfInBounds_toArray, List.set_cons_zero, List.set_cons_succ]
  refine takeR (i := 4) (v := .pointer (some ⟨wb, 0 + k, none⟩)) (some 12) rfl rfl (by kernel_rfl) (by kernel_rfl) (by kernel_rfl) (fun _ _ _ h => h) (Or.inl ⟨by kernel_rfl, fun w' hSw => by exact ixW_run (.inl rfl) (.tmp 11) (.tmp 9) rfl (by kernel_rfl) (by kernel_rfl) hk _⟩) hS ?_
  simp only [Act.put, List.setIfInBounds_toArray, List.set_cons_zero, List.set_cons_succ]
  refine takeR (i := 5) (v := ptr (S.h k)) (some 13) rfl rfl (by kernel_rfl) (by kernel_rfl) (by kernel_rfl) (fun _ _ _ h => h) (Or.inl ⟨by kernel_rfl, fun w' hSw => by exact ldC_run (.inl rfl) (.tmp 12) rfl (by kernel_rfl) ((hSw.1.cell _).trans (cs_h S hk))⟩) hS ?_
  simp only [Act.put, List.setIfInBounds_toArray, List.set_cons_zero, List.set_cons_succ]
  refine takeR (i := 6) (v := .agg #[.int .i64 x.k, .int .i64 x.g]) (some 14) rfl rfl (by kernel_rfl) (by kernel_rfl) (by kernel_rfl) (fun _ _ _ h => h) (Or.inl ⟨by kernel_rfl, fun w' hSw => by exact ldT_run (blk_rng hSw.2) Try.underlying30 rfl infoThS (.tmp 5) rfl (by kernel_rfl)⟩) hS ?_
  simp only [Act.put, List.setIfInBounds_toArray, List.set_cons_zero, List.set_cons_succ]
  have hHW0 : PW w W0 wb S col := HH.out.1.sm H1.out.1
  have hc := Push_O (hHW0.hp k hk) x (Nat.lt_of_le_of_lt (by unfold Lk; rw [List.length_map]; exact List.length_filter_le _ _) (show S.C.length < 1000000000 by have := HH.out.2; omega)) (show S.N k < 1000000000 by have := HH.out.2; have := HH.out.1.nn k hk; omega)
  refine wpAnyH_ready (rs := [7]) (by kernel_rfl) (by simp) ?_
  refine AllReadyH.cons rfl (fun K1 hK1 => ?_) AllReadyH.nil
  rw [if_pos (by kernel_rfl)]
  refine callR (d := some 15) rfl 11 #[ptr (S.h k), .agg #[.int .i64 x.k, .int .i64 x.g]] (by kernel_rfl) hc ?_
  clear hc
  rintro e W1 ⟨rfl, hv, hf⟩
  refine ⟨_, rfl, ?_⟩
  obtain ⟨p, hp⟩ : ∃ p, p = W0.heap.size + 1 := ⟨_, rfl⟩
  rw [← hp] at hv ⊢
  obtain ⟨v', hv1, hv2⟩ := hv
  have hnw : ¬ ownH (S.h k) (S.v k) (Lk S.C k) wb := fun q => by have q1 := hHW0.cp k hk wb q; have q2 := hHW0.cw; omega
  have hn5 : ¬ ownH (S.h k) (S.v k) (Lk S.C k) b5 := fun q => by have q1 := (HH.out.1.hp k hk).lt q; have q2 := HN.out.2; omega
  have H2 : Hid (HpO k w.heap.size W1 (S.h k) v' (Lk S.C k ++ [⟨p, S.N k, x⟩]) (S.N k + 1) ∧ NewV W0 (S.v k) v' ∧ p = W0.heap.size + 1 ∧ Fr W0 W1 (ownH (S.h k) (S.v k) (Lk S.C k)) ∧ (Blk W1 wb 89 S.cs ∧ Blk W1 b5 30 #[.int .i64 x.k, .int .i64 x.g])) := ⟨hv1, hv2, hp, hf, hS.1.fr hf hnw, hS.2.fr hf hn5⟩
  clear hv1 hv2 hp hf hnw hn5 hHW0
  have hS1 := H2.out.2.2.2.2
  refine hK1.out _ _ hS1 (fun _ => ?_)
  clear hK1
  simp only [Act.put, List.setIfInBounds_toArray, List.set_cons_zero, List.set_cons_succ]
  refine takeR (i := 8) (v := ptr p) (some 6) rfl rfl (by kernel_rfl) (by kernel_rfl) (by kernel_rfl) (fun _ _ _ h => h) (Or.inl ⟨by kernel_rfl, fun w' hSw => by kernel_rfl⟩) hS1 ?_
  simp only [Act.put, List.setIfInBounds_toArray, List.set_cons_zero, List.set_cons_succ]
  refine wpAnyH_done (by kernel_rfl) ?_ _
  clear hS hS1
  refine hK _ _ ?_
  clear hK
  go_upto_region 2 with fail
  rename_i K hK
  refine wp_region_held (S := fun w' => (Blk w' wb 89 S.cs ∧ Blk w' b5 30 #[.int .i64 x.k, .int .i64 x.g])) (by kernel_rfl) ?_
  change wpAnyH _ _ _ _ _ _ _ _ (World.drew _)
  have fd : Fr W1 W1.drew (fun _ => False) := (Fr.refl W1 _).drew
  have H3 : Hid (Fr W1 W1.drew (fun _ => False)) := fd
  have hS : (Blk W1.drew wb 89 S.cs ∧ Blk W1.drew b5 30 #[.int .i64 x.k, .int .i64 x.g]) := ⟨H2.out.2.2.2.2.1.fr fd fun q => q, H2.out.2.2.2.2.2.fr fd fun q => q⟩
  clear fd
  generalize W1.drew = W1d at *
  refine takeR (i := 0) (v := ptr wb) (some 16) rfl rfl (by kernel_rfl) (by kernel_rfl) (by kernel_rfl) (fun _ _ _ h => h) (Or.inl ⟨by kernel_rfl, fun w' hSw => by kernel_rfl⟩) hS ?_
  simp only [Act.put, List.setIfInBounds_toArray, List.set_cons_zero, List.set_cons_succ]
  refine takeR (i := 1) (v := .int .i64 (k : Int)) (some 17) rfl rfl (by kernel_rfl) (by kernel_rfl) (by kernel_rfl) (fun _ _ _ h => h) (Or.inl ⟨by kernel_rfl, fun w' hSw => by kernel_rfl⟩) hS ?_
  simp only [Act.put, List.setIfInBounds_toArray, List.set_cons_zero, List.set_cons_succ]
  refine takeR (i := 2) (v := ptr wb) (some 18) rfl rfl (by kernel_rfl) (by kernel_rfl) (by kernel_rfl) (fun _ _ _ h => h) (Or.inl ⟨by kernel_rfl, fun w' hSw => by kernel_rfl⟩) hS ?_
  simp only [Act.put, List.setIfInBounds_toArray, List.set_cons_zero, List.set_cons_succ]
  refine takeR (i := 3) (v := .pointer (some ⟨wb, 3, none⟩)) (some 19) rfl rfl (by kernel_rfl) (by kernel_rfl) (by kernel_rfl) (fun _ _ _ h => h) (Or.inl ⟨by kernel_rfl, fun w' hSw => by kernel_rfl⟩) hS ?_
  simp only [Act.put, List.setIfInBounds_toArray, List.set_cons_zero, List.set_cons_succ]
  refine takeR (i := 4) (v := .pointer (some ⟨wb, 3 + k, none⟩)) (some 20) rfl rfl (by kernel_rfl) (by kernel_rfl) (by kernel_rfl) (fun _ _ _ h => h) (Or.inl ⟨by kernel_rfl, fun w' hSw => by exact ixW_run (.inr rfl) (.tmp 19) (.tmp 17) rfl (by kernel_rfl) (by kernel_rfl) hk _⟩) hS ?_
  simp only [Act.put, List.setIfInBounds_toArray, List.set_cons_zero, List.set_cons_succ]
  refine takeR (i := 5) (v := ptr (S.r k)) (some 21) rfl rfl (by kernel_rfl) (by kernel_rfl) (by kernel_rfl) (fun _ _ _ h => h) (Or.inl ⟨by kernel_rfl, fun w' hSw => by exact ldC_run (.inr (.inl rfl)) (.tmp 20) rfl (by kernel_rfl) ((hSw.1.cell _).trans (cs_r S hk))⟩) hS ?_
  simp only [Act.put, List.setIfInBounds_toArray, List.set_cons_zero, List.set_cons_succ]
  refine takeR (i := 6) (v := .agg #[.int .i64 x.k, .int .i64 x.g]) (some 22) rfl rfl (by kernel_rfl) (by kernel_rfl) (by kernel_rfl) (fun _ _ _ h => h) (Or.inl ⟨by kernel_rfl, fun w' hSw => by exact ldT_run (blk_rng hSw.2) Try.underlying30 rfl infoThS (.tmp 5) rfl (by kernel_rfl)⟩) hS ?_
  simp only [Act.put, List.setIfInBounds_toArray, List.set_cons_zero, List.set_cons_succ]
  have hR : RH W1d k (S.r k) (S.rv k) (Rk S.C k) := ((((HH.out.1.rh k hk).sm H1.out.1).fr H2.out.2.2.2.1 (HH.out.1.nR hk)).sm H3.out)
  have hc := rPush_any hR x (Nat.lt_of_le_of_lt (by unfold Rk; rw [List.length_map]; exact List.length_filter_le _ _) (show S.C.length < 1000000 by have := HH.out.2; omega))
  refine wpAnyH_ready (rs := [7]) (by kernel_rfl) (by simp) ?_
  refine AllReadyH.cons rfl (fun K1 hK1 => ?_) AllReadyH.nil
  rw [if_pos (by kernel_rfl)]
  refine callR (d := some 23) rfl 80 #[ptr (S.r k), .agg #[.int .i64 x.k, .int .i64 x.g]] (by kernel_rfl) hc ?_
  clear hc hR
  rintro e W2 ⟨rfl, hv, hf⟩
  refine ⟨_, rfl, ?_⟩
  obtain ⟨q, hq⟩ : ∃ q, q = W1d.heap.size + 1 := ⟨_, rfl⟩
  rw [← hq] at hv ⊢
  obtain ⟨rv', hv1, hv2⟩ := hv
  have hnw : ¬ ownR (S.r k) (S.rv k) (Rk S.C k) wb := fun q => by have q1 := HH.out.1.cr k hk wb q; have q2 := HH.out.1.cw; omega
  have hn5 : ¬ ownR (S.r k) (S.rv k) (Rk S.C k) b5 := fun q => by have q1 := (HH.out.1.rh k hk).lt q; have q2 := HN.out.2; omega
  have H4 : Hid (RH W2 k (S.r k) rv' (Rk S.C k ++ [⟨q, x, false⟩]) ∧ NewV W1d (S.rv k) rv' ∧ q = W1d.heap.size + 1 ∧ Fr W1d W2 (ownR (S.r k) (S.rv k) (Rk S.C k)) ∧ Blk W2 wb 89 S.cs) := ⟨hv1, hv2, hq, hf, hS.1.fr hf hnw⟩
  have hS1 : (Blk W2 wb 89 S.cs ∧ Blk W2 b5 30 #[.int .i64 x.k, .int .i64 x.g]) := ⟨hS.1.fr hf hnw, hS.2.fr hf hn5⟩
  clear hv1 hv2 hq hf hnw hn5
  refine hK1.out _ _ hS1 (fun _ => ?_)
  clear hK1
  simp only [Act.put, List.setIfInBounds_toArray, List.set_cons_zero, List.set_cons_succ]
  refine takeR (i := 8) (v := ptr q) (some 7) rfl rfl (by kernel_rfl) (by kernel_rfl) (by kernel_rfl) (fun _ _ _ h => h) (Or.inl ⟨by kernel_rfl, fun w' hSw => by kernel_rfl⟩) hS1 ?_
  simp only [Act.put, List.setIfInBounds_toArray, List.set_cons_zero, List.set_cons_succ]
  refine wpAnyH_done (by kernel_rfl) ?_ _
  clear hS hS1
  refine hK _ _ ?_
  clear hK
  have HW2 : Hid (RowAt W2 27 1 S.vi n (S.C.map fun e : Ent => ptr e.p) ∧ RowAt W2 133 1 S.vj n (S.C.map fun e : Ent => ptr e.q)) := by
    have h := HH.out.1
    rw [HN.out.1]
    exact ⟨(((h.ri.fr H1.out.1 fun _ _ q => q).fr H2.out.2.2.2.1 fun g hg q => by have q1 := h.ci g hg; have q2 := h.cp k hk g q; omega).fr H3.out fun _ _ q => q).fr H4.out.2.2.2.1 fun g hg q => by have q1 := h.ci g hg; have q2 := h.cr k hk g q; omega,
      (((h.rj.fr H1.out.1 fun _ _ q => q).fr H2.out.2.2.2.1 fun g hg q => by have q1 := h.cj g hg; have q2 := h.cp k hk g q; omega).fr H3.out fun _ _ q => q).fr H4.out.2.2.2.1 fun g hg q => by have q1 := h.cj g hg; have q2 := h.cr k hk g q; omega⟩
  obtain ⟨ai, ci, ei, _⟩ := HW2.out.1.form
  obtain ⟨aj, cj, ej, _⟩ := HW2.out.2.form
  have HV : Hid (S.vi = .slice ai n ci ∧ S.vj = .slice aj n cj ∧ S.cs = #[ptr (S.h 0), ptr (S.h 1), ptr (S.h 2), ptr (S.r 0), ptr (S.r 1), ptr (S.r 2), .slice ai n ci, .slice aj n cj]) := ⟨ei, ej, by unfold St.cs; rw [ei, ej]⟩
  clear ei ej
  obtain ⟨i1, hi1, hx0, hx1, hx2⟩ := infoP
  go_upto_region 3 with fail
  rename_i K hK
  refine wp_region_lit ?_
  refine wpList_runTo rfl (some 24) rfl (ptr wb) W2 (by kernel_rfl) ?_
  simp only [Act.put, List.setIfInBounds_toArray, List.set_cons_zero, List.set_cons_succ]
  refine wpList_runTo rfl (some 25) rfl (ptr wb) W2 (by kernel_rfl) ?_
  simp only [Act.put, List.setIfInBounds_toArray, List.set_cons_zero, List.set_cons_succ]
  refine wpList_runTo rfl (some 26) rfl (ptr wb) W2 (by kernel_rfl) ?_
  simp only [Act.put, List.setIfInBounds_toArray, List.set_cons_zero, List.set_cons_succ]
  refine wpList_runTo rfl (some 27) rfl (.pointer (some ⟨wb, 6, none⟩)) W2 (by kernel_rfl) ?_
  simp only [Act.put, List.setIfInBounds_toArray, List.set_cons_zero, List.set_cons_succ]
  refine wpList_runTo rfl (some 28) rfl (.slice ai n ci) W2 (by exact ldC_run (by unfold LC; simp) (.tmp 27) rfl (by kernel_rfl) (by have := H4.out.2.2.2.2.cell 6; rw [HV.out.2.2] at this; exact this)) ?_
  simp only [Act.put, List.setIfInBounds_toArray, List.set_cons_zero, List.set_cons_succ]
  refine wpList_runTo rfl (some 29) rfl (ptr p) W2 (by kernel_rfl) ?_
  simp only [Act.put, List.setIfInBounds_toArray, List.set_cons_zero, List.set_cons_succ]
  have hrA : RowAt (W2.alloc (.cells #[ptr p] 27)) 27 1 (.slice ai n ci) n (S.C.map fun e : Ent => ptr e.p) := (show RowAt W2 27 1 (.slice ai n ci) n (S.C.map fun e : Ent => ptr e.p) from by have := HW2.out.1; rwa [HV.out.1] at this).fr (Fr.alloc W2 _ (fun _ => False)) fun _ _ => id
  refine wpList_runTo rfl (some 30) rfl (.slice (some ⟨W2.heap.size, 0, none⟩) 1 1) (W2.alloc (.cells #[ptr p] 27)) (by kernel_rfl) ?_
  simp only [Act.put, List.setIfInBounds_toArray, List.set_cons_zero, List.set_cons_succ]
  refine wpList_append_row _ rfl (.tmp 28) (.tmp 30) 42 rfl 27 i1 _ 1 8 Try.underlying42 hi1 hx0 hx1 hx2 (by rfl) (.slice ai n ci) n (S.C.map fun e : Ent => ptr e.p) (by kernel_rfl) hrA ⟨W2.heap.size, 0, none⟩ 1 1 [ptr p] (by kernel_rfl) (by rfl) (fun j u hj => by rw [Addr.add_mid, Nat.zero_add, (Blk.new W2 27 #[ptr p]).cell]; simpa using hj) (fun u hu => by rw [List.mem_singleton.1 hu]; rfl) (Or.inl (by decide)) (by unfold maxLen; omega) (by omega) ?_
  intro vi' W3 hrow hfr hnew
  obtain ⟨ai', ci', ei', _⟩ := hrow.form
  subst ei'
  have fal : Fr W2 (W2.alloc (.cells #[ptr p] 27)) (fun _ => False) := Fr.alloc _ _ _
  have H5 : Hid (RowAt W3 27 1 (.slice ai' (n + 1) ci') (n + 1) ((S.C.map fun e : Ent => ptr e.p) ++ [ptr p]) ∧ Fr (W2.alloc (.cells #[ptr p] 27)) W3 (fun b => (Value.slice ai n ci).ownBlock = some b) ∧ ((Value.slice ai' (n + 1) ci').ownBlock = (Value.slice ai n ci).ownBlock ∨ (Value.slice ai' (n + 1) ci').ownBlock = some (W2.alloc (.cells #[ptr p] 27)).heap.size) ∧ Fr W2 (W2.alloc (.cells #[ptr p] 27)) (fun _ => False)) := ⟨hrow, hfr, by rcases hnew with q | q; exact .inl q; exact .inr q.1, fal⟩
  have hb3 : Blk W3 wb 89 S.cs := (H4.out.2.2.2.2.fr fal fun q => q).fr hfr fun q => by
    have q1 := HH.out.1.ci wb (by rw [HV.out.1]; exact q)
    have q2 := HH.out.1.cw
    omega
  have HJ3 : Hid (RowAt W3 133 1 (.slice aj n cj) n (S.C.map fun e : Ent => ptr e.q)) := by
    have h := HW2.out.2
    rw [HV.out.2.1] at h
    exact (h.fr fal fun _ _ q => q).fr hfr fun g hg q => by
      have q1 := HH.out.1.ci g (by rw [HV.out.1]; exact q)
      have q2 := HH.out.1.cj g (by rw [HV.out.2.1]; exact hg)
      omega
  clear hrow hfr hnew hrA fal hi1 hx0 hx1 hx2
  generalize W2.alloc (.cells #[ptr p] 27) = W2a at *
  simp only [Act.put, List.setIfInBounds_toArray, List.set_cons_zero, List.set_cons_succ]
  refine wpList_runTo rfl (some 32) rfl (ptr wb) W3 (by kernel_rfl) ?_
  simp only [Act.put, List.setIfInBounds_toArray, List.set_cons_zero, List.set_cons_succ]
  refine wpList_runTo rfl (some 33) rfl (.pointer (some ⟨wb, 6, none⟩)) W3 (by kernel_rfl) ?_
  simp only [Act.put, List.setIfInBounds_toArray, List.set_cons_zero, List.set_cons_succ]
  refine wpList_plain rfl fun K9 hK9 => ?_
  refine skipR (d := none) rfl (w' := W3.setCell ⟨wb, 6, none⟩ (.slice ai' (n + 1) ci')) (stI_run (.inl rfl) ⟨_, _, _, rfl⟩ ⟨_, _, _, rfl⟩ (.tmp 33) (.tmp 31) rfl (by kernel_rfl) (by kernel_rfl) (by have := hb3.cell 6; rw [HV.out.2.2] at this; exact this) (hb3.frozen 6)) ?_
  refine hK9 _ _ ?_
  clear hK9
  have H6 : Hid (Fr W3 (W3.setCell ⟨wb, 6, none⟩ (.slice ai' (n + 1) ci')) (fun b => b = wb) ∧ Blk (W3.setCell ⟨wb, 6, none⟩ (.slice ai' (n + 1) ci')) wb 89 #[ptr (S.h 0), ptr (S.h 1), ptr (S.h 2), ptr (S.r 0), ptr (S.r 1), ptr (S.r 2), .slice ai' (n + 1) ci', .slice aj n cj]) := ⟨Fr.setCell _ _ _ _ rfl, by have := hb3.set 6 (.slice ai' (n + 1) ci'); rw [HV.out.2.2] at this; exact this⟩
  clear hb3
  generalize W3.setCell ⟨wb, 6, none⟩ (.slice ai' (n + 1) ci') = W4 at *
  refine wpList_nil ?_
  refine hK _ _ ?_
  clear hK
  obtain ⟨i1, hi1, hx0, hx1, hx2⟩ := infoRP
  go_upto_region 4 with fail
  refine wp_region_lit ?_
  refine wpList_runTo rfl (some 34) rfl (ptr wb) W4 (by kernel_rfl) ?_
  simp only [Act.put, List.setIfInBounds_toArray, List.set_cons_zero, List.set_cons_succ]
  refine wpList_runTo rfl (some 35) rfl (ptr wb) W4 (by kernel_rfl) ?_
  simp only [Act.put, List.setIfInBounds_toArray, List.set_cons_zero, List.set_cons_succ]
  refine wpList_runTo rfl (some 36) rfl (ptr wb) W4 (by kernel_rfl) ?_
  simp only [Act.put, List.setIfInBounds_toArray, List.set_cons_zero, List.set_cons_succ]
  refine wpList_runTo rfl (some 37) rfl (.pointer (some ⟨wb, 7, none⟩)) W4 (by kernel_rfl) ?_
  simp only [Act.put, List.setIfInBounds_toArray, List.set_cons_zero, List.set_cons_succ]
  refine wpList_runTo rfl (some 38) rfl (.slice aj n cj) W4 (by exact ldC_run (by unfold LC; simp) (.tmp 37) rfl (by kernel_rfl) (H6.out.2.cell 7)) ?_
  simp only [Act.put, List.setIfInBounds_toArray, List.set_cons_zero, List.set_cons_succ]
  refine wpList_runTo rfl (some 39) rfl (ptr q) W4 (by kernel_rfl) ?_
  simp only [Act.put, List.setIfInBounds_toArray, List.set_cons_zero, List.set_cons_succ]
  have hrA : RowAt (W4.alloc (.cells #[ptr q] 133)) 133 1 (.slice aj n cj) n (S.C.map fun e : Ent => ptr e.q) := (show RowAt W4 133 1 (.slice aj n cj) n (S.C.map fun e : Ent => ptr e.q) from HJ3.out.fr H6.out.1 fun g hg q => by have q1 := HH.out.1.cj g (by rw [HV.out.2.1]; exact hg); have q2 := HH.out.1.cw; rw [q] at q1; omega).fr (Fr.alloc W4 _ (fun _ => False)) fun _ _ => id
  refine wpList_runTo rfl (some 40) rfl (.slice (some ⟨W4.heap.size, 0, none⟩) 1 1) (W4.alloc (.cells #[ptr q] 133)) (by kernel_rfl) ?_
  simp only [Act.put, List.setIfInBounds_toArray, List.set_cons_zero, List.set_cons_succ]
  refine wpList_append_row _ rfl (.tmp 38) (.tmp 40) 87 rfl 133 i1 _ 1 8 Try.underlying87 hi1 hx0 hx1 hx2 (by rfl) (.slice aj n cj) n (S.C.map fun e : Ent => ptr e.q) (by kernel_rfl) hrA ⟨W4.heap.size, 0, none⟩ 1 1 [ptr q] (by kernel_rfl) (by rfl) (fun j u hj => by rw [Addr.add_mid, Nat.zero_add, (Blk.new W4 133 #[ptr q]).cell]; simpa using hj) (fun u hu => by rw [List.mem_singleton.1 hu]; rfl) (Or.inl (by decide)) (by unfold maxLen; omega) (by omega) ?_
  intro vj' W5 hrow hfr hnew
  obtain ⟨aj', cj', ej', _⟩ := hrow.form
  subst ej'
  have fal : Fr W4 (W4.alloc (.cells #[ptr q] 133)) (fun _ => False) := Fr.alloc _ _ _
  have H7 : Hid (RowAt W5 133 1 (.slice aj' (n + 1) cj') (n + 1) ((S.C.map fun e : Ent => ptr e.q) ++ [ptr q]) ∧ Fr (W4.alloc (.cells #[ptr q] 133)) W5 (fun b => (Value.slice aj n cj).ownBlock = some b) ∧ ((Value.slice aj' (n + 1) cj').ownBlock = (Value.slice aj n cj).ownBlock ∨ (Value.slice aj' (n + 1) cj').ownBlock = some (W4.alloc (.cells #[ptr q] 133)).heap.size) ∧ Fr W4 (W4.alloc (.cells #[ptr q] 133)) (fun _ => False)) := ⟨hrow, hfr, by rcases hnew with q | q; exact .inl q; exact .inr q.1, fal⟩
  have hb5' := (H6.out.2.fr fal fun q => q).fr hfr fun q => by
    have q1 := HH.out.1.cj wb (by rw [HV.out.2.1]; exact q)
    have q2 := HH.out.1.cw
    omega
  clear hrow hfr hnew hrA fal hi1 hx0 hx1 hx2
  generalize W4.alloc (.cells #[ptr q] 133) = W4a at *
  simp only [Act.put, List.setIfInBounds_toArray, List.set_cons_zero, List.set_cons_succ]
  refine wpList_runTo rfl (some 42) rfl (ptr wb) W5 (by kernel_rfl) ?_
  simp only [Act.put, List.setIfInBounds_toArray, List.set_cons_zero, List.set_cons_succ]
  refine wpList_runTo rfl (some 43) rfl (.pointer (some ⟨wb, 7, none⟩)) W5 (by kernel_rfl) ?_
  simp only [Act.put, List.setIfInBounds_toArray, List.set_cons_zero, List.set_cons_succ]
  refine wpList_plain rfl fun K9 hK9 => ?_
  refine skipR (d := none) rfl (w' := W5.setCell ⟨wb, 7, none⟩ (.slice aj' (n + 1) cj')) (stI_run (.inr rfl) ⟨_, _, _, rfl⟩ ⟨_, _, _, rfl⟩ (.tmp 43) (.tmp 41) rfl (by kernel_rfl) (by kernel_rfl) (hb5'.cell 7) (hb5'.frozen 7)) ?_
  refine hK9 _ _ ?_
  clear hK9
  have H8 : Hid (Nx w W (W5.setCell ⟨wb, 7, none⟩ (.slice aj' (n + 1) cj')) wb S col 1) := by
    have hbl : Blk (W5.setCell ⟨wb, 7, none⟩ (.slice aj' (n + 1) cj')) wb 89 #[ptr (S.h 0), ptr (S.h 1), ptr (S.h 2), ptr (S.r 0), ptr (S.r 1), ptr (S.r 2), .slice ai' (n + 1) ci', .slice aj' (n + 1) cj'] := hb5'.set 7 _
    obtain ⟨col', h1, h2, h3⟩ := HH.out.1.pushed hk HH.out.2 (W0 := W0) (W1 := W1) (W1' := W1d) (W2 := W2) (W2a := W2a) (W3 := W3) (W4 := W4) (W4a := W4a) (W5 := W5) (x := x) (p := p) (q := q) (v' := v') (rv' := rv') (vi' := .slice ai' (n + 1) ci') (vj' := .slice aj' (n + 1) cj')
      ⟨H1.out.1, H2.out.1, H2.out.2.1, H2.out.2.2.1, H2.out.2.2.2.1, H3.out, H4.out.1, H4.out.2.1, H4.out.2.2.1, H4.out.2.2.2.1, H5.out.2.2.2, by rw [← HN.out.1]; exact H5.out.1, by rw [HV.out.1]; exact H5.out.2.1, by rw [HV.out.1]; exact H5.out.2.2.1, H6.out.1, H7.out.2.2.2, by rw [← HN.out.1]; exact H7.out.1, by rw [HV.out.2.1]; exact H7.out.2.1, by rw [HV.out.2.1]; exact H7.out.2.2.1, Fr.setCell _ _ _ _ rfl, hbl⟩
    exact ⟨_, col', h1, rfl, rfl, by simp [St.push], h2, h3⟩
  clear hb5'
  generalize W5.setCell ⟨wb, 7, none⟩ (.slice aj' (n + 1) cj') = W6 at *
  refine wpList_nil ?_
  go_wp2
  refine ⟨by rfl, .tuple #[], results_none (by rfl) _ _ _, rfl, ?_⟩
  exact H8
end
end Go.Proofs.Ytdnhhcbabdoomaa
