/-
  auction: what is over at a point.
-/
import Derived.Test.YtbhddfcdnpidkaaV3
namespace Go.Proofs.Ytbhddfcdnpidkaa
set_option linter.unusedVariables false
set_option linter.unusedSimpArgs false
open Go.RowKit Go.Great

theorem infoP : (Try.prog.info? 61).map (·.size) = some 3 := by kernel_rfl
theorem max_run {op : Oper} {a : Act} {p q : Int} (x y : Operand) (ho : op.op = .call { callee := .builtin .max, args := #[x, y], argTypes := #[2, 2] }) (hx : a.eval x = .int .i64 p) (hy : a.eval y = .int .i64 q) (w : World) : (execOp a.eval op).run Try.prog w = .ok (.value (.int .i64 (if p ≤ q then q else p))) w := by
  unfold execOp
  simp only [ho, resolve, invoke, builtin, Sem.run_bind, Sem.run_pure, Result.andThen_ok, List.map_toArray, List.map_cons, List.map_nil, hx, hy]
  by_cases h : p ≤ q
  · rw [if_pos h]
    go_simp
    omega
  · rw [if_neg h]
    go_simp
    omega
theorem subP_run {op : Oper} {a : Act} {p q : Int} (x y : Operand) (ho : op.op = .binOp .sub 2 x y 2) (hx : a.eval x = .int .i64 p) (hy : a.eval y = .int .i64 q) (h : -9223372036854775808 ≤ p - q ∧ p - q ≤ 9223372036854775807) (w : World) : (execOp a.eval op).run Try.prog w = .ok (.value (.int .i64 (p - q))) w := by
  have h3 : IntKind.i64.wrap (p - q) = p - q := by rw [IntKind.wrap_i64]; omega
  unfold execOp
  simp only [ho, hx, hy]
  go_simp
set_option maxRecDepth 100000 in
theorem over_any (w : World) (a : Pt) (ha : 0 ≤ a.x ∧ a.x ≤ 5000000000000000000) (hb : 0 ≤ a.y ∧ a.y ≤ 5000000000000000000) : Calls Try.prog 29 #[.agg a.cs] w fun e w' => e = .returned (.int .i64 a.ov) ∧ Below w.heap.size w w' := by
  have htr : ∀ W, Calls Try.prog 28 #[.agg a.cs] W fun e w' => e = .returned (.int .i64 a.tr) ∧ Below W.heap.size W w' := fun W => traded_any W a
  have hov : a.ov = (if a.x ≤ a.y then a.y else a.x) - a.tr := rfl
  have htb : 0 ≤ a.tr ∧ a.tr ≤ 5000000000000000000 := by unfold Pt.tr; split <;> omega
  rw [hov]
  clear hov
  generalize a.tr = tv at *
  obtain ⟨c, x, y⟩ := a
  unfold Pt.cs at *
  dsimp only at *
  obtain ⟨mx, hmx⟩ : ∃ mx, mx = if x ≤ y then y else x := ⟨_, rfl⟩
  have HM : Hid ((if x ≤ y then y else x) = mx) := hmx.symm
  have hmb : 0 ≤ mx ∧ mx ≤ 5000000000000000000 := by rw [hmx]; split <;> omega
  rw [← hmx]
  clear hmx ha hb
  have H0 : Hid (Below w.heap.size w (w.alloc (.cells #[.int .i64 c, .int .i64 x, .int .i64 y] 61)) ∧ Blk (w.alloc (.cells #[.int .i64 c, .int .i64 x, .int .i64 y] 61)) w.heap.size 61 #[.int .i64 c, .int .i64 x, .int .i64 y]) := ⟨(Below.refl _ w).alloc (Nat.le_refl _) _, Blk.new w _ _⟩
  go_enter Try.func29, Try.ntmps29
  go_upto_region 0 with fail
  rename_i K hK
  refine wp_region_lit ?_
  refine wpList_runTo rfl (some 1) rfl (.pointer (some ⟨w.heap.size, 0, none⟩)) (w.alloc (.cells #[.int .i64 c, .int .i64 x, .int .i64 y] 61)) (by kernel_rfl) ?_
  simp only [Act.put, List.setIfInBounds_toArray, List.set_cons_zero, List.set_cons_succ]
  refine wpList_runTo rfl (some 2) rfl (.int .i64 0) (w.alloc (.cells #[.int .i64 c, .int .i64 x, .int .i64 y] 61)) (by kernel_rfl) ?_
  simp only [Act.put, List.setIfInBounds_toArray, List.set_cons_zero, List.set_cons_succ]
  refine wpList_nil ?_
  refine hK _ _ ?_
  clear hK
  obtain ⟨w1, hw1⟩ : ∃ w1, w1 = w.alloc (.cells #[.int .i64 c, .int .i64 x, .int .i64 y] 61) := ⟨_, rfl⟩
  obtain ⟨bx, hbx⟩ : ∃ bx, bx = w.heap.size := ⟨_, rfl⟩
  have H1 : Hid (Below w.heap.size w w1 ∧ Blk w1 bx 61 #[.int .i64 c, .int .i64 x, .int .i64 y]) := by rw [hw1, hbx]; exact H0.out
  rw [← hw1, ← hbx]
  clear H0 hw1 hbx
  go_upto_region 1 with fail
  refine wp_region_held (S := fun w' => Blk w' bx 61 #[.int .i64 c, .int .i64 x, .int .i64 y]) (by kernel_rfl) ?_
  change wpAnyH _ _ _ _ _ _ _ _ (World.drew _)
  have hS : Blk w1.drew bx 61 #[.int .i64 c, .int .i64 x, .int .i64 y] := H1.out.2.below ((Below.refl _ w1).drew) H1.out.2.lt
  have HX : Hid (Below w.heap.size w w1.drew) := below_step H1.out.1 ((Below.refl _ w1).drew)
  clear H1
  generalize w1.drew = Z at *
  refine takeR (i := 0) (v := .pointer (some ⟨bx, 1, none⟩)) (some 3) rfl rfl (by kernel_rfl) (by kernel_rfl) (by kernel_rfl) (fun _ _ _ h => h) (Or.inl ⟨by kernel_rfl, fun w' hSw => by kernel_rfl⟩) hS ?_
  simp only [Act.put, List.setIfInBounds_toArray, List.set_cons_zero, List.set_cons_succ]
  refine takeR (i := 1) (v := .int .i64 x) (some 4) rfl rfl (by kernel_rfl) (by kernel_rfl) (by kernel_rfl) (fun _ _ _ h => h) (Or.inl ⟨by kernel_rfl, fun w' hSw => by have q9 : w'.cell? ⟨bx, 1, none⟩ = some (.int .i64 x) := hSw.cell 1; clear hSw; go_simp⟩) hS ?_
  simp only [Act.put, List.setIfInBounds_toArray, List.set_cons_zero, List.set_cons_succ]
  refine takeR (i := 2) (v := .pointer (some ⟨bx, 2, none⟩)) (some 5) rfl rfl (by kernel_rfl) (by kernel_rfl) (by kernel_rfl) (fun _ _ _ h => h) (Or.inl ⟨by kernel_rfl, fun w' hSw => by kernel_rfl⟩) hS ?_
  simp only [Act.put, List.setIfInBounds_toArray, List.set_cons_zero, List.set_cons_succ]
  refine takeR (i := 3) (v := .int .i64 y) (some 6) rfl rfl (by kernel_rfl) (by kernel_rfl) (by kernel_rfl) (fun _ _ _ h => h) (Or.inl ⟨by kernel_rfl, fun w' hSw => by have q9 : w'.cell? ⟨bx, 2, none⟩ = some (.int .i64 y) := hSw.cell 2; clear hSw; go_simp⟩) hS ?_
  simp only [Act.put, List.setIfInBounds_toArray, List.set_cons_zero, List.set_cons_succ]
  refine takeR (i := 4) (v := .int .i64 mx) (some 7) rfl rfl (by kernel_rfl) (by kernel_rfl) (by kernel_rfl) (fun _ _ _ h => h) (Or.inl ⟨by kernel_rfl, fun w' hSw => by rw [← HM.out]; exact max_run (p := x) (q := y) (.tmp 4) (.tmp 6) rfl (by kernel_rfl) (by kernel_rfl) _⟩) hS ?_
  simp only [Act.put, List.setIfInBounds_toArray, List.set_cons_zero, List.set_cons_succ]
  refine takeR (i := 5) (v := .agg #[.int .i64 c, .int .i64 x, .int .i64 y]) (some 8) rfl rfl (by kernel_rfl) (by kernel_rfl) (by kernel_rfl) (fun _ _ _ h => h) (Or.inl ⟨by kernel_rfl, fun w' hSw => by exact ldA_run (fun z u hu => by rw [Nat.zero_add, hSw.cell]; simpa using hu) Try.underlying61 rfl infoP (.tmp 1) rfl (by kernel_rfl)⟩) hS ?_
  simp only [Act.put, List.setIfInBounds_toArray, List.set_cons_zero, List.set_cons_succ]
  refine wpAnyH_ready (rs := [6]) (by kernel_rfl) (by simp) ?_
  refine AllReadyH.cons rfl (fun K1 hK1 => ?_) AllReadyH.nil
  rw [if_pos (by kernel_rfl)]
  refine callR (d := some 9) rfl 28 #[.agg #[.int .i64 c, .int .i64 x, .int .i64 y]] (by kernel_rfl) (htr Z) ?_
  rintro e Y1 ⟨rfl, hb⟩
  refine ⟨_, rfl, ?_⟩
  have hS1 := hS.below hb hS.lt
  have HX1 : Hid (Below w.heap.size w Y1) := below_step HX.out hb
  clear hb
  refine hK1.out _ _ hS1 (fun _ => ?_)
  clear hK1
  simp only [Act.put, List.setIfInBounds_toArray, List.set_cons_zero, List.set_cons_succ]
  refine takeR (i := 7) (v := .int .i64 (mx - tv)) (some 10) rfl rfl (by kernel_rfl) (by kernel_rfl) (by kernel_rfl) (fun _ _ _ h => h) (Or.inl ⟨by kernel_rfl, fun w' hSw => by exact subP_run (p := mx) (q := tv) (.tmp 7) (.tmp 9) rfl (by kernel_rfl) (by kernel_rfl) (by omega) _⟩) hS1 ?_
  simp only [Act.put, List.setIfInBounds_toArray, List.set_cons_zero, List.set_cons_succ]
  refine takeR (i := 8) (v := .int .i64 (mx - tv)) (some 2) rfl rfl (by kernel_rfl) (by kernel_rfl) (by kernel_rfl) (fun _ _ _ h => h) (Or.inl ⟨by kernel_rfl, fun w' hSw => by kernel_rfl⟩) hS1 ?_
  simp only [Act.put, List.setIfInBounds_toArray, List.set_cons_zero, List.set_cons_succ]
  refine wpAnyH_done (by kernel_rfl) ?_ _
  clear hS hS1 HX htr HM
  go_wp2
  go_ret
  exact ⟨rfl, HX1.out⟩
end Go.Proofs.Ytbhddfcdnpidkaa
