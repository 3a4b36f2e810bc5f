import Derived.Test.YtbhddfcdnpidkaaV28
import Derived.Test.YtbhddfcdnpidkaaV25
import Derived.Test.YtbhddfcdnpidkaaV6

namespace Go.Proofs.Ytbhddfcdnpidkaa
set_option linter.unusedVariables false
set_option linter.unusedSimpArgs false
open Go.RowKit Go.Great
attribute [local irreducible] wpList

def odK (id p q : Int) : Od := ⟨odC id 1 p q, id, 1, p, q⟩
theorem odK_ok (id p q : Int) : (odK id p q).ok := ⟨rfl, by simp [odK, odC, Value.oneCell'], rfl, rfl, rfl, rfl⟩
set_option maxRecDepth 100000 in
theorem limit_any (id p q : Int) (w : World) : Calls Try.prog 22 #[.int .i64 id, .int .i64 p, .int .i64 q] w fun e w' => e = .returned (.agg (odC id 1 p q)) ∧ Below w.heap.size w w' := by
  go_enter Try.func22, Try.ntmps22
  go_upto_region 0 with fail
  rename_i K hK
  refine wp_region_lit ?_
  refine wpList_runTo rfl (some 6) rfl (.pointer (some ⟨w.heap.size, 0, none⟩)) (w.alloc (.cells #[.int .i64 0, .string ⟨#[]⟩, .string ⟨#[]⟩, .string ⟨#[]⟩, .int .i64 0, .int .i64 0, .int .i64 0, .int .i64 0, .int .i64 0, .int .i64 0, .int .i64 0, .int .i64 0, .int .i64 0, .int .i64 0, .int .i64 0] 42)) (by kernel_rfl) ?_
  simp only [Act.put, List.setIfInBounds_toArray, List.set_cons_zero, List.set_cons_succ]
  refine wpList_nil ?_
  refine hK _ _ ?_
  clear hK
  have hk : Blk (w.alloc (.cells #[.int .i64 0, .string ⟨#[]⟩, .string ⟨#[]⟩, .string ⟨#[]⟩, .int .i64 0, .int .i64 0, .int .i64 0, .int .i64 0, .int .i64 0, .int .i64 0, .int .i64 0, .int .i64 0, .int .i64 0, .int .i64 0, .int .i64 0] 42)) w.heap.size 42 #[.int .i64 0, .string ⟨#[]⟩, .string ⟨#[]⟩, .string ⟨#[]⟩, .int .i64 0, .int .i64 0, .int .i64 0, .int .i64 0, .int .i64 0, .int .i64 0, .int .i64 0, .int .i64 0, .int .i64 0, .int .i64 0, .int .i64 0] := Blk.new _ _ _
  have hb : Below w.heap.size w (w.alloc (.cells #[.int .i64 0, .string ⟨#[]⟩, .string ⟨#[]⟩, .string ⟨#[]⟩, .int .i64 0, .int .i64 0, .int .i64 0, .int .i64 0, .int .i64 0, .int .i64 0, .int .i64 0, .int .i64 0, .int .i64 0, .int .i64 0, .int .i64 0] 42)) := (Below.refl _ w).alloc (Nat.le_refl _) _
  have HB : Hid (Below w.heap.size w (w.alloc (.cells #[.int .i64 0, .string ⟨#[]⟩, .string ⟨#[]⟩, .string ⟨#[]⟩, .int .i64 0, .int .i64 0, .int .i64 0, .int .i64 0, .int .i64 0, .int .i64 0, .int .i64 0, .int .i64 0, .int .i64 0, .int .i64 0, .int .i64 0] 42)) ∧ w.heap.size ≤ w.heap.size) := ⟨hb, Nat.le_refl _⟩
  clear hb
  generalize w.alloc (.cells #[.int .i64 0, .string ⟨#[]⟩, .string ⟨#[]⟩, .string ⟨#[]⟩, .int .i64 0, .int .i64 0, .int .i64 0, .int .i64 0, .int .i64 0, .int .i64 0, .int .i64 0, .int .i64 0, .int .i64 0, .int .i64 0, .int .i64 0] 42) = w1 at *
  go_upto_region 1 with fail
  rename_i K hK
  refine wp_region_lit ?_
  refine wpList_runTo rfl (some 7) rfl (.int .i64 id) w1 (by kernel_rfl) ?_
  simp only [Act.put, List.setIfInBounds_toArray, List.set_cons_zero, List.set_cons_succ]
  refine wpList_runTo rfl (some 8) rfl (.int .i64 p) w1 (by kernel_rfl) ?_
  simp only [Act.put, List.setIfInBounds_toArray, List.set_cons_zero, List.set_cons_succ]
  refine wpList_runTo rfl (some 9) rfl (.int .i64 q) w1 (by kernel_rfl) ?_
  simp only [Act.put, List.setIfInBounds_toArray, List.set_cons_zero, List.set_cons_succ]
  refine wpList_runTo rfl (some 10) rfl (.agg (odC id 1 p q)) w1 (by kernel_rfl) ?_
  simp only [Act.put, List.setIfInBounds_toArray, List.set_cons_zero, List.set_cons_succ]
  refine wpList_plain rfl fun K1 hK1 => ?_
  refine wp_store_row 42 (.tmp 6) (.tmp 10) rfl w.heap.size (odC id 1 p q) (by kernel_rfl) (by kernel_rfl) 42 _ hk infoO rfl (by simp [odC, Value.oneCell']) ?_
  refine hK1 _ _ ?_
  clear hK1
  refine wpList_nil ?_
  refine hK _ _ ?_
  clear hK
  apply wp_ret
  try simp only [Exit.inBlock, Exit.then]
  show bodyPost Try.prog Try.f22 _ Exit.ret _ _
  refine bodyPost_ret (results_cell_row (fn := Try.f22) (p := 6) (ty := 42) rfl _ _ w.heap.size 42 (odC id 1 p q) (0, 0) _ (by kernel_rfl) (setRow_heap _ _ _ _ _ _ hk) Try.underlying42 rfl infoO) (by kernel_rfl) ⟨rfl, below_setRow HB.out.1 HB.out.2 _⟩
/-! The example, plain. -/
def exB : List Od := [odK 1 102 100, odK 2 101 50]
def exS : List Od := [odK 3 100 80, odK 4 101 60]
def xB : List Wn := [⟨1, false, 102, 100⟩, ⟨2, false, 101, 50⟩]
def xS : List Wn := [⟨3, false, 100, 80⟩, ⟨4, false, 101, 60⟩]
theorem ex_rows {B S : List Wn} (h : Rws exB exS B S) : B = xB ∧ S = xS := by
  have hb : B.Perm xB := h.pb
  have hs : S.Perm xS := h.ps
  have sB : xB.Pairwise leB := by unfold xB leB; simp
  have sS : xS.Pairwise leS := by unfold xS leS; simp
  constructor
  · refine hb.eq_of_pairwise (le := leB) (fun x y hx hy h1 h2 => ?_) h.sb sB
    have hx' := hb.mem_iff.1 hx
    unfold xB at hx' hy
    simp only [List.mem_cons, List.mem_nil_iff, or_false] at hx' hy
    rcases hx' with rfl | rfl <;> rcases hy with rfl | rfl <;> first | rfl | (unfold leB at h1 h2; simp at h1 h2)
  · refine hs.eq_of_pairwise (le := leS) (fun x y hx hy h1 h2 => ?_) h.ss sS
    have hx' := hs.mem_iff.1 hx
    unfold xS at hx' hy
    simp only [List.mem_cons, List.mem_nil_iff, or_false] at hx' hy
    rcases hx' with rfl | rfl <;> rcases hy with rfl | rfl <;> first | rfl | (unfold leS at h1 h2; simp at h1 h2)
theorem ex_cnd : Cnd xB xS 0 [100, 101, 102] := ⟨by simp, fun c => by
  unfold xB xS
  simp only [List.mem_cons, List.mem_nil_iff, or_false]
  constructor
  · rintro (rfl | rfl | rfl)
    · exact .inr (.inr ⟨_, .inl rfl, rfl, rfl⟩)
    · exact .inr (.inl ⟨_, .inr rfl, rfl, rfl⟩)
    · exact .inr (.inl ⟨_, .inl rfl, rfl, rfl⟩)
  · rintro (⟨_, h⟩ | ⟨v, rfl | rfl, _, rfl⟩ | ⟨v, rfl | rfl, _, rfl⟩)
    · exact absurd rfl h
    · exact .inr (.inr rfl)
    · exact .inr (.inl rfl)
    · exact .inl rfl
    · exact .inr (.inl rfl)⟩
theorem ex_res {B S : List Wn} (h : Rws exB exS B S) : resOf (refN 0) (ptsOf B S (cndL (gat (refN 0) B S 2))) = ⟨101, 140, 10, 1⟩ := by
  have hc := h.cnd (refN 0)
  obtain ⟨rfl, rfl⟩ := ex_rows h
  rw [show refN 0 = 0 from rfl] at hc ⊢
  refine (resOf_perm (List.Perm.refl _) (List.Perm.refl _) hc ex_cnd).trans ?_
  show resOf 0 (ptsOf xB xS [100, 101, 102]) = ⟨101, 140, 10, 1⟩
  first | rfl | (unfold resOf; rfl) | kernel_rfl
theorem ex_fills {F : List Fl} (h : FV exB exS ⟨101, 140, 10, 1⟩ F) : F = [⟨1, 3, 101, 80⟩, ⟨1, 4, 101, 20⟩, ⟨2, 4, 101, 40⟩] := by
  rcases h with ⟨h | h, _⟩ | ⟨_, _, B, S, hr, e⟩
  · exact absurd h (by decide)
  · exact absurd (by decide) h
  · obtain ⟨rfl, rfl⟩ := ex_rows hr
    rw [e]
    rfl
theorem lenF_run {op : Oper} {a : Act} {v : Value} {ao : Option Addr} {n c : Nat} (hv : v = .slice ao n c) (x : Operand) (ho : op.op = .call { callee := .builtin .len, args := #[x], argTypes := #[36] }) (hx : a.eval x = v) (w : World) : (execOp a.eval op).run Try.prog w = .ok (.value (.int .i64 (n : Int))) w := by
  subst hv
  unfold execOp
  simp only [ho, resolve, invoke, builtin, Sem.run_bind, Sem.run_pure, Result.andThen_ok, List.map_toArray, List.map_cons, List.map_nil, hx]
  go_simp
theorem build2_run {op : Oper} {a : Act} {i1 p1 q1 i2 p2 q2 : Int} (x y : Operand) (ho : op.op = .buildSlice 24 2 #[(0, x), (1, y)]) (hx : a.eval x = .agg (odC i1 1 p1 q1)) (hy : a.eval y = .agg (odC i2 1 p2 q2)) (w : World) : (execOp a.eval op).run Try.prog w = .ok (.value (.slice (some ⟨w.heap.size, 0, none⟩) 2 2)) (w.alloc (.cells (odC i1 1 p1 q1 ++ odC i2 1 p2 q2) 42)) := by
  unfold odC at *
  unfold execOp
  simp only [ho, List.map_toArray, List.map_cons, List.map_nil, hx, hy]
  kernel_rfl
set_option maxRecDepth 100000 in
set_option maxHeartbeats 2000000 in
theorem row2 (w : World) (i1 p1 q1 i2 p2 q2 : Int) : RowAt (w.alloc (.cells (odC i1 1 p1 q1 ++ odC i2 1 p2 q2) 42)) 42 15 (.slice (some ⟨w.heap.size, 0, none⟩) 2 2) 2 (flatL (fun o : Od => o.cs.toList) [odK i1 p1 q1, odK i2 p2 q2]) := by
  refine ⟨by kernel_rfl, .inr ⟨w.heap.size, 0, 2, _, rfl, heap_alloc_new w _, Nat.le_refl _, by unfold maxLen; omega, ?_, ?_⟩⟩
  · simp [odC]
  · kernel_rfl
set_option maxRecDepth 100000 in
set_option maxHeartbeats 4000000 in
theorem shown_any (w : World) : Calls Try.prog 6 #[] w fun e w' => e = .returned (.bool true) ∧ Hid (Below w.heap.size w w') := by
  go_enter Try.func6, Try.ntmps6
  go_upto_region 1 with fail
  rename_i K hK
  refine wp_region_lit ?_
  refine wpList_callW rfl (some 5) rfl 22 #[.int .i64 1, .int .i64 102, .int .i64 100] (by kernel_rfl) (limit_any 1 102 100 w) ?_
  rintro e w1 ⟨rfl, hb1⟩
  refine ⟨_, rfl, ?_⟩
  simp only [Act.put, List.setIfInBounds_toArray, List.set_cons_zero, List.set_cons_succ]
  refine wpList_callW rfl (some 6) rfl 22 #[.int .i64 2, .int .i64 101, .int .i64 50] (by kernel_rfl) (limit_any 2 101 50 w1) ?_
  rintro e w2 ⟨rfl, hb2⟩
  refine ⟨_, rfl, ?_⟩
  simp only [Act.put, List.setIfInBounds_toArray, List.set_cons_zero, List.set_cons_succ]
  refine wpList_runTo rfl (some 7) rfl (.slice (some ⟨w2.heap.size, 0, none⟩) 2 2) (w2.alloc (.cells (odC 1 1 102 100 ++ odC 2 1 101 50) 42)) (by exact build2_run (.tmp 5) (.tmp 6) rfl (by kernel_rfl) (by kernel_rfl) _) ?_
  simp only [Act.put, List.setIfInBounds_toArray, List.set_cons_zero, List.set_cons_succ]
  have HB : Hid (RowAt (w2.alloc (.cells (odC 1 1 102 100 ++ odC 2 1 101 50) 42)) 42 15 (.slice (some ⟨w2.heap.size, 0, none⟩) 2 2) 2 (flatL (fun o : Od => o.cs.toList) exB) ∧ Below w.heap.size w (w2.alloc (.cells (odC 1 1 102 100 ++ odC 2 1 101 50) 42))) := ⟨row2 w2 1 102 100 2 101 50, below_step (below_step hb1 hb2) ((Below.refl _ w2).alloc (Nat.le_refl _) _)⟩
  clear hb1 hb2
  generalize w2.alloc (.cells (odC 1 1 102 100 ++ odC 2 1 101 50) 42) = w3 at *
  generalize w2.heap.size = gb at *
  refine wpList_runTo rfl (some 1) rfl (.slice (some ⟨gb, 0, none⟩) 2 2) w3 (by kernel_rfl) ?_
  simp only [Act.put, List.setIfInBounds_toArray, List.set_cons_zero, List.set_cons_succ]
  refine wpList_nil ?_
  refine hK _ _ ?_
  clear hK
  go_upto_region 2 with fail
  rename_i K hK
  refine wp_region_lit ?_
  refine wpList_callW rfl (some 8) rfl 22 #[.int .i64 3, .int .i64 100, .int .i64 80] (by kernel_rfl) (limit_any 3 100 80 w3) ?_
  rintro e w4 ⟨rfl, hb4⟩
  refine ⟨_, rfl, ?_⟩
  simp only [Act.put, List.setIfInBounds_toArray, List.set_cons_zero, List.set_cons_succ]
  refine wpList_callW rfl (some 9) rfl 22 #[.int .i64 4, .int .i64 101, .int .i64 60] (by kernel_rfl) (limit_any 4 101 60 w4) ?_
  rintro e w5 ⟨rfl, hb5⟩
  refine ⟨_, rfl, ?_⟩
  simp only [Act.put, List.setIfInBounds_toArray, List.set_cons_zero, List.set_cons_succ]
  refine wpList_runTo rfl (some 10) rfl (.slice (some ⟨w5.heap.size, 0, none⟩) 2 2) (w5.alloc (.cells (odC 3 1 100 80 ++ odC 4 1 101 60) 42)) (by exact build2_run (.tmp 8) (.tmp 9) rfl (by kernel_rfl) (by kernel_rfl) _) ?_
  simp only [Act.put, List.setIfInBounds_toArray, List.set_cons_zero, List.set_cons_succ]
  have HS : Hid (RowAt (w5.alloc (.cells (odC 3 1 100 80 ++ odC 4 1 101 60) 42)) 42 15 (.slice (some ⟨w5.heap.size, 0, none⟩) 2 2) 2 (flatL (fun o : Od => o.cs.toList) exS) ∧ RowAt (w5.alloc (.cells (odC 3 1 100 80 ++ odC 4 1 101 60) 42)) 42 15 (.slice (some ⟨gb, 0, none⟩) 2 2) 2 (flatL (fun o : Od => o.cs.toList) exB) ∧ Below w.heap.size w (w5.alloc (.cells (odC 3 1 100 80 ++ odC 4 1 101 60) 42))) := by
    have hx := below_step (below_step hb4 hb5) ((Below.refl _ w5).alloc (Nat.le_refl _) (.cells (odC 3 1 100 80 ++ odC 4 1 101 60) 42))
    exact ⟨row2 w5 3 100 80 4 101 60, HB.out.1.fr (Fr.of_below hx (fun _ => False)) fun _ _ => id, below_step HB.out.2 hx⟩
  clear hb4 hb5 HB
  generalize w5.alloc (.cells (odC 3 1 100 80 ++ odC 4 1 101 60) 42) = w6 at *
  generalize w5.heap.size = gs at *
  refine wpList_runTo rfl (some 2) rfl (.slice (some ⟨gs, 0, none⟩) 2 2) w6 (by kernel_rfl) ?_
  simp only [Act.put, List.setIfInBounds_toArray, List.set_cons_zero, List.set_cons_succ]
  refine wpList_nil ?_
  refine hK _ _ ?_
  clear hK
  have okB : ∀ o ∈ exB, o.ok := fun o ho => by
    unfold exB at ho
    simp only [List.mem_cons, List.mem_nil_iff, or_false] at ho
    rcases ho with rfl | rfl <;> exact odK_ok _ _ _
  have okS : ∀ o ∈ exS, o.ok := fun o ho => by
    unfold exS at ho
    simp only [List.mem_cons, List.mem_nil_iff, or_false] at ho
    rcases ho with rfl | rfl <;> exact odK_ok _ _ _
  have hcp := Price_any (w := w6) (b := exB) (s := exS) (c := 2) (c' := 2) HS.out.2.1 okB (by decide) HS.out.1 okS (by decide) 0
  go_upto_region 3 with fail
  rename_i K hK
  refine wp_region_lit ?_
  refine wpList_runTo rfl (some 11) rfl (.slice (some ⟨gb, 0, none⟩) 2 2) w6 (by kernel_rfl) ?_
  simp only [Act.put, List.setIfInBounds_toArray, List.set_cons_zero, List.set_cons_succ]
  refine wpList_runTo rfl (some 12) rfl (.slice (some ⟨gs, 0, none⟩) 2 2) w6 (by kernel_rfl) ?_
  simp only [Act.put, List.setIfInBounds_toArray, List.set_cons_zero, List.set_cons_succ]
  refine wpList_callW rfl (some 13) rfl 9 #[.slice (some ⟨gb, 0, none⟩) 2 2, .slice (some ⟨gs, 0, none⟩) 2 2, .int .i64 0] (by kernel_rfl) hcp ?_
  clear hcp
  rintro e w7 ⟨r, rfl, H7⟩
  refine ⟨_, rfl, ?_⟩
  simp only [Act.put, List.setIfInBounds_toArray, List.set_cons_zero, List.set_cons_succ]
  have hr : r = ⟨101, 140, 10, 1⟩ := by
    obtain ⟨B, S, h1, h2⟩ := H7.out.2
    rw [h2]
    exact ex_res h1
  subst hr
  refine wpList_runTo rfl (some 3) rfl (.pointer (some ⟨w7.heap.size, 0, none⟩)) (w7.alloc (.cells #[.int .i64 0, .int .i64 0, .int .i64 0, .int .i64 0] 28)) (by kernel_rfl) ?_
  simp only [Act.put, List.setIfInBounds_toArray, List.set_cons_zero, List.set_cons_succ]
  refine wpList_plain rfl fun K1 hK1 => ?_
  refine wp_store_row 28 (.tmp 3) (.tmp 13) rfl w7.heap.size (Rs.cs ⟨101, 140, 10, 1⟩) (by kernel_rfl) (by kernel_rfl) 28 #[.int .i64 0, .int .i64 0, .int .i64 0, .int .i64 0] (heap_alloc_new w7 _) infoRs rfl (by simp [Rs.cs, Value.oneCell']) ?_
  rw [World.setRow_alloc_new]
  refine hK1 _ _ ?_
  clear hK1
  refine wpList_nil ?_
  refine hK _ _ ?_
  clear hK
  have H8 : Hid (Below w.heap.size w (w7.alloc (.cells (Rs.cs ⟨101, 140, 10, 1⟩) 28)) ∧ Blk (w7.alloc (.cells (Rs.cs ⟨101, 140, 10, 1⟩) 28)) w7.heap.size 28 (Rs.cs ⟨101, 140, 10, 1⟩) ∧ RowAt (w7.alloc (.cells (Rs.cs ⟨101, 140, 10, 1⟩) 28)) 42 15 (.slice (some ⟨gb, 0, none⟩) 2 2) 2 (flatL (fun o : Od => o.cs.toList) exB) ∧ RowAt (w7.alloc (.cells (Rs.cs ⟨101, 140, 10, 1⟩) 28)) 42 15 (.slice (some ⟨gs, 0, none⟩) 2 2) 2 (flatL (fun o : Od => o.cs.toList) exS)) := by
    have hx := below_step H7.out.1 ((Below.refl _ w7).alloc (Nat.le_refl _) (.cells (Rs.cs ⟨101, 140, 10, 1⟩) 28))
    exact ⟨below_step HS.out.2.2 hx, Blk.new _ _ _, HS.out.2.1.fr (Fr.of_below hx (fun _ => False)) fun _ _ => id, HS.out.1.fr (Fr.of_below hx (fun _ => False)) fun _ _ => id⟩
  clear H7 HS
  generalize w7.alloc (.cells (Rs.cs ⟨101, 140, 10, 1⟩) 28) = w8 at *
  generalize w7.heap.size = br at *
  have hcf := Fills_any (w := w8) (b := exB) (s := exS) (c := 2) (c' := 2) H8.out.2.2.1 okB (by decide) H8.out.2.2.2 okS (by decide) ⟨101, 140, 10, 1⟩ (by decide)
  clear okB okS
  go_upto_region 4 with fail
  rename_i K hK
  refine wp_region_lit ?_
  refine wpList_runTo rfl (some 14) rfl (.slice (some ⟨gb, 0, none⟩) 2 2) w8 (by kernel_rfl) ?_
  simp only [Act.put, List.setIfInBounds_toArray, List.set_cons_zero, List.set_cons_succ]
  refine wpList_runTo rfl (some 15) rfl (.slice (some ⟨gs, 0, none⟩) 2 2) w8 (by kernel_rfl) ?_
  simp only [Act.put, List.setIfInBounds_toArray, List.set_cons_zero, List.set_cons_succ]
  refine wpList_runTo rfl (some 16) rfl (.agg (Rs.cs ⟨101, 140, 10, 1⟩)) w8 (by exact ldA_run (blk_range H8.out.2.1) Try.underlying28 rfl infoRs (.tmp 3) rfl (by kernel_rfl)) ?_
  simp only [Act.put, List.setIfInBounds_toArray, List.set_cons_zero, List.set_cons_succ]
  refine wpList_callW rfl (some 17) rfl 14 #[.slice (some ⟨gb, 0, none⟩) 2 2, .slice (some ⟨gs, 0, none⟩) 2 2, .agg (Rs.cs ⟨101, 140, 10, 1⟩)] (by kernel_rfl) hcf ?_
  clear hcf
  rintro e w9 ⟨v, rfl, H9⟩
  refine ⟨_, rfl, ?_⟩
  simp only [Act.put, List.setIfInBounds_toArray, List.set_cons_zero, List.set_cons_succ]
  obtain ⟨F, hF, hFV⟩ := H9.out
  have hFe := ex_fills hFV
  subst hFe
  obtain ⟨av, cv, ev, _⟩ := hF.row.form
  subst ev
  obtain ⟨g, o, cx, cur, ea, _⟩ := hF.row.more (by simp)
  injection ea with e1 _ e2
  subst e1 e2
  have c0 : w9.cell? ⟨g, o + 5, none⟩ = some (.int .i64 1) := hF.row.cell rfl (j := 5) rfl
  have c1 : w9.cell? ⟨g, o + 6, none⟩ = some (.int .i64 4) := hF.row.cell rfl (j := 6) rfl
  have c2 : w9.cell? ⟨g, o + 7, none⟩ = some (.int .i64 0) := hF.row.cell rfl (j := 7) rfl
  have c3 : w9.cell? ⟨g, o + 8, none⟩ = some (.int .i64 101) := hF.row.cell rfl (j := 8) rfl
  have c4 : w9.cell? ⟨g, o + 9, none⟩ = some (.int .i64 20) := hF.row.cell rfl (j := 9) rfl
  have H10 : Hid (Below w.heap.size w w9 ∧ Blk w9 br 28 (Rs.cs ⟨101, 140, 10, 1⟩)) := ⟨below_step H8.out.1 hF.bel, H8.out.2.1.below hF.bel H8.out.2.1.lt⟩
  have r0 := H10.out.2.cell 0
  have r1 := H10.out.2.cell 1
  have r2 := H10.out.2.cell 2
  have r3 := H10.out.2.cell 3
  refine wpList_runTo rfl (some 4) rfl (.slice (some ⟨g, o, none⟩) 3 cv) w9 (by kernel_rfl) ?_
  simp only [Act.put, List.setIfInBounds_toArray, List.set_cons_zero, List.set_cons_succ]
  refine wpList_nil ?_
  refine hK _ _ ?_
  clear hK H8 H9 hF hFV
  have H11 : Hid (Below w.heap.size w w9) := H10.out.1
  have hrf : w9.rangeAt g (o + 1 * 5) [.int .i64 1, .int .i64 4, .int .i64 0, .int .i64 101, .int .i64 20] := fun j u hj => by
    match j, hj with
    | 0, hj => cases hj; exact c0
    | 1, hj => cases hj; exact c1
    | 2, hj => cases hj; exact c2
    | 3, hj => cases hj; exact c3
    | 4, hj => cases hj; exact c4
    | j + 5, hj => simp at hj
  go_upto_region 5 with fail
  rename_i K hK
  refine wp_region_lit ?_
  refine wpList_runTo rfl (some 18) rfl (.agg (Rs.cs ⟨101, 140, 10, 1⟩)) w9 (by exact ldA_run (blk_range H10.out.2) Try.underlying28 rfl infoRs (.tmp 3) rfl (by kernel_rfl)) ?_
  simp only [Act.put, List.setIfInBounds_toArray, List.set_cons_zero, List.set_cons_succ]
  refine wpList_runTo rfl (some 19) rfl (.agg (Rs.cs ⟨101, 140, 10, 1⟩)) w9 (by kernel_rfl) ?_
  simp only [Act.put, List.setIfInBounds_toArray, List.set_cons_zero, List.set_cons_succ]
  refine wpList_runTo rfl (some 20) rfl (.bool true) w9 (by kernel_rfl) ?_
  simp only [Act.put, List.setIfInBounds_toArray, List.set_cons_zero, List.set_cons_succ]
  refine wpList_runTo rfl (some 21) rfl (.bool true) w9 (by kernel_rfl) ?_
  simp only [Act.put, List.setIfInBounds_toArray, List.set_cons_zero, List.set_cons_succ]
  refine wpList_runToG (by kernel_rfl) (some 22) rfl (.slice (some ⟨g, o, none⟩) 3 cv) w9 (by kernel_rfl) ?_
  simp only [Act.put, List.setIfInBounds_toArray, List.set_cons_zero, List.set_cons_succ]
  refine wpList_runToG (by kernel_rfl) (some 23) rfl (.int .i64 ((3 : Nat) : Int)) w9 (by exact lenF_run (v := .slice (some ⟨g, o, none⟩) 3 cv) (ao := some ⟨g, o, none⟩) (n := 3) (c := cv) rfl (.tmp 22) rfl (by kernel_rfl) _) ?_
  simp only [Act.put, List.setIfInBounds_toArray, List.set_cons_zero, List.set_cons_succ]
  refine wpList_runToG (by kernel_rfl) (some 24) rfl (.bool true) w9 (by kernel_rfl) ?_
  simp only [Act.put, List.setIfInBounds_toArray, List.set_cons_zero, List.set_cons_succ]
  refine wpList_runTo rfl (some 25) rfl (.bool true) w9 (by kernel_rfl) ?_
  simp only [Act.put, List.setIfInBounds_toArray, List.set_cons_zero, List.set_cons_succ]
  refine wpList_runTo rfl (some 26) rfl (.bool true) w9 (by kernel_rfl) ?_
  simp only [Act.put, List.setIfInBounds_toArray, List.set_cons_zero, List.set_cons_succ]
  refine wpList_runToG (by kernel_rfl) (some 27) rfl (.slice (some ⟨g, o, none⟩) 3 cv) w9 (by kernel_rfl) ?_
  simp only [Act.put, List.setIfInBounds_toArray, List.set_cons_zero, List.set_cons_succ]
  refine wpList_runToG (by kernel_rfl) (some 28) rfl (.pointer (some ⟨g, o + 1 * 5, none⟩)) w9 (by kernel_rfl) ?_
  simp only [Act.put, List.setIfInBounds_toArray, List.set_cons_zero, List.set_cons_succ]
  refine wpList_runToG (by kernel_rfl) (some 29) rfl (.agg #[.int .i64 1, .int .i64 4, .int .i64 0, .int .i64 101, .int .i64 20]) w9 (by exact ldA_run hrf Try.underlying39 rfl (by kernel_rfl) (.tmp 28) rfl (by kernel_rfl)) ?_
  simp only [Act.put, List.setIfInBounds_toArray, List.set_cons_zero, List.set_cons_succ]
  refine wpList_runToG (by kernel_rfl) (some 30) rfl (.agg #[.int .i64 1, .int .i64 4, .int .i64 0, .int .i64 101, .int .i64 20]) w9 (by kernel_rfl) ?_
  simp only [Act.put, List.setIfInBounds_toArray, List.set_cons_zero, List.set_cons_succ]
  refine wpList_runToG (by kernel_rfl) (some 31) rfl (.bool true) w9 (by kernel_rfl) ?_
  simp only [Act.put, List.setIfInBounds_toArray, List.set_cons_zero, List.set_cons_succ]
  refine wpList_runTo rfl (some 32) rfl (.bool true) w9 (by kernel_rfl) ?_
  simp only [Act.put, List.setIfInBounds_toArray, List.set_cons_zero, List.set_cons_succ]
  refine wpList_runTo rfl (some 0) rfl (.bool true) w9 (by kernel_rfl) ?_
  simp only [Act.put, List.setIfInBounds_toArray, List.set_cons_zero, List.set_cons_succ]
  refine wpList_nil ?_
  refine hK _ _ ?_
  clear hK
  go_wp2
  go_ret
  exact ⟨rfl, H11.out⟩
end Go.Proofs.Ytbhddfcdnpidkaa

namespace Go.Proofs.Ytbhddfcdnpidkaa
set_option linter.unusedVariables false
set_option linter.unusedSimpArgs false
open Go.RowKit Go.Great

def bareL (l : List Od) : Bool := l.all fun o => decide (o.ty = 2)
def pricedL (p : Int) (l : List Od) : Bool := l.any fun o => decide (o.ty ≠ 2 ∧ o.pr = p)
theorem all_take {f : Od → Bool} {l : List Od} {i : Nat} {o : Od} (h : l[i]? = some o) (ha : (l.take i).all f = true) (ho : f o = true) : (l.take (i + 1)).all f = true := by
  rw [List.take_add_one, h, List.all_append, ha]
  simpa using ho
theorem any_take {f : Od → Bool} {l : List Od} {i : Nat} {o : Od} (h : l[i]? = some o) (ha : (l.take i).any f = false) (ho : f o = false) : (l.take (i + 1)).any f = false := by
  rw [List.take_add_one, h, List.any_append, ha]
  simpa using ho
/-- An order's cells in a row. -/
theorem od_cell {w : World} {g of c n i j : Nat} {l : List Od} {o : Od} {u : Value} (h : RowAt w 42 15 (.slice (some ⟨g, of, none⟩) n c) n (flatL (fun o => o.cs.toList) l)) (hok : ∀ o ∈ l, o.ok) (ho : l[i]? = some o) (hj : j < 15) (hu : o.cs[j]? = some u) : w.cell? ⟨g, of + i * 15 + j, none⟩ = some u := by
  have hlen : ∀ o ∈ l, ((fun o : Od => o.cs.toList) o).length = 15 := fun o h => (Array.length_toList).trans (hok o h).sz
  have := h.cell rfl (j := i * 15 + j) (u := u) (by rw [flatL_getM hlen ho hj]; simpa using hu)
  rw [← Nat.add_assoc] at this
  exact this
set_option maxRecDepth 100000 in
theorem bare_any {w : World} {l : List Od} {a : Option Addr} {c : Nat} (hr : RowAt w 42 15 (.slice a l.length c) l.length (flatL (fun o => o.cs.toList) l)) (hok : ∀ o ∈ l, o.ok) (hl : l.length ≤ 9223372036854775807) :
    Calls Try.prog 12 #[.slice a l.length c] w fun e w' => e = .returned (.bool (bareL l)) ∧ w' = w := by
  obtain ⟨n, hn⟩ : ∃ n, n = l.length := ⟨_, rfl⟩
  have HR : Hid (RowAt w 42 15 (.slice a n c) n (flatL (fun o => o.cs.toList) l) ∧ (∀ o ∈ l, o.ok) ∧ n = l.length) := ⟨by rw [hn]; exact hr, hok, hn⟩
  obtain ⟨R, hR⟩ : ∃ R, R = bareL l := ⟨_, rfl⟩
  have HB : Hid (R = bareL l) := hR
  rw [← hn] at hl ⊢
  rw [← hR]
  clear hr hok hn hR
  go_enter Try.func12, Try.ntmps12
  go_upto_region 2 with fail
  go_loopw [3] (fun x3 wr => ∃ i : Nat, i ≤ n ∧ x3 = .int .i64 (i : Int) ∧ wr = w ∧ Hid ((l.take i).all (fun o => decide (o.ty = 2)) = true)) (fun x3 _ => n - (RowKit.intOf x3).toNat)
  case atStart => exact ⟨0, Nat.zero_le _, rfl, rfl, rfl⟩
  case round =>
    obtain ⟨i, hi, rfl, hw, HA⟩ := hrel
    subst hw
    by_cases hlt : i < n
    · have hlt' : (i : Int) < (n : Int) := by omega
      obtain ⟨o, ho⟩ : ∃ o, l[i]? = some o := ⟨_, List.getElem?_eq_getElem (by rw [← HR.out.2.2]; exact hlt)⟩
      obtain ⟨g, of, c', cur, ea, _⟩ := HR.out.1.more (by omega)
      injection ea with ea1 _ ea2
      subst ea1 ea2
      have q5 := od_cell HR.out.1 HR.out.2.1 ho (j := 5) (by decide) (HR.out.2.1 o (List.mem_of_getElem? ho)).c5
      by_cases ht : o.ty = 2
      · have HA2 : Hid ((l.take (i + 1)).all (fun o => decide (o.ty = 2)) = true) := all_take ho HA.out (by simp [ht])
        have e : (o.ty != 2) = false := by simp [ht]
        clear HA ho
        generalize o.ty = ty at *
        go_wp2
        exact ⟨⟨i + 1, by omega, by go_num, by first | rfl | trivial, HA2.out⟩, by simp [RowKit.intOf]; omega⟩
      · have hf : R = false := by
          rw [HB.out]
          unfold bareL
          rw [List.all_eq_false]
          exact ⟨o, List.mem_of_getElem? ho, by simp [ht]⟩
        have e : (o.ty != 2) = true := by simp [ht]
        clear HA ho HB
        subst hf
        generalize o.ty = ty at *
        go_wp2
        go_ret
        exact ⟨rfl, rfl⟩
    · have hin : i = n := by omega
      have hf : R = true := by
        rw [HB.out]
        have h := HA.out
        rw [hin, HR.out.2.2, List.take_length] at h
        exact h
      have hlt' : ¬ (i : Int) < (n : Int) := by omega
      clear HA HB
      subst hf
      go_wp2
      go_ret
      exact ⟨rfl, rfl⟩
set_option maxRecDepth 100000 in
theorem priced_any {w : World} {l : List Od} {a : Option Addr} {c : Nat} (hr : RowAt w 42 15 (.slice a l.length c) l.length (flatL (fun o => o.cs.toList) l)) (hok : ∀ o ∈ l, o.ok) (hl : l.length ≤ 9223372036854775807) (p : Int) :
    Calls Try.prog 13 #[.slice a l.length c, .int .i64 p] w fun e w' => e = .returned (.bool (pricedL p l)) ∧ w' = w := by
  obtain ⟨n, hn⟩ : ∃ n, n = l.length := ⟨_, rfl⟩
  have HR : Hid (RowAt w 42 15 (.slice a n c) n (flatL (fun o => o.cs.toList) l) ∧ (∀ o ∈ l, o.ok) ∧ n = l.length) := ⟨by rw [hn]; exact hr, hok, hn⟩
  obtain ⟨R, hR⟩ : ∃ R, R = pricedL p l := ⟨_, rfl⟩
  have HB : Hid (R = pricedL p l) := hR
  rw [← hn] at hl ⊢
  rw [← hR]
  clear hr hok hn hR
  go_enter Try.func13, Try.ntmps13
  go_upto_region 2 with fail
  go_loopw [5] (fun x5 wr => ∃ i : Nat, i ≤ n ∧ x5 = .int .i64 (i : Int) ∧ wr = w ∧ Hid ((l.take i).any (fun o => decide (o.ty ≠ 2 ∧ o.pr = p)) = false)) (fun x5 _ => n - (RowKit.intOf x5).toNat)
  case atStart => exact ⟨0, Nat.zero_le _, rfl, rfl, rfl⟩
  case round =>
    obtain ⟨i, hi, rfl, hw, HA⟩ := hrel
    subst hw
    by_cases hlt : i < n
    · have hlt' : (i : Int) < (n : Int) := by omega
      obtain ⟨o, ho⟩ : ∃ o, l[i]? = some o := ⟨_, List.getElem?_eq_getElem (by rw [← HR.out.2.2]; exact hlt)⟩
      obtain ⟨g, of, c', cur, ea, _⟩ := HR.out.1.more (by omega)
      injection ea with ea1 _ ea2
      subst ea1 ea2
      have q5 := od_cell HR.out.1 HR.out.2.1 ho (j := 5) (by decide) (HR.out.2.1 o (List.mem_of_getElem? ho)).c5
      have q7 := od_cell HR.out.1 HR.out.2.1 ho (j := 7) (by decide) (HR.out.2.1 o (List.mem_of_getElem? ho)).c7
      by_cases ht : o.ty = 2
      · have HA2 : Hid ((l.take (i + 1)).any (fun o => decide (o.ty ≠ 2 ∧ o.pr = p)) = false) := any_take ho HA.out (by simp [ht])
        have e : (o.ty != 2) = false := by simp [ht]
        clear HA ho
        generalize o.ty = ty at *
        generalize o.pr = pr at *
        go_wp2
        exact ⟨⟨i + 1, by omega, by go_num, by first | rfl | trivial, HA2.out⟩, by simp [RowKit.intOf]; omega⟩
      · have e : (o.ty != 2) = true := by simp [ht]
        by_cases hp : o.pr = p
        · have hf : R = true := by
            rw [HB.out]
            unfold pricedL
            rw [List.any_eq_true]
            exact ⟨o, List.mem_of_getElem? ho, by simp [ht, hp]⟩
          have e2 : (o.pr == p) = true := by simp [hp]
          clear HA ho HB
          subst hf
          generalize o.ty = ty at *
          generalize o.pr = pr at *
          go_wp2
          go_ret
          exact ⟨rfl, rfl⟩
        · have HA2 : Hid ((l.take (i + 1)).any (fun o => decide (o.ty ≠ 2 ∧ o.pr = p)) = false) := any_take ho HA.out (by simp [hp])
          have e2 : (o.pr == p) = false := by simp [hp]
          clear HA ho
          generalize o.ty = ty at *
          generalize o.pr = pr at *
          go_wp2
          exact ⟨⟨i + 1, by omega, by go_num, by first | rfl | trivial, HA2.out⟩, by simp [RowKit.intOf]; omega⟩
    · have hin : i = n := by omega
      have hf : R = false := by
        rw [HB.out]
        have h := HA.out
        rw [hin, HR.out.2.2, List.take_length] at h
        exact h
      have hlt' : ¬ (i : Int) < (n : Int) := by omega
      clear HA HB
      subst hf
      go_wp2
      go_ret
      exact ⟨rfl, rfl⟩
end Go.Proofs.Ytbhddfcdnpidkaa

namespace Go.Proofs.Ytbhddfcdnpidkaa
set_option linter.unusedVariables false
open Go.RowKit Go.Great

structure Gd (o : Od) : Prop where
  qt : 1 ≤ o.qt ∧ o.qt ≤ 50
  pr : 0 ≤ o.pr ∧ o.pr < 30
  ty : o.ty = 2 ↔ o.pr = 0
theorem odR_gd (id : Int) (r : Rw) : Gd (odR id r) := by
  have h1 := pk_bd r.x (n := 30) (by omega)
  have h2 := pk_bd r.y (n := 50) (by omega)
  refine ⟨?_, h1, ?_⟩
  · show 1 ≤ 1 + pk r.y 50 ∧ 1 + pk r.y 50 ≤ 50
    omega
  · show (if pk r.x 30 = 0 then (2 : Int) else 1) = 2 ↔ pk r.x 30 = 0
    split <;> simp_all
theorem odsL_gd : ∀ (l : List Rw) (f : Int), ∀ o ∈ odsL f l, Gd o
  | [], _, o, h => by simp [odsL] at h
  | r :: l, f, o, h => by
    rcases List.mem_cons.1 h with rfl | h
    · exact odR_gd _ _
    · exact odsL_gd l _ o h
theorem wns_of {l : List Od} {o : Od} (ho : o ∈ l) (hg : Gd o) (ht : o.ty ≠ 2) : ∃ v ∈ wns l, v.m = false ∧ v.p = o.pr := by
  refine ⟨⟨o.id, false, o.pr, o.qt⟩, List.mem_filterMap.2 ⟨o, ho, ?_⟩, rfl, rfl⟩
  have h1 := hg.qt
  have h2 := hg.pr
  have h3 : o.pr ≠ 0 := fun e => ht (hg.ty.2 e)
  unfold wnO
  rw [if_neg (by omega), if_neg ht, if_pos (by omega)]
theorem bare_not {l : List Od} (hg : ∀ o ∈ l, Gd o) (h : bareL l = false) : ∃ v ∈ wns l, v.m = false := by
  obtain ⟨o, ho, h2⟩ := List.all_eq_false.1 h
  obtain ⟨v, hv, hm, _⟩ := wns_of ho (hg o ho) (by simpa using h2)
  exact ⟨v, hv, hm⟩
theorem priced_in {l : List Od} (hg : ∀ o ∈ l, Gd o) {p : Int} (h : pricedL p l = true) : ∃ v ∈ wns l, v.m = false ∧ v.p = p := by
  obtain ⟨o, ho, h2⟩ := List.any_eq_true.1 h
  obtain ⟨h3, rfl⟩ := of_decide_eq_true h2
  exact wns_of ho (hg o ho) h3
structure Ans (b s : List Od) (ref : Int) (r : Rs) : Prop where
  no : ∀ p, r.qty < tr (wns b) (wns s) p → ref = 0 ∧ bareL b = true ∧ bareL s = true
  over : ∀ p, 1 ≤ p → tr (wns b) (wns s) p = r.qty → 0 < tr (wns b) (wns s) p → bo (wns b) p + so (wns s) p - 2 * tr (wns b) (wns s) p < r.over → p ≠ ref ∧ pricedL p b = false ∧ pricedL p s = false
  at' : r.price ≠ 0 → tr (wns b) (wns s) r.price = r.qty ∧ bo (wns b) r.price + so (wns s) r.price - 2 * tr (wns b) (wns s) r.price = r.over ∧ (r.side = 1 ↔ so (wns s) r.price < bo (wns b) r.price) ∧ (r.side = 2 ↔ bo (wns b) r.price < so (wns s) r.price)
  iff : 0 < r.qty ↔ 0 < r.price
theorem wns_q0 {l : List Od} : ∀ v ∈ wns l, 0 ≤ v.q := fun v hv => by
  have := wns_q v hv
  omega
theorem ans_of {b s : List Od} {B S : List Wn} {ref : Int} (hb : ∀ o ∈ b, Gd o) (hs : ∀ o ∈ s, Gd o) (h : Rws b s B S) (hr : 0 ≤ ref ∧ ref < 40) : Ans b s ref (resOf (refN ref) (ptsOf B S (cndL (gat (refN ref) B S 2)))) := by
  have hc := h.cnd (refN ref)
  have e0 : refN ref = ref := by unfold refN; split <;> omega
  rw [e0] at hc ⊢
  have eb : ∀ p, bo B p = bo (wns b) p := fun p => sumW_perm h.pb
  have es : ∀ p, so S p = so (wns s) p := fun p => sumW_perm h.ps
  have et : ∀ p, tr B S p = tr (wns b) (wns s) p := fun p => by unfold tr; rw [eb, es]
  have q1 : ∀ v ∈ B, 0 ≤ v.q := fun v hv => wns_q0 v (h.pb.mem_iff.1 hv)
  have q2 : ∀ v ∈ S, 0 ≤ v.q := fun v hv => wns_q0 v (h.ps.mem_iff.1 hv)
  have inB : ∀ p, (∃ v ∈ wns b, v.m = false ∧ v.p = p) → p ∈ cndL (gat ref B S 2) := fun p ⟨v, hv, hm, e⟩ => (hc.mem p).2 (.inr (.inl ⟨v, h.pb.mem_iff.2 hv, hm, e⟩))
  have inS : ∀ p, (∃ v ∈ wns s, v.m = false ∧ v.p = p) → p ∈ cndL (gat ref B S 2) := fun p ⟨v, hv, hm, e⟩ => (hc.mem p).2 (.inr (.inr ⟨v, h.ps.mem_iff.2 hv, hm, e⟩))
  generalize cndL (gat ref B S 2) = C at *
  refine ⟨fun p hp => ?_, fun p hp ht h0 ho => ?_, fun h0 => ?_, ?_⟩
  · have hC : C = [] := Classical.byContradiction fun hC => by
      have := most_no hc q1 q2 hC p
      rw [et] at this
      omega
    have hn : ∀ c, c ∉ C := fun c => by rw [hC]; simp
    refine ⟨Classical.byContradiction fun e => hn ref ((hc.mem ref).2 (.inl ⟨rfl, e⟩)), ?_, ?_⟩
    · cases e : bareL b with
      | true => rfl
      | false => obtain ⟨v, hv, hm⟩ := bare_not hb e; exact absurd (inB _ ⟨v, hv, hm, rfl⟩) (hn _)
    · cases e : bareL s with
      | true => rfl
      | false => obtain ⟨v, hv, hm⟩ := bare_not hs e; exact absurd (inS _ ⟨v, hv, hm, rfl⟩) (hn _)
  · have hn : p ∉ C := fun hin => by
      have := most_over hc hin (by rw [et]; exact ht) (by rw [et]; exact h0)
      rw [eb, es, et] at this
      omega
    refine ⟨fun e => hn ((hc.mem p).2 (.inl ⟨e, by omega⟩)), ?_, ?_⟩
    · cases e : pricedL p b with
      | false => rfl
      | true => exact absurd (inB _ (priced_in hb e)) hn
    · cases e : pricedL p s with
      | false => rfl
      | true => exact absurd (inS _ (priced_in hs e)) hn
  · have := most_at hc h0
    obtain ⟨_, _, h3, h4, h5, h6⟩ := this
    rw [et] at h3
    rw [eb, es, et] at h4
    rw [eb, es] at h5 h6
    exact ⟨h3, h4, h5, h6⟩
  · refine most_iff hc fun c hcm => ?_
    rcases (hc.mem c).1 hcm with ⟨e, e2⟩ | ⟨v, hv, hm, e⟩ | ⟨v, hv, hm, e⟩
    · omega
    · rcases wns_p v (h.pb.mem_iff.1 hv) with ⟨e3, _⟩ | ⟨_, e3, _⟩
      · rw [e3] at hm; cases hm
      · omega
    · rcases wns_p v (h.ps.mem_iff.1 hv) with ⟨e3, _⟩ | ⟨_, e3, _⟩
      · rw [e3] at hm; cases hm
      · omega
end Go.Proofs.Ytbhddfcdnpidkaa

namespace Go.Proofs.Ytbhddfcdnpidkaa
set_option linter.unusedVariables false
set_option linter.unusedSimpArgs false

/-- What the one of number i gets of the fills, as the one who buys, or as the one who sells. -/
def gotF (buy : Bool) (i : Int) : List Fl → Int
  | [] => 0
  | f :: l => (if (if buy = true then f.b else f.s) = i then f.q else 0) + gotF buy i l
def totF : List Fl → Int
  | [] => 0
  | f :: l => f.q + totF l
/-- What the one of number i gets of a row to whom T is given in all. -/
def clW (i : Int) : Int → List Wn → Int
  | _, [] => 0
  | T, v :: l => (if v.id = i then mn2 T v.q else 0) + clW i (T - mn2 T v.q) l
def smW : List Wn → Int
  | [] => 0
  | v :: l => v.q + smW l
theorem mn2_le1 (a b : Int) : mn2 a b ≤ a := by unfold mn2; split <;> omega
theorem mn2_le2 (a b : Int) : mn2 a b ≤ b := by unfold mn2; split <;> omega
theorem mn2_or (a b : Int) : mn2 a b = a ∨ mn2 a b = b := by unfold mn2; split <;> simp
theorem smW_nn : ∀ {l : List Wn}, okQ l → 0 ≤ smW l
  | [], _ => by simp [smW]
  | v :: l, h => by
    have := smW_nn (l := l) fun x hx => h x (List.mem_cons_of_mem _ hx)
    have := h v List.mem_cons_self
    simp only [smW]
    omega
theorem clW_zero (i : Int) : ∀ {l : List Wn}, okQ l → clW i 0 l = 0
  | [], _ => rfl
  | v :: l, h => by
    have h1 := h v List.mem_cons_self
    have e : mn2 0 v.q = 0 := by unfold mn2; rw [if_pos (by omega)]
    have := clW_zero i (l := l) fun x hx => h x (List.mem_cons_of_mem _ hx)
    simp only [clW, e, Int.sub_zero, this]
    split <;> rfl
theorem clW_less (i : Int) {T q : Int} {v : Wn} {l : List Wn} (h1 : 1 ≤ q) (hT : q ≤ T) (hq : q ≤ v.q) : clW i T (v :: l) = (if v.id = i then q else 0) + clW i (T - q) (lessL q (v :: l)) := by
  rw [lessL_eq]
  have a1 := mn2_le1 T v.q
  have a2 := mn2_le2 T v.q
  have a3 := mn2_or T v.q
  by_cases e : v.q - q = 0
  · rw [if_pos e]
    have : mn2 T v.q = q := by unfold mn2 at *; split at * <;> omega
    simp only [clW, this]
  · rw [if_neg e]
    have : mn2 (T - q) (v.q - q) = mn2 T v.q - q := by
      by_cases h : T ≤ v.q
      · unfold mn2; rw [if_pos h, if_pos (by omega)]
      · unfold mn2; rw [if_neg h, if_neg (by omega)]
    simp only [clW, this]
    rw [show T - q - (mn2 T v.q - q) = T - mn2 T v.q by omega]
    split <;> omega
theorem smW_less {q : Int} {v : Wn} {l : List Wn} : smW (lessL q (v :: l)) = smW (v :: l) - q := by
  rw [lessL_eq]
  split
  · simp only [smW]; omega
  · simp only [smW]; omega
/-- All that the filling gives. -/
theorem fills_got (p i : Int) : ∀ (k : Nat) {left : Int} {B S : List Wn}, okQ B → okQ S → 0 ≤ left → (left = 0 ∨ B.length + S.length ≤ k) →
    gotF true i (fillsF p k left B S) = clW i (mn2 left (mn2 (smW B) (smW S))) B ∧ gotF false i (fillsF p k left B S) = clW i (mn2 left (mn2 (smW B) (smW S))) S ∧ totF (fillsF p k left B S) = mn2 left (mn2 (smW B) (smW S)) ∧ ∀ f ∈ fillsF p k left B S, 1 ≤ f.q ∧ f.q ≤ 1000000 ∧ f.p = p := by
  intro k
  induction k with
  | zero =>
    intro left B S hB hS h0 hk
    have n1 := smW_nn hB
    have n2 := smW_nn hS
    have e : mn2 left (mn2 (smW B) (smW S)) = 0 := by
      rcases hk with hk | hk
      · unfold mn2; split <;> split at * <;> omega
      · have : B = [] := List.eq_nil_of_length_eq_zero (by omega)
        subst this
        simp only [smW] at *
        unfold mn2; split <;> split at * <;> omega
    rw [e, clW_zero i hB, clW_zero i hS]
    exact ⟨rfl, rfl, rfl, fun f hf => by simp [fillsF] at hf⟩
  | succ k ih =>
    intro left B S hB hS h0 hk
    have n1 := smW_nn hB
    have n2 := smW_nn hS
    by_cases hg : 0 < left ∧ B ≠ [] ∧ S ≠ []
    · obtain ⟨hl, hb, hs⟩ := hg
      obtain ⟨b, B, rfl⟩ := List.exists_cons_of_ne_nil hb
      obtain ⟨s, S, rfl⟩ := List.exists_cons_of_ne_nil hs
      have qb := hB b List.mem_cons_self
      have qs := hS s List.mem_cons_self
      obtain ⟨m1, m2, m3, m4, m5⟩ := mnF_bd hl qb.1 qs.1
      have l1 := lessL_len (q := mnF left b s) (v := b) (l := B)
      have l2 := lessL_len (q := mnF left b s) (v := s) (l := S)
      have nB := smW_nn (l := B) fun x hx => hB x (List.mem_cons_of_mem _ hx)
      have nS := smW_nn (l := S) fun x hx => hS x (List.mem_cons_of_mem _ hx)
      have hk' : (b :: B).length + (s :: S).length ≤ k + 1 := hk.resolve_left (by omega)
      simp only [List.length_cons] at hk'
      have ih' := ih (left := left - mnF left b s) (lessL_ok hB m1 m3) (lessL_ok hS m1 m4) (by omega) (by
        rcases m5 with m5 | m5 | m5
        · exact .inl (by omega)
        · have := l1.2 m5
          exact .inr (by omega)
        · have := l2.2 m5
          exact .inr (by omega))
      have eF : fillsF p (k + 1) left (b :: B) (s :: S) = ⟨b.id, s.id, p, mnF left b s⟩ :: fillsF p k (left - mnF left b s) (lessL (mnF left b s) (b :: B)) (lessL (mnF left b s) (s :: S)) := by
        show (if 0 < left then _ else _) = _
        rw [if_pos hl]
      rw [eF]
      rw [smW_less, smW_less] at ih'
      have hq1 : mnF left b s ≤ smW (b :: B) := by simp only [smW]; omega
      have hq2 : mnF left b s ≤ smW (s :: S) := by simp only [smW]; omega
      generalize mnF left b s = q at *
      generalize fillsF p k (left - q) (lessL q (b :: B)) (lessL q (s :: S)) = F at *
      have eT : mn2 (left - q) (mn2 (smW (b :: B) - q) (smW (s :: S) - q)) = mn2 left (mn2 (smW (b :: B)) (smW (s :: S))) - q := by
        generalize smW (b :: B) = x
        generalize smW (s :: S) = y
        unfold mn2
        split <;> split <;> split <;> split <;> omega
      have hT : q ≤ mn2 left (mn2 (smW (b :: B)) (smW (s :: S))) := by
        generalize smW (b :: B) = x at *
        generalize smW (s :: S) = y at *
        unfold mn2
        split <;> split <;> omega
      rw [eT] at ih'
      obtain ⟨i1, i2, i3, i4⟩ := ih'
      generalize mn2 left (mn2 (smW (b :: B)) (smW (s :: S))) = T at *
      refine ⟨?_, ?_, ?_, ?_⟩
      · rw [clW_less i m1 hT m3, ← i1]; rfl
      · rw [clW_less i m1 hT m4, ← i2]; rfl
      · simp only [totF, i3]; omega
      · intro f hf
        rcases List.mem_cons.1 hf with rfl | hf
        · exact ⟨m1, by show q ≤ 1000000; omega, rfl⟩
        · exact i4 f hf
    · rw [fillsF_none p _ _ _ _ hg]
      have e : mn2 left (mn2 (smW B) (smW S)) = 0 := by
        have hd : left = 0 ∨ smW B = 0 ∨ smW S = 0 := by
          by_cases h1 : 0 < left
          · by_cases h2 : B = []
            · exact .inr (.inl (by rw [h2]; rfl))
            · by_cases h3 : S = []
              · exact .inr (.inr (by rw [h3]; rfl))
              · exact absurd ⟨h1, h2, h3⟩ hg
          · exact .inl (by omega)
        generalize smW B = x at *
        generalize smW S = y at *
        unfold mn2
        split <;> split at * <;> omega
      rw [e, clW_zero i hB, clW_zero i hS]
      exact ⟨rfl, rfl, rfl, fun f hf => by simp at hf⟩
theorem clW_non {i : Int} : ∀ {l : List Wn} {T : Int}, (∀ v ∈ l, v.id ≠ i) → clW i T l = 0
  | [], _, _ => rfl
  | v :: l, T, h => by
    simp only [clW, if_neg (h v List.mem_cons_self), clW_non (l := l) fun x hx => h x (List.mem_cons_of_mem _ hx)]
    rfl
theorem clW_bd {l : List Wn} (h : okQ l) (hn : (l.map (·.id)).Nodup) : ∀ {T : Int} {v : Wn}, 0 ≤ T → v ∈ l → 0 ≤ clW v.id T l ∧ clW v.id T l ≤ v.q := by
  induction l with
  | nil => intro T v _ hv; simp at hv
  | cons w l ih =>
    intro T v h0 hv
    have hq := h w List.mem_cons_self
    have hl : okQ l := fun x hx => h x (List.mem_cons_of_mem _ hx)
    simp only [List.map_cons, List.nodup_cons] at hn
    have a1 := mn2_le1 T w.q
    have a2 := mn2_le2 T w.q
    have a3 := mn2_or T w.q
    rcases List.mem_cons.1 hv with rfl | hv
    · have : clW v.id (T - mn2 T v.q) l = 0 := clW_non fun x hx e => hn.1 (List.mem_map.2 ⟨x, hx, e⟩)
      simp only [clW, if_true, this]
      omega
    · have hne : ¬ w.id = v.id := fun e => hn.1 (List.mem_map.2 ⟨v, hv, e.symm⟩)
      have := ih hl hn.2 (T := T - mn2 T w.q) (v := v) (by omega) hv
      simp only [clW, if_neg hne]
      omega
/-- Nobody who gets something stands behind one of whom something is left. -/
theorem clW_fair {R : Wn → Wn → Prop} {l : List Wn} (h : okQ l) (hn : (l.map (·.id)).Nodup) (hR : l.Pairwise R) : ∀ {T : Int} {u v : Wn}, 0 ≤ T → u ∈ l → v ∈ l → 0 < clW u.id T l → clW v.id T l < v.q → u = v ∨ R u v := by
  induction l with
  | nil => intro T u v _ hu; simp at hu
  | cons w l ih =>
    intro T u v h0 hu hv hgu hgv
    have hq := h w List.mem_cons_self
    have hl : okQ l := fun x hx => h x (List.mem_cons_of_mem _ hx)
    simp only [List.map_cons, List.nodup_cons] at hn
    rw [List.pairwise_cons] at hR
    have a1 := mn2_le1 T w.q
    have a3 := mn2_or T w.q
    rcases List.mem_cons.1 hu with rfl | hu
    · rcases List.mem_cons.1 hv with rfl | hv
      · exact .inl rfl
      · exact .inr (hR.1 v hv)
    · have hne : ¬ w.id = u.id := fun e => hn.1 (List.mem_map.2 ⟨u, hu, e.symm⟩)
      simp only [clW, if_neg hne] at hgu
      have hT : T - mn2 T w.q ≠ 0 := fun e => by rw [e, clW_zero _ hl] at hgu; omega
      have hm : mn2 T w.q = w.q := a3.resolve_left (by omega)
      rcases List.mem_cons.1 hv with rfl | hv
      · exfalso
        have : clW v.id (T - mn2 T v.q) l = 0 := clW_non fun x hx e => hn.1 (List.mem_map.2 ⟨x, hx, e⟩)
        rw [hm] at this
        simp only [clW, if_true, hm, this] at hgv
        omega
      · have hne' : ¬ w.id = v.id := fun e => hn.1 (List.mem_map.2 ⟨v, hv, e.symm⟩)
        simp only [clW, if_neg hne'] at hgv
        exact ih hl hn.2 hR.2 (T := T - mn2 T w.q) (by omega) hu hv (by omega) (by omega)
theorem tw_mem {R : Wn → Wn → Prop} {A : Wn → Bool} (hA : ∀ a b, R a b → A b = true → A a = true) : ∀ {l : List Wn}, l.Pairwise R → ∀ {v : Wn}, v ∈ l.takeWhile A ↔ v ∈ l ∧ A v = true
  | [], _, v => by simp
  | w :: l, h, v => by
    rw [List.pairwise_cons] at h
    cases e : A w with
    | true =>
      simp only [List.takeWhile, e, List.mem_cons, tw_mem hA h.2]
      constructor
      · rintro (rfl | ⟨h1, h2⟩)
        · exact ⟨.inl rfl, e⟩
        · exact ⟨.inr h1, h2⟩
      · rintro ⟨rfl | h1, h2⟩
        · exact .inl rfl
        · exact .inr ⟨h1, h2⟩
    | false =>
      simp only [List.takeWhile, e, List.not_mem_nil, false_iff, List.mem_cons]
      rintro ⟨rfl | h1, h2⟩
      · rw [e] at h2; cases h2
      · rw [hA w v (h.1 v h1) h2] at e; cases e
theorem tw_sum {R : Wn → Wn → Prop} {A : Wn → Bool} (hA : ∀ a b, R a b → A b = true → A a = true) : ∀ {l : List Wn}, l.Pairwise R → smW (l.takeWhile A) = sumW A l
  | [], _ => rfl
  | w :: l, h => by
    rw [List.pairwise_cons] at h
    cases e : A w with
    | true => simp only [List.takeWhile, e, smW, sumW, if_true, tw_sum hA h.2]
    | false =>
      have hz : ∀ {m : List Wn}, (∀ v ∈ m, A v = false) → sumW A m = 0 := fun {m} => by
        induction m with
        | nil => intro _; rfl
        | cons x m ih =>
          intro hm
          simp only [sumW, hm x List.mem_cons_self, ih fun v hv => hm v (List.mem_cons_of_mem _ hv)]
          simp
      have := hz (m := l) fun v hv => by
        cases e2 : A v with
        | false => rfl
        | true => rw [hA w v (h.1 v hv) e2] at e; cases e
      simp only [List.takeWhile, e, smW, sumW, this]
      simp
/-! ### What the law asks. -/
def wG (o : Od) : Wn := ⟨o.id, decide (o.ty = 2), o.pr, o.qt⟩
theorem wnO_G {o : Od} (h : Gd o) : wnO o = some (wG o) := by
  have h1 := h.qt
  have h2 := h.pr
  unfold wnO wG
  rw [if_neg (by omega)]
  by_cases e : o.ty = 2
  · rw [if_pos e, h.ty.1 e, decide_eq_true e]
  · have : o.pr ≠ 0 := fun k => e (h.ty.2 k)
    rw [if_neg e, if_pos (by omega), decide_eq_false e]
theorem wns_map : ∀ {l : List Od}, (∀ o ∈ l, Gd o) → wns l = l.map wG
  | [], _ => rfl
  | o :: l, h => by
    have := wns_map (l := l) fun x hx => h x (List.mem_cons_of_mem _ hx)
    unfold wns at *
    rw [List.filterMap_cons, wnO_G (h o List.mem_cons_self), this, List.map_cons]
theorem gd_q {l : List Od} (h : ∀ o ∈ l, Gd o) : okQ (l.map wG) := fun v hv => by
  obtain ⟨o, ho, rfl⟩ := List.mem_map.1 hv
  have := (h o ho).qt
  show 1 ≤ o.qt ∧ o.qt ≤ 1000000
  omega
def betR (buy : Bool) (a b : Od) : Bool := if a.ty = 2 ∨ b.ty = 2 then decide (a.ty = 2 ∧ (b.ty ≠ 2 ∨ a.id < b.id)) else if a.pr ≠ b.pr then (decide (b.pr < a.pr) == buy) else decide (a.id < b.id)
def suitF (buy : Bool) (p : Int) (o : Od) : Bool := decide (o.ty = 2) || (if buy = true then decide (p ≤ o.pr) else decide (o.pr ≤ p))
structure FairP (buy : Bool) (p : Int) (l : List Od) (F : List Fl) : Prop where
  le : ∀ o ∈ l, gotF buy o.id F ≤ o.qt
  suit : ∀ o ∈ l, 0 < gotF buy o.id F → suitF buy p o = true
  first : ∀ o ∈ l, ∀ o' ∈ l, gotF buy o.id F ≠ o.qt → suitF buy p o = true → betR buy o o' = true → ¬ 0 < gotF buy o'.id F
theorem FairP.nil (buy : Bool) (p : Int) {l : List Od} (h : ∀ o ∈ l, Gd o) : FairP buy p l [] := ⟨fun o ho => by have := (h o ho).qt; show 0 ≤ o.qt; omega, fun o ho h => absurd h (Int.lt_irrefl 0), fun o _ o' _ _ _ _ h => absurd h (Int.lt_irrefl 0)⟩
theorem bet_B {a b : Od} (ha : Gd a) (hb : Gd b) (h : betR true a b = true) : ¬ leB (wG b) (wG a) := by
  have p1 := ha.ty
  have p2 := hb.ty
  unfold betR at h
  unfold leB wG
  simp only [decide_eq_true_eq, decide_eq_false_iff_not, decide_eq_decide]
  by_cases e : a.ty = 2 ∨ b.ty = 2
  · rw [if_pos e] at h
    have h := of_decide_eq_true h
    omega
  · rw [if_neg e] at h
    by_cases e2 : a.pr ≠ b.pr
    · rw [if_pos e2] at h
      have h : b.pr < a.pr := by simpa using h
      omega
    · rw [if_neg e2] at h
      have h := of_decide_eq_true h
      omega
theorem bet_S {a b : Od} (ha : Gd a) (hb : Gd b) (h : betR false a b = true) : ¬ leS (wG b) (wG a) := by
  have p1 := ha.ty
  have p2 := hb.ty
  unfold betR at h
  unfold leS wG
  simp only [decide_eq_true_eq, decide_eq_false_iff_not, decide_eq_decide]
  by_cases e : a.ty = 2 ∨ b.ty = 2
  · rw [if_pos e] at h
    have h := of_decide_eq_true h
    omega
  · rw [if_neg e] at h
    by_cases e2 : a.pr ≠ b.pr
    · rw [if_pos e2] at h
      have h : ¬ b.pr < a.pr := by simpa using h
      omega
    · rw [if_neg e2] at h
      have h := of_decide_eq_true h
      omega
/-- One side. -/
theorem fair_side {buy : Bool} {p : Int} {R : Wn → Wn → Prop} {A : Wn → Bool} {l : List Od} {B : List Wn} {F : List Fl} {T : Int} (hg : ∀ o ∈ l, Gd o) (hn : (l.map (·.id)).Nodup) (hp : B.Perm (l.map wG)) (hs : B.Pairwise R) (hA : ∀ a b, R a b → A b = true → A a = true) (hsu : ∀ o, suitF buy p o = A (wG o)) (hbe : ∀ a ∈ l, ∀ b ∈ l, betR buy a b = true → ¬ R (wG b) (wG a)) (hre : ∀ v, R v v) (h0 : 0 ≤ T) (hF : ∀ i, gotF buy i F = clW i T (B.takeWhile A)) : FairP buy p l F := by
  have hq : okQ (B.takeWhile A) := fun v hv => gd_q hg v (hp.mem_iff.1 (List.takeWhile_prefix A |>.subset hv))
  have hnB : (B.map (·.id)).Nodup := by
    refine (hp.map _).nodup_iff.2 ?_
    rw [List.map_map]
    exact hn
  have hnd : ((B.takeWhile A).map (·.id)).Nodup := hnB.sublist ((List.takeWhile_prefix A).sublist.map _)
  have hsr : (B.takeWhile A).Pairwise R := hs.sublist (List.takeWhile_prefix A).sublist
  have hin : ∀ o ∈ l, wG o ∈ B := fun o ho => hp.mem_iff.2 (List.mem_map.2 ⟨o, ho, rfl⟩)
  have same : ∀ o ∈ l, ∀ v ∈ B, v.id = o.id → v = wG o := fun o ho v hv e => by
    have inj : ∀ {m : List Wn}, (m.map (·.id)).Nodup → ∀ x ∈ m, ∀ y ∈ m, x.id = y.id → x = y := fun {m} => by
      induction m with
      | nil => intro _ x hx; simp at hx
      | cons z m ih =>
        intro hn x hx y hy e
        simp only [List.map_cons, List.nodup_cons] at hn
        rcases List.mem_cons.1 hx with rfl | hx <;> rcases List.mem_cons.1 hy with rfl | hy
        · rfl
        · exact absurd (List.mem_map.2 ⟨y, by assumption, e.symm⟩ : _ ∈ List.map (fun v : Wn => v.id) _) hn.1
        · exact absurd (List.mem_map.2 ⟨x, by assumption, e⟩ : _ ∈ List.map (fun v : Wn => v.id) _) hn.1
        · exact ih hn.2 x hx y hy e
    exact inj hnB v hv (wG o) (hin o ho) e
  have pos : ∀ o ∈ l, 0 < gotF buy o.id F → wG o ∈ B.takeWhile A := fun o ho hgt => by
    by_cases hex : ∃ v ∈ B.takeWhile A, v.id = o.id
    · obtain ⟨v, hv, e⟩ := hex
      rw [← same o ho v (List.takeWhile_prefix A |>.subset hv) e]
      exact hv
    · rw [hF, clW_non fun v hv e => hex ⟨v, hv, e⟩] at hgt
      omega
  refine ⟨fun o ho => ?_, fun o ho hgt => ?_, fun o ho o' ho' hne hsu' hbt hgt => ?_⟩
  · by_cases hgt : 0 < gotF buy o.id F
    · have := (clW_bd hq hnd h0 (pos o ho hgt)).2
      rw [hF]
      exact this
    · have := (hg o ho).qt
      omega
  · rw [hsu]
    exact ((tw_mem hA hs).1 (pos o ho hgt)).2
  · have m' := pos o' ho' hgt
    have m : wG o ∈ B.takeWhile A := (tw_mem hA hs).2 ⟨hin o ho, by rw [← hsu]; exact hsu'⟩
    have hle := (clW_bd hq hnd h0 m).2
    rw [hF] at hgt hne
    have hlt : clW (wG o).id T (B.takeWhile A) < (wG o).q := by
      have hne' : clW (wG o).id T (B.takeWhile A) ≠ (wG o).q := hne
      omega
    rcases clW_fair hq hnd hsr h0 m' m hgt hlt with e | e
    · exact hbe o ho o' ho' hbt (e ▸ hre _)
    · exact hbe o ho o' ho' hbt e
theorem leB_re (v : Wn) : leB v v := .inr ⟨rfl, .inr ⟨rfl, Int.le_refl _⟩⟩
theorem leS_re (v : Wn) : leS v v := .inr ⟨rfl, .inr ⟨rfl, Int.le_refl _⟩⟩
/-- All that the law asks of the fills of its own result. -/
structure FairA (b s : List Od) (r : Rs) (F : List Fl) : Prop where
  one : FairP true r.price b F
  two : FairP false r.price s F
  tot : totF F = r.qty
  each : ∀ f ∈ F, 1 ≤ f.q ∧ f.q ≤ 1000000 ∧ f.p = r.price
theorem fair_of {b s : List Od} {r : Rs} {F : List Fl} {ref : Int} (hb : ∀ o ∈ b, Gd o) (hs : ∀ o ∈ s, Gd o) (nb : (b.map (·.id)).Nodup) (ns : (s.map (·.id)).Nodup) (ha : Ans b s ref r) (h0 : 0 ≤ r.qty) (hpr : r.price ≤ 1000000000) (h : FV b s r F) : FairA b s r F := by
  rcases h with ⟨h1, rfl⟩ | ⟨h1, h2, B, S, h3, rfl⟩
  · refine ⟨FairP.nil _ _ hb, FairP.nil _ _ hs, ?_, fun f hf => by simp at hf⟩
    show 0 = r.qty
    have := ha.iff
    omega
  · have eb := wns_map hb
    have es := wns_map hs
    have hpb := h3.pb
    have hps := h3.ps
    rw [eb] at hpb
    rw [es] at hps
    have qB : okQ (B.takeWhile (atB r.price)) := fun v hv => gd_q hb v (hpb.mem_iff.1 (List.takeWhile_prefix _ |>.subset hv))
    have qS : okQ (S.takeWhile (atS r.price)) := fun v hv => gd_q hs v (hps.mem_iff.1 (List.takeWhile_prefix _ |>.subset hv))
    have hAB : ∀ a b, leB a b → atB r.price b = true → atB r.price a = true := fun a b h k => leB_at h k
    have hAS : ∀ a b, leS a b → atS r.price b = true → atS r.price a = true := fun a b h k => leS_at h k
    have sB : smW (B.takeWhile (atB r.price)) = bo (wns b) r.price := (tw_sum hAB h3.sb).trans (sumW_perm h3.pb)
    have sS : smW (S.takeWhile (atS r.price)) = so (wns s) r.price := (tw_sum hAS h3.ss).trans (sumW_perm h3.ps)
    have key := fun i => fills_got r.price i ((B.takeWhile (atB r.price)).length + (S.takeWhile (atS r.price)).length) qB qS h0 (.inr (Nat.le_refl _))
    have htr := (ha.at' (by omega)).1
    have eT : mn2 r.qty (mn2 (smW (B.takeWhile (atB r.price))) (smW (S.takeWhile (atS r.price)))) = r.qty := by
      rw [sB, sS, ← htr]
      unfold tr mn2
      split <;> split <;> omega
    rw [eT] at key
    refine ⟨?_, ?_, (key 0).2.2.1, (key 0).2.2.2⟩
    · exact fair_side hb nb hpb h3.sb hAB (fun o => rfl) (fun a ha' c hc k => bet_B (hb a ha') (hb c hc) k) leB_re h0 fun i => (key i).1
    · exact fair_side hs ns hps h3.ss hAS (fun o => rfl) (fun a ha' c hc k => bet_S (hs a ha') (hs c hc) k) leS_re h0 fun i => (key i).2.1
/-- Rows in order of alike lists are one row. -/
theorem rows_one {b b' s s' : List Od} {B B' S S' : List Wn} (hb : ∀ o ∈ b, Gd o) (hs : ∀ o ∈ s, Gd o) (nb : (b.map (·.id)).Nodup) (ns : (s.map (·.id)).Nodup) (pb : b'.Perm b) (ps : s'.Perm s) (h : Rws b s B S) (h' : Rws b' s' B' S') : B' = B ∧ S' = S := by
  have inj : ∀ {m : List Wn}, (m.map (·.id)).Nodup → ∀ x ∈ m, ∀ y ∈ m, x.id = y.id → x = y := fun {m} => by
    induction m with
    | nil => intro _ x hx; simp at hx
    | cons z m ih =>
      intro hn x hx y hy e
      simp only [List.map_cons, List.nodup_cons] at hn
      rcases List.mem_cons.1 hx with rfl | hx <;> rcases List.mem_cons.1 hy with rfl | hy
      · rfl
      · exact absurd (List.mem_map.2 ⟨y, by assumption, e.symm⟩ : _ ∈ List.map (fun v : Wn => v.id) _) hn.1
      · exact absurd (List.mem_map.2 ⟨x, by assumption, e⟩ : _ ∈ List.map (fun v : Wn => v.id) _) hn.1
      · exact ih hn.2 x hx y hy e
  have pB : B'.Perm B := (h'.pb.trans (pb.filterMap _)).trans h.pb.symm
  have pS : S'.Perm S := (h'.ps.trans (ps.filterMap _)).trans h.ps.symm
  have nB : (B'.map (·.id)).Nodup := by
    refine ((pB.trans h.pb).map _).nodup_iff.2 ?_
    rw [wns_map hb, List.map_map]
    exact nb
  have nS : (S'.map (·.id)).Nodup := by
    refine ((pS.trans h.ps).map _).nodup_iff.2 ?_
    rw [wns_map hs, List.map_map]
    exact ns
  refine ⟨pB.eq_of_pairwise (le := leB) (fun x y hx hy h1 h2 => ?_) h'.sb h.sb, pS.eq_of_pairwise (le := leS) (fun x y hx hy h1 h2 => ?_) h'.ss h.ss⟩
  · refine inj nB x hx y (pB.mem_iff.2 hy) ?_
    rcases h1 with ⟨k1, k2⟩ | ⟨k1, k2⟩ <;> rcases h2 with ⟨k3, k4⟩ | ⟨k3, k4⟩
    · rw [k1] at k4; cases k4
    · rw [k1, k2] at k3; cases k3
    · rw [k3, k4] at k1; cases k1
    · omega
  · refine inj nS x hx y (pS.mem_iff.2 hy) ?_
    rcases h1 with ⟨k1, k2⟩ | ⟨k1, k2⟩ <;> rcases h2 with ⟨k3, k4⟩ | ⟨k3, k4⟩
    · rw [k1] at k4; cases k4
    · rw [k1, k2] at k3; cases k3
    · rw [k3, k4] at k1; cases k1
    · omega
theorem FV_one {b b' s s' : List Od} {r : Rs} {F F' : List Fl} (hb : ∀ o ∈ b, Gd o) (hs : ∀ o ∈ s, Gd o) (nb : (b.map (·.id)).Nodup) (ns : (s.map (·.id)).Nodup) (pb : b'.Perm b) (ps : s'.Perm s) (h : FV b s r F) (h' : FV b' s' r F') : F' = F := by
  rcases h with ⟨h1, rfl⟩ | ⟨h1, h2, B, S, h3, rfl⟩
  · rcases h' with ⟨_, rfl⟩ | ⟨k1, k2, _⟩
    · rfl
    · exfalso; omega
  · rcases h' with ⟨k1, _⟩ | ⟨k1, k2, B', S', h4, rfl⟩
    · exfalso; omega
    · obtain ⟨rfl, rfl⟩ := rows_one hb hs nb ns pb ps h3 h4
      rfl
theorem odsL_ids : ∀ (l : List Rw) (f : Int), (∀ i ∈ (odsL f l).map (·.id), f ≤ i) ∧ ((odsL f l).map (·.id)).Nodup
  | [], _ => ⟨fun i h => by simp [odsL] at h, by simp [odsL]⟩
  | r :: l, f => by
    obtain ⟨h1, h2⟩ := odsL_ids l (f + 1)
    have e : (odR f r).id = f := rfl
    simp only [odsL, List.map_cons, e, List.nodup_cons]
    refine ⟨fun i hi => ?_, fun hi => ?_, h2⟩
    · rcases List.mem_cons.1 hi with rfl | hi
      · exact Int.le_refl _
      · have := h1 i hi; omega
    · have := h1 f hi
      omega
end Go.Proofs.Ytbhddfcdnpidkaa
