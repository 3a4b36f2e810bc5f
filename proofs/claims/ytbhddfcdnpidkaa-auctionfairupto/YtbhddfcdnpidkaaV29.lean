/-
  auction: the document's first example.
-/
import Derived.Test.YtbhddfcdnpidkaaV28
import Derived.Test.YtbhddfcdnpidkaaV25
namespace Go.Proofs.Ytbhddfcdnpidkaa
set_option linter.unusedVariables false
set_option linter.unusedSimpArgs false
open Go.RowKit Go.Great
attribute [local irreducible] wpList

def odK (id p q : Int) : Od := ⟨odC id 1 p q, id, 1, p, q⟩
theorem odK_ok (id p q : Int) : (odK id p q).ok := ⟨rfl, by simp [odK, odC, Value.oneCell'], rfl, rfl, rfl, rfl⟩
set_option maxRecDepth 100000 in
theorem limit_any (id p q : Int) (w : World) : Calls Try.prog 22 #[.int .i64 id, .int .i64 p, .int .i64 q] w fun e w' => e = .returned (.agg (odC id 1 p q)) ∧ Below w.heap.size w w' := by
  go_enter Try.func22, Try.ntmps22
  go_upto_region 0 with fail
  rename_i K hK
  refine wp_region_lit ?_
  refine wpList_runTo rfl (some 6) rfl (.pointer (some ⟨w.heap.size, 0, none⟩)) (w.alloc (.cells #[.int .i64 0, .string ⟨#[]⟩, .string ⟨#[]⟩, .string ⟨#[]⟩, .int .i64 0, .int .i64 0, .int .i64 0, .int .i64 0, .int .i64 0, .int .i64 0, .int .i64 0, .int .i64 0, .int .i64 0, .int .i64 0, .int .i64 0] 42)) (by kernel_rfl) ?_
  simp only [Act.put, List.setIfInBounds_toArray, List.set_cons_zero, List.set_cons_succ]
  refine wpList_nil ?_
  refine hK _ _ ?_
  clear hK
  have hk : Blk (w.alloc (.cells #[.int .i64 0, .string ⟨#[]⟩, .string ⟨#[]⟩, .string ⟨#[]⟩, .int .i64 0, .int .i64 0, .int .i64 0, .int .i64 0, .int .i64 0, .int .i64 0, .int .i64 0, .int .i64 0, .int .i64 0, .int .i64 0, .int .i64 0] 42)) w.heap.size 42 #[.int .i64 0, .string ⟨#[]⟩, .string ⟨#[]⟩, .string ⟨#[]⟩, .int .i64 0, .int .i64 0, .int .i64 0, .int .i64 0, .int .i64 0, .int .i64 0, .int .i64 0, .int .i64 0, .int .i64 0, .int .i64 0, .int .i64 0] := Blk.new _ _ _
  have hb : Below w.heap.size w (w.alloc (.cells #[.int .i64 0, .string ⟨#[]⟩, .string ⟨#[]⟩, .string ⟨#[]⟩, .int .i64 0, .int .i64 0, .int .i64 0, .int .i64 0, .int .i64 0, .int .i64 0, .int .i64 0, .int .i64 0, .int .i64 0, .int .i64 0, .int .i64 0] 42)) := (Below.refl _ w).alloc (Nat.le_refl _) _
  have HB : Hid (Below w.heap.size w (w.alloc (.cells #[.int .i64 0, .string ⟨#[]⟩, .string ⟨#[]⟩, .string ⟨#[]⟩, .int .i64 0, .int .i64 0, .int .i64 0, .int .i64 0, .int .i64 0, .int .i64 0, .int .i64 0, .int .i64 0, .int .i64 0, .int .i64 0, .int .i64 0] 42)) ∧ w.heap.size ≤ w.heap.size) := ⟨hb, Nat.le_refl _⟩
  clear hb
  generalize w.alloc (.cells #[.int .i64 0, .string ⟨#[]⟩, .string ⟨#[]⟩, .string ⟨#[]⟩, .int .i64 0, .int .i64 0, .int .i64 0, .int .i64 0, .int .i64 0, .int .i64 0, .int .i64 0, .int .i64 0, .int .i64 0, .int .i64 0, .int .i64 0] 42) = w1 at *
  go_upto_region 1 with fail
  rename_i K hK
  refine wp_region_lit ?_
  refine wpList_runTo rfl (some 7) rfl (.int .i64 id) w1 (by kernel_rfl) ?_
  simp only [Act.put, List.setIfInBounds_toArray, List.set_cons_zero, List.set_cons_succ]
  refine wpList_runTo rfl (some 8) rfl (.int .i64 p) w1 (by kernel_rfl) ?_
  simp only [Act.put, List.setIfInBounds_toArray, List.set_cons_zero, List.set_cons_succ]
  refine wpList_runTo rfl (some 9) rfl (.int .i64 q) w1 (by kernel_rfl) ?_
  simp only [Act.put, List.setIfInBounds_toArray, List.set_cons_zero, List.set_cons_succ]
  refine wpList_runTo rfl (some 10) rfl (.agg (odC id 1 p q)) w1 (by kernel_rfl) ?_
  simp only [Act.put, List.setIfInBounds_toArray, List.set_cons_zero, List.set_cons_succ]
  refine wpList_plain rfl fun K1 hK1 => ?_
  refine wp_store_row 42 (.tmp 6) (.tmp 10) rfl w.heap.size (odC id 1 p q) (by kernel_rfl) (by kernel_rfl) 42 _ hk infoO rfl (by simp [odC, Value.oneCell']) ?_
  refine hK1 _ _ ?_
  clear hK1
  refine wpList_nil ?_
  refine hK _ _ ?_
  clear hK
  apply wp_ret
  try simp only [Exit.inBlock, Exit.then]
  show bodyPost Try.prog Try.f22 _ Exit.ret _ _
  refine bodyPost_ret (results_cell_row (fn := Try.f22) (p := 6) (ty := 42) rfl _ _ w.heap.size 42 (odC id 1 p q) (0, 0) _ (by kernel_rfl) (setRow_heap _ _ _ _ _ _ hk) Try.underlying42 rfl infoO) (by kernel_rfl) ⟨rfl, below_setRow HB.out.1 HB.out.2 _⟩
/-! The example, plain. -/
def exB : List Od := [odK 1 102 100, odK 2 101 50]
def exS : List Od := [odK 3 100 80, odK 4 101 60]
def xB : List Wn := [⟨1, false, 102, 100⟩, ⟨2, false, 101, 50⟩]
def xS : List Wn := [⟨3, false, 100, 80⟩, ⟨4, false, 101, 60⟩]
theorem ex_rows {B S : List Wn} (h : Rws exB exS B S) : B = xB ∧ S = xS := by
  have hb : B.Perm xB := h.pb
  have hs : S.Perm xS := h.ps
  have sB : xB.Pairwise leB := by unfold xB leB; simp
  have sS : xS.Pairwise leS := by unfold xS leS; simp
  constructor
  · refine hb.eq_of_pairwise (le := leB) (fun x y hx hy h1 h2 => ?_) h.sb sB
    have hx' := hb.mem_iff.1 hx
    unfold xB at hx' hy
    simp only [List.mem_cons, List.mem_nil_iff, or_false] at hx' hy
    rcases hx' with rfl | rfl <;> rcases hy with rfl | rfl <;> first | rfl | (unfold leB at h1 h2; simp at h1 h2)
  · refine hs.eq_of_pairwise (le := leS) (fun x y hx hy h1 h2 => ?_) h.ss sS
    have hx' := hs.mem_iff.1 hx
    unfold xS at hx' hy
    simp only [List.mem_cons, List.mem_nil_iff, or_false] at hx' hy
    rcases hx' with rfl | rfl <;> rcases hy with rfl | rfl <;> first | rfl | (unfold leS at h1 h2; simp at h1 h2)
theorem ex_cnd : Cnd xB xS 0 [100, 101, 102] := ⟨by simp, fun c => by
  unfold xB xS
  simp only [List.mem_cons, List.mem_nil_iff, or_false]
  constructor
  · rintro (rfl | rfl | rfl)
    · exact .inr (.inr ⟨_, .inl rfl, rfl, rfl⟩)
    · exact .inr (.inl ⟨_, .inr rfl, rfl, rfl⟩)
    · exact .inr (.inl ⟨_, .inl rfl, rfl, rfl⟩)
  · rintro (⟨_, h⟩ | ⟨v, rfl | rfl, _, rfl⟩ | ⟨v, rfl | rfl, _, rfl⟩)
    · exact absurd rfl h
    · exact .inr (.inr rfl)
    · exact .inr (.inl rfl)
    · exact .inl rfl
    · exact .inr (.inl rfl)⟩
theorem ex_res {B S : List Wn} (h : Rws exB exS B S) : resOf (refN 0) (ptsOf B S (cndL (gat (refN 0) B S 2))) = ⟨101, 140, 10, 1⟩ := by
  have hc := h.cnd (refN 0)
  obtain ⟨rfl, rfl⟩ := ex_rows h
  rw [show refN 0 = 0 from rfl] at hc ⊢
  refine (resOf_perm (List.Perm.refl _) (List.Perm.refl _) hc ex_cnd).trans ?_
  show resOf 0 (ptsOf xB xS [100, 101, 102]) = ⟨101, 140, 10, 1⟩
  first | rfl | (unfold resOf; rfl) | kernel_rfl
theorem ex_fills {F : List Fl} (h : FV exB exS ⟨101, 140, 10, 1⟩ F) : F = [⟨1, 3, 101, 80⟩, ⟨1, 4, 101, 20⟩, ⟨2, 4, 101, 40⟩] := by
  rcases h with ⟨h | h, _⟩ | ⟨_, _, B, S, hr, e⟩
  · exact absurd h (by decide)
  · exact absurd (by decide) h
  · obtain ⟨rfl, rfl⟩ := ex_rows hr
    rw [e]
    rfl
theorem lenF_run {op : Oper} {a : Act} {v : Value} {ao : Option Addr} {n c : Nat} (hv : v = .slice ao n c) (x : Operand) (ho : op.op = .call { callee := .builtin .len, args := #[x], argTypes := #[36] }) (hx : a.eval x = v) (w : World) : (execOp a.eval op).run Try.prog w = .ok (.value (.int .i64 (n : Int))) w := by
  subst hv
  unfold execOp
  simp only [ho, resolve, invoke, builtin, Sem.run_bind, Sem.run_pure, Result.andThen_ok, List.map_toArray, List.map_cons, List.map_nil, hx]
  go_simp
theorem build2_run {op : Oper} {a : Act} {i1 p1 q1 i2 p2 q2 : Int} (x y : Operand) (ho : op.op = .buildSlice 24 2 #[(0, x), (1, y)]) (hx : a.eval x = .agg (odC i1 1 p1 q1)) (hy : a.eval y = .agg (odC i2 1 p2 q2)) (w : World) : (execOp a.eval op).run Try.prog w = .ok (.value (.slice (some ⟨w.heap.size, 0, none⟩) 2 2)) (w.alloc (.cells (odC i1 1 p1 q1 ++ odC i2 1 p2 q2) 42)) := by
  unfold odC at *
  unfold execOp
  simp only [ho, List.map_toArray, List.map_cons, List.map_nil, hx, hy]
  kernel_rfl
set_option maxRecDepth 100000 in
set_option maxHeartbeats 2000000 in
theorem row2 (w : World) (i1 p1 q1 i2 p2 q2 : Int) : RowAt (w.alloc (.cells (odC i1 1 p1 q1 ++ odC i2 1 p2 q2) 42)) 42 15 (.slice (some ⟨w.heap.size, 0, none⟩) 2 2) 2 (flatL (fun o : Od => o.cs.toList) [odK i1 p1 q1, odK i2 p2 q2]) := by
  refine ⟨by kernel_rfl, .inr ⟨w.heap.size, 0, 2, _, rfl, heap_alloc_new w _, Nat.le_refl _, by unfold maxLen; omega, ?_, ?_⟩⟩
  · simp [odC]
  · kernel_rfl
set_option maxRecDepth 100000 in
set_option maxHeartbeats 4000000 in
theorem shown_any (w : World) : Calls Try.prog 6 #[] w fun e w' => e = .returned (.bool true) ∧ Hid (Below w.heap.size w w') := by
  go_enter Try.func6, Try.ntmps6
  go_upto_region 1 with fail
  rename_i K hK
  refine wp_region_lit ?_
  refine wpList_callW rfl (some 5) rfl 22 #[.int .i64 1, .int .i64 102, .int .i64 100] (by kernel_rfl) (limit_any 1 102 100 w) ?_
  rintro e w1 ⟨rfl, hb1⟩
  refine ⟨_, rfl, ?_⟩
  simp only [Act.put, List.setIfInBounds_toArray, List.set_cons_zero, List.set_cons_succ]
  refine wpList_callW rfl (some 6) rfl 22 #[.int .i64 2, .int .i64 101, .int .i64 50] (by kernel_rfl) (limit_any 2 101 50 w1) ?_
  rintro e w2 ⟨rfl, hb2⟩
  refine ⟨_, rfl, ?_⟩
  simp only [Act.put, List.setIfInBounds_toArray, List.set_cons_zero, List.set_cons_succ]
  refine wpList_runTo rfl (some 7) rfl (.slice (some ⟨w2.heap.size, 0, none⟩) 2 2) (w2.alloc (.cells (odC 1 1 102 100 ++ odC 2 1 101 50) 42)) (by exact build2_run (.tmp 5) (.tmp 6) rfl (by kernel_rfl) (by kernel_rfl) _) ?_
  simp only [Act.put, List.setIfInBounds_toArray, List.set_cons_zero, List.set_cons_succ]
  have HB : Hid (RowAt (w2.alloc (.cells (odC 1 1 102 100 ++ odC 2 1 101 50) 42)) 42 15 (.slice (some ⟨w2.heap.size, 0, none⟩) 2 2) 2 (flatL (fun o : Od => o.cs.toList) exB) ∧ Below w.heap.size w (w2.alloc (.cells (odC 1 1 102 100 ++ odC 2 1 101 50) 42))) := ⟨row2 w2 1 102 100 2 101 50, below_step (below_step hb1 hb2) ((Below.refl _ w2).alloc (Nat.le_refl _) _)⟩
  clear hb1 hb2
  generalize w2.alloc (.cells (odC 1 1 102 100 ++ odC 2 1 101 50) 42) = w3 at *
  generalize w2.heap.size = gb at *
  refine wpList_runTo rfl (some 1) rfl (.slice (some ⟨gb, 0, none⟩) 2 2) w3 (by kernel_rfl) ?_
  simp only [Act.put, List.setIfInBounds_toArray, List.set_cons_zero, List.set_cons_succ]
  refine wpList_nil ?_
  refine hK _ _ ?_
  clear hK
  go_upto_region 2 with fail
  rename_i K hK
  refine wp_region_lit ?_
  refine wpList_callW rfl (some 8) rfl 22 #[.int .i64 3, .int .i64 100, .int .i64 80] (by kernel_rfl) (limit_any 3 100 80 w3) ?_
  rintro e w4 ⟨rfl, hb4⟩
  refine ⟨_, rfl, ?_⟩
  simp only [Act.put, List.setIfInBounds_toArray, List.set_cons_zero, List.set_cons_succ]
  refine wpList_callW rfl (some 9) rfl 22 #[.int .i64 4, .int .i64 101, .int .i64 60] (by kernel_rfl) (limit_any 4 101 60 w4) ?_
  rintro e w5 ⟨rfl, hb5⟩
  refine ⟨_, rfl, ?_⟩
  simp only [Act.put, List.setIfInBounds_toArray, List.set_cons_zero, List.set_cons_succ]
  refine wpList_runTo rfl (some 10) rfl (.slice (some ⟨w5.heap.size, 0, none⟩) 2 2) (w5.alloc (.cells (odC 3 1 100 80 ++ odC 4 1 101 60) 42)) (by exact build2_run (.tmp 8) (.tmp 9) rfl (by kernel_rfl) (by kernel_rfl) _) ?_
  simp only [Act.put, List.setIfInBounds_toArray, List.set_cons_zero, List.set_cons_succ]
  have HS : Hid (RowAt (w5.alloc (.cells (odC 3 1 100 80 ++ odC 4 1 101 60) 42)) 42 15 (.slice (some ⟨w5.heap.size, 0, none⟩) 2 2) 2 (flatL (fun o : Od => o.cs.toList) exS) ∧ RowAt (w5.alloc (.cells (odC 3 1 100 80 ++ odC 4 1 101 60) 42)) 42 15 (.slice (some ⟨gb, 0, none⟩) 2 2) 2 (flatL (fun o : Od => o.cs.toList) exB) ∧ Below w.heap.size w (w5.alloc (.cells (odC 3 1 100 80 ++ odC 4 1 101 60) 42))) := by
    have hx := below_step (below_step hb4 hb5) ((Below.refl _ w5).alloc (Nat.le_refl _) (.cells (odC 3 1 100 80 ++ odC 4 1 101 60) 42))
    exact ⟨row2 w5 3 100 80 4 101 60, HB.out.1.fr (Fr.of_below hx (fun _ => False)) fun _ _ => id, below_step HB.out.2 hx⟩
  clear hb4 hb5 HB
  generalize w5.alloc (.cells (odC 3 1 100 80 ++ odC 4 1 101 60) 42) = w6 at *
  generalize w5.heap.size = gs at *
  refine wpList_runTo rfl (some 2) rfl (.slice (some ⟨gs, 0, none⟩) 2 2) w6 (by kernel_rfl) ?_
  simp only [Act.put, List.setIfInBounds_toArray, List.set_cons_zero, List.set_cons_succ]
  refine wpList_nil ?_
  refine hK _ _ ?_
  clear hK
  have okB : ∀ o ∈ exB, o.ok := fun o ho => by
    unfold exB at ho
    simp only [List.mem_cons, List.mem_nil_iff, or_false] at ho
    rcases ho with rfl | rfl <;> exact odK_ok _ _ _
  have okS : ∀ o ∈ exS, o.ok := fun o ho => by
    unfold exS at ho
    simp only [List.mem_cons, List.mem_nil_iff, or_false] at ho
    rcases ho with rfl | rfl <;> exact odK_ok _ _ _
  have hcp := Price_any (w := w6) (b := exB) (s := exS) (c := 2) (c' := 2) HS.out.2.1 okB (by decide) HS.out.1 okS (by decide) 0
  go_upto_region 3 with fail
  rename_i K hK
  refine wp_region_lit ?_
  refine wpList_runTo rfl (some 11) rfl (.slice (some ⟨gb, 0, none⟩) 2 2) w6 (by kernel_rfl) ?_
  simp only [Act.put, List.setIfInBounds_toArray, List.set_cons_zero, List.set_cons_succ]
  refine wpList_runTo rfl (some 12) rfl (.slice (some ⟨gs, 0, none⟩) 2 2) w6 (by kernel_rfl) ?_
  simp only [Act.put, List.setIfInBounds_toArray, List.set_cons_zero, List.set_cons_succ]
  refine wpList_callW rfl (some 13) rfl 9 #[.slice (some ⟨gb, 0, none⟩) 2 2, .slice (some ⟨gs, 0, none⟩) 2 2, .int .i64 0] (by kernel_rfl) hcp ?_
  clear hcp
  rintro e w7 ⟨r, rfl, H7⟩
  refine ⟨_, rfl, ?_⟩
  simp only [Act.put, List.setIfInBounds_toArray, List.set_cons_zero, List.set_cons_succ]
  have hr : r = ⟨101, 140, 10, 1⟩ := by
    obtain ⟨B, S, h1, h2⟩ := H7.out.2
    rw [h2]
    exact ex_res h1
  subst hr
  refine wpList_runTo rfl (some 3) rfl (.pointer (some ⟨w7.heap.size, 0, none⟩)) (w7.alloc (.cells #[.int .i64 0, .int .i64 0, .int .i64 0, .int .i64 0] 28)) (by kernel_rfl) ?_
  simp only [Act.put, List.setIfInBounds_toArray, List.set_cons_zero, List.set_cons_succ]
  refine wpList_plain rfl fun K1 hK1 => ?_
  refine wp_store_row 28 (.tmp 3) (.tmp 13) rfl w7.heap.size (Rs.cs ⟨101, 140, 10, 1⟩) (by kernel_rfl) (by kernel_rfl) 28 #[.int .i64 0, .int .i64 0, .int .i64 0, .int .i64 0] (heap_alloc_new w7 _) infoRs rfl (by simp [Rs.cs, Value.oneCell']) ?_
  rw [World.setRow_alloc_new]
  refine hK1 _ _ ?_
  clear hK1
  refine wpList_nil ?_
  refine hK _ _ ?_
  clear hK
  have H8 : Hid (Below w.heap.size w (w7.alloc (.cells (Rs.cs ⟨101, 140, 10, 1⟩) 28)) ∧ Blk (w7.alloc (.cells (Rs.cs ⟨101, 140, 10, 1⟩) 28)) w7.heap.size 28 (Rs.cs ⟨101, 140, 10, 1⟩) ∧ RowAt (w7.alloc (.cells (Rs.cs ⟨101, 140, 10, 1⟩) 28)) 42 15 (.slice (some ⟨gb, 0, none⟩) 2 2) 2 (flatL (fun o : Od => o.cs.toList) exB) ∧ RowAt (w7.alloc (.cells (Rs.cs ⟨101, 140, 10, 1⟩) 28)) 42 15 (.slice (some ⟨gs, 0, none⟩) 2 2) 2 (flatL (fun o : Od => o.cs.toList) exS)) := by
    have hx := below_step H7.out.1 ((Below.refl _ w7).alloc (Nat.le_refl _) (.cells (Rs.cs ⟨101, 140, 10, 1⟩) 28))
    exact ⟨below_step HS.out.2.2 hx, Blk.new _ _ _, HS.out.2.1.fr (Fr.of_below hx (fun _ => False)) fun _ _ => id, HS.out.1.fr (Fr.of_below hx (fun _ => False)) fun _ _ => id⟩
  clear H7 HS
  generalize w7.alloc (.cells (Rs.cs ⟨101, 140, 10, 1⟩) 28) = w8 at *
  generalize w7.heap.size = br at *
  have hcf := Fills_any (w := w8) (b := exB) (s := exS) (c := 2) (c' := 2) H8.out.2.2.1 okB (by decide) H8.out.2.2.2 okS (by decide) ⟨101, 140, 10, 1⟩ (by decide)
  clear okB okS
  go_upto_region 4 with fail
  rename_i K hK
  refine wp_region_lit ?_
  refine wpList_runTo rfl (some 14) rfl (.slice (some ⟨gb, 0, none⟩) 2 2) w8 (by kernel_rfl) ?_
  simp only [Act.put, List.setIfInBounds_toArray, List.set_cons_zero, List.set_cons_succ]
  refine wpList_runTo rfl (some 15) rfl (.slice (some ⟨gs, 0, none⟩) 2 2) w8 (by kernel_rfl) ?_
  simp only [Act.put, List.setIfInBounds_toArray, List.set_cons_zero, List.set_cons_succ]
  refine wpList_runTo rfl (some 16) rfl (.agg (Rs.cs ⟨101, 140, 10, 1⟩)) w8 (by exact ldA_run (blk_range H8.out.2.1) Try.underlying28 rfl infoRs (.tmp 3) rfl (by kernel_rfl)) ?_
  simp only [Act.put, List.setIfInBounds_toArray, List.set_cons_zero, List.set_cons_succ]
  refine wpList_callW rfl (some 17) rfl 14 #[.slice (some ⟨gb, 0, none⟩) 2 2, .slice (some ⟨gs, 0, none⟩) 2 2, .agg (Rs.cs ⟨101, 140, 10, 1⟩)] (by kernel_rfl) hcf ?_
  clear hcf
  rintro e w9 ⟨v, rfl, H9⟩
  refine ⟨_, rfl, ?_⟩
  simp only [Act.put, List.setIfInBounds_toArray, List.set_cons_zero, List.set_cons_succ]
  obtain ⟨F, hF, hFV⟩ := H9.out
  have hFe := ex_fills hFV
  subst hFe
  obtain ⟨av, cv, ev, _⟩ := hF.row.form
  subst ev
  obtain ⟨g, o, cx, cur, ea, _⟩ := hF.row.more (by simp)
  injection ea with e1 _ e2
  subst e1 e2
  have c0 : w9.cell? ⟨g, o + 5, none⟩ = some (.int .i64 1) := hF.row.cell rfl (j := 5) rfl
  have c1 : w9.cell? ⟨g, o + 6, none⟩ = some (.int .i64 4) := hF.row.cell rfl (j := 6) rfl
  have c2 : w9.cell? ⟨g, o + 7, none⟩ = some (.int .i64 0) := hF.row.cell rfl (j := 7) rfl
  have c3 : w9.cell? ⟨g, o + 8, none⟩ = some (.int .i64 101) := hF.row.cell rfl (j := 8) rfl
  have c4 : w9.cell? ⟨g, o + 9, none⟩ = some (.int .i64 20) := hF.row.cell rfl (j := 9) rfl
  have H10 : Hid (Below w.heap.size w w9 ∧ Blk w9 br 28 (Rs.cs ⟨101, 140, 10, 1⟩)) := ⟨below_step H8.out.1 hF.bel, H8.out.2.1.below hF.bel H8.out.2.1.lt⟩
  have r0 := H10.out.2.cell 0
  have r1 := H10.out.2.cell 1
  have r2 := H10.out.2.cell 2
  have r3 := H10.out.2.cell 3
  refine wpList_runTo rfl (some 4) rfl (.slice (some ⟨g, o, none⟩) 3 cv) w9 (by kernel_rfl) ?_
  simp only [Act.put, List.setIfInBounds_toArray, List.set_cons_zero, List.set_cons_succ]
  refine wpList_nil ?_
  refine hK _ _ ?_
  clear hK H8 H9 hF hFV
  have H11 : Hid (Below w.heap.size w w9) := H10.out.1
  have hrf : w9.rangeAt g (o + 1 * 5) [.int .i64 1, .int .i64 4, .int .i64 0, .int .i64 101, .int .i64 20] := fun j u hj => by
    match j, hj with
    | 0, hj => cases hj; exact c0
    | 1, hj => cases hj; exact c1
    | 2, hj => cases hj; exact c2
    | 3, hj => cases hj; exact c3
    | 4, hj => cases hj; exact c4
    | j + 5, hj => simp at hj
  go_upto_region 5 with fail
  rename_i K hK
  refine wp_region_lit ?_
  refine wpList_runTo rfl (some 18) rfl (.agg (Rs.cs ⟨101, 140, 10, 1⟩)) w9 (by exact ldA_run (blk_range H10.out.2) Try.underlying28 rfl infoRs (.tmp 3) rfl (by kernel_rfl)) ?_
  simp only [Act.put, List.setIfInBounds_toArray, List.set_cons_zero, List.set_cons_succ]
  refine wpList_runTo rfl (some 19) rfl (.agg (Rs.cs ⟨101, 140, 10, 1⟩)) w9 (by kernel_rfl) ?_
  simp only [Act.put, List.setIfInBounds_toArray, List.set_cons_zero, List.set_cons_succ]
  refine wpList_runTo rfl (some 20) rfl (.bool true) w9 (by kernel_rfl) ?_
  simp only [Act.put, List.setIfInBounds_toArray, List.set_cons_zero, List.set_cons_succ]
  refine wpList_runTo rfl (some 21) rfl (.bool true) w9 (by kernel_rfl) ?_
  simp only [Act.put, List.setIfInBounds_toArray, List.set_cons_zero, List.set_cons_succ]
  refine wpList_runToG (by kernel_rfl) (some 22) rfl (.slice (some ⟨g, o, none⟩) 3 cv) w9 (by kernel_rfl) ?_
  simp only [Act.put, List.setIfInBounds_toArray, List.set_cons_zero, List.set_cons_succ]
  refine wpList_runToG (by kernel_rfl) (some 23) rfl (.int .i64 ((3 : Nat) : Int)) w9 (by exact lenF_run (v := .slice (some ⟨g, o, none⟩) 3 cv) (ao := some ⟨g, o, none⟩) (n := 3) (c := cv) rfl (.tmp 22) rfl (by kernel_rfl) _) ?_
  simp only [Act.put, List.setIfInBounds_toArray, List.set_cons_zero, List.set_cons_succ]
  refine wpList_runToG (by kernel_rfl) (some 24) rfl (.bool true) w9 (by kernel_rfl) ?_
  simp only [Act.put, List.setIfInBounds_toArray, List.set_cons_zero, List.set_cons_succ]
  refine wpList_runTo rfl (some 25) rfl (.bool true) w9 (by kernel_rfl) ?_
  simp only [Act.put, List.setIfInBounds_toArray, List.set_cons_zero, List.set_cons_succ]
  refine wpList_runTo rfl (some 26) rfl (.bool true) w9 (by kernel_rfl) ?_
  simp only [Act.put, List.setIfInBounds_toArray, List.set_cons_zero, List.set_cons_succ]
  refine wpList_runToG (by kernel_rfl) (some 27) rfl (.slice (some ⟨g, o, none⟩) 3 cv) w9 (by kernel_rfl) ?_
  simp only [Act.put, List.setIfInBounds_toArray, List.set_cons_zero, List.set_cons_succ]
  refine wpList_runToG (by kernel_rfl) (some 28) rfl (.pointer (some ⟨g, o + 1 * 5, none⟩)) w9 (by kernel_rfl) ?_
  simp only [Act.put, List.setIfInBounds_toArray, List.set_cons_zero, List.set_cons_succ]
  refine wpList_runToG (by kernel_rfl) (some 29) rfl (.agg #[.int .i64 1, .int .i64 4, .int .i64 0, .int .i64 101, .int .i64 20]) w9 (by exact ldA_run hrf Try.underlying39 rfl (by kernel_rfl) (.tmp 28) rfl (by kernel_rfl)) ?_
  simp only [Act.put, List.setIfInBounds_toArray, List.set_cons_zero, List.set_cons_succ]
  refine wpList_runToG (by kernel_rfl) (some 30) rfl (.agg #[.int .i64 1, .int .i64 4, .int .i64 0, .int .i64 101, .int .i64 20]) w9 (by kernel_rfl) ?_
  simp only [Act.put, List.setIfInBounds_toArray, List.set_cons_zero, List.set_cons_succ]
  refine wpList_runToG (by kernel_rfl) (some 31) rfl (.bool true) w9 (by kernel_rfl) ?_
  simp only [Act.put, List.setIfInBounds_toArray, List.set_cons_zero, List.set_cons_succ]
  refine wpList_runTo rfl (some 32) rfl (.bool true) w9 (by kernel_rfl) ?_
  simp only [Act.put, List.setIfInBounds_toArray, List.set_cons_zero, List.set_cons_succ]
  refine wpList_runTo rfl (some 0) rfl (.bool true) w9 (by kernel_rfl) ?_
  simp only [Act.put, List.setIfInBounds_toArray, List.set_cons_zero, List.set_cons_succ]
  refine wpList_nil ?_
  refine hK _ _ ?_
  clear hK
  go_wp2
  go_ret
  exact ⟨rfl, H11.out⟩
end Go.Proofs.Ytbhddfcdnpidkaa
