/-
  auction: bestOf.
-/
import Derived.Test.YtbhddfcdnpidkaaV17
namespace Go.Proofs.Ytbhddfcdnpidkaa
set_option linter.unusedVariables false
set_option linter.unusedSimpArgs false
open Go.RowKit Go.Great

theorem infoPt : (Try.prog.info? 61).map (fun i => (i.zero, i.size, i.bytes)) = some (some (.agg #[.int .i64 0, .int .i64 0, .int .i64 0]), 3, 24) := by kernel_rfl
theorem eq0_run {op : Oper} {a : Act} {p : Int} {r : Bool} {T : TypeId} (hT : T = 2 ∨ T = 3) (x : Operand) (ho : op.op = .binOp .eql T x (.const (.int .i64 0)) T) (hx : a.eval x = .int .i64 p) (hr : decide (p = 0) = r) (w : World) : (execOp a.eval op).run Try.prog w = .ok (.value (.bool r)) w := by
  have e : a.eval (.const (.int .i64 0)) = .int .i64 0 := rfl
  subst hr
  unfold execOp
  rcases hT with rfl | rfl <;> simp only [ho, hx, e] <;> go_simp <;> rfl
theorem gt0_run {op : Oper} {a : Act} {p : Int} {r : Bool} (x : Operand) (ho : op.op = .binOp .gtr 3 x (.const (.int .i64 0)) 3) (hx : a.eval x = .int .i64 p) (hr : decide (0 < p) = r) (w : World) : (execOp a.eval op).run Try.prog w = .ok (.value (.bool r)) w := by
  have e : a.eval (.const (.int .i64 0)) = .int .i64 0 := rfl
  subst hr
  unfold execOp
  simp only [ho, hx, e]
  go_simp
theorem lt0_run {op : Oper} {a : Act} {p : Int} {r : Bool} (x : Operand) (ho : op.op = .binOp .lss 3 x (.const (.int .i64 0)) 3) (hx : a.eval x = .int .i64 p) (hr : decide (p < 0) = r) (w : World) : (execOp a.eval op).run Try.prog w = .ok (.value (.bool r)) w := by
  have e : a.eval (.const (.int .i64 0)) = .int .i64 0 := rfl
  subst hr
  unfold execOp
  simp only [ho, hx, e]
  go_simp
theorem sizePts (w : World) : (Go.sizeOf (Try.prog.elem 55)).run Try.prog w = .ok 3 w := by kernel_rfl
theorem undPts : Try.prog.underlying 55 = some (.slice (Try.prog.elem 55)) := by kernel_rfl
theorem cutP_run {op : Oper} {a : Act} {lg lo n cap k : Nat} (x y : Operand) (ho : op.op = .slice 55 x none (some y) none) (hx : a.eval x = .slice (some ⟨lg, lo, none⟩) n cap) (hy : a.eval y = .int .i64 (k : Int)) (hk : k ≤ cap) (w : World) : (execOp a.eval op).run Try.prog w = .ok (.value (.slice (some ⟨lg, lo, none⟩) k cap)) w := by
  have h1 : (Instr.sliceAt 55 (.slice (some ⟨lg, lo, none⟩) n cap) none (some (.int .i64 (k : Int))) none).run Try.prog w = .ok (.slice (some ⟨lg, lo, none⟩) k cap) w := by
    rw [run_sliceAt_slice _ _ _ _ _ _ undPts, run_slice_h _ _ _ _ _ undPts .i64 (k : Int) (by omega) (by omega), sizePts]
    simp [Result.andThen, sliced, Addr.add]
  unfold execOp
  simp only [ho, hx, hy, Option.map, Sem.run_bind, h1, Result.andThen_ok, Sem.run_pure]
theorem buildPs_run {op : Oper} {a : Act} {p1 p2 p3 : Int} (x : Operand) (ho : op.op = .buildSlice 55 1 #[(0, x)]) (hx : a.eval x = .agg #[.int .i64 p1, .int .i64 p2, .int .i64 p3]) (w : World) : (execOp a.eval op).run Try.prog w = .ok (.value (.slice (some ⟨w.heap.size, 0, none⟩) 1 1)) (w.alloc (.cells #[.int .i64 p1, .int .i64 p2, .int .i64 p3] 61)) := by
  unfold execOp
  simp only [ho, List.map_toArray, List.map_cons, List.map_nil, hx]
  kernel_rfl
theorem pL_one (p : Pt) : ∀ u ∈ pL p, u.oneCell' = true := fun u hu => by
  simp only [pL, List.mem_cons, List.mem_nil_iff, or_false] at hu
  rcases hu with rfl | rfl | rfl <;> rfl
theorem row_zero {w : World} {e : TypeId} {size n g off cap : Nat} {xs : List Value} (h : RowAt w e size (.slice (some ⟨g, off, none⟩) n cap) n xs) : RowAt w e size (.slice (some ⟨g, off, none⟩) 0 cap) 0 [] := by
  rcases h.2 with ⟨h0, _⟩ | ⟨g', off', cap', cur, e2, e3, e4, e5, e6, e7⟩
  · cases h0
  injection e2 with e2 _ e8
  injection e2 with e2
  injection e2 with e2 e9 _
  subst e2 e8 e9
  exact ⟨by simp, .inr ⟨g, off, cap, cur, rfl, e3, Nat.zero_le _, e5, e6, by simp⟩⟩
/-- The best ones so far. -/
structure BO (w W : World) (v : Value) (D : List Pt) : Prop where
  row : RowAt W 61 3 v D.length (flatL pL D)
  bel : Below w.heap.size w W
  own : ∀ q, v.ownBlock = some q → w.heap.size ≤ q
theorem BO.below {w W W' : World} {v : Value} {D : List Pt} (h : BO w W v D) (hb : Below W.heap.size W W') : BO w W' v D := ⟨h.row.fr (Fr.of_below hb (fun _ => False)) fun _ _ => id, below_step h.bel hb, h.own⟩
theorem BO.form {w W : World} {v : Value} {D : List Pt} (h : BO w W v D) : ∃ a c, v = .slice a D.length c := by
  obtain ⟨a, c, e, _⟩ := h.row.form
  exact ⟨a, c, e⟩
theorem BO.app {w W W' : World} {v v' : Value} {D : List Pt} {p : Pt} (h : BO w W v D) (hrow : RowAt W' 61 3 v' (D.length + 1) (flatL pL D ++ pL p)) (hfr : Fr W W' (fun b => v.ownBlock = some b)) (hnew : v'.ownBlock = v.ownBlock ∨ v'.ownBlock = some W.heap.size ∧ ∀ k, k < W.heap.size → W'.heap[k]? = W.heap[k]?) : BO w W' v' (D ++ [p]) := by
  refine ⟨?_, ⟨hfr.os.trans h.bel.os, hfr.tape.trans h.bel.tape, hfr.output.trans h.bel.output, Nat.le_trans h.bel.size hfr.size, fun q hq => (hfr.block q (Nat.lt_of_lt_of_le hq h.bel.size) (fun e => by have := h.own q e; omega)).trans (h.bel.block q hq)⟩, fun q hq => ?_⟩
  · rw [List.length_append, flatL_app, flatL_one]
    exact hrow
  · rcases hnew with h1 | ⟨h1, _⟩
    · exact h.own q (h1 ▸ hq)
    · rw [h1] at hq
      injection hq with hq
      have := h.bel.size
      omega
def okP (p : Pt) : Prop := 0 ≤ p.x ∧ p.x ≤ 5000000000000000000 ∧ 0 ≤ p.y ∧ p.y ≤ 5000000000000000000
theorem okP.nn {p : Pt} (h : okP p) : 0 ≤ p.tr := by
  unfold okP at h
  unfold Pt.tr
  split <;> omega
theorem rV_pos {p b : Pt} : 0 < orV (cmpV b.tr p.tr) (cmpV p.ov b.ov) ↔ b.lt p := by
  unfold orV cmpV Pt.lt
  split <;> (try split) <;> (try split) <;> (try split) <;> omega
theorem rV_neg {p b : Pt} : orV (cmpV b.tr p.tr) (cmpV p.ov b.ov) < 0 ↔ p.lt b := by
  unfold orV cmpV Pt.lt
  split <;> (try split) <;> (try split) <;> (try split) <;> omega
theorem bestL_len (l : List Pt) (i : Nat) : (bestL (l.take i)).length ≤ i := Nat.le_trans (List.length_filter_le _ _) (by rw [List.length_take]; omega)
set_option maxRecDepth 100000 in
set_option maxHeartbeats 4000000 in
theorem bestOf_any {w : World} {l : List Pt} {a : Option Addr} {c : Nat} (hr : RowAt w 61 3 (.slice a l.length c) l.length (flatL pL l)) (hok : ∀ p ∈ l, okP p) (hl : l.length ≤ 5000000000000) :
    Calls Try.prog 24 #[.slice a l.length c] w fun e w' => ∃ v, e = .returned v ∧ Hid (BO w w' v (bestL l)) := by
  obtain ⟨i0, hi0, hz0, hz1, hz2⟩ := info_parts infoPt
  have HI : Hid (Try.prog.info? 61 = some i0 ∧ i0.zero = some (.agg #[.int .i64 0, .int .i64 0, .int .i64 0]) ∧ i0.size = 3 ∧ i0.bytes = 24) := ⟨hi0, hz0, hz1, hz2⟩
  clear hi0 hz0 hz1 hz2
  obtain ⟨n, hn⟩ : ∃ n, n = l.length := ⟨_, rfl⟩
  have HR : Hid (RowAt w 61 3 (.slice a n c) n (flatL pL l) ∧ (∀ p ∈ l, okP p) ∧ n = l.length) := ⟨by rw [hn]; exact hr, hok, hn⟩
  rw [← hn] at hl ⊢
  clear hr hok hn
  go_enter Try.func24, Try.ntmps24
  go_upto_region 3 with fail
  go_loopw [3, 8] (fun x3 x8 wr => ∃ (i : Nat) (xv : Value), xv = x3 ∧ i ≤ n ∧ x8 = .int .i64 (i : Int) ∧ Hid (BO w wr xv (bestL (l.take i)))) (fun _ x8 _ => n - (RowKit.intOf x8).toNat)
  case atStart => exact ⟨0, _, rfl, Nat.zero_le _, rfl, RowAt.none0 _ _ _, Below.refl _ w, fun q hq => by cases hq⟩
  case round =>
    obtain ⟨i, xv, rfl, hi, rfl, HB⟩ := hrel
    by_cases hlt : i < n
    · have hlt' : (i : Int) < (n : Int) := by omega
      obtain ⟨p, hp⟩ : ∃ p, l[i]? = some p := ⟨_, List.getElem?_eq_getElem (by rw [← HR.out.2.2]; exact hlt)⟩
      have hpo := HR.out.2.1 p (List.mem_of_getElem? hp)
      obtain ⟨g0, o0, c', cur, ea, _⟩ := HR.out.1.more (by omega)
      injection ea with ea1 _ ea2
      subst ea1 ea2
      have hrg : wr.rangeAt g0 (o0 + i * 3) p.cs.toList := row_rangeP (HR.out.1.fr (Fr.of_below HB.out.bel (fun _ => False)) fun _ _ => id) hp
      have HT : Hid (l.take (i + 1) = l.take i ++ [p] ∧ (∀ q ∈ l.take i, 0 ≤ q.tr) ∧ okP p) := ⟨by rw [List.take_add_one, hp]; rfl, fun q hq => (HR.out.2.1 q (List.mem_of_mem_take hq)).nn, hpo⟩
      clear hpo hp
      have hLn := bestL_len l i
      obtain ⟨D, hD⟩ : ∃ D, D = bestL (l.take i) := ⟨_, rfl⟩
      have HD : Hid (D = bestL (l.take i)) := hD
      rw [← hD] at HB hLn
      clear hD
      obtain ⟨ao, cc, exv⟩ := HB.out.form
      subst exv
      go_upto_region 4 with fail
      rename_i K hK
      refine wp_region_lit ?_
      refine wpList_runTo rfl (some 10) rfl (.pointer (some ⟨g0, o0 + i * 3, none⟩)) wr (by exact ixP_run (n := n) (c := c) (.tmp 6) (.tmp 8) rfl (by kernel_rfl) (by kernel_rfl) hlt _) ?_
      simp only [Act.put, List.setIfInBounds_toArray, List.set_cons_zero, List.set_cons_succ]
      refine wpList_runTo rfl (some 11) rfl (.agg p.cs) wr (by exact ldA_run hrg Try.underlying61 rfl infoP (.tmp 10) rfl (by kernel_rfl)) ?_
      simp only [Act.put, List.setIfInBounds_toArray, List.set_cons_zero, List.set_cons_succ]
      refine wpList_runTo rfl (some 5) rfl (.pointer (some ⟨wr.heap.size, 0, none⟩)) (wr.alloc (.cells #[.int .i64 0, .int .i64 0, .int .i64 0] 61)) (by kernel_rfl) ?_
      simp only [Act.put, List.setIfInBounds_toArray, List.set_cons_zero, List.set_cons_succ]
      refine wpList_plain rfl fun K1 hK1 => ?_
      refine wp_store_row 61 (.tmp 5) (.tmp 11) rfl wr.heap.size p.cs (by kernel_rfl) (by kernel_rfl) 61 #[.int .i64 0, .int .i64 0, .int .i64 0] (heap_alloc_new wr _) infoP rfl (by simp [Pt.cs, Value.oneCell']) ?_
      rw [World.setRow_alloc_new]
      refine hK1 _ _ ?_
      clear hK1
      refine wpList_nil ?_
      refine hK _ _ ?_
      clear hK hrg
      have HP : Hid (Blk (wr.alloc (.cells p.cs 61)) wr.heap.size 61 p.cs ∧ BO w (wr.alloc (.cells p.cs 61)) (.slice ao D.length cc) D) := ⟨Blk.new wr _ _, HB.out.below ((Below.refl _ wr).alloc (Nat.le_refl _) _)⟩
      clear HB
      generalize wr.alloc (.cells p.cs 61) = W1 at *
      generalize wr.heap.size = bx at *
      have htr : ∀ W, Calls Try.prog 28 #[.agg p.cs] W fun e w' => e = .returned (.int .i64 p.tr) ∧ Below W.heap.size W w' := fun W => traded_any W p
      go_upto_region 5 with fail
      refine wp_region_held (S := fun w' => Below W1.heap.size W1 w') (by kernel_rfl) ?_
      change wpAnyH _ _ _ _ _ _ _ _ (World.drew _)
      have hS0 : Below W1.heap.size W1 W1.drew := (Below.refl _ W1).drew
      generalize W1.drew = Z0 at *

      refine takeR (i := 0) (v := .agg p.cs) (some 12) rfl rfl (by kernel_rfl) (by kernel_rfl) (by kernel_rfl) (fun _ _ _ h => h) (Or.inl ⟨by kernel_rfl, fun w' hSw => by exact ldA_run (blk_range (HP.out.1.below hSw HP.out.1.lt)) Try.underlying61 rfl infoP (.tmp 5) rfl (by kernel_rfl)⟩) hS0 ?_
      simp only [Act.put, List.setIfInBounds_toArray, List.set_cons_zero, List.set_cons_succ]
      refine wpAnyH_ready (rs := [1]) (by kernel_rfl) (by simp) ?_
      refine AllReadyH.cons rfl (fun K1 hK1 => ?_) AllReadyH.nil
      rw [if_pos (by kernel_rfl)]
      refine callR (d := some 13) rfl 28 #[.agg p.cs] (by kernel_rfl) (htr Z0) ?_
      rintro e Z1 ⟨rfl, hb⟩
      refine ⟨_, rfl, ?_⟩
      have hS1 : Below W1.heap.size W1 Z1 := below_step hS0 hb
      clear hb
      refine hK1.out _ _ hS1 (fun hzz => ?_)
      clear hK1 hzz
      simp only [Act.put, List.setIfInBounds_toArray, List.set_cons_zero, List.set_cons_succ]

      clear htr
      by_cases ht : p.tr = 0
      · have HF : Hid (BO w Z1 (.slice ao D.length cc) (bestL (l.take (i + 1)))) := by
          show BO w Z1 (.slice ao D.length cc) (bestL (l.take (i + 1)))
          rw [HT.out.1, bestL_skip HT.out.2.1 ht, ← HD.out]
          exact HP.out.2.below hS1
        refine takeR (i := 2) (v := .bool true) (some 14) rfl rfl (by kernel_rfl) (by kernel_rfl) (by kernel_rfl) (fun _ _ _ h => h) (Or.inl ⟨by kernel_rfl, fun w' hSw => by exact eq0_run (.inl rfl) (.tmp 13) rfl (by kernel_rfl) (decide_eq_true ht) w'⟩) hS1 ?_
        simp only [Act.put, List.setIfInBounds_toArray, List.set_cons_zero, List.set_cons_succ]
        refine takeR (i := 3) (v := .bool true) (some 15) rfl rfl (by kernel_rfl) (by kernel_rfl) (by kernel_rfl) (fun _ _ _ h => h) (Or.inl ⟨by kernel_rfl, fun w' hSw => by kernel_rfl⟩) hS1 ?_
        simp only [Act.put, List.setIfInBounds_toArray, List.set_cons_zero, List.set_cons_succ]
        refine takeR (i := 4) (v := undef) (some 16) rfl rfl (by kernel_rfl) (by kernel_rfl) (by kernel_rfl) (fun _ _ _ h => h) (Or.inr ⟨by kernel_rfl, rfl⟩) hS1 ?_
        simp only [Act.put, List.setIfInBounds_toArray, List.set_cons_zero, List.set_cons_succ]
        refine takeR (i := 5) (v := undef) (some 17) rfl rfl (by kernel_rfl) (by kernel_rfl) (by kernel_rfl) (fun _ _ _ h => h) (Or.inr ⟨by kernel_rfl, rfl⟩) hS1 ?_
        simp only [Act.put, List.setIfInBounds_toArray, List.set_cons_zero, List.set_cons_succ]
        refine takeR (i := 6) (v := undef) (some 18) rfl rfl (by kernel_rfl) (by kernel_rfl) (by kernel_rfl) (fun _ _ _ h => h) (Or.inr ⟨by kernel_rfl, rfl⟩) hS1 ?_
        simp only [Act.put, List.setIfInBounds_toArray, List.set_cons_zero, List.set_cons_succ]
        refine takeR (i := 7) (v := undef) (some 19) rfl rfl (by kernel_rfl) (by kernel_rfl) (by kernel_rfl) (fun _ _ _ h => h) (Or.inr ⟨by kernel_rfl, rfl⟩) hS1 ?_
        simp only [Act.put, List.setIfInBounds_toArray, List.set_cons_zero, List.set_cons_succ]
        refine takeR (i := 8) (v := undef) (some 20) rfl rfl (by kernel_rfl) (by kernel_rfl) (by kernel_rfl) (fun _ _ _ h => h) (Or.inr ⟨by kernel_rfl, rfl⟩) hS1 ?_
        simp only [Act.put, List.setIfInBounds_toArray, List.set_cons_zero, List.set_cons_succ]
        refine takeR (i := 9) (v := undef) (some 21) rfl rfl (by kernel_rfl) (by kernel_rfl) (by kernel_rfl) (fun _ _ _ h => h) (Or.inr ⟨by kernel_rfl, rfl⟩) hS1 ?_
        simp only [Act.put, List.setIfInBounds_toArray, List.set_cons_zero, List.set_cons_succ]
        refine takeR (i := 10) (v := undef) (some 22) rfl rfl (by kernel_rfl) (by kernel_rfl) (by kernel_rfl) (fun _ _ _ h => h) (Or.inr ⟨by kernel_rfl, rfl⟩) hS1 ?_
        simp only [Act.put, List.setIfInBounds_toArray, List.set_cons_zero, List.set_cons_succ]
        refine takeR (i := 11) (v := undef) (some 23) rfl rfl (by kernel_rfl) (by kernel_rfl) (by kernel_rfl) (fun _ _ _ h => h) (Or.inr ⟨by kernel_rfl, rfl⟩) hS1 ?_
        simp only [Act.put, List.setIfInBounds_toArray, List.set_cons_zero, List.set_cons_succ]
        refine takeR (i := 12) (v := undef) (some 24) rfl rfl (by kernel_rfl) (by kernel_rfl) (by kernel_rfl) (fun _ _ _ h => h) (Or.inr ⟨by kernel_rfl, rfl⟩) hS1 ?_
        simp only [Act.put, List.setIfInBounds_toArray, List.set_cons_zero, List.set_cons_succ]
        refine takeR (i := 13) (v := undef) (some 25) rfl rfl (by kernel_rfl) (by kernel_rfl) (by kernel_rfl) (fun _ _ _ h => h) (Or.inr ⟨by kernel_rfl, rfl⟩) hS1 ?_
        simp only [Act.put, List.setIfInBounds_toArray, List.set_cons_zero, List.set_cons_succ]
        refine takeR (i := 14) (v := undef) (some 26) rfl rfl (by kernel_rfl) (by kernel_rfl) (by kernel_rfl) (fun _ _ _ h => h) (Or.inr ⟨by kernel_rfl, rfl⟩) hS1 ?_
        simp only [Act.put, List.setIfInBounds_toArray, List.set_cons_zero, List.set_cons_succ]
        refine takeR (i := 15) (v := .bool true) (some 27) rfl rfl (by kernel_rfl) (by kernel_rfl) (by kernel_rfl) (fun _ _ _ h => h) (Or.inl ⟨by kernel_rfl, fun w' hSw => by kernel_rfl⟩) hS1 ?_
        simp only [Act.put, List.setIfInBounds_toArray, List.set_cons_zero, List.set_cons_succ]
        refine wpAnyH_done (by kernel_rfl) ?_ _
        clear hS0 hS1 HP HD HT ht
        generalize D.length = dn at *
        go_wp2
        exact ⟨⟨i + 1, _, rfl, by omega, by go_num, HF.out⟩, by simp [RowKit.intOf]; omega⟩
      ·
        refine takeR (i := 2) (v := .bool false) (some 14) rfl rfl (by kernel_rfl) (by kernel_rfl) (by kernel_rfl) (fun _ _ _ h => h) (Or.inl ⟨by kernel_rfl, fun w' hSw => by exact eq0_run (.inl rfl) (.tmp 13) rfl (by kernel_rfl) (decide_eq_false ht) w'⟩) hS1 ?_
        simp only [Act.put, List.setIfInBounds_toArray, List.set_cons_zero, List.set_cons_succ]
        refine takeR (i := 3) (v := .bool false) (some 15) rfl rfl (by kernel_rfl) (by kernel_rfl) (by kernel_rfl) (fun _ _ _ h => h) (Or.inl ⟨by kernel_rfl, fun w' hSw => by kernel_rfl⟩) hS1 ?_
        simp only [Act.put, List.setIfInBounds_toArray, List.set_cons_zero, List.set_cons_succ]
        refine takeR (i := 4) (v := .slice ao D.length cc) (some 16) rfl rfl (by kernel_rfl) (by kernel_rfl) (by kernel_rfl) (fun _ _ _ h => h) (Or.inl ⟨by kernel_rfl, fun w' hSw => by kernel_rfl⟩) hS1 ?_
        simp only [Act.put, List.setIfInBounds_toArray, List.set_cons_zero, List.set_cons_succ]
        refine takeR (i := 5) (v := .int .i64 (D.length : Int)) (some 17) rfl rfl (by kernel_rfl) (by kernel_rfl) (by kernel_rfl) (fun _ _ _ h => h) (Or.inl ⟨by kernel_rfl, fun w' hSw => by exact lenP_run (v := .slice ao D.length cc) (ao := ao) (n := D.length) (c := cc) rfl (.tmp 16) rfl (by kernel_rfl) w'⟩) hS1 ?_
        simp only [Act.put, List.setIfInBounds_toArray, List.set_cons_zero, List.set_cons_succ]
        have htp : 0 < p.tr := by have := HT.out.2.2.nn; omega
        cases D with
        | nil =>
          have HD4 : Hid (bestL (l.take (i + 1)) = [] ++ [p]) := by
            show bestL (l.take (i + 1)) = [p]
            rw [HT.out.1]
            exact bestL_first (bestL_none HT.out.2.1 HD.out.symm) htp
          refine takeR (i := 6) (v := .bool false) (some 18) rfl rfl (by kernel_rfl) (by kernel_rfl) (by kernel_rfl) (fun _ _ _ h => h) (Or.inl ⟨by kernel_rfl, fun w' hSw => by exact gt0_run (p := 0) (.tmp 17) rfl (by kernel_rfl) (by decide) w'⟩) hS1 ?_
          simp only [Act.put, List.setIfInBounds_toArray, List.set_cons_zero, List.set_cons_succ]
          refine takeR (i := 7) (v := .bool false) (some 19) rfl rfl (by kernel_rfl) (by kernel_rfl) (by kernel_rfl) (fun _ _ _ h => h) (Or.inl ⟨by kernel_rfl, fun w' hSw => by kernel_rfl⟩) hS1 ?_
          simp only [Act.put, List.setIfInBounds_toArray, List.set_cons_zero, List.set_cons_succ]
          refine takeR (i := 8) (v := undef) (some 20) rfl rfl (by kernel_rfl) (by kernel_rfl) (by kernel_rfl) (fun _ _ _ h => h) (Or.inr ⟨by kernel_rfl, rfl⟩) hS1 ?_
          simp only [Act.put, List.setIfInBounds_toArray, List.set_cons_zero, List.set_cons_succ]
          refine takeR (i := 9) (v := undef) (some 21) rfl rfl (by kernel_rfl) (by kernel_rfl) (by kernel_rfl) (fun _ _ _ h => h) (Or.inr ⟨by kernel_rfl, rfl⟩) hS1 ?_
          simp only [Act.put, List.setIfInBounds_toArray, List.set_cons_zero, List.set_cons_succ]
          refine takeR (i := 10) (v := undef) (some 22) rfl rfl (by kernel_rfl) (by kernel_rfl) (by kernel_rfl) (fun _ _ _ h => h) (Or.inr ⟨by kernel_rfl, rfl⟩) hS1 ?_
          simp only [Act.put, List.setIfInBounds_toArray, List.set_cons_zero, List.set_cons_succ]
          refine takeR (i := 11) (v := undef) (some 23) rfl rfl (by kernel_rfl) (by kernel_rfl) (by kernel_rfl) (fun _ _ _ h => h) (Or.inr ⟨by kernel_rfl, rfl⟩) hS1 ?_
          simp only [Act.put, List.setIfInBounds_toArray, List.set_cons_zero, List.set_cons_succ]
          refine takeR (i := 12) (v := undef) (some 24) rfl rfl (by kernel_rfl) (by kernel_rfl) (by kernel_rfl) (fun _ _ _ h => h) (Or.inr ⟨by kernel_rfl, rfl⟩) hS1 ?_
          simp only [Act.put, List.setIfInBounds_toArray, List.set_cons_zero, List.set_cons_succ]
          refine takeR (i := 13) (v := undef) (some 25) rfl rfl (by kernel_rfl) (by kernel_rfl) (by kernel_rfl) (fun _ _ _ h => h) (Or.inr ⟨by kernel_rfl, rfl⟩) hS1 ?_
          simp only [Act.put, List.setIfInBounds_toArray, List.set_cons_zero, List.set_cons_succ]
          refine takeR (i := 14) (v := .bool false) (some 26) rfl rfl (by kernel_rfl) (by kernel_rfl) (by kernel_rfl) (fun _ _ _ h => h) (Or.inl ⟨by kernel_rfl, fun w' hSw => by kernel_rfl⟩) hS1 ?_
          simp only [Act.put, List.setIfInBounds_toArray, List.set_cons_zero, List.set_cons_succ]
          refine takeR (i := 15) (v := .bool false) (some 27) rfl rfl (by kernel_rfl) (by kernel_rfl) (by kernel_rfl) (fun _ _ _ h => h) (Or.inl ⟨by kernel_rfl, fun w' hSw => by kernel_rfl⟩) hS1 ?_
          simp only [Act.put, List.setIfInBounds_toArray, List.set_cons_zero, List.set_cons_succ]
          refine wpAnyH_done (by kernel_rfl) ?_ _
          have HPb : Hid (Blk Z1 bx 61 p.cs ∧ BO w Z1 (.slice ao ([] : List Pt).length cc) []) := ⟨HP.out.1.below hS1 HP.out.1.lt, HP.out.2.below hS1⟩
          clear hS0 hS1 HP HD HT ht htp
          generalize Z1 = W1 at *
          have HP := HPb
          clear HPb
          go_upto_region 6 with fail
          refine wp_region_held (S := fun w' => Below W1.heap.size W1 w') (by kernel_rfl) ?_
          change wpAnyH _ _ _ _ _ _ _ _ (World.drew _)
          have hS0 : Below W1.heap.size W1 W1.drew := (Below.refl _ W1).drew
          generalize W1.drew = Z0 at *

          refine takeR (i := 0) (v := .slice ao ([] : List Pt).length cc) (some 28) rfl rfl (by kernel_rfl) (by kernel_rfl) (by kernel_rfl) (fun _ _ _ h => h) (Or.inl ⟨by kernel_rfl, fun w' hSw => by kernel_rfl⟩) hS0 ?_
          simp only [Act.put, List.setIfInBounds_toArray, List.set_cons_zero, List.set_cons_succ]
          refine takeR (i := 1) (v := .int .i64 ((([] : List Pt).length : Nat) : Int)) (some 29) rfl rfl (by kernel_rfl) (by kernel_rfl) (by kernel_rfl) (fun _ _ _ h => h) (Or.inl ⟨by kernel_rfl, fun w' hSw => by exact lenP_run (v := .slice ao ([] : List Pt).length cc) (ao := ao) (n := ([] : List Pt).length) (c := cc) rfl (.tmp 28) rfl (by kernel_rfl) w'⟩) hS0 ?_
          simp only [Act.put, List.setIfInBounds_toArray, List.set_cons_zero, List.set_cons_succ]
          refine takeR (i := 2) (v := .bool false) (some 30) rfl rfl (by kernel_rfl) (by kernel_rfl) (by kernel_rfl) (fun _ _ _ h => h) (Or.inl ⟨by kernel_rfl, fun w' hSw => by exact gt0_run (p := 0) (.tmp 29) rfl (by kernel_rfl) (by decide) w'⟩) hS0 ?_
          simp only [Act.put, List.setIfInBounds_toArray, List.set_cons_zero, List.set_cons_succ]
          refine takeR (i := 3) (v := .bool false) (some 31) rfl rfl (by kernel_rfl) (by kernel_rfl) (by kernel_rfl) (fun _ _ _ h => h) (Or.inl ⟨by kernel_rfl, fun w' hSw => by kernel_rfl⟩) hS0 ?_
          simp only [Act.put, List.setIfInBounds_toArray, List.set_cons_zero, List.set_cons_succ]
          refine takeR (i := 4) (v := undef) (some 32) rfl rfl (by kernel_rfl) (by kernel_rfl) (by kernel_rfl) (fun _ _ _ h => h) (Or.inr ⟨by kernel_rfl, rfl⟩) hS0 ?_
          simp only [Act.put, List.setIfInBounds_toArray, List.set_cons_zero, List.set_cons_succ]
          refine takeR (i := 5) (v := undef) (some 33) rfl rfl (by kernel_rfl) (by kernel_rfl) (by kernel_rfl) (fun _ _ _ h => h) (Or.inr ⟨by kernel_rfl, rfl⟩) hS0 ?_
          simp only [Act.put, List.setIfInBounds_toArray, List.set_cons_zero, List.set_cons_succ]
          refine takeR (i := 6) (v := undef) (some 34) rfl rfl (by kernel_rfl) (by kernel_rfl) (by kernel_rfl) (fun _ _ _ h => h) (Or.inr ⟨by kernel_rfl, rfl⟩) hS0 ?_
          simp only [Act.put, List.setIfInBounds_toArray, List.set_cons_zero, List.set_cons_succ]
          refine takeR (i := 7) (v := undef) (some 35) rfl rfl (by kernel_rfl) (by kernel_rfl) (by kernel_rfl) (fun _ _ _ h => h) (Or.inr ⟨by kernel_rfl, rfl⟩) hS0 ?_
          simp only [Act.put, List.setIfInBounds_toArray, List.set_cons_zero, List.set_cons_succ]
          refine takeR (i := 8) (v := undef) (some 36) rfl rfl (by kernel_rfl) (by kernel_rfl) (by kernel_rfl) (fun _ _ _ h => h) (Or.inr ⟨by kernel_rfl, rfl⟩) hS0 ?_
          simp only [Act.put, List.setIfInBounds_toArray, List.set_cons_zero, List.set_cons_succ]
          refine takeR (i := 9) (v := undef) (some 37) rfl rfl (by kernel_rfl) (by kernel_rfl) (by kernel_rfl) (fun _ _ _ h => h) (Or.inr ⟨by kernel_rfl, rfl⟩) hS0 ?_
          simp only [Act.put, List.setIfInBounds_toArray, List.set_cons_zero, List.set_cons_succ]
          refine takeR (i := 10) (v := .bool false) (some 38) rfl rfl (by kernel_rfl) (by kernel_rfl) (by kernel_rfl) (fun _ _ _ h => h) (Or.inl ⟨by kernel_rfl, fun w' hSw => by kernel_rfl⟩) hS0 ?_
          simp only [Act.put, List.setIfInBounds_toArray, List.set_cons_zero, List.set_cons_succ]
          refine wpAnyH_done (by kernel_rfl) ?_ _
          have HP4b : Hid (Blk Z0 bx 61 p.cs ∧ BO w Z0 (.slice ao ([] : List Pt).length cc) [] ∧ ([] : List Pt).length ≤ i) := ⟨HP.out.1.below hS0 HP.out.1.lt, HP.out.2.below hS0, Nat.zero_le _⟩
          have HP4 := HP4b
          clear HP4b hS0
          obtain ⟨w4, hw4⟩ : ∃ w4, w4 = Z0 := ⟨_, rfl⟩
          rw [← hw4] at HP4 ⊢
          clear hw4
          go_upto_region 8 with fail
          refine wp_region_lit ?_
          refine wpList_runTo rfl (some 41) rfl (.slice ao ([] : List Pt).length cc) w4 (by kernel_rfl) ?_
          simp only [Act.put, List.setIfInBounds_toArray, List.set_cons_zero, List.set_cons_succ]
          refine wpList_runTo rfl (some 42) rfl (.agg p.cs) w4 (by exact ldA_run (blk_range HP4.out.1) Try.underlying61 rfl infoP (.tmp 5) rfl (by kernel_rfl)) ?_
          simp only [Act.put, List.setIfInBounds_toArray, List.set_cons_zero, List.set_cons_succ]
          refine wpList_runTo rfl (some 43) rfl (.slice (some ⟨w4.heap.size, 0, none⟩) 1 1) (w4.alloc (.cells p.cs 61)) (by exact buildPs_run (.tmp 42) rfl (by kernel_rfl) _) ?_
          simp only [Act.put, List.setIfInBounds_toArray, List.set_cons_zero, List.set_cons_succ]
          have hrA : RowAt (w4.alloc (.cells p.cs 61)) 61 3 (.slice ao ([] : List Pt).length cc) ([] : List Pt).length (flatL pL []) := HP4.out.2.1.row.fr (Fr.alloc w4 _ (fun _ => False)) fun _ _ => id
          refine wpList_append_row _ rfl (.tmp 41) (.tmp 43) 55 rfl 61 i0 _ 3 24 Try.underlying55 HI.out.1 HI.out.2.1 HI.out.2.2.1 HI.out.2.2.2 (by rfl) (.slice ao ([] : List Pt).length cc) ([] : List Pt).length (flatL pL []) (by kernel_rfl) hrA ⟨w4.heap.size, 0, none⟩ 1 1 (pL p) (by kernel_rfl) (by rfl) (fun j u hj => by rw [Addr.add_mid, Nat.zero_add, (Blk.new w4 61 p.cs).cell]; simpa [pL, Pt.cs] using hj) (pL_one p) (Or.inl (by omega)) (by have := HP4.out.2.2; unfold maxLen; omega) (by have := HP4.out.2.2; omega) ?_
          intro v5 w5 hrow hfr hnew
          have HF : Hid (BO w w5 v5 (bestL (l.take (i + 1)))) := by
            show BO w w5 v5 (bestL (l.take (i + 1)))
            rw [HD4.out]
            exact (HP4.out.2.1.below ((Below.refl _ w4).alloc (Nat.le_refl _) _)).app hrow hfr hnew
          clear hrow hfr hnew hrA HP4 HD4 HP
          simp only [Act.put, List.setIfInBounds_toArray, List.set_cons_zero, List.set_cons_succ]
          refine wpList_runTo rfl (some 3) rfl (v5) w5 (by kernel_rfl) ?_
          simp only [Act.put, List.setIfInBounds_toArray, List.set_cons_zero, List.set_cons_succ]
          refine wpList_nil ?_
          apply_assumption
          go_wp2
          exact ⟨⟨i + 1, _, rfl, by omega, by go_num, HF.out⟩, by simp [RowKit.intOf]; omega⟩
        | cons b0 D' =>
          have hb0 : (b0 :: D')[0]? = some b0 := rfl
          have hmem : b0 ∈ bestL (l.take i) := by rw [← HD.out]; exact List.mem_cons_self
          obtain ⟨g, o, cc, cur, ea, _⟩ := HP.out.2.row.more (by simp)
          injection ea with ea1 _ ea2
          subst ea1 ea2
          have hok0 : okP b0 := by
            have := (bestL_mem.1 hmem).1
            exact HR.out.2.1 b0 (List.mem_of_mem_take this)
          have hpok := HT.out.2.2
          have hbt : ∀ W, Calls Try.prog 43 #[.agg p.cs, .agg b0.cs] W fun e w' => e = .returned (.int .i64 (orV (cmpV b0.tr p.tr) (cmpV p.ov b0.ov))) ∧ Below W.heap.size W w' := fun W => better_any W p b0 ⟨hpok.1, hpok.2.1⟩ hpok.2.2 ⟨hok0.1, hok0.2.1⟩ hok0.2.2
          have HV : Hid ((0 < orV (cmpV b0.tr p.tr) (cmpV p.ov b0.ov) ↔ b0.lt p) ∧ (orV (cmpV b0.tr p.tr) (cmpV p.ov b0.ov) < 0 ↔ p.lt b0)) := ⟨rV_pos, rV_neg⟩
          generalize orV (cmpV b0.tr p.tr) (cmpV p.ov b0.ov) = r at *
          clear hok0 hpok
          obtain ⟨dn, hdn⟩ : ∃ dn, dn = (b0 :: D').length := ⟨_, rfl⟩
          have hdp : 0 < dn := by rw [hdn]; simp
          obtain ⟨D0, hD0⟩ : ∃ D0, D0 = b0 :: D' := ⟨_, rfl⟩
          rw [← hD0] at HP HD hb0 hLn hdn ⊢
          rw [← hdn]
          clear hD0
          have HDn : Hid (dn = D0.length) := hdn
          have HPd : Hid (Blk W1 bx 61 p.cs ∧ BO w W1 (.slice (some ⟨g, o, none⟩) dn cc) D0) := by rw [hdn]; exact HP.out
          clear HP
          have HP := HPd
          clear HPd
          have HRow : Hid (∀ W, BO w W (.slice (some ⟨g, o, none⟩) dn cc) D0 → RowAt W 61 3 (.slice (some ⟨g, o, none⟩) dn cc) dn (flatL pL D0)) := fun W h => by have := h.row; rwa [← HDn.out] at this
          clear hdn
          refine takeR (i := 6) (v := .bool true) (some 18) rfl rfl (by kernel_rfl) (by kernel_rfl) (by kernel_rfl) (fun _ _ _ h => h) (Or.inl ⟨by kernel_rfl, fun w' hSw => by exact gt0_run (p := (dn : Int)) (.tmp 17) rfl (by kernel_rfl) (decide_eq_true (by omega)) w'⟩) hS1 ?_
          simp only [Act.put, List.setIfInBounds_toArray, List.set_cons_zero, List.set_cons_succ]
          refine takeR (i := 7) (v := .bool true) (some 19) rfl rfl (by kernel_rfl) (by kernel_rfl) (by kernel_rfl) (fun _ _ _ h => h) (Or.inl ⟨by kernel_rfl, fun w' hSw => by kernel_rfl⟩) hS1 ?_
          simp only [Act.put, List.setIfInBounds_toArray, List.set_cons_zero, List.set_cons_succ]
          refine takeR (i := 8) (v := .agg p.cs) (some 20) rfl rfl (by kernel_rfl) (by kernel_rfl) (by kernel_rfl) (fun _ _ _ h => h) (Or.inl ⟨by kernel_rfl, fun w' hSw => by exact ldA_run (blk_range (HP.out.1.below hSw HP.out.1.lt)) Try.underlying61 rfl infoP (.tmp 5) rfl (by kernel_rfl)⟩) hS1 ?_
          simp only [Act.put, List.setIfInBounds_toArray, List.set_cons_zero, List.set_cons_succ]
          refine takeR (i := 9) (v := .slice (some ⟨g, o, none⟩) dn cc) (some 21) rfl rfl (by kernel_rfl) (by kernel_rfl) (by kernel_rfl) (fun _ _ _ h => h) (Or.inl ⟨by kernel_rfl, fun w' hSw => by kernel_rfl⟩) hS1 ?_
          simp only [Act.put, List.setIfInBounds_toArray, List.set_cons_zero, List.set_cons_succ]
          refine takeR (i := 10) (v := .pointer (some ⟨g, o + 0 * 3, none⟩)) (some 22) rfl rfl (by kernel_rfl) (by kernel_rfl) (by kernel_rfl) (fun _ _ _ h => h) (Or.inl ⟨by kernel_rfl, fun w' hSw => by exact ixP_run (i := 0) (n := dn) (c := cc) (.tmp 21) (.const (.int .i64 0)) rfl (by kernel_rfl) rfl hdp w'⟩) hS1 ?_
          simp only [Act.put, List.setIfInBounds_toArray, List.set_cons_zero, List.set_cons_succ]
          refine takeR (i := 11) (v := .agg b0.cs) (some 23) rfl rfl (by kernel_rfl) (by kernel_rfl) (by kernel_rfl) (fun _ _ _ h => h) (Or.inl ⟨by kernel_rfl, fun w' hSw => by exact ldA_run (row_rangeP (i := 0) (HRow.out _ (HP.out.2.below hSw)) hb0) Try.underlying61 rfl infoP (.tmp 22) rfl (by kernel_rfl)⟩) hS1 ?_
          simp only [Act.put, List.setIfInBounds_toArray, List.set_cons_zero, List.set_cons_succ]
          refine wpAnyH_ready (rs := [12]) (by kernel_rfl) (by simp) ?_
          refine AllReadyH.cons rfl (fun K1 hK1 => ?_) AllReadyH.nil
          rw [if_pos (by kernel_rfl)]
          refine callR (d := some 24) rfl 43 #[.agg p.cs, .agg b0.cs] (by kernel_rfl) (hbt Z1) ?_
          rintro e Z2 ⟨rfl, hb⟩
          refine ⟨_, rfl, ?_⟩
          have hS2 : Below W1.heap.size W1 Z2 := below_step hS1 hb
          clear hb
          refine hK1.out _ _ hS2 (fun hzz => ?_)
          clear hK1 hzz
          simp only [Act.put, List.setIfInBounds_toArray, List.set_cons_zero, List.set_cons_succ]

          by_cases hr0 : 0 < r
          · have HF : Hid (BO w Z2 (.slice (some ⟨g, o, none⟩) dn cc) (bestL (l.take (i + 1)))) := by
              show BO w Z2 (.slice (some ⟨g, o, none⟩) dn cc) (bestL (l.take (i + 1)))
              rw [HT.out.1, bestL_worse hmem (HV.out.1.1 hr0), ← HD.out]
              exact HP.out.2.below hS2
            refine takeR (i := 13) (v := .bool true) (some 25) rfl rfl (by kernel_rfl) (by kernel_rfl) (by kernel_rfl) (fun _ _ _ h => h) (Or.inl ⟨by kernel_rfl, fun w' hSw => by exact gt0_run (.tmp 24) rfl (by kernel_rfl) (decide_eq_true hr0) w'⟩) hS2 ?_
            simp only [Act.put, List.setIfInBounds_toArray, List.set_cons_zero, List.set_cons_succ]
            refine takeR (i := 14) (v := .bool true) (some 26) rfl rfl (by kernel_rfl) (by kernel_rfl) (by kernel_rfl) (fun _ _ _ h => h) (Or.inl ⟨by kernel_rfl, fun w' hSw => by kernel_rfl⟩) hS2 ?_
            simp only [Act.put, List.setIfInBounds_toArray, List.set_cons_zero, List.set_cons_succ]
            refine takeR (i := 15) (v := .bool true) (some 27) rfl rfl (by kernel_rfl) (by kernel_rfl) (by kernel_rfl) (fun _ _ _ h => h) (Or.inl ⟨by kernel_rfl, fun w' hSw => by kernel_rfl⟩) hS2 ?_
            simp only [Act.put, List.setIfInBounds_toArray, List.set_cons_zero, List.set_cons_succ]
            refine wpAnyH_done (by kernel_rfl) ?_ _
            clear hS0 hS1 hS2 HP HD HT ht hb0 hmem hbt HV hr0 HRow HDn
            go_wp2
            exact ⟨⟨i + 1, _, rfl, by omega, by go_num, HF.out⟩, by simp [RowKit.intOf]; omega⟩
          ·
            refine takeR (i := 13) (v := .bool false) (some 25) rfl rfl (by kernel_rfl) (by kernel_rfl) (by kernel_rfl) (fun _ _ _ h => h) (Or.inl ⟨by kernel_rfl, fun w' hSw => by exact gt0_run (.tmp 24) rfl (by kernel_rfl) (decide_eq_false hr0) w'⟩) hS2 ?_
            simp only [Act.put, List.setIfInBounds_toArray, List.set_cons_zero, List.set_cons_succ]
            refine takeR (i := 14) (v := .bool false) (some 26) rfl rfl (by kernel_rfl) (by kernel_rfl) (by kernel_rfl) (fun _ _ _ h => h) (Or.inl ⟨by kernel_rfl, fun w' hSw => by kernel_rfl⟩) hS2 ?_
            simp only [Act.put, List.setIfInBounds_toArray, List.set_cons_zero, List.set_cons_succ]
            refine takeR (i := 15) (v := .bool false) (some 27) rfl rfl (by kernel_rfl) (by kernel_rfl) (by kernel_rfl) (fun _ _ _ h => h) (Or.inl ⟨by kernel_rfl, fun w' hSw => by kernel_rfl⟩) hS2 ?_
            simp only [Act.put, List.setIfInBounds_toArray, List.set_cons_zero, List.set_cons_succ]
            refine wpAnyH_done (by kernel_rfl) ?_ _
            have HPb : Hid (Blk Z2 bx 61 p.cs ∧ BO w Z2 (.slice (some ⟨g, o, none⟩) dn cc) D0) := ⟨HP.out.1.below hS2 HP.out.1.lt, HP.out.2.below hS2⟩
            clear hS0 hS1 hS2 HP
            generalize Z2 = W1 at *
            have HP := HPb
            clear HPb
            go_upto_region 6 with fail
            refine wp_region_held (S := fun w' => Below W1.heap.size W1 w') (by kernel_rfl) ?_
            change wpAnyH _ _ _ _ _ _ _ _ (World.drew _)
            have hS0 : Below W1.heap.size W1 W1.drew := (Below.refl _ W1).drew
            generalize W1.drew = Z0 at *

            refine takeR (i := 0) (v := .slice (some ⟨g, o, none⟩) dn cc) (some 28) rfl rfl (by kernel_rfl) (by kernel_rfl) (by kernel_rfl) (fun _ _ _ h => h) (Or.inl ⟨by kernel_rfl, fun w' hSw => by kernel_rfl⟩) hS0 ?_
            simp only [Act.put, List.setIfInBounds_toArray, List.set_cons_zero, List.set_cons_succ]
            refine takeR (i := 1) (v := .int .i64 (dn : Int)) (some 29) rfl rfl (by kernel_rfl) (by kernel_rfl) (by kernel_rfl) (fun _ _ _ h => h) (Or.inl ⟨by kernel_rfl, fun w' hSw => by exact lenP_run (v := .slice (some ⟨g, o, none⟩) dn cc) (ao := some ⟨g, o, none⟩) (n := dn) (c := cc) rfl (.tmp 28) rfl (by kernel_rfl) w'⟩) hS0 ?_
            simp only [Act.put, List.setIfInBounds_toArray, List.set_cons_zero, List.set_cons_succ]
            refine takeR (i := 2) (v := .bool true) (some 30) rfl rfl (by kernel_rfl) (by kernel_rfl) (by kernel_rfl) (fun _ _ _ h => h) (Or.inl ⟨by kernel_rfl, fun w' hSw => by exact gt0_run (p := (dn : Int)) (.tmp 29) rfl (by kernel_rfl) (decide_eq_true (by omega)) w'⟩) hS0 ?_
            simp only [Act.put, List.setIfInBounds_toArray, List.set_cons_zero, List.set_cons_succ]
            refine takeR (i := 3) (v := .bool true) (some 31) rfl rfl (by kernel_rfl) (by kernel_rfl) (by kernel_rfl) (fun _ _ _ h => h) (Or.inl ⟨by kernel_rfl, fun w' hSw => by kernel_rfl⟩) hS0 ?_
            simp only [Act.put, List.setIfInBounds_toArray, List.set_cons_zero, List.set_cons_succ]
            refine takeR (i := 4) (v := .agg p.cs) (some 32) rfl rfl (by kernel_rfl) (by kernel_rfl) (by kernel_rfl) (fun _ _ _ h => h) (Or.inl ⟨by kernel_rfl, fun w' hSw => by exact ldA_run (blk_range (HP.out.1.below hSw HP.out.1.lt)) Try.underlying61 rfl infoP (.tmp 5) rfl (by kernel_rfl)⟩) hS0 ?_
            simp only [Act.put, List.setIfInBounds_toArray, List.set_cons_zero, List.set_cons_succ]
            refine takeR (i := 5) (v := .slice (some ⟨g, o, none⟩) dn cc) (some 33) rfl rfl (by kernel_rfl) (by kernel_rfl) (by kernel_rfl) (fun _ _ _ h => h) (Or.inl ⟨by kernel_rfl, fun w' hSw => by kernel_rfl⟩) hS0 ?_
            simp only [Act.put, List.setIfInBounds_toArray, List.set_cons_zero, List.set_cons_succ]
            refine takeR (i := 6) (v := .pointer (some ⟨g, o + 0 * 3, none⟩)) (some 34) rfl rfl (by kernel_rfl) (by kernel_rfl) (by kernel_rfl) (fun _ _ _ h => h) (Or.inl ⟨by kernel_rfl, fun w' hSw => by exact ixP_run (i := 0) (n := dn) (c := cc) (.tmp 33) (.const (.int .i64 0)) rfl (by kernel_rfl) rfl hdp w'⟩) hS0 ?_
            simp only [Act.put, List.setIfInBounds_toArray, List.set_cons_zero, List.set_cons_succ]
            refine takeR (i := 7) (v := .agg b0.cs) (some 35) rfl rfl (by kernel_rfl) (by kernel_rfl) (by kernel_rfl) (fun _ _ _ h => h) (Or.inl ⟨by kernel_rfl, fun w' hSw => by exact ldA_run (row_rangeP (i := 0) (HRow.out _ (HP.out.2.below hSw)) hb0) Try.underlying61 rfl infoP (.tmp 34) rfl (by kernel_rfl)⟩) hS0 ?_
            simp only [Act.put, List.setIfInBounds_toArray, List.set_cons_zero, List.set_cons_succ]
            refine wpAnyH_ready (rs := [8]) (by kernel_rfl) (by simp) ?_
            refine AllReadyH.cons rfl (fun K1 hK1 => ?_) AllReadyH.nil
            rw [if_pos (by kernel_rfl)]
            refine callR (d := some 36) rfl 43 #[.agg p.cs, .agg b0.cs] (by kernel_rfl) (hbt Z0) ?_
            rintro e Z1 ⟨rfl, hb⟩
            refine ⟨_, rfl, ?_⟩
            have hS1 : Below W1.heap.size W1 Z1 := below_step hS0 hb
            clear hb
            refine hK1.out _ _ hS1 (fun hzz => ?_)
            clear hK1 hzz
            simp only [Act.put, List.setIfInBounds_toArray, List.set_cons_zero, List.set_cons_succ]

            clear hbt
            by_cases hr1 : r < 0
            · have HD4 : Hid (bestL (l.take (i + 1)) = [] ++ [p]) := by
                show bestL (l.take (i + 1)) = [p]
                rw [HT.out.1]
                exact bestL_better hmem htp (HV.out.2.1 hr1)
              refine takeR (i := 9) (v := .bool true) (some 37) rfl rfl (by kernel_rfl) (by kernel_rfl) (by kernel_rfl) (fun _ _ _ h => h) (Or.inl ⟨by kernel_rfl, fun w' hSw => by exact lt0_run (.tmp 36) rfl (by kernel_rfl) (decide_eq_true hr1) w'⟩) hS1 ?_
              simp only [Act.put, List.setIfInBounds_toArray, List.set_cons_zero, List.set_cons_succ]
              refine takeR (i := 10) (v := .bool true) (some 38) rfl rfl (by kernel_rfl) (by kernel_rfl) (by kernel_rfl) (fun _ _ _ h => h) (Or.inl ⟨by kernel_rfl, fun w' hSw => by kernel_rfl⟩) hS1 ?_
              simp only [Act.put, List.setIfInBounds_toArray, List.set_cons_zero, List.set_cons_succ]
              refine wpAnyH_done (by kernel_rfl) ?_ _
              have HP4 : Hid (Blk Z1 bx 61 p.cs ∧ BO w Z1 (.slice (some ⟨g, o, none⟩) 0 cc) [] ∧ (0 : Nat) ≤ i) := ⟨HP.out.1.below hS1 HP.out.1.lt, ⟨row_zero (HRow.out _ (HP.out.2.below hS1)), (HP.out.2.below hS1).bel, HP.out.2.own⟩, Nat.zero_le _⟩
              clear hS0 hS1 HP HD HT ht htp hb0 hmem HV hr0 hr1 HRow HDn
              generalize Z1 = w4 at *
              go_upto_region 7 with fail
              rename_i K hK
              refine wp_region_lit ?_
              refine wpList_runTo rfl (some 39) rfl (.slice (some ⟨g, o, none⟩) dn cc) w4 (by kernel_rfl) ?_
              simp only [Act.put, List.setIfInBounds_toArray, List.set_cons_zero, List.set_cons_succ]
              refine wpList_runTo rfl (some 40) rfl (.slice (some ⟨g, o, none⟩) 0 cc) w4 (by exact cutP_run (n := dn) (k := 0) (.tmp 39) (.const (.int .i64 0)) rfl (by kernel_rfl) rfl (Nat.zero_le _) _) ?_
              simp only [Act.put, List.setIfInBounds_toArray, List.set_cons_zero, List.set_cons_succ]
              refine wpList_runTo rfl (some 3) rfl (.slice (some ⟨g, o, none⟩) 0 cc) w4 (by kernel_rfl) ?_
              simp only [Act.put, List.setIfInBounds_toArray, List.set_cons_zero, List.set_cons_succ]
              refine wpList_nil ?_
              refine hK _ _ ?_
              clear hK
              have HP := HP4
              go_upto_region 8 with fail
              refine wp_region_lit ?_
              refine wpList_runTo rfl (some 41) rfl (.slice (some ⟨g, o, none⟩) 0 cc) w4 (by kernel_rfl) ?_
              simp only [Act.put, List.setIfInBounds_toArray, List.set_cons_zero, List.set_cons_succ]
              refine wpList_runTo rfl (some 42) rfl (.agg p.cs) w4 (by exact ldA_run (blk_range HP4.out.1) Try.underlying61 rfl infoP (.tmp 5) rfl (by kernel_rfl)) ?_
              simp only [Act.put, List.setIfInBounds_toArray, List.set_cons_zero, List.set_cons_succ]
              refine wpList_runTo rfl (some 43) rfl (.slice (some ⟨w4.heap.size, 0, none⟩) 1 1) (w4.alloc (.cells p.cs 61)) (by exact buildPs_run (.tmp 42) rfl (by kernel_rfl) _) ?_
              simp only [Act.put, List.setIfInBounds_toArray, List.set_cons_zero, List.set_cons_succ]
              have hrA : RowAt (w4.alloc (.cells p.cs 61)) 61 3 (.slice (some ⟨g, o, none⟩) 0 cc) 0 (flatL pL []) := HP4.out.2.1.row.fr (Fr.alloc w4 _ (fun _ => False)) fun _ _ => id
              refine wpList_append_row _ rfl (.tmp 41) (.tmp 43) 55 rfl 61 i0 _ 3 24 Try.underlying55 HI.out.1 HI.out.2.1 HI.out.2.2.1 HI.out.2.2.2 (by rfl) (.slice (some ⟨g, o, none⟩) 0 cc) 0 (flatL pL []) (by kernel_rfl) hrA ⟨w4.heap.size, 0, none⟩ 1 1 (pL p) (by kernel_rfl) (by rfl) (fun j u hj => by rw [Addr.add_mid, Nat.zero_add, (Blk.new w4 61 p.cs).cell]; simpa [pL, Pt.cs] using hj) (pL_one p) (Or.inl (by omega)) (by have := HP4.out.2.2; unfold maxLen; omega) (by have := HP4.out.2.2; omega) ?_
              intro v5 w5 hrow hfr hnew
              have HF : Hid (BO w w5 v5 (bestL (l.take (i + 1)))) := by
                show BO w w5 v5 (bestL (l.take (i + 1)))
                rw [HD4.out]
                exact (HP4.out.2.1.below ((Below.refl _ w4).alloc (Nat.le_refl _) _)).app hrow hfr hnew
              clear hrow hfr hnew hrA HP4 HD4 HP
              simp only [Act.put, List.setIfInBounds_toArray, List.set_cons_zero, List.set_cons_succ]
              refine wpList_runTo rfl (some 3) rfl (v5) w5 (by kernel_rfl) ?_
              simp only [Act.put, List.setIfInBounds_toArray, List.set_cons_zero, List.set_cons_succ]
              refine wpList_nil ?_
              apply_assumption
              go_wp2
              exact ⟨⟨i + 1, _, rfl, by omega, by go_num, HF.out⟩, by simp [RowKit.intOf]; omega⟩

            · have HD4 : Hid (bestL (l.take (i + 1)) = D0 ++ [p]) := by
                show bestL (l.take (i + 1)) = D0 ++ [p]
                rw [HT.out.1, HD.out]
                exact bestL_same hmem htp (fun h => hr1 (HV.out.2.2 h)) (fun h => hr0 (HV.out.1.2 h))
              refine takeR (i := 9) (v := .bool false) (some 37) rfl rfl (by kernel_rfl) (by kernel_rfl) (by kernel_rfl) (fun _ _ _ h => h) (Or.inl ⟨by kernel_rfl, fun w' hSw => by exact lt0_run (.tmp 36) rfl (by kernel_rfl) (decide_eq_false hr1) w'⟩) hS1 ?_
              simp only [Act.put, List.setIfInBounds_toArray, List.set_cons_zero, List.set_cons_succ]
              refine takeR (i := 10) (v := .bool false) (some 38) rfl rfl (by kernel_rfl) (by kernel_rfl) (by kernel_rfl) (fun _ _ _ h => h) (Or.inl ⟨by kernel_rfl, fun w' hSw => by kernel_rfl⟩) hS1 ?_
              simp only [Act.put, List.setIfInBounds_toArray, List.set_cons_zero, List.set_cons_succ]
              refine wpAnyH_done (by kernel_rfl) ?_ _
              have HP4 : Hid (Blk Z1 bx 61 p.cs ∧ BO w Z1 (.slice (some ⟨g, o, none⟩) dn cc) D0 ∧ dn ≤ i) := ⟨HP.out.1.below hS1 HP.out.1.lt, HP.out.2.below hS1, by rw [HDn.out]; exact hLn⟩
              have hrow4 := HRow.out _ HP4.out.2.1
              have HRw : Hid (RowAt Z1 61 3 (.slice (some ⟨g, o, none⟩) dn cc) dn (flatL pL D0)) := hrow4
              clear hrow4 hS0 hS1 HT ht htp hb0 hmem HV hr0 hr1 HRow hLn
              generalize Z1 = w4 at *
              go_upto_region 8 with fail
              refine wp_region_lit ?_
              refine wpList_runTo rfl (some 41) rfl (.slice (some ⟨g, o, none⟩) dn cc) w4 (by kernel_rfl) ?_
              simp only [Act.put, List.setIfInBounds_toArray, List.set_cons_zero, List.set_cons_succ]
              refine wpList_runTo rfl (some 42) rfl (.agg p.cs) w4 (by exact ldA_run (blk_range HP4.out.1) Try.underlying61 rfl infoP (.tmp 5) rfl (by kernel_rfl)) ?_
              simp only [Act.put, List.setIfInBounds_toArray, List.set_cons_zero, List.set_cons_succ]
              refine wpList_runTo rfl (some 43) rfl (.slice (some ⟨w4.heap.size, 0, none⟩) 1 1) (w4.alloc (.cells p.cs 61)) (by exact buildPs_run (.tmp 42) rfl (by kernel_rfl) _) ?_
              simp only [Act.put, List.setIfInBounds_toArray, List.set_cons_zero, List.set_cons_succ]
              have hrA : RowAt (w4.alloc (.cells p.cs 61)) 61 3 (.slice (some ⟨g, o, none⟩) dn cc) dn (flatL pL D0) := HRw.out.fr (Fr.alloc w4 _ (fun _ => False)) fun _ _ => id
              refine wpList_append_row _ rfl (.tmp 41) (.tmp 43) 55 rfl 61 i0 _ 3 24 Try.underlying55 HI.out.1 HI.out.2.1 HI.out.2.2.1 HI.out.2.2.2 (by rfl) (.slice (some ⟨g, o, none⟩) dn cc) dn (flatL pL D0) (by kernel_rfl) hrA ⟨w4.heap.size, 0, none⟩ 1 1 (pL p) (by kernel_rfl) (by rfl) (fun j u hj => by rw [Addr.add_mid, Nat.zero_add, (Blk.new w4 61 p.cs).cell]; simpa [pL, Pt.cs] using hj) (pL_one p) (Or.inl (by omega)) (by have := HP4.out.2.2; unfold maxLen; omega) (by have := HP4.out.2.2; omega) ?_
              intro v5 w5 hrow hfr hnew
              have HF : Hid (BO w w5 v5 (bestL (l.take (i + 1)))) := by
                show BO w w5 v5 (bestL (l.take (i + 1)))
                rw [HD4.out]
                exact (HP4.out.2.1.below ((Below.refl _ w4).alloc (Nat.le_refl _) _)).app (by rw [← HDn.out]; exact hrow) hfr hnew
              clear hrow hfr hnew hrA HP4 HD4 HP HD HRw HDn
              simp only [Act.put, List.setIfInBounds_toArray, List.set_cons_zero, List.set_cons_succ]
              refine wpList_runTo rfl (some 3) rfl (v5) w5 (by kernel_rfl) ?_
              simp only [Act.put, List.setIfInBounds_toArray, List.set_cons_zero, List.set_cons_succ]
              refine wpList_nil ?_
              apply_assumption
              go_wp2
              exact ⟨⟨i + 1, _, rfl, by omega, by go_num, HF.out⟩, by simp [RowKit.intOf]; omega⟩

    · have e : i = n := by omega
      subst e
      have HF : Hid (BO w wr xv (bestL l)) := by
        have := HB.out
        rwa [HR.out.2.2, List.take_length] at this
      clear HB
      go_wp2
      go_ret
      exact ⟨_, rfl, HF⟩
end Go.Proofs.Ytbhddfcdnpidkaa
