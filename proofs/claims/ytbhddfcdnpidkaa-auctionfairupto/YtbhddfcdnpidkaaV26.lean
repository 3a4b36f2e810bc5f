/-
  auction: less.
-/
import Derived.Test.YtbhddfcdnpidkaaV24
namespace Go.Proofs.Ytbhddfcdnpidkaa
set_option linter.unusedVariables false
set_option linter.unusedSimpArgs false
open Go.RowKit Go.Great
attribute [local irreducible] wpList

/-- The first of a row gives q. -/
def lessL (q : Int) : List Wn → List Wn
  | [] => []
  | v :: l => if v.q - q = 0 then l else ⟨v.id, v.m, v.p, v.q - q⟩ :: l
theorem wpList_skipW' {P : Program} {ops : Array Oper} {rest : List Oper} {op : Oper} {a : Act} {w w' : World} {Q : Exit → Act → World → Prop} (hg : op.guard = none) (d : Option Tmp) (hd : op.dst = d) (hrun : (execOp a.eval op).run P w = .ok .skip w') (h : wpList P ops Q rest (a.put d undef) w') : wpList P ops Q (op :: rest) a w := by
  subst hd
  refine wpList_plain hg fun K hK => ?_
  unfold Oper.wp
  rw [hrun]
  exact hK _ _ h
theorem stN_run' {op : Oper} {a : Act} {w : World} {g o : Nat} {z z0 : Int} {T : TypeId} (hT : T = 2 ∨ T = 3) (x y : Operand) (ho : op.op = .store T x y) (hx : a.eval x = .pointer (some ⟨g, o, none⟩)) (hy : a.eval y = .int .i64 z) (h : w.cell? ⟨g, o, none⟩ = some (.int .i64 z0)) (hf : w.frozen? ⟨g, o, none⟩ = false) : (execOp a.eval op).run Try.prog w = .ok .skip (w.setCell ⟨g, o, none⟩ (.int .i64 z)) := by
  unfold execOp
  simp only [ho, hx, hy]
  rcases hT with rfl | rfl <;> go_simp
set_option maxRecDepth 100000 in
set_option maxHeartbeats 1000000 in
theorem less_any {w : World} {g o n c : Nat} {v : Wn} {l : List Wn} (h : RowAt w 69 4 (.slice (some ⟨g, o, none⟩) n c) n (flatL wL (v :: l))) (hn : n = l.length + 1) (q : Int) (hq : -9223372036854775808 ≤ v.q - q ∧ v.q - q ≤ 9223372036854775807) :
    Calls Try.prog 34 #[.slice (some ⟨g, o, none⟩) n c, .int .i64 q] w fun e w' => ∃ v', e = .returned v' ∧ Hid (RowAt w' 69 4 v' (lessL q (v :: l)).length (flatL wL (lessL q (v :: l))) ∧ Fr w w' (fun b => b = g) ∧ v'.ownBlock = some g) := by
  have c3 : w.cell? ⟨g, o + 3, none⟩ = some (.int .i64 v.q) := h.cell rfl (j := 3) rfl
  have f3 : w.frozen? ⟨g, o + 3, none⟩ = false := h.frozen rfl _
  have h2 := h.set (j := 3) (by simp [flatL, wL]) (.int .i64 (v.q - q))
  rw [show (flatL wL (v :: l)).set 3 (.int .i64 (v.q - q)) = flatL wL (⟨v.id, v.m, v.p, v.q - q⟩ :: l) from rfl] at h2
  have hfr : Fr w (w.setCell ⟨g, o + 3, none⟩ (.int .i64 (v.q - q))) (fun b => b = g) := Fr.setCell w ⟨g, o + 3, none⟩ _ _ rfl
  have c4 : (w.setCell ⟨g, o + 3, none⟩ (.int .i64 (v.q - q))).cell? ⟨g, o + 3, none⟩ = some (.int .i64 (v.q - q)) := h2.cell rfl (j := 3) rfl
  have H2 : Hid (RowAt (w.setCell ⟨g, o + 3, none⟩ (.int .i64 (v.q - q))) 69 4 (.slice (some ⟨g, o, none⟩) n c) n (flatL wL (⟨v.id, v.m, v.p, v.q - q⟩ :: l)) ∧ Fr w (w.setCell ⟨g, o + 3, none⟩ (.int .i64 (v.q - q))) (fun b => b = g)) := ⟨h2, hfr⟩
  have hn0 : 0 < n := by omega
  clear h h2 hfr
  generalize hvq : v.q = vq at *
  have HV : Hid (v.q = vq) := hvq
  clear hvq
  generalize hZ : w.setCell ⟨g, o + 3, none⟩ (.int .i64 (vq - q)) = Z at *
  go_enter Try.func34, Try.ntmps34
  go_upto_region 1 with fail
  rename_i K hK
  refine wp_region_lit ?_
  refine wpList_runTo rfl (some 5) rfl (.slice (some ⟨g, o, none⟩) n c) w (by kernel_rfl) ?_
  simp only [Act.put, List.setIfInBounds_toArray, List.set_cons_zero, List.set_cons_succ]
  refine wpList_runTo rfl (some 6) rfl (.pointer (some ⟨g, o + 0 * 4, none⟩)) w (by exact ixW_run (i := 0) (n := n) (c := c) (.tmp 5) (.const (.int .i64 0)) rfl (by kernel_rfl) rfl hn0 _) ?_
  simp only [Act.put, List.setIfInBounds_toArray, List.set_cons_zero, List.set_cons_succ]
  refine wpList_runTo rfl (some 7) rfl (.pointer (some ⟨g, o + 3, none⟩)) w (by kernel_rfl) ?_
  simp only [Act.put, List.setIfInBounds_toArray, List.set_cons_zero, List.set_cons_succ]
  refine wpList_runTo rfl (some 8) rfl (.int .i64 vq) w (by exact ldN_run (.inl rfl) (.tmp 7) rfl (by kernel_rfl) c3) ?_
  simp only [Act.put, List.setIfInBounds_toArray, List.set_cons_zero, List.set_cons_succ]
  refine wpList_runTo rfl (some 9) rfl (.int .i64 q) w (by kernel_rfl) ?_
  simp only [Act.put, List.setIfInBounds_toArray, List.set_cons_zero, List.set_cons_succ]
  refine wpList_runTo rfl (some 10) rfl (.int .i64 (vq - q)) w (by exact subW_run (.tmp 8) (.tmp 9) rfl (by kernel_rfl) (by kernel_rfl) hq _) ?_
  simp only [Act.put, List.setIfInBounds_toArray, List.set_cons_zero, List.set_cons_succ]
  refine wpList_runTo rfl (some 11) rfl (.pointer (some ⟨g, o + 0 * 4, none⟩)) w (by exact ixW_run (i := 0) (n := n) (c := c) (.tmp 5) (.const (.int .i64 0)) rfl (by kernel_rfl) rfl hn0 _) ?_
  simp only [Act.put, List.setIfInBounds_toArray, List.set_cons_zero, List.set_cons_succ]
  refine wpList_runTo rfl (some 12) rfl (.pointer (some ⟨g, o + 3, none⟩)) w (by kernel_rfl) ?_
  simp only [Act.put, List.setIfInBounds_toArray, List.set_cons_zero, List.set_cons_succ]
  refine wpList_skipW' rfl none rfl (w' := w.setCell ⟨g, o + 3, none⟩ (.int .i64 (vq - q))) (stN_run' (.inl rfl) (.tmp 12) (.tmp 10) rfl (by kernel_rfl) (by kernel_rfl) c3 f3) ?_
  simp only [Act.put, List.setIfInBounds_toArray, List.set_cons_zero, List.set_cons_succ]
  rw [hZ]
  clear hZ c3 f3
  refine wpList_nil ?_
  refine hK _ _ ?_
  clear hK
  go_upto_region 2 with fail
  rename_i K hK
  refine wp_region_lit ?_
  refine wpList_runTo rfl (some 13) rfl (.slice (some ⟨g, o, none⟩) n c) Z (by kernel_rfl) ?_
  simp only [Act.put, List.setIfInBounds_toArray, List.set_cons_zero, List.set_cons_succ]
  refine wpList_runTo rfl (some 14) rfl (.pointer (some ⟨g, o + 0 * 4, none⟩)) Z (by exact ixW_run (i := 0) (n := n) (c := c) (.tmp 13) (.const (.int .i64 0)) rfl (by kernel_rfl) rfl hn0 _) ?_
  simp only [Act.put, List.setIfInBounds_toArray, List.set_cons_zero, List.set_cons_succ]
  refine wpList_runTo rfl (some 15) rfl (.pointer (some ⟨g, o + 3, none⟩)) Z (by kernel_rfl) ?_
  simp only [Act.put, List.setIfInBounds_toArray, List.set_cons_zero, List.set_cons_succ]
  refine wpList_runTo rfl (some 16) rfl (.int .i64 (vq - q)) Z (by exact ldN_run (.inl rfl) (.tmp 15) rfl (by kernel_rfl) c4) ?_
  simp only [Act.put, List.setIfInBounds_toArray, List.set_cons_zero, List.set_cons_succ]
  clear c4
  by_cases hz : vq - q = 0
  ·
    refine wpList_runTo rfl (some 17) rfl (.bool true) Z (by exact eq0_run (.inl rfl) (.tmp 16) rfl (by kernel_rfl) (decide_eq_true hz) _) ?_
    simp only [Act.put, List.setIfInBounds_toArray, List.set_cons_zero, List.set_cons_succ]
    refine wpList_nil ?_
    refine hK _ _ ?_
    clear hK
    have HF : Hid (RowAt Z 69 4 (.slice (if c = 1 then some ⟨g, o, none⟩ else some ⟨g, o + 4, none⟩) (n - 1) (c - 1)) (lessL q (v :: l)).length (flatL wL (lessL q (v :: l))) ∧ Fr w Z (fun b => b = g) ∧ (Value.slice (if c = 1 then some ⟨g, o, none⟩ else some ⟨g, o + 4, none⟩) (n - 1) (c - 1)).ownBlock = some g) := by
      have hz' : v.q - q = 0 := by rw [HV.out]; exact hz
      have e : lessL q (v :: l) = l := if_pos hz'
      rw [e]
      have := rowW_from H2.out.1 hn0
      rw [show n - 1 = l.length by omega] at this ⊢
      exact ⟨this, H2.out.2, by split <;> rfl⟩
    clear H2
    go_upto_region 3 with fail
    rename_i K hK
    refine wp_region_lit ?_
    refine wpList_runTo rfl (some 18) rfl (.slice (some ⟨g, o, none⟩) n c) Z (by kernel_rfl) ?_
    simp only [Act.put, List.setIfInBounds_toArray, List.set_cons_zero, List.set_cons_succ]
    refine wpList_runTo rfl (some 19) rfl (.slice (if c = 1 then some ⟨g, o, none⟩ else some ⟨g, o + 4, none⟩) (n - 1) (c - 1)) Z (by exact fromW_run (.tmp 18) rfl (by kernel_rfl) hn0 _) ?_
    simp only [Act.put, List.setIfInBounds_toArray, List.set_cons_zero, List.set_cons_succ]
    generalize Value.slice (if c = 1 then some (⟨g, o, none⟩ : Addr) else some ⟨g, o + 4, none⟩) (n - 1) (c - 1) = v9 at *
    refine wpList_runTo rfl (some 4) rfl (v9) Z (by kernel_rfl) ?_
    simp only [Act.put, List.setIfInBounds_toArray, List.set_cons_zero, List.set_cons_succ]
    refine wpList_nil ?_
    refine hK _ _ ?_
    clear hK
    go_wp2
    go_ret
    exact ⟨_, rfl, HF⟩
  ·
    refine wpList_runTo rfl (some 17) rfl (.bool false) Z (by exact eq0_run (.inl rfl) (.tmp 16) rfl (by kernel_rfl) (decide_eq_false hz) _) ?_
    simp only [Act.put, List.setIfInBounds_toArray, List.set_cons_zero, List.set_cons_succ]
    refine wpList_nil ?_
    refine hK _ _ ?_
    clear hK
    have HF : Hid (RowAt Z 69 4 (.slice (some ⟨g, o, none⟩) n c) (lessL q (v :: l)).length (flatL wL (lessL q (v :: l))) ∧ Fr w Z (fun b => b = g) ∧ (Value.slice (some ⟨g, o, none⟩) n c).ownBlock = some g) := by
      have hz' : ¬ v.q - q = 0 := by rw [HV.out]; exact hz
      have e : lessL q (v :: l) = ⟨v.id, v.m, v.p, v.q - q⟩ :: l := if_neg hz'
      rw [e]
      have := H2.out.1
      rw [← HV.out] at this
      exact ⟨by rw [List.length_cons, ← hn]; exact this, H2.out.2, rfl⟩
    clear H2
    go_wp2
    go_ret
    exact ⟨_, rfl, HF⟩
end Go.Proofs.Ytbhddfcdnpidkaa
