/-
  auction: do all points have more of one side? (the end of it)
-/
import Derived.Test.YtbhddfcdnpidkaaV8
namespace Go.Proofs.Ytbhddfcdnpidkaa
set_option linter.unusedVariables false
set_option linter.unusedSimpArgs false
open Go.RowKit Go.Great

theorem geq0_run {op : Oper} {a : Act} {p : Int} {r : Bool} (x : Operand) (ho : op.op = .binOp .geq 3 x (.const (.int .i64 0)) 3) (hx : a.eval x = .int .i64 p) (hr : decide (0 ≤ p) = r) (w : World) : (execOp a.eval op).run Try.prog w = .ok (.value (.bool r)) w := by
  have e : a.eval (.const (.int .i64 0)) = .int .i64 0 := rfl
  subst hr
  unfold execOp
  simp only [ho, hx, e]
  go_simp
theorem not_run {op : Oper} {a : Act} {c : Bool} (x : Operand) (ho : op.op = .unOp .not 4 x) (hx : a.eval x = .bool c) (w : World) : (execOp a.eval op).run Try.prog w = .ok (.value (.bool (!c))) w := by
  unfold execOp
  simp only [ho, hx]
  cases c <;> go_simp
set_option maxRecDepth 100000 in
theorem contAll_any (l : List Pt) (s : Int) (sb : Nat) (v : Value) (w : World) (hp : Blk w sb 3 #[.int .i64 s]) (hr : RowAt w 61 3 v l.length (flatL pL l)) (hl : l.length ≤ 9223372036854775806) :
    Calls Try.prog 62 #[v, .func (.func 63) #[] #[.pointer (some ⟨sb, 0, none⟩)]] w fun e w' => ∃ c : Bool, e = .returned (.bool c) ∧ Hid ((c = true ↔ ∃ p ∈ l, p.sd ≠ s) ∧ Below w.heap.size w w') := by
  have h := idxAll_any l s sb v w hp hr hl
  obtain ⟨ao, cap, hv, _⟩ := hr.form
  obtain ⟨n, hn⟩ : ∃ n, n = l.length := ⟨_, rfl⟩
  rw [← hn] at hv
  subst hv
  clear hp hr hl hn
  go_enter Try.func62, Try.ntmps62
  go_upto_region 1 with fail
  refine wp_region_lit ?_
  refine wpList_runTo rfl (some 5) rfl (.slice ao n cap) w (by kernel_rfl) ?_
  simp only [Act.put, List.setIfInBounds_toArray, List.set_cons_zero, List.set_cons_succ]
  refine wpList_runTo rfl (some 6) rfl (.func (.func 63) #[] #[.pointer (some ⟨sb, 0, none⟩)]) w (by kernel_rfl) ?_
  simp only [Act.put, List.setIfInBounds_toArray, List.set_cons_zero, List.set_cons_succ]
  refine wpList_callW rfl (some 7) rfl 72 #[.slice ao n cap, .func (.func 63) #[] #[.pointer (some ⟨sb, 0, none⟩)]] (by kernel_rfl) h ?_
  clear h
  rintro e w2 ⟨z, rfl, hx⟩
  refine ⟨_, rfl, ?_⟩
  simp only [Act.put, List.setIfInBounds_toArray, List.set_cons_zero, List.set_cons_succ]
  obtain ⟨c, hc⟩ : ∃ c, c = decide (0 ≤ z) := ⟨_, rfl⟩
  refine wpList_runTo rfl (some 8) rfl (.bool c) w2 (by exact geq0_run (p := z) (.tmp 7) rfl (by kernel_rfl) hc.symm _) ?_
  simp only [Act.put, List.setIfInBounds_toArray, List.set_cons_zero, List.set_cons_succ]
  refine wpList_runTo rfl (some 4) rfl (.bool c) w2 (by kernel_rfl) ?_
  simp only [Act.put, List.setIfInBounds_toArray, List.set_cons_zero, List.set_cons_succ]
  refine wpList_nil ?_
  have HF : Hid ((c = true ↔ ∃ p ∈ l, p.sd ≠ s) ∧ Below w.heap.size w w2) := ⟨by rw [hc, decide_eq_true_iff]; exact hx.out.1, hx.out.2⟩
  clear hc hx
  go_wp2
  go_ret
  exact ⟨c, rfl, HF.out⟩
set_option maxRecDepth 100000 in
theorem all_any (l : List Pt) (s : Int) (v : Value) (w : World) (hr : RowAt w 61 3 v l.length (flatL pL l)) (hl : l.length ≤ 9223372036854775806) :
    Calls Try.prog 48 #[v, .int .i64 s] w fun e w' => ∃ c : Bool, e = .returned (.bool c) ∧ Hid ((c = true ↔ ∀ p ∈ l, p.sd = s) ∧ Below w.heap.size w w') := by
  have hal : Below w.heap.size w (w.alloc (.cells #[.int .i64 s] 3)) := (Below.refl _ w).alloc (Nat.le_refl _) _
  have h := contAll_any l s w.heap.size v (w.alloc (.cells #[.int .i64 s] 3)) (Blk.new w _ _) (hr.fr (Fr.of_below hal (fun _ => False)) fun _ _ => id) hl
  have HB : Hid (Below w.heap.size w (w.alloc (.cells #[.int .i64 s] 3))) := hal
  obtain ⟨ao, cap, hv, _⟩ := hr.form
  obtain ⟨n, hn⟩ : ∃ n, n = l.length := ⟨_, rfl⟩
  rw [← hn] at hv
  subst hv
  clear hr hl hn hal
  go_enter Try.func48, Try.ntmps48
  go_upto_region 0 with fail
  rename_i K hK
  refine wp_region_lit ?_
  refine wpList_runTo rfl (some 3) rfl (.pointer (some ⟨w.heap.size, 0, none⟩)) (w.alloc (.cells #[.int .i64 s] 3)) (by kernel_rfl) ?_
  simp only [Act.put, List.setIfInBounds_toArray, List.set_cons_zero, List.set_cons_succ]
  refine wpList_runTo rfl (some 4) rfl (.bool false) (w.alloc (.cells #[.int .i64 s] 3)) (by kernel_rfl) ?_
  simp only [Act.put, List.setIfInBounds_toArray, List.set_cons_zero, List.set_cons_succ]
  refine wpList_nil ?_
  refine hK _ _ ?_
  clear hK
  obtain ⟨w1, hw1⟩ : ∃ w1, w1 = w.alloc (.cells #[.int .i64 s] 3) := ⟨_, rfl⟩
  obtain ⟨sb, hsb⟩ : ∃ sb, sb = w.heap.size := ⟨_, rfl⟩
  rw [← hw1, ← hsb] at h
  rw [← hw1] at HB
  rw [← hw1, ← hsb]
  clear hw1 hsb
  go_upto_region 1 with fail
  refine wp_region_lit ?_
  refine wpList_runTo rfl (some 5) rfl (.slice ao n cap) w1 (by kernel_rfl) ?_
  simp only [Act.put, List.setIfInBounds_toArray, List.set_cons_zero, List.set_cons_succ]
  refine wpList_runTo rfl (some 6) rfl (.func (.func 63) #[] #[.pointer (some ⟨sb, 0, none⟩)]) w1 (by kernel_rfl) ?_
  simp only [Act.put, List.setIfInBounds_toArray, List.set_cons_zero, List.set_cons_succ]
  refine wpList_callW rfl (some 7) rfl 62 #[.slice ao n cap, .func (.func 63) #[] #[.pointer (some ⟨sb, 0, none⟩)]] (by kernel_rfl) h ?_
  clear h
  rintro e w2 ⟨c, rfl, hx⟩
  refine ⟨_, rfl, ?_⟩
  simp only [Act.put, List.setIfInBounds_toArray, List.set_cons_zero, List.set_cons_succ]
  obtain ⟨d, hd⟩ : ∃ d, d = !c := ⟨_, rfl⟩
  refine wpList_runTo rfl (some 8) rfl (.bool d) w2 (by rw [hd]; exact not_run (c := c) (.tmp 7) rfl (by kernel_rfl) _) ?_
  simp only [Act.put, List.setIfInBounds_toArray, List.set_cons_zero, List.set_cons_succ]
  refine wpList_runTo rfl (some 4) rfl (.bool d) w2 (by kernel_rfl) ?_
  simp only [Act.put, List.setIfInBounds_toArray, List.set_cons_zero, List.set_cons_succ]
  refine wpList_nil ?_
  have HF : Hid ((d = true ↔ ∀ p ∈ l, p.sd = s) ∧ Below w.heap.size w w2) := by
    refine ⟨?_, below_step HB.out hx.out.2⟩
    have h1 := hx.out.1
    rw [hd]
    constructor
    · intro h2 p hp
      have h3 : c = false := by simpa using h2
      apply Classical.byContradiction
      intro h4
      have := h1.2 ⟨p, hp, h4⟩
      rw [h3] at this; cases this
    · intro h2
      cases hc : c with
      | false => rfl
      | true =>
        obtain ⟨p, hp, h4⟩ := h1.1 hc
        exact absurd (h2 p hp) h4
  clear hd hx HB
  go_wp2
  go_ret
  exact ⟨d, rfl, HF.out⟩
end Go.Proofs.Ytbhddfcdnpidkaa
