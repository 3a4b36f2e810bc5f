/-
  auction: the point that is chosen.
-/
import Derived.Test.YtbhddfcdnpidkaaV9
namespace Go.Proofs.Ytbhddfcdnpidkaa
set_option linter.unusedVariables false
set_option linter.unusedSimpArgs false
open Go.RowKit Go.Great

theorem lenM_run {op : Oper} {a : Act} {n : Nat} (x : Operand) (ho : op.op = .binOp .sub 3 x (.const (.int .i64 1)) 3) (hx : a.eval x = .int .i64 (n : Int)) (h0 : 0 < n) (h1 : n ≤ 9223372036854775806) (w : World) : (execOp a.eval op).run Try.prog w = .ok (.value (.int .i64 ((n - 1 : Nat) : Int))) w := by
  have e : a.eval (.const (.int .i64 1)) = .int .i64 1 := rfl
  have h3 : IntKind.i64.wrap ((n : Int) - 1) = ((n - 1 : Nat) : Int) := by rw [IntKind.wrap_i64]; omega
  unfold execOp
  simp only [ho, hx, e]
  go_simp
/-- Where chosen stands. -/
def CH (w W : World) (b4 : Nat) : Prop := Below w.heap.size w W ∧ w.heap.size ≤ b4 ∧ Blk W b4 61 #[.int .i64 0, .int .i64 0, .int .i64 0]
theorem CH.below {w W W' : World} {b4 : Nat} (h : CH w W b4) (hb : Below W.heap.size W W') : CH w W' b4 := ⟨below_step h.1 hb, h.2.1, h.2.2.below hb h.2.2.lt⟩
set_option maxRecDepth 100000 in
set_option maxHeartbeats 1000000 in
theorem chosen_any {w : World} {l : List Pt} {a : Option Addr} {c : Nat} (hr : RowAt w 61 3 (.slice a l.length c) l.length (flatL pL l)) (hne : 0 < l.length) (hin : ∀ p ∈ l, inP p) (hl : l.length ≤ 9223372036854775806) (ref : Int) (href : 0 ≤ ref ∧ ref ≤ 1000000000) :
    Calls Try.prog 27 #[.slice a l.length c, .int .i64 ref] w fun e w' => ∃ r : Pt, e = .returned (.agg r.cs) ∧ Hid (chsV ref l = some r ∧ Below w.heap.size w w') := by
  obtain ⟨n, hn⟩ : ∃ n, n = l.length := ⟨_, rfl⟩
  rw [← hn] at hr hne hl ⊢
  obtain ⟨g, o, c', cur, ea, _⟩ := hr.more hne
  injection ea with ea1 _ ea2
  subst ea1 ea2
  have HR : Hid (RowAt w 61 3 (.slice (some ⟨g, o, none⟩) n c) n (flatL pL l) ∧ (∀ p ∈ l, inP p) ∧ n = l.length ∧ 0 ≤ ref ∧ ref ≤ 1000000000) := ⟨hr, hin, hn, href⟩
  have H0 : Hid (CH w (w.alloc (.cells #[.int .i64 0, .int .i64 0, .int .i64 0] 61)) w.heap.size) := ⟨(Below.refl _ w).alloc (Nat.le_refl _) _, Nat.le_refl _, Blk.new w _ _⟩
  clear hr hin hn href
  go_enter Try.func27, Try.ntmps27
  go_upto_region 0 with fail
  rename_i K hK
  refine wp_region_lit ?_
  refine wpList_runTo rfl (some 4) rfl (.pointer (some ⟨w.heap.size, 0, none⟩)) (w.alloc (.cells #[.int .i64 0, .int .i64 0, .int .i64 0] 61)) (by kernel_rfl) ?_
  simp only [Act.put, List.setIfInBounds_toArray, List.set_cons_zero, List.set_cons_succ]
  refine wpList_nil ?_
  refine hK _ _ ?_
  clear hK
  obtain ⟨w1, hw1⟩ : ∃ w1, w1 = w.alloc (.cells #[.int .i64 0, .int .i64 0, .int .i64 0] 61) := ⟨_, rfl⟩
  obtain ⟨b4, hb4⟩ : ∃ b4, b4 = w.heap.size := ⟨_, rfl⟩
  rw [← hw1, ← hb4] at H0 ⊢
  clear hw1 hb4
  have row : ∀ W, Below w.heap.size w W → RowAt W 61 3 (.slice (some ⟨g, o, none⟩) n c) n (flatL pL l) := fun W hW => HR.out.1.fr (Fr.of_below hW (fun _ => False)) fun _ _ => id
  have HRow : Hid (∀ W, Below w.heap.size w W → RowAt W 61 3 (.slice (some ⟨g, o, none⟩) n c) n (flatL pL l)) := row
  have h1 : Calls Try.prog 48 #[.slice (some ⟨g, o, none⟩) n c, .int .i64 1] w1 fun e w' => ∃ c : Bool, e = .returned (.bool c) ∧ Hid ((c = true ↔ ∀ p ∈ l, p.sd = 1) ∧ Below w1.heap.size w1 w') := by
    have := row w1 H0.out.1
    rw [HR.out.2.2.1] at this ⊢
    exact all_any l 1 _ w1 this (by rw [← HR.out.2.2.1]; exact hl)
  clear row
  go_upto_region 1 with fail
  rename_i K hK
  refine wp_region_lit ?_
  refine wpList_runTo rfl (some 5) rfl (.slice (some ⟨g, o, none⟩) n c) w1 (by kernel_rfl) ?_
  simp only [Act.put, List.setIfInBounds_toArray, List.set_cons_zero, List.set_cons_succ]
  refine wpList_callW rfl (some 6) rfl 48 #[.slice (some ⟨g, o, none⟩) n c, .int .i64 1] (by kernel_rfl) h1 ?_
  clear h1
  rintro e w2 ⟨c1, rfl, hx⟩
  refine ⟨_, rfl, ?_⟩
  simp only [Act.put, List.setIfInBounds_toArray, List.set_cons_zero, List.set_cons_succ]
  refine wpList_nil ?_
  refine hK _ _ ?_
  clear hK
  have H2 : Hid (CH w w2 b4) := H0.out.below hx.out.2
  have HC1 : Hid (c1 = true ↔ ∀ p ∈ l, p.sd = 1) := hx.out.1
  clear H0 hx
  cases c1 with
  | true =>
    obtain ⟨r, hr⟩ : ∃ r, l[n - 1]? = some r := ⟨_, List.getElem?_eq_getElem (by rw [← HR.out.2.2.1]; omega)⟩
    have hrg := row_rangeP (HRow.out w2 H2.out.1) hr
    have HS : Hid (chsV ref l = some r) := by
      show chsV ref l = some r
      unfold chsV
      rw [if_pos (HC1.out.1 rfl), List.getLast?_eq_getElem?, ← HR.out.2.2.1]
      exact hr
    have hn1 : n - 1 < n := by omega
    clear HC1 hr HRow
    go_upto_region 2 with fail
    rename_i K hK
    refine wp_region_lit ?_
    refine wpList_runTo rfl (some 7) rfl (.slice (some ⟨g, o, none⟩) n c) w2 (by kernel_rfl) ?_
    simp only [Act.put, List.setIfInBounds_toArray, List.set_cons_zero, List.set_cons_succ]
    refine wpList_runTo rfl (some 8) rfl (.slice (some ⟨g, o, none⟩) n c) w2 (by kernel_rfl) ?_
    simp only [Act.put, List.setIfInBounds_toArray, List.set_cons_zero, List.set_cons_succ]
    refine wpList_runTo rfl (some 9) rfl (.int .i64 (n : Int)) w2 (by exact lenP_run (v := .slice (some ⟨g, o, none⟩) n c) rfl (.tmp 8) rfl (by kernel_rfl) _) ?_
    simp only [Act.put, List.setIfInBounds_toArray, List.set_cons_zero, List.set_cons_succ]
    refine wpList_runTo rfl (some 10) rfl (.int .i64 ((n - 1 : Nat) : Int)) w2 (by exact lenM_run (.tmp 9) rfl (by kernel_rfl) hne hl _) ?_
    simp only [Act.put, List.setIfInBounds_toArray, List.set_cons_zero, List.set_cons_succ]
    refine wpList_runTo rfl (some 11) rfl (.pointer (some ⟨g, o + (n - 1) * 3, none⟩)) w2 (by exact ixP_run (n := n) (c := c) (.tmp 7) (.tmp 10) rfl (by kernel_rfl) (by kernel_rfl) hn1 _) ?_
    simp only [Act.put, List.setIfInBounds_toArray, List.set_cons_zero, List.set_cons_succ]
    refine wpList_runTo rfl (some 12) rfl (.agg r.cs) w2 (by exact ldA_run hrg Try.underlying61 rfl infoP (.tmp 11) rfl (by kernel_rfl)) ?_
    simp only [Act.put, List.setIfInBounds_toArray, List.set_cons_zero, List.set_cons_succ]
    refine wpList_plain rfl fun K1 hK1 => ?_
    refine wp_store_row 61 (.tmp 4) (.tmp 12) rfl b4 r.cs (by kernel_rfl) (by kernel_rfl) 61 #[.int .i64 0, .int .i64 0, .int .i64 0] H2.out.2.2 infoP rfl (by first | rfl | kernel_rfl | (simp [Pt.cs, Value.oneCell'])) ?_
    refine hK1 _ _ ?_
    clear hK1
    refine wpList_nil ?_
    refine hK _ _ ?_
    clear hK
    apply wp_ret
    try simp only [Exit.inBlock, Exit.then]
    show bodyPost Try.prog Try.f27 _ Exit.ret _ _
    refine bodyPost_ret (results_cell_row (fn := Try.f27) (p := 4) (ty := 61) rfl _ _ b4 61 r.cs (0, 0) _ (by kernel_rfl) (setRow_heap _ _ _ _ _ _ H2.out.2.2) Try.underlying61 rfl infoP) (by kernel_rfl) ⟨r, rfl, HS.out, below_setRow H2.out.1 H2.out.2.1 _⟩
  | false =>
    have h2 : Calls Try.prog 48 #[.slice (some ⟨g, o, none⟩) n c, .int .i64 2] w2 fun e w' => ∃ c : Bool, e = .returned (.bool c) ∧ Hid ((c = true ↔ ∀ p ∈ l, p.sd = 2) ∧ Below w2.heap.size w2 w') := by
      have := HRow.out w2 H2.out.1
      rw [HR.out.2.2.1] at this ⊢
      exact all_any l 2 _ w2 this (by rw [← HR.out.2.2.1]; exact hl)
    go_upto_region 3 with fail
    rename_i K hK
    refine wp_region_lit ?_
    refine wpList_runTo rfl (some 13) rfl (.slice (some ⟨g, o, none⟩) n c) w2 (by kernel_rfl) ?_
    simp only [Act.put, List.setIfInBounds_toArray, List.set_cons_zero, List.set_cons_succ]
    refine wpList_callW rfl (some 14) rfl 48 #[.slice (some ⟨g, o, none⟩) n c, .int .i64 2] (by kernel_rfl) h2 ?_
    clear h2
    rintro e w3 ⟨c2, rfl, hx⟩
    refine ⟨_, rfl, ?_⟩
    simp only [Act.put, List.setIfInBounds_toArray, List.set_cons_zero, List.set_cons_succ]
    refine wpList_nil ?_
    refine hK _ _ ?_
    clear hK
    have H3 : Hid (CH w w3 b4) := H2.out.below hx.out.2
    have HC2 : Hid (c2 = true ↔ ∀ p ∈ l, p.sd = 2) := hx.out.1
    have hno : ¬ ∀ p ∈ l, p.sd = 1 := fun h => by have := HC1.out.2 h; cases this
    clear H2 hx HC1
    obtain ⟨r0, hr0⟩ : ∃ r, l[0]? = some r := ⟨_, List.getElem?_eq_getElem (by rw [← HR.out.2.2.1]; omega)⟩
    cases c2 with
    | true =>
      have hrg := row_rangeP (HRow.out w3 H3.out.1) hr0
      have HS : Hid (chsV ref l = some r0) := by
        show chsV ref l = some r0
        unfold chsV
        rw [if_neg hno, if_pos (HC2.out.1 rfl), List.head?_eq_getElem?]
        exact hr0
      clear HC2 hr0 HRow hno
      go_upto_region 4 with fail
      rename_i K hK
      refine wp_region_lit ?_
      refine wpList_runTo rfl (some 15) rfl (.slice (some ⟨g, o, none⟩) n c) w3 (by kernel_rfl) ?_
      simp only [Act.put, List.setIfInBounds_toArray, List.set_cons_zero, List.set_cons_succ]
      refine wpList_runTo rfl (some 16) rfl (.pointer (some ⟨g, o + 0 * 3, none⟩)) w3 (by exact ixP_run (i := 0) (n := n) (c := c) (.tmp 15) (.const (.int .i64 0)) rfl (by kernel_rfl) rfl hne _) ?_
      simp only [Act.put, List.setIfInBounds_toArray, List.set_cons_zero, List.set_cons_succ]
      refine wpList_runTo rfl (some 17) rfl (.agg r0.cs) w3 (by exact ldA_run hrg Try.underlying61 rfl infoP (.tmp 16) rfl (by kernel_rfl)) ?_
      simp only [Act.put, List.setIfInBounds_toArray, List.set_cons_zero, List.set_cons_succ]
      refine wpList_plain rfl fun K1 hK1 => ?_
      refine wp_store_row 61 (.tmp 4) (.tmp 17) rfl b4 r0.cs (by kernel_rfl) (by kernel_rfl) 61 #[.int .i64 0, .int .i64 0, .int .i64 0] H3.out.2.2 infoP rfl (by first | rfl | kernel_rfl | (simp [Pt.cs, Value.oneCell'])) ?_
      refine hK1 _ _ ?_
      clear hK1
      refine wpList_nil ?_
      refine hK _ _ ?_
      clear hK
      apply wp_ret
      try simp only [Exit.inBlock, Exit.then]
      show bodyPost Try.prog Try.f27 _ Exit.ret _ _
      refine bodyPost_ret (results_cell_row (fn := Try.f27) (p := 4) (ty := 61) rfl _ _ b4 61 r0.cs (0, 0) _ (by kernel_rfl) (setRow_heap _ _ _ _ _ _ H3.out.2.2) Try.underlying61 rfl infoP) (by kernel_rfl) ⟨r0, rfl, HS.out, below_setRow H3.out.1 H3.out.2.1 _⟩
    | false =>
      have hno2 : ¬ ∀ p ∈ l, p.sd = 2 := fun h => by have := HC2.out.2 h; cases this
      obtain ⟨r, hr⟩ : ∃ r, r = nearF ref l r0 := ⟨_, rfl⟩
      have HS : Hid (chsV ref l = some r) := by
        show chsV ref l = some r
        unfold chsV
        rw [if_neg hno, if_neg hno2, List.head?_eq_getElem?, hr0, hr]
      have h4 : Calls Try.prog 49 #[.slice (some ⟨g, o, none⟩) n c, .int .i64 ref] w3 fun e w' => e = .returned (.agg r.cs) ∧ Hid (Below w3.heap.size w3 w') := by
        have := HRow.out w3 H3.out.1
        rw [HR.out.2.2.1] at this ⊢
        rw [hr]
        exact nearest_any this hr0 HR.out.2.1 (by have := HR.out.2.2.1; omega) ref HR.out.2.2.2
      clear HC2 hr0 HRow hno hno2 hr
      go_upto_region 5 with fail
      rename_i K hK
      refine wp_region_lit ?_
      refine wpList_runTo rfl (some 18) rfl (.slice (some ⟨g, o, none⟩) n c) w3 (by kernel_rfl) ?_
      simp only [Act.put, List.setIfInBounds_toArray, List.set_cons_zero, List.set_cons_succ]
      refine wpList_runTo rfl (some 19) rfl (.int .i64 ref) w3 (by kernel_rfl) ?_
      simp only [Act.put, List.setIfInBounds_toArray, List.set_cons_zero, List.set_cons_succ]
      refine wpList_callW rfl (some 20) rfl 49 #[.slice (some ⟨g, o, none⟩) n c, .int .i64 ref] (by kernel_rfl) h4 ?_
      clear h4
      rintro e w4 ⟨rfl, hx⟩
      refine ⟨_, rfl, ?_⟩
      simp only [Act.put, List.setIfInBounds_toArray, List.set_cons_zero, List.set_cons_succ]
      have H4 : Hid (CH w w4 b4) := H3.out.below hx.out
      clear H3 hx
      refine wpList_plain rfl fun K1 hK1 => ?_
      refine wp_store_row 61 (.tmp 4) (.tmp 20) rfl b4 r.cs (by kernel_rfl) (by kernel_rfl) 61 #[.int .i64 0, .int .i64 0, .int .i64 0] H4.out.2.2 infoP rfl (by first | rfl | kernel_rfl | (simp [Pt.cs, Value.oneCell'])) ?_
      refine hK1 _ _ ?_
      clear hK1
      refine wpList_nil ?_
      refine hK _ _ ?_
      clear hK
      apply wp_ret
      try simp only [Exit.inBlock, Exit.then]
      show bodyPost Try.prog Try.f27 _ Exit.ret _ _
      refine bodyPost_ret (results_cell_row (fn := Try.f27) (p := 4) (ty := 61) rfl _ _ b4 61 r.cs (0, 0) _ (by kernel_rfl) (setRow_heap _ _ _ _ _ _ H4.out.2.2) Try.underlying61 rfl infoP) (by kernel_rfl) ⟨r, rfl, HS.out, below_setRow H4.out.1 H4.out.2.1 _⟩
end Go.Proofs.Ytbhddfcdnpidkaa
