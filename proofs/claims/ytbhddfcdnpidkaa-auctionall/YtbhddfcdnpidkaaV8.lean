/-
  auction: do all points have more of one side?
-/
import Derived.Test.YtbhddfcdnpidkaaV6
namespace Go.Proofs.Ytbhddfcdnpidkaa
set_option linter.unusedVariables false
set_option linter.unusedSimpArgs false
open Go.RowKit Go.Great

theorem neqS_run {op : Oper} {a : Act} {p q : Int} {r : Bool} (x y : Operand) (ho : op.op = .binOp .neq 3 x y 3) (hx : a.eval x = .int .i64 p) (hy : a.eval y = .int .i64 q) (hr : decide (p ≠ q) = r) (w : World) : (execOp a.eval op).run Try.prog w = .ok (.value (.bool r)) w := by
  have h1 : (p != q) = r := by rw [← hr]; by_cases h : p = q <;> simp [h]
  unfold execOp
  simp only [ho, hx, hy]
  go_simp
set_option maxRecDepth 100000 in
theorem cloAll_any (w : World) (p : Pt) (sb : Nat) (s : Int) (hsb : Blk w sb 3 #[.int .i64 s]) : Calls Try.prog 63 #[.agg p.cs, .pointer (some ⟨sb, 0, none⟩)] w fun e w' => e = .returned (.bool (decide (p.sd ≠ s))) ∧ Below w.heap.size w w' := by
  have hsd := fun W => side_any W p
  have hA : p.cs.size = 3 := rfl
  generalize p.sd = sd at *
  generalize p.cs = A at *
  obtain ⟨r, hr⟩ : ∃ r, r = decide (sd ≠ s) := ⟨_, rfl⟩
  rw [← hr]
  have H0 : Hid (Below w.heap.size w (w.alloc (.cells A 61)) ∧ Blk (w.alloc (.cells A 61)) w.heap.size 61 A ∧ Blk (w.alloc (.cells A 61)) sb 3 #[.int .i64 s]) := ⟨(Below.refl _ w).alloc (Nat.le_refl _) _, Blk.new w _ _, hsb.alloc _⟩
  clear hsb
  go_enter Try.func63, Try.ntmps63
  go_upto_region 0 with fail
  rename_i K hK
  refine wp_region_lit ?_
  refine wpList_runTo rfl (some 2) rfl (.pointer (some ⟨w.heap.size, 0, none⟩)) (w.alloc (.cells A 61)) (by kernel_rfl) ?_
  simp only [Act.put, List.setIfInBounds_toArray, List.set_cons_zero, List.set_cons_succ]
  refine wpList_runTo rfl (some 3) rfl (.bool false) (w.alloc (.cells A 61)) (by kernel_rfl) ?_
  simp only [Act.put, List.setIfInBounds_toArray, List.set_cons_zero, List.set_cons_succ]
  refine wpList_nil ?_
  refine hK _ _ ?_
  clear hK
  obtain ⟨w1, hw1⟩ : ∃ w1, w1 = w.alloc (.cells A 61) := ⟨_, rfl⟩
  obtain ⟨ba, hba⟩ : ∃ ba, ba = w.heap.size := ⟨_, rfl⟩
  have H1 : Hid (Below w.heap.size w w1 ∧ Blk w1 ba 61 A ∧ Blk w1 sb 3 #[.int .i64 s]) := by rw [hw1, hba]; exact H0.out
  rw [← hw1, ← hba]
  clear H0 hw1 hba
  go_upto_region 1 with fail
  refine wp_region_held (S := fun w' => Blk w' ba 61 A ∧ Blk w' sb 3 #[.int .i64 s]) (by kernel_rfl) ?_
  change wpAnyH _ _ _ _ _ _ _ _ (World.drew _)
  have hd : Below w1.heap.size w1 w1.drew := (Below.refl _ w1).drew
  have hS : Blk w1.drew ba 61 A ∧ Blk w1.drew sb 3 #[.int .i64 s] := ⟨H1.out.2.1.below hd H1.out.2.1.lt, H1.out.2.2.below hd H1.out.2.2.lt⟩
  have HX : Hid (Below w.heap.size w w1.drew) := below_step H1.out.1 hd
  clear H1 hd
  generalize w1.drew = Z at *
  refine takeR (i := 0) (v := .agg A) (some 4) rfl rfl (by kernel_rfl) (by kernel_rfl) (by kernel_rfl) (fun _ _ _ h => h) (Or.inl ⟨by kernel_rfl, fun w' hSw => by exact ldA_run (blk_range hSw.1) Try.underlying61 rfl (by rw [hA]; exact infoP) (.tmp 2) rfl (by kernel_rfl)⟩) hS ?_
  simp only [Act.put, List.setIfInBounds_toArray, List.set_cons_zero, List.set_cons_succ]
  refine takeR (i := 2) (v := .int .i64 s) (some 6) rfl rfl (by kernel_rfl) (by kernel_rfl) (by kernel_rfl) (fun _ _ _ h => h) (Or.inl ⟨by kernel_rfl, fun w' hSw => by have q9 : w'.cell? ⟨sb, 0, none⟩ = some (.int .i64 s) := hSw.2.cell 0; clear hSw; go_simp⟩) hS ?_
  simp only [Act.put, List.setIfInBounds_toArray, List.set_cons_zero, List.set_cons_succ]
  refine wpAnyH_ready (rs := [1]) (by kernel_rfl) (by simp) ?_
  refine AllReadyH.cons rfl (fun K1 hK1 => ?_) AllReadyH.nil
  rw [if_pos (by kernel_rfl)]
  refine callR (d := some 5) rfl 30 #[.agg A] (by kernel_rfl) (hsd Z) ?_
  rintro e Y1 ⟨rfl, hb⟩
  refine ⟨_, rfl, ?_⟩
  have hS1 : Blk Y1 ba 61 A ∧ Blk Y1 sb 3 #[.int .i64 s] := ⟨hS.1.below hb hS.1.lt, hS.2.below hb hS.2.lt⟩
  have HX1 : Hid (Below w.heap.size w Y1) := below_step HX.out hb
  clear hb
  refine hK1.out _ _ hS1 (fun _ => ?_)
  clear hK1
  simp only [Act.put, List.setIfInBounds_toArray, List.set_cons_zero, List.set_cons_succ]
  refine takeR (i := 3) (v := .bool r) (some 7) rfl rfl (by kernel_rfl) (by kernel_rfl) (by kernel_rfl) (fun _ _ _ h => h) (Or.inl ⟨by kernel_rfl, fun w' hSw => by exact neqS_run (p := sd) (q := s) (.tmp 5) (.tmp 6) rfl (by kernel_rfl) (by kernel_rfl) hr.symm _⟩) hS1 ?_
  simp only [Act.put, List.setIfInBounds_toArray, List.set_cons_zero, List.set_cons_succ]
  refine takeR (i := 4) (v := .bool r) (some 3) rfl rfl (by kernel_rfl) (by kernel_rfl) (by kernel_rfl) (fun _ _ _ h => h) (Or.inl ⟨by kernel_rfl, fun w' hSw => by kernel_rfl⟩) hS1 ?_
  simp only [Act.put, List.setIfInBounds_toArray, List.set_cons_zero, List.set_cons_succ]
  refine wpAnyH_done (by kernel_rfl) ?_ _
  clear hS hS1 HX hsd hr
  go_wp2
  go_ret
  exact ⟨rfl, HX1.out⟩
set_option maxRecDepth 100000 in
set_option maxHeartbeats 1000000 in
theorem idxAll_any (l : List Pt) (s : Int) (sb : Nat) (v : Value) (w : World) (hp : Blk w sb 3 #[.int .i64 s]) (hr : RowAt w 61 3 v l.length (flatL pL l)) (hl : l.length ≤ 9223372036854775806) :
    Calls Try.prog 72 #[v, .func (.func 63) #[] #[.pointer (some ⟨sb, 0, none⟩)]] w fun e w' => ∃ z : Int, e = .returned (.int .i64 z) ∧ Hid ((0 ≤ z ↔ ∃ p ∈ l, p.sd ≠ s) ∧ Below w.heap.size w w') := by
  obtain ⟨ao, cap, rfl, _⟩ := hr.form
  have HR : Hid (RowAt w 61 3 (.slice ao l.length cap) l.length (flatL pL l) ∧ Blk w sb 3 #[.int .i64 s]) := ⟨hr, hp⟩
  have hcf : ∀ args w, (callFunc 63 args).run Try.prog w = .ok (.enter 63 args) w := fun args w => by kernel_rfl
  clear hr hp
  obtain ⟨N, hN⟩ : ∃ N, N = l.length := ⟨_, rfl⟩
  have HN : Hid (N = l.length) := hN
  rw [← hN] at HR hl ⊢
  clear hN
  go_enter Try.func72, Try.ntmps72
  go_upto_region 2 with fail
  go_loopw [5, 8] (fun _ i wr => ∃ k : Nat, k ≤ N ∧ i = .int .i64 (k : Int) ∧ Hid ((∀ j b, j < k → l[j]? = some b → b.sd = s) ∧ Below w.heap.size w wr)) (fun _ i _ => N - (RowKit.intOf i).toNat)
  case atStart => exact ⟨0, Nat.zero_le _, rfl, fun j b hj => by omega, Below.refl _ _⟩
  case round =>
    obtain ⟨k, hk, rfl, HI⟩ := hrel
    by_cases hlt : k < N
    · have hlt' : (k : Int) < (N : Int) := by omega
      obtain ⟨b, hb⟩ : ∃ b, l[k]? = some b := ⟨_, List.getElem?_eq_getElem (by rw [← HN.out]; exact hlt)⟩
      have hrow : RowAt wr 61 3 (.slice ao N cap) N (flatL pL l) := HR.out.1.fr (Fr.of_below HI.out.2 (fun _ => False)) fun _ _ => id
      obtain ⟨g, off, cap', _, hv, _⟩ := hrow.more (by omega)
      injection hv with h1 _ h2
      subst h1 h2
      have hrg := row_rangeP hrow hb
      have HC := cloAll_any wr b sb s (HR.out.2.below HI.out.2 HR.out.2.lt)
      have HBk : Hid (l[k]? = some b) := hb
      obtain ⟨A, hA⟩ : ∃ A, A = b.cs := ⟨_, rfl⟩
      have hAs : A.size = 3 := by rw [hA]; rfl
      rw [← hA] at hrg HC
      clear hrow hb hA
      go_upto_region 4 with fail
      rename_i K hK
      refine wp_region_lit ?_
      refine wpList_runTo rfl (some 11) rfl (.func (.func 63) #[] #[.pointer (some ⟨sb, 0, none⟩)]) wr (by kernel_rfl) ?_
      simp only [Act.put, List.setIfInBounds_toArray, List.set_cons_zero, List.set_cons_succ]
      refine wpList_runTo rfl (some 12) rfl (.slice (some ⟨g, off, none⟩) N cap) wr (by kernel_rfl) ?_
      simp only [Act.put, List.setIfInBounds_toArray, List.set_cons_zero, List.set_cons_succ]
      refine wpList_runTo rfl (some 13) rfl (.int .i64 (k : Int)) wr (by kernel_rfl) ?_
      simp only [Act.put, List.setIfInBounds_toArray, List.set_cons_zero, List.set_cons_succ]
      refine wpList_runTo rfl (some 14) rfl (.pointer (some ⟨g, off + k * 3, none⟩)) wr (by exact ixP_run (n := N) (c := cap) (.tmp 12) (.tmp 13) rfl (by kernel_rfl) (by kernel_rfl) hlt wr) ?_
      simp only [Act.put, List.setIfInBounds_toArray, List.set_cons_zero, List.set_cons_succ]
      refine wpList_runTo rfl (some 15) rfl (.agg A) wr (by exact ldA_run hrg Try.underlying61 rfl (by rw [hAs]; exact infoP) (.tmp 14) rfl (by kernel_rfl)) ?_
      simp only [Act.put, List.setIfInBounds_toArray, List.set_cons_zero, List.set_cons_succ]
      refine wpList_callW rfl (some 16) rfl 63 #[.agg A, .pointer (some ⟨sb, 0, none⟩)] (by kernel_rfl) HC ?_
      clear HC hrg
      rintro e w2 ⟨rfl, hb2⟩
      refine ⟨_, rfl, ?_⟩
      simp only [Act.put, List.setIfInBounds_toArray, List.set_cons_zero, List.set_cons_succ]
      refine wpList_nil ?_
      refine hK _ _ ?_
      clear hK hAs
      by_cases hac : b.sd = s
      · have HF : Hid ((∀ j b, j < k + 1 → l[j]? = some b → b.sd = s) ∧ Below w.heap.size w w2) := ⟨fun j b' hj hb' => by
          by_cases e : j = k
          · subst e
            rw [HBk.out] at hb'
            cases hb'
            exact hac
          · exact HI.out.1 j b' (by omega) hb', below_step HI.out.2 hb2⟩
        rw [decide_eq_false (fun h => h hac)]
        clear hac hb2 HI HBk
        go_wp2
        exact ⟨⟨k + 1, by omega, by go_num, HF.out⟩, by simp [RowKit.intOf]; omega⟩
      · have HF : Hid ((0 ≤ (k : Int) ↔ ∃ p ∈ l, p.sd ≠ s) ∧ Below w.heap.size w w2) := ⟨⟨fun _ => ⟨b, List.mem_of_getElem? HBk.out, hac⟩, fun _ => by omega⟩, below_step HI.out.2 hb2⟩
        rw [decide_eq_true hac]
        clear hac hb2 HI HBk
        go_wp2
        go_ret
        exact ⟨_, rfl, HF.out⟩
    · have hin : k = N := by omega
      subst hin
      have HF : Hid ((0 ≤ (-1 : Int) ↔ ∃ p ∈ l, p.sd ≠ s) ∧ Below w.heap.size w wr) := ⟨⟨fun h => by omega, fun ⟨p, hp, hs⟩ => by
        obtain ⟨j, hj⟩ := List.getElem?_of_mem hp
        exact absurd (HI.out.1 j p (by have := (List.getElem?_eq_some_iff.1 hj).1; have := HN.out; omega) hj) hs⟩, HI.out.2⟩
      clear HI
      go_wp2
      go_ret
      exact ⟨_, rfl, HF.out⟩
end Go.Proofs.Ytbhddfcdnpidkaa
