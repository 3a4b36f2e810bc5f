/-
  store: skipTo.
-/
import Derived.Test.YtekkckfoikpljaaSCut
namespace Go.Proofs.Ytekkckfoikpljaa
set_option linter.unusedVariables false
set_option linter.unusedSimpArgs false
open Go.RowKit Go.Great

/-- Where the next part begins. -/
def lastTo (l : List (Pt Msg)) (a : Nat) : Nat := match l.getLast? with
  | some p => p.to + 1
  | none => a
def skipL (l : List (Pt Msg)) (a nx : Nat) : List (Pt Msg) := if lastTo l a < nx then l ++ [⟨lastTo l a, nx - 1, false, none⟩] else l
theorem ptL_one (p : Pt Msg) : ∀ u ∈ ptL p, u.oneCell' = true := fun u hu => by
  unfold ptL at hu
  simp only [List.cons_append, List.nil_append, List.mem_cons] at hu
  rcases hu with rfl | rfl | rfl | hu
  · rfl
  · rfl
  · rfl
  · exact Array.all_eq_true_iff_forall_mem.1 (ptM p).one u (by simpa using hu)
theorem zeroP_run : (Try.prog.info? 36).map (fun i => (i.zero, i.size, i.bytes)) = some (some (.agg (ptL ⟨0, 0, false, none⟩).toArray), 45, 424) := by kernel_rfl
theorem infoP' : ∃ i, Try.prog.info? 36 = some i ∧ i.zero = some (.agg (ptL ⟨0, 0, false, none⟩).toArray) ∧ i.size = 45 ∧ i.bytes = 424 := by
  obtain ⟨i, hi, he⟩ := Option.map_eq_some_iff.1 zeroP_run
  injection he with h1 h2
  injection h2 with h2 h3
  exact ⟨i, hi, h1, h2, h3⟩
set_option maxRecDepth 100000 in
set_option maxHeartbeats 4000000 in
theorem skipTo_any {w : World} {v : Value} {n a m : Nat} (l : List (Pt Msg)) (hl : l.length = n) (hr : RowAt w 36 45 v n (flatL ptL l)) (hn : n ≤ 1000000000) (ha : a ≤ 10000000000) (hm : m ≤ 10000000000) (hto : ∀ p, p ∈ l → p.to ≤ 10000000000) :
    Calls Try.prog 19 #[v, .int .i64 (a : Int), .int .i64 ((m : Int) + 1)] w fun e w' => ∃ v', e = .returned v' ∧ RowAt w' 36 45 v' (skipL l a (m + 1)).length (flatL ptL (skipL l a (m + 1))) ∧ Fr w w' (fun b => v.ownBlock = some b) ∧ newer w v v' := by
  obtain ⟨ao, cap, rfl, hcap⟩ := hr.form
  have HR : Hid (RowAt w 36 45 (.slice ao n cap) n (flatL ptL l) ∧ l.length = n) := ⟨hr, hl⟩
  obtain ⟨L, hL⟩ : ∃ L, L = lastTo l a := ⟨_, rfl⟩
  have HL : Hid (L = lastTo l a) := hL
  have hLb : L ≤ 10000000001 := by
    rw [hL]; unfold lastTo
    split
    · next p hp => have := hto p (List.mem_of_getLast? hp); omega
    · omega
  obtain ⟨i1, hi1, hx0, hx1, hx2⟩ := infoP'
  have HAL : Hid (RowAt (w.alloc (.cells (ptL ⟨L, m, false, none⟩).toArray 36)) 36 45 (.slice ao n cap) n (flatL ptL l)) := hr.fr (Fr.alloc w _ fun _ => False) (fun _ _ h => h)
  have HNEW : Hid (∀ j u, (ptL ⟨L, m, false, none⟩)[j]? = some u → (w.alloc (.cells (ptL ⟨L, m, false, none⟩).toArray 36)).cell? ((⟨w.heap.size, 0, none⟩ : Addr).add j) = some u) := World.news_of_block (cs := (ptL ⟨L, m, false, none⟩).toArray) (t := 36) (fr := (0, 0)) (heap_alloc_new w _)
  have hb1 : (m : Int) + 1 - 1 = (m : Int) := by omega
  have hb2 : (m : Int) + 1 < 9223372036854775808 := by omega
  have hb3 : (m : Int) < 9223372036854775808 := by omega
  have hb4 : IntKind.i64.wrap (m : Int) = (m : Int) := by rw [IntKind.wrap_i64]; omega
  obtain ⟨R, hRE⟩ : ∃ R, R = skipL l a (m + 1) := ⟨_, rfl⟩
  rw [← hRE]
  have HRE : Hid (R = skipL l a (m + 1)) := hRE
  clear hRE
  rcases List.eq_nil_or_concat l with hl0 | ⟨l', p, hlp⟩
  · have hn0 : n = 0 := by rw [← hl, hl0]; rfl
    have hLa : L = a := by rw [hL, hl0]; rfl
    clear hL hr hl hto hl0
    subst hn0 hLa
    by_cases hlt : L < m + 1
    · have hlt' : (L : Int) < (m : Int) + 1 := by omega
      go_enter Try.func19, Try.ntmps19
      go_upto_region 4 with fail
      rename_i Kc hKc
      refine wp_region_lit ?_
      refine wpList_runTo rfl (some 21) rfl (.slice ao 0 cap) w (by kernel_rfl) ?_
      simp only [Act.put, List.setIfInBounds_toArray, List.set_cons_zero, List.set_cons_succ]
      refine wpList_runTo rfl (some 22) rfl (.int .i64 (L : Int)) w (by kernel_rfl) ?_
      simp only [Act.put, List.setIfInBounds_toArray, List.set_cons_zero, List.set_cons_succ]
      refine wpList_runTo rfl (some 23) rfl (.int .i64 ((m : Int) + 1)) w (by kernel_rfl) ?_
      simp only [Act.put, List.setIfInBounds_toArray, List.set_cons_zero, List.set_cons_succ]
      refine wpList_runTo rfl (some 24) rfl (.int .i64 (m : Int)) w (by go_simp) ?_
      simp only [Act.put, List.setIfInBounds_toArray, List.set_cons_zero, List.set_cons_succ]
      refine wpList_runTo rfl (some 25) rfl (.agg (ptL ⟨L, m, false, none⟩).toArray) w (by kernel_rfl) ?_
      simp only [Act.put, List.setIfInBounds_toArray, List.set_cons_zero, List.set_cons_succ]
      refine wpList_runTo rfl (some 26) rfl (.slice (some ⟨w.heap.size, 0, none⟩) 1 1) (w.alloc (.cells (ptL ⟨L, m, false, none⟩).toArray 36)) (by kernel_rfl) ?_
      simp only [Act.put, List.setIfInBounds_toArray, List.set_cons_zero, List.set_cons_succ]
      refine wpList_append_row _ rfl _ _ 29 rfl 36 i1 _ 45 424 Try.underlying29 hi1 hx0 hx1 hx2 (by rw [Value.cells]; simp [ptL_len]) (.slice ao 0 cap) 0 (flatL ptL l) rfl HAL.out ⟨w.heap.size, 0, none⟩ 1 1 (ptL ⟨L, m, false, none⟩) rfl (by rw [ptL_len]) HNEW.out (ptL_one _) (.inl (by decide)) (by unfold maxLen; omega) (by omega) ?_
      intro v' w4 hrow hfr hnew
      simp only [Act.put, List.setIfInBounds_toArray, List.set_cons_zero, List.set_cons_succ]
      obtain ⟨ao2, cap2, rfl, _⟩ := hrow.form
      refine wpList_runTo rfl (some 0) rfl (.slice ao2 (0 + 1) cap2) w4 (by kernel_rfl) ?_
      simp only [Act.put, List.setIfInBounds_toArray, List.set_cons_zero, List.set_cons_succ]
      refine wpList_nil ?_
      refine hKc _ _ ?_
      have HC : Hid _ := And.intro hrow (And.intro hfr hnew)
      clear hrow hfr hnew hKc hi1 hx0 hx1 hx2
      generalize hpcs : (ptL ⟨L, m, false, none⟩).toArray = pcs at *
      go_wp2
      go_ret
      have e1 : R = l ++ [⟨L, m, false, none⟩] := by rw [HRE.out]; unfold skipL; rw [← HL.out, if_pos hlt]; rfl
      refine ⟨_, rfl, ?_, ?_, ?_⟩
      · rw [e1, List.length_append, HR.out.2, flatL_app, flatL_one]; exact HC.out.1
      · exact (Fr.alloc w (.cells pcs 36) fun _ => False).trans HC.out.2.1 fun i _ q => by rcases q with q | q; exact q.elim; exact q
      · rcases HC.out.2.2 with q | ⟨q, _⟩
        · exact .inl q
        · exact .inr ⟨_, q, by simp⟩
    · have hlt' : ¬ (L : Int) < (m : Int) + 1 := by omega
      go_enter Try.func19, Try.ntmps19
      go_wp2
      go_ret
      have e1 : R = l := by rw [HRE.out]; unfold skipL; rw [← HL.out, if_neg hlt]
      refine ⟨_, rfl, ?_, Fr.refl _ _, .inl rfl⟩
      rw [e1, HR.out.2]; exact HR.out.1
  · rw [List.concat_eq_append] at hlp
    obtain ⟨l1, hl1⟩ : ∃ l1, n = l1 + 1 := ⟨l'.length, by rw [← hl, hlp]; simp⟩
    have hL1 : l'.length = l1 := by have := hl; rw [hlp, hl1] at this; simpa using this
    subst hl1
    have hLp : L = p.to + 1 := by rw [hL, hlp]; simp [lastTo]
    obtain ⟨g, off, cap', cur, e1, -⟩ := hr.more (by omega)
    injection e1 with e1 _ e2
    subst e1 e2
    have hpt := hto p (by rw [hlp]; simp)
    have c4 : w.cell? ⟨g, off + (l1 * 45 + 1), none⟩ = some (.int .i64 (p.to : Int)) := hr.cell rfl (by rw [flatL_get ptL_len (a := p) (by rw [hlp, ← hL1]; exact get_snoc_last _ _) (by decide)]; rfl)
    rw [← Nat.add_assoc] at c4
    clear hL hr hl hto hlp hL1
    generalize p.to = pt at *
    have hLi : (pt : Int) + 1 = (L : Int) := by omega
    have hpb : (pt : Int) < 9223372036854775807 := by omega
    have HLp : Hid (L = pt + 1) := hLp
    clear hLp
    by_cases hlt : L < m + 1
    · have hlt' : (L : Int) < (m : Int) + 1 := by omega
      go_enter Try.func19, Try.ntmps19
      go_upto_region 4 with fail
      rename_i Kc hKc
      refine wp_region_lit ?_
      refine wpList_runTo rfl (some 21) rfl (.slice (some ⟨g, off, none⟩) (l1 + 1) cap) w (by kernel_rfl) ?_
      simp only [Act.put, List.setIfInBounds_toArray, List.set_cons_zero, List.set_cons_succ]
      refine wpList_runTo rfl (some 22) rfl (.int .i64 (L : Int)) w (by kernel_rfl) ?_
      simp only [Act.put, List.setIfInBounds_toArray, List.set_cons_zero, List.set_cons_succ]
      refine wpList_runTo rfl (some 23) rfl (.int .i64 ((m : Int) + 1)) w (by kernel_rfl) ?_
      simp only [Act.put, List.setIfInBounds_toArray, List.set_cons_zero, List.set_cons_succ]
      refine wpList_runTo rfl (some 24) rfl (.int .i64 (m : Int)) w (by go_simp) ?_
      simp only [Act.put, List.setIfInBounds_toArray, List.set_cons_zero, List.set_cons_succ]
      refine wpList_runTo rfl (some 25) rfl (.agg (ptL ⟨L, m, false, none⟩).toArray) w (by kernel_rfl) ?_
      simp only [Act.put, List.setIfInBounds_toArray, List.set_cons_zero, List.set_cons_succ]
      refine wpList_runTo rfl (some 26) rfl (.slice (some ⟨w.heap.size, 0, none⟩) 1 1) (w.alloc (.cells (ptL ⟨L, m, false, none⟩).toArray 36)) (by kernel_rfl) ?_
      simp only [Act.put, List.setIfInBounds_toArray, List.set_cons_zero, List.set_cons_succ]
      refine wpList_append_row _ rfl _ _ 29 rfl 36 i1 _ 45 424 Try.underlying29 hi1 hx0 hx1 hx2 (by rw [Value.cells]; simp [ptL_len]) (.slice (some ⟨g, off, none⟩) (l1 + 1) cap) (l1 + 1) (flatL ptL l) rfl HAL.out ⟨w.heap.size, 0, none⟩ 1 1 (ptL ⟨L, m, false, none⟩) rfl (by rw [ptL_len]) HNEW.out (ptL_one _) (.inl (by decide)) (by unfold maxLen; omega) (by omega) ?_
      intro v' w4 hrow hfr hnew
      simp only [Act.put, List.setIfInBounds_toArray, List.set_cons_zero, List.set_cons_succ]
      obtain ⟨ao2, cap2, rfl, _⟩ := hrow.form
      refine wpList_runTo rfl (some 0) rfl (.slice ao2 ((l1 + 1) + 1) cap2) w4 (by kernel_rfl) ?_
      simp only [Act.put, List.setIfInBounds_toArray, List.set_cons_zero, List.set_cons_succ]
      refine wpList_nil ?_
      refine hKc _ _ ?_
      have HC : Hid _ := And.intro hrow (And.intro hfr hnew)
      clear hrow hfr hnew hKc hi1 hx0 hx1 hx2
      generalize hpcs : (ptL ⟨L, m, false, none⟩).toArray = pcs at *
      go_wp2
      go_ret
      have e1 : R = l ++ [⟨L, m, false, none⟩] := by rw [HRE.out]; unfold skipL; rw [← HL.out, if_pos hlt]; rfl
      refine ⟨_, rfl, ?_, ?_, ?_⟩
      · rw [e1, List.length_append, HR.out.2, flatL_app, flatL_one]; exact HC.out.1
      · exact (Fr.alloc w (.cells pcs 36) fun _ => False).trans HC.out.2.1 fun i _ q => by rcases q with q | q; exact q.elim; exact q
      · rcases HC.out.2.2 with q | ⟨q, _⟩
        · exact .inl q
        · exact .inr ⟨_, q, by simp⟩
    · have hlt' : ¬ (L : Int) < (m : Int) + 1 := by omega
      go_enter Try.func19, Try.ntmps19
      go_wp2
      go_ret
      have e1 : R = l := by rw [HRE.out]; unfold skipL; rw [← HL.out, if_neg hlt]
      refine ⟨_, rfl, ?_, Fr.refl _ _, .inl rfl⟩
      rw [e1, HR.out.2]; exact HR.out.1
end Go.Proofs.Ytekkckfoikpljaa
