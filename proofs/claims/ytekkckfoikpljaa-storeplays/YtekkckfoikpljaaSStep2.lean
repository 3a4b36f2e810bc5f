/-
  StorePlays: step, New.
-/
import Derived.Test.YtekkckfoikpljaaSStep1
namespace Go.Proofs.Ytekkckfoikpljaa
set_option linter.unusedVariables false
set_option linter.unusedSimpArgs false
open Go.RowKit Go.Great

theorem infoR2 : ∃ i, Try.prog.info? 69 = some i ∧ i.zero = some (.agg #[.pointer none, .pointer none]) ∧ i.size = 2 ∧ i.bytes = 16 := by
  have h : (Try.prog.info? 69).map (fun i => (i.zero, i.size, i.bytes)) = some (some (.agg #[.pointer none, .pointer none]), 2, 16) := by kernel_rfl
  obtain ⟨i, hi, he⟩ := Option.map_eq_some_iff.1 h
  injection he with h1 h2
  injection h2 with h2 h3
  exact ⟨i, hi, h1, h2, h3⟩
/-- A pair more. -/
theorem St.pair {W w0 w : World} {pw : Nat} {ps : List PR} {hs : List Hd} {vP vH : Value} {N : Nat} (h0 : St W w0 pw ps hs vP vH N) (hsm : Sm w0 w) {P : PR} (hp : PrAt w P) (hl : P.ev.length ≤ N) (ho : ∀ b, P.own b → w0.heap.size ≤ b) (hn : ps.length ≤ 100000) (ty : TypeId) :
    ∃ v' w8, (Builtin.append_ #[48, 48] ty #[vP, .slice (some ⟨w.heap.size, 0, none⟩) 1 1]).run Try.prog (w.alloc (.cells (pairV P).toArray 69)) = .ok v' w8 ∧
      w8.cell? ⟨pw, 0, none⟩ = some vP ∧ w8.frozen? ⟨pw, 0, none⟩ = false ∧ St W (w8.setCell ⟨pw, 0, none⟩ v') pw (ps ++ [P]) hs v' vH N ∧ ∃ ao cp, v' = .slice ao (ps.length + 1) cp := by
  obtain ⟨i, hi, hz, hsz, hby⟩ := infoR2
  have hF7 : Fr w (w.alloc (.cells (pairV P).toArray 69)) (fun _ => False) := Fr.alloc _ _ _
  have hb7 : (w.alloc (.cells (pairV P).toArray 69)).heap[w.heap.size]? = some (.cells (pairV P).toArray 69 (0, 0)) := heap_alloc_new w _
  generalize w.alloc (.cells (pairV P).toArray 69) = w7 at *
  have hsm7 : Sm w0 w7 := hsm.trans hF7
  have h7 := h0.sm hsm7
  have hp7 : PrAt w7 P := hp.ty ((Sm.ty hF7).mono fun _ _ => trivial)
  obtain ⟨v', w8, hr, hrow, hf, hnw⟩ := run_append_row (P := Try.prog) w7 48 ty 69 i _ 2 16 Try.underlying48 hi hz hsz hby (by kernel_rfl) vP ps.length (flatL pairV ps) h7.ws.prow ⟨w.heap.size, 0, none⟩ 1 1 (pairV P) rfl
    (fun j u hj => by rw [Addr.add_mid, cell_of_row _ _ _ _ _ _ hb7, Nat.zero_add, List.getElem?_toArray]; exact hj) (fun u hu => by simp [pairV] at hu; rcases hu with rfl | rfl <;> rfl) (.inl (by decide)) (by unfold maxLen; omega) (by omega)
  have hbt : ∀ b cur e, vP.ownBlock = some b → w7.heap[b]? = some (.cells cur e (0, 0)) → e = 69 := fun b cur e hb h1 => by
    obtain ⟨_, c2, h2⟩ := h7.ws.prow.lt hb
    exact obj_type h1 h2
  have ht : Ty w7 w8 (fun e => e ≠ 69) := Ty.of_fr hf fun b cur e hb h1 hn => hn (hbt b cur e hb h1)
  have hb8 := ht.blk _ _ _ h7.ws.blk (by decide)
  have hset : Fr w8 (w8.setCell ⟨pw, 0, none⟩ v') (fun b => b = pw) := Fr.setCell _ _ _ _ rfl
  have ht2 : Ty w8 (w8.setCell ⟨pw, 0, none⟩ v') (fun e => e ≠ 51) := Ty.of_fr hset fun b cur e hb h1 hn => hn (by subst hb; exact obj_type h1 hb8)
  have htt : Ty w7 (w8.setCell ⟨pw, 0, none⟩ v') (fun e => e ≠ 69 ∧ e ≠ 51) := (ht.mono fun e he => he.1).trans (ht2.mono fun e he => he.2)
  have hts : Ty w7 (w8.setCell ⟨pw, 0, none⟩ v') TS := htt.mono fun e he => by rcases he with rfl | rfl | rfl | rfl | rfl <;> decide
  have hnew : ∀ b, v'.ownBlock = some b → W.heap.size ≤ b := fun b hb => by
    rcases hnw with q | ⟨q, _⟩
    · rw [q] at hb; exact h0.lo.vP b hb
    · rw [q] at hb; injection hb with hb; have := h7.below.size; omega
  refine ⟨v', w8, hr, cell_at hb8 rfl, frozen_of_row w8 pw 0 _ _ hb8, ⟨⟨?_, ?_, ?_, h7.ws.hrow.ty htt (by decide), fun y hy => (h7.ws.hs y hy).ty htt (by decide) (by decide)⟩, ⟨h0.lo.pw, fun j Q hj b hb => ?_, hnew, h0.lo.vH⟩, ?_⟩, ?_⟩
  · rw [setCell_eq_setRow w8 pw 0 _ _ _ _ hb8]; exact setRow_heap _ _ _ _ _ _ hb8
  · rw [List.length_append, flatL_app, flatL_one]
    exact hrow.ty ht2 (by decide)
  · exact h0.ws.ps.add ((hsm7.ty.mono fun _ _ => trivial).trans hts) (hp7.ty hts) hl ho
  · rcases get_snoc hj with ⟨_, hj⟩ | ⟨_, rfl⟩
    · exact h0.lo.ps j Q hj b hb
    · exact Nat.le_trans h0.below.size (ho b hb)
  · have hfr : Fr w7 (w8.setCell ⟨pw, 0, none⟩ v') (fun b => vP.ownBlock = some b ∨ b = pw) := hf.trans hset fun b _ q => q
    exact h7.below.trans (hfr.below h7.below.size fun b hb q => by
      rcases q with q | q
      · have := h0.lo.vP b q; omega
      · have := h0.lo.pw; omega)
  · obtain ⟨ao, cp, e, _⟩ := hrow.form
    exact ⟨ao, cp, e⟩
theorem pr_new (w : World) (K : Nat) (h1 : 1 ≤ K) (h2 : K ≤ 200) : PrAt ((w.alloc (.cells (stC K 1 0 (.slice none 0 0) (.slice none 0 0)) 59)).alloc (.cells (rfC K (.slice none 0 0) (.slice none 0 0)) 77)) ⟨w.heap.size, (w.alloc (.cells (stC K 1 0 (.slice none 0 0) (.slice none 0 0)) 59)).heap.size, K, [], .slice none 0 0, .slice none 0 0, .slice none 0 0, .slice none 0 0⟩ := by
  refine ⟨(st_new w K).fr (Fr.alloc _ _ fun _ => False) (fun _ _ h => h), rf_new _ K, h1, h2, fun b hb hc => ?_⟩
  have e1 : b = w.heap.size := by
    rcases hb with q | q | q
    · exact q
    · cases q
    · cases q
  have e2 : b = (w.alloc (.cells (stC K 1 0 (.slice none 0 0) (.slice none 0 0)) 59)).heap.size := by
    rcases hc with q | q | q
    · exact q
    · cases q
    · cases q
  have : w.heap.size < (w.alloc (.cells (stC K 1 0 (.slice none 0 0) (.slice none 0 0)) 59)).heap.size := by simp
  omega
set_option maxRecDepth 100000 in
set_option maxHeartbeats 4000000 in
theorem step_new {W w : World} {pw : Nat} {ps : List PR} {hs : List Hd} {vP vH : Value} {N : Nat} (on a b many : Int) (M : Msg) (h : St W w pw ps hs vP vH N) (hp1 : ps.length ≤ 80000) :
    Calls Try.prog 15 #[.pointer (some ⟨pw, 0, none⟩), .agg (stV 1 on a b many M).toArray] w fun e w' => e = .returned (.bool true) ∧ ∃ ps' vP', St W w' pw ps' hs vP' vH N ∧ ps'.length ≤ ps.length + 1 ∧ ps.length ≤ ps'.length ∧ (1 ≤ a ∧ a ≤ 200 → ps'.length = ps.length + 1) := by
  have h3 : (w.alloc (.cells (stV 1 on a b many M).toArray 54)).heap[w.heap.size]? = some (.cells (stV 1 on a b many M).toArray 54 (0, 0)) := heap_alloc_new w _
  have hSm : Sm w (w.alloc (.cells (stV 1 on a b many M).toArray 54)) := Fr.alloc w _ _
  have c0 : (w.alloc (.cells (stV 1 on a b many M).toArray 54)).cell? ⟨w.heap.size, 0, none⟩ = some (.int .i64 1) := cell_at h3 rfl
  have c2 : (w.alloc (.cells (stV 1 on a b many M).toArray 54)).cell? ⟨w.heap.size, 2, none⟩ = some (.int .i64 a) := cell_at h3 rfl
  have HX1 : Hid (St W w pw ps hs vP vH N ∧ Sm w (w.alloc (.cells (stV 1 on a b many M).toArray 54)) ∧ w.heap.size < (w.alloc (.cells (stV 1 on a b many M).toArray 54)).heap.size) := ⟨h, hSm, by simp⟩
  have HP1 : Hid (ps.length ≤ 80000) := hp1
  have hvP := h.ws.prow.form
  clear h h3 hSm hp1
  generalize hw1 : w.alloc (.cells (stV 1 on a b many M).toArray 54) = w1 at *
  generalize hg3 : w.heap.size = g3 at *
  generalize hsv : (stV 1 on a b many M).toArray = sv at *
  clear hsv
  obtain ⟨aP, cP, hvPe, -⟩ := hvP
  by_cases hg : 1 ≤ a ∧ a ≤ 200
  · obtain ⟨K, hK⟩ : ∃ K : Nat, a = K := ⟨a.toNat, by omega⟩
    subst hK
    have hnew := New_yes K K rfl (by omega) (by omega) w1
    have hpn := pr_new w1 K (by omega) (by omega)
    have hsz2 : w1.heap.size < (w1.alloc (.cells (stC K 1 0 (.slice none 0 0) (.slice none 0 0)) 59)).heap.size := by simp
    have hsm2 : Sm w1 (w1.alloc (.cells (stC K 1 0 (.slice none 0 0) (.slice none 0 0)) 59)) := Fr.alloc w1 _ _
    have c2' : (w1.alloc (.cells (stC K 1 0 (.slice none 0 0) (.slice none 0 0)) 59)).cell? ⟨g3, 2, none⟩ = some (.int .i64 (K : Int)) := Fr.cell hsm2 c2 (fun q => q)
    generalize w1.alloc (.cells (stC K 1 0 (.slice none 0 0) (.slice none 0 0)) 59) = w2 at *
    have href := refNew_yes K K rfl (by omega) (by omega) w2
    have hsm3 : Sm w2 (w2.alloc (.cells (rfC K (.slice none 0 0) (.slice none 0 0)) 77)) := Fr.alloc w2 _ _
    generalize w2.alloc (.cells (rfC K (.slice none 0 0) (.slice none 0 0)) 77) = w3 at *
    generalize hgp : w1.heap.size = gp at *
    generalize hgq : w2.heap.size = gq at *
    have HG : Hid (g3 < gp ∧ gp < gq) := ⟨by have := HX1.out.2.2; omega, by omega⟩
    have HS3 : Hid (Sm w w3 ∧ PrAt w3 ⟨gp, gq, K, [], .slice none 0 0, .slice none 0 0, .slice none 0 0, .slice none 0 0⟩) := ⟨HX1.out.2.1.trans (hsm2.trans hsm3), hpn⟩
    clear hpn hsm2 hsm3 hsz2
    go_enter Try.func15, Try.ntmps15
    go_upto_region 2 with fail
    clear hw1
    go_wp2_with (go_at_call 14; fail)
    refine hnew.mono ?_
    rintro e wx ⟨rfl, ew⟩
    replace ew := ew.symm
    subst ew
    clear hnew c0 c2
    go_wp2_with (go_at_call 23; fail)
    refine href.mono ?_
    rintro e wx ⟨rfl, ew⟩
    replace ew := ew.symm
    subst ew
    clear href c2'
    obtain ⟨v', w8, hrun, q1, q2, hst8, av', cv', rfl⟩ := HX1.out.1.pair HS3.out.1 HS3.out.2 (Nat.zero_le _) (fun b hb => by
      have h1 := HG.out
      rcases hb with (q | q | q) | (q | q | q)
      · have q' : b = gp := q; omega
      · cases q
      · cases q
      · have q' : b = gq := q; omega
      · cases q
      · cases q) (by have := HP1.out; omega) 48
    have c4 : w3.cell? ⟨pw, 0, none⟩ = some vP := cell_at (HX1.out.1.ws.ty HS3.out.1.ty).blk rfl
    have HS8 : Hid _ := hst8
    clear hst8
    subst hvPe
    go_upto_region 5 with fail
    rename_i Kc hKc
    refine wp_region_lit ?_
    refine wpList_runTo rfl (some 37) rfl (.pointer (some ⟨pw, 0, none⟩)) w3 (by kernel_rfl) ?_
    simp only [Act.put, List.setIfInBounds_toArray, List.set_cons_zero, List.set_cons_succ]
    refine wpList_runTo rfl (some 38) rfl (.pointer (some ⟨pw, 0, none⟩)) w3 (by kernel_rfl) ?_
    simp only [Act.put, List.setIfInBounds_toArray, List.set_cons_zero, List.set_cons_succ]
    refine wpList_runTo rfl (some 39) rfl (.pointer (some ⟨pw, 0, none⟩)) w3 (by kernel_rfl) ?_
    simp only [Act.put, List.setIfInBounds_toArray, List.set_cons_zero, List.set_cons_succ]
    refine wpList_runTo rfl (some 40) rfl (.pointer (some ⟨pw, 0, none⟩)) w3 (by kernel_rfl) ?_
    simp only [Act.put, List.setIfInBounds_toArray, List.set_cons_zero, List.set_cons_succ]
    refine wpList_runTo rfl (some 41) rfl (.slice aP ps.length cP) w3 (by go_simp) ?_
    simp only [Act.put, List.setIfInBounds_toArray, List.set_cons_zero, List.set_cons_succ]
    refine wpList_runTo rfl (some 42) rfl (.pointer (some ⟨gp, 0, none⟩)) w3 (by kernel_rfl) ?_
    simp only [Act.put, List.setIfInBounds_toArray, List.set_cons_zero, List.set_cons_succ]
    refine wpList_runTo rfl (some 43) rfl (.pointer (some ⟨gq, 0, none⟩)) w3 (by kernel_rfl) ?_
    simp only [Act.put, List.setIfInBounds_toArray, List.set_cons_zero, List.set_cons_succ]
    refine wpList_runTo rfl (some 44) rfl (.agg #[.pointer (some ⟨gp, 0, none⟩), .pointer (some ⟨gq, 0, none⟩)]) w3 (by kernel_rfl) ?_
    simp only [Act.put, List.setIfInBounds_toArray, List.set_cons_zero, List.set_cons_succ]
    refine wpList_runTo rfl (some 45) rfl (.slice (some ⟨w3.heap.size, 0, none⟩) 1 1) (w3.alloc (.cells #[.pointer (some ⟨gp, 0, none⟩), .pointer (some ⟨gq, 0, none⟩)] 69)) (by kernel_rfl) ?_
    simp only [Act.put, List.setIfInBounds_toArray, List.set_cons_zero, List.set_cons_succ]
    refine wpList_runTo rfl (some 46) rfl (.slice av' (ps.length + 1) cv') w8 (exec_append (.tmp 41) (.tmp 45) 48 rfl (by kernel_rfl) (by kernel_rfl) hrun) ?_
    simp only [Act.put, List.setIfInBounds_toArray, List.set_cons_zero, List.set_cons_succ]
    clear hrun
    refine wpList_runTo rfl (some 47) rfl (.pointer (some ⟨pw, 0, none⟩)) w8 (by kernel_rfl) ?_
    simp only [Act.put, List.setIfInBounds_toArray, List.set_cons_zero, List.set_cons_succ]
    refine wpList_runTo rfl (some 48) rfl (.pointer (some ⟨pw, 0, none⟩)) w8 (by kernel_rfl) ?_
    simp only [Act.put, List.setIfInBounds_toArray, List.set_cons_zero, List.set_cons_succ]
    refine wpList_plain rfl fun K1 hK1 => ?_
    refine skipR (d := none) (w' := w8.setCell ⟨pw, 0, none⟩ (.slice av' (ps.length + 1) cv')) rfl (by go_simp) ?_
    refine hK1 _ _ ?_
    simp only [Act.put, List.setIfInBounds_toArray, List.set_cons_zero, List.set_cons_succ]
    refine wpList_nil ?_
    refine hKc _ _ ?_
    clear hKc hK1 q1 q2 c4
    generalize w8.setCell ⟨pw, 0, none⟩ (.slice av' (ps.length + 1) cv') = w9 at *
    go_wp2
    go_ret
    exact ⟨rfl, _, _, HS8.out, by simp, by simp, fun _ => by simp⟩
  · have hn : a < 1 ∨ 200 < a := by omega
    have hnew := New_no a hn w1
    have href := refNew_no a hn w1
    go_enter Try.func15, Try.ntmps15
    go_upto_region 2 with fail
    clear hw1
    go_wp2_with (go_at_call 14; fail)
    refine hnew.mono ?_
    rintro e wx ⟨rfl, ew⟩
    replace ew := ew.symm
    subst ew
    go_wp2_with (go_at_call 23; fail)
    refine href.mono ?_
    rintro e wx ⟨rfl, ew⟩
    replace ew := ew.symm
    subst ew
    clear hnew href
    have HE : Hid (St W w1 pw ps hs vP vH N) := HX1.out.1.sm HX1.out.2.1
    go_wp2
    go_ret
    exact ⟨rfl, ps, vP, HE.out, by omega, by omega, fun q => absurd q hg⟩
end Go.Proofs.Ytekkckfoikpljaa
