/-
  StorePlays: step, but for New.
-/
import Derived.Test.YtekkckfoikpljaaSStep0
namespace Go.Proofs.Ytekkckfoikpljaa
set_option linter.unusedVariables false
set_option linter.unusedSimpArgs false
open Go.RowKit Go.Great

theorem cutAt {K : Act → World → Prop} {G : Prop} {A : Act} {Wd : World} (h1 : K A Wd → G) (h2 : K A Wd) : G := h1 h2
theorem loadPr_run {op : Oper} {a : Act} {w : World} {g o : Nat} {P : PR} (h : w.rangeAt g o (pairV P)) (t : Operand) (ho : op.op = .load 69 t) (hx : a.eval t = .pointer (some ⟨g, o, none⟩)) : (execOp a.eval op).run Try.prog w = .ok (.value (.agg (pairV P).toArray)) w := by
  have hl := run_loadVar_mid (P := Try.prog) w g o 69 (pairV P) _ h Try.underlying69 rfl (by rw [pairV_len]; kernel_rfl)
  unfold execOp
  simp only [ho, hx, Instr.loadAt, Instr.sureAddr, Sem.run_bind, Sem.run_pure, Result.andThen_ok, hl]
theorem row_pr {w : World} {ps : List PR} {g o n c i : Nat} {P : PR} (h : RowAt w 69 2 (.slice (some ⟨g, o, none⟩) n c) n (flatL pairV ps)) (hi : ps[i]? = some P) : w.rangeAt g (o + i * 2) (pairV P) := fun j u hu => by
  have hj : j < 2 := by have := (List.getElem?_eq_some_iff.1 hu).1; rw [pairV_len] at this; exact this
  rw [Nat.add_assoc]
  exact h.cell rfl (by rw [flatL_get pairV_len hi hj]; exact hu)
theorem ixR_run {op : Oper} {a : Act} {g o n c i : Nat} (x y : Operand) (ho : op.op = .indexAddr 48 x y) (hx : a.eval x = .slice (some ⟨g, o, none⟩) n c) (hy : a.eval y = .int .i64 (i : Int)) (hi : i < n) (w : World) : (execOp a.eval op).run Try.prog w = .ok (.value (.pointer (some ⟨g, o + i * 2, none⟩))) w := by
  have h1 : (i : Int) < (n : Int) := by omega
  have h2 : ¬ (n : Int) ≤ (i : Int) := by omega
  unfold execOp
  simp only [ho, hx, hy]
  go_simp
/-- What region 7 holds on to. -/
def S7 (pw g3 n : Nat) (vP vH : Value) (ps : List PR) (sv : Array Value) (w' : World) : Prop :=
  w'.heap[pw]? = some (.cells #[vP, vH] 51 (0, 0)) ∧ w'.heap[g3]? = some (.cells sv 54 (0, 0)) ∧ RowAt w' 69 2 vP n (flatL pairV ps)
theorem S7.ty {pw g3 n : Nat} {vP vH : Value} {ps : List PR} {sv : Array Value} {w w' : World} (h : S7 pw g3 n vP vH ps sv w) (ht : Ty w w' (fun _ => True)) : S7 pw g3 n vP vH ps sv w' :=
  ⟨ht.blk _ _ _ h.1 trivial, ht.blk _ _ _ h.2.1 trivial, h.2.2.ty ht trivial⟩
set_option maxRecDepth 100000 in
set_option maxHeartbeats 4000000 in
theorem step_rest {W w : World} {pw : Nat} {ps : List PR} {hs : List Hd} {vP vH : Value} {N : Nat} (k on a b many : Int) (M : Msg) (h : St W w pw ps hs vP vH N) (hk1 : ¬ k = 1) (hp0 : 0 < ps.length) (hN : N ≤ 800000) (hh : hs.length ≤ 80000) (hp1 : ps.length ≤ 80000) (ho1 : -9223372036854775808 ≤ on) (ho2 : on ≤ 9223372036854775807) :
    Calls Try.prog 15 #[.pointer (some ⟨pw, 0, none⟩), .agg (stV k on a b many M).toArray] w fun e w' => e = .returned (.bool true) ∧ ∃ ps' hs' vH', St W w' pw ps' hs' vP vH' (N + 300) ∧ ps'.length = ps.length ∧ hs'.length ≤ hs.length + 2 := by
  obtain ⟨np, hnp⟩ : ∃ np, ps.length = np := ⟨_, rfl⟩
  have hprow := h.ws.prow
  rw [hnp] at hprow hp0 hp1
  obtain ⟨gP, oP, cP, curP, hvP, -⟩ := hprow.more hp0
  subst hvP
  have HNP : Hid (ps.length = np) := hnp
  have HB : Hid (N ≤ 800000 ∧ hs.length ≤ 80000) := ⟨hN, hh⟩
  have hi := pickN_lt on hp0
  have hpk := fun w' => pick_any on np np rfl w' hp0 (by omega) ho1 ho2
  generalize pickN on np = i at *
  obtain ⟨P, hP⟩ : ∃ P, ps[i]? = some P := ⟨_, List.getElem?_eq_getElem (by omega)⟩
  have h3 : (w.alloc (.cells (stV k on a b many M).toArray 54)).heap[w.heap.size]? = some (.cells (stV k on a b many M).toArray 54 (0, 0)) := heap_alloc_new w _
  have hSm : Sm w (w.alloc (.cells (stV k on a b many M).toArray 54)) := Fr.alloc w _ _
  have c0 : (w.alloc (.cells (stV k on a b many M).toArray 54)).cell? ⟨w.heap.size, 0, none⟩ = some (.int .i64 k) := cell_at h3 rfl
  have HX1 : Hid (St W (w.alloc (.cells (stV k on a b many M).toArray 54)) pw ps hs (.slice (some ⟨gP, oP, none⟩) np cP) vH N ∧ (w.alloc (.cells (stV k on a b many M).toArray 54)).heap[w.heap.size]? = some (.cells (stV k on a b many M).toArray 54 (0, 0)) ∧ W.heap.size ≤ w.heap.size ∧ ps[i]? = some P) := ⟨h.sm hSm, h3, h.below.size, hP⟩
  have hk1' : (k == 1) = false := by simpa using hk1
  clear h h3 hSm hprow hnp hN hh hP
  generalize hw1 : w.alloc (.cells (stV k on a b many M).toArray 54) = w1 at *
  generalize hg3 : w.heap.size = g3 at *
  generalize hsv : (stV k on a b many M).toArray = sv at *
  have HSV : Hid ((stV k on a b many M).toArray = sv) := hsv
  clear hsv
  go_enter Try.func15, Try.ntmps15
  go_upto_region 7 with fail
  clear hw1 hg3 c0
  rename_i Kc hKc
  refine wp_region_held (S := S7 pw g3 np (.slice (some ⟨gP, oP, none⟩) np cP) vH ps (stV k on a b many M).toArray) (by kernel_rfl) ?_
  change wpAnyH _ _ _ _ _ _ _ _ (World.drew _)
  have HX2 : Hid (St W w1.drew pw ps hs (.slice (some ⟨gP, oP, none⟩) np cP) vH N) := HX1.out.1.sm ((Fr.refl w1 _).drew)
  have hS : S7 pw g3 np (.slice (some ⟨gP, oP, none⟩) np cP) vH ps (stV k on a b many M).toArray w1.drew := ⟨HX2.out.ws.blk, by rw [HSV.out]; exact HX1.out.2.1, by have := HX2.out.ws.prow; rw [HNP.out] at this; exact this⟩
  have HX3 : Hid (W.heap.size ≤ g3 ∧ ps[i]? = some P) := HX1.out.2.2
  clear HX1
  generalize w1.drew = w2 at *
  have hlt' : (i : Int) < (np : Int) := by omega
  refine takeR (i := 0) (v := .pointer (some ⟨pw, 0, none⟩)) (some 59) rfl rfl (by kernel_rfl) (by kernel_rfl) (by kernel_rfl) (fun _ _ _ h => h) (Or.inl ⟨by kernel_rfl, fun w' hSw => by kernel_rfl⟩) hS ?_
  simp only [Act.put, List.setIfInBounds_toArray, List.set_cons_zero, List.set_cons_succ]
  refine takeR (i := 1) (v := .pointer (some ⟨pw, 0, none⟩)) (some 60) rfl rfl (by kernel_rfl) (by kernel_rfl) (by kernel_rfl) (fun _ _ _ h => h) (Or.inl ⟨by kernel_rfl, fun w' hSw => by kernel_rfl⟩) hS ?_
  simp only [Act.put, List.setIfInBounds_toArray, List.set_cons_zero, List.set_cons_succ]
  refine takeR (i := 2) (v := .pointer (some ⟨pw, 0, none⟩)) (some 61) rfl rfl (by kernel_rfl) (by kernel_rfl) (by kernel_rfl) (fun _ _ _ h => h) (Or.inl ⟨by kernel_rfl, fun w' hSw => by kernel_rfl⟩) hS ?_
  simp only [Act.put, List.setIfInBounds_toArray, List.set_cons_zero, List.set_cons_succ]
  refine takeR (i := 3) (v := .slice (some ⟨gP, oP, none⟩) np cP) (some 62) rfl rfl (by kernel_rfl) (by kernel_rfl) (by kernel_rfl) (fun _ _ _ h => h) (Or.inl ⟨by kernel_rfl, fun w' hSw => by have q0 : w'.cell? ⟨pw, 0, none⟩ = some (.slice (some ⟨gP, oP, none⟩) np cP) := cell_at hSw.1 rfl; clear hSw; go_simp⟩) hS ?_
  simp only [Act.put, List.setIfInBounds_toArray, List.set_cons_zero, List.set_cons_succ]
  refine takeR (i := 4) (v := .pointer (some ⟨g3, 1, none⟩)) (some 63) rfl rfl (by kernel_rfl) (by kernel_rfl) (by kernel_rfl) (fun _ _ _ h => h) (Or.inl ⟨by kernel_rfl, fun w' hSw => by kernel_rfl⟩) hS ?_
  simp only [Act.put, List.setIfInBounds_toArray, List.set_cons_zero, List.set_cons_succ]
  refine takeR (i := 5) (v := .int .i64 on) (some 64) rfl rfl (by kernel_rfl) (by kernel_rfl) (by kernel_rfl) (fun _ _ _ h => h) (Or.inl ⟨by kernel_rfl, fun w' hSw => by exact ldI_run (cell_at (i := 1) hSw.2.1 (by rfl)) (.tmp 63) rfl (by kernel_rfl)⟩) hS ?_
  simp only [Act.put, List.setIfInBounds_toArray, List.set_cons_zero, List.set_cons_succ]
  refine takeR (i := 6) (v := .pointer (some ⟨pw, 0, none⟩)) (some 65) rfl rfl (by kernel_rfl) (by kernel_rfl) (by kernel_rfl) (fun _ _ _ h => h) (Or.inl ⟨by kernel_rfl, fun w' hSw => by kernel_rfl⟩) hS ?_
  simp only [Act.put, List.setIfInBounds_toArray, List.set_cons_zero, List.set_cons_succ]
  refine takeR (i := 7) (v := .pointer (some ⟨pw, 0, none⟩)) (some 66) rfl rfl (by kernel_rfl) (by kernel_rfl) (by kernel_rfl) (fun _ _ _ h => h) (Or.inl ⟨by kernel_rfl, fun w' hSw => by kernel_rfl⟩) hS ?_
  simp only [Act.put, List.setIfInBounds_toArray, List.set_cons_zero, List.set_cons_succ]
  refine takeR (i := 8) (v := .pointer (some ⟨pw, 0, none⟩)) (some 67) rfl rfl (by kernel_rfl) (by kernel_rfl) (by kernel_rfl) (fun _ _ _ h => h) (Or.inl ⟨by kernel_rfl, fun w' hSw => by kernel_rfl⟩) hS ?_
  simp only [Act.put, List.setIfInBounds_toArray, List.set_cons_zero, List.set_cons_succ]
  refine takeR (i := 9) (v := .slice (some ⟨gP, oP, none⟩) np cP) (some 68) rfl rfl (by kernel_rfl) (by kernel_rfl) (by kernel_rfl) (fun _ _ _ h => h) (Or.inl ⟨by kernel_rfl, fun w' hSw => by have q0 : w'.cell? ⟨pw, 0, none⟩ = some (.slice (some ⟨gP, oP, none⟩) np cP) := cell_at hSw.1 rfl; clear hSw; go_simp⟩) hS ?_
  simp only [Act.put, List.setIfInBounds_toArray, List.set_cons_zero, List.set_cons_succ]
  refine takeR (i := 10) (v := .int .i64 (np : Int)) (some 69) rfl rfl (by kernel_rfl) (by kernel_rfl) (by kernel_rfl) (fun _ _ _ h => h) (Or.inl ⟨by kernel_rfl, fun w' hSw => by clear hSw; go_simp⟩) hS ?_
  simp only [Act.put, List.setIfInBounds_toArray, List.set_cons_zero, List.set_cons_succ]
  have hS3 : S7 pw g3 np (.slice (some ⟨gP, oP, none⟩) np cP) vH ps (stV k on a b many M).toArray (w2.alloc (.cells #[.pointer none, .pointer none] 69)) := hS.ty (Sm.ty (Fr.alloc w2 _ _))
  have hS4 : S7 pw g3 np (.slice (some ⟨gP, oP, none⟩) np cP) vH ps (stV k on a b many M).toArray (w2.alloc (.cells (pairV P).toArray 69)) := hS.ty (Sm.ty (Fr.alloc w2 _ _))
  apply cutAt (K := Kc)
  · intro key
    refine wpAnyH_ready (rs := [11, 14]) (by kernel_rfl) (by simp) ?_
    refine AllReadyH.cons rfl (fun K1 hK1 => ?_) (AllReadyH.cons rfl (fun K1 hK1 => ?_) AllReadyH.nil)
    · rw [if_pos (by kernel_rfl)]
      refine callR (d := some 70) rfl 9 #[.int .i64 on, .int .i64 (np : Int)] (by kernel_rfl) (hpk (w2)) ?_
      rintro e w5 ⟨rfl, ew⟩
      replace ew := ew.symm
      subst ew
      refine ⟨_, rfl, ?_⟩
      refine hK1.out _ _ hS (fun hSx => ?_)
      clear hK1 hSx
      simp only [Act.put, List.setIfInBounds_toArray, List.set_cons_zero, List.set_cons_succ]
      refine takeR (i := 12) (v := .pointer (some ⟨gP, oP + i * 2, none⟩)) (some 71) rfl rfl (by kernel_rfl) (by kernel_rfl) (by kernel_rfl) (fun _ _ _ h => h) (Or.inl ⟨by kernel_rfl, fun w' hSw => by exact ixR_run (c := cP) (.tmp 62) (.tmp 70) rfl (by kernel_rfl) (by kernel_rfl) hi w'⟩) hS ?_
      simp only [Act.put, List.setIfInBounds_toArray, List.set_cons_zero, List.set_cons_succ]
      refine takeR (i := 13) (v := .agg (pairV P).toArray) (some 72) rfl rfl (by kernel_rfl) (by kernel_rfl) (by kernel_rfl) (fun _ _ _ h => h) (Or.inl ⟨by kernel_rfl, fun w' hSw => by exact loadPr_run (row_pr hSw.2.2 HX3.out.2) (.tmp 71) rfl (by kernel_rfl)⟩) hS ?_
      simp only [Act.put, List.setIfInBounds_toArray, List.set_cons_zero, List.set_cons_succ]
      refine wpAnyH_ready (rs := [14]) (by kernel_rfl) (by simp) ?_
      refine AllReadyH.cons rfl (fun K2 hK2 => ?_) AllReadyH.nil
      rw [if_pos (by kernel_rfl)]
      refine valR (d := some 9) rfl (.pointer (some ⟨w2.heap.size, 0, none⟩)) (w' := w2.alloc (.cells #[.pointer none, .pointer none] 69)) (by kernel_rfl) ?_
      refine hK2.out _ _ hS3 (fun hSx => ?_)
      clear hK2 hSx
      simp only [Act.put, List.setIfInBounds_toArray, List.set_cons_zero, List.set_cons_succ]
      refine wpAnyH_ready (rs := [15]) (by kernel_rfl) (by simp) ?_
      refine AllReadyH.cons rfl (fun K4 hK4 => ?_) AllReadyH.nil
      rw [if_pos (by kernel_rfl)]
      refine wp_store_row 69 (.tmp 9) (.tmp 72) rfl w2.heap.size (pairV P).toArray (by kernel_rfl) (by kernel_rfl) 69 #[.pointer none, .pointer none] (heap_alloc_new w2 _) (by kernel_rfl) (by kernel_rfl) (by kernel_rfl) ?_
      rw [World.setRow_alloc_new]
      refine hK4.out _ _ hS4 (fun hSx => ?_)
      clear hK4 hSx
      simp only [Act.put, List.setIfInBounds_toArray, List.set_cons_zero, List.set_cons_succ]
      refine wpAnyH_done (by kernel_rfl) ?_ _
      exact key
    · rw [if_pos (by kernel_rfl)]
      refine valR (d := some 9) rfl (.pointer (some ⟨w2.heap.size, 0, none⟩)) (w' := w2.alloc (.cells #[.pointer none, .pointer none] 69)) (by kernel_rfl) ?_
      refine hK1.out _ _ hS3 (fun hSx => ?_)
      clear hK1 hSx
      simp only [Act.put, List.setIfInBounds_toArray, List.set_cons_zero, List.set_cons_succ]
      refine wpAnyH_ready (rs := [11]) (by kernel_rfl) (by simp) ?_
      refine AllReadyH.cons rfl (fun K2 hK2 => ?_) AllReadyH.nil
      rw [if_pos (by kernel_rfl)]
      refine callR (d := some 70) rfl 9 #[.int .i64 on, .int .i64 (np : Int)] (by kernel_rfl) (hpk (w2.alloc (.cells #[.pointer none, .pointer none] 69))) ?_
      rintro e w5 ⟨rfl, ew⟩
      replace ew := ew.symm
      subst ew
      refine ⟨_, rfl, ?_⟩
      refine hK2.out _ _ hS3 (fun hSx => ?_)
      clear hK2 hSx
      simp only [Act.put, List.setIfInBounds_toArray, List.set_cons_zero, List.set_cons_succ]
      refine takeR (i := 12) (v := .pointer (some ⟨gP, oP + i * 2, none⟩)) (some 71) rfl rfl (by kernel_rfl) (by kernel_rfl) (by kernel_rfl) (fun _ _ _ h => h) (Or.inl ⟨by kernel_rfl, fun w' hSw => by exact ixR_run (c := cP) (.tmp 62) (.tmp 70) rfl (by kernel_rfl) (by kernel_rfl) hi w'⟩) hS3 ?_
      simp only [Act.put, List.setIfInBounds_toArray, List.set_cons_zero, List.set_cons_succ]
      refine takeR (i := 13) (v := .agg (pairV P).toArray) (some 72) rfl rfl (by kernel_rfl) (by kernel_rfl) (by kernel_rfl) (fun _ _ _ h => h) (Or.inl ⟨by kernel_rfl, fun w' hSw => by exact loadPr_run (row_pr hSw.2.2 HX3.out.2) (.tmp 71) rfl (by kernel_rfl)⟩) hS3 ?_
      simp only [Act.put, List.setIfInBounds_toArray, List.set_cons_zero, List.set_cons_succ]
      refine wpAnyH_ready (rs := [15]) (by kernel_rfl) (by simp) ?_
      refine AllReadyH.cons rfl (fun K4 hK4 => ?_) AllReadyH.nil
      rw [if_pos (by kernel_rfl)]
      refine wp_store_row 69 (.tmp 9) (.tmp 72) rfl w2.heap.size (pairV P).toArray (by kernel_rfl) (by kernel_rfl) 69 #[.pointer none, .pointer none] (heap_alloc_new w2 _) (by kernel_rfl) (by kernel_rfl) (by kernel_rfl) ?_
      rw [World.setRow_alloc_new]
      refine hK4.out _ _ hS4 (fun hSx => ?_)
      clear hK4 hSx
      simp only [Act.put, List.setIfInBounds_toArray, List.set_cons_zero, List.set_cons_succ]
      refine wpAnyH_done (by kernel_rfl) ?_ _
      exact key
  · refine hKc _ _ ?_
    have HX4 : Hid (St W (w2.alloc (.cells (pairV P).toArray 69)) pw ps hs (.slice (some ⟨gP, oP, none⟩) np cP) vH N) := HX2.out.sm (Fr.alloc w2 _ _)
    have HB4 : Hid (Bx (w2.alloc (.cells (pairV P).toArray 69)) W.heap.size g3 w2.heap.size k on a b many M P) := ⟨hS4.2.1, heap_alloc_new w2 _, HX3.out.1, HX2.out.below.size⟩
    have HP : Hid (ps[i]? = some P) := HX3.out.2
    clear hKc hS hS3 hS4 HX2 HX3 hpk hi hlt' HSV
    generalize w2.alloc (.cells (pairV P).toArray 69) = w4 at *
    generalize w2.heap.size = g9 at *
    generalize (pairV P).toArray = pv at *
    have c0 : w4.cell? ⟨g3, 0, none⟩ = some (.int .i64 k) := cell_at HB4.out.b3 rfl
    by_cases hk2 : k = 2
    · subst hk2
      go_upto_region 10 with fail
      rename_i Kd hKd
      refine wp_region_held (S := fun w' => Bx w' W.heap.size g3 g9 2 on a b many M P) (by kernel_rfl) ?_
      change wpAnyH _ _ _ _ _ _ _ _ (World.drew _)
      have HY : Hid (St W w4.drew pw ps hs (.slice (some ⟨gP, oP, none⟩) np cP) vH N) := HX4.out.sm ((Fr.refl w4 _).drew)
      have hS : Bx w4.drew W.heap.size g3 g9 2 on a b many M P := ⟨HB4.out.b3, HB4.out.b9, HB4.out.l3, HB4.out.l9⟩
      have hPr := (HY.out.ws.ps.each i P HP.out).1
      generalize w4.drew = w5 at *
      obtain ⟨e0, ev2, hl2, hTwo⟩ := two_put hPr (by have := (HY.out.ws.ps.each i P HP.out).2; have := HB.out.1; omega) M
      refine takeR (i := 0) (v := .pointer (some ⟨g9, 0, none⟩)) (some 77) rfl rfl (by kernel_rfl) (by kernel_rfl) (by kernel_rfl) (fun _ _ _ h => h) (Or.inl ⟨by kernel_rfl, fun w' hSw => by kernel_rfl⟩) hS ?_
      simp only [Act.put, List.setIfInBounds_toArray, List.set_cons_zero, List.set_cons_succ]
      refine takeR (i := 1) (v := .pointer (some ⟨P.p, 0, none⟩)) (some 78) rfl rfl (by kernel_rfl) (by kernel_rfl) (by kernel_rfl) (fun _ _ _ h => h) (Or.inl ⟨by kernel_rfl, fun w' hSw => by have q0 : w'.cell? ⟨g9, 0, none⟩ = some (.pointer (some ⟨P.p, 0, none⟩)) := cell_at hSw.b9 rfl; clear hSw; go_simp⟩) hS ?_
      simp only [Act.put, List.setIfInBounds_toArray, List.set_cons_zero, List.set_cons_succ]
      refine takeR (i := 2) (v := .pointer (some ⟨g3, 5, none⟩)) (some 79) rfl rfl (by kernel_rfl) (by kernel_rfl) (by kernel_rfl) (fun _ _ _ h => h) (Or.inl ⟨by kernel_rfl, fun w' hSw => by kernel_rfl⟩) hS ?_
      simp only [Act.put, List.setIfInBounds_toArray, List.set_cons_zero, List.set_cons_succ]
      refine takeR (i := 3) (v := .agg (M).cs) (some 80) rfl rfl (by kernel_rfl) (by kernel_rfl) (by kernel_rfl) (fun _ _ _ h => h) (Or.inl ⟨by kernel_rfl, fun w' hSw => by exact loadMid_run hSw.msg (.tmp 79) rfl (by kernel_rfl)⟩) hS ?_
      simp only [Act.put, List.setIfInBounds_toArray, List.set_cons_zero, List.set_cons_succ]
      refine takeR (i := 5) (v := .pointer (some ⟨g9, 1, none⟩)) (some 82) rfl rfl (by kernel_rfl) (by kernel_rfl) (by kernel_rfl) (fun _ _ _ h => h) (Or.inl ⟨by kernel_rfl, fun w' hSw => by kernel_rfl⟩) hS ?_
      simp only [Act.put, List.setIfInBounds_toArray, List.set_cons_zero, List.set_cons_succ]
      refine takeR (i := 6) (v := .pointer (some ⟨P.q, 0, none⟩)) (some 83) rfl rfl (by kernel_rfl) (by kernel_rfl) (by kernel_rfl) (fun _ _ _ h => h) (Or.inl ⟨by kernel_rfl, fun w' hSw => by have q0 : w'.cell? ⟨g9, 1, none⟩ = some (.pointer (some ⟨P.q, 0, none⟩)) := cell_at hSw.b9 rfl; clear hSw; go_simp⟩) hS ?_
      simp only [Act.put, List.setIfInBounds_toArray, List.set_cons_zero, List.set_cons_succ]
      refine takeR (i := 7) (v := .pointer (some ⟨g3, 5, none⟩)) (some 84) rfl rfl (by kernel_rfl) (by kernel_rfl) (by kernel_rfl) (fun _ _ _ h => h) (Or.inl ⟨by kernel_rfl, fun w' hSw => by kernel_rfl⟩) hS ?_
      simp only [Act.put, List.setIfInBounds_toArray, List.set_cons_zero, List.set_cons_succ]
      refine takeR (i := 8) (v := .agg (M).cs) (some 85) rfl rfl (by kernel_rfl) (by kernel_rfl) (by kernel_rfl) (fun _ _ _ h => h) (Or.inl ⟨by kernel_rfl, fun w' hSw => by exact loadMid_run hSw.msg (.tmp 84) rfl (by kernel_rfl)⟩) hS ?_
      simp only [Act.put, List.setIfInBounds_toArray, List.set_cons_zero, List.set_cons_succ]
      refine wpAnyH_ready (rs := [4]) (by kernel_rfl) (by simp) ?_
      refine AllReadyH.cons rfl (fun K1 hK1 => ?_) AllReadyH.nil
      rw [if_pos (by kernel_rfl)]
      refine callR (d := some 81) rfl 13 #[.pointer (some ⟨P.p, 0, none⟩), .agg (M).cs] (by kernel_rfl) hTwo.one ?_
      rintro e w6 ⟨rfl, vk', vl', hs1, hf1, n1, n2⟩
      refine ⟨_, rfl, ?_⟩
      refine hK1.out _ _ (hS.mid hPr hf1) (fun hS6 => ?_)
      clear hK1
      simp only [Act.put, List.setIfInBounds_toArray, List.set_cons_zero, List.set_cons_succ]
      refine wpAnyH_ready (rs := [9]) (by kernel_rfl) (by simp) ?_
      refine AllReadyH.cons rfl (fun K2 hK2 => ?_) AllReadyH.nil
      rw [if_pos (by kernel_rfl)]
      refine callR (d := some 86) rfl 24 #[.pointer (some ⟨P.q, 0, none⟩), .agg (M).cs] (by kernel_rfl) (hTwo.two w6 (two_mid hPr hf1)) ?_
      rintro e w7 ⟨rfl, vW', vL', hr, hf2, n3, n4⟩
      refine ⟨_, rfl, ?_⟩
      have h7 := HY.out.two hS (N' := N + 300) (by omega) HP.out (by have := (HY.out.ws.ps.each i P HP.out).2; omega) hs1 hf1 n1 n2 hr hf2 n3 n4
      have hS7 : Bx w7 W.heap.size g3 g9 2 on a b many M P := ⟨h7.2.1.b3, h7.2.1.b9, h7.2.1.l3, h7.2.1.l9⟩
      have H7 : Hid _ := h7
      refine hK2.out _ _ hS7 (fun hSx => ?_)
      clear hK2 hSx h7 hTwo hS hS6 hs1 hf1 n1 n2 hr hf2 n3 n4 hPr HY
      simp only [Act.put, List.setIfInBounds_toArray, List.set_cons_zero, List.set_cons_succ]
      refine takeR (i := 10) (v := .bool true) (some 87) rfl rfl (by kernel_rfl) (by kernel_rfl) (by kernel_rfl) (fun _ _ _ h => h) (Or.inl ⟨by kernel_rfl, fun w' hSw => by clear hSw; go_simp⟩) hS7 ?_
      simp only [Act.put, List.setIfInBounds_toArray, List.set_cons_zero, List.set_cons_succ]
      refine takeR (i := 11) (v := .bool true) (some 4) rfl rfl (by kernel_rfl) (by kernel_rfl) (by kernel_rfl) (fun _ _ _ h => h) (Or.inl ⟨by kernel_rfl, fun w' hSw => by kernel_rfl⟩) hS7 ?_
      simp only [Act.put, List.setIfInBounds_toArray, List.set_cons_zero, List.set_cons_succ]
      refine wpAnyH_done (by kernel_rfl) ?_ _
      refine hKd _ _ ?_
      clear hKd
      generalize M.cs = mcs at *
      go_wp2
      go_ret
      exact ⟨rfl, _, hs, vH, H7.out.1, by rw [List.length_set], by omega⟩
    by_cases hk3 : k = 3
    · subst hk3
      obtain ⟨T, hT1, hT2⟩ : ∃ T : Nat, (∀ j : Nat, j < T → (j : Int) < many ∧ (j : Int) < 300) ∧ ¬ ((T : Int) < many ∧ (T : Int) < 300) := by
        refine ⟨(min many 300).toNat, fun j hj => by omega, by omega⟩
      have HT : Hid (T ≤ 300) := by
        by_cases h0 : T = 0
        · show T ≤ 300; omega
        · have := (hT1 (T - 1) (by omega)).2; show T ≤ 300; omega
      go_upto_region 13 with fail
      clear c0
      go_loopw [10] (fun x10 wr => ∃ j : Nat, j ≤ T ∧ x10 = .int .i64 (j : Int) ∧ Hid (∃ ps2 P2 M2, St W wr pw ps2 hs (.slice (some ⟨gP, oP, none⟩) np cP) vH (N + j) ∧ Bx wr W.heap.size g3 g9 3 on a b many M2 P2 ∧ ps2[i]? = some P2 ∧ ps2.length = ps.length)) (fun x10 _ => T - (intOf x10).toNat)
      case atStart => exact ⟨0, Nat.zero_le _, rfl, ps, P, M, HX4.out, HB4.out, HP.out, rfl⟩
      case round =>
        obtain ⟨j, hj, rfl, HJ⟩ := hrel
        obtain ⟨ps2, P2, M2, hst, hbx, hget, hlen⟩ := HJ.out
        have HST : Hid (St W wr pw ps2 hs (.slice (some ⟨gP, oP, none⟩) np cP) vH (N + j)) := hst
        have HBX : Hid (Bx wr W.heap.size g3 g9 3 on a b many M2 P2) := hbx
        have HGE : Hid (ps2[i]? = some P2 ∧ ps2.length = ps.length) := ⟨hget, hlen⟩
        have cm : wr.cell? ⟨g3, 4, none⟩ = some (.int .i64 many) := cell_at hbx.b3 rfl
        by_cases hlt : j < T
        · obtain ⟨hj1, hj2⟩ := hT1 j hlt
          have hjw : IntKind.i64.wrap ((j : Int) + 1) = (j : Int) + 1 := by rw [IntKind.wrap_i64]; omega
          have hPr2 := hst.ws.ps.each i P2 hget
          have hbn : P2.ev.length ≤ 900000 := by have := hPr2.2; have := HB.out.1; have := HT.out; omega
          have cq : wr.cell? ⟨g9, 1, none⟩ = some (.pointer (some ⟨P2.q, 0, none⟩)) := cell_at hbx.b9 rfl
          have c8 : wr.cell? ⟨g3, 8, none⟩ = some (.int .i64 (M2.z 3)) := cell_at hbx.b3 rfl
          have f8 : wr.frozen? ⟨g3, 8, none⟩ = false := frozen_of_row wr g3 8 _ _ hbx.b3
          have hnx := refNext_any hPr2.1.rf (by rw [cdL_len]; omega)
          generalize ((cdL P2.K P2.ev).length : Int) + 1 = Z at *
          clear hst hbx hget hlen hPr2
          go_upto_region 16 with (go_at_call 25; refine hnx.mono ?_; rintro e w5 ⟨rfl, ew⟩; replace ew := ew.symm; subst ew)
          clear hnx cm cq c8 f8
          have HS5 : Hid _ := HST.out.seq (B := 0) HBX.out Z
          have HB5 : Hid _ := HBX.out.seq Z
          clear HST HBX HJ
          generalize wr.setCell ⟨g3, 8, none⟩ (.int .i64 Z) = w8 at *
          skip
          rename_i Kd hKd
          refine wp_region_held (S := fun w' => Bx w' W.heap.size g3 g9 3 on a b many (seqTo M2 Z) P2) (by kernel_rfl) ?_
          change wpAnyH _ _ _ _ _ _ _ _ (World.drew _)
          have HY : Hid (St W w8.drew pw ps2 hs (.slice (some ⟨gP, oP, none⟩) np cP) vH (N + j)) := HS5.out.sm ((Fr.refl w8 _).drew)
          have hS : Bx w8.drew W.heap.size g3 g9 3 on a b many (seqTo M2 Z) P2 := ⟨HB5.out.b3, HB5.out.b9, HB5.out.l3, HB5.out.l9⟩
          have hPr := (HY.out.ws.ps.each i P2 HGE.out.1).1
          generalize w8.drew = w5 at *
          obtain ⟨e0, ev2, hl2, hTwo⟩ := two_put hPr hbn (seqTo M2 Z)
          refine takeR (i := 0) (v := .pointer (some ⟨g9, 0, none⟩)) (some 105) rfl rfl (by kernel_rfl) (by kernel_rfl) (by kernel_rfl) (fun _ _ _ h => h) (Or.inl ⟨by kernel_rfl, fun w' hSw => by kernel_rfl⟩) hS ?_
          simp only [Act.put, List.setIfInBounds_toArray, List.set_cons_zero, List.set_cons_succ]
          refine takeR (i := 1) (v := .pointer (some ⟨P2.p, 0, none⟩)) (some 106) rfl rfl (by kernel_rfl) (by kernel_rfl) (by kernel_rfl) (fun _ _ _ h => h) (Or.inl ⟨by kernel_rfl, fun w' hSw => by have q0 : w'.cell? ⟨g9, 0, none⟩ = some (.pointer (some ⟨P2.p, 0, none⟩)) := cell_at hSw.b9 rfl; clear hSw; go_simp⟩) hS ?_
          simp only [Act.put, List.setIfInBounds_toArray, List.set_cons_zero, List.set_cons_succ]
          refine takeR (i := 2) (v := .pointer (some ⟨g3, 5, none⟩)) (some 107) rfl rfl (by kernel_rfl) (by kernel_rfl) (by kernel_rfl) (fun _ _ _ h => h) (Or.inl ⟨by kernel_rfl, fun w' hSw => by kernel_rfl⟩) hS ?_
          simp only [Act.put, List.setIfInBounds_toArray, List.set_cons_zero, List.set_cons_succ]
          refine takeR (i := 3) (v := .agg ((seqTo M2 Z)).cs) (some 108) rfl rfl (by kernel_rfl) (by kernel_rfl) (by kernel_rfl) (fun _ _ _ h => h) (Or.inl ⟨by kernel_rfl, fun w' hSw => by exact loadMid_run hSw.msg (.tmp 107) rfl (by kernel_rfl)⟩) hS ?_
          simp only [Act.put, List.setIfInBounds_toArray, List.set_cons_zero, List.set_cons_succ]
          refine takeR (i := 5) (v := .pointer (some ⟨g9, 1, none⟩)) (some 110) rfl rfl (by kernel_rfl) (by kernel_rfl) (by kernel_rfl) (fun _ _ _ h => h) (Or.inl ⟨by kernel_rfl, fun w' hSw => by kernel_rfl⟩) hS ?_
          simp only [Act.put, List.setIfInBounds_toArray, List.set_cons_zero, List.set_cons_succ]
          refine takeR (i := 6) (v := .pointer (some ⟨P2.q, 0, none⟩)) (some 111) rfl rfl (by kernel_rfl) (by kernel_rfl) (by kernel_rfl) (fun _ _ _ h => h) (Or.inl ⟨by kernel_rfl, fun w' hSw => by have q0 : w'.cell? ⟨g9, 1, none⟩ = some (.pointer (some ⟨P2.q, 0, none⟩)) := cell_at hSw.b9 rfl; clear hSw; go_simp⟩) hS ?_
          simp only [Act.put, List.setIfInBounds_toArray, List.set_cons_zero, List.set_cons_succ]
          refine takeR (i := 7) (v := .pointer (some ⟨g3, 5, none⟩)) (some 112) rfl rfl (by kernel_rfl) (by kernel_rfl) (by kernel_rfl) (fun _ _ _ h => h) (Or.inl ⟨by kernel_rfl, fun w' hSw => by kernel_rfl⟩) hS ?_
          simp only [Act.put, List.setIfInBounds_toArray, List.set_cons_zero, List.set_cons_succ]
          refine takeR (i := 8) (v := .agg ((seqTo M2 Z)).cs) (some 113) rfl rfl (by kernel_rfl) (by kernel_rfl) (by kernel_rfl) (fun _ _ _ h => h) (Or.inl ⟨by kernel_rfl, fun w' hSw => by exact loadMid_run hSw.msg (.tmp 112) rfl (by kernel_rfl)⟩) hS ?_
          simp only [Act.put, List.setIfInBounds_toArray, List.set_cons_zero, List.set_cons_succ]
          refine wpAnyH_ready (rs := [4]) (by kernel_rfl) (by simp) ?_
          refine AllReadyH.cons rfl (fun K1 hK1 => ?_) AllReadyH.nil
          rw [if_pos (by kernel_rfl)]
          refine callR (d := some 109) rfl 13 #[.pointer (some ⟨P2.p, 0, none⟩), .agg ((seqTo M2 Z)).cs] (by kernel_rfl) hTwo.one ?_
          rintro e w6 ⟨rfl, vk', vl', hs1, hf1, n1, n2⟩
          refine ⟨_, rfl, ?_⟩
          refine hK1.out _ _ (hS.mid hPr hf1) (fun hS6 => ?_)
          clear hK1
          simp only [Act.put, List.setIfInBounds_toArray, List.set_cons_zero, List.set_cons_succ]
          refine wpAnyH_ready (rs := [9]) (by kernel_rfl) (by simp) ?_
          refine AllReadyH.cons rfl (fun K2 hK2 => ?_) AllReadyH.nil
          rw [if_pos (by kernel_rfl)]
          refine callR (d := some 114) rfl 24 #[.pointer (some ⟨P2.q, 0, none⟩), .agg ((seqTo M2 Z)).cs] (by kernel_rfl) (hTwo.two w6 (two_mid hPr hf1)) ?_
          rintro e w7 ⟨rfl, vW', vL', hr, hf2, n3, n4⟩
          refine ⟨_, rfl, ?_⟩
          have h7 := HY.out.two hS (N' := N + (j + 1)) (by omega) HGE.out.1 (by have := (HY.out.ws.ps.each i P2 HGE.out.1).2; omega) hs1 hf1 n1 n2 hr hf2 n3 n4
          have hS7 : Bx w7 W.heap.size g3 g9 3 on a b many (seqTo M2 Z) P2 := ⟨h7.2.1.b3, h7.2.1.b9, h7.2.1.l3, h7.2.1.l9⟩
          have H7 : Hid _ := h7
          refine hK2.out _ _ hS7 (fun hSx => ?_)
          clear hK2 hSx h7 hTwo hS hS6 hs1 hf1 n1 n2 hr hf2 n3 n4 hPr HY
          simp only [Act.put, List.setIfInBounds_toArray, List.set_cons_zero, List.set_cons_succ]
          refine takeR (i := 10) (v := .bool false) (some 115) rfl rfl (by kernel_rfl) (by kernel_rfl) (by kernel_rfl) (fun _ _ _ h => h) (Or.inl ⟨by kernel_rfl, fun w' hSw => by clear hSw; go_simp⟩) hS7 ?_
          simp only [Act.put, List.setIfInBounds_toArray, List.set_cons_zero, List.set_cons_succ]
          refine wpAnyH_done (by kernel_rfl) ?_ _
          refine hKd _ _ ?_
          clear hKd
          have H8 : Hid (∃ ps2 P2 M2, St W w7 pw ps2 hs (.slice (some ⟨gP, oP, none⟩) np cP) vH (N + (j + 1)) ∧ Bx w7 W.heap.size g3 g9 3 on a b many M2 P2 ∧ ps2[i]? = some P2 ∧ ps2.length = ps.length) := ⟨_, _, _, H7.out.1, H7.out.2.1, H7.out.2.2, by rw [List.length_set]; exact HGE.out.2⟩
          clear H7 hS7
          generalize (seqTo M2 Z).cs = mcs at *
          go_wp2
          first
            | exact ⟨⟨j + 1, by omega, by go_num, H8.out⟩, by simp [intOf]; omega⟩
            | (go_roundw
               case rel => exact ⟨j + 1, by omega, by go_num, H8.out⟩
               case measure => simp [intOf]; omega)
        · obtain rfl : j = T := by omega
          have HE : Hid (∃ ps', St W wr pw ps' hs (.slice (some ⟨gP, oP, none⟩) np cP) vH (N + 300) ∧ ps'.length = ps.length) := ⟨ps2, ⟨⟨hst.ws.blk, hst.ws.prow, hst.ws.ps.mono (by have := HT.out; omega), hst.ws.hrow, hst.ws.hs⟩, hst.lo, hst.below⟩, hlen⟩
          clear hst hbx hget hlen HST HBX HJ
          by_cases hm : (j : Int) < many
          · have hm2 : ¬ (j : Int) < 300 := fun e => hT2 ⟨hm, e⟩
            clear hT1 hT2
            go_wp2
            (try simp only [Exit.inBlock, Exit.then])
            go_ret
            obtain ⟨ps', h1, h2⟩ := HE.out
            first | exact ⟨rfl, ps', hs, vH, h1, h2, by omega⟩ | exact ⟨rfl, ps', hs, ⟨vH, h1⟩, h2, by omega⟩
          · clear hT1 hT2
            go_wp2
            (try simp only [Exit.inBlock, Exit.then])
            go_ret
            obtain ⟨ps', h1, h2⟩ := HE.out
            first | exact ⟨rfl, ps', hs, vH, h1, h2, by omega⟩ | exact ⟨rfl, ps', hs, ⟨vH, h1⟩, h2, by omega⟩
    by_cases hk4 : k = 4
    · subst hk4
      obtain ⟨T, hT1, hT2⟩ : ∃ T : Nat, (∀ j : Nat, j < T → (j : Int) < many ∧ (j : Int) < 300) ∧ ¬ ((T : Int) < many ∧ (T : Int) < 300) := by
        refine ⟨(min many 300).toNat, fun j hj => by omega, by omega⟩
      have HT : Hid (T ≤ 300) := by
        by_cases h0 : T = 0
        · show T ≤ 300; omega
        · have := (hT1 (T - 1) (by omega)).2; show T ≤ 300; omega
      go_upto_region 20 with fail
      clear c0
      go_loopw [11] (fun x11 wr => ∃ j : Nat, j ≤ T ∧ x11 = .int .i64 (j : Int) ∧ Hid (∃ ps2 P2, St W wr pw ps2 hs (.slice (some ⟨gP, oP, none⟩) np cP) vH (N + j) ∧ Bx wr W.heap.size g3 g9 4 on a b many M P2 ∧ ps2[i]? = some P2 ∧ ps2.length = ps.length)) (fun x11 _ => T - (intOf x11).toNat)
      case atStart => exact ⟨0, Nat.zero_le _, rfl, ps, P, HX4.out, HB4.out, HP.out, rfl⟩
      case round =>
        obtain ⟨j, hj, rfl, HJ⟩ := hrel
        obtain ⟨ps2, P2, hst, hbx, hget, hlen⟩ := HJ.out
        have HST : Hid (St W wr pw ps2 hs (.slice (some ⟨gP, oP, none⟩) np cP) vH (N + j)) := hst
        have HBX : Hid (Bx wr W.heap.size g3 g9 4 on a b many M P2) := hbx
        have HGE : Hid (ps2[i]? = some P2 ∧ ps2.length = ps.length) := ⟨hget, hlen⟩
        have cm : wr.cell? ⟨g3, 4, none⟩ = some (.int .i64 many) := cell_at hbx.b3 rfl
        by_cases hlt : j < T
        · obtain ⟨hj1, hj2⟩ := hT1 j hlt
          have hjw : IntKind.i64.wrap ((j : Int) + 1) = (j : Int) + 1 := by rw [IntKind.wrap_i64]; omega
          have hPr2 := hst.ws.ps.each i P2 hget
          have hbn : P2.ev.length ≤ 900000 := by have := hPr2.2; have := HB.out.1; have := HT.out; omega
          clear hst hbx hget hlen hPr2
          go_upto_region 22 with fail
          rename_i Kd hKd
          refine wp_region_held (S := fun w' => Bx w' W.heap.size g3 g9 4 on a b many M P2) (by kernel_rfl) ?_
          change wpAnyH _ _ _ _ _ _ _ _ (World.drew _)
          have HY : Hid (St W wr.drew pw ps2 hs (.slice (some ⟨gP, oP, none⟩) np cP) vH (N + j)) := HST.out.sm ((Fr.refl wr _).drew)
          have hS : Bx wr.drew W.heap.size g3 g9 4 on a b many M P2 := ⟨HBX.out.b3, HBX.out.b9, HBX.out.l3, HBX.out.l9⟩
          have hPr := (HY.out.ws.ps.each i P2 HGE.out.1).1
          generalize wr.drew = w5 at *
          obtain ⟨e0, ev2, hl2, hTwo⟩ := two_skip hPr hbn
          refine takeR (i := 0) (v := .pointer (some ⟨g9, 0, none⟩)) (some 128) rfl rfl (by kernel_rfl) (by kernel_rfl) (by kernel_rfl) (fun _ _ _ h => h) (Or.inl ⟨by kernel_rfl, fun w' hSw => by kernel_rfl⟩) hS ?_
          simp only [Act.put, List.setIfInBounds_toArray, List.set_cons_zero, List.set_cons_succ]
          refine takeR (i := 1) (v := .pointer (some ⟨P2.p, 0, none⟩)) (some 129) rfl rfl (by kernel_rfl) (by kernel_rfl) (by kernel_rfl) (fun _ _ _ h => h) (Or.inl ⟨by kernel_rfl, fun w' hSw => by have q0 : w'.cell? ⟨g9, 0, none⟩ = some (.pointer (some ⟨P2.p, 0, none⟩)) := cell_at hSw.b9 rfl; clear hSw; go_simp⟩) hS ?_
          simp only [Act.put, List.setIfInBounds_toArray, List.set_cons_zero, List.set_cons_succ]
          refine takeR (i := 3) (v := .pointer (some ⟨g9, 1, none⟩)) (some 131) rfl rfl (by kernel_rfl) (by kernel_rfl) (by kernel_rfl) (fun _ _ _ h => h) (Or.inl ⟨by kernel_rfl, fun w' hSw => by kernel_rfl⟩) hS ?_
          simp only [Act.put, List.setIfInBounds_toArray, List.set_cons_zero, List.set_cons_succ]
          refine takeR (i := 4) (v := .pointer (some ⟨P2.q, 0, none⟩)) (some 132) rfl rfl (by kernel_rfl) (by kernel_rfl) (by kernel_rfl) (fun _ _ _ h => h) (Or.inl ⟨by kernel_rfl, fun w' hSw => by have q0 : w'.cell? ⟨g9, 1, none⟩ = some (.pointer (some ⟨P2.q, 0, none⟩)) := cell_at hSw.b9 rfl; clear hSw; go_simp⟩) hS ?_
          simp only [Act.put, List.setIfInBounds_toArray, List.set_cons_zero, List.set_cons_succ]
          refine wpAnyH_ready (rs := [2]) (by kernel_rfl) (by simp) ?_
          refine AllReadyH.cons rfl (fun K1 hK1 => ?_) AllReadyH.nil
          rw [if_pos (by kernel_rfl)]
          refine callR (d := some 130) rfl 17 #[.pointer (some ⟨P2.p, 0, none⟩)] (by kernel_rfl) hTwo.one ?_
          rintro e w6 ⟨rfl, vk', vl', hs1, hf1, n1, n2⟩
          refine ⟨_, rfl, ?_⟩
          refine hK1.out _ _ (hS.mid hPr hf1) (fun hS6 => ?_)
          clear hK1
          simp only [Act.put, List.setIfInBounds_toArray, List.set_cons_zero, List.set_cons_succ]
          refine wpAnyH_ready (rs := [5]) (by kernel_rfl) (by simp) ?_
          refine AllReadyH.cons rfl (fun K2 hK2 => ?_) AllReadyH.nil
          rw [if_pos (by kernel_rfl)]
          refine callR (d := some 133) rfl 26 #[.pointer (some ⟨P2.q, 0, none⟩)] (by kernel_rfl) (hTwo.two w6 (two_mid hPr hf1)) ?_
          rintro e w7 ⟨rfl, vW', vL', hr, hf2, n3, n4⟩
          refine ⟨_, rfl, ?_⟩
          have h7 := HY.out.two hS (N' := N + (j + 1)) (by omega) HGE.out.1 (by have := (HY.out.ws.ps.each i P2 HGE.out.1).2; omega) hs1 hf1 n1 n2 hr hf2 n3 n4
          have hS7 : Bx w7 W.heap.size g3 g9 4 on a b many M P2 := ⟨h7.2.1.b3, h7.2.1.b9, h7.2.1.l3, h7.2.1.l9⟩
          have H7 : Hid _ := h7
          refine hK2.out _ _ hS7 (fun hSx => ?_)
          clear hK2 hSx h7 hTwo hS hS6 hs1 hf1 n1 n2 hr hf2 n3 n4 hPr HY
          simp only [Act.put, List.setIfInBounds_toArray, List.set_cons_zero, List.set_cons_succ]
          refine takeR (i := 6) (v := .bool false) (some 134) rfl rfl (by kernel_rfl) (by kernel_rfl) (by kernel_rfl) (fun _ _ _ h => h) (Or.inl ⟨by kernel_rfl, fun w' hSw => by clear hSw; go_simp⟩) hS7 ?_
          simp only [Act.put, List.setIfInBounds_toArray, List.set_cons_zero, List.set_cons_succ]
          refine wpAnyH_done (by kernel_rfl) ?_ _
          refine hKd _ _ ?_
          clear hKd
          have H8 : Hid (∃ ps2 P2, St W w7 pw ps2 hs (.slice (some ⟨gP, oP, none⟩) np cP) vH (N + (j + 1)) ∧ Bx w7 W.heap.size g3 g9 4 on a b many M P2 ∧ ps2[i]? = some P2 ∧ ps2.length = ps.length) := ⟨_, _, H7.out.1, H7.out.2.1, H7.out.2.2, by rw [List.length_set]; exact HGE.out.2⟩
          clear H7 hS7
          go_wp2
          first
            | exact ⟨⟨j + 1, by omega, by go_num, H8.out⟩, by simp [intOf]; omega⟩
            | (go_roundw
               case rel => exact ⟨j + 1, by omega, by go_num, H8.out⟩
               case measure => simp [intOf]; omega)
        · obtain rfl : j = T := by omega
          have HE : Hid (∃ ps', St W wr pw ps' hs (.slice (some ⟨gP, oP, none⟩) np cP) vH (N + 300) ∧ ps'.length = ps.length) := ⟨ps2, ⟨⟨hst.ws.blk, hst.ws.prow, hst.ws.ps.mono (by have := HT.out; omega), hst.ws.hrow, hst.ws.hs⟩, hst.lo, hst.below⟩, hlen⟩
          clear hst hbx hget hlen HST HBX HJ
          by_cases hm : (j : Int) < many
          · have hm2 : ¬ (j : Int) < 300 := fun e => hT2 ⟨hm, e⟩
            clear hT1 hT2
            go_wp2
            (try simp only [Exit.inBlock, Exit.then])
            go_ret
            obtain ⟨ps', h1, h2⟩ := HE.out
            first | exact ⟨rfl, ps', hs, vH, h1, h2, by omega⟩ | exact ⟨rfl, ps', hs, ⟨vH, h1⟩, h2, by omega⟩
          · clear hT1 hT2
            go_wp2
            (try simp only [Exit.inBlock, Exit.then])
            go_ret
            obtain ⟨ps', h1, h2⟩ := HE.out
            first | exact ⟨rfl, ps', hs, vH, h1, h2, by omega⟩ | exact ⟨rfl, ps', hs, ⟨vH, h1⟩, h2, by omega⟩
    by_cases hk5 : k = 5
    · subst hk5
      have c2 : w4.cell? ⟨g3, 2, none⟩ = some (.int .i64 a) := cell_at HB4.out.b3 rfl
      have c3 : w4.cell? ⟨g3, 3, none⟩ = some (.int .i64 b) := cell_at HB4.out.b3 rfl
      have c90 : w4.cell? ⟨g9, 0, none⟩ = some (.pointer (some ⟨P.p, 0, none⟩)) := cell_at HB4.out.b9 rfl
      have c91 : w4.cell? ⟨g9, 1, none⟩ = some (.pointer (some ⟨P.q, 0, none⟩)) := cell_at HB4.out.b9 rfl
      have hpa := parts_any HX4.out.ws (by have := HB.out.1; omega) (by have := HB.out.2; omega) HP.out a b
      go_wp2_with (go_at_call 27; fail)
      refine hpa.mono ?_
      rintro e w5 ⟨rfl, hs', vH', hws, hlen, -, hfr, hnw⟩
      have HE : Hid (St W w5 pw ps hs' (.slice (some ⟨gP, oP, none⟩) np cP) vH' (N + 300) ∧ hs'.length = hs.length + 2) := by
        refine ⟨⟨⟨hws.blk, hws.prow, hws.ps.mono (by omega), hws.hrow, hws.hs⟩, ⟨HX4.out.lo.pw, HX4.out.lo.ps, HX4.out.lo.vP, fun b hb => ?_⟩, HX4.out.below.trans (hfr.below HX4.out.below.size fun b hb q => ?_)⟩, hlen⟩
        · rcases newer_own hnw hb with q | q
          · exact HX4.out.lo.vH b q
          · exact Nat.le_trans HX4.out.below.size q
        · rcases q with q | q
          · have := HX4.out.lo.pw; omega
          · have := HX4.out.lo.vH b q; omega
      clear hpa hws hlen hfr hnw
      go_wp2
      go_ret
      first | exact ⟨rfl, ps, hs', vH', HE.out.1, rfl, by have := HE.out.2; omega⟩ | exact ⟨rfl, ps, hs', ⟨vH', HE.out.1⟩, rfl, by have := HE.out.2; omega⟩
    by_cases hk6 : k = 6
    · subst hk6
      have hPr := (HX4.out.ws.ps.each i P HP.out)
      have hbn : P.ev.length ≤ 900000 := by have := hPr.2; have := HB.out.1; omega
      have hcn := cnt_ev P.K hPr.1.k1 _ P.ev rfl hPr.1.st.evm
      have hke := Kept_any hPr.1.st
      have hkr := fun q => refKept_any (w := w4.drewN q) (hPr.1.rf.fr ((Fr.refl w4 fun _ => False).drewN q) (fun _ _ h => h)) (by rw [cdL_len]; omega)
      rw [show (keptL P.K P.ev).length = (putL P.ev).length - over P.K P.ev by unfold keptL; rw [List.length_drop]] at hke
      rw [hcn.1, hcn.2] at hkr
      have hnx := fun w' (hS : PrAt w' P) => Next_any hS.st
      have hnr := fun w' (hS : PrAt w' P) => refNext_any hS.rf (by rw [cdL_len]; omega)
      rw [cdL_len] at hnr
      generalize (putL P.ev).length - over P.K P.ev = kA at *
      generalize over P.K P.ev = kD at *
      have c90 : w4.cell? ⟨g9, 0, none⟩ = some (.pointer (some ⟨P.p, 0, none⟩)) := cell_at HB4.out.b9 rfl
      have c91 : ∀ q, (w4.drewN q).cell? ⟨g9, 1, none⟩ = some (.pointer (some ⟨P.q, 0, none⟩)) := fun q => cell_at HB4.out.b9 rfl
      have HC91 : Hid _ := c91
      have HKR : Hid _ := hkr
      have HNX : Hid _ := hnx
      have HNR : Hid _ := hnr
      clear c91 hkr hcn hnx hnr hPr hbn
      go_wp2_with (go_at_call 12; fail)
      refine hke.mono ?_
      rintro e w5 ⟨rfl, q, rfl⟩
      have c91 := HC91.out q
      go_wp2_with (go_at_call 28; fail)
      refine (HKR.out q).mono ?_
      rintro e w5 ⟨rfl, ew⟩
      replace ew := ew.symm
      subst ew
      clear c90 c91 hke
      go_upto_region 29 with fail
      clear c0
      rename_i Kd hKd
      have HY : Hid (St W (w4.drewN q).drew pw ps hs (.slice (some ⟨gP, oP, none⟩) np cP) vH N) := HX4.out.sm (((Fr.refl w4 _).drewN q).drew)
      have hS : Bx (w4.drewN q).drew W.heap.size g3 g9 6 on a b many M P := ⟨HB4.out.b3, HB4.out.b9, HB4.out.l3, HB4.out.l9⟩
      refine wp_region_held (S := fun w' => Bx w' W.heap.size g3 g9 6 on a b many M P) (by kernel_rfl) ?_
      change wpAnyH _ _ _ _ _ _ _ _ (World.drew _)
      generalize (w4.drewN q).drew = w6 at *
      have hPr := (HY.out.ws.ps.each i P HP.out).1
      refine takeR (i := 0) (v := .int .i64 (kA : Int)) (some 158) rfl rfl (by kernel_rfl) (by kernel_rfl) (by kernel_rfl) (fun _ _ _ h => h) (Or.inl ⟨by kernel_rfl, fun w' hSw => by kernel_rfl⟩) hS ?_
      simp only [Act.put, List.setIfInBounds_toArray, List.set_cons_zero, List.set_cons_succ]
      refine takeR (i := 1) (v := .int .i64 (kA : Int)) (some 159) rfl rfl (by kernel_rfl) (by kernel_rfl) (by kernel_rfl) (fun _ _ _ h => h) (Or.inl ⟨by kernel_rfl, fun w' hSw => by kernel_rfl⟩) hS ?_
      simp only [Act.put, List.setIfInBounds_toArray, List.set_cons_zero, List.set_cons_succ]
      refine takeR (i := 2) (v := .bool true) (some 160) rfl rfl (by kernel_rfl) (by kernel_rfl) (by kernel_rfl) (fun _ _ _ h => h) (Or.inl ⟨by kernel_rfl, fun w' hSw => by clear hSw; go_simp⟩) hS ?_
      simp only [Act.put, List.setIfInBounds_toArray, List.set_cons_zero, List.set_cons_succ]
      refine takeR (i := 3) (v := .bool true) (some 161) rfl rfl (by kernel_rfl) (by kernel_rfl) (by kernel_rfl) (fun _ _ _ h => h) (Or.inl ⟨by kernel_rfl, fun w' hSw => by kernel_rfl⟩) hS ?_
      simp only [Act.put, List.setIfInBounds_toArray, List.set_cons_zero, List.set_cons_succ]
      refine takeR (i := 4) (v := .int .i64 (kD : Int)) (some 162) rfl rfl (by kernel_rfl) (by kernel_rfl) (by kernel_rfl) (fun _ _ _ h => h) (Or.inl ⟨by kernel_rfl, fun w' hSw => by kernel_rfl⟩) hS ?_
      simp only [Act.put, List.setIfInBounds_toArray, List.set_cons_zero, List.set_cons_succ]
      refine takeR (i := 5) (v := .int .i64 (kD : Int)) (some 163) rfl rfl (by kernel_rfl) (by kernel_rfl) (by kernel_rfl) (fun _ _ _ h => h) (Or.inl ⟨by kernel_rfl, fun w' hSw => by kernel_rfl⟩) hS ?_
      simp only [Act.put, List.setIfInBounds_toArray, List.set_cons_zero, List.set_cons_succ]
      refine takeR (i := 6) (v := .bool true) (some 164) rfl rfl (by kernel_rfl) (by kernel_rfl) (by kernel_rfl) (fun _ _ _ h => h) (Or.inl ⟨by kernel_rfl, fun w' hSw => by clear hSw; go_simp⟩) hS ?_
      simp only [Act.put, List.setIfInBounds_toArray, List.set_cons_zero, List.set_cons_succ]
      refine takeR (i := 7) (v := .bool true) (some 165) rfl rfl (by kernel_rfl) (by kernel_rfl) (by kernel_rfl) (fun _ _ _ h => h) (Or.inl ⟨by kernel_rfl, fun w' hSw => by kernel_rfl⟩) hS ?_
      simp only [Act.put, List.setIfInBounds_toArray, List.set_cons_zero, List.set_cons_succ]
      refine takeR (i := 8) (v := .bool true) (some 166) rfl rfl (by kernel_rfl) (by kernel_rfl) (by kernel_rfl) (fun _ _ _ h => h) (Or.inl ⟨by kernel_rfl, fun w' hSw => by kernel_rfl⟩) hS ?_
      simp only [Act.put, List.setIfInBounds_toArray, List.set_cons_zero, List.set_cons_succ]
      refine takeR (i := 9) (v := .pointer (some ⟨g9, 0, none⟩)) (some 167) rfl rfl (by kernel_rfl) (by kernel_rfl) (by kernel_rfl) (fun _ _ _ h => h) (Or.inl ⟨by kernel_rfl, fun w' hSw => by kernel_rfl⟩) hS ?_
      simp only [Act.put, List.setIfInBounds_toArray, List.set_cons_zero, List.set_cons_succ]
      refine takeR (i := 10) (v := .pointer (some ⟨P.p, 0, none⟩)) (some 168) rfl rfl (by kernel_rfl) (by kernel_rfl) (by kernel_rfl) (fun _ _ _ h => h) (Or.inl ⟨by kernel_rfl, fun w' hSw => by have q0 : w'.cell? ⟨g9, 0, none⟩ = some (.pointer (some ⟨P.p, 0, none⟩)) := cell_at hSw.b9 rfl; clear hSw; go_simp⟩) hS ?_
      simp only [Act.put, List.setIfInBounds_toArray, List.set_cons_zero, List.set_cons_succ]
      refine takeR (i := 12) (v := .pointer (some ⟨g9, 1, none⟩)) (some 170) rfl rfl (by kernel_rfl) (by kernel_rfl) (by kernel_rfl) (fun _ _ _ h => h) (Or.inl ⟨by kernel_rfl, fun w' hSw => by kernel_rfl⟩) hS ?_
      simp only [Act.put, List.setIfInBounds_toArray, List.set_cons_zero, List.set_cons_succ]
      refine takeR (i := 13) (v := .pointer (some ⟨P.q, 0, none⟩)) (some 171) rfl rfl (by kernel_rfl) (by kernel_rfl) (by kernel_rfl) (fun _ _ _ h => h) (Or.inl ⟨by kernel_rfl, fun w' hSw => by have q0 : w'.cell? ⟨g9, 1, none⟩ = some (.pointer (some ⟨P.q, 0, none⟩)) := cell_at hSw.b9 rfl; clear hSw; go_simp⟩) hS ?_
      simp only [Act.put, List.setIfInBounds_toArray, List.set_cons_zero, List.set_cons_succ]
      refine wpAnyH_ready (rs := [11]) (by kernel_rfl) (by simp) ?_
      refine AllReadyH.cons rfl (fun K1 hK1 => ?_) AllReadyH.nil
      rw [if_pos (by kernel_rfl)]
      refine callR (d := some 169) rfl 11 #[.pointer (some ⟨P.p, 0, none⟩)] (by kernel_rfl) (HNX.out w6 hPr) ?_
      rintro e w7 ⟨rfl, ew⟩
      replace ew := ew.symm
      subst ew
      refine ⟨_, rfl, ?_⟩
      refine hK1.out _ _ hS (fun hSx => ?_)
      clear hK1 hSx
      simp only [Act.put, List.setIfInBounds_toArray, List.set_cons_zero, List.set_cons_succ]
      refine wpAnyH_ready (rs := [14]) (by kernel_rfl) (by simp) ?_
      refine AllReadyH.cons rfl (fun K2 hK2 => ?_) AllReadyH.nil
      rw [if_pos (by kernel_rfl)]
      refine callR (d := some 172) rfl 25 #[.pointer (some ⟨P.q, 0, none⟩)] (by kernel_rfl) (HNR.out w6 hPr) ?_
      rintro e w7 ⟨rfl, ew⟩
      replace ew := ew.symm
      subst ew
      refine ⟨_, rfl, ?_⟩
      refine hK2.out _ _ hS (fun hSx => ?_)
      clear hK2 hSx
      simp only [Act.put, List.setIfInBounds_toArray, List.set_cons_zero, List.set_cons_succ]
      rw [show ((P.ev.length + 1 : Nat) : Int) = (P.ev.length : Int) + 1 by omega]
      generalize (P.ev.length : Int) + 1 = nx at *
      refine takeR (i := 15) (v := .bool true) (some 173) rfl rfl (by kernel_rfl) (by kernel_rfl) (by kernel_rfl) (fun _ _ _ h => h) (Or.inl ⟨by kernel_rfl, fun w' hSw => by clear hSw; go_simp⟩) hS ?_
      simp only [Act.put, List.setIfInBounds_toArray, List.set_cons_zero, List.set_cons_succ]
      refine takeR (i := 16) (v := .bool true) (some 174) rfl rfl (by kernel_rfl) (by kernel_rfl) (by kernel_rfl) (fun _ _ _ h => h) (Or.inl ⟨by kernel_rfl, fun w' hSw => by kernel_rfl⟩) hS ?_
      simp only [Act.put, List.setIfInBounds_toArray, List.set_cons_zero, List.set_cons_succ]
      refine takeR (i := 17) (v := .bool true) (some 4) rfl rfl (by kernel_rfl) (by kernel_rfl) (by kernel_rfl) (fun _ _ _ h => h) (Or.inl ⟨by kernel_rfl, fun w' hSw => by kernel_rfl⟩) hS ?_
      simp only [Act.put, List.setIfInBounds_toArray, List.set_cons_zero, List.set_cons_succ]
      refine wpAnyH_done (by kernel_rfl) ?_ _
      refine hKd _ _ ?_
      have HE : Hid (St W w6 pw ps hs (.slice (some ⟨gP, oP, none⟩) np cP) vH (N + 300)) := ⟨⟨HY.out.ws.blk, HY.out.ws.prow, HY.out.ws.ps.mono (by omega), HY.out.ws.hrow, HY.out.ws.hs⟩, HY.out.lo, HY.out.below⟩
      clear hKd hS hPr HY HKR HNX HNR HC91
      go_wp2
      go_ret
      first | exact ⟨rfl, ps, hs, vH, HE.out, rfl, by omega⟩ | exact ⟨rfl, ps, hs, ⟨vH, HE.out⟩, rfl, by omega⟩
    have HE : Hid (St W w4 pw ps hs (.slice (some ⟨gP, oP, none⟩) np cP) vH (N + 300)) := ⟨⟨HX4.out.ws.blk, HX4.out.ws.prow, HX4.out.ws.ps.mono (by omega), HX4.out.ws.hrow, HX4.out.ws.hs⟩, HX4.out.lo, HX4.out.below⟩
    have e2 : (k == 2) = false := by simpa using hk2
    have e3 : (k == 3) = false := by simpa using hk3
    have e4 : (k == 4) = false := by simpa using hk4
    have e5 : (k == 5) = false := by simpa using hk5
    have e6 : (k == 6) = false := by simpa using hk6
    go_wp2
    go_ret
    exact ⟨rfl, ps, hs, vH, HE.out, rfl, by omega⟩
end Go.Proofs.Ytekkckfoikpljaa
