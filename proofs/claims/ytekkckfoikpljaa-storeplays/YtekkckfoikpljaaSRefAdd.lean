/-
  store, the reference: add.
-/
import Derived.Test.YtekkckfoikpljaaSRef
namespace Go.Proofs.Ytekkckfoikpljaa
set_option linter.unusedVariables false
set_option linter.unusedSimpArgs false
open Go.RowKit Go.Great

theorem infoI' : ∃ i, Try.prog.info? 3 = some i ∧ i.zero = some (.int .i64 0) ∧ i.size = 1 ∧ i.bytes = 8 := by
  have h : (Try.prog.info? 3).map (fun i => (i.zero, i.size, i.bytes)) = some (some (.int .i64 0), 1, 8) := by kernel_rfl
  obtain ⟨i, hi, he⟩ := Option.map_eq_some_iff.1 h
  injection he with h1 h2
  injection h2 with h2 h3
  exact ⟨i, hi, h1, h2, h3⟩
set_option maxRecDepth 100000 in
set_option maxHeartbeats 4000000 in
theorem add_any {w : World} {p K n : Nat} {cs : List Nat} {ms : List Msg} {vW vL : Value} (c : Nat) (z : Int) (hz : z = c) (M : Msg) (h : RfAt w p K cs ms vW vL) (hlen : cs.length = n) (hn : n ≤ 1000000) :
    Calls Try.prog 34 #[.pointer (some ⟨p, 0, none⟩), .int .i64 z, .agg M.cs] w fun e w' => e = .returned (.tuple #[]) ∧ ∃ vW' vL', RfAt w' p K (cs ++ [c]) (ms ++ [M]) vW' vL' ∧ Fr w w' (ownS p vW vL) ∧ newer w vW vW' ∧ newer w vL vL' := by
  subst hz
  have hF : Fr w (w.alloc (.cells M.cs 34)) (fun _ => False) := Fr.alloc _ _ _
  have HB : Hid (RfAt (w.alloc (.cells M.cs 34)) p K cs ms vW vL ∧ OwnM (w.alloc (.cells M.cs 34)) w.heap.size M ∧ Fr w (w.alloc (.cells M.cs 34)) (fun _ => False) ∧ p < w.heap.size) := ⟨h.fr hF (fun _ _ h => h), heap_alloc_new w _, hF, h.blk.lt⟩
  have HLEN : Hid (cs.length = n ∧ ms.length = n) := ⟨hlen, by rw [← h.len]; exact hlen⟩
  have HLL : Hid (cs.length = ms.length) := h.len
  clear h hF hlen
  generalize hcs : M.cs = csm at *
  have HCS : Hid (M.cs = csm) := hcs
  clear hcs
  have hg := HB.out.1.what
  rw [HLEN.out.1] at hg
  obtain ⟨aw, cw, rfl, -⟩ := hg.form
  go_enter Try.func34, Try.ntmps34
  go_upto_region 1 with fail
  generalize w.alloc (.cells csm 34) = w1 at *
  obtain ⟨i0, hi0, hy0, hy1, hy2⟩ := infoI'
  obtain ⟨-, c1, -⟩ := HB.out.1.blk.at
  have HA : Hid (RowAt (w1.alloc (.cells #[.int .i64 (c : Int)] 3)) 3 1 (.slice aw n cw) n (flatL cdV cs)) := hg.fr (Fr.alloc w1 _ fun _ => False) (fun _ _ h => h)
  have hne1 : (Value.slice aw n cw).ownBlock ≠ some p := hg.ne_type HB.out.1.blk (by decide)
  have HC : Hid (∀ w4, Fr (w1.alloc (.cells #[.int .i64 (c : Int)] 3)) w4 (fun b => (Value.slice aw n cw).ownBlock = some b) → w4.cell? ⟨p, 1, none⟩ = some (.slice aw n cw) ∧ w4.frozen? ⟨p, 1, none⟩ = false) := fun w4 hf => by
    have h4 : RfB w4 p K _ _ := (HB.out.1.blk.fr (Fr.alloc w1 _ fun _ => False) id).fr hf hne1
    exact ⟨h4.at.2.1, h4.frz 1⟩
  have HG : Hid (RowAt w1 3 1 (.slice aw n cw) n (flatL cdV cs) ∧ (Value.slice aw n cw).ownBlock ≠ some p) := ⟨hg, hne1⟩
  clear hg hne1
  go_upto_region 2 with (first | (at_builtin; refine wpList_append_row _ rfl _ _ 22 rfl 3 i0 _ 1 8 Try.underlying22 hi0 hy0 hy1 hy2 (by rfl) (.slice aw n cw) n (flatL cdV cs) rfl HA.out ⟨w1.heap.size, 0, none⟩ 1 1 [.int .i64 (c : Int)] rfl rfl (World.news_of_block (cs := #[.int .i64 (c : Int)]) (t := 3) (fr := (0, 0)) (heap_alloc_new w1 _)) (by simp [Value.oneCell']) (.inl (by decide)) (by unfold maxLen; omega) (by omega) ?_; intro v' w4 hrow hfr hnew; obtain ⟨aw2, cw2, rfl, -⟩ := hrow.form; obtain ⟨q4, q5⟩ := HC.out w4 hfr; have HD : Hid _ := And.intro hrow (And.intro hfr hnew); clear hrow hfr hnew))
  clear q4 q5 c1 HA HC hi0 hy0 hy1 hy2
  have HE : Hid (RfB (w4.setCell ⟨p, 1, none⟩ (.slice aw2 (n + 1) cw2)) p K (.slice aw2 (n + 1) cw2) vL ∧ RowAt (w4.setCell ⟨p, 1, none⟩ (.slice aw2 (n + 1) cw2)) 3 1 (.slice aw2 (n + 1) cw2) (n + 1) (flatL cdV (cs ++ [c])) ∧ RowAt (w4.setCell ⟨p, 1, none⟩ (.slice aw2 (n + 1) cw2)) 34 42 vL n (flatL msgV ms) ∧ OwnM (w4.setCell ⟨p, 1, none⟩ (.slice aw2 (n + 1) cw2)) w.heap.size M ∧ Fr w (w4.setCell ⟨p, 1, none⟩ (.slice aw2 (n + 1) cw2)) (ownS p (.slice aw n cw) vL) ∧ newer w (.slice aw n cw) (.slice aw2 (n + 1) cw2)) := by
    have hal : Fr w1 (w1.alloc (.cells #[.int .i64 (c : Int)] 3)) (fun _ => False) := Fr.alloc _ _ _
    have h14 : Fr w1 w4 (fun b => (Value.slice aw n cw).ownBlock = some b) := hal.trans HD.out.2.1 fun i _ q => by rcases q with q | q; exact q.elim; exact q
    have hset : Fr w4 (w4.setCell ⟨p, 1, none⟩ (.slice aw2 (n + 1) cw2)) (fun b => b = p) := Fr.setCell _ _ _ _ rfl
    have hsz : w1.heap.size < (w1.alloc (.cells #[.int .i64 (c : Int)] 3)).heap.size := by simp
    have hvp : (Value.slice aw2 (n + 1) cw2).ownBlock ≠ some p := fun e => by
      rcases HD.out.2.2 with q | ⟨q, _⟩
      · rw [q] at e; exact HG.out.2 e
      · rw [q] at e; injection e with e; have := HB.out.1.blk.lt; omega
    have hms := HB.out.1.msgs
    rw [HLEN.out.1] at hms
    refine ⟨(HB.out.1.blk.fr h14 HG.out.2).set1 _, ?_, (hms.fr h14 fun b hb e => ?_).fr hset fun b hb e => hms.ne_type HB.out.1.blk (by decide) (e ▸ hb), ?_, ?_, ?_⟩
    · rw [flatL_app, flatL_one]; exact HD.out.1.fr hset fun b hb e => hvp (e ▸ hb)
    · obtain ⟨_, cur, hcur⟩ := HG.out.1.lt e
      exact hms.ne_type hcur (by decide) hb
    · refine (hset.block _ (Nat.lt_of_lt_of_le HB.out.2.1.lt h14.size) (fun e => by have := HB.out.2.2.2; omega)).trans ((h14.block _ HB.out.2.1.lt fun e => ?_).trans HB.out.2.1)
      exact HG.out.1.ne_type HB.out.2.1 (by decide) e
    · refine (HB.out.2.2.1.trans h14 (e3 := ownS p (.slice aw n cw) vL) fun i _ q => ?_).trans hset fun i _ q => ?_
      · rcases q with q | q
        · exact q.elim
        · exact .inr (.inl q)
      · rcases q with q | q
        · exact q
        · exact .inl q
    · rcases HD.out.2.2 with q | ⟨q, _⟩
      · exact .inl q
      · exact .inr ⟨_, q, by have := HB.out.2.2.1.size; omega⟩
  clear HD HG HB
  generalize w4.setCell ⟨p, 1, none⟩ (.slice aw2 (n + 1) cw2) = w5 at *
  refine wp_region_any (by kernel_rfl) ?_
  change wpAny _ _ _ _ _ _ _ (World.drew _)
  have HW3 : Hid (RfB w5.drew p K (.slice aw2 (n + 1) cw2) vL ∧ RowAt w5.drew 3 1 (.slice aw2 (n + 1) cw2) (n + 1) (flatL cdV (cs ++ [c])) ∧ RowAt w5.drew 34 42 vL n (flatL msgV ms) ∧ OwnM w5.drew w.heap.size M ∧ Fr w w5.drew (ownS p (.slice aw n cw) vL) ∧ newer w (.slice aw n cw) (.slice aw2 (n + 1) cw2)) :=
    ⟨HE.out.1, HE.out.2.1.keep fun _ _ => rfl, HE.out.2.2.1.keep fun _ _ => rfl, HE.out.2.2.2.1, HE.out.2.2.2.2.1.drew, HE.out.2.2.2.2.2⟩
  clear HE
  generalize w5.drew = w3 at *
  obtain ⟨-, -, c3⟩ := HW3.out.1.at
  obtain ⟨ao, ck, rfl, hck⟩ := HW3.out.2.2.1.form
  have HO : Hid (OwnM w3 w.heap.size M) := HW3.out.2.2.2.1
  obtain ⟨i1, hi1, hx0, hx1, hx2⟩ := infoM'
  have c3a : (w3.alloc (.cells M.cs 34)).cell? ⟨p, 2, none⟩ = some (.slice ao n ck) := (Fr.alloc w3 (.cells M.cs 34) fun _ => False).cell c3 id
  have HAL : Hid (Fr w3 (w3.alloc (.cells M.cs 34)) (fun _ => False)) := Fr.alloc _ _ _
  have HAP : Hid _ := run_append_row (P := Try.prog) (w3.alloc (.cells M.cs 34)) 25 25 34 i1 _ 42 400 Try.underlying25 hi1 hx0 hx1 hx2 (by rw [Value.cells]; exact zeroM.cs_size) (.slice ao n ck) n (flatL msgV ms) (HW3.out.2.2.1.fr HAL.out fun _ _ h => h) ⟨w3.heap.size, 0, none⟩ 1 1 M.cs.toList (by rw [M.cs_len]) (World.news_of_block (cs := M.cs) (t := 34) (fr := (0, 0)) (heap_alloc_new w3 _)) (fun u hu => Array.all_eq_true_iff_forall_mem.1 M.one u (by simpa using hu)) (.inl (by decide)) (by unfold maxLen; omega) (by omega)
  have HST : Hid (∀ w5, Fr (w3.alloc (.cells M.cs 34)) w5 (fun b => (Value.slice ao n ck).ownBlock = some b) → w5.cell? ⟨p, 2, none⟩ = some (.slice ao n ck) ∧ w5.frozen? ⟨p, 2, none⟩ = false) := fun w5 hf => by
    have h4 : RfB w5 p K _ _ := (HW3.out.1.fr HAL.out id).fr hf (HW3.out.2.2.1.ne_type HW3.out.1 (by decide))
    exact ⟨h4.at.2.2, h4.frz 2⟩
  have hcsM := HCS.out
  rw [← hcsM]
  clear hcsM hi1 hx0 hx1 hx2
  refine takeA (i := 0) (v := .pointer (some ⟨p, 0, none⟩)) (some 16) rfl rfl (by kernel_rfl) (by kernel_rfl) (by kernel_rfl) (fun _ _ _ h => h) (Or.inl ⟨by kernel_rfl, fun w' => by kernel_rfl⟩) ?_
  simp only [Act.put, List.setIfInBounds_toArray, List.set_cons_zero, List.set_cons_succ]
  refine takeA (i := 1) (v := .pointer (some ⟨p, 0, none⟩)) (some 17) rfl rfl (by kernel_rfl) (by kernel_rfl) (by kernel_rfl) (fun _ _ _ h => h) (Or.inl ⟨by kernel_rfl, fun w' => by kernel_rfl⟩) ?_
  simp only [Act.put, List.setIfInBounds_toArray, List.set_cons_zero, List.set_cons_succ]
  refine takeA (i := 2) (v := .pointer (some ⟨p, 0, none⟩)) (some 18) rfl rfl (by kernel_rfl) (by kernel_rfl) (by kernel_rfl) (fun _ _ _ h => h) (Or.inl ⟨by kernel_rfl, fun w' => by kernel_rfl⟩) ?_
  simp only [Act.put, List.setIfInBounds_toArray, List.set_cons_zero, List.set_cons_succ]
  refine takeA (i := 3) (v := .pointer (some ⟨p, 2, none⟩)) (some 19) rfl rfl (by kernel_rfl) (by kernel_rfl) (by kernel_rfl) (fun _ _ _ h => h) (Or.inl ⟨by kernel_rfl, fun w' => by kernel_rfl⟩) ?_
  simp only [Act.put, List.setIfInBounds_toArray, List.set_cons_zero, List.set_cons_succ]
  have FIN : Hid (∀ (w5 : World) (ao5 : Option Addr) (cap5 : Nat), RowAt w5 34 42 (.slice ao5 (n + 1) cap5) (n + 1) (flatL msgV ms ++ M.cs.toList) → Fr (w3.alloc (.cells M.cs 34)) w5 (fun b => (Value.slice ao n ck).ownBlock = some b) →
      ((Value.slice ao5 (n + 1) cap5).ownBlock = (Value.slice ao n ck).ownBlock ∨ (Value.slice ao5 (n + 1) cap5).ownBlock = some (w3.alloc (.cells M.cs 34)).heap.size ∧ ∀ k, k < (w3.alloc (.cells M.cs 34)).heap.size → w5.heap[k]? = (w3.alloc (.cells M.cs 34)).heap[k]?) →
      ∃ vW' vL', RfAt (w5.setCell ⟨p, 2, none⟩ (.slice ao5 (n + 1) cap5)) p K (cs ++ [c]) (ms ++ [M]) vW' vL' ∧ Fr w (w5.setCell ⟨p, 2, none⟩ (.slice ao5 (n + 1) cap5)) (ownS p (.slice aw n cw) (.slice ao n ck)) ∧ newer w (.slice aw n cw) vW' ∧ newer w (.slice ao n ck) vL') := by
    intro w5 ao5 cap5 hrow hfr hnew
    have h35 : Fr w3 w5 (fun b => (Value.slice ao n ck).ownBlock = some b) := HAL.out.trans hfr fun i _ q => by rcases q with q | q; exact q.elim; exact q
    have hset : Fr w5 (w5.setCell ⟨p, 2, none⟩ (.slice ao5 (n + 1) cap5)) (fun b => b = p) := Fr.setCell _ _ _ _ rfl
    have hkp := HW3.out.2.2.1.ne_type HW3.out.1 (by decide)
    have hwp := HW3.out.2.1.ne_type HW3.out.1 (by decide)
    have hsz : w3.heap.size < (w3.alloc (.cells M.cs 34)).heap.size := by simp
    have hvp : (Value.slice ao5 (n + 1) cap5).ownBlock ≠ some p := fun e => by
      rcases hnew with q | ⟨q, _⟩
      · rw [q] at e; exact hkp e
      · rw [q] at e; injection e with e; have := HW3.out.1.lt; omega
    have hl1 : (cs ++ [c]).length = n + 1 := by rw [List.length_append, HLEN.out.1]; rfl
    refine ⟨_, _, ⟨(HW3.out.1.fr h35 hkp).set2 _, by rw [List.length_append, List.length_append, HLL.out]; rfl, ?_, ?_⟩, ?_, HW3.out.2.2.2.2.2, ?_⟩
    · rw [hl1]
      refine (HW3.out.2.1.fr h35 fun b hb e => ?_).fr hset fun b hb e => hwp (e ▸ hb)
      obtain ⟨_, cur, hcur⟩ := HW3.out.2.2.1.lt e
      exact HW3.out.2.1.ne_type hcur (by decide) hb
    · rw [hl1, flatL_app, flatL_one]; exact hrow.fr hset fun b hb e => hvp (e ▸ hb)
    · refine (HW3.out.2.2.2.2.1.trans h35 (e3 := ownS p (.slice aw n cw) (.slice ao n ck)) fun i _ q => ?_).trans hset fun i _ q => ?_
      · rcases q with q | q
        · exact q
        · exact .inr (.inr q)
      · rcases q with q | q
        · exact q
        · exact .inl q
    · rcases hnew with q | ⟨q, _⟩
      · exact .inl q
      · exact .inr ⟨_, q, by have := HW3.out.2.2.2.2.1.size; omega⟩
  refine wpAny_ready (rs := [4, 5]) (by kernel_rfl) (by simp) ?_
  refine AllReady.cons rfl (fun K1 hK1 => ?_) (AllReady.cons rfl (fun K1 hK1 => ?_) AllReady.nil)
  · rw [if_pos (by kernel_rfl)]
    refine valR (d := some 20) rfl (.slice ao n ck) (w' := w3) (by go_simp) ?_
    refine hK1 _ _ ?_
    clear hK1
    simp only [Act.put, List.setIfInBounds_toArray, List.set_cons_zero, List.set_cons_succ]
    refine wpAny_ready (rs := [5]) (by kernel_rfl) (by simp) ?_
    refine AllReady.cons rfl (fun K2 hK2 => ?_) AllReady.nil
    rw [if_pos (by kernel_rfl)]
    refine valR (d := some 21) rfl (.agg M.cs) (loadM_run HO.out (.tmp 5) rfl (by kernel_rfl)) ?_
    refine hK2 _ _ ?_
    clear hK2
    simp only [Act.put, List.setIfInBounds_toArray, List.set_cons_zero, List.set_cons_succ]
    refine wpAny_ready (rs := [6]) (by kernel_rfl) (by simp) ?_
    refine AllReady.cons rfl (fun K3 hK3 => ?_) AllReady.nil
    rw [if_pos (by kernel_rfl)]
    refine valR (d := some 22) rfl (.slice (some ⟨w3.heap.size, 0, none⟩) 1 1) (w' := w3.alloc (.cells M.cs 34)) (by kernel_rfl) ?_
    refine hK3 _ _ ?_
    clear hK3
    simp only [Act.put, List.setIfInBounds_toArray, List.set_cons_zero, List.set_cons_succ]
    refine wpAny_ready (rs := [7]) (by kernel_rfl) (by simp) ?_
    refine AllReady.cons rfl (fun K7 hK7 => ?_) AllReady.nil
    rw [if_pos (by kernel_rfl)]
    obtain ⟨v', w5, hr, hrow, hfr, hnew⟩ := HAP.out
    refine valR (d := some 23) rfl v' (exec_append (.tmp 20) (.tmp 22) 25 rfl (by kernel_rfl) (by kernel_rfl) hr) ?_
    refine hK7 _ _ ?_
    clear hK7 hr
    simp only [Act.put, List.setIfInBounds_toArray, List.set_cons_zero, List.set_cons_succ]
    obtain ⟨ao5, cap5, rfl, _⟩ := hrow.form
    obtain ⟨q3, q4⟩ := HST.out w5 hfr
    refine takeA (i := 8) (v := .pointer (some ⟨p, 0, none⟩)) (some 24) rfl rfl (by kernel_rfl) (by kernel_rfl) (by kernel_rfl) (fun _ _ _ h => h) (Or.inl ⟨by kernel_rfl, fun w' => by kernel_rfl⟩) ?_
    simp only [Act.put, List.setIfInBounds_toArray, List.set_cons_zero, List.set_cons_succ]
    refine takeA (i := 9) (v := .pointer (some ⟨p, 2, none⟩)) (some 25) rfl rfl (by kernel_rfl) (by kernel_rfl) (by kernel_rfl) (fun _ _ _ h => h) (Or.inl ⟨by kernel_rfl, fun w' => by kernel_rfl⟩) ?_
    simp only [Act.put, List.setIfInBounds_toArray, List.set_cons_zero, List.set_cons_succ]
    refine wpAny_ready (rs := [10]) (by kernel_rfl) (by simp) ?_
    refine AllReady.cons rfl (fun K8 hK8 => ?_) AllReady.nil
    rw [if_pos (by kernel_rfl)]
    refine skipR (d := none) rfl (w' := w5.setCell ⟨p, 2, none⟩ (.slice ao5 (n + 1) cap5)) (by go_simp) ?_
    refine hK8 _ _ ?_
    clear hK8
    simp only [Act.put, List.setIfInBounds_toArray, List.set_cons_zero, List.set_cons_succ]
    refine wpAny_done (by kernel_rfl) ?_ _
    have HR : Hid _ := FIN.out w5 ao5 cap5 hrow hfr hnew
    clear hrow hfr hnew q3 q4
    refine ⟨by rfl, .tuple #[], results_none (by rfl) _ _ _, rfl, ?_⟩
    exact HR.out
  · rw [if_pos (by kernel_rfl)]
    refine valR (d := some 21) rfl (.agg M.cs) (loadM_run HO.out (.tmp 5) rfl (by kernel_rfl)) ?_
    refine hK1 _ _ ?_
    clear hK1
    simp only [Act.put, List.setIfInBounds_toArray, List.set_cons_zero, List.set_cons_succ]
    refine wpAny_ready (rs := [4, 6]) (by kernel_rfl) (by simp) ?_
    refine AllReady.cons rfl (fun K2 hK2 => ?_) (AllReady.cons rfl (fun K2 hK2 => ?_) AllReady.nil)
    · rw [if_pos (by kernel_rfl)]
      refine valR (d := some 20) rfl (.slice ao n ck) (w' := w3) (by go_simp) ?_
      refine hK2 _ _ ?_
      clear hK2
      simp only [Act.put, List.setIfInBounds_toArray, List.set_cons_zero, List.set_cons_succ]
      refine wpAny_ready (rs := [6]) (by kernel_rfl) (by simp) ?_
      refine AllReady.cons rfl (fun K3 hK3 => ?_) AllReady.nil
      rw [if_pos (by kernel_rfl)]
      refine valR (d := some 22) rfl (.slice (some ⟨w3.heap.size, 0, none⟩) 1 1) (w' := w3.alloc (.cells M.cs 34)) (by kernel_rfl) ?_
      refine hK3 _ _ ?_
      clear hK3
      simp only [Act.put, List.setIfInBounds_toArray, List.set_cons_zero, List.set_cons_succ]
      refine wpAny_ready (rs := [7]) (by kernel_rfl) (by simp) ?_
      refine AllReady.cons rfl (fun K7 hK7 => ?_) AllReady.nil
      rw [if_pos (by kernel_rfl)]
      obtain ⟨v', w5, hr, hrow, hfr, hnew⟩ := HAP.out
      refine valR (d := some 23) rfl v' (exec_append (.tmp 20) (.tmp 22) 25 rfl (by kernel_rfl) (by kernel_rfl) hr) ?_
      refine hK7 _ _ ?_
      clear hK7 hr
      simp only [Act.put, List.setIfInBounds_toArray, List.set_cons_zero, List.set_cons_succ]
      obtain ⟨ao5, cap5, rfl, _⟩ := hrow.form
      obtain ⟨q3, q4⟩ := HST.out w5 hfr
      refine takeA (i := 8) (v := .pointer (some ⟨p, 0, none⟩)) (some 24) rfl rfl (by kernel_rfl) (by kernel_rfl) (by kernel_rfl) (fun _ _ _ h => h) (Or.inl ⟨by kernel_rfl, fun w' => by kernel_rfl⟩) ?_
      simp only [Act.put, List.setIfInBounds_toArray, List.set_cons_zero, List.set_cons_succ]
      refine takeA (i := 9) (v := .pointer (some ⟨p, 2, none⟩)) (some 25) rfl rfl (by kernel_rfl) (by kernel_rfl) (by kernel_rfl) (fun _ _ _ h => h) (Or.inl ⟨by kernel_rfl, fun w' => by kernel_rfl⟩) ?_
      simp only [Act.put, List.setIfInBounds_toArray, List.set_cons_zero, List.set_cons_succ]
      refine wpAny_ready (rs := [10]) (by kernel_rfl) (by simp) ?_
      refine AllReady.cons rfl (fun K8 hK8 => ?_) AllReady.nil
      rw [if_pos (by kernel_rfl)]
      refine skipR (d := none) rfl (w' := w5.setCell ⟨p, 2, none⟩ (.slice ao5 (n + 1) cap5)) (by go_simp) ?_
      refine hK8 _ _ ?_
      clear hK8
      simp only [Act.put, List.setIfInBounds_toArray, List.set_cons_zero, List.set_cons_succ]
      refine wpAny_done (by kernel_rfl) ?_ _
      have HR : Hid _ := FIN.out w5 ao5 cap5 hrow hfr hnew
      clear hrow hfr hnew q3 q4
      refine ⟨by rfl, .tuple #[], results_none (by rfl) _ _ _, rfl, ?_⟩
      exact HR.out
    · rw [if_pos (by kernel_rfl)]
      refine valR (d := some 22) rfl (.slice (some ⟨w3.heap.size, 0, none⟩) 1 1) (w' := w3.alloc (.cells M.cs 34)) (by kernel_rfl) ?_
      refine hK2 _ _ ?_
      clear hK2
      simp only [Act.put, List.setIfInBounds_toArray, List.set_cons_zero, List.set_cons_succ]
      refine wpAny_ready (rs := [4]) (by kernel_rfl) (by simp) ?_
      refine AllReady.cons rfl (fun K3 hK3 => ?_) AllReady.nil
      rw [if_pos (by kernel_rfl)]
      refine valR (d := some 20) rfl (.slice ao n ck) (w' := (w3.alloc (.cells M.cs 34))) (by go_simp) ?_
      refine hK3 _ _ ?_
      clear hK3
      simp only [Act.put, List.setIfInBounds_toArray, List.set_cons_zero, List.set_cons_succ]
      refine wpAny_ready (rs := [7]) (by kernel_rfl) (by simp) ?_
      refine AllReady.cons rfl (fun K7 hK7 => ?_) AllReady.nil
      rw [if_pos (by kernel_rfl)]
      obtain ⟨v', w5, hr, hrow, hfr, hnew⟩ := HAP.out
      refine valR (d := some 23) rfl v' (exec_append (.tmp 20) (.tmp 22) 25 rfl (by kernel_rfl) (by kernel_rfl) hr) ?_
      refine hK7 _ _ ?_
      clear hK7 hr
      simp only [Act.put, List.setIfInBounds_toArray, List.set_cons_zero, List.set_cons_succ]
      obtain ⟨ao5, cap5, rfl, _⟩ := hrow.form
      obtain ⟨q3, q4⟩ := HST.out w5 hfr
      refine takeA (i := 8) (v := .pointer (some ⟨p, 0, none⟩)) (some 24) rfl rfl (by kernel_rfl) (by kernel_rfl) (by kernel_rfl) (fun _ _ _ h => h) (Or.inl ⟨by kernel_rfl, fun w' => by kernel_rfl⟩) ?_
      simp only [Act.put, List.setIfInBounds_toArray, List.set_cons_zero, List.set_cons_succ]
      refine takeA (i := 9) (v := .pointer (some ⟨p, 2, none⟩)) (some 25) rfl rfl (by kernel_rfl) (by kernel_rfl) (by kernel_rfl) (fun _ _ _ h => h) (Or.inl ⟨by kernel_rfl, fun w' => by kernel_rfl⟩) ?_
      simp only [Act.put, List.setIfInBounds_toArray, List.set_cons_zero, List.set_cons_succ]
      refine wpAny_ready (rs := [10]) (by kernel_rfl) (by simp) ?_
      refine AllReady.cons rfl (fun K8 hK8 => ?_) AllReady.nil
      rw [if_pos (by kernel_rfl)]
      refine skipR (d := none) rfl (w' := w5.setCell ⟨p, 2, none⟩ (.slice ao5 (n + 1) cap5)) (by go_simp) ?_
      refine hK8 _ _ ?_
      clear hK8
      simp only [Act.put, List.setIfInBounds_toArray, List.set_cons_zero, List.set_cons_succ]
      refine wpAny_done (by kernel_rfl) ?_ _
      have HR : Hid _ := FIN.out w5 ao5 cap5 hrow hfr hnew
      clear hrow hfr hnew q3 q4
      refine ⟨by rfl, .tuple #[], results_none (by rfl) _ _ _, rfl, ?_⟩
      exact HR.out
end Go.Proofs.Ytekkckfoikpljaa
