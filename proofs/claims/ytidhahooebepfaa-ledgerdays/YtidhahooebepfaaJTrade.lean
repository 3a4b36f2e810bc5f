/-
  ledger: Trade, of one that may be and does not go too far.
-/
import Derived.Test.YtidhahooebepfaaJTr0
namespace Go.Proofs.Ytidhahooebepfaa
set_option linter.unusedVariables false
set_option linter.unusedSimpArgs false
open Go.RowKit Go.Great Go.Maps

def Lg.traded (G : Lg) (t : Tr) (tv bv : Value) : Lg := ((addsL G (bkL t)).keptT t tv).keptB false bv
theorem tCs_one (t : Tr) : t.cs.all (·.oneCell') = true := by kernel_rfl
set_option maxRecDepth 100000 in
set_option maxHeartbeats 4000000 in
theorem Trade_yes (G : Lg) (t : Tr) (w : World) (h : LgAt w G) (hz : t.sz) (hm : t.may = true) {B M : Int} {n : Nat} (hd : Bd G B n) (hb : ∀ b ∈ bkL t, b.inn M) (hM : 0 ≤ M) (hB0 : 0 ≤ B) (hBM : B + 3 * M ≤ 1000000000000000000) (hn : n + 3 < maxLen) (hlt : G.bs.length < 100000) (hts : G.ts.length < 100000) :
    Calls Try.prog 10 #[.pointer (some ⟨G.g, 0, none⟩), .string t.sy, .string t.bu, .string t.se, .int .i64 t.pr, .int .i64 t.qt, .int .i64 t.bf, .int .i64 t.sf] w fun e w' => e = .returned (.int .i64 0) ∧ Hid (∃ tv bv, LgAt w' (G.traded t tv bv) ∧ Fr w w' G.own ∧ ∀ b, (G.traded t tv bv).own b → G.own b ∨ w.heap.size ≤ b) := by
  have HM := mayBe_any t
  rw [hm] at HM
  have HBk : Hid (∀ W, Calls Try.prog 25 #[.agg t.cs] W fun e w' => ∃ v, e = .returned v ∧ Hid (RowAt w' 42 5 v (bkL t).length (flatL Bk.cl (bkL t)) ∧ Below W.heap.size W w' ∧ ∀ q, v.ownBlock = some q → W.heap.size ≤ q)) := fun W => bookings_any t W hm
  have HBo : Hid (∀ v W, LgAt W G → RowAt W 42 5 v (bkL t).length (flatL Bk.cl (bkL t)) → Calls Try.prog 24 #[.pointer (some ⟨G.g, 0, none⟩), v] W fun e w' => e = .returned (.int .i64 0) ∧ Hid (LgAt w' (addsL G (bkL t)) ∧ Fr W w' G.own)) := fun v W hl hr => by
    have hl3 := bkL_len t
    have hmul : ((bkL t).length : Int) * M ≤ 3 * M := Int.mul_le_mul_of_nonneg_right (by omega) hM
    exact book_yes G (bkL t) v W hl hr hd hb (bkL_sz hz) hM hB0 (by omega) (by omega) (by omega)
  have H1 : Hid (LgAt (w.alloc (.cells t.cs 69)) G ∧ Blk (w.alloc (.cells t.cs 69)) w.heap.size 69 t.cs ∧ Fr w (w.alloc (.cells t.cs 69)) G.own) := ⟨h.below ((Below.refl _ w).alloc (Nat.le_refl _) _), Blk.new _ _ _, Fr.alloc w _ _⟩
  have HZ : Hid (t.sz ∧ G.bs.length < 100000 ∧ G.ts.length < 100000) := ⟨hz, hlt, hts⟩
  obtain ⟨abv, cbv, hbv, _⟩ := h.brs.form
  have HSz : Hid (∀ x, G.own x → x < w.heap.size) := fun x hx => h.lt hx
  have hlt' : ¬ (100000 : Int) ≤ (G.bs.length : Int) := by omega
  have HBv : Hid (G.bv = .slice abv G.bs.length cbv) := hbv
  clear h hz hm hd hb hM hB0 hBM hn hlt hts hbv
  go_enter Try.func10, Try.ntmps10
  go_upto_region 2 with fail
  rw [show (#[.string t.sy, .string t.bu, .string t.se, .int .i64 t.pr, .int .i64 t.qt, .int .i64 t.bf, .int .i64 t.sf] : Array Value) = t.cs from rfl]
  generalize w.alloc (.cells t.cs 69) = W1 at *
  generalize hW : w.heap.size = tb at *
  have HW : Hid (w.heap.size = tb) := hW
  clear hW
  rename_i K2 hK2
  refine wp_region_lit ?_
  refine wpList_runTo rfl (some 27) rfl (.agg t.cs) W1 (by exact ldR_run H1.out.2.1.range rfl (.tmp 17) rfl (by kernel_rfl)) ?_
  simp only [Act.put, List.setIfInBounds_toArray, List.set_cons_zero, List.set_cons_succ]
  refine wpList_callW rfl (some 28) rfl 23 #[.agg t.cs] (by kernel_rfl) (HM W1) ?_
  rintro e W2 ⟨rfl, hb2⟩
  refine ⟨_, rfl, ?_⟩
  simp only [Act.put, List.setIfInBounds_toArray, List.set_cons_zero, List.set_cons_succ]
  refine wpList_runTo rfl (some 29) rfl (.bool false) W2 (by kernel_rfl) ?_
  simp only [Act.put, List.setIfInBounds_toArray, List.set_cons_zero, List.set_cons_succ]
  refine wpList_nil ?_
  refine hK2 _ _ ?_
  have H2 : Hid (LgAt W2 G ∧ Blk W2 tb 69 t.cs ∧ Fr w W2 G.own) := ⟨H1.out.1.below hb2, H1.out.2.1.below hb2 H1.out.2.1.lt, H1.out.2.2.both (Fr.of_below hb2 _)⟩
  clear H1 hb2 HM hK2
  have c4 : W2.cell? ⟨G.g, 4, none⟩ = some (.slice abv G.bs.length cbv) := by
    have := H2.out.1.blk.cell 4
    rw [← HBv.out]
    exact this
  generalize hN : G.bs.length = N at *
  go_upto_region 6 with fail
  clear c4
  rename_i K6 hK6
  refine wp_region_lit ?_
  refine wpList_runTo rfl (some 36) rfl (.pointer (some ⟨G.g, 0, none⟩)) W2 (by kernel_rfl) ?_
  simp only [Act.put, List.setIfInBounds_toArray, List.set_cons_zero, List.set_cons_succ]
  refine wpList_runTo rfl (some 37) rfl (.agg t.cs) W2 (by exact ldR_run H2.out.2.1.range rfl (.tmp 17) rfl (by kernel_rfl)) ?_
  simp only [Act.put, List.setIfInBounds_toArray, List.set_cons_zero, List.set_cons_succ]
  refine wpList_callW rfl (some 38) rfl 25 #[.agg t.cs] (by kernel_rfl) (HBk.out W2) ?_
  rintro e W3 ⟨v, rfl, h3⟩
  refine ⟨_, rfl, ?_⟩
  simp only [Act.put, List.setIfInBounds_toArray, List.set_cons_zero, List.set_cons_succ]
  have H3 : Hid (LgAt W3 G ∧ Blk W3 tb 69 t.cs ∧ Fr w W3 G.own) := ⟨H2.out.1.below h3.out.2.1, H2.out.2.1.below h3.out.2.1 H2.out.2.1.lt, H2.out.2.2.both (Fr.of_below h3.out.2.1 _)⟩
  refine wpList_callW rfl (some 39) rfl 24 #[.pointer (some ⟨G.g, 0, none⟩), v] (by kernel_rfl) (HBo.out v W3 H3.out.1 h3.out.1) ?_
  rintro e W4 ⟨rfl, h4⟩
  refine ⟨_, rfl, ?_⟩
  simp only [Act.put, List.setIfInBounds_toArray, List.set_cons_zero, List.set_cons_succ]
  refine wpList_runTo rfl (some 18) rfl (.int .i64 0) W4 (by kernel_rfl) ?_
  simp only [Act.put, List.setIfInBounds_toArray, List.set_cons_zero, List.set_cons_succ]
  refine wpList_nil ?_
  refine hK6 _ _ ?_
  have HTb : Hid (¬ G.own tb) := fun ho => by have := HSz.out tb ho; have := HW.out; omega
  have H4 : Hid (LgAt W4 (addsL G (bkL t)) ∧ Blk W4 tb 69 t.cs ∧ Fr w W4 G.own) := ⟨h4.out.1, H3.out.2.1.fr h4.out.2 HTb.out, H3.out.2.2.both h4.out.2⟩
  clear H2 H3 h3 h4 hK6 HBk HBo
  have HGs : Hid ((addsL G (bkL t)).g = G.g ∧ (∀ x, (addsL G (bkL t)).own x ↔ G.own x) ∧ (addsL G (bkL t)).tv = G.tv ∧ (addsL G (bkL t)).bv = G.bv ∧ (addsL G (bkL t)).ts = G.ts ∧ (addsL G (bkL t)).bs = G.bs) := ⟨(addsL_same G _).1, (addsL_same G _).2.1, (addsL_same G _).2.2.1, (addsL_same G _).2.2.2.1, (addsL_same G _).2.2.2.2.1, (addsL_same G _).2.2.2.2.2.1⟩
  have HTd : Hid (∀ tv bv, G.traded t tv bv = ((addsL G (bkL t)).keptT t tv).keptB false bv) := fun _ _ => rfl
  generalize addsL G (bkL t) = G1 at *
  go_upto_region 9 with fail
  rename_i K9 hK9
  -- l.trades = append(l.trades, t)
  have hbd := below_drew W4
  have h9 : LgAt W4.drew G1 := H4.out.1.below hbd
  have hb9 : Blk W4.drew tb 69 t.cs := H4.out.2.1.below hbd H4.out.2.1.lt
  obtain ⟨i0, hi, hz0, hz1, hz2⟩ := info_parts infoR
  have hrA : RowAt (W4.drew.alloc (.cells t.cs 69)) 69 7 G1.tv G1.ts.length (flatL Tr.cl G1.ts) := h9.trs.fr (Fr.alloc W4.drew _ (fun _ => False)) fun _ _ => id
  obtain ⟨tv, w9, hrun, hrow9, hfr9, hnew9⟩ := run_append_row (P := Try.prog) (W4.drew.alloc (.cells t.cs 69)) 65 65 69 i0 _ 7 80 Try.underlying65 hi hz0 hz1 hz2 (by rfl) G1.tv G1.ts.length (flatL Tr.cl G1.ts) hrA ⟨W4.drew.heap.size, 0, none⟩ 1 1 t.cl (by rfl) (fun j u hj => by rw [Addr.add_mid, Nat.zero_add, (Blk.new W4.drew 69 t.cs).cell, ← Array.getElem?_toList]; exact hj) (Tr.cl_one t) (.inl (by decide)) (by have := HZ.out.2.2; rw [← HGs.out.2.2.2.2.1] at this; unfold maxLen; omega) (by have := HZ.out.2.2; rw [← HGs.out.2.2.2.2.1] at this; omega)
  have hA9 : Fr W4.drew w9 (fun b => G1.tv.ownBlock = some b) := (Fr.alloc W4.drew _ _).both hfr9
  have hK := h9.keptT (t := t) (tv := tv) hA9 hrow9 HZ.out.1 (by
    rcases hnew9 with h1 | ⟨h1, _⟩
    · exact .inl h1
    · exact .inr ⟨_, h1, by simp⟩)
  have HTf : Hid (∃ ta n' tc, tv = .slice ta n' tc) := by obtain ⟨ta, tc, e, _⟩ := hrow9.form; exact ⟨ta, _, tc, e⟩
  have HRun : Hid ((Builtin.append_ #[65, 65] 65 #[G1.tv, .slice (some ⟨W4.drew.heap.size, 0, none⟩) 1 1]).run Try.prog (W4.drew.alloc (.cells t.cs 69)) = .ok tv w9) := hrun
  have hS9 : w9.cell? ⟨G.g, 3, none⟩ = some G1.tv ∧ Blk w9 tb 69 t.cs := by
    have hg9 : Blk w9 G1.g 67 G1.cs := h9.blk.fr hA9 fun e => h9.trs.ne_type h9.blk (by decide) e
    refine ⟨?_, hb9.fr hA9 fun e => ?_⟩
    · rw [← HGs.out.1]; exact hg9.cell 3
    · rw [HGs.out.2.2.1] at e
      exact HTb.out (.inr (.inr (.inr (.inr (.inl e)))))
  have hf9 : w9.frozen? ⟨G.g, 3, none⟩ = false := by
    have hg9 : Blk w9 G1.g 67 G1.cs := h9.blk.fr hA9 fun e => h9.trs.ne_type h9.blk (by decide) e
    rw [← HGs.out.1]; exact hg9.frozen 3
  have H9 : Hid (LgAt (w9.setCell ⟨G.g, 3, none⟩ tv) (G1.keptT t tv) ∧ Fr w (w9.setCell ⟨G.g, 3, none⟩ tv) G.own ∧ ∀ b, (G1.keptT t tv).own b → G.own b ∨ w.heap.size ≤ b) := by
    have hK' := hK
    rw [HGs.out.1] at hK'
    refine ⟨hK'.1, (H4.out.2.2.drew).both (hK'.2.1.mono fun i _ e => (HGs.out.2.1 i).1 e), fun b hb => ?_⟩
    rcases hK'.2.2 b hb with h1 | h1
    · exact .inl ((HGs.out.2.1 b).1 h1)
    · exact .inr (Nat.le_trans (H4.out.2.2.drew).size h1)
  have hS0 : W4.drew.cell? ⟨G.g, 3, none⟩ = some G1.tv ∧ Blk W4.drew tb 69 t.cs := ⟨by rw [← HGs.out.1]; exact h9.blk.cell 3, hb9⟩
  have hS1 : (W4.drew.alloc (.cells t.cs 69)).cell? ⟨G.g, 3, none⟩ = some G1.tv ∧ Blk (W4.drew.alloc (.cells t.cs 69)) tb 69 t.cs := ⟨by rw [← HGs.out.1]; exact (h9.blk.alloc _).cell 3, hb9.alloc _⟩
  clear hK hrow9 hnew9 hA9 hfr9 hrA hrun h9 hb9 hbd hi hz0 hz1 hz2 H4
  refine wp_region_late (fun w' => w'.cell? ⟨G.g, 3, none⟩ = some G1.tv ∧ Blk w' tb 69 t.cs) 10 (by kernel_rfl) ?_
  intro hCl
  generalize W4.drew = Z at *
  change wpAnyL _ _ _ _ _ _ 11 _ _ _
  obtain ⟨TV, hTV⟩ : ∃ x, x = G1.tv := ⟨_, rfl⟩
  rw [← hTV] at hS0 hS1 hS9 HRun
  have HTV : Hid (TV = G1.tv) := hTV
  rw [← hTV]
  clear hTV
  refine takeL (i := 0) (v := .pointer (some ⟨G.g, 0, none⟩)) 9 (some 43) rfl rfl (by kernel_rfl) (by kernel_rfl) (by kernel_rfl) (by kernel_rfl) hCl (fun _ _ _ h => h) (Or.inl ⟨by kernel_rfl, fun w' hSw => by kernel_rfl⟩) hS0 ?_
  clear hCl
  intro hCl
  simp only [Act.put, List.setIfInBounds_toArray, List.set_cons_zero, List.set_cons_succ]
  refine takeL (i := 1) (v := .pointer (some ⟨G.g, 0, none⟩)) 9 (some 44) rfl rfl (by kernel_rfl) (by kernel_rfl) (by kernel_rfl) (by kernel_rfl) hCl (fun _ _ _ h => h) (Or.inl ⟨by kernel_rfl, fun w' hSw => by kernel_rfl⟩) hS0 ?_
  clear hCl
  intro hCl
  simp only [Act.put, List.setIfInBounds_toArray, List.set_cons_zero, List.set_cons_succ]
  refine takeL (i := 2) (v := .pointer (some ⟨G.g, 0, none⟩)) 9 (some 45) rfl rfl (by kernel_rfl) (by kernel_rfl) (by kernel_rfl) (by kernel_rfl) hCl (fun _ _ _ h => h) (Or.inl ⟨by kernel_rfl, fun w' hSw => by kernel_rfl⟩) hS0 ?_
  clear hCl
  intro hCl
  simp only [Act.put, List.setIfInBounds_toArray, List.set_cons_zero, List.set_cons_succ]
  refine takeL (i := 3) (v := .pointer (some ⟨G.g, 3, none⟩)) 9 (some 46) rfl rfl (by kernel_rfl) (by kernel_rfl) (by kernel_rfl) (by kernel_rfl) hCl (fun _ _ _ h => h) (Or.inl ⟨by kernel_rfl, fun w' hSw => by kernel_rfl⟩) hS0 ?_
  clear hCl
  intro hCl
  simp only [Act.put, List.setIfInBounds_toArray, List.set_cons_zero, List.set_cons_succ]
  refine takeL (i := 4) (v := TV) 9 (some 47) rfl rfl (by kernel_rfl) (by kernel_rfl) (by kernel_rfl) (by kernel_rfl) hCl (fun _ _ _ h => h) (Or.inl ⟨by kernel_rfl, fun w' hSw => by have q0 := hSw.1; clear hSw; go_simp⟩) hS0 ?_
  clear hCl
  intro hCl
  simp only [Act.put, List.setIfInBounds_toArray, List.set_cons_zero, List.set_cons_succ]
  refine takeL (i := 5) (v := .agg t.cs) 9 (some 48) rfl rfl (by kernel_rfl) (by kernel_rfl) (by kernel_rfl) (by kernel_rfl) hCl (fun _ _ _ h => h) (Or.inl ⟨by kernel_rfl, fun w' hSw => by exact ldR_run hSw.2.range rfl (.tmp 17) rfl (by kernel_rfl)⟩) hS0 ?_
  clear hCl
  intro hCl
  simp only [Act.put, List.setIfInBounds_toArray, List.set_cons_zero, List.set_cons_succ]
  refine oneL (i := 6) rfl (by kernel_rfl) hCl (by kernel_rfl) (fun K1 hK1 => ?_)
  refine valR (d := some 49) rfl (.slice (some ⟨Z.heap.size, 0, none⟩) 1 1) (w' := Z.alloc (.cells t.cs 69)) (by kernel_rfl) ?_
  refine hK1.out _ _ (fun _ => hS1) ?_
  clear hK1 hCl
  intro hCl
  simp only [Act.put, List.setIfInBounds_toArray, List.set_cons_zero, List.set_cons_succ]
  refine oneL (i := 7) rfl (by kernel_rfl) hCl (by kernel_rfl) (fun K1 hK1 => ?_)
  refine valR (d := some 50) rfl tv (w' := w9) (exec_append (t := 65) (.tmp 47) (.tmp 49) rfl (by kernel_rfl) (by kernel_rfl) HRun.out) ?_
  refine hK1.out _ _ (fun _ => hS9) ?_
  clear hK1 hCl hS1 hS0
  intro hCl
  simp only [Act.put, List.setIfInBounds_toArray, List.set_cons_zero, List.set_cons_succ]
  refine takeL (i := 8) (v := .pointer (some ⟨G.g, 0, none⟩)) 9 (some 51) rfl rfl (by kernel_rfl) (by kernel_rfl) (by kernel_rfl) (by kernel_rfl) hCl (fun _ _ _ h => h) (Or.inl ⟨by kernel_rfl, fun w' hSw => by kernel_rfl⟩) hS9 ?_
  clear hCl
  intro hCl
  simp only [Act.put, List.setIfInBounds_toArray, List.set_cons_zero, List.set_cons_succ]
  refine takeL (i := 9) (v := .pointer (some ⟨G.g, 3, none⟩)) 9 (some 52) rfl rfl (by kernel_rfl) (by kernel_rfl) (by kernel_rfl) (by kernel_rfl) hCl (fun _ _ _ h => h) (Or.inl ⟨by kernel_rfl, fun w' hSw => by kernel_rfl⟩) hS9 ?_
  clear hCl
  intro hCl
  simp only [Act.put, List.setIfInBounds_toArray, List.set_cons_zero, List.set_cons_succ]
  refine oneL (i := 10) rfl (by kernel_rfl) hCl (by kernel_rfl) (fun K1 hK1 => ?_)
  refine skipR (d := none) rfl (w' := w9.setCell ⟨G.g, 3, none⟩ tv) (by obtain ⟨ta, n', tc, e⟩ := HTf.out; have q0 := hS9.1; subst e; clear hS9; go_simp) ?_
  refine hK1.out _ _ (fun h => absurd rfl h) ?_
  clear hK1 hCl hS9
  intro hCl
  simp only [Act.put, List.setIfInBounds_toArray, List.set_cons_zero, List.set_cons_succ]
  refine doneL (by kernel_rfl) ?_
  clear hCl
  refine hK9 _ _ ?_
  clear hK9 HRun hf9
  generalize w9.setCell ⟨G.g, 3, none⟩ tv = W9 at *
  have HG2 : Hid ((G1.keptT t tv).g = G.g ∧ (G1.keptT t tv).bv = G.bv ∧ (G1.keptT t tv).bs = G.bs) := ⟨HGs.out.1, HGs.out.2.2.2.1, HGs.out.2.2.2.2.2⟩
  have HTd2 : Hid (∀ bv, G.traded t tv bv = (G1.keptT t tv).keptB false bv) := fun bv => HTd.out tv bv
  generalize G1.keptT t tv = G2 at *
  clear HGs HTd HTV
  obtain ⟨i1, hi, hz0, hz1, hz2⟩ := info_parts info4
  have hrB : RowAt (W9.alloc (.cells #[.bool false] 4)) 4 1 G2.bv G2.bs.length (flatL booC G2.bs) := H9.out.1.brs.fr (Fr.alloc W9 _ (fun _ => False)) fun _ _ => id
  obtain ⟨bv, w10, hrun, hrow, hfr, hnew⟩ := run_append_row (P := Try.prog) (W9.alloc (.cells #[.bool false] 4)) 44 44 4 i1 _ 1 1 Try.underlying44 hi hz0 hz1 hz2 (by rfl) G2.bv G2.bs.length (flatL booC G2.bs) hrB ⟨W9.heap.size, 0, none⟩ 1 1 (booC false) (by rfl) (fun j u hj => by rw [Addr.add_mid, Nat.zero_add, (Blk.new W9 4 #[.bool false]).cell, ← Array.getElem?_toList]; exact hj) (fun u hu => by rw [List.mem_singleton.1 hu]; rfl) (.inl (by decide)) (by have := HZ.out.2.1; rw [HG2.out.2.2, hN]; unfold maxLen; omega) (by have := HZ.out.2.1; rw [HG2.out.2.2, hN]; omega)
  have hAB : Fr W9 w10 (fun b => G2.bv.ownBlock = some b) := (Fr.alloc W9 _ _).both hfr
  have hK := H9.out.1.keptB (x := false) (bv := bv) hAB hrow (by
    rcases hnew with h1 | ⟨h1, _⟩
    · exact .inl h1
    · exact .inr ⟨_, h1, by simp⟩)
  rw [HG2.out.1] at hK
  have HE : Hid (LgAt (w10.setCell ⟨G.g, 4, none⟩ bv) (G.traded t tv bv) ∧ Fr w (w10.setCell ⟨G.g, 4, none⟩ bv) G.own ∧ ∀ b, (G.traded t tv bv).own b → G.own b ∨ w.heap.size ≤ b) := by
    rw [HTd2.out bv]
    refine ⟨hK.1, H9.out.2.1.trans hK.2.1 (fun i hi q => ?_), fun b hb => ?_⟩
    · rcases q with q | q
      · exact q
      · rcases H9.out.2.2 i q with h1 | h1
        · exact h1
        · omega
    · rcases hK.2.2 b hb with h1 | h1
      · exact H9.out.2.2 b h1
      · exact .inr (Nat.le_trans H9.out.2.1.size h1)
  have g4 : W9.cell? ⟨G.g, 4, none⟩ = some G2.bv := by rw [← HG2.out.1]; exact H9.out.1.blk.cell 4
  have k4 : w10.cell? ⟨G.g, 4, none⟩ = some G2.bv ∧ w10.frozen? ⟨G.g, 4, none⟩ = false := by
    have hg9 : Blk w10 G2.g 67 G2.cs := H9.out.1.blk.fr hAB fun e => H9.out.1.brs.ne_type H9.out.1.blk (by decide) e
    rw [← HG2.out.1]
    exact ⟨hg9.cell 4, hg9.frozen 4⟩
  have HBf : Hid (∃ ta n' tc, bv = .slice ta n' tc) := by obtain ⟨ta, tc, e, _⟩ := hrow.form; exact ⟨ta, _, tc, e⟩
  have HRun : Hid ((Builtin.append_ #[44, 44] 44 #[G2.bv, .slice (some ⟨W9.heap.size, 0, none⟩) 1 1]).run Try.prog (W9.alloc (.cells #[.bool false] 4)) = .ok bv w10) := hrun
  clear hK hrow hfr hnew hAB hrB hrun hi hz0 hz1 hz2 H9 HG2 HTd2
  obtain ⟨k41, k42⟩ := k4
  generalize G2.bv = BV at *
  go_upto_region 10 with fail
  rename_i K10 hK10
  refine wp_region_lit ?_
  refine wpList_runTo rfl (some 53) rfl (.pointer (some ⟨G.g, 0, none⟩)) W9 (by kernel_rfl) ?_
  simp only [Act.put, List.setIfInBounds_toArray, List.set_cons_zero, List.set_cons_succ]
  refine wpList_runTo rfl (some 54) rfl (.pointer (some ⟨G.g, 0, none⟩)) W9 (by kernel_rfl) ?_
  simp only [Act.put, List.setIfInBounds_toArray, List.set_cons_zero, List.set_cons_succ]
  refine wpList_runTo rfl (some 55) rfl (.pointer (some ⟨G.g, 0, none⟩)) W9 (by kernel_rfl) ?_
  simp only [Act.put, List.setIfInBounds_toArray, List.set_cons_zero, List.set_cons_succ]
  refine wpList_runTo rfl (some 56) rfl (.pointer (some ⟨G.g, 4, none⟩)) W9 (by kernel_rfl) ?_
  simp only [Act.put, List.setIfInBounds_toArray, List.set_cons_zero, List.set_cons_succ]
  refine wpList_runTo rfl (some 57) rfl (BV) W9 (by clear k41 k42; go_simp) ?_
  simp only [Act.put, List.setIfInBounds_toArray, List.set_cons_zero, List.set_cons_succ]
  refine wpList_runTo rfl (some 58) rfl (.slice (some ⟨W9.heap.size, 0, none⟩) 1 1) (W9.alloc (.cells #[.bool false] 4)) (by kernel_rfl) ?_
  simp only [Act.put, List.setIfInBounds_toArray, List.set_cons_zero, List.set_cons_succ]
  refine wpList_runTo rfl (some 59) rfl bv w10 (exec_append (t := 44) (.tmp 57) (.tmp 58) rfl (by kernel_rfl) (by kernel_rfl) HRun.out) ?_
  simp only [Act.put, List.setIfInBounds_toArray, List.set_cons_zero, List.set_cons_succ]
  refine wpList_runTo rfl (some 60) rfl (.pointer (some ⟨G.g, 0, none⟩)) w10 (by kernel_rfl) ?_
  simp only [Act.put, List.setIfInBounds_toArray, List.set_cons_zero, List.set_cons_succ]
  refine wpList_runTo rfl (some 61) rfl (.pointer (some ⟨G.g, 4, none⟩)) w10 (by kernel_rfl) ?_
  simp only [Act.put, List.setIfInBounds_toArray, List.set_cons_zero, List.set_cons_succ]
  refine wpList_plain rfl fun K11 hK11 => ?_
  refine skipR (d := none) rfl (w' := w10.setCell ⟨G.g, 4, none⟩ bv) (by obtain ⟨ta, n', tc, e⟩ := HBf.out; subst e; clear g4; go_simp) ?_
  refine hK11 _ _ ?_
  refine wpList_nil ?_
  refine hK10 _ _ ?_
  clear hK10 hK11 k41 k42 g4
  simp only [Act.put, List.setIfInBounds_toArray, List.set_cons_zero, List.set_cons_succ]
  go_wp2
  go_ret
  exact ⟨rfl, tv, bv, HE.out⟩
end Go.Proofs.Ytidhahooebepfaa
