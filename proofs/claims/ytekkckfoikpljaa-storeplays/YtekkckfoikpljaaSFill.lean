/-
  The law's own: filled.
-/
import Derived.Test.YtekkckfoikpljaaSFill0
namespace Go.Proofs.Ytekkckfoikpljaa
set_option linter.unusedVariables false
set_option linter.unusedSimpArgs false
open Go.RowKit Go.Great

theorem results_tmp4 {fn : Func} {t u v x : Tmp} (h : fn.results = #[.tmp t, .tmp u, .tmp v, .tmp x]) (tmps : Array Value) (P : Program) (w : World) :
    (results fn tmps).run P w = .ok (.tuple #[tmps.getD t undef, tmps.getD u undef, tmps.getD v undef, tmps.getD x undef]) w := by
  simp [results, h]
set_option maxRecDepth 100000 in
set_option maxHeartbeats 4000000 in
theorem filled_any (kz : Int) (a : Option Addr) (len cap : Nat) (d : Nat → Int) (w : World) (hs : SrcI w a len d) (hl : len ≤ maxLen) (hk0 : -9223372036854775808 ≤ kz) (hk1 : kz ≤ 9223372036854775807) :
    Calls Try.prog 8 #[.int .i64 kz, .slice a len cap] w fun e w' => ∃ p va vk vl, e = .returned (.tuple #[.pointer (some ⟨p, 0, none⟩), va, .int .i64 ((putL (evF d (min len 1500))).length : Nat), .bool true]) ∧ FI w w' p (1 + pickN kz 200) (evF d (min len 1500)) (evF d (min len 1500)) vk vl va (min len 1500) := by
  have hp := pick_any kz 200 200 rfl w (by omega) (by omega) hk0 hk1
  have hpl := pickN_lt kz (n := 200) (by omega)
  generalize pickN kz 200 = K0 at *
  have hnew := New_yes (1 + K0) (1 + (K0 : Int)) (by omega) (by omega) (by omega) w
  have HS : Hid (SrcI w a len d) := hs
  clear hs
  have hl' : len ≤ 9223372036854775807 := by unfold maxLen at hl; omega
  clear hl
  obtain ⟨N, hN⟩ : ∃ N, min len 1500 = N := ⟨_, rfl⟩
  have hN1 : N ≤ 1500 := by omega
  have hN2 : N ≤ len := by omega
  rw [hN]
  have HN : Hid (min len 1500 = N) := hN
  clear hN
  have HFI : Hid (FI w (w.alloc (.cells (stC (1 + K0) 1 0 (.slice none 0 0) (.slice none 0 0)) 59)) w.heap.size (1 + K0) (evF d 0) (evF d 0) (.slice none 0 0) (.slice none 0 0) (.slice none 0 0) 0) := by
    refine ⟨st_new w _, RowAt.none0 _ _ _, rfl, (Below.refl _ w).alloc (Nat.le_refl _) _, fun b hb => ?_, fun b hb => by cases hb⟩
    rcases hb with hb | hb | hb
    · omega
    · cases hb
    · cases hb
  go_enter Try.func8, Try.ntmps8
  go_wp2_with (first | (go_at_call 9; refine hp.mono ?_; rintro e w1 ⟨rfl, ew⟩; replace ew := ew.symm; subst ew) | (go_at_call 14; refine hnew.mono ?_; rintro e w2 ⟨rfl, ew⟩; replace ew := ew.symm; subst ew))
  go_upto_region 7 with fail
  clear hp hnew
  go_loopw [10, 11, 12, 13, 14] (fun x10 x11 x12 _ _ wr => ∃ (i : Nat) (ava : Option Addr) (cva pu : Nat), i ≤ N ∧ x12 = .int .i64 (i : Int) ∧ x10 = .slice ava i cva ∧ x11 = .int .i64 (pu : Int) ∧ Hid (pu = (putL (evF d i)).length) ∧ Hid (∃ vk vl, FI w wr w.heap.size (1 + K0) (evF d i) (evF d i) vk vl (.slice ava i cva) i)) (fun _ _ x12 _ _ _ => N - (intOf x12).toNat)
  case atStart => exact ⟨0, none, 0, 0, Nat.zero_le _, rfl, rfl, rfl, rfl, _, _, HFI.out⟩
  case round =>
    clear HFI
    obtain ⟨i, ava, cva, pu, hi, rfl, rfl, rfl, HPU0, HFI⟩ := hrel
    have hpu1 : pu ≤ i := by have h1 := HPU0.out; have h2 := putL_le (evF d i); rw [evF_len] at h2; omega
    by_cases hlt : i < N
    · have hlt1 : (i : Int) < (len : Int) := by omega
      have hlt2 : (i : Int) < 1500 := by omega
      have hlt3 : i < len := by omega
      obtain ⟨vk, vl, hfi⟩ := HFI.out
      have hsr := HS.out.below hfi.below
      obtain ⟨b, off, rfl, hcell⟩ : ∃ b off, a = some ⟨b, off, none⟩ ∧ ∀ j, j < len → wr.cell? ⟨b, off + j, none⟩ = some (.int .i64 (d j)) ∧ -9223372036854775808 ≤ d j ∧ d j ≤ 9223372036854775807 := by
        rcases hsr with h0 | h0
        · omega
        · exact h0
      obtain ⟨hc, hr0, hr1⟩ := hcell i hlt3
      have HBC : Hid (∀ w', Below w.heap.size w w' → w'.cell? ⟨b, off + i, none⟩ = some (.int .i64 (d i))) := fun w' hb => by
        rcases HS.out.below hb with h0 | ⟨b', off', e, h0⟩
        · omega
        · injection e with e; injection e with e1 e2; subst e1 e2; exact (h0 i hlt3).1
      have HSI : Hid (FI w wr w.heap.size (1 + K0) (evF d i) (evF d i) vk vl (.slice ava i cva) i) := hfi
      clear hsr hcell HFI hfi
      go_upto_region 9 with fail
      rename_i Kc hKc
      refine wp_region_lit ?_
      refine wpList_runTo rfl (some 38) rfl (.agg zeroM.cs) wr (by kernel_rfl) ?_
      simp only [Act.put, List.setIfInBounds_toArray, List.set_cons_zero, List.set_cons_succ]
      refine wpList_runTo rfl (some 13) rfl (.pointer (some ⟨wr.heap.size, 0, none⟩)) (wr.alloc (.cells zeroM.cs 34)) (by kernel_rfl) ?_
      simp only [Act.put, List.setIfInBounds_toArray, List.set_cons_zero, List.set_cons_succ]
      refine wpList_store_row rfl 34 (.tmp 13) (.tmp 38) rfl wr.heap.size zeroM.cs (by kernel_rfl) (by kernel_rfl) 34 _ (heap_alloc_new wr _) (by kernel_rfl) (by kernel_rfl) (by kernel_rfl) ?_
      rw [World.setRow_alloc_new]
      refine wpList_nil ?_
      refine hKc _ _ ?_
      simp only [Act.put, List.setIfInBounds_toArray, List.set_cons_zero, List.set_cons_succ]
      have HM : Hid (FM w (wr.alloc (.cells zeroM.cs 34)) w.heap.size (1 + K0) (evF d i) (evF d i) vk vl (.slice ava i cva) i wr.heap.size zeroM) := HSI.out.own zeroM
      clear hKc HSI hc
      generalize wr.alloc (.cells zeroM.cs 34) = w3 at *
      generalize wr.heap.size = gm at *
      have hc := HBC.out w3 HM.out.fi.below
      generalize hcz : zeroM.cs = cz at *
      clear hcz
      by_cases hev : (d i).tmod 3 = 0
      · have HEV : Hid (evAt d i = none) := if_pos hev
        have hsk := Skip_yes HM.out.fi.st (by rw [evF_len]; omega)
        go_wp2_with (go_at_call 17; fail)
        refine hsk.mono ?_
        rintro e wx ⟨rfl, hst, hfr⟩
        have HM2 : Hid (FM w wx w.heap.size (1 + K0) (evF d (i + 1)) (evF d i) vk vl (.slice ava i cva) i gm zeroM) := HM.out.go (by rw [evF, HEV.out]; exact hst) hfr (.inl rfl) (.inl rfl)
        have HPU : Hid (pu = (putL (evF d (i + 1))).length) := by show pu = _; rw [evF, HEV.out, putL_none]; exact HPU0.out
        clear hst hfr hsk HM hc hev
        have hnx := Next_any HM2.out.fi.st
        have hnl : ((evF d (i + 1)).length + 1 : Nat) = i + 2 := by rw [evF_len]
        rw [hnl, show ((i + 2 : Nat) : Int) = (i : Int) + 2 by omega] at hnx
        clear hnl
        go_upto_region 18 with (go_at_call 11; refine hnx.mono ?_; rintro e w5 ⟨rfl, ew⟩; replace ew := ew.symm; subst ew)
        rename_i Kc hKc
        refine wp_region_lit ?_
        refine wpList_runTo rfl (some 77) rfl (.slice ava i cva) wx (by kernel_rfl) ?_
        simp only [Act.put, List.setIfInBounds_toArray, List.set_cons_zero, List.set_cons_succ]
        refine wpList_loadM HM2.out.om (.tmp 13) rfl rfl rfl ?_
        simp only [Act.put, List.setIfInBounds_toArray, List.set_cons_zero, List.set_cons_succ]
        obtain ⟨v8, w8, hrun, hfi8⟩ := HM2.out.app (evAt d i) (by rw [HEV.out]; rfl) (by omega)
        refine wpList_runTo rfl (some 79) rfl (.slice (some ⟨wx.heap.size, 0, none⟩) 1 1) (wx.alloc (.cells (zeroM).cs 34)) (by kernel_rfl) ?_
        simp only [Act.put, List.setIfInBounds_toArray, List.set_cons_zero, List.set_cons_succ]
        refine wpList_runTo rfl (some 80) rfl v8 w8 (exec_append (.tmp 77) (.tmp 79) 25 rfl (by kernel_rfl) (by kernel_rfl) hrun) ?_
        simp only [Act.put, List.setIfInBounds_toArray, List.set_cons_zero, List.set_cons_succ]
        clear hrun
        obtain ⟨av8, cv8, rfl, -⟩ := hfi8.all.form
        refine wpList_runTo rfl (some 10) rfl (.slice av8 (i + 1) cv8) w8 (by kernel_rfl) ?_
        simp only [Act.put, List.setIfInBounds_toArray, List.set_cons_zero, List.set_cons_succ]
        refine wpList_nil ?_
        refine hKc _ _ ?_
        have HF8 : Hid _ := hfi8
        clear hKc hfi8 hnx HM2
        generalize (zeroM).cs = csM at *
        go_wp2
        go_roundw
        case rel => exact ⟨i + 1, av8, cv8, _, by omega, by go_num, rfl, rfl, HPU.out, _, _, HF8.out⟩
        case measure => simp [intOf]; omega
      · have HEV : Hid (evAt d i = some (mkM (d i) i)) := if_neg hev
        have hpk := fun w' => pick_any (d i) 17 17 rfl w' (by omega) (by omega) hr0 hr1
        have hpk2 := pickN_lt (d i) (n := 17) (by omega)
        go_upto_region 13 with fail
        rename_i Kc hKc
        refine wp_region_held (S := fun w' => w'.cell? ⟨b, off + i, none⟩ = some (.int .i64 (d i))) (by kernel_rfl) ?_
        change wpAnyH _ _ _ _ _ _ _ _ (World.drew _)
        have HMd : Hid (FM w w3.drew w.heap.size (1 + K0) (evF d i) (evF d i) vk vl (.slice ava i cva) i gm zeroM) := HM.out.no ((Fr.refl w3 _).drew)
        clear HM
        generalize w3.drew = w4 at *
        have hS4 := HBC.out w4 HMd.out.fi.below
        have hiw : IntKind.i64.wrap ((i : Int) + 1) = (i : Int) + 1 := by rw [IntKind.wrap_i64]; omega
        refine takeR (i := 0) (v := .slice (some ⟨b, off, none⟩) len cap) (some 47) rfl rfl (by kernel_rfl) (by kernel_rfl) (by kernel_rfl) (fun _ _ _ h => h) (Or.inl ⟨by kernel_rfl, fun w' hSw => by kernel_rfl⟩) hS4 ?_
        simp only [Act.put, List.setIfInBounds_toArray, List.set_cons_zero, List.set_cons_succ]
        refine takeR (i := 1) (v := .int .i64 (i : Int)) (some 48) rfl rfl (by kernel_rfl) (by kernel_rfl) (by kernel_rfl) (fun _ _ _ h => h) (Or.inl ⟨by kernel_rfl, fun w' hSw => by kernel_rfl⟩) hS4 ?_
        simp only [Act.put, List.setIfInBounds_toArray, List.set_cons_zero, List.set_cons_succ]
        refine takeR (i := 2) (v := .pointer (some ⟨b, off + i, none⟩)) (some 49) rfl rfl (by kernel_rfl) (by kernel_rfl) (by kernel_rfl) (fun _ _ _ h => h) (Or.inl ⟨by kernel_rfl, fun w' hSw => by clear hSw; go_simp⟩) hS4 ?_
        simp only [Act.put, List.setIfInBounds_toArray, List.set_cons_zero, List.set_cons_succ]
        refine takeR (i := 3) (v := .int .i64 (d i)) (some 50) rfl rfl (by kernel_rfl) (by kernel_rfl) (by kernel_rfl) (fun _ _ _ h => h) (Or.inl ⟨by kernel_rfl, fun w' hSw => by go_simp⟩) hS4 ?_
        simp only [Act.put, List.setIfInBounds_toArray, List.set_cons_zero, List.set_cons_succ]
        refine takeR (i := 6) (v := .int .i64 (i : Int)) (some 53) rfl rfl (by kernel_rfl) (by kernel_rfl) (by kernel_rfl) (fun _ _ _ h => h) (Or.inl ⟨by kernel_rfl, fun w' hSw => by kernel_rfl⟩) hS4 ?_
        simp only [Act.put, List.setIfInBounds_toArray, List.set_cons_zero, List.set_cons_succ]
        refine takeR (i := 7) (v := .int .i64 ((i : Int) + 1)) (some 54) rfl rfl (by kernel_rfl) (by kernel_rfl) (by kernel_rfl) (fun _ _ _ h => h) (Or.inl ⟨by kernel_rfl, fun w' hSw => by clear hSw; go_simp⟩) hS4 ?_
        simp only [Act.put, List.setIfInBounds_toArray, List.set_cons_zero, List.set_cons_succ]
        refine takeR (i := 8) (v := .slice (some ⟨b, off, none⟩) len cap) (some 55) rfl rfl (by kernel_rfl) (by kernel_rfl) (by kernel_rfl) (fun _ _ _ h => h) (Or.inl ⟨by kernel_rfl, fun w' hSw => by kernel_rfl⟩) hS4 ?_
        simp only [Act.put, List.setIfInBounds_toArray, List.set_cons_zero, List.set_cons_succ]
        refine takeR (i := 9) (v := .int .i64 (i : Int)) (some 56) rfl rfl (by kernel_rfl) (by kernel_rfl) (by kernel_rfl) (fun _ _ _ h => h) (Or.inl ⟨by kernel_rfl, fun w' hSw => by kernel_rfl⟩) hS4 ?_
        simp only [Act.put, List.setIfInBounds_toArray, List.set_cons_zero, List.set_cons_succ]
        refine takeR (i := 10) (v := .pointer (some ⟨b, off + i, none⟩)) (some 57) rfl rfl (by kernel_rfl) (by kernel_rfl) (by kernel_rfl) (fun _ _ _ h => h) (Or.inl ⟨by kernel_rfl, fun w' hSw => by clear hSw; go_simp⟩) hS4 ?_
        simp only [Act.put, List.setIfInBounds_toArray, List.set_cons_zero, List.set_cons_succ]
        refine takeR (i := 11) (v := .int .i64 (d i)) (some 58) rfl rfl (by kernel_rfl) (by kernel_rfl) (by kernel_rfl) (fun _ _ _ h => h) (Or.inl ⟨by kernel_rfl, fun w' hSw => by go_simp⟩) hS4 ?_
        simp only [Act.put, List.setIfInBounds_toArray, List.set_cons_zero, List.set_cons_succ]
        refine wpAnyH_ready (rs := [4]) (by kernel_rfl) (by simp) ?_
        refine AllReadyH.cons rfl (fun K1 hK1 => ?_) AllReadyH.nil
        rw [if_pos (by kernel_rfl)]
        refine callR (d := some 51) rfl 9 #[.int .i64 (d i), .int .i64 17] (by kernel_rfl) (hpk w4) ?_
        rintro e w5 ⟨rfl, ew⟩
        replace ew := ew.symm
        subst ew
        refine ⟨_, rfl, ?_⟩
        refine hK1.out _ _ hS4 (fun hSx => ?_)
        clear hK1 hpk hSx
        simp only [Act.put, List.setIfInBounds_toArray, List.set_cons_zero, List.set_cons_succ]
        have hpw : IntKind.i64.wrap (1 + (pickN (d i) 17 : Int)) = 1 + (pickN (d i) 17 : Int) := by rw [IntKind.wrap_i64]; omega
        refine takeR (i := 5) (v := .int .i64 (1 + (pickN (d i) 17 : Int))) (some 52) rfl rfl (by kernel_rfl) (by kernel_rfl) (by kernel_rfl) (fun _ _ _ h => h) (Or.inl ⟨by kernel_rfl, fun w' hSw => by clear hSw; go_simp⟩) hS4 ?_
        simp only [Act.put, List.setIfInBounds_toArray, List.set_cons_zero, List.set_cons_succ]
        refine takeR (i := 12) (v := .agg (mkM (d i) i).cs) (some 59) rfl rfl (by kernel_rfl) (by kernel_rfl) (by kernel_rfl) (fun _ _ _ h => h) (Or.inl ⟨by kernel_rfl, fun w' hSw => by kernel_rfl⟩) hS4 ?_
        simp only [Act.put, List.setIfInBounds_toArray, List.set_cons_zero, List.set_cons_succ]
        refine wpAnyH_ready (rs := [13]) (by kernel_rfl) (by simp) ?_
        refine AllReadyH.cons rfl (fun K2 hK2 => ?_) AllReadyH.nil
        rw [if_pos (by kernel_rfl)]
        refine wp_store_row 34 (.tmp 13) (.tmp 59) rfl gm (mkM (d i) i).cs (by kernel_rfl) (by kernel_rfl) 34 zeroM.cs HMd.out.om (by rw [Msg.cs_size]; kernel_rfl) (by rw [Msg.cs_size, Msg.cs_size]) (mkM (d i) i).one ?_
        have HM5 : Hid _ := HMd.out.set (mkM (d i) i)
        refine hK2.out _ _ (HBC.out _ HM5.out.fi.below) (fun hSx => ?_)
        clear hK2 hSx
        simp only [Act.put, List.setIfInBounds_toArray, List.set_cons_zero, List.set_cons_succ]
        refine wpAnyH_done (by kernel_rfl) ?_ _
        refine hKc _ _ ?_
        clear hKc hS4 HMd hpw
        generalize w4.setRow gm (mkM (d i) i).cs = w6 at *
        go_upto_region 14 with fail
        refine wp_region_lit ?_
        refine wpList_runTo rfl (some 60) rfl (.pointer (some ⟨w.heap.size, 0, none⟩)) w6 (by kernel_rfl) ?_
        simp only [Act.put, List.setIfInBounds_toArray, List.set_cons_zero, List.set_cons_succ]
        refine wpList_loadM HM5.out.om (.tmp 13) rfl rfl rfl ?_
        simp only [Act.put, List.setIfInBounds_toArray, List.set_cons_zero, List.set_cons_succ]
        have hput := Put_yes (mkM (d i) i) HM5.out.fi.st (by rw [evF_len]; show (i : Int) + 1 = _; omega) (by rw [evF_len]; omega) (by omega) (by omega)
        generalize hcm : (mkM (d i) i).cs = cm at *
        go_wp2_with (go_at_call 13; fail)
        refine hput.mono ?_
        rintro e wx ⟨rfl, vk2, vl2, hst, hfr, hn1, hn2⟩
        have HM2 : Hid (FM w wx w.heap.size (1 + K0) (evF d (i + 1)) (evF d i) vk2 vl2 (.slice ava i cva) i gm (mkM (d i) i)) := HM5.out.go (by rw [evF, HEV.out]; exact hst) hfr hn1 hn2
        have HPU : Hid (pu + 1 = (putL (evF d (i + 1))).length) := by show pu + 1 = _; rw [evF, HEV.out, putL_some, List.length_append]; have := HPU0.out; simp; exact this
        clear hst hfr hn1 hn2 hput HM5
        have hnx := Next_any HM2.out.fi.st
        have hnl : ((evF d (i + 1)).length + 1 : Nat) = i + 2 := by rw [evF_len]
        rw [hnl, show ((i + 2 : Nat) : Int) = (i : Int) + 2 by omega] at hnx
        clear hnl
        go_upto_region 18 with (go_at_call 11; refine hnx.mono ?_; rintro e w5 ⟨rfl, ew⟩; replace ew := ew.symm; subst ew)
        rename_i Kc hKc Kc9 hxx
        refine wp_region_lit ?_
        refine wpList_runTo rfl (some 77) rfl (.slice ava i cva) wx (by kernel_rfl) ?_
        simp only [Act.put, List.setIfInBounds_toArray, List.set_cons_zero, List.set_cons_succ]
        refine wpList_loadM HM2.out.om (.tmp 13) rfl rfl rfl ?_
        simp only [Act.put, List.setIfInBounds_toArray, List.set_cons_zero, List.set_cons_succ]
        obtain ⟨v8, w8, hrun, hfi8⟩ := HM2.out.app (evAt d i) (by rw [HEV.out]; rfl) (by omega)
        refine wpList_runTo rfl (some 79) rfl (.slice (some ⟨wx.heap.size, 0, none⟩) 1 1) (wx.alloc (.cells (mkM (d i) i).cs 34)) (by kernel_rfl) ?_
        simp only [Act.put, List.setIfInBounds_toArray, List.set_cons_zero, List.set_cons_succ]
        refine wpList_runTo rfl (some 80) rfl v8 w8 (exec_append (.tmp 77) (.tmp 79) 25 rfl (by kernel_rfl) (by kernel_rfl) hrun) ?_
        simp only [Act.put, List.setIfInBounds_toArray, List.set_cons_zero, List.set_cons_succ]
        clear hrun
        obtain ⟨av8, cv8, rfl, -⟩ := hfi8.all.form
        refine wpList_runTo rfl (some 10) rfl (.slice av8 (i + 1) cv8) w8 (by kernel_rfl) ?_
        simp only [Act.put, List.setIfInBounds_toArray, List.set_cons_zero, List.set_cons_succ]
        refine wpList_nil ?_
        refine hKc _ _ ?_
        have HF8 : Hid _ := hfi8
        clear hKc hfi8 hnx HM2
        generalize (mkM (d i) i).cs = csM at *
        go_wp2
        go_roundw
        case rel => exact ⟨i + 1, av8, cv8, _, by omega, by go_num, rfl, rfl, HPU.out, _, _, HF8.out⟩
        case measure => simp [intOf]; omega
    · obtain rfl : i = N := by omega
      obtain ⟨vk, vl, hfi⟩ := HFI.out
      have hge : ¬ ((i : Int) < (len : Int) ∧ (i : Int) < 1500) := by have := HN.out; omega
      have HSI : Hid (FI w wr w.heap.size (1 + K0) (evF d i) (evF d i) vk vl (.slice ava i cva) i) := hfi
      clear HFI hfi
      by_cases h1 : (i : Int) < (len : Int)
      · have h2 : ¬ (i : Int) < 1500 := by omega
        clear hge
        go_wp2
        (try simp only [Exit.inBlock, Exit.then])
        refine bodyPost_ret (results_tmp4 rfl _ _ _) rfl ?_
        rw [← HPU0.out]
        first | exact ⟨_, _, _, _, rfl, HSI.out⟩ | exact ⟨_, _, rfl, _, _, HSI.out⟩
      · clear hge
        go_wp2
        (try simp only [Exit.inBlock, Exit.then])
        refine bodyPost_ret (results_tmp4 rfl _ _ _) rfl ?_
        rw [← HPU0.out]
        first | exact ⟨_, _, _, _, rfl, HSI.out⟩ | exact ⟨_, _, rfl, _, _, HSI.out⟩
end Go.Proofs.Ytekkckfoikpljaa
