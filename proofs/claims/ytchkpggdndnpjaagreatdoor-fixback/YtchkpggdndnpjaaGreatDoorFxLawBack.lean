/-
  fix: FixBack's walk.
-/
import Derived.Test.YtchkpggdndnpjaaGreatDoorG46
namespace Go.Proofs.YtchkpggdndnpjaaGreatDoor
set_option linter.unusedVariables false
set_option linter.unusedSimpArgs false
open Go.RowKit Go.Great

set_option maxRecDepth 100000 in
set_option maxHeartbeats 4000000 in
theorem FixBack_law (M : Msg) (w : World) (hz : M.ok) (he : Env w) :
    Calls Tryz.prog 5 #[.agg M.cs] w fun e w' => e = .returned (.bool true) ∧ Below w.heap.size w w' := by
  have HE : Hid (Env w ∧ M.ok) := ⟨he, hz⟩
  have HO1 : Hid (LM w (w.alloc (.cells M.cs 25)) w.heap.size M) := ⟨heap_alloc_new w _, (Below.refl _ w).alloc (Nat.le_refl _) _⟩
  clear he hz
  go_enter Tryz.func5, Tryz.ntmps5
  go_upto_region 1 with fail
  generalize w.alloc (.cells M.cs 25) = w1 at *
  generalize hcs : M.cs = CS at *
  have Hcs : Hid (M.cs = CS) := hcs
  clear hcs
  go_wp2_with (go_at_call 9; fail)
  refine (shown_any _ (HE.out.1.below HO1.out.below).mon (HE.out.1.below HO1.out.below).pow (HE.out.1.below HO1.out.below).ety).mono ?_
  rintro e w2 ⟨rfl, hb2⟩
  have HO2 : Hid (LM w w2 w.heap.size M) := HO1.out.low hb2
  clear hb2 HO1
  go_upto_region 2 with fail
  refine wp_region_lit ?_
  refine wpList_loadM HO2.out.msg (.tmp 1) rfl rfl rfl ?_
  simp only [Act.put, List.setIfInBounds_toArray, List.set_cons_zero, List.set_cons_succ]
  rw [Hcs.out]
  go_wp2_with (go_at_call 12; fail)
  have hvc := Valid_any M w2 (HE.out.1.below HO2.out.below).mon HE.out.2
  rw [Hcs.out] at hvc
  refine hvc.mono ?_
  clear hvc
  rintro e w3 ⟨rfl, hb3⟩
  have HO3 : Hid (LM w w3 w.heap.size M) := HO2.out.low hb3
  clear hb3 HO2
  have HE3 := HE.out.1.below HO3.out.below
  by_cases hv : valE M = 0
  · obtain ⟨b, hj, hl, hEn⟩ := Encode_ok M w3 HE3.mon HE3.pow HE.out.2 hv
    have HV : Hid (Vld M ∧ joinL (encF M) = .ok b ∧ b.length ≤ 1024) := ⟨vld_of hv, hj, hl⟩
    rw [hv]
    rw [Hcs.out] at hEn
    clear hv hj HE3
    generalize valN M = N at *
    go_upto_region 3 with fail
    refine wp_region_lit ?_
    refine wpList_loadM HO3.out.msg (.tmp 1) rfl rfl rfl ?_
    simp only [Act.put, List.setIfInBounds_toArray, List.set_cons_zero, List.set_cons_succ]
    rw [Hcs.out]
    go_wp2_with (go_at_call 13; fail)
    refine hEn.mono ?_
    clear hEn
    rintro e w4 ⟨v, rfl, ho4, hb4⟩
    have HO4 : Hid (LM w w4 w.heap.size M ∧ SrcB w4 v b) := ⟨HO3.out.low hb4, ho4.src⟩
    clear hb4 ho4 HO3
    obtain ⟨av, cv, rfl⟩ : ∃ a c, v = .slice a b.length c := by obtain ⟨a, c, h, -⟩ := HO4.out.2; exact ⟨a, c, h⟩
    have hbl : (b.length : Int) ≤ 1024 := by omega
    have HD := Decode_back HV.out.1 HV.out.2.1 hl (.slice av b.length cv) w4 HO4.out.2 (HE.out.1.below HO4.out.1.below)
    obtain ⟨n, hn⟩ : ∃ n, n = b.length := ⟨_, rfl⟩
    rw [← hn] at HD HO4 hbl ⊢
    have Hn : Hid (n = b.length) := hn
    clear hl hn
    go_upto_region 8 with fail
    rename_i K8 hK8
    refine wp_region_lit ?_
    refine wpList_runTo rfl (some 37) rfl (.slice av n cv) w4 (by kernel_rfl) ?_
    refine wpList_callF rfl (some 38) rfl 10 #[.slice av n cv] (by kernel_rfl) HD ?_
    rintro e w5 ⟨rfl, hb5⟩
    refine ⟨_, rfl, ?_⟩
    refine wpList_runTo rfl (some 36) rfl (.tuple #[.agg M.cs, .nilIface]) w5 (by kernel_rfl) ?_
    refine wpList_runTo rfl (some 39) rfl (.agg M.cs) w5 (by kernel_rfl) ?_
    refine wpList_runTo rfl (some 40) rfl (.nilIface) w5 (by kernel_rfl) ?_
    refine wpList_runTo rfl (some 8) rfl (.pointer (some ⟨w5.heap.size, 0, none⟩)) (w5.alloc (.cells zeroM.cs 25)) (by kernel_rfl) ?_
    simp only [Act.put, List.setIfInBounds_toArray, List.set_cons_zero, List.set_cons_succ]
    refine wpList_store_row rfl 25 (.tmp 8) (.tmp 39) rfl w5.heap.size M.cs (by rfl) (by rfl) 25 _ (heap_alloc_new w5 _) (by rw [Msg.cs_size]; kernel_rfl) (by simp only [Msg.cs_size]) (Msg.cs_one _) ?_
    refine wpList_runTo rfl (some 9) rfl (.nilIface) ((w5.alloc (.cells zeroM.cs 25)).setRow w5.heap.size M.cs) (by kernel_rfl) ?_
    refine wpList_nil ?_
    refine hK8 _ _ ?_
    clear hK8
    simp only [Act.put, List.setIfInBounds_toArray, List.set_cons_zero, List.set_cons_succ]
    have HO6 : Hid (LM w ((w5.alloc (.cells zeroM.cs 25)).setRow w5.heap.size M.cs) w.heap.size M ∧ SrcB ((w5.alloc (.cells zeroM.cs 25)).setRow w5.heap.size M.cs) (.slice av n cv) b ∧ OwnM ((w5.alloc (.cells zeroM.cs 25)).setRow w5.heap.size M.cs) w5.heap.size M) := ⟨(HO4.out.1.low hb5).low put_below, (HO4.out.2.below hb5).below put_below, put_own⟩
    clear hb5 HD HO4
    generalize (w5.alloc (.cells zeroM.cs 25)).setRow w5.heap.size M.cs = w6 at *
    generalize w5.heap.size = g5 at *
    have HW := Why_back HV.out.1 HV.out.2.1 (by have := Hn.out; omega) (.slice av n cv) w6 HO6.out.2.1 (HE.out.1.below HO6.out.1.below)
    go_upto_region 9 with fail
    rename_i K9 hK9
    refine wp_region_lit ?_
    refine wpList_runTo rfl (some 42) rfl (.slice av n cv) w6 (by kernel_rfl) ?_
    refine wpList_callF rfl (some 43) rfl 18 #[.slice av n cv] (by kernel_rfl) HW ?_
    rintro e w7 ⟨rfl, hb7⟩
    refine ⟨_, rfl, ?_⟩
    refine wpList_runTo rfl (some 41) rfl (.tuple #[.int .i64 0, .int .i64 0, .agg M.cs]) w7 (by kernel_rfl) ?_
    refine wpList_runTo rfl (some 44) rfl (.int .i64 0) w7 (by kernel_rfl) ?_
    refine wpList_runTo rfl (some 45) rfl (.int .i64 0) w7 (by kernel_rfl) ?_
    refine wpList_runTo rfl (some 46) rfl (.agg M.cs) w7 (by kernel_rfl) ?_
    refine wpList_runTo rfl (some 12) rfl (.pointer (some ⟨w7.heap.size, 0, none⟩)) (w7.alloc (.cells zeroM.cs 25)) (by kernel_rfl) ?_
    refine wpList_runTo rfl (some 10) rfl (.int .i64 0) (w7.alloc (.cells zeroM.cs 25)) (by kernel_rfl) ?_
    refine wpList_runTo rfl (some 11) rfl (.int .i64 0) (w7.alloc (.cells zeroM.cs 25)) (by kernel_rfl) ?_
    simp only [Act.put, List.setIfInBounds_toArray, List.set_cons_zero, List.set_cons_succ]
    refine wpList_store_row rfl 25 (.tmp 12) (.tmp 46) rfl w7.heap.size M.cs (by rfl) (by rfl) 25 _ (heap_alloc_new w7 _) (by rw [Msg.cs_size]; kernel_rfl) (by simp only [Msg.cs_size]) (Msg.cs_one _) ?_
    refine wpList_nil ?_
    refine hK9 _ _ ?_
    clear hK9
    simp only [Act.put, List.setIfInBounds_toArray, List.set_cons_zero, List.set_cons_succ]
    have HO8 : Hid (LM w ((w7.alloc (.cells zeroM.cs 25)).setRow w7.heap.size M.cs) w.heap.size M ∧ OwnM ((w7.alloc (.cells zeroM.cs 25)).setRow w7.heap.size M.cs) g5 M ∧ OwnM ((w7.alloc (.cells zeroM.cs 25)).setRow w7.heap.size M.cs) w7.heap.size M) := ⟨(HO6.out.1.low hb7).low put_below, (HO6.out.2.2.low hb7).low put_below, put_own⟩
    clear hb7 HW HO6
    generalize (w7.alloc (.cells zeroM.cs 25)).setRow w7.heap.size M.cs = w8 at *
    generalize w7.heap.size = g7 at *
    go_upto_region 10 with fail
    rename_i K10 hK10
    refine wp_region_lit ?_
    refine wpList_runTo rfl (some 47) rfl (.nilIface) w8 (by kernel_rfl) ?_
    refine wpList_runTo rfl (some 48) rfl (.bool true) w8 (by kernel_rfl) ?_
    refine wpList_runTo rfl (some 49) rfl (.bool true) w8 (by kernel_rfl) ?_
    simp only [Act.put, List.setIfInBounds_toArray, List.set_cons_zero, List.set_cons_succ]
    refine wpList_loadG HO8.out.2.1 (.tmp 8) (by kernel_rfl) rfl rfl ?_
    simp only [Act.put, List.setIfInBounds_toArray, List.set_cons_zero, List.set_cons_succ]
    refine wpList_loadG HO8.out.1.msg (.tmp 1) (by kernel_rfl) rfl rfl ?_
    refine wpList_runToG (by kernel_rfl) (some 52) rfl (.bool true) w8 (by exact eqM_run (.tmp 50) (.tmp 51) rfl rfl rfl _) ?_
    simp only [Act.put, List.setIfInBounds_toArray, List.set_cons_zero, List.set_cons_succ]
    refine wpList_runTo rfl (some 53) rfl (.bool true) w8 (by kernel_rfl) ?_
    refine wpList_runTo rfl (some 54) rfl (.bool true) w8 (by kernel_rfl) ?_
    refine wpList_runToG (by kernel_rfl) (some 55) rfl (.int .i64 0) w8 (by kernel_rfl) ?_
    simp only [Act.put, List.setIfInBounds_toArray, List.set_cons_zero, List.set_cons_succ]
    refine wpList_runToG (by kernel_rfl) (some 56) rfl (.bool true) w8 (by kernel_rfl) ?_
    simp only [Act.put, List.setIfInBounds_toArray, List.set_cons_zero, List.set_cons_succ]
    refine wpList_runTo rfl (some 57) rfl (.bool true) w8 (by kernel_rfl) ?_
    refine wpList_runTo rfl (some 58) rfl (.bool true) w8 (by kernel_rfl) ?_
    refine wpList_runToG (by kernel_rfl) (some 59) rfl (.int .i64 0) w8 (by kernel_rfl) ?_
    simp only [Act.put, List.setIfInBounds_toArray, List.set_cons_zero, List.set_cons_succ]
    refine wpList_runToG (by kernel_rfl) (some 60) rfl (.bool true) w8 (by kernel_rfl) ?_
    simp only [Act.put, List.setIfInBounds_toArray, List.set_cons_zero, List.set_cons_succ]
    refine wpList_runTo rfl (some 61) rfl (.bool true) w8 (by kernel_rfl) ?_
    refine wpList_runTo rfl (some 62) rfl (.bool true) w8 (by kernel_rfl) ?_
    simp only [Act.put, List.setIfInBounds_toArray, List.set_cons_zero, List.set_cons_succ]
    refine wpList_loadG HO8.out.2.2 (.tmp 12) (by kernel_rfl) rfl rfl ?_
    simp only [Act.put, List.setIfInBounds_toArray, List.set_cons_zero, List.set_cons_succ]
    refine wpList_loadG HO8.out.1.msg (.tmp 1) (by kernel_rfl) rfl rfl ?_
    refine wpList_runToG (by kernel_rfl) (some 65) rfl (.bool true) w8 (by exact eqM_run (.tmp 63) (.tmp 64) rfl rfl rfl _) ?_
    simp only [Act.put, List.setIfInBounds_toArray, List.set_cons_zero, List.set_cons_succ]
    refine wpList_runTo rfl (some 66) rfl (.bool true) w8 (by kernel_rfl) ?_
    refine wpList_runTo rfl (some 67) rfl (.bool true) w8 (by kernel_rfl) ?_
    refine wpList_runToG (by kernel_rfl) (some 68) rfl (.slice av n cv) w8 (by kernel_rfl) ?_
    simp only [Act.put, List.setIfInBounds_toArray, List.set_cons_zero, List.set_cons_succ]
    refine wpList_runToG (by kernel_rfl) (some 69) rfl (.int .i64 n) w8 (by kernel_rfl) ?_
    simp only [Act.put, List.setIfInBounds_toArray, List.set_cons_zero, List.set_cons_succ]
    refine wpList_runToG (by kernel_rfl) (some 70) rfl (.bool (decide ((n : Int) ≤ 1024))) w8 (by kernel_rfl) ?_
    simp only [Act.put, List.setIfInBounds_toArray, List.set_cons_zero, List.set_cons_succ]
    rw [decide_eq_true hbl]
    refine wpList_runTo rfl (some 71) rfl (.bool true) w8 (by kernel_rfl) ?_
    refine wpList_runTo rfl (some 2) rfl (.bool true) w8 (by kernel_rfl) ?_
    refine wpList_nil ?_
    refine hK10 _ _ ?_
    clear hK10
    simp only [Act.put, List.setIfInBounds_toArray, List.set_cons_zero, List.set_cons_succ]
    go_wp2
    go_ret
    exact ⟨rfl, HO8.out.1.below⟩
  · have hEn := Encode_no M w3 HE3.mon HE.out.2 hv
    rw [Hcs.out] at hEn
    have hv1 : (valE M != 0) = true := by simpa using hv
    clear HE3
    generalize valE M = E at *
    generalize valN M = N at *
    clear hv
    go_upto_region 3 with fail
    refine wp_region_lit ?_
    refine wpList_loadM HO3.out.msg (.tmp 1) rfl rfl rfl ?_
    simp only [Act.put, List.setIfInBounds_toArray, List.set_cons_zero, List.set_cons_succ]
    rw [Hcs.out]
    go_wp2_with (go_at_call 13; fail)
    refine hEn.mono ?_
    clear hEn
    rintro e w4 ⟨rfl, hb4⟩
    have HO4 : Hid (LM w w4 w.heap.size M) := HO3.out.low hb4
    clear hb4 HO3
    go_wp2
    go_ret
    exact ⟨rfl, HO4.out.below⟩
end Go.Proofs.YtchkpggdndnpjaaGreatDoor
