/-
  bin: BinApart, walked.
-/
import Derived.Test.YthadnogcocmfgaaGreatDoorBEqM
namespace Go.Proofs.YthadnogcocmfgaaGreatDoor
set_option linter.unusedVariables false
open Go.RowKit Go.Great Go.Lib

set_option maxRecDepth 100000 in
set_option maxHeartbeats 2000000 in
theorem BinApart_law (M : Msg) (hz : M.ok) (hS : M.okS) (M' : Msg) (hz' : M'.ok) (hS' : M'.okS) (w : World) (hM : Mon w) :
    Calls Tryz.prog 5 #[.agg M.cs, .agg M'.cs] w fun e w' => e = .returned (.bool true) ∧ Below w.heap.size w w' := by
  have HM : Hid (0 < w.heap.size ∧ Mon w ∧ M.ok ∧ M'.ok) := ⟨hM.lt, hM, hz, hz'⟩
  have HO1 : Hid (OwnM ((w.alloc (.cells M.cs 23)).alloc (.cells M'.cs 23)) w.heap.size M ∧ OwnM ((w.alloc (.cells M.cs 23)).alloc (.cells M'.cs 23)) (w.heap.size + 1) M' ∧ Below w.heap.size w ((w.alloc (.cells M.cs 23)).alloc (.cells M'.cs 23))) := by
    have h1 : OwnM (w.alloc (.cells M.cs 23)) w.heap.size M := heap_alloc_new w _
    have h2 := heap_alloc_new (w.alloc (.cells M.cs 23)) (.cells M'.cs 23)
    rw [show (w.alloc (.cells M.cs 23)).heap.size = w.heap.size + 1 by simp] at h2
    exact ⟨h1.low ((Below.refl _ _).alloc (Nat.le_refl _) _), h2, ((Below.refl _ w).alloc (Nat.le_refl _) _).alloc (by simp) _⟩
  clear hS hM hz hS' hz'
  go_enter Tryz.func5, Tryz.ntmps5
  go_upto_region 1 with fail
  generalize (w.alloc (.cells M.cs 23)).alloc (.cells M'.cs 23) = w1 at *
  generalize hcs : M.cs = CS at *
  generalize hcs' : M'.cs = CS' at *
  go_wp2_with (go_at_call 9; fail)
  refine (shown_any w1 (HM.out.2.1.below HO1.out.2.2 HM.out.1)).mono ?_
  rintro e w2 ⟨rfl, hb2⟩
  have HO2 : Hid (OwnM w2 w.heap.size M ∧ OwnM w2 (w.heap.size + 1) M' ∧ Below w.heap.size w w2) := ⟨HO1.out.1.low hb2, HO1.out.2.1.low hb2, HO1.out.2.2.trans (hb2.mono HO1.out.2.2.size)⟩
  clear HO1 hb2
  by_cases h0 : valE M = 0
  · have HE : Hid (Unit → _) := fun _ => Encode_yes M w2 (HM.out.2.1.below HO2.out.2.2 HM.out.1) HM.out.2.2.1 h0
    rw [hcs] at HE
    have H0 : Hid (valE M = 0) := h0
    clear h0
    go_upto_region 2 with fail
    refine wp_region_lit ?_
    refine wpList_loadM HO2.out.1 (.tmp 2) rfl rfl rfl ?_
    simp only [Act.put, List.setIfInBounds_toArray, List.set_cons_zero, List.set_cons_succ]
    rw [hcs]
    go_wp2_with (go_at_call 11; fail)
    refine (HE.out ()).mono ?_
    rintro e w3 ⟨g, rfl, ho3, hge, hb3⟩
    have HO3 : Hid (OwnM w3 w.heap.size M ∧ OwnM w3 (w.heap.size + 1) M' ∧ Below w.heap.size w w3 ∧ OwnL w3 g (frameL M)) := ⟨HO2.out.1.low hb3, HO2.out.2.1.low hb3, HO2.out.2.2.trans (hb3.mono HO2.out.2.2.size), ho3⟩
    clear ho3 hge hb3 HE HO2
    obtain ⟨n, hn⟩ : ∃ n, n = (frameL M).length := ⟨_, rfl⟩
    rw [← hn]
    have HN : Hid (n = (frameL M).length) := hn
    clear hn
    by_cases h1 : valE M' = 0
    · have HE : Hid (Unit → _) := fun _ => Encode_yes M' w3 (HM.out.2.1.below HO3.out.2.2.1 HM.out.1) HM.out.2.2.2 h1
      rw [hcs'] at HE
      have H1 : Hid (valE M' = 0) := h1
      clear h1
      go_upto_region 3 with fail
      refine wp_region_lit ?_
      refine wpList_loadM HO3.out.2.1 (.tmp 3) rfl rfl rfl ?_
      simp only [Act.put, List.setIfInBounds_toArray, List.set_cons_zero, List.set_cons_succ]
      rw [hcs']
      go_wp2_with (go_at_call 11; fail)
      refine (HE.out ()).mono ?_
      rintro e w4 ⟨g', rfl, ho4, hge, hb4⟩
      have HO4 : Hid (OwnM w4 w.heap.size M ∧ OwnM w4 (w.heap.size + 1) M' ∧ Below w.heap.size w w4 ∧ OwnL w4 g (frameL M) ∧ OwnL w4 g' (frameL M')) := ⟨HO3.out.1.low hb4, HO3.out.2.1.low hb4, HO3.out.2.2.1.trans (hb4.mono HO3.out.2.2.1.size), HO3.out.2.2.2.below hb4 HO3.out.2.2.2.lt, ho4⟩
      clear ho4 hge hb4 HE HO3
      obtain ⟨n', hn'⟩ : ∃ n, n = (frameL M').length := ⟨_, rfl⟩
      rw [← hn']
      have HN' : Hid (n' = (frameL M').length) := hn'
      clear hn'
      have c0 : w4.cell? ⟨w.heap.size, 0, none⟩ = some (.int .i64 (M.z 0)) := HO4.out.1.cell 0 (by decide)
      have c1 : w4.cell? ⟨w.heap.size + 1, 0, none⟩ = some (.int .i64 (M'.z 0)) := HO4.out.2.1.cell 0 (by decide)
      obtain ⟨b, hb⟩ : ∃ b : Bool, b = true ↔ CS = CS' := by
        by_cases e : CS = CS'
        · exact ⟨true, by simp [e]⟩
        · exact ⟨false, by simp [e]⟩
      have HB : Hid (((⟨(frameL M).toArray⟩ : ByteArray) == ⟨(frameL M').toArray⟩) = b ∧ (b = true ↔ M.cs = M'.cs)) := by
        rw [← hcs, ← hcs'] at hb
        refine ⟨?_, hb⟩
        rw [beq_toListBytes]
        apply Bool.eq_iff_iff.2
        rw [hb, beq_iff_eq, ByteArray.toList_eq, ByteArray.toList_eq]
        exact ⟨fun e => frame_inj H0.out H1.out e, fun e => frame_cs H0.out e⟩
      clear hb
      have HZ : Hid (M.z 0 = M'.z 0 → n = n') := fun e => by rw [HN.out, HN'.out, frame_length H0.out, frame_length H1.out, e]
      go_upto_region 6 with fail
      refine wp_region_quiet_lit (by kernel_rfl) (by kernel_rfl) ?_
      refine quiet_runTo (by kernel_rfl) (some 32) rfl (.slice (some ⟨g, 0, none⟩) n n) (fun w' _ => by kernel_rfl) ?_
      refine quiet_runTo (by kernel_rfl) (some 33) rfl (.string ⟨(frameL M).toArray⟩) (fun w' hw => by obtain ⟨q, rfl⟩ := hw; exact conv_run (w := w4.drewN q) (g := g) (n := n) (cap := n) HO4.out.2.2.2.1 HN.out (.tmp 32) rfl (by kernel_rfl)) ?_
      refine quiet_runTo (by kernel_rfl) (some 34) rfl (.slice (some ⟨g', 0, none⟩) n' n') (fun w' _ => by kernel_rfl) ?_
      refine quiet_runTo (by kernel_rfl) (some 35) rfl (.string ⟨(frameL M').toArray⟩) (fun w' hw => by obtain ⟨q, rfl⟩ := hw; exact conv_run (w := w4.drewN q) (g := g') (n := n') (cap := n') HO4.out.2.2.2.2 HN'.out (.tmp 34) rfl (by kernel_rfl)) ?_
      simp only [Act.put, List.setIfInBounds_toArray, List.set_cons_zero, List.set_cons_succ]
      have HS : Hid (((⟨(frameL M).toArray⟩ : ByteArray) == ⟨(frameL M').toArray⟩) = b) := HB.out.1
      generalize (⟨(frameL M).toArray⟩ : ByteArray) = SA at *
      generalize (⟨(frameL M').toArray⟩ : ByteArray) = SB at *
      have hS1 : (SA == SB) = b := HS.out
      have hS2 : (SA.toList == SB.toList) = b := by rw [← beq_toListBytes]; exact hS1
      quiet_step (fail)
      clear hS1 hS2
      refine quiet_runTo (by kernel_rfl) (some 37) rfl (.agg M.cs) (fun w' hw => by obtain ⟨q, rfl⟩ := hw; exact loadM_run (w := w4.drewN q) (g := w.heap.size) HO4.out.1 (.tmp 2) rfl (by kernel_rfl)) ?_
      refine quiet_runTo (by kernel_rfl) (some 38) rfl (.agg M'.cs) (fun w' hw => by obtain ⟨q, rfl⟩ := hw; exact loadM_run (w := w4.drewN q) (g := w.heap.size + 1) HO4.out.2.1 (.tmp 3) rfl (by kernel_rfl)) ?_
      refine quiet_runTo (by kernel_rfl) (some 39) rfl (.bool b) (fun w' _ => eqM_any M M' (.tmp 37) (.tmp 38) rfl (by kernel_rfl) (by kernel_rfl) b HB.out.2 w') ?_
      simp only [Act.put, List.setIfInBounds_toArray, List.set_cons_zero, List.set_cons_succ]
      rw [hcs, hcs']
      have hbb : (b == b) = true := by simp
      quiet_step (fail)
      clear hbb
      have HB4 : Hid (Below w.heap.size w w4) := HO4.out.2.2.1
      clear HO4 HB HS HM
      generalize M.z 0 = za at *
      generalize M'.z 0 = zb at *
      by_cases hk : za = zb
      · have hnn := HZ.out hk
        subst hk
        subst hnn
        clear HZ HN HN' H0 H1 hcs hcs'
        repeat (quiet_step (fail))
        refine wpQuiet_nil ?_
        rintro _ ⟨q, rfl⟩
        go_wp2
        go_ret
        exact ⟨rfl, below_drewN HB4.out q⟩
      · have hkb : (za != zb) = true := by simpa using hk
        clear HZ HN HN' H0 H1 hcs hcs'
        repeat (quiet_step (fail))
        refine wpQuiet_nil ?_
        rintro _ ⟨q, rfl⟩
        go_wp2
        go_ret
        exact ⟨rfl, below_drewN HB4.out q⟩
    · have HE : Hid (Unit → _) := fun _ => Encode_no M' w3 (HM.out.2.1.below HO3.out.2.2.1 HM.out.1) HM.out.2.2.2 h1
      rw [hcs'] at HE
      have hvb : (valE M' != 0) = true := by simpa using h1
      generalize valE M' = VE at *
      go_upto_region 3 with fail
      refine wp_region_lit ?_
      refine wpList_loadM HO3.out.2.1 (.tmp 3) rfl rfl rfl ?_
      simp only [Act.put, List.setIfInBounds_toArray, List.set_cons_zero, List.set_cons_succ]
      rw [hcs']
      go_wp2_with (go_at_call 11; fail)
      refine (HE.out ()).mono ?_
      rintro e w4 ⟨rfl, hb4⟩
      have HB4 : Hid (Below w.heap.size w w4) := HO3.out.2.2.1.trans (hb4.mono HO3.out.2.2.1.size)
      clear hb4 HE HO3
      go_wp2
      go_ret
      exact ⟨rfl, HB4.out⟩
  · have HE : Hid (Unit → _) := fun _ => Encode_no M w2 (HM.out.2.1.below HO2.out.2.2 HM.out.1) HM.out.2.2.1 h0
    rw [hcs] at HE
    have hvb : (valE M != 0) = true := by simpa using h0
    have HV : Hid (valE M = valE M) := rfl
    generalize hVE : valE M = VE at *
    go_upto_region 2 with fail
    refine wp_region_lit ?_
    refine wpList_loadM HO2.out.1 (.tmp 2) rfl rfl rfl ?_
    simp only [Act.put, List.setIfInBounds_toArray, List.set_cons_zero, List.set_cons_succ]
    rw [hcs]
    go_wp2_with (go_at_call 11; fail)
    refine (HE.out ()).mono ?_
    rintro e w3 ⟨rfl, hb3⟩
    have HO3 : Hid (OwnM w3 (w.heap.size + 1) M' ∧ Below w.heap.size w w3) := ⟨HO2.out.2.1.low hb3, HO2.out.2.2.trans (hb3.mono HO2.out.2.2.size)⟩
    clear hb3 HE HO2 hVE HV
    have HE : Hid (Calls Tryz.prog 11 #[.agg CS'] w3 fun e w' => ∃ v z, e = .returned (.tuple #[v, .int .i64 z]) ∧ Below w3.heap.size w3 w') := by
      rw [← hcs']
      by_cases h1 : valE M' = 0
      · refine (Encode_yes M' w3 (HM.out.2.1.below HO3.out.2 HM.out.1) HM.out.2.2.2 h1).mono ?_
        rintro e w' ⟨g, rfl, _, _, hb⟩
        exact ⟨_, _, rfl, hb⟩
      · refine (Encode_no M' w3 (HM.out.2.1.below HO3.out.2 HM.out.1) HM.out.2.2.2 h1).mono ?_
        rintro e w' ⟨rfl, hb⟩
        exact ⟨_, _, rfl, hb⟩
    go_upto_region 3 with fail
    refine wp_region_lit ?_
    refine wpList_loadM HO3.out.1 (.tmp 3) rfl rfl rfl ?_
    simp only [Act.put, List.setIfInBounds_toArray, List.set_cons_zero, List.set_cons_succ]
    rw [hcs']
    go_wp2_with (go_at_call 11; fail)
    refine HE.out.mono ?_
    rintro e w4 ⟨v, z, rfl, hb4⟩
    have HB4 : Hid (Below w.heap.size w w4) := HO3.out.2.trans (hb4.mono HO3.out.2.size)
    clear hb4 HE HO3
    go_wp2
    go_ret
    exact ⟨rfl, HB4.out⟩
end Go.Proofs.YthadnogcocmfgaaGreatDoor
