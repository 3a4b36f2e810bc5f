/-
  bin: BinBack, walked.
-/
import Derived.Test.YthadnogcocmfgaaGreatDoorBShown
namespace Go.Proofs.YthadnogcocmfgaaGreatDoor
set_option linter.unusedVariables false
open Go.RowKit Go.Great Go.Lib

set_option maxRecDepth 100000 in
set_option maxHeartbeats 1000000 in
theorem BinBack_law (M : Msg) (hz : M.ok) (hS : M.okS) (w : World) (hM : Mon w) :
    Calls Tryz.prog 3 #[.agg M.cs] w fun e w' => e = .returned (.bool true) ∧ Below w.heap.size w w' := by
  have HM : Hid (0 < w.heap.size ∧ Mon w ∧ M.ok) := ⟨hM.lt, hM, hz⟩
  have HO1 : Hid (OwnM (w.alloc (.cells M.cs 23)) w.heap.size M ∧ Below w.heap.size w (w.alloc (.cells M.cs 23))) := ⟨heap_alloc_new w _, (Below.refl _ w).alloc (Nat.le_refl _) _⟩
  clear hS hM hz
  go_enter Tryz.func3, Tryz.ntmps3
  go_upto_region 1 with fail
  generalize w.alloc (.cells M.cs 23) = w1 at *
  generalize hcs : M.cs = CS at *
  go_wp2_with (go_at_call 9; fail)
  refine (shown_any w1 (HM.out.2.1.below HO1.out.2 HM.out.1)).mono ?_
  rintro e w2 ⟨rfl, hb2⟩
  have HO2 : Hid (OwnM w2 w.heap.size M ∧ Below w.heap.size w w2) := ⟨HO1.out.1.low hb2, HO1.out.2.trans (hb2.mono HO1.out.2.size)⟩
  clear HO1 hb2
  go_upto_region 2 with fail
  refine wp_region_lit ?_
  refine wpList_loadM HO2.out.1 (.tmp 1) rfl rfl rfl ?_
  simp only [Act.put, List.setIfInBounds_toArray, List.set_cons_zero, List.set_cons_succ]
  rw [hcs]
  go_wp2_with (go_at_call 10; fail)
  have hv := Valid_any M w2 (HM.out.2.1.below HO2.out.2 HM.out.1) HM.out.2.2
  rw [hcs] at hv
  refine hv.mono ?_
  clear hv
  rintro e w3 ⟨rfl, hb3⟩
  have HO3 : Hid (OwnM w3 w.heap.size M ∧ Below w.heap.size w w3) := ⟨HO2.out.1.low hb3, HO2.out.2.trans (hb3.mono HO2.out.2.size)⟩
  clear HO2 hb3
  generalize valN M = N at *
  by_cases h0 : valE M = 0
  · have HE : Hid (Unit → _) := fun _ => Encode_yes M w3 (HM.out.2.1.below HO3.out.2 HM.out.1) HM.out.2.2 h0
    have hDE : decE (frameL M) = none ∧ (decM (frameL M)).cs = M.cs := by
      obtain ⟨M', h1, h2⟩ := dec_frame h0
      unfold decE decM
      rw [h1]
      exact ⟨rfl, h2⟩
    have hFL := frame_length h0
    have hFS := (size_eq (valid_fit h0).1).2.1
    rw [← hFL] at hFS
    have HSz : Hid (∀ w', Calls Tryz.prog 13 #[.int .i64 (M.z 0)] w' fun e w2 => e = .returned (.int .i64 ((frameL M).length : Int)) ∧ Below w'.heap.size w' w2) := fun w' => by rw [hFL]; exact Size_any (M.z 0) w'
    rw [h0]
    generalize hFr : frameL M = FR at *
    have HDE : Hid (decE FR = none ∧ (decM FR).cs = M.cs ∧ FR.length ≤ 418) := ⟨hDE.1, hDE.2, hFS⟩
    rw [hcs] at HE
    clear hDE hFL hFS h0 hFr
    go_upto_region 3 with fail
    refine wp_region_lit ?_
    refine wpList_loadM HO3.out.1 (.tmp 1) rfl rfl rfl ?_
    simp only [Act.put, List.setIfInBounds_toArray, List.set_cons_zero, List.set_cons_succ]
    rw [hcs]
    go_wp2_with (go_at_call 11; fail)
    refine (HE.out ()).mono ?_
    rintro e w4 ⟨g, rfl, ho4, hge, hb4⟩
    have HO4 : Hid (OwnM w4 w.heap.size M ∧ Below w.heap.size w w4 ∧ OwnL w4 g FR) := ⟨HO3.out.1.low hb4, HO3.out.2.trans (hb4.mono HO3.out.2.size), ho4⟩
    clear ho4 hge hb4 HE HO3
    obtain ⟨n, hn⟩ : ∃ n, n = FR.length := ⟨_, rfl⟩
    rw [← hn] at HSz ⊢
    have HD : Hid (Unit → _) := fun _ => Decode_any (some ⟨g, 0, none⟩) g 0 n n FR w4 hn (Nat.le_refl _) (by have := HDE.out.2.2; omega) (.inr rfl) HO4.out.2.2.at_ (HM.out.2.1.below HO4.out.2.1 HM.out.1)
    clear hn
    go_upto_region 8 with fail
    refine wp_region_lit ?_
    refine wpList_runTo rfl (some 34) rfl (.slice (some ⟨g, 0, none⟩) n n) w4 (by kernel_rfl) ?_
    refine wpList_callW rfl (some 35) rfl 12 #[.slice (some ⟨g, 0, none⟩) n n] (by kernel_rfl) (HD.out ()) ?_
    intro e w5 h5
    rw [HDE.out.1, HDE.out.2.1, hcs] at h5
    obtain ⟨v5, rfl, hE5, hb5⟩ := h5
    have hv5 : v5 = .nilIface := hE5
    subst hv5
    refine ⟨_, rfl, ?_⟩
    refine wpList_runTo rfl (some 33) rfl (.tuple #[.agg CS, .nilIface]) w5 (by kernel_rfl) ?_
    refine wpList_runTo rfl (some 36) rfl (.agg CS) w5 (by kernel_rfl) ?_
    refine wpList_runTo rfl (some 37) rfl .nilIface w5 (by kernel_rfl) ?_
    refine wpList_runTo rfl (some 8) rfl (.pointer (some ⟨w5.heap.size, 0, none⟩)) (w5.alloc (.cells zeroM.cs 23)) (by kernel_rfl) ?_
    refine wpList_store_row rfl 23 (.tmp 8) (.tmp 36) rfl w5.heap.size CS (by kernel_rfl) (by kernel_rfl) 23 _ (heap_alloc_new w5 _) (by rw [← hcs, Msg.cs_size]; kernel_rfl) (by rw [← hcs, Msg.cs_size, Msg.cs_size]) (by rw [← hcs]; exact Msg.cs_one _) ?_
    rw [World.setRow_alloc_new]
    refine wpList_runTo rfl (some 9) rfl .nilIface (w5.alloc (.cells CS 23)) (by kernel_rfl) ?_
    refine wpList_nil ?_
    simp only [Act.put, List.setIfInBounds_toArray, List.set_cons_zero, List.set_cons_succ]
    have HO5 : Hid (OwnM (w5.alloc (.cells CS 23)) w.heap.size M ∧ Below w.heap.size w (w5.alloc (.cells CS 23)) ∧ OwnM (w5.alloc (.cells CS 23)) w5.heap.size M) := by
      have h45 : Below w4.heap.size w4 (w5.alloc (.cells CS 23)) := hb5.alloc hb5.size _
      exact ⟨HO4.out.1.low h45, HO4.out.2.1.trans (h45.mono HO4.out.2.1.size), by unfold OwnM; rw [hcs]; exact heap_alloc_new w5 _⟩
    clear hb5 HD HO4 hE5
    generalize hB5 : w5.heap.size = B5 at *
    generalize w5.alloc (.cells CS 23) = w6 at *
    clear hB5
    go_upto_region 9 with fail
    refine wp_region_lit ?_
    refine wpList_runTo rfl (some 38) rfl .nilIface w6 (by kernel_rfl) ?_
    refine wpList_runTo rfl (some 39) rfl (.bool true) w6 (by kernel_rfl) ?_
    refine wpList_runTo rfl (some 40) rfl (.bool true) w6 (by kernel_rfl) ?_
    refine wpList_loadG HO5.out.2.2 (.tmp 8) (by kernel_rfl) rfl (by kernel_rfl) ?_
    simp only [Act.put, List.setIfInBounds_toArray, List.set_cons_zero, List.set_cons_succ]
    refine wpList_loadG HO5.out.1 (.tmp 1) (by kernel_rfl) rfl (by kernel_rfl) ?_
    simp only [Act.put, List.setIfInBounds_toArray, List.set_cons_zero, List.set_cons_succ]
    refine wpList_runToG (by kernel_rfl) (some 43) rfl (.bool true) w6 (eqM_run (M := M) (.tmp 41) (.tmp 42) rfl (by kernel_rfl) (by kernel_rfl) w6) ?_
    simp only [Act.put, List.setIfInBounds_toArray, List.set_cons_zero, List.set_cons_succ]
    refine wpList_runTo rfl (some 44) rfl (.bool true) w6 (by kernel_rfl) ?_
    refine wpList_runTo rfl (some 45) rfl (.bool true) w6 (by kernel_rfl) ?_
    simp only [Act.put, List.setIfInBounds_toArray, List.set_cons_zero, List.set_cons_succ]
    rw [hcs]
    have c0 : w6.cell? ⟨w.heap.size, 0, none⟩ = some (.int .i64 (M.z 0)) := HO5.out.1.cell 0 (by decide)
    go_wp2_with (go_at_call 13; refine (HSz.out _).mono ?_; rintro e w7 ⟨rfl, hb7⟩; have HB7 : Hid (Below w.heap.size w w7) := HO5.out.2.1.trans (hb7.mono HO5.out.2.1.size); clear hb7)
    go_ret
    exact ⟨rfl, HB7.out⟩
  · have HE : Hid (Unit → _) := fun _ => Encode_no M w3 (HM.out.2.1.below HO3.out.2 HM.out.1) HM.out.2.2 h0
    rw [hcs] at HE
    have hvb : (valE M != 0) = true := by simpa using h0
    have hvs : (valE M != valE M) = false := by simp
    generalize valE M = VE at *
    go_upto_region 3 with fail
    refine wp_region_lit ?_
    refine wpList_loadM HO3.out.1 (.tmp 1) rfl rfl rfl ?_
    simp only [Act.put, List.setIfInBounds_toArray, List.set_cons_zero, List.set_cons_succ]
    rw [hcs]
    go_wp2_with (go_at_call 11; fail)
    refine (HE.out ()).mono ?_
    rintro e w4 ⟨rfl, hb4⟩
    have HB4 : Hid (Below w.heap.size w w4) := HO3.out.2.trans (hb4.mono HO3.out.2.size)
    clear hb4 HE HO3
    go_wp2
    go_ret
    exact ⟨rfl, HB4.out⟩
end Go.Proofs.YthadnogcocmfgaaGreatDoor
