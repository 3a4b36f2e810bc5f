/-
  step, walked.
-/
import Derived.Test.YtdncemecnbglaaaA41
namespace Go.Proofs.Ytdncemecnbglaaa
set_option linter.unusedVariables false
set_option linter.unusedSimpArgs false
open Go.RowKit Go.Great Go.Maps

set_option maxRecDepth 100000 in
set_option maxHeartbeats 4000000 in
theorem step_any {s N B0 : Nat} {G : Gh} {w : World} {P : PR} (h : PrAt s G w P N) (hs : s < 400) (hN : N < 1000) (hB0 : B0 ≤ w.heap.size) (hG0 : ∀ q, G q ≠ (0, 0) → B0 ≤ q) (hO0 : ∀ q, P.own q → B0 ≤ q) (kd hh ln now : Int) {ba : Option Addr} {bl bc : Nat} {l : List Nat} (HB : ∀ W, Below B0 w W → By W (.slice ba bl bc) l) (hl : l.length ≤ 140737488351232) :
    Calls Try.prog 15 #[.pointer (some ⟨P.p, 0, none⟩), .agg (opV kd hh ln (.slice ba bl bc) now)] w fun e w' => e = .returned (.bool true) ∧ Hid (StepR s G w P (N + 1) w') := by
  have hb0 : Below w.heap.size w (w.alloc (.cells (opV kd hh ln (.slice ba bl bc) now) 56)) := (Below.refl _ w).alloc (Nat.le_refl _) _
  have HI : Hid (s < 400 ∧ N < 1000 ∧ B0 ≤ w.heap.size ∧ (∀ q, G q ≠ (0, 0) → B0 ≤ q) ∧ (∀ q, P.own q → B0 ≤ q) ∧ (∀ W, Below B0 w W → By W (.slice ba bl bc) l) ∧ l.length ≤ 140737488351232) := ⟨hs, hN, hB0, hG0, hO0, HB, hl⟩
  have H0 : Hid (PrAt s G (w.alloc (.cells (opV kd hh ln (.slice ba bl bc) now) 56)) P N ∧ Blk (w.alloc (.cells (opV kd hh ln (.slice ba bl bc) now) 56)) w.heap.size 56 (opV kd hh ln (.slice ba bl bc) now) ∧ Below w.heap.size w (w.alloc (.cells (opV kd hh ln (.slice ba bl bc) now) 56)) ∧ w.heap.size ≤ w.heap.size ∧ Gi G w ∧ ∀ q cur T, P.own q → w.heap[q]? = some (.cells cur T (0, 0)) → ¬ hotT T) := ⟨h.below hb0, Blk.new w _ _, hb0, Nat.le_refl _, h.gi, h.exT⟩
  clear h hs hN hB0 hG0 hO0 HB hl hb0
  go_enter Try.func15, Try.ntmps15
  go_upto_region 0 with fail
  rename_i K hK
  refine wp_region_lit ?_
  refine wpList_runTo rfl (some 3) rfl (.pointer (some ⟨w.heap.size, 0, none⟩)) (w.alloc (.cells (opV kd hh ln (.slice ba bl bc) now) 56)) (by kernel_rfl) ?_
  simp only [Act.put, List.setIfInBounds_toArray, List.set_cons_zero, List.set_cons_succ]
  refine wpList_runTo rfl (some 4) rfl (.bool false) (w.alloc (.cells (opV kd hh ln (.slice ba bl bc) now) 56)) (by kernel_rfl) ?_
  simp only [Act.put, List.setIfInBounds_toArray, List.set_cons_zero, List.set_cons_succ]
  refine wpList_nil ?_
  refine hK _ _ ?_
  clear hK
  obtain ⟨W0, hW0⟩ : ∃ W0, W0 = w.alloc (.cells (opV kd hh ln (.slice ba bl bc) now) 56) := ⟨_, rfl⟩
  obtain ⟨bx, hbx⟩ : ∃ bx, bx = w.heap.size := ⟨_, rfl⟩
  rw [← hW0] at H0 ⊢
  have H1 : Hid (PrAt s G W0 P N ∧ Blk W0 bx 56 (opV kd hh ln (.slice ba bl bc) now) ∧ Below w.heap.size w W0 ∧ w.heap.size ≤ bx ∧ Gi G w ∧ ∀ q cur T, P.own q → w.heap[q]? = some (.cells cur T (0, 0)) → ¬ hotT T) := by
    have h0 := H0.out
    refine ⟨h0.1, by rw [hbx]; exact h0.2.1, h0.2.2.1, by omega, h0.2.2.2.2.1, h0.2.2.2.2.2⟩
  rw [← hbx]
  clear H0 hW0 hbx
  obtain ⟨p, hpp⟩ : ∃ p, p = P.p := ⟨_, rfl⟩
  obtain ⟨gg, hgg⟩ : ∃ gg, gg = P.g := ⟨_, rfl⟩
  obtain ⟨gh, hgh⟩ : ∃ gh, gh = P.h := ⟨_, rfl⟩
  have HP : Hid (p = P.p ∧ gg = P.g ∧ gh = P.h) := ⟨hpp, hgg, hgh⟩
  rw [← hpp]
  clear hpp hgg hgh
  have qk : W0.cell? ⟨bx, 0, none⟩ = some (.int .i64 kd) := H1.out.2.1.cell 0
  go_upto_region 3 with fail
  clear qk
  by_cases hk1 : kd = 1
  · have hk1' : (kd == 1) = true := by simp [hk1]
    go_upto_region 4 with fail
    clear hk1'
    have hhr : Calls Try.prog 29 #[.pointer (some ⟨p, 0, none⟩), .agg (opV kd hh ln (.slice ba bl bc) now)] W0 fun e w' => e = .returned (.bool true) ∧ Hid (StepR s G W0 P (N + 1) w') := by
      have hsz : B0 ≤ W0.heap.size := Nat.le_trans HI.out.2.2.1 H1.out.2.2.1.size
      rw [HP.out.1]
      exact hears_any H1.out.1 HI.out.1 HI.out.2.1 hsz HI.out.2.2.2.1 HI.out.2.2.2.2.1 kd hh ln now (fun W hW => HI.out.2.2.2.2.2.1 W ((H1.out.2.2.1.mono HI.out.2.2.1).trans hW)) HI.out.2.2.2.2.2.2
    have hrg : W0.rangeAt bx 0 (opV kd hh ln (.slice ba bl bc) now).toList := fun z u hu => by rw [Nat.zero_add, H1.out.2.1.cell]; simpa using hu
    rename_i K hK
    refine wp_region_lit ?_
    refine wpList_runTo rfl (some 15) rfl (.pointer (some ⟨p, 0, none⟩)) W0 (by kernel_rfl) ?_
    simp only [Act.put, List.setIfInBounds_toArray, List.set_cons_zero, List.set_cons_succ]
    refine wpList_runTo rfl (some 16) rfl (.agg (opV kd hh ln (.slice ba bl bc) now)) W0 (by exact ldA_run hrg Try.underlying56 rfl infoOp (.tmp 3) rfl (by kernel_rfl)) ?_
    simp only [Act.put, List.setIfInBounds_toArray, List.set_cons_zero, List.set_cons_succ]
    refine wpList_callW rfl (some 17) rfl 29 #[.pointer (some ⟨p, 0, none⟩), .agg (opV kd hh ln (.slice ba bl bc) now)] (by kernel_rfl) hhr ?_
    clear hhr hrg
    rintro e Wx ⟨rfl, hx⟩
    refine ⟨_, rfl, ?_⟩
    simp only [Act.put, List.setIfInBounds_toArray, List.set_cons_zero, List.set_cons_succ]
    refine wpList_runTo rfl (some 5) rfl (.bool true) Wx (by kernel_rfl) ?_
    simp only [Act.put, List.setIfInBounds_toArray, List.set_cons_zero, List.set_cons_succ]
    refine wpList_nil ?_
    refine hK _ _ ?_
    clear hK
    have HF : Hid (StepR s G w P (N + 1) Wx) := StepR.from H1.out.2.2.1 H1.out.2.2.2.2.1 H1.out.2.2.2.2.2 hx.out
    clear hx H1 HI
    obtain ⟨G9, P9, h9, hp9, hs9, ho9⟩ := HF.out
    have hpe : P9.p = p := hp9.trans HP.out.1.symm
    obtain ⟨g9, hg9⟩ : ∃ g9, g9 = P9.g := ⟨_, rfl⟩
    obtain ⟨r9, hr9⟩ : ∃ r9, r9 = P9.h := ⟨_, rfl⟩
    have HT : Hid (PrAt s G9 Wx.drew P9 (N + 1) ∧ Stp (1000 + s) P.own G w G9 Wx.drew ∧ P9.p = P.p ∧ (∀ q, P9.own q → P.own q ∨ w.heap.size ≤ q) ∧ P9.p = p ∧ g9 = P9.g ∧ r9 = P9.h) := ⟨h9.below ⟨rfl, rfl, rfl, Nat.le_refl _, fun _ _ => rfl⟩, hs9.trans0 (Stp.drew h9.gi), hp9, ho9, hpe, hg9, hr9⟩
    clear HF h9 hp9 hs9 ho9 hpe hg9 hr9
    go_upto_region 14 with fail
    rename_i K hK
    have HS : Hid (∀ W, PrAt s G9 W P9 (N + 1) → W.cell? ⟨p, 0, none⟩ = some (.pointer (some ⟨g9, 0, none⟩)) ∧ W.cell? ⟨p, 1, none⟩ = some (.pointer (some ⟨r9, 0, none⟩))) := fun W hW => by
      have h1 := hW.blk.cell 0
      have h2 := hW.blk.cell 1
      rw [HT.out.2.2.2.2.1] at h1 h2
      have e1 : P9.c.cs[0]? = some P9.c.a := rfl
      have e2 : P9.c.cs[1]? = some P9.c.b := rfl
      rw [e1, hW.ca, ← HT.out.2.2.2.2.2.1] at h1
      rw [e2, hW.cb, ← HT.out.2.2.2.2.2.2] at h2
      exact ⟨h1, h2⟩
    refine wp_region_held (S := fun w' => w'.cell? ⟨p, 0, none⟩ = some (.pointer (some ⟨g9, 0, none⟩)) ∧ w'.cell? ⟨p, 1, none⟩ = some (.pointer (some ⟨r9, 0, none⟩))) (by kernel_rfl) ?_
    change wpAnyH _ _ _ _ _ _ _ _ (World.drew _)
    have hS := HS.out _ HT.out.1
    generalize Wx.drew = V0 at *
    obtain ⟨LS, hLS⟩ : ∃ LS, LS = P9.a.ls := ⟨_, rfl⟩
    obtain ⟨nx9, hnx9⟩ : ∃ nx9, nx9 = P9.a.nx := ⟨_, rfl⟩
    have HLS : Hid (LS = P9.a.ls ∧ nx9 = P9.a.nx) := ⟨hLS, hnx9⟩
    clear hLS hnx9
    refine takeR (i := 0) (v := .bool true) (some 71) rfl rfl (by kernel_rfl) (by kernel_rfl) (by kernel_rfl) (fun _ _ _ h => h) (Or.inl ⟨by kernel_rfl, fun w' hSw => by kernel_rfl⟩) hS ?_
    simp only [Act.put, List.setIfInBounds_toArray, List.set_cons_zero, List.set_cons_succ]
    refine takeR (i := 1) (v := .bool true) (some 72) rfl rfl (by kernel_rfl) (by kernel_rfl) (by kernel_rfl) (fun _ _ _ h => h) (Or.inl ⟨by kernel_rfl, fun w' hSw => by kernel_rfl⟩) hS ?_
    simp only [Act.put, List.setIfInBounds_toArray, List.set_cons_zero, List.set_cons_succ]
    refine takeR (i := 2) (v := .pointer (some ⟨p, 0, none⟩)) (some 73) rfl rfl (by kernel_rfl) (by kernel_rfl) (by kernel_rfl) (fun _ _ _ h => h) (Or.inl ⟨by kernel_rfl, fun w' hSw => by kernel_rfl⟩) hS ?_
    simp only [Act.put, List.setIfInBounds_toArray, List.set_cons_zero, List.set_cons_succ]
    refine takeR (i := 3) (v := .pointer (some ⟨p, 0, none⟩)) (some 74) rfl rfl (by kernel_rfl) (by kernel_rfl) (by kernel_rfl) (fun _ _ _ h => h) (Or.inl ⟨by kernel_rfl, fun w' hSw => by kernel_rfl⟩) hS ?_
    simp only [Act.put, List.setIfInBounds_toArray, List.set_cons_zero, List.set_cons_succ]
    refine takeR (i := 4) (v := .pointer (some ⟨p, 0, none⟩)) (some 75) rfl rfl (by kernel_rfl) (by kernel_rfl) (by kernel_rfl) (fun _ _ _ h => h) (Or.inl ⟨by kernel_rfl, fun w' hSw => by kernel_rfl⟩) hS ?_
    simp only [Act.put, List.setIfInBounds_toArray, List.set_cons_zero, List.set_cons_succ]
    refine takeR (i := 5) (v := .pointer (some ⟨g9, 0, none⟩)) (some 76) rfl rfl (by kernel_rfl) (by kernel_rfl) (by kernel_rfl) (fun _ _ _ h => h) (Or.inl ⟨by kernel_rfl, fun w' hSw => by exact ldP_run (.inl rfl) (.tmp 75) rfl (by kernel_rfl) hSw.1⟩) hS ?_
    simp only [Act.put, List.setIfInBounds_toArray, List.set_cons_zero, List.set_cons_succ]
    refine takeR (i := 7) (v := .pointer (some ⟨p, 0, none⟩)) (some 78) rfl rfl (by kernel_rfl) (by kernel_rfl) (by kernel_rfl) (fun _ _ _ h => h) (Or.inl ⟨by kernel_rfl, fun w' hSw => by kernel_rfl⟩) hS ?_
    simp only [Act.put, List.setIfInBounds_toArray, List.set_cons_zero, List.set_cons_succ]
    refine takeR (i := 8) (v := .pointer (some ⟨p, 0, none⟩)) (some 79) rfl rfl (by kernel_rfl) (by kernel_rfl) (by kernel_rfl) (fun _ _ _ h => h) (Or.inl ⟨by kernel_rfl, fun w' hSw => by kernel_rfl⟩) hS ?_
    simp only [Act.put, List.setIfInBounds_toArray, List.set_cons_zero, List.set_cons_succ]
    refine takeR (i := 9) (v := .pointer (some ⟨p, 1, none⟩)) (some 80) rfl rfl (by kernel_rfl) (by kernel_rfl) (by kernel_rfl) (fun _ _ _ h => h) (Or.inl ⟨by kernel_rfl, fun w' hSw => by kernel_rfl⟩) hS ?_
    simp only [Act.put, List.setIfInBounds_toArray, List.set_cons_zero, List.set_cons_succ]
    refine takeR (i := 10) (v := .pointer (some ⟨r9, 0, none⟩)) (some 81) rfl rfl (by kernel_rfl) (by kernel_rfl) (by kernel_rfl) (fun _ _ _ h => h) (Or.inl ⟨by kernel_rfl, fun w' hSw => by exact ldP_run (.inr rfl) (.tmp 80) rfl (by kernel_rfl) hSw.2⟩) hS ?_
    simp only [Act.put, List.setIfInBounds_toArray, List.set_cons_zero, List.set_cons_succ]
    have hc1 : Calls Try.prog 18 #[.pointer (some ⟨g9, 0, none⟩)] V0 fun e w' => e = .returned (.agg LS) ∧ Hid (Below V0.heap.size V0 w') := by
      rw [HT.out.2.2.2.2.2.1, HLS.out.1]; exact Lines_any HT.out.1.ab
    refine wpAnyH_ready (rs := [6]) (by kernel_rfl) (by simp) ?_
    refine AllReadyH.cons rfl (fun K1 hK1 => ?_) AllReadyH.nil
    rw [if_pos (by kernel_rfl)]
    refine callR (d := some 77) rfl 18 #[.pointer (some ⟨g9, 0, none⟩)] (by kernel_rfl) hc1 ?_
    clear hc1 hS
    rintro e V1 ⟨rfl, hx⟩
    refine ⟨_, rfl, ?_⟩
    have HT1 : Hid (PrAt s G9 V1 P9 (N + 1) ∧ Stp (1000 + s) P.own G w G9 V1) := ⟨HT.out.1.below hx.out, HT.out.2.1.trans0 (Stp.below HT.out.1.gi hx.out)⟩
    clear hx
    have hS := HS.out _ HT1.out.1
    refine hK1.out _ _ hS (fun _ => ?_)
    clear hK1
    simp only [Act.put, List.setIfInBounds_toArray, List.set_cons_zero, List.set_cons_succ]
    have hc1 : Calls Try.prog 34 #[.pointer (some ⟨r9, 0, none⟩)] V1 fun e w' => e = .returned (.agg LS) ∧ Hid (Below V1.heap.size V1 w') := by
      rw [HT.out.2.2.2.2.2.2, HLS.out.1, ← ls_same HT.out.1.rel]; exact rLines_any HT1.out.1.rb
    refine wpAnyH_ready (rs := [11]) (by kernel_rfl) (by simp) ?_
    refine AllReadyH.cons rfl (fun K1 hK1 => ?_) AllReadyH.nil
    rw [if_pos (by kernel_rfl)]
    refine callR (d := some 82) rfl 34 #[.pointer (some ⟨r9, 0, none⟩)] (by kernel_rfl) hc1 ?_
    clear hc1 hS
    rintro e V2 ⟨rfl, hx⟩
    refine ⟨_, rfl, ?_⟩
    have HT2 : Hid (PrAt s G9 V2 P9 (N + 1) ∧ Stp (1000 + s) P.own G w G9 V2) := ⟨HT1.out.1.below hx.out, HT1.out.2.trans0 (Stp.below HT1.out.1.gi hx.out)⟩
    clear hx HT1
    have hS := HS.out _ HT2.out.1
    refine hK1.out _ _ hS (fun _ => ?_)
    clear hK1
    simp only [Act.put, List.setIfInBounds_toArray, List.set_cons_zero, List.set_cons_succ]
    refine takeR (i := 12) (v := .bool true) (some 83) rfl rfl (by kernel_rfl) (by kernel_rfl) (by kernel_rfl) (fun _ _ _ h => h) (Or.inl ⟨by kernel_rfl, fun w' hSw => by (rw [HLS.out.1]; exact eqL_run (ab := P9.a) (.tmp 77) (.tmp 82) rfl (by kernel_rfl) (by kernel_rfl) _)⟩) hS ?_
    simp only [Act.put, List.setIfInBounds_toArray, List.set_cons_zero, List.set_cons_succ]
    refine takeR (i := 13) (v := .bool true) (some 84) rfl rfl (by kernel_rfl) (by kernel_rfl) (by kernel_rfl) (fun _ _ _ h => h) (Or.inl ⟨by kernel_rfl, fun w' hSw => by kernel_rfl⟩) hS ?_
    simp only [Act.put, List.setIfInBounds_toArray, List.set_cons_zero, List.set_cons_succ]
    refine takeR (i := 14) (v := .bool true) (some 85) rfl rfl (by kernel_rfl) (by kernel_rfl) (by kernel_rfl) (fun _ _ _ h => h) (Or.inl ⟨by kernel_rfl, fun w' hSw => by kernel_rfl⟩) hS ?_
    simp only [Act.put, List.setIfInBounds_toArray, List.set_cons_zero, List.set_cons_succ]
    refine takeR (i := 15) (v := .pointer (some ⟨p, 0, none⟩)) (some 86) rfl rfl (by kernel_rfl) (by kernel_rfl) (by kernel_rfl) (fun _ _ _ h => h) (Or.inl ⟨by kernel_rfl, fun w' hSw => by kernel_rfl⟩) hS ?_
    simp only [Act.put, List.setIfInBounds_toArray, List.set_cons_zero, List.set_cons_succ]
    refine takeR (i := 16) (v := .pointer (some ⟨p, 0, none⟩)) (some 87) rfl rfl (by kernel_rfl) (by kernel_rfl) (by kernel_rfl) (fun _ _ _ h => h) (Or.inl ⟨by kernel_rfl, fun w' hSw => by kernel_rfl⟩) hS ?_
    simp only [Act.put, List.setIfInBounds_toArray, List.set_cons_zero, List.set_cons_succ]
    refine takeR (i := 17) (v := .pointer (some ⟨p, 0, none⟩)) (some 88) rfl rfl (by kernel_rfl) (by kernel_rfl) (by kernel_rfl) (fun _ _ _ h => h) (Or.inl ⟨by kernel_rfl, fun w' hSw => by kernel_rfl⟩) hS ?_
    simp only [Act.put, List.setIfInBounds_toArray, List.set_cons_zero, List.set_cons_succ]
    refine takeR (i := 18) (v := .pointer (some ⟨g9, 0, none⟩)) (some 89) rfl rfl (by kernel_rfl) (by kernel_rfl) (by kernel_rfl) (fun _ _ _ h => h) (Or.inl ⟨by kernel_rfl, fun w' hSw => by exact ldP_run (.inl rfl) (.tmp 88) rfl (by kernel_rfl) hSw.1⟩) hS ?_
    simp only [Act.put, List.setIfInBounds_toArray, List.set_cons_zero, List.set_cons_succ]
    refine takeR (i := 20) (v := .pointer (some ⟨p, 0, none⟩)) (some 91) rfl rfl (by kernel_rfl) (by kernel_rfl) (by kernel_rfl) (fun _ _ _ h => h) (Or.inl ⟨by kernel_rfl, fun w' hSw => by kernel_rfl⟩) hS ?_
    simp only [Act.put, List.setIfInBounds_toArray, List.set_cons_zero, List.set_cons_succ]
    refine takeR (i := 21) (v := .pointer (some ⟨p, 0, none⟩)) (some 92) rfl rfl (by kernel_rfl) (by kernel_rfl) (by kernel_rfl) (fun _ _ _ h => h) (Or.inl ⟨by kernel_rfl, fun w' hSw => by kernel_rfl⟩) hS ?_
    simp only [Act.put, List.setIfInBounds_toArray, List.set_cons_zero, List.set_cons_succ]
    refine takeR (i := 22) (v := .pointer (some ⟨p, 1, none⟩)) (some 93) rfl rfl (by kernel_rfl) (by kernel_rfl) (by kernel_rfl) (fun _ _ _ h => h) (Or.inl ⟨by kernel_rfl, fun w' hSw => by kernel_rfl⟩) hS ?_
    simp only [Act.put, List.setIfInBounds_toArray, List.set_cons_zero, List.set_cons_succ]
    refine takeR (i := 23) (v := .pointer (some ⟨r9, 0, none⟩)) (some 94) rfl rfl (by kernel_rfl) (by kernel_rfl) (by kernel_rfl) (fun _ _ _ h => h) (Or.inl ⟨by kernel_rfl, fun w' hSw => by exact ldP_run (.inr rfl) (.tmp 93) rfl (by kernel_rfl) hSw.2⟩) hS ?_
    simp only [Act.put, List.setIfInBounds_toArray, List.set_cons_zero, List.set_cons_succ]
    have hc1 : Calls Try.prog 13 #[.pointer (some ⟨g9, 0, none⟩)] V2 fun e w' => e = .returned (.int .i64 (nx9 : Int)) ∧ w' = V2 := by
      rw [HT.out.2.2.2.2.2.1, HLS.out.2]; exact Next_any HT2.out.1.ab
    refine wpAnyH_ready (rs := [19]) (by kernel_rfl) (by simp) ?_
    refine AllReadyH.cons rfl (fun K1 hK1 => ?_) AllReadyH.nil
    rw [if_pos (by kernel_rfl)]
    refine callR (d := some 90) rfl 13 #[.pointer (some ⟨g9, 0, none⟩)] (by kernel_rfl) hc1 ?_
    clear hc1
    rintro e V3 ⟨rfl, ev⟩
    replace ev := ev.symm
    subst ev
    refine ⟨_, rfl, ?_⟩
    refine hK1.out _ _ hS (fun _ => ?_)
    clear hK1
    simp only [Act.put, List.setIfInBounds_toArray, List.set_cons_zero, List.set_cons_succ]
    have hc1 : Calls Try.prog 35 #[.pointer (some ⟨r9, 0, none⟩)] V2 fun e w' => e = .returned (.int .i64 (nx9 : Int)) ∧ w' = V2 := by
      rw [HT.out.2.2.2.2.2.2, HLS.out.2, HT.out.1.rel.nx]; exact rNext_any HT2.out.1.rb
    refine wpAnyH_ready (rs := [24]) (by kernel_rfl) (by simp) ?_
    refine AllReadyH.cons rfl (fun K1 hK1 => ?_) AllReadyH.nil
    rw [if_pos (by kernel_rfl)]
    refine callR (d := some 95) rfl 35 #[.pointer (some ⟨r9, 0, none⟩)] (by kernel_rfl) hc1 ?_
    clear hc1
    rintro e V3 ⟨rfl, ev⟩
    replace ev := ev.symm
    subst ev
    refine ⟨_, rfl, ?_⟩
    refine hK1.out _ _ hS (fun _ => ?_)
    clear hK1
    simp only [Act.put, List.setIfInBounds_toArray, List.set_cons_zero, List.set_cons_succ]
    refine takeR (i := 25) (v := .bool true) (some 96) rfl rfl (by kernel_rfl) (by kernel_rfl) (by kernel_rfl) (fun _ _ _ h => h) (Or.inl ⟨by kernel_rfl, fun w' hSw => by exact eqN_run (p := nx9) (q := nx9) (.tmp 90) (.tmp 95) rfl (by kernel_rfl) (by kernel_rfl) (by simp) _⟩) hS ?_
    simp only [Act.put, List.setIfInBounds_toArray, List.set_cons_zero, List.set_cons_succ]
    refine takeR (i := 26) (v := .bool true) (some 97) rfl rfl (by kernel_rfl) (by kernel_rfl) (by kernel_rfl) (fun _ _ _ h => h) (Or.inl ⟨by kernel_rfl, fun w' hSw => by kernel_rfl⟩) hS ?_
    simp only [Act.put, List.setIfInBounds_toArray, List.set_cons_zero, List.set_cons_succ]
    refine takeR (i := 27) (v := .bool true) (some 4) rfl rfl (by kernel_rfl) (by kernel_rfl) (by kernel_rfl) (fun _ _ _ h => h) (Or.inl ⟨by kernel_rfl, fun w' hSw => by kernel_rfl⟩) hS ?_
    simp only [Act.put, List.setIfInBounds_toArray, List.set_cons_zero, List.set_cons_succ]
    refine wpAnyH_done (by kernel_rfl) ?_ _
    refine hK _ _ ?_
    clear hK hS
    have HE : Hid (StepR s G w P (N + 1) V2) := ⟨G9, P9, HT2.out.1, HT.out.2.2.1, HT2.out.2, HT.out.2.2.2.1⟩
    clear HT HT2 HS
    go_wp2
    go_ret
    exact ⟨rfl, HE.out⟩
  · have hk1' : (kd == 1) = false := by simpa using hk1
    by_cases hk2 : kd = 2
    · have hk2' : (kd == 2) = true := by simp [hk2]
      clear hk1
      go_upto_region 6 with fail
      clear hk1' hk2'
      have hd0 : Below W0.heap.size W0 W0.drew := ⟨rfl, rfl, rfl, Nat.le_refl _, fun _ _ => rfl⟩
      have H2 : Hid (PrAt s G W0.drew P N ∧ Blk W0.drew bx 56 (opV kd hh ln (.slice ba bl bc) now) ∧ Below w.heap.size w W0.drew) := ⟨H1.out.1.below hd0, H1.out.2.1.fr (Fr.of_below hd0 (fun _ => False)) id, below_step H1.out.2.2.1 hd0⟩
      have HG : Hid (Gi G w ∧ ∀ q cur T, P.own q → w.heap[q]? = some (.cells cur T (0, 0)) → ¬ hotT T) := H1.out.2.2.2.2
      clear H1 hd0
      rename_i K hK
      refine wp_region_held (S := fun w' => w'.cell? ⟨p, 0, none⟩ = some (.pointer (some ⟨gg, 0, none⟩)) ∧ w'.cell? ⟨p, 1, none⟩ = some (.pointer (some ⟨gh, 0, none⟩)) ∧ w'.cell? ⟨bx, 4, none⟩ = some (.int .i64 now)) (by kernel_rfl) ?_
      change wpAnyH _ _ _ _ _ _ _ _ (World.drew _)
      generalize W0.drew = Z at *
      have HS : Hid (∀ W c, Blk W p 54 (PC.cs c) → c.a = P.c.a → c.b = P.c.b → Blk W bx 56 (opV kd hh ln (.slice ba bl bc) now) → W.cell? ⟨p, 0, none⟩ = some (.pointer (some ⟨gg, 0, none⟩)) ∧ W.cell? ⟨p, 1, none⟩ = some (.pointer (some ⟨gh, 0, none⟩)) ∧ W.cell? ⟨bx, 4, none⟩ = some (.int .i64 now)) := fun W c hp e1 e2 hb => by
        have h1 := hp.cell 0
        have h2 := hp.cell 1
        have e3 : c.cs[0]? = some c.a := rfl
        have e4 : c.cs[1]? = some c.b := rfl
        rw [e3, e1, H2.out.1.ca, ← HP.out.2.1] at h1
        rw [e4, e2, H2.out.1.cb, ← HP.out.2.2] at h2
        exact ⟨h1, h2, hb.cell 4⟩
      have hS := HS.out Z P.c (by rw [HP.out.1]; exact H2.out.1.blk) rfl rfl H2.out.2.1
      refine takeR (i := 0) (v := .pointer (some ⟨p, 0, none⟩)) (some 20) rfl rfl (by kernel_rfl) (by kernel_rfl) (by kernel_rfl) (fun _ _ _ h => h) (Or.inl ⟨by kernel_rfl, fun w' hSw => by kernel_rfl⟩) hS ?_
      simp only [Act.put, List.setIfInBounds_toArray, List.set_cons_zero, List.set_cons_succ]
      refine takeR (i := 1) (v := .pointer (some ⟨p, 0, none⟩)) (some 21) rfl rfl (by kernel_rfl) (by kernel_rfl) (by kernel_rfl) (fun _ _ _ h => h) (Or.inl ⟨by kernel_rfl, fun w' hSw => by kernel_rfl⟩) hS ?_
      simp only [Act.put, List.setIfInBounds_toArray, List.set_cons_zero, List.set_cons_succ]
      refine takeR (i := 2) (v := .pointer (some ⟨p, 0, none⟩)) (some 22) rfl rfl (by kernel_rfl) (by kernel_rfl) (by kernel_rfl) (fun _ _ _ h => h) (Or.inl ⟨by kernel_rfl, fun w' hSw => by kernel_rfl⟩) hS ?_
      simp only [Act.put, List.setIfInBounds_toArray, List.set_cons_zero, List.set_cons_succ]
      refine takeR (i := 3) (v := .pointer (some ⟨p, 0, none⟩)) (some 23) rfl rfl (by kernel_rfl) (by kernel_rfl) (by kernel_rfl) (fun _ _ _ h => h) (Or.inl ⟨by kernel_rfl, fun w' hSw => by kernel_rfl⟩) hS ?_
      simp only [Act.put, List.setIfInBounds_toArray, List.set_cons_zero, List.set_cons_succ]
      refine takeR (i := 4) (v := .pointer (some ⟨gg, 0, none⟩)) (some 24) rfl rfl (by kernel_rfl) (by kernel_rfl) (by kernel_rfl) (fun _ _ _ h => h) (Or.inl ⟨by kernel_rfl, fun w' hSw => by exact ldP_run (.inl rfl) (.tmp 23) rfl (by kernel_rfl) hSw.1⟩) hS ?_
      simp only [Act.put, List.setIfInBounds_toArray, List.set_cons_zero, List.set_cons_succ]
      refine takeR (i := 5) (v := .pointer (some ⟨bx, 4, none⟩)) (some 25) rfl rfl (by kernel_rfl) (by kernel_rfl) (by kernel_rfl) (fun _ _ _ h => h) (Or.inl ⟨by kernel_rfl, fun w' hSw => by kernel_rfl⟩) hS ?_
      simp only [Act.put, List.setIfInBounds_toArray, List.set_cons_zero, List.set_cons_succ]
      refine takeR (i := 6) (v := .int .i64 now) (some 26) rfl rfl (by kernel_rfl) (by kernel_rfl) (by kernel_rfl) (fun _ _ _ h => h) (Or.inl ⟨by kernel_rfl, fun w' hSw => by exact ldN_run (.inl rfl) (.tmp 25) rfl (by kernel_rfl) hSw.2.2⟩) hS ?_
      simp only [Act.put, List.setIfInBounds_toArray, List.set_cons_zero, List.set_cons_succ]
      refine takeR (i := 8) (v := .pointer (some ⟨p, 0, none⟩)) (some 28) rfl rfl (by kernel_rfl) (by kernel_rfl) (by kernel_rfl) (fun _ _ _ h => h) (Or.inl ⟨by kernel_rfl, fun w' hSw => by kernel_rfl⟩) hS ?_
      simp only [Act.put, List.setIfInBounds_toArray, List.set_cons_zero, List.set_cons_succ]
      refine takeR (i := 9) (v := .pointer (some ⟨p, 0, none⟩)) (some 29) rfl rfl (by kernel_rfl) (by kernel_rfl) (by kernel_rfl) (fun _ _ _ h => h) (Or.inl ⟨by kernel_rfl, fun w' hSw => by kernel_rfl⟩) hS ?_
      simp only [Act.put, List.setIfInBounds_toArray, List.set_cons_zero, List.set_cons_succ]
      refine takeR (i := 10) (v := .pointer (some ⟨p, 1, none⟩)) (some 30) rfl rfl (by kernel_rfl) (by kernel_rfl) (by kernel_rfl) (fun _ _ _ h => h) (Or.inl ⟨by kernel_rfl, fun w' hSw => by kernel_rfl⟩) hS ?_
      simp only [Act.put, List.setIfInBounds_toArray, List.set_cons_zero, List.set_cons_succ]
      refine takeR (i := 11) (v := .pointer (some ⟨gh, 0, none⟩)) (some 31) rfl rfl (by kernel_rfl) (by kernel_rfl) (by kernel_rfl) (fun _ _ _ h => h) (Or.inl ⟨by kernel_rfl, fun w' hSw => by exact ldP_run (.inr rfl) (.tmp 30) rfl (by kernel_rfl) hSw.2.1⟩) hS ?_
      simp only [Act.put, List.setIfInBounds_toArray, List.set_cons_zero, List.set_cons_succ]
      refine takeR (i := 12) (v := .pointer (some ⟨bx, 4, none⟩)) (some 32) rfl rfl (by kernel_rfl) (by kernel_rfl) (by kernel_rfl) (fun _ _ _ h => h) (Or.inl ⟨by kernel_rfl, fun w' hSw => by kernel_rfl⟩) hS ?_
      simp only [Act.put, List.setIfInBounds_toArray, List.set_cons_zero, List.set_cons_succ]
      refine takeR (i := 13) (v := .int .i64 now) (some 33) rfl rfl (by kernel_rfl) (by kernel_rfl) (by kernel_rfl) (fun _ _ _ h => h) (Or.inl ⟨by kernel_rfl, fun w' hSw => by exact ldN_run (.inl rfl) (.tmp 32) rfl (by kernel_rfl) hSw.2.2⟩) hS ?_
      simp only [Act.put, List.setIfInBounds_toArray, List.set_cons_zero, List.set_cons_succ]
      have hc1 : Calls Try.prog 11 #[.pointer (some ⟨gg, 0, none⟩), .int .i64 now] Z fun e w' => ∃ v', e = .returned v' ∧ Hid (∃ out a', TkO Z w' P.g P.b v' out a' ∧ TkB P.a now out a') := by
        rw [HP.out.2.1]; exact tick_any H2.out.1.ab now
      refine wpAnyH_ready (rs := [7]) (by kernel_rfl) (by simp) ?_
      refine AllReadyH.cons rfl (fun K1 hK1 => ?_) AllReadyH.nil
      rw [if_pos (by kernel_rfl)]
      refine callR (d := some 27) rfl 11 #[.pointer (some ⟨gg, 0, none⟩), .int .i64 now] (by kernel_rfl) hc1 ?_
      clear hc1 hS
      rintro e W1 ⟨v1, rfl, hx⟩
      refine ⟨_, rfl, ?_⟩
      obtain ⟨out, a', ht, htk⟩ := hx.out
      have hpg : ∀ x T (cs : Array Value), Blk Z x T cs → T ≠ 67 → ¬ (x = P.g ∨ x = P.b) := fun x T cs hb hT e => by
        rcases e with e | e
        · subst e; exact Blk.neT hb H2.out.1.ab.blk hT
        · obtain ⟨es, c, hm⟩ := H2.out.1.ab.map.is
          unfold Blk at hb
          rw [e, hm] at hb
          cases hb
      have hbp : Blk Z p 54 P.c.cs := by rw [HP.out.1]; exact H2.out.1.blk
      have qp1 := hbp.fr ht.fr (hpg _ _ _ hbp (by decide))
      have qb1 := H2.out.2.1.fr ht.fr (hpg _ _ _ H2.out.2.1 (by decide))
      have hst1 : Stp (1000 + s) (fun x => x = P.g ∨ x = P.b) G Z G W1 := Stp.of_fr H2.out.1.gi ht.fr fun q cur T hq hc => H2.out.1.exT q cur T (by
        rcases hq with e | e
        · exact .inr (.inl e)
        · exact .inr (.inr (.inl e))) hc
      have hrb1 : RbAt W1 P.h P.kv P.r := H2.out.1.rb.stp hst1 (fun q hq => by
        rcases hq with rfl | hq
        · exact hpg _ _ _ H2.out.1.rb.blk (by decide)
        · obtain ⟨_, cur, hc⟩ := H2.out.1.rb.row.lt hq
          exact hpg q _ cur hc (by decide)) fun k hk q hq m e => by
        rw [H2.out.1.rc k hk q hq] at e; simp at e
      obtain ⟨va, vc, hv1, _⟩ := ht.row.form
      obtain ⟨vn, hvn⟩ : ∃ vn, vn = out.length := ⟨_, rfl⟩
      rw [← hvn] at hv1
      subst hv1
      have H3 : Hid (TkO Z W1 P.g P.b (.slice va vn vc) out a' ∧ TkB P.a now out a' ∧ Gi G W1 ∧ RbAt W1 P.h P.kv P.r ∧ Blk W1 p 54 P.c.cs ∧ Blk W1 bx 56 (opV kd hh ln (.slice ba bl bc) now)) := ⟨ht, htk, hst1.gi, hrb1, qp1, qb1⟩
      clear hx ht htk hpg hbp qp1 qb1 hst1 hrb1 hvn
      have hS := HS.out W1 P.c H3.out.2.2.2.2.1 rfl rfl H3.out.2.2.2.2.2
      refine hK1.out _ _ hS (fun _ => ?_)
      clear hK1
      simp only [Act.put, List.setIfInBounds_toArray, List.set_cons_zero, List.set_cons_succ]
      have hc1 : Calls Try.prog 31 #[.pointer (some ⟨gh, 0, none⟩), .int .i64 now] W1 fun e w' => ∃ v', e = .returned v' ∧ Hid (∃ kv' out a', RkO W1 w' P.h P.kv kv' v' out a' ∧ RTkB P.r now out a') := by
        rw [HP.out.2.2]; exact rtick_any H3.out.2.2.2.1 now
      refine wpAnyH_ready (rs := [14]) (by kernel_rfl) (by simp) ?_
      refine AllReadyH.cons rfl (fun K1 hK1 => ?_) AllReadyH.nil
      rw [if_pos (by kernel_rfl)]
      refine callR (d := some 34) rfl 31 #[.pointer (some ⟨gh, 0, none⟩), .int .i64 now] (by kernel_rfl) hc1 ?_
      clear hc1 hS
      rintro e W2 ⟨v2, rfl, hx⟩
      refine ⟨_, rfl, ?_⟩
      obtain ⟨kv', out2, r', hk, hrd⟩ := hx.out
      have hfct : Fct P.a P.r a' r' Z.heap.size W1.heap.size out out2 [] [] := Fct.tick H2.out.1.rel H2.out.1.gt H3.out.2.1 hrd
      obtain ⟨G2, hmd⟩ := PrAt.midF H2.out.1 HI.out.1 (by have := HI.out.2.1; omega) H3.out.1 (Stp.refl0 H3.out.2.2.1) hk hfct (by simp)
      have HM : Hid (Md s G Z P N G2 W2 a' r' kv' (.slice va vn vc) v2 out out2 ([] ++ P.a.ks)) := hmd
      have qb2 : Blk W2 bx 56 (opV kd hh ln (.slice ba bl bc) now) := H3.out.2.2.2.2.2.fr hk.fr fun e => by
        have h1 := H3.out.2.2.2.2.2
        rw [e] at h1
        exact Blk.neT h1 H3.out.2.2.2.1.blk (by decide)
      obtain ⟨v2a, v2c, hv2, _⟩ := hk.row.form
      obtain ⟨v2n, hv2n⟩ : ∃ v2n, v2n = out2.length := ⟨_, rfl⟩
      rw [← hv2n] at hv2
      subst hv2
      have hS := HS.out W2 P.c (by rw [HP.out.1]; exact HM.out.cin.hb) rfl rfl qb2
      clear hx hk hrd hfct hmd hv2n H3
      refine hK1.out _ _ hS (fun _ => ?_)
      clear hK1
      simp only [Act.put, List.setIfInBounds_toArray, List.set_cons_zero, List.set_cons_succ]
      have hcm := comes_any HM.out.cin
      have hc1 : Calls Try.prog 30 #[.pointer (some ⟨p, 0, none⟩), .slice va vn vc, .slice v2a v2n v2c] W2 fun e w' => e = .returned (.bool true) ∧ Hid (∃ G' c es os, CV (2 * s + 1) G2 W2 P.p P.c (.slice va vn vc) out G' w' c es os ∧ es.length = P.es.length + 4 * P.ws.length ∧ os.length = P.os.length + 4) := by
        rw [HP.out.1]; exact hcm
      clear hcm
      refine wpAnyH_ready (rs := [15]) (by kernel_rfl) (by simp) ?_
      refine AllReadyH.cons rfl (fun K1 hK1 => ?_) AllReadyH.nil
      rw [if_pos (by kernel_rfl)]
      refine callR (d := some 35) rfl 30 #[.pointer (some ⟨p, 0, none⟩), .slice va vn vc, .slice v2a v2n v2c] (by kernel_rfl) hc1 ?_
      clear hc1 hS
      rintro e Wx ⟨rfl, hx⟩
      refine ⟨_, rfl, ?_⟩
      obtain ⟨G', c, es, os, hcv, he, ho⟩ := hx.out
      have HF : Hid (StepR s G w P (N + 1) Wx) := StepR.from H2.out.2.2 HG.out.1 HG.out.2 (Md.after H2.out.1 HM.out HI.out.1 hcv he ho)
      have hS := HS.out Wx c (by rw [HP.out.1]; exact hcv.blk) (by rw [hcv.same]) (by rw [hcv.same]) (qb2.stp hcv.st (by unfold hotT; decide) fun e => by
        rcases e with e | e | e
        · have h1 := HM.out.cin.hb
          rw [← e] at h1
          exact Blk.neT h1 qb2 (by decide)
        · exact HM.out.cin.hh.row.ne_type qb2 (by decide) e
        · exact HM.out.cin.ho.row.ne_type qb2 (by decide) e)
      clear hx hcv he ho HM H2 qb2 HI HG
      refine hK1.out _ _ hS (fun _ => ?_)
      clear hK1
      simp only [Act.put, List.setIfInBounds_toArray, List.set_cons_zero, List.set_cons_succ]
      refine takeR (i := 16) (v := .bool true) (some 5) rfl rfl (by kernel_rfl) (by kernel_rfl) (by kernel_rfl) (fun _ _ _ h => h) (Or.inl ⟨by kernel_rfl, fun w' hSw => by kernel_rfl⟩) hS ?_
      simp only [Act.put, List.setIfInBounds_toArray, List.set_cons_zero, List.set_cons_succ]
      refine wpAnyH_done (by kernel_rfl) ?_ _
      refine hK _ _ ?_
      clear hK hS HS
      obtain ⟨G9, P9, h9, hp9, hs9, ho9⟩ := HF.out
      have hpe : P9.p = p := hp9.trans HP.out.1.symm
      obtain ⟨g9, hg9⟩ : ∃ g9, g9 = P9.g := ⟨_, rfl⟩
      obtain ⟨r9, hr9⟩ : ∃ r9, r9 = P9.h := ⟨_, rfl⟩
      have HT : Hid (PrAt s G9 Wx.drew P9 (N + 1) ∧ Stp (1000 + s) P.own G w G9 Wx.drew ∧ P9.p = P.p ∧ (∀ q, P9.own q → P.own q ∨ w.heap.size ≤ q) ∧ P9.p = p ∧ g9 = P9.g ∧ r9 = P9.h) := ⟨h9.below ⟨rfl, rfl, rfl, Nat.le_refl _, fun _ _ => rfl⟩, hs9.trans0 (Stp.drew h9.gi), hp9, ho9, hpe, hg9, hr9⟩
      clear HF h9 hp9 hs9 ho9 hpe hg9 hr9
      go_upto_region 14 with fail
      rename_i K hK
      have HS : Hid (∀ W, PrAt s G9 W P9 (N + 1) → W.cell? ⟨p, 0, none⟩ = some (.pointer (some ⟨g9, 0, none⟩)) ∧ W.cell? ⟨p, 1, none⟩ = some (.pointer (some ⟨r9, 0, none⟩))) := fun W hW => by
        have h1 := hW.blk.cell 0
        have h2 := hW.blk.cell 1
        rw [HT.out.2.2.2.2.1] at h1 h2
        have e1 : P9.c.cs[0]? = some P9.c.a := rfl
        have e2 : P9.c.cs[1]? = some P9.c.b := rfl
        rw [e1, hW.ca, ← HT.out.2.2.2.2.2.1] at h1
        rw [e2, hW.cb, ← HT.out.2.2.2.2.2.2] at h2
        exact ⟨h1, h2⟩
      refine wp_region_held (S := fun w' => w'.cell? ⟨p, 0, none⟩ = some (.pointer (some ⟨g9, 0, none⟩)) ∧ w'.cell? ⟨p, 1, none⟩ = some (.pointer (some ⟨r9, 0, none⟩))) (by kernel_rfl) ?_
      change wpAnyH _ _ _ _ _ _ _ _ (World.drew _)
      have hS := HS.out _ HT.out.1
      generalize Wx.drew = V0 at *
      obtain ⟨LS, hLS⟩ : ∃ LS, LS = P9.a.ls := ⟨_, rfl⟩
      obtain ⟨nx9, hnx9⟩ : ∃ nx9, nx9 = P9.a.nx := ⟨_, rfl⟩
      have HLS : Hid (LS = P9.a.ls ∧ nx9 = P9.a.nx) := ⟨hLS, hnx9⟩
      clear hLS hnx9
      refine takeR (i := 0) (v := .bool true) (some 71) rfl rfl (by kernel_rfl) (by kernel_rfl) (by kernel_rfl) (fun _ _ _ h => h) (Or.inl ⟨by kernel_rfl, fun w' hSw => by kernel_rfl⟩) hS ?_
      simp only [Act.put, List.setIfInBounds_toArray, List.set_cons_zero, List.set_cons_succ]
      refine takeR (i := 1) (v := .bool true) (some 72) rfl rfl (by kernel_rfl) (by kernel_rfl) (by kernel_rfl) (fun _ _ _ h => h) (Or.inl ⟨by kernel_rfl, fun w' hSw => by kernel_rfl⟩) hS ?_
      simp only [Act.put, List.setIfInBounds_toArray, List.set_cons_zero, List.set_cons_succ]
      refine takeR (i := 2) (v := .pointer (some ⟨p, 0, none⟩)) (some 73) rfl rfl (by kernel_rfl) (by kernel_rfl) (by kernel_rfl) (fun _ _ _ h => h) (Or.inl ⟨by kernel_rfl, fun w' hSw => by kernel_rfl⟩) hS ?_
      simp only [Act.put, List.setIfInBounds_toArray, List.set_cons_zero, List.set_cons_succ]
      refine takeR (i := 3) (v := .pointer (some ⟨p, 0, none⟩)) (some 74) rfl rfl (by kernel_rfl) (by kernel_rfl) (by kernel_rfl) (fun _ _ _ h => h) (Or.inl ⟨by kernel_rfl, fun w' hSw => by kernel_rfl⟩) hS ?_
      simp only [Act.put, List.setIfInBounds_toArray, List.set_cons_zero, List.set_cons_succ]
      refine takeR (i := 4) (v := .pointer (some ⟨p, 0, none⟩)) (some 75) rfl rfl (by kernel_rfl) (by kernel_rfl) (by kernel_rfl) (fun _ _ _ h => h) (Or.inl ⟨by kernel_rfl, fun w' hSw => by kernel_rfl⟩) hS ?_
      simp only [Act.put, List.setIfInBounds_toArray, List.set_cons_zero, List.set_cons_succ]
      refine takeR (i := 5) (v := .pointer (some ⟨g9, 0, none⟩)) (some 76) rfl rfl (by kernel_rfl) (by kernel_rfl) (by kernel_rfl) (fun _ _ _ h => h) (Or.inl ⟨by kernel_rfl, fun w' hSw => by exact ldP_run (.inl rfl) (.tmp 75) rfl (by kernel_rfl) hSw.1⟩) hS ?_
      simp only [Act.put, List.setIfInBounds_toArray, List.set_cons_zero, List.set_cons_succ]
      refine takeR (i := 7) (v := .pointer (some ⟨p, 0, none⟩)) (some 78) rfl rfl (by kernel_rfl) (by kernel_rfl) (by kernel_rfl) (fun _ _ _ h => h) (Or.inl ⟨by kernel_rfl, fun w' hSw => by kernel_rfl⟩) hS ?_
      simp only [Act.put, List.setIfInBounds_toArray, List.set_cons_zero, List.set_cons_succ]
      refine takeR (i := 8) (v := .pointer (some ⟨p, 0, none⟩)) (some 79) rfl rfl (by kernel_rfl) (by kernel_rfl) (by kernel_rfl) (fun _ _ _ h => h) (Or.inl ⟨by kernel_rfl, fun w' hSw => by kernel_rfl⟩) hS ?_
      simp only [Act.put, List.setIfInBounds_toArray, List.set_cons_zero, List.set_cons_succ]
      refine takeR (i := 9) (v := .pointer (some ⟨p, 1, none⟩)) (some 80) rfl rfl (by kernel_rfl) (by kernel_rfl) (by kernel_rfl) (fun _ _ _ h => h) (Or.inl ⟨by kernel_rfl, fun w' hSw => by kernel_rfl⟩) hS ?_
      simp only [Act.put, List.setIfInBounds_toArray, List.set_cons_zero, List.set_cons_succ]
      refine takeR (i := 10) (v := .pointer (some ⟨r9, 0, none⟩)) (some 81) rfl rfl (by kernel_rfl) (by kernel_rfl) (by kernel_rfl) (fun _ _ _ h => h) (Or.inl ⟨by kernel_rfl, fun w' hSw => by exact ldP_run (.inr rfl) (.tmp 80) rfl (by kernel_rfl) hSw.2⟩) hS ?_
      simp only [Act.put, List.setIfInBounds_toArray, List.set_cons_zero, List.set_cons_succ]
      have hc1 : Calls Try.prog 18 #[.pointer (some ⟨g9, 0, none⟩)] V0 fun e w' => e = .returned (.agg LS) ∧ Hid (Below V0.heap.size V0 w') := by
        rw [HT.out.2.2.2.2.2.1, HLS.out.1]; exact Lines_any HT.out.1.ab
      refine wpAnyH_ready (rs := [6]) (by kernel_rfl) (by simp) ?_
      refine AllReadyH.cons rfl (fun K1 hK1 => ?_) AllReadyH.nil
      rw [if_pos (by kernel_rfl)]
      refine callR (d := some 77) rfl 18 #[.pointer (some ⟨g9, 0, none⟩)] (by kernel_rfl) hc1 ?_
      clear hc1 hS
      rintro e V1 ⟨rfl, hx⟩
      refine ⟨_, rfl, ?_⟩
      have HT1 : Hid (PrAt s G9 V1 P9 (N + 1) ∧ Stp (1000 + s) P.own G w G9 V1) := ⟨HT.out.1.below hx.out, HT.out.2.1.trans0 (Stp.below HT.out.1.gi hx.out)⟩
      clear hx
      have hS := HS.out _ HT1.out.1
      refine hK1.out _ _ hS (fun _ => ?_)
      clear hK1
      simp only [Act.put, List.setIfInBounds_toArray, List.set_cons_zero, List.set_cons_succ]
      have hc1 : Calls Try.prog 34 #[.pointer (some ⟨r9, 0, none⟩)] V1 fun e w' => e = .returned (.agg LS) ∧ Hid (Below V1.heap.size V1 w') := by
        rw [HT.out.2.2.2.2.2.2, HLS.out.1, ← ls_same HT.out.1.rel]; exact rLines_any HT1.out.1.rb
      refine wpAnyH_ready (rs := [11]) (by kernel_rfl) (by simp) ?_
      refine AllReadyH.cons rfl (fun K1 hK1 => ?_) AllReadyH.nil
      rw [if_pos (by kernel_rfl)]
      refine callR (d := some 82) rfl 34 #[.pointer (some ⟨r9, 0, none⟩)] (by kernel_rfl) hc1 ?_
      clear hc1 hS
      rintro e V2 ⟨rfl, hx⟩
      refine ⟨_, rfl, ?_⟩
      have HT2 : Hid (PrAt s G9 V2 P9 (N + 1) ∧ Stp (1000 + s) P.own G w G9 V2) := ⟨HT1.out.1.below hx.out, HT1.out.2.trans0 (Stp.below HT1.out.1.gi hx.out)⟩
      clear hx HT1
      have hS := HS.out _ HT2.out.1
      refine hK1.out _ _ hS (fun _ => ?_)
      clear hK1
      simp only [Act.put, List.setIfInBounds_toArray, List.set_cons_zero, List.set_cons_succ]
      refine takeR (i := 12) (v := .bool true) (some 83) rfl rfl (by kernel_rfl) (by kernel_rfl) (by kernel_rfl) (fun _ _ _ h => h) (Or.inl ⟨by kernel_rfl, fun w' hSw => by (rw [HLS.out.1]; exact eqL_run (ab := P9.a) (.tmp 77) (.tmp 82) rfl (by kernel_rfl) (by kernel_rfl) _)⟩) hS ?_
      simp only [Act.put, List.setIfInBounds_toArray, List.set_cons_zero, List.set_cons_succ]
      refine takeR (i := 13) (v := .bool true) (some 84) rfl rfl (by kernel_rfl) (by kernel_rfl) (by kernel_rfl) (fun _ _ _ h => h) (Or.inl ⟨by kernel_rfl, fun w' hSw => by kernel_rfl⟩) hS ?_
      simp only [Act.put, List.setIfInBounds_toArray, List.set_cons_zero, List.set_cons_succ]
      refine takeR (i := 14) (v := .bool true) (some 85) rfl rfl (by kernel_rfl) (by kernel_rfl) (by kernel_rfl) (fun _ _ _ h => h) (Or.inl ⟨by kernel_rfl, fun w' hSw => by kernel_rfl⟩) hS ?_
      simp only [Act.put, List.setIfInBounds_toArray, List.set_cons_zero, List.set_cons_succ]
      refine takeR (i := 15) (v := .pointer (some ⟨p, 0, none⟩)) (some 86) rfl rfl (by kernel_rfl) (by kernel_rfl) (by kernel_rfl) (fun _ _ _ h => h) (Or.inl ⟨by kernel_rfl, fun w' hSw => by kernel_rfl⟩) hS ?_
      simp only [Act.put, List.setIfInBounds_toArray, List.set_cons_zero, List.set_cons_succ]
      refine takeR (i := 16) (v := .pointer (some ⟨p, 0, none⟩)) (some 87) rfl rfl (by kernel_rfl) (by kernel_rfl) (by kernel_rfl) (fun _ _ _ h => h) (Or.inl ⟨by kernel_rfl, fun w' hSw => by kernel_rfl⟩) hS ?_
      simp only [Act.put, List.setIfInBounds_toArray, List.set_cons_zero, List.set_cons_succ]
      refine takeR (i := 17) (v := .pointer (some ⟨p, 0, none⟩)) (some 88) rfl rfl (by kernel_rfl) (by kernel_rfl) (by kernel_rfl) (fun _ _ _ h => h) (Or.inl ⟨by kernel_rfl, fun w' hSw => by kernel_rfl⟩) hS ?_
      simp only [Act.put, List.setIfInBounds_toArray, List.set_cons_zero, List.set_cons_succ]
      refine takeR (i := 18) (v := .pointer (some ⟨g9, 0, none⟩)) (some 89) rfl rfl (by kernel_rfl) (by kernel_rfl) (by kernel_rfl) (fun _ _ _ h => h) (Or.inl ⟨by kernel_rfl, fun w' hSw => by exact ldP_run (.inl rfl) (.tmp 88) rfl (by kernel_rfl) hSw.1⟩) hS ?_
      simp only [Act.put, List.setIfInBounds_toArray, List.set_cons_zero, List.set_cons_succ]
      refine takeR (i := 20) (v := .pointer (some ⟨p, 0, none⟩)) (some 91) rfl rfl (by kernel_rfl) (by kernel_rfl) (by kernel_rfl) (fun _ _ _ h => h) (Or.inl ⟨by kernel_rfl, fun w' hSw => by kernel_rfl⟩) hS ?_
      simp only [Act.put, List.setIfInBounds_toArray, List.set_cons_zero, List.set_cons_succ]
      refine takeR (i := 21) (v := .pointer (some ⟨p, 0, none⟩)) (some 92) rfl rfl (by kernel_rfl) (by kernel_rfl) (by kernel_rfl) (fun _ _ _ h => h) (Or.inl ⟨by kernel_rfl, fun w' hSw => by kernel_rfl⟩) hS ?_
      simp only [Act.put, List.setIfInBounds_toArray, List.set_cons_zero, List.set_cons_succ]
      refine takeR (i := 22) (v := .pointer (some ⟨p, 1, none⟩)) (some 93) rfl rfl (by kernel_rfl) (by kernel_rfl) (by kernel_rfl) (fun _ _ _ h => h) (Or.inl ⟨by kernel_rfl, fun w' hSw => by kernel_rfl⟩) hS ?_
      simp only [Act.put, List.setIfInBounds_toArray, List.set_cons_zero, List.set_cons_succ]
      refine takeR (i := 23) (v := .pointer (some ⟨r9, 0, none⟩)) (some 94) rfl rfl (by kernel_rfl) (by kernel_rfl) (by kernel_rfl) (fun _ _ _ h => h) (Or.inl ⟨by kernel_rfl, fun w' hSw => by exact ldP_run (.inr rfl) (.tmp 93) rfl (by kernel_rfl) hSw.2⟩) hS ?_
      simp only [Act.put, List.setIfInBounds_toArray, List.set_cons_zero, List.set_cons_succ]
      have hc1 : Calls Try.prog 13 #[.pointer (some ⟨g9, 0, none⟩)] V2 fun e w' => e = .returned (.int .i64 (nx9 : Int)) ∧ w' = V2 := by
        rw [HT.out.2.2.2.2.2.1, HLS.out.2]; exact Next_any HT2.out.1.ab
      refine wpAnyH_ready (rs := [19]) (by kernel_rfl) (by simp) ?_
      refine AllReadyH.cons rfl (fun K1 hK1 => ?_) AllReadyH.nil
      rw [if_pos (by kernel_rfl)]
      refine callR (d := some 90) rfl 13 #[.pointer (some ⟨g9, 0, none⟩)] (by kernel_rfl) hc1 ?_
      clear hc1
      rintro e V3 ⟨rfl, ev⟩
      replace ev := ev.symm
      subst ev
      refine ⟨_, rfl, ?_⟩
      refine hK1.out _ _ hS (fun _ => ?_)
      clear hK1
      simp only [Act.put, List.setIfInBounds_toArray, List.set_cons_zero, List.set_cons_succ]
      have hc1 : Calls Try.prog 35 #[.pointer (some ⟨r9, 0, none⟩)] V2 fun e w' => e = .returned (.int .i64 (nx9 : Int)) ∧ w' = V2 := by
        rw [HT.out.2.2.2.2.2.2, HLS.out.2, HT.out.1.rel.nx]; exact rNext_any HT2.out.1.rb
      refine wpAnyH_ready (rs := [24]) (by kernel_rfl) (by simp) ?_
      refine AllReadyH.cons rfl (fun K1 hK1 => ?_) AllReadyH.nil
      rw [if_pos (by kernel_rfl)]
      refine callR (d := some 95) rfl 35 #[.pointer (some ⟨r9, 0, none⟩)] (by kernel_rfl) hc1 ?_
      clear hc1
      rintro e V3 ⟨rfl, ev⟩
      replace ev := ev.symm
      subst ev
      refine ⟨_, rfl, ?_⟩
      refine hK1.out _ _ hS (fun _ => ?_)
      clear hK1
      simp only [Act.put, List.setIfInBounds_toArray, List.set_cons_zero, List.set_cons_succ]
      refine takeR (i := 25) (v := .bool true) (some 96) rfl rfl (by kernel_rfl) (by kernel_rfl) (by kernel_rfl) (fun _ _ _ h => h) (Or.inl ⟨by kernel_rfl, fun w' hSw => by exact eqN_run (p := nx9) (q := nx9) (.tmp 90) (.tmp 95) rfl (by kernel_rfl) (by kernel_rfl) (by simp) _⟩) hS ?_
      simp only [Act.put, List.setIfInBounds_toArray, List.set_cons_zero, List.set_cons_succ]
      refine takeR (i := 26) (v := .bool true) (some 97) rfl rfl (by kernel_rfl) (by kernel_rfl) (by kernel_rfl) (fun _ _ _ h => h) (Or.inl ⟨by kernel_rfl, fun w' hSw => by kernel_rfl⟩) hS ?_
      simp only [Act.put, List.setIfInBounds_toArray, List.set_cons_zero, List.set_cons_succ]
      refine takeR (i := 27) (v := .bool true) (some 4) rfl rfl (by kernel_rfl) (by kernel_rfl) (by kernel_rfl) (fun _ _ _ h => h) (Or.inl ⟨by kernel_rfl, fun w' hSw => by kernel_rfl⟩) hS ?_
      simp only [Act.put, List.setIfInBounds_toArray, List.set_cons_zero, List.set_cons_succ]
      refine wpAnyH_done (by kernel_rfl) ?_ _
      refine hK _ _ ?_
      clear hK hS
      have HE : Hid (StepR s G w P (N + 1) V2) := ⟨G9, P9, HT2.out.1, HT.out.2.2.1, HT2.out.2, HT.out.2.2.2.1⟩
      clear HT HT2 HS
      go_wp2
      go_ret
      exact ⟨rfl, HE.out⟩
    · have hk2' : (kd == 2) = false := by simpa using hk2
      by_cases hk3 : kd = 3
      · have hk3' : (kd == 3) = true := by simp [hk3]
        clear hk1 hk2
        go_upto_region 8 with fail
        clear hk1' hk2' hk3'
        have HZ : Hid (PrAt s G W0.drew P N ∧ Blk W0.drew bx 56 (opV kd hh ln (.slice ba bl bc) now) ∧ Below w.heap.size w W0.drew) := by
          have hd0 : Below W0.heap.size W0 W0.drew := ⟨rfl, rfl, rfl, Nat.le_refl _, fun _ _ => rfl⟩
          exact ⟨H1.out.1.below hd0, H1.out.2.1.fr (Fr.of_below hd0 (fun _ => False)) id, below_step H1.out.2.2.1 hd0⟩
        have HG : Hid (Gi G w ∧ ∀ q cur T, P.own q → w.heap[q]? = some (.cells cur T (0, 0)) → ¬ hotT T) := H1.out.2.2.2.2
        clear H1
        have HS : Hid (∀ W, PrAt s G W P N → Blk W bx 56 (opV kd hh ln (.slice ba bl bc) now) → W.cell? ⟨p, 0, none⟩ = some (.pointer (some ⟨gg, 0, none⟩)) ∧ W.cell? ⟨p, 1, none⟩ = some (.pointer (some ⟨gh, 0, none⟩)) ∧ W.cell? ⟨bx, 4, none⟩ = some (.int .i64 now)) := fun W hW hb => by
          have h1 := hW.blk.cell 0
          have h2 := hW.blk.cell 1
          have e3 : P.c.cs[0]? = some P.c.a := rfl
          have e4 : P.c.cs[1]? = some P.c.b := rfl
          rw [← HP.out.1, e3, hW.ca, ← HP.out.2.1] at h1
          rw [← HP.out.1, e4, hW.cb, ← HP.out.2.2] at h2
          exact ⟨h1, h2, hb.cell 4⟩
        rename_i K hK
        refine wp_region_held (S := fun w' => w'.cell? ⟨p, 0, none⟩ = some (.pointer (some ⟨gg, 0, none⟩)) ∧ w'.cell? ⟨p, 1, none⟩ = some (.pointer (some ⟨gh, 0, none⟩)) ∧ w'.cell? ⟨bx, 4, none⟩ = some (.int .i64 now)) (by kernel_rfl) ?_
        change wpAnyH _ _ _ _ _ _ _ _ (World.drew _)
        generalize W0.drew = Z0 at *
        have hS := HS.out Z0 HZ.out.1 HZ.out.2.1
        refine takeR (i := 0) (v := .pointer (some ⟨p, 0, none⟩)) (some 38) rfl rfl (by kernel_rfl) (by kernel_rfl) (by kernel_rfl) (fun _ _ _ h => h) (Or.inl ⟨by kernel_rfl, fun w' hSw => by kernel_rfl⟩) hS ?_
        simp only [Act.put, List.setIfInBounds_toArray, List.set_cons_zero, List.set_cons_succ]
        refine takeR (i := 1) (v := .pointer (some ⟨p, 0, none⟩)) (some 39) rfl rfl (by kernel_rfl) (by kernel_rfl) (by kernel_rfl) (fun _ _ _ h => h) (Or.inl ⟨by kernel_rfl, fun w' hSw => by kernel_rfl⟩) hS ?_
        simp only [Act.put, List.setIfInBounds_toArray, List.set_cons_zero, List.set_cons_succ]
        refine takeR (i := 2) (v := .pointer (some ⟨p, 0, none⟩)) (some 40) rfl rfl (by kernel_rfl) (by kernel_rfl) (by kernel_rfl) (fun _ _ _ h => h) (Or.inl ⟨by kernel_rfl, fun w' hSw => by kernel_rfl⟩) hS ?_
        simp only [Act.put, List.setIfInBounds_toArray, List.set_cons_zero, List.set_cons_succ]
        refine takeR (i := 3) (v := .pointer (some ⟨gg, 0, none⟩)) (some 41) rfl rfl (by kernel_rfl) (by kernel_rfl) (by kernel_rfl) (fun _ _ _ h => h) (Or.inl ⟨by kernel_rfl, fun w' hSw => by exact ldP_run (.inl rfl) (.tmp 40) rfl (by kernel_rfl) hSw.1⟩) hS ?_
        simp only [Act.put, List.setIfInBounds_toArray, List.set_cons_zero, List.set_cons_succ]
        refine takeR (i := 4) (v := .pointer (some ⟨bx, 4, none⟩)) (some 42) rfl rfl (by kernel_rfl) (by kernel_rfl) (by kernel_rfl) (fun _ _ _ h => h) (Or.inl ⟨by kernel_rfl, fun w' hSw => by kernel_rfl⟩) hS ?_
        simp only [Act.put, List.setIfInBounds_toArray, List.set_cons_zero, List.set_cons_succ]
        refine takeR (i := 5) (v := .int .i64 now) (some 43) rfl rfl (by kernel_rfl) (by kernel_rfl) (by kernel_rfl) (fun _ _ _ h => h) (Or.inl ⟨by kernel_rfl, fun w' hSw => by exact ldN_run (.inl rfl) (.tmp 42) rfl (by kernel_rfl) hSw.2.2⟩) hS ?_
        simp only [Act.put, List.setIfInBounds_toArray, List.set_cons_zero, List.set_cons_succ]
        have hc1 : Calls Try.prog 17 #[.pointer (some ⟨gg, 0, none⟩), .int .i64 now] Z0 fun e w' => ∃ rv, e = .returned rv ∧ Hid (∃ (ns : List Nat) (rs : List (Nat × Nat)), RowAt w' 61 2 rv rs.length (rV rs) ∧ (∀ q, rv.ownBlock = some q → Z0.heap.size ≤ q) ∧ Below Z0.heap.size Z0 w' ∧ rs.length ≤ P.a.ks.length ∧ (tmB now = true ∧ (wtB P.a (max P.a.la now) (P.a.pat / 2) = false ∧ rs = [] ∨ wtB P.a (max P.a.la now) (P.a.pat / 2) = true ∧ ns.Perm (P.a.ks.map (·.n)) ∧ ns.Pairwise (· ≤ ·) ∧ rs = (wst P.a.nx ns).2) ∨ tmB now = false ∧ rs = [])) := by
          rw [HP.out.2.1]; exact wants2 HZ.out.1.ab now
        refine wpAnyH_ready (rs := [6]) (by kernel_rfl) (by simp) ?_
        refine AllReadyH.cons rfl (fun K1 hK1 => ?_) AllReadyH.nil
        rw [if_pos (by kernel_rfl)]
        refine callR (d := some 44) rfl 17 #[.pointer (some ⟨gg, 0, none⟩), .int .i64 now] (by kernel_rfl) hc1 ?_
        clear hc1 hS
        rintro e Wa ⟨va, rfl, hx⟩
        refine ⟨_, rfl, ?_⟩
        have HA : Hid (PrAt s G Wa P N ∧ Blk Wa bx 56 (opV kd hh ln (.slice ba bl bc) now) ∧ Below Z0.heap.size Z0 Wa ∧ ∃ (ns : List Nat) (rs : List (Nat × Nat)), RowAt Wa 61 2 va rs.length (rV rs) ∧ (∀ q, va.ownBlock = some q → Z0.heap.size ≤ q) ∧ rs.length ≤ P.a.ks.length ∧ (tmB now = true ∧ (wtB P.a (max P.a.la now) (P.a.pat / 2) = false ∧ rs = [] ∨ wtB P.a (max P.a.la now) (P.a.pat / 2) = true ∧ ns.Perm (P.a.ks.map (·.n)) ∧ ns.Pairwise (· ≤ ·) ∧ rs = (wst P.a.nx ns).2) ∨ tmB now = false ∧ rs = [])) := by
          obtain ⟨ns, rs, k1, k2, k3, k4, k5⟩ := hx.out
          exact ⟨HZ.out.1.below k3, HZ.out.2.1.fr (Fr.of_below k3 (fun _ => False)) id, k3, ns, rs, k1, k2, k4, k5⟩
        clear hx
        have hS := HS.out Wa HA.out.1 HA.out.2.1
        refine hK1.out _ _ hS (fun _ => ?_)
        clear hK1
        simp only [Act.put, List.setIfInBounds_toArray, List.set_cons_zero, List.set_cons_succ]
        refine takeR (i := 7) (v := va) (some 6) rfl rfl (by kernel_rfl) (by kernel_rfl) (by kernel_rfl) (fun _ _ _ h => h) (Or.inl ⟨by kernel_rfl, fun w' hSw => by kernel_rfl⟩) hS ?_
        simp only [Act.put, List.setIfInBounds_toArray, List.set_cons_zero, List.set_cons_succ]
        refine wpAnyH_done (by kernel_rfl) ?_ _
        refine hK _ _ ?_
        clear hK hS
        have HA2 : Hid (PrAt s G Wa.drew P N ∧ Blk Wa.drew bx 56 (opV kd hh ln (.slice ba bl bc) now) ∧ Below Wa.heap.size Wa Wa.drew) := by
          have hd0 : Below Wa.heap.size Wa Wa.drew := ⟨rfl, rfl, rfl, Nat.le_refl _, fun _ _ => rfl⟩
          exact ⟨HA.out.1.below hd0, HA.out.2.1.fr (Fr.of_below hd0 (fun _ => False)) id, hd0⟩
        go_upto_region 9 with fail
        rename_i K hK
        refine wp_region_held (S := fun w' => w'.cell? ⟨p, 0, none⟩ = some (.pointer (some ⟨gg, 0, none⟩)) ∧ w'.cell? ⟨p, 1, none⟩ = some (.pointer (some ⟨gh, 0, none⟩)) ∧ w'.cell? ⟨bx, 4, none⟩ = some (.int .i64 now)) (by kernel_rfl) ?_
        change wpAnyH _ _ _ _ _ _ _ _ (World.drew _)
        generalize Wa.drew = Z1 at *
        have hS := HS.out Z1 HA2.out.1 HA2.out.2.1
        refine takeR (i := 0) (v := .pointer (some ⟨p, 0, none⟩)) (some 45) rfl rfl (by kernel_rfl) (by kernel_rfl) (by kernel_rfl) (fun _ _ _ h => h) (Or.inl ⟨by kernel_rfl, fun w' hSw => by kernel_rfl⟩) hS ?_
        simp only [Act.put, List.setIfInBounds_toArray, List.set_cons_zero, List.set_cons_succ]
        refine takeR (i := 1) (v := .pointer (some ⟨p, 0, none⟩)) (some 46) rfl rfl (by kernel_rfl) (by kernel_rfl) (by kernel_rfl) (fun _ _ _ h => h) (Or.inl ⟨by kernel_rfl, fun w' hSw => by kernel_rfl⟩) hS ?_
        simp only [Act.put, List.setIfInBounds_toArray, List.set_cons_zero, List.set_cons_succ]
        refine takeR (i := 2) (v := .pointer (some ⟨p, 0, none⟩)) (some 47) rfl rfl (by kernel_rfl) (by kernel_rfl) (by kernel_rfl) (fun _ _ _ h => h) (Or.inl ⟨by kernel_rfl, fun w' hSw => by kernel_rfl⟩) hS ?_
        simp only [Act.put, List.setIfInBounds_toArray, List.set_cons_zero, List.set_cons_succ]
        refine takeR (i := 3) (v := .pointer (some ⟨gg, 0, none⟩)) (some 48) rfl rfl (by kernel_rfl) (by kernel_rfl) (by kernel_rfl) (fun _ _ _ h => h) (Or.inl ⟨by kernel_rfl, fun w' hSw => by exact ldP_run (.inl rfl) (.tmp 47) rfl (by kernel_rfl) hSw.1⟩) hS ?_
        simp only [Act.put, List.setIfInBounds_toArray, List.set_cons_zero, List.set_cons_succ]
        refine takeR (i := 4) (v := .pointer (some ⟨bx, 4, none⟩)) (some 49) rfl rfl (by kernel_rfl) (by kernel_rfl) (by kernel_rfl) (fun _ _ _ h => h) (Or.inl ⟨by kernel_rfl, fun w' hSw => by kernel_rfl⟩) hS ?_
        simp only [Act.put, List.setIfInBounds_toArray, List.set_cons_zero, List.set_cons_succ]
        refine takeR (i := 5) (v := .int .i64 now) (some 50) rfl rfl (by kernel_rfl) (by kernel_rfl) (by kernel_rfl) (fun _ _ _ h => h) (Or.inl ⟨by kernel_rfl, fun w' hSw => by exact ldN_run (.inl rfl) (.tmp 49) rfl (by kernel_rfl) hSw.2.2⟩) hS ?_
        simp only [Act.put, List.setIfInBounds_toArray, List.set_cons_zero, List.set_cons_succ]
        have hc1 : Calls Try.prog 17 #[.pointer (some ⟨gg, 0, none⟩), .int .i64 now] Z1 fun e w' => ∃ rv, e = .returned rv ∧ Hid (∃ (ns : List Nat) (rs : List (Nat × Nat)), RowAt w' 61 2 rv rs.length (rV rs) ∧ (∀ q, rv.ownBlock = some q → Z1.heap.size ≤ q) ∧ Below Z1.heap.size Z1 w' ∧ rs.length ≤ P.a.ks.length ∧ (tmB now = true ∧ (wtB P.a (max P.a.la now) (P.a.pat / 2) = false ∧ rs = [] ∨ wtB P.a (max P.a.la now) (P.a.pat / 2) = true ∧ ns.Perm (P.a.ks.map (·.n)) ∧ ns.Pairwise (· ≤ ·) ∧ rs = (wst P.a.nx ns).2) ∨ tmB now = false ∧ rs = [])) := by
          rw [HP.out.2.1]; exact wants2 HA2.out.1.ab now
        refine wpAnyH_ready (rs := [6]) (by kernel_rfl) (by simp) ?_
        refine AllReadyH.cons rfl (fun K1 hK1 => ?_) AllReadyH.nil
        rw [if_pos (by kernel_rfl)]
        refine callR (d := some 51) rfl 17 #[.pointer (some ⟨gg, 0, none⟩), .int .i64 now] (by kernel_rfl) hc1 ?_
        clear hc1 hS
        rintro e Wb ⟨vb, rfl, hx⟩
        refine ⟨_, rfl, ?_⟩
        have HB2 : Hid (PrAt s G Wb P N ∧ Blk Wb bx 56 (opV kd hh ln (.slice ba bl bc) now) ∧ Below Z1.heap.size Z1 Wb ∧ ∃ (ns : List Nat) (rs : List (Nat × Nat)), RowAt Wb 61 2 vb rs.length (rV rs) ∧ (∀ q, vb.ownBlock = some q → Z1.heap.size ≤ q) ∧ rs.length ≤ P.a.ks.length ∧ (tmB now = true ∧ (wtB P.a (max P.a.la now) (P.a.pat / 2) = false ∧ rs = [] ∨ wtB P.a (max P.a.la now) (P.a.pat / 2) = true ∧ ns.Perm (P.a.ks.map (·.n)) ∧ ns.Pairwise (· ≤ ·) ∧ rs = (wst P.a.nx ns).2) ∨ tmB now = false ∧ rs = [])) := by
          obtain ⟨ns, rs, k1, k2, k3, k4, k5⟩ := hx.out
          exact ⟨HA2.out.1.below k3, HA2.out.2.1.fr (Fr.of_below k3 (fun _ => False)) id, k3, ns, rs, k1, k2, k4, k5⟩
        clear hx
        have hS := HS.out Wb HB2.out.1 HB2.out.2.1
        refine hK1.out _ _ hS (fun _ => ?_)
        clear hK1
        simp only [Act.put, List.setIfInBounds_toArray, List.set_cons_zero, List.set_cons_succ]
        refine takeR (i := 7) (v := vb) (some 7) rfl rfl (by kernel_rfl) (by kernel_rfl) (by kernel_rfl) (fun _ _ _ h => h) (Or.inl ⟨by kernel_rfl, fun w' hSw => by kernel_rfl⟩) hS ?_
        simp only [Act.put, List.setIfInBounds_toArray, List.set_cons_zero, List.set_cons_succ]
        refine wpAnyH_done (by kernel_rfl) ?_ _
        refine hK _ _ ?_
        clear hK hS
        have HB3 : Hid (PrAt s G Wb.drew P N ∧ Blk Wb.drew bx 56 (opV kd hh ln (.slice ba bl bc) now) ∧ Below Wb.heap.size Wb Wb.drew) := by
          have hd0 : Below Wb.heap.size Wb Wb.drew := ⟨rfl, rfl, rfl, Nat.le_refl _, fun _ _ => rfl⟩
          exact ⟨HB2.out.1.below hd0, HB2.out.2.1.fr (Fr.of_below hd0 (fun _ => False)) id, hd0⟩
        go_upto_region 10 with fail
        rename_i K hK
        refine wp_region_held (S := fun w' => w'.cell? ⟨p, 0, none⟩ = some (.pointer (some ⟨gg, 0, none⟩)) ∧ w'.cell? ⟨p, 1, none⟩ = some (.pointer (some ⟨gh, 0, none⟩)) ∧ w'.cell? ⟨bx, 4, none⟩ = some (.int .i64 now)) (by kernel_rfl) ?_
        change wpAnyH _ _ _ _ _ _ _ _ (World.drew _)
        generalize Wb.drew = Z2 at *
        have hS := HS.out Z2 HB3.out.1 HB3.out.2.1
        refine takeR (i := 0) (v := .pointer (some ⟨p, 0, none⟩)) (some 52) rfl rfl (by kernel_rfl) (by kernel_rfl) (by kernel_rfl) (fun _ _ _ h => h) (Or.inl ⟨by kernel_rfl, fun w' hSw => by kernel_rfl⟩) hS ?_
        simp only [Act.put, List.setIfInBounds_toArray, List.set_cons_zero, List.set_cons_succ]
        refine takeR (i := 1) (v := .pointer (some ⟨p, 0, none⟩)) (some 53) rfl rfl (by kernel_rfl) (by kernel_rfl) (by kernel_rfl) (fun _ _ _ h => h) (Or.inl ⟨by kernel_rfl, fun w' hSw => by kernel_rfl⟩) hS ?_
        simp only [Act.put, List.setIfInBounds_toArray, List.set_cons_zero, List.set_cons_succ]
        refine takeR (i := 2) (v := .pointer (some ⟨p, 1, none⟩)) (some 54) rfl rfl (by kernel_rfl) (by kernel_rfl) (by kernel_rfl) (fun _ _ _ h => h) (Or.inl ⟨by kernel_rfl, fun w' hSw => by kernel_rfl⟩) hS ?_
        simp only [Act.put, List.setIfInBounds_toArray, List.set_cons_zero, List.set_cons_succ]
        refine takeR (i := 3) (v := .pointer (some ⟨gh, 0, none⟩)) (some 55) rfl rfl (by kernel_rfl) (by kernel_rfl) (by kernel_rfl) (fun _ _ _ h => h) (Or.inl ⟨by kernel_rfl, fun w' hSw => by exact ldP_run (.inr rfl) (.tmp 54) rfl (by kernel_rfl) hSw.2.1⟩) hS ?_
        simp only [Act.put, List.setIfInBounds_toArray, List.set_cons_zero, List.set_cons_succ]
        refine takeR (i := 4) (v := .pointer (some ⟨bx, 4, none⟩)) (some 56) rfl rfl (by kernel_rfl) (by kernel_rfl) (by kernel_rfl) (fun _ _ _ h => h) (Or.inl ⟨by kernel_rfl, fun w' hSw => by kernel_rfl⟩) hS ?_
        simp only [Act.put, List.setIfInBounds_toArray, List.set_cons_zero, List.set_cons_succ]
        refine takeR (i := 5) (v := .int .i64 now) (some 57) rfl rfl (by kernel_rfl) (by kernel_rfl) (by kernel_rfl) (fun _ _ _ h => h) (Or.inl ⟨by kernel_rfl, fun w' hSw => by exact ldN_run (.inl rfl) (.tmp 56) rfl (by kernel_rfl) hSw.2.2⟩) hS ?_
        simp only [Act.put, List.setIfInBounds_toArray, List.set_cons_zero, List.set_cons_succ]
        have hc1 : Calls Try.prog 32 #[.pointer (some ⟨gh, 0, none⟩), .int .i64 now] Z2 fun e w' => ∃ rv, e = .returned rv ∧ Hid (∃ (rs : List (Nat × Nat)), RowAt w' 61 2 rv rs.length (rV rs) ∧ (∀ q, rv.ownBlock = some q → Z2.heap.size ≤ q) ∧ Below Z2.heap.size Z2 w' ∧ (tmB now = true ∧ (wtB P.r (max P.r.la now) (P.r.pat / 2) = false ∧ rs = [] ∨ wtB P.r (max P.r.la now) (P.r.pat / 2) = true ∧ rs = (wst P.r.nx (P.r.ks.map (·.n))).2) ∨ tmB now = false ∧ rs = [])) := by
          rw [HP.out.2.2]; exact rwants2 HB3.out.1.rb now
        refine wpAnyH_ready (rs := [6]) (by kernel_rfl) (by simp) ?_
        refine AllReadyH.cons rfl (fun K1 hK1 => ?_) AllReadyH.nil
        rw [if_pos (by kernel_rfl)]
        refine callR (d := some 58) rfl 32 #[.pointer (some ⟨gh, 0, none⟩), .int .i64 now] (by kernel_rfl) hc1 ?_
        clear hc1 hS
        rintro e Wc ⟨vc, rfl, hx⟩
        refine ⟨_, rfl, ?_⟩
        have HC2 : Hid (PrAt s G Wc P N ∧ Blk Wc bx 56 (opV kd hh ln (.slice ba bl bc) now) ∧ Below Z2.heap.size Z2 Wc ∧ ∃ (rs : List (Nat × Nat)), RowAt Wc 61 2 vc rs.length (rV rs) ∧ (∀ q, vc.ownBlock = some q → Z2.heap.size ≤ q) ∧ (tmB now = true ∧ (wtB P.r (max P.r.la now) (P.r.pat / 2) = false ∧ rs = [] ∨ wtB P.r (max P.r.la now) (P.r.pat / 2) = true ∧ rs = (wst P.r.nx (P.r.ks.map (·.n))).2) ∨ tmB now = false ∧ rs = [])) := by
          obtain ⟨rs, k1, k2, k3, k4⟩ := hx.out
          exact ⟨HB3.out.1.below k3, HB3.out.2.1.fr (Fr.of_below k3 (fun _ => False)) id, k3, rs, k1, k2, k4⟩
        clear hx
        have hS := HS.out Wc HC2.out.1 HC2.out.2.1
        refine hK1.out _ _ hS (fun _ => ?_)
        clear hK1
        simp only [Act.put, List.setIfInBounds_toArray, List.set_cons_zero, List.set_cons_succ]
        refine takeR (i := 7) (v := vc) (some 8) rfl rfl (by kernel_rfl) (by kernel_rfl) (by kernel_rfl) (fun _ _ _ h => h) (Or.inl ⟨by kernel_rfl, fun w' hSw => by kernel_rfl⟩) hS ?_
        simp only [Act.put, List.setIfInBounds_toArray, List.set_cons_zero, List.set_cons_succ]
        refine wpAnyH_done (by kernel_rfl) ?_ _
        refine hK _ _ ?_
        clear hK hS
        have HW : Hid (∃ (G2 : Gh) (rs : List (Nat × Nat)), PrAt s G2 Wc P N ∧ Stp (1000 + s) P.own G Z0 G2 Wc ∧ RowAt Wc 61 2 va rs.length (rV rs) ∧ (∀ q, va.ownBlock = some q → G2 q = (1, 2000 + s)) ∧ RowAt Wc 61 2 vb rs.length (rV rs) ∧ (∀ q, vb.ownBlock = some q → G2 q = (1, 3000 + s)) ∧ RowAt Wc 61 2 vc rs.length (rV rs) ∧ (∀ q, vc.ownBlock = some q → (G2 q).1 = 0) ∧ rs.length ≤ 1000000000000 ∧ P.rs.length ≤ 8 * N ∧ P.rs.length % 4 = 0) := by
          obtain ⟨_, _, b1, ns1, r1, a1, a2, a3, a4⟩ := HA.out
          obtain ⟨_, _, b3, ns2, r2, c1, c2, c3, c4⟩ := HB2.out
          obtain ⟨_, _, b5, r3, d1, d2, d3⟩ := HC2.out
          have b2 := HA2.out.2.2
          have b4 := HB3.out.2.2
          have e1 : r1 = r3 := wants_same HZ.out.1.rel HZ.out.1.rb.so a4 d3
          have e2 : r2 = r3 := wants_same HZ.out.1.rel HZ.out.1.rb.so c4 d3
          subst e1 e2
          have f1 : Below Wa.heap.size Wa Wc := below_step b2 (below_step b3 (below_step b4 b5))
          have f2 : Below Wb.heap.size Wb Wc := below_step b4 b5
          have ha := a1.fr (Fr.of_below f1 (fun _ => False)) fun _ _ => id
          have hc := c1.fr (Fr.of_below f2 (fun _ => False)) fun _ _ => id
          obtain ⟨G2, g1, g2, g3, g4, g5⟩ := HZ.out.1.w0 (W1 := Wa) (below_step b1 f1) ha (fun q hq => ⟨a2 q hq, (a1.lt hq).1⟩) hc (fun q hq => ⟨Nat.le_trans b1.size (Nat.le_trans b2.size (c2 q hq)), Nat.le_trans b2.size (c2 q hq)⟩)
          refine ⟨G2, r2, g1, g2, ha, g3, hc, g4, d1, fun q hq => ?_, ?_, HZ.out.1.rb8, HZ.out.1.r4⟩
          · have h9 := d2 q hq
            have hb4 := b4.size
            have hb3 := b3.size
            have hb2 := b2.size
            have hb1 := b1.size
            rw [g5 q (fun e => by have := (a1.lt e).1; omega) fun e => by have := (c1.lt e).1; omega, HZ.out.1.gi.zero (by omega)]
          · have h1 := HZ.out.1.ab.bd.len
            have h2 := HZ.out.1.cn 1
            have h3 := HZ.out.1.cn 5
            have := HI.out.2.1
            omega
        clear HA HA2 HB2 HB3 HC2 HS
        obtain ⟨G2, rr, w1, w2, w3, w4, w5, w6, w7, w8, w9, w10, w11⟩ := HW.out
        have hc1 : Calls Try.prog 33 #[.pointer (some ⟨p, 0, none⟩), va, vc] Wc fun e w' => e = .returned (.bool true) ∧ Hid (∃ G' c rs', RV (2000 + s) G2 Wc P.p P.c G' w' c rs' ∧ rs'.length = P.rs.length + 4) := by
          rw [HP.out.1]; exact wants_any w1.gi w1.blk w1.rs w3 w4 w7 w8 w11 (by have := HI.out.2.1; omega) w9
        have HX : Hid (PrAt s G2 Wc P N ∧ Stp (1000 + s) P.own G Z0 G2 Wc ∧ RowAt Wc 61 2 vb rr.length (rV rr) ∧ (∀ q, vb.ownBlock = some q → G2 q = (1, 3000 + s)) ∧ RowAt Wc 61 2 vc rr.length (rV rr) ∧ (∀ q, vc.ownBlock = some q → (G2 q).1 = 0) ∧ rr.length ≤ 1000000000000 ∧ P.rs.length ≤ 8 * N ∧ P.rs.length % 4 = 0) := ⟨w1, w2, w5, w6, w7, w8, w9, w10, w11⟩
        clear HW w1 w2 w3 w4 w5 w6 w7 w8 w9 w10 w11
        go_upto_region 11 with fail
        rename_i K hK
        refine wp_region_lit ?_
        refine wpList_runTo rfl (some 59) rfl (.pointer (some ⟨p, 0, none⟩)) Wc (by kernel_rfl) ?_
        simp only [Act.put, List.setIfInBounds_toArray, List.set_cons_zero, List.set_cons_succ]
        refine wpList_runTo rfl (some 60) rfl (va) Wc (by kernel_rfl) ?_
        simp only [Act.put, List.setIfInBounds_toArray, List.set_cons_zero, List.set_cons_succ]
        refine wpList_runTo rfl (some 61) rfl (vc) Wc (by kernel_rfl) ?_
        simp only [Act.put, List.setIfInBounds_toArray, List.set_cons_zero, List.set_cons_succ]
        refine wpList_callW rfl (some 62) rfl 33 #[.pointer (some ⟨p, 0, none⟩), va, vc] (by kernel_rfl) hc1 ?_
        clear hc1
        rintro e Wd ⟨rfl, hx⟩
        refine ⟨_, rfl, ?_⟩
        simp only [Act.put, List.setIfInBounds_toArray, List.set_cons_zero, List.set_cons_succ]
        refine wpList_runTo rfl (some 9) rfl (.bool true) Wd (by kernel_rfl) ?_
        simp only [Act.put, List.setIfInBounds_toArray, List.set_cons_zero, List.set_cons_succ]
        refine wpList_nil ?_
        refine hK _ _ ?_
        clear hK
        obtain ⟨G3, c3, rs3, hrv, hl3⟩ := hx.out
        obtain ⟨_, hp3, hs3, ho3⟩ := HX.out.1.rv (M := N + 1) (.inl rfl) HI.out.1 hrv hl3 (by omega) (by have := HX.out.2.2.2.2.2.2.2.1; omega)
        have hcol3 : ∀ q, q < Wc.heap.size → G2 q = (1, 3000 + s) ∨ (G2 q).1 = 0 → G3 q = G2 q := fun q hq hn => by
          rcases hrv.st.col q hq with e | ⟨e1, e2⟩
          · exact e
          · exfalso
            rcases hn with hn | hn
            · rw [hn] at e2; simp at e2; omega
            · omega
        have HY : Hid (PrAt s G3 Wd { P with c := c3, rs := rs3 } (N + 1) ∧ Stp (1000 + s) P.own G Z0 G3 Wd ∧ (∀ q, ({ P with c := c3, rs := rs3 } : PR).own q → P.own q ∨ Z0.heap.size ≤ q) ∧ RowAt Wd 61 2 vb rr.length (rV rr) ∧ (∀ q, vb.ownBlock = some q → G3 q = (1, 3000 + s)) ∧ RowAt Wd 61 2 vc rr.length (rV rr) ∧ (∀ q, vc.ownBlock = some q → (G3 q).1 = 0) ∧ rr.length ≤ 1000000000000 ∧ rs3.length = P.rs.length + 4 ∧ P.rs.length ≤ 8 * N) := by
          obtain ⟨w1, w2, w5, w6, w7, w8, w9, w10, w11⟩ := HX.out
          refine ⟨hp3, w2.trans hs3 fun _ _ e => e, fun q hq => (ho3 q hq).imp id fun e => Nat.le_trans w2.size e, w5.stpC hrv.st (.inr (.inl rfl)) fun q hq m e => ?_, fun q hq => ?_, w7.stpC hrv.st (.inr (.inl rfl)) fun q hq m e => ?_, fun q hq => ?_, w9, hl3, w10⟩
          · rw [hcol3 q (w5.lt hq).1 (.inl (w6 q hq)), w6 q hq] at e; simp at e
          · rw [hcol3 q (w5.lt hq).1 (.inl (w6 q hq))]; exact w6 q hq
          · rw [hcol3 q (w7.lt hq).1 (.inr (w8 q hq))] at e; have := w8 q hq; rw [e] at this; simp at this
          · rw [hcol3 q (w7.lt hq).1 (.inr (w8 q hq))]; exact w8 q hq
        clear hx hrv hl3 hp3 hs3 ho3 hcol3 HX
        have hc1 : Calls Try.prog 33 #[.pointer (some ⟨p, 0, none⟩), vb, vc] Wd fun e w' => e = .returned (.bool true) ∧ Hid (∃ G' c rs', RV (3000 + s) G3 Wd P.p c3 G' w' c rs' ∧ rs'.length = rs3.length + 4) := by
          obtain ⟨w1, w2, w3, w4, w5, w6, w7, w8, w9, w10⟩ := HY.out
          rw [HP.out.1]; exact wants_any w1.gi w1.blk w1.rs w4 w5 w6 w7 w1.r4 (by have := HI.out.2.1; rw [w9]; omega) w8
        go_upto_region 12 with fail
        rename_i K hK
        refine wp_region_lit ?_
        refine wpList_runTo rfl (some 63) rfl (.pointer (some ⟨p, 0, none⟩)) Wd (by kernel_rfl) ?_
        simp only [Act.put, List.setIfInBounds_toArray, List.set_cons_zero, List.set_cons_succ]
        refine wpList_runTo rfl (some 64) rfl (vb) Wd (by kernel_rfl) ?_
        simp only [Act.put, List.setIfInBounds_toArray, List.set_cons_zero, List.set_cons_succ]
        refine wpList_runTo rfl (some 65) rfl (vc) Wd (by kernel_rfl) ?_
        simp only [Act.put, List.setIfInBounds_toArray, List.set_cons_zero, List.set_cons_succ]
        refine wpList_callW rfl (some 66) rfl 33 #[.pointer (some ⟨p, 0, none⟩), vb, vc] (by kernel_rfl) hc1 ?_
        clear hc1
        rintro e Wx ⟨rfl, hx⟩
        refine ⟨_, rfl, ?_⟩
        simp only [Act.put, List.setIfInBounds_toArray, List.set_cons_zero, List.set_cons_succ]
        refine wpList_runTo rfl (some 10) rfl (.bool true) Wx (by kernel_rfl) ?_
        simp only [Act.put, List.setIfInBounds_toArray, List.set_cons_zero, List.set_cons_succ]
        refine wpList_nil ?_
        refine hK _ _ ?_
        clear hK
        have HF : Hid (StepR s G w P (N + 1) Wx) := by
          obtain ⟨G4, c4, rs4, hrv, hl4⟩ := hx.out
          obtain ⟨w1, w2, w3, w4, w5, w6, w7, w8, w9, w10⟩ := HY.out
          obtain ⟨_, hp4, hs4, ho4⟩ := PrAt.rv (P := { P with c := c3, rs := rs3 }) w1 (.inr rfl) HI.out.1 hrv hl4 (Nat.le_refl _) (by show rs3.length + 4 ≤ _; omega)
          refine StepR.from HZ.out.2.2 HG.out.1 HG.out.2 ⟨G4, _, hp4, rfl, w2.trans hs4 fun q hl e => ?_, fun q hq => ?_⟩
          · rcases w3 q e with e | e
            · exact e
            · omega
          · rcases ho4 q hq with e | e
            · exact w3 q e
            · exact .inr (Nat.le_trans w2.size e)
        clear hx HY HZ HG HI
        obtain ⟨G9, P9, h9, hp9, hs9, ho9⟩ := HF.out
        have hpe : P9.p = p := hp9.trans HP.out.1.symm
        obtain ⟨g9, hg9⟩ : ∃ g9, g9 = P9.g := ⟨_, rfl⟩
        obtain ⟨r9, hr9⟩ : ∃ r9, r9 = P9.h := ⟨_, rfl⟩
        have HT : Hid (PrAt s G9 Wx.drew P9 (N + 1) ∧ Stp (1000 + s) P.own G w G9 Wx.drew ∧ P9.p = P.p ∧ (∀ q, P9.own q → P.own q ∨ w.heap.size ≤ q) ∧ P9.p = p ∧ g9 = P9.g ∧ r9 = P9.h) := ⟨h9.below ⟨rfl, rfl, rfl, Nat.le_refl _, fun _ _ => rfl⟩, hs9.trans0 (Stp.drew h9.gi), hp9, ho9, hpe, hg9, hr9⟩
        clear HF h9 hp9 hs9 ho9 hpe hg9 hr9
        go_upto_region 14 with fail
        rename_i K hK
        have HS : Hid (∀ W, PrAt s G9 W P9 (N + 1) → W.cell? ⟨p, 0, none⟩ = some (.pointer (some ⟨g9, 0, none⟩)) ∧ W.cell? ⟨p, 1, none⟩ = some (.pointer (some ⟨r9, 0, none⟩))) := fun W hW => by
          have h1 := hW.blk.cell 0
          have h2 := hW.blk.cell 1
          rw [HT.out.2.2.2.2.1] at h1 h2
          have e1 : P9.c.cs[0]? = some P9.c.a := rfl
          have e2 : P9.c.cs[1]? = some P9.c.b := rfl
          rw [e1, hW.ca, ← HT.out.2.2.2.2.2.1] at h1
          rw [e2, hW.cb, ← HT.out.2.2.2.2.2.2] at h2
          exact ⟨h1, h2⟩
        refine wp_region_held (S := fun w' => w'.cell? ⟨p, 0, none⟩ = some (.pointer (some ⟨g9, 0, none⟩)) ∧ w'.cell? ⟨p, 1, none⟩ = some (.pointer (some ⟨r9, 0, none⟩))) (by kernel_rfl) ?_
        change wpAnyH _ _ _ _ _ _ _ _ (World.drew _)
        have hS := HS.out _ HT.out.1
        generalize Wx.drew = V0 at *
        obtain ⟨LS, hLS⟩ : ∃ LS, LS = P9.a.ls := ⟨_, rfl⟩
        obtain ⟨nx9, hnx9⟩ : ∃ nx9, nx9 = P9.a.nx := ⟨_, rfl⟩
        have HLS : Hid (LS = P9.a.ls ∧ nx9 = P9.a.nx) := ⟨hLS, hnx9⟩
        clear hLS hnx9
        refine takeR (i := 0) (v := .bool true) (some 71) rfl rfl (by kernel_rfl) (by kernel_rfl) (by kernel_rfl) (fun _ _ _ h => h) (Or.inl ⟨by kernel_rfl, fun w' hSw => by kernel_rfl⟩) hS ?_
        simp only [Act.put, List.setIfInBounds_toArray, List.set_cons_zero, List.set_cons_succ]
        refine takeR (i := 1) (v := .bool true) (some 72) rfl rfl (by kernel_rfl) (by kernel_rfl) (by kernel_rfl) (fun _ _ _ h => h) (Or.inl ⟨by kernel_rfl, fun w' hSw => by kernel_rfl⟩) hS ?_
        simp only [Act.put, List.setIfInBounds_toArray, List.set_cons_zero, List.set_cons_succ]
        refine takeR (i := 2) (v := .pointer (some ⟨p, 0, none⟩)) (some 73) rfl rfl (by kernel_rfl) (by kernel_rfl) (by kernel_rfl) (fun _ _ _ h => h) (Or.inl ⟨by kernel_rfl, fun w' hSw => by kernel_rfl⟩) hS ?_
        simp only [Act.put, List.setIfInBounds_toArray, List.set_cons_zero, List.set_cons_succ]
        refine takeR (i := 3) (v := .pointer (some ⟨p, 0, none⟩)) (some 74) rfl rfl (by kernel_rfl) (by kernel_rfl) (by kernel_rfl) (fun _ _ _ h => h) (Or.inl ⟨by kernel_rfl, fun w' hSw => by kernel_rfl⟩) hS ?_
        simp only [Act.put, List.setIfInBounds_toArray, List.set_cons_zero, List.set_cons_succ]
        refine takeR (i := 4) (v := .pointer (some ⟨p, 0, none⟩)) (some 75) rfl rfl (by kernel_rfl) (by kernel_rfl) (by kernel_rfl) (fun _ _ _ h => h) (Or.inl ⟨by kernel_rfl, fun w' hSw => by kernel_rfl⟩) hS ?_
        simp only [Act.put, List.setIfInBounds_toArray, List.set_cons_zero, List.set_cons_succ]
        refine takeR (i := 5) (v := .pointer (some ⟨g9, 0, none⟩)) (some 76) rfl rfl (by kernel_rfl) (by kernel_rfl) (by kernel_rfl) (fun _ _ _ h => h) (Or.inl ⟨by kernel_rfl, fun w' hSw => by exact ldP_run (.inl rfl) (.tmp 75) rfl (by kernel_rfl) hSw.1⟩) hS ?_
        simp only [Act.put, List.setIfInBounds_toArray, List.set_cons_zero, List.set_cons_succ]
        refine takeR (i := 7) (v := .pointer (some ⟨p, 0, none⟩)) (some 78) rfl rfl (by kernel_rfl) (by kernel_rfl) (by kernel_rfl) (fun _ _ _ h => h) (Or.inl ⟨by kernel_rfl, fun w' hSw => by kernel_rfl⟩) hS ?_
        simp only [Act.put, List.setIfInBounds_toArray, List.set_cons_zero, List.set_cons_succ]
        refine takeR (i := 8) (v := .pointer (some ⟨p, 0, none⟩)) (some 79) rfl rfl (by kernel_rfl) (by kernel_rfl) (by kernel_rfl) (fun _ _ _ h => h) (Or.inl ⟨by kernel_rfl, fun w' hSw => by kernel_rfl⟩) hS ?_
        simp only [Act.put, List.setIfInBounds_toArray, List.set_cons_zero, List.set_cons_succ]
        refine takeR (i := 9) (v := .pointer (some ⟨p, 1, none⟩)) (some 80) rfl rfl (by kernel_rfl) (by kernel_rfl) (by kernel_rfl) (fun _ _ _ h => h) (Or.inl ⟨by kernel_rfl, fun w' hSw => by kernel_rfl⟩) hS ?_
        simp only [Act.put, List.setIfInBounds_toArray, List.set_cons_zero, List.set_cons_succ]
        refine takeR (i := 10) (v := .pointer (some ⟨r9, 0, none⟩)) (some 81) rfl rfl (by kernel_rfl) (by kernel_rfl) (by kernel_rfl) (fun _ _ _ h => h) (Or.inl ⟨by kernel_rfl, fun w' hSw => by exact ldP_run (.inr rfl) (.tmp 80) rfl (by kernel_rfl) hSw.2⟩) hS ?_
        simp only [Act.put, List.setIfInBounds_toArray, List.set_cons_zero, List.set_cons_succ]
        have hc1 : Calls Try.prog 18 #[.pointer (some ⟨g9, 0, none⟩)] V0 fun e w' => e = .returned (.agg LS) ∧ Hid (Below V0.heap.size V0 w') := by
          rw [HT.out.2.2.2.2.2.1, HLS.out.1]; exact Lines_any HT.out.1.ab
        refine wpAnyH_ready (rs := [6]) (by kernel_rfl) (by simp) ?_
        refine AllReadyH.cons rfl (fun K1 hK1 => ?_) AllReadyH.nil
        rw [if_pos (by kernel_rfl)]
        refine callR (d := some 77) rfl 18 #[.pointer (some ⟨g9, 0, none⟩)] (by kernel_rfl) hc1 ?_
        clear hc1 hS
        rintro e V1 ⟨rfl, hx⟩
        refine ⟨_, rfl, ?_⟩
        have HT1 : Hid (PrAt s G9 V1 P9 (N + 1) ∧ Stp (1000 + s) P.own G w G9 V1) := ⟨HT.out.1.below hx.out, HT.out.2.1.trans0 (Stp.below HT.out.1.gi hx.out)⟩
        clear hx
        have hS := HS.out _ HT1.out.1
        refine hK1.out _ _ hS (fun _ => ?_)
        clear hK1
        simp only [Act.put, List.setIfInBounds_toArray, List.set_cons_zero, List.set_cons_succ]
        have hc1 : Calls Try.prog 34 #[.pointer (some ⟨r9, 0, none⟩)] V1 fun e w' => e = .returned (.agg LS) ∧ Hid (Below V1.heap.size V1 w') := by
          rw [HT.out.2.2.2.2.2.2, HLS.out.1, ← ls_same HT.out.1.rel]; exact rLines_any HT1.out.1.rb
        refine wpAnyH_ready (rs := [11]) (by kernel_rfl) (by simp) ?_
        refine AllReadyH.cons rfl (fun K1 hK1 => ?_) AllReadyH.nil
        rw [if_pos (by kernel_rfl)]
        refine callR (d := some 82) rfl 34 #[.pointer (some ⟨r9, 0, none⟩)] (by kernel_rfl) hc1 ?_
        clear hc1 hS
        rintro e V2 ⟨rfl, hx⟩
        refine ⟨_, rfl, ?_⟩
        have HT2 : Hid (PrAt s G9 V2 P9 (N + 1) ∧ Stp (1000 + s) P.own G w G9 V2) := ⟨HT1.out.1.below hx.out, HT1.out.2.trans0 (Stp.below HT1.out.1.gi hx.out)⟩
        clear hx HT1
        have hS := HS.out _ HT2.out.1
        refine hK1.out _ _ hS (fun _ => ?_)
        clear hK1
        simp only [Act.put, List.setIfInBounds_toArray, List.set_cons_zero, List.set_cons_succ]
        refine takeR (i := 12) (v := .bool true) (some 83) rfl rfl (by kernel_rfl) (by kernel_rfl) (by kernel_rfl) (fun _ _ _ h => h) (Or.inl ⟨by kernel_rfl, fun w' hSw => by (rw [HLS.out.1]; exact eqL_run (ab := P9.a) (.tmp 77) (.tmp 82) rfl (by kernel_rfl) (by kernel_rfl) _)⟩) hS ?_
        simp only [Act.put, List.setIfInBounds_toArray, List.set_cons_zero, List.set_cons_succ]
        refine takeR (i := 13) (v := .bool true) (some 84) rfl rfl (by kernel_rfl) (by kernel_rfl) (by kernel_rfl) (fun _ _ _ h => h) (Or.inl ⟨by kernel_rfl, fun w' hSw => by kernel_rfl⟩) hS ?_
        simp only [Act.put, List.setIfInBounds_toArray, List.set_cons_zero, List.set_cons_succ]
        refine takeR (i := 14) (v := .bool true) (some 85) rfl rfl (by kernel_rfl) (by kernel_rfl) (by kernel_rfl) (fun _ _ _ h => h) (Or.inl ⟨by kernel_rfl, fun w' hSw => by kernel_rfl⟩) hS ?_
        simp only [Act.put, List.setIfInBounds_toArray, List.set_cons_zero, List.set_cons_succ]
        refine takeR (i := 15) (v := .pointer (some ⟨p, 0, none⟩)) (some 86) rfl rfl (by kernel_rfl) (by kernel_rfl) (by kernel_rfl) (fun _ _ _ h => h) (Or.inl ⟨by kernel_rfl, fun w' hSw => by kernel_rfl⟩) hS ?_
        simp only [Act.put, List.setIfInBounds_toArray, List.set_cons_zero, List.set_cons_succ]
        refine takeR (i := 16) (v := .pointer (some ⟨p, 0, none⟩)) (some 87) rfl rfl (by kernel_rfl) (by kernel_rfl) (by kernel_rfl) (fun _ _ _ h => h) (Or.inl ⟨by kernel_rfl, fun w' hSw => by kernel_rfl⟩) hS ?_
        simp only [Act.put, List.setIfInBounds_toArray, List.set_cons_zero, List.set_cons_succ]
        refine takeR (i := 17) (v := .pointer (some ⟨p, 0, none⟩)) (some 88) rfl rfl (by kernel_rfl) (by kernel_rfl) (by kernel_rfl) (fun _ _ _ h => h) (Or.inl ⟨by kernel_rfl, fun w' hSw => by kernel_rfl⟩) hS ?_
        simp only [Act.put, List.setIfInBounds_toArray, List.set_cons_zero, List.set_cons_succ]
        refine takeR (i := 18) (v := .pointer (some ⟨g9, 0, none⟩)) (some 89) rfl rfl (by kernel_rfl) (by kernel_rfl) (by kernel_rfl) (fun _ _ _ h => h) (Or.inl ⟨by kernel_rfl, fun w' hSw => by exact ldP_run (.inl rfl) (.tmp 88) rfl (by kernel_rfl) hSw.1⟩) hS ?_
        simp only [Act.put, List.setIfInBounds_toArray, List.set_cons_zero, List.set_cons_succ]
        refine takeR (i := 20) (v := .pointer (some ⟨p, 0, none⟩)) (some 91) rfl rfl (by kernel_rfl) (by kernel_rfl) (by kernel_rfl) (fun _ _ _ h => h) (Or.inl ⟨by kernel_rfl, fun w' hSw => by kernel_rfl⟩) hS ?_
        simp only [Act.put, List.setIfInBounds_toArray, List.set_cons_zero, List.set_cons_succ]
        refine takeR (i := 21) (v := .pointer (some ⟨p, 0, none⟩)) (some 92) rfl rfl (by kernel_rfl) (by kernel_rfl) (by kernel_rfl) (fun _ _ _ h => h) (Or.inl ⟨by kernel_rfl, fun w' hSw => by kernel_rfl⟩) hS ?_
        simp only [Act.put, List.setIfInBounds_toArray, List.set_cons_zero, List.set_cons_succ]
        refine takeR (i := 22) (v := .pointer (some ⟨p, 1, none⟩)) (some 93) rfl rfl (by kernel_rfl) (by kernel_rfl) (by kernel_rfl) (fun _ _ _ h => h) (Or.inl ⟨by kernel_rfl, fun w' hSw => by kernel_rfl⟩) hS ?_
        simp only [Act.put, List.setIfInBounds_toArray, List.set_cons_zero, List.set_cons_succ]
        refine takeR (i := 23) (v := .pointer (some ⟨r9, 0, none⟩)) (some 94) rfl rfl (by kernel_rfl) (by kernel_rfl) (by kernel_rfl) (fun _ _ _ h => h) (Or.inl ⟨by kernel_rfl, fun w' hSw => by exact ldP_run (.inr rfl) (.tmp 93) rfl (by kernel_rfl) hSw.2⟩) hS ?_
        simp only [Act.put, List.setIfInBounds_toArray, List.set_cons_zero, List.set_cons_succ]
        have hc1 : Calls Try.prog 13 #[.pointer (some ⟨g9, 0, none⟩)] V2 fun e w' => e = .returned (.int .i64 (nx9 : Int)) ∧ w' = V2 := by
          rw [HT.out.2.2.2.2.2.1, HLS.out.2]; exact Next_any HT2.out.1.ab
        refine wpAnyH_ready (rs := [19]) (by kernel_rfl) (by simp) ?_
        refine AllReadyH.cons rfl (fun K1 hK1 => ?_) AllReadyH.nil
        rw [if_pos (by kernel_rfl)]
        refine callR (d := some 90) rfl 13 #[.pointer (some ⟨g9, 0, none⟩)] (by kernel_rfl) hc1 ?_
        clear hc1
        rintro e V3 ⟨rfl, ev⟩
        replace ev := ev.symm
        subst ev
        refine ⟨_, rfl, ?_⟩
        refine hK1.out _ _ hS (fun _ => ?_)
        clear hK1
        simp only [Act.put, List.setIfInBounds_toArray, List.set_cons_zero, List.set_cons_succ]
        have hc1 : Calls Try.prog 35 #[.pointer (some ⟨r9, 0, none⟩)] V2 fun e w' => e = .returned (.int .i64 (nx9 : Int)) ∧ w' = V2 := by
          rw [HT.out.2.2.2.2.2.2, HLS.out.2, HT.out.1.rel.nx]; exact rNext_any HT2.out.1.rb
        refine wpAnyH_ready (rs := [24]) (by kernel_rfl) (by simp) ?_
        refine AllReadyH.cons rfl (fun K1 hK1 => ?_) AllReadyH.nil
        rw [if_pos (by kernel_rfl)]
        refine callR (d := some 95) rfl 35 #[.pointer (some ⟨r9, 0, none⟩)] (by kernel_rfl) hc1 ?_
        clear hc1
        rintro e V3 ⟨rfl, ev⟩
        replace ev := ev.symm
        subst ev
        refine ⟨_, rfl, ?_⟩
        refine hK1.out _ _ hS (fun _ => ?_)
        clear hK1
        simp only [Act.put, List.setIfInBounds_toArray, List.set_cons_zero, List.set_cons_succ]
        refine takeR (i := 25) (v := .bool true) (some 96) rfl rfl (by kernel_rfl) (by kernel_rfl) (by kernel_rfl) (fun _ _ _ h => h) (Or.inl ⟨by kernel_rfl, fun w' hSw => by exact eqN_run (p := nx9) (q := nx9) (.tmp 90) (.tmp 95) rfl (by kernel_rfl) (by kernel_rfl) (by simp) _⟩) hS ?_
        simp only [Act.put, List.setIfInBounds_toArray, List.set_cons_zero, List.set_cons_succ]
        refine takeR (i := 26) (v := .bool true) (some 97) rfl rfl (by kernel_rfl) (by kernel_rfl) (by kernel_rfl) (fun _ _ _ h => h) (Or.inl ⟨by kernel_rfl, fun w' hSw => by kernel_rfl⟩) hS ?_
        simp only [Act.put, List.setIfInBounds_toArray, List.set_cons_zero, List.set_cons_succ]
        refine takeR (i := 27) (v := .bool true) (some 4) rfl rfl (by kernel_rfl) (by kernel_rfl) (by kernel_rfl) (fun _ _ _ h => h) (Or.inl ⟨by kernel_rfl, fun w' hSw => by kernel_rfl⟩) hS ?_
        simp only [Act.put, List.setIfInBounds_toArray, List.set_cons_zero, List.set_cons_succ]
        refine wpAnyH_done (by kernel_rfl) ?_ _
        refine hK _ _ ?_
        clear hK hS
        have HE : Hid (StepR s G w P (N + 1) V2) := ⟨G9, P9, HT2.out.1, HT.out.2.2.1, HT2.out.2, HT.out.2.2.2.1⟩
        clear HT HT2 HS
        go_wp2
        go_ret
        exact ⟨rfl, HE.out⟩
      · have hk3' : (kd == 3) = false := by simpa using hk3
        clear hk1 hk2 hk3
        have HF : Hid (StepR s G w P (N + 1) W0) := StepR.from H1.out.2.2.1 H1.out.2.2.2.2.1 H1.out.2.2.2.2.2 ((H1.out.1.stay (Below.refl _ _)).mono (by omega))
        obtain ⟨Wx, hWx⟩ : ∃ Wx, Wx = W0 := ⟨_, rfl⟩
        rw [← hWx] at HF ⊢
        clear H1 HI hWx
        obtain ⟨G9, P9, h9, hp9, hs9, ho9⟩ := HF.out
        have hpe : P9.p = p := hp9.trans HP.out.1.symm
        obtain ⟨g9, hg9⟩ : ∃ g9, g9 = P9.g := ⟨_, rfl⟩
        obtain ⟨r9, hr9⟩ : ∃ r9, r9 = P9.h := ⟨_, rfl⟩
        have HT : Hid (PrAt s G9 Wx.drew P9 (N + 1) ∧ Stp (1000 + s) P.own G w G9 Wx.drew ∧ P9.p = P.p ∧ (∀ q, P9.own q → P.own q ∨ w.heap.size ≤ q) ∧ P9.p = p ∧ g9 = P9.g ∧ r9 = P9.h) := ⟨h9.below ⟨rfl, rfl, rfl, Nat.le_refl _, fun _ _ => rfl⟩, hs9.trans0 (Stp.drew h9.gi), hp9, ho9, hpe, hg9, hr9⟩
        clear HF h9 hp9 hs9 ho9 hpe hg9 hr9
        go_upto_region 14 with fail
        rename_i K hK
        have HS : Hid (∀ W, PrAt s G9 W P9 (N + 1) → W.cell? ⟨p, 0, none⟩ = some (.pointer (some ⟨g9, 0, none⟩)) ∧ W.cell? ⟨p, 1, none⟩ = some (.pointer (some ⟨r9, 0, none⟩))) := fun W hW => by
          have h1 := hW.blk.cell 0
          have h2 := hW.blk.cell 1
          rw [HT.out.2.2.2.2.1] at h1 h2
          have e1 : P9.c.cs[0]? = some P9.c.a := rfl
          have e2 : P9.c.cs[1]? = some P9.c.b := rfl
          rw [e1, hW.ca, ← HT.out.2.2.2.2.2.1] at h1
          rw [e2, hW.cb, ← HT.out.2.2.2.2.2.2] at h2
          exact ⟨h1, h2⟩
        refine wp_region_held (S := fun w' => w'.cell? ⟨p, 0, none⟩ = some (.pointer (some ⟨g9, 0, none⟩)) ∧ w'.cell? ⟨p, 1, none⟩ = some (.pointer (some ⟨r9, 0, none⟩))) (by kernel_rfl) ?_
        change wpAnyH _ _ _ _ _ _ _ _ (World.drew _)
        have hS := HS.out _ HT.out.1
        generalize Wx.drew = V0 at *
        obtain ⟨LS, hLS⟩ : ∃ LS, LS = P9.a.ls := ⟨_, rfl⟩
        obtain ⟨nx9, hnx9⟩ : ∃ nx9, nx9 = P9.a.nx := ⟨_, rfl⟩
        have HLS : Hid (LS = P9.a.ls ∧ nx9 = P9.a.nx) := ⟨hLS, hnx9⟩
        clear hLS hnx9
        refine takeR (i := 0) (v := .bool true) (some 71) rfl rfl (by kernel_rfl) (by kernel_rfl) (by kernel_rfl) (fun _ _ _ h => h) (Or.inl ⟨by kernel_rfl, fun w' hSw => by kernel_rfl⟩) hS ?_
        simp only [Act.put, List.setIfInBounds_toArray, List.set_cons_zero, List.set_cons_succ]
        refine takeR (i := 1) (v := .bool true) (some 72) rfl rfl (by kernel_rfl) (by kernel_rfl) (by kernel_rfl) (fun _ _ _ h => h) (Or.inl ⟨by kernel_rfl, fun w' hSw => by kernel_rfl⟩) hS ?_
        simp only [Act.put, List.setIfInBounds_toArray, List.set_cons_zero, List.set_cons_succ]
        refine takeR (i := 2) (v := .pointer (some ⟨p, 0, none⟩)) (some 73) rfl rfl (by kernel_rfl) (by kernel_rfl) (by kernel_rfl) (fun _ _ _ h => h) (Or.inl ⟨by kernel_rfl, fun w' hSw => by kernel_rfl⟩) hS ?_
        simp only [Act.put, List.setIfInBounds_toArray, List.set_cons_zero, List.set_cons_succ]
        refine takeR (i := 3) (v := .pointer (some ⟨p, 0, none⟩)) (some 74) rfl rfl (by kernel_rfl) (by kernel_rfl) (by kernel_rfl) (fun _ _ _ h => h) (Or.inl ⟨by kernel_rfl, fun w' hSw => by kernel_rfl⟩) hS ?_
        simp only [Act.put, List.setIfInBounds_toArray, List.set_cons_zero, List.set_cons_succ]
        refine takeR (i := 4) (v := .pointer (some ⟨p, 0, none⟩)) (some 75) rfl rfl (by kernel_rfl) (by kernel_rfl) (by kernel_rfl) (fun _ _ _ h => h) (Or.inl ⟨by kernel_rfl, fun w' hSw => by kernel_rfl⟩) hS ?_
        simp only [Act.put, List.setIfInBounds_toArray, List.set_cons_zero, List.set_cons_succ]
        refine takeR (i := 5) (v := .pointer (some ⟨g9, 0, none⟩)) (some 76) rfl rfl (by kernel_rfl) (by kernel_rfl) (by kernel_rfl) (fun _ _ _ h => h) (Or.inl ⟨by kernel_rfl, fun w' hSw => by exact ldP_run (.inl rfl) (.tmp 75) rfl (by kernel_rfl) hSw.1⟩) hS ?_
        simp only [Act.put, List.setIfInBounds_toArray, List.set_cons_zero, List.set_cons_succ]
        refine takeR (i := 7) (v := .pointer (some ⟨p, 0, none⟩)) (some 78) rfl rfl (by kernel_rfl) (by kernel_rfl) (by kernel_rfl) (fun _ _ _ h => h) (Or.inl ⟨by kernel_rfl, fun w' hSw => by kernel_rfl⟩) hS ?_
        simp only [Act.put, List.setIfInBounds_toArray, List.set_cons_zero, List.set_cons_succ]
        refine takeR (i := 8) (v := .pointer (some ⟨p, 0, none⟩)) (some 79) rfl rfl (by kernel_rfl) (by kernel_rfl) (by kernel_rfl) (fun _ _ _ h => h) (Or.inl ⟨by kernel_rfl, fun w' hSw => by kernel_rfl⟩) hS ?_
        simp only [Act.put, List.setIfInBounds_toArray, List.set_cons_zero, List.set_cons_succ]
        refine takeR (i := 9) (v := .pointer (some ⟨p, 1, none⟩)) (some 80) rfl rfl (by kernel_rfl) (by kernel_rfl) (by kernel_rfl) (fun _ _ _ h => h) (Or.inl ⟨by kernel_rfl, fun w' hSw => by kernel_rfl⟩) hS ?_
        simp only [Act.put, List.setIfInBounds_toArray, List.set_cons_zero, List.set_cons_succ]
        refine takeR (i := 10) (v := .pointer (some ⟨r9, 0, none⟩)) (some 81) rfl rfl (by kernel_rfl) (by kernel_rfl) (by kernel_rfl) (fun _ _ _ h => h) (Or.inl ⟨by kernel_rfl, fun w' hSw => by exact ldP_run (.inr rfl) (.tmp 80) rfl (by kernel_rfl) hSw.2⟩) hS ?_
        simp only [Act.put, List.setIfInBounds_toArray, List.set_cons_zero, List.set_cons_succ]
        have hc1 : Calls Try.prog 18 #[.pointer (some ⟨g9, 0, none⟩)] V0 fun e w' => e = .returned (.agg LS) ∧ Hid (Below V0.heap.size V0 w') := by
          rw [HT.out.2.2.2.2.2.1, HLS.out.1]; exact Lines_any HT.out.1.ab
        refine wpAnyH_ready (rs := [6]) (by kernel_rfl) (by simp) ?_
        refine AllReadyH.cons rfl (fun K1 hK1 => ?_) AllReadyH.nil
        rw [if_pos (by kernel_rfl)]
        refine callR (d := some 77) rfl 18 #[.pointer (some ⟨g9, 0, none⟩)] (by kernel_rfl) hc1 ?_
        clear hc1 hS
        rintro e V1 ⟨rfl, hx⟩
        refine ⟨_, rfl, ?_⟩
        have HT1 : Hid (PrAt s G9 V1 P9 (N + 1) ∧ Stp (1000 + s) P.own G w G9 V1) := ⟨HT.out.1.below hx.out, HT.out.2.1.trans0 (Stp.below HT.out.1.gi hx.out)⟩
        clear hx
        have hS := HS.out _ HT1.out.1
        refine hK1.out _ _ hS (fun _ => ?_)
        clear hK1
        simp only [Act.put, List.setIfInBounds_toArray, List.set_cons_zero, List.set_cons_succ]
        have hc1 : Calls Try.prog 34 #[.pointer (some ⟨r9, 0, none⟩)] V1 fun e w' => e = .returned (.agg LS) ∧ Hid (Below V1.heap.size V1 w') := by
          rw [HT.out.2.2.2.2.2.2, HLS.out.1, ← ls_same HT.out.1.rel]; exact rLines_any HT1.out.1.rb
        refine wpAnyH_ready (rs := [11]) (by kernel_rfl) (by simp) ?_
        refine AllReadyH.cons rfl (fun K1 hK1 => ?_) AllReadyH.nil
        rw [if_pos (by kernel_rfl)]
        refine callR (d := some 82) rfl 34 #[.pointer (some ⟨r9, 0, none⟩)] (by kernel_rfl) hc1 ?_
        clear hc1 hS
        rintro e V2 ⟨rfl, hx⟩
        refine ⟨_, rfl, ?_⟩
        have HT2 : Hid (PrAt s G9 V2 P9 (N + 1) ∧ Stp (1000 + s) P.own G w G9 V2) := ⟨HT1.out.1.below hx.out, HT1.out.2.trans0 (Stp.below HT1.out.1.gi hx.out)⟩
        clear hx HT1
        have hS := HS.out _ HT2.out.1
        refine hK1.out _ _ hS (fun _ => ?_)
        clear hK1
        simp only [Act.put, List.setIfInBounds_toArray, List.set_cons_zero, List.set_cons_succ]
        refine takeR (i := 12) (v := .bool true) (some 83) rfl rfl (by kernel_rfl) (by kernel_rfl) (by kernel_rfl) (fun _ _ _ h => h) (Or.inl ⟨by kernel_rfl, fun w' hSw => by (rw [HLS.out.1]; exact eqL_run (ab := P9.a) (.tmp 77) (.tmp 82) rfl (by kernel_rfl) (by kernel_rfl) _)⟩) hS ?_
        simp only [Act.put, List.setIfInBounds_toArray, List.set_cons_zero, List.set_cons_succ]
        refine takeR (i := 13) (v := .bool true) (some 84) rfl rfl (by kernel_rfl) (by kernel_rfl) (by kernel_rfl) (fun _ _ _ h => h) (Or.inl ⟨by kernel_rfl, fun w' hSw => by kernel_rfl⟩) hS ?_
        simp only [Act.put, List.setIfInBounds_toArray, List.set_cons_zero, List.set_cons_succ]
        refine takeR (i := 14) (v := .bool true) (some 85) rfl rfl (by kernel_rfl) (by kernel_rfl) (by kernel_rfl) (fun _ _ _ h => h) (Or.inl ⟨by kernel_rfl, fun w' hSw => by kernel_rfl⟩) hS ?_
        simp only [Act.put, List.setIfInBounds_toArray, List.set_cons_zero, List.set_cons_succ]
        refine takeR (i := 15) (v := .pointer (some ⟨p, 0, none⟩)) (some 86) rfl rfl (by kernel_rfl) (by kernel_rfl) (by kernel_rfl) (fun _ _ _ h => h) (Or.inl ⟨by kernel_rfl, fun w' hSw => by kernel_rfl⟩) hS ?_
        simp only [Act.put, List.setIfInBounds_toArray, List.set_cons_zero, List.set_cons_succ]
        refine takeR (i := 16) (v := .pointer (some ⟨p, 0, none⟩)) (some 87) rfl rfl (by kernel_rfl) (by kernel_rfl) (by kernel_rfl) (fun _ _ _ h => h) (Or.inl ⟨by kernel_rfl, fun w' hSw => by kernel_rfl⟩) hS ?_
        simp only [Act.put, List.setIfInBounds_toArray, List.set_cons_zero, List.set_cons_succ]
        refine takeR (i := 17) (v := .pointer (some ⟨p, 0, none⟩)) (some 88) rfl rfl (by kernel_rfl) (by kernel_rfl) (by kernel_rfl) (fun _ _ _ h => h) (Or.inl ⟨by kernel_rfl, fun w' hSw => by kernel_rfl⟩) hS ?_
        simp only [Act.put, List.setIfInBounds_toArray, List.set_cons_zero, List.set_cons_succ]
        refine takeR (i := 18) (v := .pointer (some ⟨g9, 0, none⟩)) (some 89) rfl rfl (by kernel_rfl) (by kernel_rfl) (by kernel_rfl) (fun _ _ _ h => h) (Or.inl ⟨by kernel_rfl, fun w' hSw => by exact ldP_run (.inl rfl) (.tmp 88) rfl (by kernel_rfl) hSw.1⟩) hS ?_
        simp only [Act.put, List.setIfInBounds_toArray, List.set_cons_zero, List.set_cons_succ]
        refine takeR (i := 20) (v := .pointer (some ⟨p, 0, none⟩)) (some 91) rfl rfl (by kernel_rfl) (by kernel_rfl) (by kernel_rfl) (fun _ _ _ h => h) (Or.inl ⟨by kernel_rfl, fun w' hSw => by kernel_rfl⟩) hS ?_
        simp only [Act.put, List.setIfInBounds_toArray, List.set_cons_zero, List.set_cons_succ]
        refine takeR (i := 21) (v := .pointer (some ⟨p, 0, none⟩)) (some 92) rfl rfl (by kernel_rfl) (by kernel_rfl) (by kernel_rfl) (fun _ _ _ h => h) (Or.inl ⟨by kernel_rfl, fun w' hSw => by kernel_rfl⟩) hS ?_
        simp only [Act.put, List.setIfInBounds_toArray, List.set_cons_zero, List.set_cons_succ]
        refine takeR (i := 22) (v := .pointer (some ⟨p, 1, none⟩)) (some 93) rfl rfl (by kernel_rfl) (by kernel_rfl) (by kernel_rfl) (fun _ _ _ h => h) (Or.inl ⟨by kernel_rfl, fun w' hSw => by kernel_rfl⟩) hS ?_
        simp only [Act.put, List.setIfInBounds_toArray, List.set_cons_zero, List.set_cons_succ]
        refine takeR (i := 23) (v := .pointer (some ⟨r9, 0, none⟩)) (some 94) rfl rfl (by kernel_rfl) (by kernel_rfl) (by kernel_rfl) (fun _ _ _ h => h) (Or.inl ⟨by kernel_rfl, fun w' hSw => by exact ldP_run (.inr rfl) (.tmp 93) rfl (by kernel_rfl) hSw.2⟩) hS ?_
        simp only [Act.put, List.setIfInBounds_toArray, List.set_cons_zero, List.set_cons_succ]
        have hc1 : Calls Try.prog 13 #[.pointer (some ⟨g9, 0, none⟩)] V2 fun e w' => e = .returned (.int .i64 (nx9 : Int)) ∧ w' = V2 := by
          rw [HT.out.2.2.2.2.2.1, HLS.out.2]; exact Next_any HT2.out.1.ab
        refine wpAnyH_ready (rs := [19]) (by kernel_rfl) (by simp) ?_
        refine AllReadyH.cons rfl (fun K1 hK1 => ?_) AllReadyH.nil
        rw [if_pos (by kernel_rfl)]
        refine callR (d := some 90) rfl 13 #[.pointer (some ⟨g9, 0, none⟩)] (by kernel_rfl) hc1 ?_
        clear hc1
        rintro e V3 ⟨rfl, ev⟩
        replace ev := ev.symm
        subst ev
        refine ⟨_, rfl, ?_⟩
        refine hK1.out _ _ hS (fun _ => ?_)
        clear hK1
        simp only [Act.put, List.setIfInBounds_toArray, List.set_cons_zero, List.set_cons_succ]
        have hc1 : Calls Try.prog 35 #[.pointer (some ⟨r9, 0, none⟩)] V2 fun e w' => e = .returned (.int .i64 (nx9 : Int)) ∧ w' = V2 := by
          rw [HT.out.2.2.2.2.2.2, HLS.out.2, HT.out.1.rel.nx]; exact rNext_any HT2.out.1.rb
        refine wpAnyH_ready (rs := [24]) (by kernel_rfl) (by simp) ?_
        refine AllReadyH.cons rfl (fun K1 hK1 => ?_) AllReadyH.nil
        rw [if_pos (by kernel_rfl)]
        refine callR (d := some 95) rfl 35 #[.pointer (some ⟨r9, 0, none⟩)] (by kernel_rfl) hc1 ?_
        clear hc1
        rintro e V3 ⟨rfl, ev⟩
        replace ev := ev.symm
        subst ev
        refine ⟨_, rfl, ?_⟩
        refine hK1.out _ _ hS (fun _ => ?_)
        clear hK1
        simp only [Act.put, List.setIfInBounds_toArray, List.set_cons_zero, List.set_cons_succ]
        refine takeR (i := 25) (v := .bool true) (some 96) rfl rfl (by kernel_rfl) (by kernel_rfl) (by kernel_rfl) (fun _ _ _ h => h) (Or.inl ⟨by kernel_rfl, fun w' hSw => by exact eqN_run (p := nx9) (q := nx9) (.tmp 90) (.tmp 95) rfl (by kernel_rfl) (by kernel_rfl) (by simp) _⟩) hS ?_
        simp only [Act.put, List.setIfInBounds_toArray, List.set_cons_zero, List.set_cons_succ]
        refine takeR (i := 26) (v := .bool true) (some 97) rfl rfl (by kernel_rfl) (by kernel_rfl) (by kernel_rfl) (fun _ _ _ h => h) (Or.inl ⟨by kernel_rfl, fun w' hSw => by kernel_rfl⟩) hS ?_
        simp only [Act.put, List.setIfInBounds_toArray, List.set_cons_zero, List.set_cons_succ]
        refine takeR (i := 27) (v := .bool true) (some 4) rfl rfl (by kernel_rfl) (by kernel_rfl) (by kernel_rfl) (fun _ _ _ h => h) (Or.inl ⟨by kernel_rfl, fun w' hSw => by kernel_rfl⟩) hS ?_
        simp only [Act.put, List.setIfInBounds_toArray, List.set_cons_zero, List.set_cons_succ]
        refine wpAnyH_done (by kernel_rfl) ?_ _
        refine hK _ _ ?_
        clear hK hS
        have HE : Hid (StepR s G w P (N + 1) V2) := ⟨G9, P9, HT2.out.1, HT.out.2.2.1, HT2.out.2, HT.out.2.2.2.1⟩
        clear HT HT2 HS
        go_wp2
        go_ret
        exact ⟨rfl, HE.out⟩
end Go.Proofs.Ytdncemecnbglaaa
