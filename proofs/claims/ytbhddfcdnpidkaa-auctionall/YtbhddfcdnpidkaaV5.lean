/-
  auction: which of two points is better.
-/
import Derived.Test.YtbhddfcdnpidkaaV4
namespace Go.Proofs.Ytbhddfcdnpidkaa
set_option linter.unusedVariables false
set_option linter.unusedSimpArgs false
open Go.RowKit Go.Great

def orV (i j : Int) : Int := if i = 0 then j else i
set_option maxRecDepth 100000 in
theorem Or_any {w : World} {g : Nat} {i j : Int} (h : Blk w g 3 #[.int .i64 i, .int .i64 j]) : Calls Try.prog 53 #[.slice (some ⟨g, 0, none⟩) 2 2] w fun e w' => e = .returned (.int .i64 (orV i j)) ∧ w' = w := by
  have q0 : w.cell? ⟨g, 0, none⟩ = some (.int .i64 i) := h.cell 0
  have q1 : w.cell? ⟨g, 1, none⟩ = some (.int .i64 j) := h.cell 1
  clear h
  obtain ⟨R, hR⟩ : ∃ R, R = orV i j := ⟨_, rfl⟩
  have HR : Hid (R = orV i j) := hR
  rw [← hR]
  clear hR
  go_enter Try.func53, Try.ntmps53
  go_upto_region 3 with fail
  go_loopw [5, 8] (fun _ x8 wr => ∃ k : Nat, k ≤ 2 ∧ x8 = .int .i64 (k : Int) ∧ wr = w ∧ (1 ≤ k → i = 0) ∧ (2 ≤ k → j = 0)) (fun _ x8 _ => 2 - (RowKit.intOf x8).toNat)
  case atStart => exact ⟨0, by omega, rfl, rfl, by omega, by omega⟩
  case round =>
    obtain ⟨k, hk, rfl, hw, h1, h2⟩ := hrel
    subst hw
    obtain rfl | rfl | rfl : k = 0 ∨ k = 1 ∨ k = 2 := by omega
    · clear h1 h2
      by_cases hi : i = 0
      · have e : (i != 0) = false := by simp [hi]
        go_wp2
        exact ⟨⟨1, by omega, by first | rfl | trivial, by first | rfl | trivial, by first | exact fun _ => hi | (intros; first | exact hi | rfl | trivial), by first | omega | (intro h; omega) | trivial⟩, by simp [RowKit.intOf]⟩
      · have e : (i != 0) = true := by simp [hi]
        go_wp2
        go_ret
        exact ⟨by rw [HR.out]; unfold orV; simp [hi], rfl⟩
    · have hi := h1 (by omega)
      clear h1 h2 q0
      by_cases hj : j = 0
      · have e : (j != 0) = false := by simp [hj]
        go_wp2
        exact ⟨⟨2, by omega, by first | rfl | trivial, by first | rfl | trivial, by first | exact fun _ => hi | (intros; first | exact hi | rfl | trivial), by first | exact fun _ => hj | (intros; first | exact hj | rfl | trivial)⟩, by simp [RowKit.intOf]⟩
      · have e : (j != 0) = true := by simp [hj]
        go_wp2
        go_ret
        exact ⟨by rw [HR.out]; unfold orV; simp [hi], rfl⟩
    · have hi := h1 (by omega)
      have hj := h2 (by omega)
      clear h1 h2 q0 q1
      have e : R = 0 := by rw [HR.out]; unfold orV; simp [hi, hj]
      clear hi hj HR
      subst e
      go_wp2
      go_ret
      exact ⟨rfl, rfl⟩
set_option maxRecDepth 100000 in
set_option maxHeartbeats 1000000 in
theorem better_any (w : World) (a b : Pt) (ha : 0 ≤ a.x ∧ a.x ≤ 5000000000000000000) (ha' : 0 ≤ a.y ∧ a.y ≤ 5000000000000000000) (hb : 0 ≤ b.x ∧ b.x ≤ 5000000000000000000) (hb' : 0 ≤ b.y ∧ b.y ≤ 5000000000000000000) : Calls Try.prog 43 #[.agg a.cs, .agg b.cs] w fun e w' => e = .returned (.int .i64 (orV (cmpV b.tr a.tr) (cmpV a.ov b.ov))) ∧ Below w.heap.size w w' := by
  have hta : ∀ W, Calls Try.prog 28 #[.agg a.cs] W fun e w' => e = .returned (.int .i64 a.tr) ∧ Below W.heap.size W w' := fun W => traded_any W a
  have htb : ∀ W, Calls Try.prog 28 #[.agg b.cs] W fun e w' => e = .returned (.int .i64 b.tr) ∧ Below W.heap.size W w' := fun W => traded_any W b
  have hoa : ∀ W, Calls Try.prog 29 #[.agg a.cs] W fun e w' => e = .returned (.int .i64 a.ov) ∧ Below W.heap.size W w' := fun W => over_any W a ha ha'
  have hob : ∀ W, Calls Try.prog 29 #[.agg b.cs] W fun e w' => e = .returned (.int .i64 b.ov) ∧ Below W.heap.size W w' := fun W => over_any W b hb hb'
  clear ha ha' hb hb'
  generalize a.tr = ta at *
  generalize b.tr = tb at *
  generalize a.ov = oa at *
  generalize b.ov = ob at *
  have hc1 := fun W => cmpI_any W tb ta
  have hc2 := fun W => cmpI_any W oa ob
  generalize cmpV tb ta = i1 at *
  generalize cmpV oa ob = i2 at *
  have hA : a.cs.size = 3 := rfl
  have hB : b.cs.size = 3 := rfl
  generalize a.cs = A at *
  generalize b.cs = B at *
  have hbw : Below w.heap.size w ((w.alloc (.cells A 61)).alloc (.cells B 61)) := ((Below.refl _ w).alloc (Nat.le_refl _) _).alloc (by simp) _
  have H0 : Hid (Below w.heap.size w ((w.alloc (.cells A 61)).alloc (.cells B 61)) ∧ Blk ((w.alloc (.cells A 61)).alloc (.cells B 61)) w.heap.size 61 A ∧ Blk ((w.alloc (.cells A 61)).alloc (.cells B 61)) (w.alloc (.cells A 61)).heap.size 61 B) := ⟨hbw, (Blk.new w _ _).alloc _, Blk.new _ _ _⟩
  clear hbw
  go_enter Try.func43, Try.ntmps43
  go_upto_region 0 with fail
  rename_i K hK
  refine wp_region_lit ?_
  refine wpList_runTo rfl (some 2) rfl (.pointer (some ⟨w.heap.size, 0, none⟩)) (w.alloc (.cells A 61)) (by kernel_rfl) ?_
  simp only [Act.put, List.setIfInBounds_toArray, List.set_cons_zero, List.set_cons_succ]
  refine wpList_runTo rfl (some 3) rfl (.pointer (some ⟨(w.alloc (.cells A 61)).heap.size, 0, none⟩)) ((w.alloc (.cells A 61)).alloc (.cells B 61)) (by kernel_rfl) ?_
  simp only [Act.put, List.setIfInBounds_toArray, List.set_cons_zero, List.set_cons_succ]
  refine wpList_runTo rfl (some 4) rfl (.int .i64 0) ((w.alloc (.cells A 61)).alloc (.cells B 61)) (by kernel_rfl) ?_
  simp only [Act.put, List.setIfInBounds_toArray, List.set_cons_zero, List.set_cons_succ]
  refine wpList_nil ?_
  refine hK _ _ ?_
  clear hK
  obtain ⟨w1, hw1⟩ : ∃ w1, w1 = (w.alloc (.cells A 61)).alloc (.cells B 61) := ⟨_, rfl⟩
  obtain ⟨ba, hba⟩ : ∃ ba, ba = w.heap.size := ⟨_, rfl⟩
  obtain ⟨bb, hbb⟩ : ∃ bb, bb = (w.alloc (.cells A 61)).heap.size := ⟨_, rfl⟩
  have H1 : Hid (Below w.heap.size w w1 ∧ Blk w1 ba 61 A ∧ Blk w1 bb 61 B) := by rw [hw1, hba, hbb]; exact H0.out
  rw [← hw1, ← hba, ← hbb]
  clear H0 hw1 hba hbb
  go_upto_region 1 with fail
  refine wp_region_held (S := fun w' => Blk w' ba 61 A ∧ Blk w' bb 61 B) (by kernel_rfl) ?_
  change wpAnyH _ _ _ _ _ _ _ _ (World.drew _)
  have hd : Below w1.heap.size w1 w1.drew := (Below.refl _ w1).drew
  have hS : Blk w1.drew ba 61 A ∧ Blk w1.drew bb 61 B := ⟨H1.out.2.1.below hd H1.out.2.1.lt, H1.out.2.2.below hd H1.out.2.2.lt⟩
  have HX : Hid (Below w.heap.size w w1.drew) := below_step H1.out.1 hd
  clear H1 hd
  generalize w1.drew = Z at *
  refine takeR (i := 0) (v := .agg B) (some 5) rfl rfl (by kernel_rfl) (by kernel_rfl) (by kernel_rfl) (fun _ _ _ h => h) (Or.inl ⟨by kernel_rfl, fun w' hSw => by exact ldA_run (fun z u hu => by rw [Nat.zero_add, hSw.2.cell]; simpa using hu) Try.underlying61 rfl (by rw [hB]; exact infoP) (.tmp 3) rfl (by kernel_rfl)⟩) hS ?_
  simp only [Act.put, List.setIfInBounds_toArray, List.set_cons_zero, List.set_cons_succ]
  refine takeR (i := 2) (v := .agg A) (some 7) rfl rfl (by kernel_rfl) (by kernel_rfl) (by kernel_rfl) (fun _ _ _ h => h) (Or.inl ⟨by kernel_rfl, fun w' hSw => by exact ldA_run (fun z u hu => by rw [Nat.zero_add, hSw.1.cell]; simpa using hu) Try.underlying61 rfl (by rw [hA]; exact infoP) (.tmp 2) rfl (by kernel_rfl)⟩) hS ?_
  simp only [Act.put, List.setIfInBounds_toArray, List.set_cons_zero, List.set_cons_succ]
  refine takeR (i := 5) (v := .agg A) (some 10) rfl rfl (by kernel_rfl) (by kernel_rfl) (by kernel_rfl) (fun _ _ _ h => h) (Or.inl ⟨by kernel_rfl, fun w' hSw => by exact ldA_run (fun z u hu => by rw [Nat.zero_add, hSw.1.cell]; simpa using hu) Try.underlying61 rfl (by rw [hA]; exact infoP) (.tmp 2) rfl (by kernel_rfl)⟩) hS ?_
  simp only [Act.put, List.setIfInBounds_toArray, List.set_cons_zero, List.set_cons_succ]
  refine takeR (i := 7) (v := .agg B) (some 12) rfl rfl (by kernel_rfl) (by kernel_rfl) (by kernel_rfl) (fun _ _ _ h => h) (Or.inl ⟨by kernel_rfl, fun w' hSw => by exact ldA_run (fun z u hu => by rw [Nat.zero_add, hSw.2.cell]; simpa using hu) Try.underlying61 rfl (by rw [hB]; exact infoP) (.tmp 3) rfl (by kernel_rfl)⟩) hS ?_
  simp only [Act.put, List.setIfInBounds_toArray, List.set_cons_zero, List.set_cons_succ]
  refine wpAnyH_ready (rs := [1]) (by kernel_rfl) (by simp) ?_
  refine AllReadyH.cons rfl (fun K1 hK1 => ?_) AllReadyH.nil
  rw [if_pos (by kernel_rfl)]
  refine callR (d := some 6) rfl 28 #[.agg B] (by kernel_rfl) (htb Z) ?_
  rintro e Y1 ⟨rfl, hb⟩
  refine ⟨_, rfl, ?_⟩
  have hS1 : Blk Y1 ba 61 A ∧ Blk Y1 bb 61 B := ⟨hS.1.below hb hS.1.lt, hS.2.below hb hS.2.lt⟩
  have HX1 : Hid (Below w.heap.size w Y1) := below_step HX.out hb
  clear hb
  refine hK1.out _ _ hS1 (fun _ => ?_)
  clear hK1
  simp only [Act.put, List.setIfInBounds_toArray, List.set_cons_zero, List.set_cons_succ]
  refine wpAnyH_ready (rs := [3]) (by kernel_rfl) (by simp) ?_
  refine AllReadyH.cons rfl (fun K1 hK1 => ?_) AllReadyH.nil
  rw [if_pos (by kernel_rfl)]
  refine callR (d := some 8) rfl 28 #[.agg A] (by kernel_rfl) (hta Y1) ?_
  rintro e Y2 ⟨rfl, hb⟩
  refine ⟨_, rfl, ?_⟩
  have hS2 : Blk Y2 ba 61 A ∧ Blk Y2 bb 61 B := ⟨hS1.1.below hb hS1.1.lt, hS1.2.below hb hS1.2.lt⟩
  have HX2 : Hid (Below w.heap.size w Y2) := below_step HX1.out hb
  clear hb
  refine hK1.out _ _ hS2 (fun _ => ?_)
  clear hK1
  simp only [Act.put, List.setIfInBounds_toArray, List.set_cons_zero, List.set_cons_succ]
  refine wpAnyH_ready (rs := [4]) (by kernel_rfl) (by simp) ?_
  refine AllReadyH.cons rfl (fun K1 hK1 => ?_) AllReadyH.nil
  rw [if_pos (by kernel_rfl)]
  refine callR (d := some 9) rfl 54 #[.int .i64 tb, .int .i64 ta] (by kernel_rfl) (hc1 Y2) ?_
  rintro e Y3 ⟨rfl, hb⟩
  refine ⟨_, rfl, ?_⟩
  have hS3 : Blk Y3 ba 61 A ∧ Blk Y3 bb 61 B := ⟨hS2.1.below hb hS2.1.lt, hS2.2.below hb hS2.2.lt⟩
  have HX3 : Hid (Below w.heap.size w Y3) := below_step HX2.out hb
  clear hb
  refine hK1.out _ _ hS3 (fun _ => ?_)
  clear hK1
  simp only [Act.put, List.setIfInBounds_toArray, List.set_cons_zero, List.set_cons_succ]
  refine wpAnyH_ready (rs := [6]) (by kernel_rfl) (by simp) ?_
  refine AllReadyH.cons rfl (fun K1 hK1 => ?_) AllReadyH.nil
  rw [if_pos (by kernel_rfl)]
  refine callR (d := some 11) rfl 29 #[.agg A] (by kernel_rfl) (hoa Y3) ?_
  rintro e Y4 ⟨rfl, hb⟩
  refine ⟨_, rfl, ?_⟩
  have hS4 : Blk Y4 ba 61 A ∧ Blk Y4 bb 61 B := ⟨hS3.1.below hb hS3.1.lt, hS3.2.below hb hS3.2.lt⟩
  have HX4 : Hid (Below w.heap.size w Y4) := below_step HX3.out hb
  clear hb
  refine hK1.out _ _ hS4 (fun _ => ?_)
  clear hK1
  simp only [Act.put, List.setIfInBounds_toArray, List.set_cons_zero, List.set_cons_succ]
  refine wpAnyH_ready (rs := [8]) (by kernel_rfl) (by simp) ?_
  refine AllReadyH.cons rfl (fun K1 hK1 => ?_) AllReadyH.nil
  rw [if_pos (by kernel_rfl)]
  refine callR (d := some 13) rfl 29 #[.agg B] (by kernel_rfl) (hob Y4) ?_
  rintro e Y5 ⟨rfl, hb⟩
  refine ⟨_, rfl, ?_⟩
  have hS5 : Blk Y5 ba 61 A ∧ Blk Y5 bb 61 B := ⟨hS4.1.below hb hS4.1.lt, hS4.2.below hb hS4.2.lt⟩
  have HX5 : Hid (Below w.heap.size w Y5) := below_step HX4.out hb
  clear hb
  refine hK1.out _ _ hS5 (fun _ => ?_)
  clear hK1
  simp only [Act.put, List.setIfInBounds_toArray, List.set_cons_zero, List.set_cons_succ]
  refine wpAnyH_ready (rs := [9]) (by kernel_rfl) (by simp) ?_
  refine AllReadyH.cons rfl (fun K1 hK1 => ?_) AllReadyH.nil
  rw [if_pos (by kernel_rfl)]
  refine callR (d := some 14) rfl 54 #[.int .i64 oa, .int .i64 ob] (by kernel_rfl) (hc2 Y5) ?_
  rintro e Y6 ⟨rfl, hb⟩
  refine ⟨_, rfl, ?_⟩
  have hS6 : Blk Y6 ba 61 A ∧ Blk Y6 bb 61 B := ⟨hS5.1.below hb hS5.1.lt, hS5.2.below hb hS5.2.lt⟩
  have HX6 : Hid (Below w.heap.size w Y6) := below_step HX5.out hb
  clear hb
  refine hK1.out _ _ hS6 (fun _ => ?_)
  clear hK1
  simp only [Act.put, List.setIfInBounds_toArray, List.set_cons_zero, List.set_cons_succ]
  refine wpAnyH_ready (rs := [10]) (by kernel_rfl) (by simp) ?_
  refine AllReadyH.cons rfl (fun K1 hK1 => ?_) AllReadyH.nil
  rw [if_pos (by kernel_rfl)]
  refine valR (d := some 15) (v := .slice (some ⟨Y6.heap.size, 0, none⟩) 2 2) (w' := Y6.alloc (.cells #[.int .i64 i1, .int .i64 i2] 3)) rfl (by kernel_rfl) ?_
  have hal : Below Y6.heap.size Y6 (Y6.alloc (.cells #[.int .i64 i1, .int .i64 i2] 3)) := (Below.refl _ Y6).alloc (Nat.le_refl _) _
  have hS7 : Blk (Y6.alloc (.cells #[.int .i64 i1, .int .i64 i2] 3)) ba 61 A ∧ Blk (Y6.alloc (.cells #[.int .i64 i1, .int .i64 i2] 3)) bb 61 B := ⟨hS6.1.below hal hS6.1.lt, hS6.2.below hal hS6.2.lt⟩
  have HX7 : Hid (Below w.heap.size w (Y6.alloc (.cells #[.int .i64 i1, .int .i64 i2] 3))) := below_step HX6.out hal
  have hor := Or_any (Blk.new Y6 3 #[.int .i64 i1, .int .i64 i2])
  refine hK1.out _ _ hS7 (fun _ => ?_)
  clear hK1 hal
  simp only [Act.put, List.setIfInBounds_toArray, List.set_cons_zero, List.set_cons_succ]
  generalize Y6.alloc (.cells #[.int .i64 i1, .int .i64 i2] 3) = Y7 at *
  generalize Y6.heap.size = gb at *
  refine wpAnyH_ready (rs := [11]) (by kernel_rfl) (by simp) ?_
  refine AllReadyH.cons rfl (fun K1 hK1 => ?_) AllReadyH.nil
  rw [if_pos (by kernel_rfl)]
  refine callR (d := some 16) rfl 53 #[.slice (some ⟨gb, 0, none⟩) 2 2] (by kernel_rfl) hor ?_
  rintro e Y8 ⟨rfl, ew⟩
  replace ew := ew.symm
  subst ew
  refine ⟨_, rfl, ?_⟩
  refine hK1.out _ _ hS7 (fun _ => ?_)
  clear hK1
  simp only [Act.put, List.setIfInBounds_toArray, List.set_cons_zero, List.set_cons_succ]
  refine takeR (i := 12) (v := .int .i64 (orV i1 i2)) (some 4) rfl rfl (by kernel_rfl) (by kernel_rfl) (by kernel_rfl) (fun _ _ _ h => h) (Or.inl ⟨by kernel_rfl, fun w' hSw => by kernel_rfl⟩) hS7 ?_
  simp only [Act.put, List.setIfInBounds_toArray, List.set_cons_zero, List.set_cons_succ]
  refine wpAnyH_done (by kernel_rfl) ?_ _
  clear hS hS1 hS2 hS3 hS4 hS5 hS6 hS7 HX HX1 HX2 HX3 HX4 HX5 HX6 hor hta htb hoa hob hc1 hc2
  go_wp2
  go_ret
  exact ⟨rfl, HX7.out⟩
end Go.Proofs.Ytbhddfcdnpidkaa
