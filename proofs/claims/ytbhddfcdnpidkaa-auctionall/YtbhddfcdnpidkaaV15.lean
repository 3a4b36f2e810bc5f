/-
  auction: who stands ahead of whom.
-/
import Derived.Test.YtbhddfcdnpidkaaV14
namespace Go.Proofs.Ytbhddfcdnpidkaa
set_option linter.unusedVariables false
set_option linter.unusedSimpArgs false
open Go.RowKit Go.Great

theorem cmpI_same (w : World) (a b : Int) : Calls Try.prog 54 #[.int .i64 a, .int .i64 b] w fun e w' => e = .returned (.int .i64 (cmpV a b)) ∧ w' = w := by
  by_cases h : a < b
  · go_enter Try.func54, Try.ntmps54
    go_wp2
    go_ret
    exact ⟨by unfold cmpV; simp; try omega, rfl⟩
  · by_cases h2 : b < a
    · go_enter Try.func54, Try.ntmps54
      go_wp2
      go_ret
      exact ⟨by unfold cmpV; simp; try omega, rfl⟩
    · go_enter Try.func54, Try.ntmps54
      go_wp2
      go_ret
      exact ⟨by unfold cmpV; simp; try omega, rfl⟩
theorem cmpN_same (w : World) (a b : Int) : Calls Try.prog 61 #[.int .i64 a, .int .i64 b] w fun e w' => e = .returned (.int .i64 (cmpV a b)) ∧ w' = w := by
  by_cases h : a < b
  · go_enter Try.func61, Try.ntmps61
    go_wp2
    go_ret
    exact ⟨by unfold cmpV; simp; try omega, rfl⟩
  · by_cases h2 : b < a
    · go_enter Try.func61, Try.ntmps61
      go_wp2
      go_ret
      exact ⟨by unfold cmpV; simp; try omega, rfl⟩
    · go_enter Try.func61, Try.ntmps61
      go_wp2
      go_ret
      exact ⟨by unfold cmpV; simp; try omega, rfl⟩
def cfW (s : Int) (a b : Wn) : Int := if a.m = b.m then (if s = 1 then orV (cmpV b.p a.p) (cmpV a.id b.id) else orV (cmpV a.p b.p) (cmpV a.id b.id)) else if a.m = true then -1 else 1
set_option maxRecDepth 100000 in
set_option maxHeartbeats 1000000 in
theorem ahead1_any (s : Int) (sb : Nat) (a b : Wn) (w : World) (hb : Blk w sb 3 #[.int .i64 s]) : Calls Try.prog 60 #[.agg a.cs, .agg b.cs, .pointer (some ⟨sb, 0, none⟩)] w fun e w' => e = .returned (.int .i64 (cfW s a b)) ∧ Hid (∃ q os', w' = Go.Sort.grow (w.drewN q) os') := by
  have HA : Hid (Blk ((w.alloc (.cells a.cs 69)).alloc (.cells b.cs 69)) w.heap.size 69 a.cs ∧ Blk ((w.alloc (.cells a.cs 69)).alloc (.cells b.cs 69)) (w.heap.size + 1) 69 b.cs ∧ Blk ((w.alloc (.cells a.cs 69)).alloc (.cells b.cs 69)) sb 3 #[.int .i64 s]) := ⟨(Blk.new _ _ _).alloc _, by have := Blk.new (w.alloc (.cells a.cs 69)) 69 b.cs; rwa [show (w.alloc (.cells a.cs 69)).heap.size = w.heap.size + 1 by simp] at this, (hb.alloc _).alloc _⟩
  have HG : Hid ((∃ q os', (w.alloc (.cells a.cs 69)).alloc (.cells b.cs 69) = Go.Sort.grow (w.drewN q) os') ∧ ∀ o, ∃ q os', ((w.alloc (.cells a.cs 69)).alloc (.cells b.cs 69)).drew.alloc o = Go.Sort.grow (w.drewN q) os') := ⟨⟨0, #[.cells a.cs 69, .cells b.cs 69], by
    rw [Go.Sort.alloc_eq_grow, Go.Sort.alloc_eq_grow, Go.Sort.grow_grow]; rfl⟩, fun o => ⟨1, #[.cells a.cs 69, .cells b.cs 69, o], by
    rw [Go.Sort.alloc_eq_grow, Go.Sort.alloc_eq_grow, Go.Sort.alloc_eq_grow, Go.Sort.grow_grow]
    show Go.Sort.grow (Go.Sort.grow w.drew _) _ = _
    rw [Go.Sort.grow_grow]; rfl⟩⟩
  obtain ⟨R, hR⟩ : ∃ R, R = cfW s a b := ⟨_, rfl⟩
  have HR0 : Hid (R = cfW s a b) := hR
  rw [← hR]
  clear hR hb
  go_enter Try.func60, Try.ntmps60
  go_upto_region 1 with fail
  generalize (w.alloc (.cells a.cs 69)).alloc (.cells b.cs 69) = W at *
  generalize w.heap.size + 1 = bb at *
  generalize w.heap.size = ba at *
  have p1 : W.cell? ⟨ba, 1, none⟩ = some (.bool a.m) := HA.out.1.cell 1
  have p2 : W.cell? ⟨bb, 1, none⟩ = some (.bool b.m) := HA.out.2.1.cell 1
  have p3 : W.cell? ⟨sb, 0, none⟩ = some (.int .i64 s) := HA.out.2.2.cell 0
  by_cases hm : a.m = b.m
  case neg =>
    have HR : Hid (R = if a.m = true then -1 else 1) := by
      show R = _
      rw [HR0.out]
      unfold cfW
      rw [if_neg hm]
    clear HR0 HA
    generalize a.m = am at *
    generalize b.m = bm at *
    have HE : Hid (∃ q os', W = Go.Sort.grow (w.drewN q) os') := HG.out.1
    clear HG
    cases am <;> cases bm
    · exact absurd rfl hm
    · go_wp2
      go_ret
      exact ⟨by rw [HR.out]; rfl, HE⟩
    · go_wp2
      go_ret
      exact ⟨by rw [HR.out]; rfl, HE⟩
    · exact absurd rfl hm
  case pos =>
  have hne : (a.m != b.m) = false := by rw [hm]; simp
  have HR1 : Hid (R = if s = 1 then orV (cmpV b.p a.p) (cmpV a.id b.id) else orV (cmpV a.p b.p) (cmpV a.id b.id)) := by
    show R = _
    rw [HR0.out]
    unfold cfW
    rw [if_pos hm]
  clear HR0
  rw [hm] at p1
  have hbb : (b.m != b.m) = false := by simp
  clear hne
  by_cases hs : s = 1
  · have hsb : (s == 1) = true := by simp [hs]
    have HR : Hid (R = orV (cmpV b.p a.p) (cmpV a.id b.id)) := by
      have := HR1.out
      rwa [if_pos hs] at this
    clear HR1
    have hc1 := fun W => cmpI_same W b.p a.p
    have hc2 := fun W => cmpN_same W a.id b.id
    generalize cmpV b.p a.p = i1 at *
    generalize cmpV a.id b.id = i2 at *
    subst hs
    go_upto_region 6 with fail
    clear p1 p2 p3 hm hbb hsb
    refine wp_region_held (S := fun w' => Blk w' ba 69 a.cs ∧ Blk w' bb 69 b.cs) (by kernel_rfl) ?_
    change wpAnyH _ _ _ _ _ _ _ _ (World.drew _)
    have hS : Blk W.drew ba 69 a.cs ∧ Blk W.drew bb 69 b.cs := ⟨HA.out.1.below ((Below.refl _ W).drew) HA.out.1.lt, HA.out.2.1.below ((Below.refl _ W).drew) HA.out.2.1.lt⟩
    generalize W.drew = Z at *
    refine takeR (i := 0) (v := .pointer (some ⟨bb, 2, none⟩)) (some 15) rfl rfl (by kernel_rfl) (by kernel_rfl) (by kernel_rfl) (fun _ _ _ h => h) (Or.inl ⟨by kernel_rfl, fun w' hSw => by kernel_rfl⟩) hS ?_
    simp only [Act.put, List.setIfInBounds_toArray, List.set_cons_zero, List.set_cons_succ]
    refine takeR (i := 1) (v := .int .i64 b.p) (some 16) rfl rfl (by kernel_rfl) (by kernel_rfl) (by kernel_rfl) (fun _ _ _ h => h) (Or.inl ⟨by kernel_rfl, fun w' hSw => by have q : w'.cell? ⟨bb, 2, none⟩ = some (.int .i64 b.p) := hSw.2.cell 2; clear hSw; go_simp⟩) hS ?_
    simp only [Act.put, List.setIfInBounds_toArray, List.set_cons_zero, List.set_cons_succ]
    refine takeR (i := 2) (v := .pointer (some ⟨ba, 2, none⟩)) (some 17) rfl rfl (by kernel_rfl) (by kernel_rfl) (by kernel_rfl) (fun _ _ _ h => h) (Or.inl ⟨by kernel_rfl, fun w' hSw => by kernel_rfl⟩) hS ?_
    simp only [Act.put, List.setIfInBounds_toArray, List.set_cons_zero, List.set_cons_succ]
    refine takeR (i := 3) (v := .int .i64 a.p) (some 18) rfl rfl (by kernel_rfl) (by kernel_rfl) (by kernel_rfl) (fun _ _ _ h => h) (Or.inl ⟨by kernel_rfl, fun w' hSw => by have q : w'.cell? ⟨ba, 2, none⟩ = some (.int .i64 a.p) := hSw.1.cell 2; clear hSw; go_simp⟩) hS ?_
    simp only [Act.put, List.setIfInBounds_toArray, List.set_cons_zero, List.set_cons_succ]
    refine takeR (i := 5) (v := .pointer (some ⟨ba, 0, none⟩)) (some 20) rfl rfl (by kernel_rfl) (by kernel_rfl) (by kernel_rfl) (fun _ _ _ h => h) (Or.inl ⟨by kernel_rfl, fun w' hSw => by kernel_rfl⟩) hS ?_
    simp only [Act.put, List.setIfInBounds_toArray, List.set_cons_zero, List.set_cons_succ]
    refine takeR (i := 6) (v := .int .i64 a.id) (some 21) rfl rfl (by kernel_rfl) (by kernel_rfl) (by kernel_rfl) (fun _ _ _ h => h) (Or.inl ⟨by kernel_rfl, fun w' hSw => by have q : w'.cell? ⟨ba, 0, none⟩ = some (.int .i64 a.id) := hSw.1.cell 0; clear hSw; go_simp⟩) hS ?_
    simp only [Act.put, List.setIfInBounds_toArray, List.set_cons_zero, List.set_cons_succ]
    refine takeR (i := 7) (v := .pointer (some ⟨bb, 0, none⟩)) (some 22) rfl rfl (by kernel_rfl) (by kernel_rfl) (by kernel_rfl) (fun _ _ _ h => h) (Or.inl ⟨by kernel_rfl, fun w' hSw => by kernel_rfl⟩) hS ?_
    simp only [Act.put, List.setIfInBounds_toArray, List.set_cons_zero, List.set_cons_succ]
    refine takeR (i := 8) (v := .int .i64 b.id) (some 23) rfl rfl (by kernel_rfl) (by kernel_rfl) (by kernel_rfl) (fun _ _ _ h => h) (Or.inl ⟨by kernel_rfl, fun w' hSw => by have q : w'.cell? ⟨bb, 0, none⟩ = some (.int .i64 b.id) := hSw.2.cell 0; clear hSw; go_simp⟩) hS ?_
    simp only [Act.put, List.setIfInBounds_toArray, List.set_cons_zero, List.set_cons_succ]
    refine wpAnyH_ready (rs := [4]) (by kernel_rfl) (by simp) ?_
    refine AllReadyH.cons rfl (fun K1 hK1 => ?_) AllReadyH.nil
    rw [if_pos (by kernel_rfl)]
    refine callR (d := some 19) rfl 54 #[.int .i64 b.p, .int .i64 a.p] (by kernel_rfl) (hc1 Z) ?_
    rintro e w7 ⟨rfl, ew⟩
    replace ew := ew.symm
    subst ew
    refine ⟨_, rfl, ?_⟩
    refine hK1.out _ _ hS (fun _ => ?_)
    clear hK1
    simp only [Act.put, List.setIfInBounds_toArray, List.set_cons_zero, List.set_cons_succ]
    refine wpAnyH_ready (rs := [9]) (by kernel_rfl) (by simp) ?_
    refine AllReadyH.cons rfl (fun K1 hK1 => ?_) AllReadyH.nil
    rw [if_pos (by kernel_rfl)]
    refine callR (d := some 24) rfl 61 #[.int .i64 a.id, .int .i64 b.id] (by kernel_rfl) (hc2 Z) ?_
    rintro e w7 ⟨rfl, ew⟩
    replace ew := ew.symm
    subst ew
    refine ⟨_, rfl, ?_⟩
    refine hK1.out _ _ hS (fun _ => ?_)
    clear hK1
    simp only [Act.put, List.setIfInBounds_toArray, List.set_cons_zero, List.set_cons_succ]
    refine wpAnyH_ready (rs := [10]) (by kernel_rfl) (by simp) ?_
    refine AllReadyH.cons rfl (fun K1 hK1 => ?_) AllReadyH.nil
    rw [if_pos (by kernel_rfl)]
    refine valR (d := some 25) rfl (.slice (some ⟨Z.heap.size, 0, none⟩) 2 2) (w' := Z.alloc (.cells #[.int .i64 i1, .int .i64 i2] 3)) (by kernel_rfl) ?_
    have hS2 : Blk (Z.alloc (.cells #[.int .i64 i1, .int .i64 i2] 3)) ba 69 a.cs ∧ Blk (Z.alloc (.cells #[.int .i64 i1, .int .i64 i2] 3)) bb 69 b.cs := ⟨hS.1.alloc _, hS.2.alloc _⟩
    refine hK1.out _ _ hS2 (fun _ => ?_)
    clear hK1
    simp only [Act.put, List.setIfInBounds_toArray, List.set_cons_zero, List.set_cons_succ]
    have HOr := Or_any (Blk.new Z 3 #[.int .i64 i1, .int .i64 i2])
    refine wpAnyH_ready (rs := [11]) (by kernel_rfl) (by simp) ?_
    refine AllReadyH.cons rfl (fun K1 hK1 => ?_) AllReadyH.nil
    rw [if_pos (by kernel_rfl)]
    refine callR (d := some 26) rfl 53 #[.slice (some ⟨Z.heap.size, 0, none⟩) 2 2] (by kernel_rfl) HOr ?_
    rintro e w7 ⟨rfl, ew⟩
    replace ew := ew.symm
    subst ew
    refine ⟨_, rfl, ?_⟩
    refine hK1.out _ _ hS2 (fun _ => ?_)
    clear hK1
    simp only [Act.put, List.setIfInBounds_toArray, List.set_cons_zero, List.set_cons_succ]
    rw [← HR.out]
    refine takeR (i := 12) (v := .int .i64 R) (some 5) rfl rfl (by kernel_rfl) (by kernel_rfl) (by kernel_rfl) (fun _ _ _ h => h) (Or.inl ⟨by kernel_rfl, fun w' hSw => by kernel_rfl⟩) hS2 ?_
    simp only [Act.put, List.setIfInBounds_toArray, List.set_cons_zero, List.set_cons_succ]
    refine wpAnyH_done (by kernel_rfl) ?_ _
    have HE : Hid (∃ q os', Z.alloc (.cells #[.int .i64 i1, .int .i64 i2] 3) = Go.Sort.grow (w.drewN q) os') := HG.out.2 (.cells #[.int .i64 i1, .int .i64 i2] 3)
    clear HG HOr hS hS2
    go_wp2
    go_ret
    exact ⟨rfl, HE⟩

  · have hsb : (s == 1) = false := by simp [hs]
    have HR : Hid (R = orV (cmpV a.p b.p) (cmpV a.id b.id)) := by
      have := HR1.out
      rwa [if_neg hs] at this
    clear HR1
    have hc1 := fun W => cmpI_same W a.p b.p
    have hc2 := fun W => cmpN_same W a.id b.id
    generalize cmpV a.p b.p = i1 at *
    generalize cmpV a.id b.id = i2 at *
    go_upto_region 7 with fail
    clear p1 p2 p3 hm hbb hsb hs
    refine wp_region_held (S := fun w' => Blk w' ba 69 a.cs ∧ Blk w' bb 69 b.cs) (by kernel_rfl) ?_
    change wpAnyH _ _ _ _ _ _ _ _ (World.drew _)
    have hS : Blk W.drew ba 69 a.cs ∧ Blk W.drew bb 69 b.cs := ⟨HA.out.1.below ((Below.refl _ W).drew) HA.out.1.lt, HA.out.2.1.below ((Below.refl _ W).drew) HA.out.2.1.lt⟩
    generalize W.drew = Z at *
    refine takeR (i := 0) (v := .pointer (some ⟨ba, 2, none⟩)) (some 27) rfl rfl (by kernel_rfl) (by kernel_rfl) (by kernel_rfl) (fun _ _ _ h => h) (Or.inl ⟨by kernel_rfl, fun w' hSw => by kernel_rfl⟩) hS ?_
    simp only [Act.put, List.setIfInBounds_toArray, List.set_cons_zero, List.set_cons_succ]
    refine takeR (i := 1) (v := .int .i64 a.p) (some 28) rfl rfl (by kernel_rfl) (by kernel_rfl) (by kernel_rfl) (fun _ _ _ h => h) (Or.inl ⟨by kernel_rfl, fun w' hSw => by have q : w'.cell? ⟨ba, 2, none⟩ = some (.int .i64 a.p) := hSw.1.cell 2; clear hSw; go_simp⟩) hS ?_
    simp only [Act.put, List.setIfInBounds_toArray, List.set_cons_zero, List.set_cons_succ]
    refine takeR (i := 2) (v := .pointer (some ⟨bb, 2, none⟩)) (some 29) rfl rfl (by kernel_rfl) (by kernel_rfl) (by kernel_rfl) (fun _ _ _ h => h) (Or.inl ⟨by kernel_rfl, fun w' hSw => by kernel_rfl⟩) hS ?_
    simp only [Act.put, List.setIfInBounds_toArray, List.set_cons_zero, List.set_cons_succ]
    refine takeR (i := 3) (v := .int .i64 b.p) (some 30) rfl rfl (by kernel_rfl) (by kernel_rfl) (by kernel_rfl) (fun _ _ _ h => h) (Or.inl ⟨by kernel_rfl, fun w' hSw => by have q : w'.cell? ⟨bb, 2, none⟩ = some (.int .i64 b.p) := hSw.2.cell 2; clear hSw; go_simp⟩) hS ?_
    simp only [Act.put, List.setIfInBounds_toArray, List.set_cons_zero, List.set_cons_succ]
    refine takeR (i := 5) (v := .pointer (some ⟨ba, 0, none⟩)) (some 32) rfl rfl (by kernel_rfl) (by kernel_rfl) (by kernel_rfl) (fun _ _ _ h => h) (Or.inl ⟨by kernel_rfl, fun w' hSw => by kernel_rfl⟩) hS ?_
    simp only [Act.put, List.setIfInBounds_toArray, List.set_cons_zero, List.set_cons_succ]
    refine takeR (i := 6) (v := .int .i64 a.id) (some 33) rfl rfl (by kernel_rfl) (by kernel_rfl) (by kernel_rfl) (fun _ _ _ h => h) (Or.inl ⟨by kernel_rfl, fun w' hSw => by have q : w'.cell? ⟨ba, 0, none⟩ = some (.int .i64 a.id) := hSw.1.cell 0; clear hSw; go_simp⟩) hS ?_
    simp only [Act.put, List.setIfInBounds_toArray, List.set_cons_zero, List.set_cons_succ]
    refine takeR (i := 7) (v := .pointer (some ⟨bb, 0, none⟩)) (some 34) rfl rfl (by kernel_rfl) (by kernel_rfl) (by kernel_rfl) (fun _ _ _ h => h) (Or.inl ⟨by kernel_rfl, fun w' hSw => by kernel_rfl⟩) hS ?_
    simp only [Act.put, List.setIfInBounds_toArray, List.set_cons_zero, List.set_cons_succ]
    refine takeR (i := 8) (v := .int .i64 b.id) (some 35) rfl rfl (by kernel_rfl) (by kernel_rfl) (by kernel_rfl) (fun _ _ _ h => h) (Or.inl ⟨by kernel_rfl, fun w' hSw => by have q : w'.cell? ⟨bb, 0, none⟩ = some (.int .i64 b.id) := hSw.2.cell 0; clear hSw; go_simp⟩) hS ?_
    simp only [Act.put, List.setIfInBounds_toArray, List.set_cons_zero, List.set_cons_succ]
    refine wpAnyH_ready (rs := [4]) (by kernel_rfl) (by simp) ?_
    refine AllReadyH.cons rfl (fun K1 hK1 => ?_) AllReadyH.nil
    rw [if_pos (by kernel_rfl)]
    refine callR (d := some 31) rfl 54 #[.int .i64 a.p, .int .i64 b.p] (by kernel_rfl) (hc1 Z) ?_
    rintro e w7 ⟨rfl, ew⟩
    replace ew := ew.symm
    subst ew
    refine ⟨_, rfl, ?_⟩
    refine hK1.out _ _ hS (fun _ => ?_)
    clear hK1
    simp only [Act.put, List.setIfInBounds_toArray, List.set_cons_zero, List.set_cons_succ]
    refine wpAnyH_ready (rs := [9]) (by kernel_rfl) (by simp) ?_
    refine AllReadyH.cons rfl (fun K1 hK1 => ?_) AllReadyH.nil
    rw [if_pos (by kernel_rfl)]
    refine callR (d := some 36) rfl 61 #[.int .i64 a.id, .int .i64 b.id] (by kernel_rfl) (hc2 Z) ?_
    rintro e w7 ⟨rfl, ew⟩
    replace ew := ew.symm
    subst ew
    refine ⟨_, rfl, ?_⟩
    refine hK1.out _ _ hS (fun _ => ?_)
    clear hK1
    simp only [Act.put, List.setIfInBounds_toArray, List.set_cons_zero, List.set_cons_succ]
    refine wpAnyH_ready (rs := [10]) (by kernel_rfl) (by simp) ?_
    refine AllReadyH.cons rfl (fun K1 hK1 => ?_) AllReadyH.nil
    rw [if_pos (by kernel_rfl)]
    refine valR (d := some 37) rfl (.slice (some ⟨Z.heap.size, 0, none⟩) 2 2) (w' := Z.alloc (.cells #[.int .i64 i1, .int .i64 i2] 3)) (by kernel_rfl) ?_
    have hS2 : Blk (Z.alloc (.cells #[.int .i64 i1, .int .i64 i2] 3)) ba 69 a.cs ∧ Blk (Z.alloc (.cells #[.int .i64 i1, .int .i64 i2] 3)) bb 69 b.cs := ⟨hS.1.alloc _, hS.2.alloc _⟩
    refine hK1.out _ _ hS2 (fun _ => ?_)
    clear hK1
    simp only [Act.put, List.setIfInBounds_toArray, List.set_cons_zero, List.set_cons_succ]
    have HOr := Or_any (Blk.new Z 3 #[.int .i64 i1, .int .i64 i2])
    refine wpAnyH_ready (rs := [11]) (by kernel_rfl) (by simp) ?_
    refine AllReadyH.cons rfl (fun K1 hK1 => ?_) AllReadyH.nil
    rw [if_pos (by kernel_rfl)]
    refine callR (d := some 38) rfl 53 #[.slice (some ⟨Z.heap.size, 0, none⟩) 2 2] (by kernel_rfl) HOr ?_
    rintro e w7 ⟨rfl, ew⟩
    replace ew := ew.symm
    subst ew
    refine ⟨_, rfl, ?_⟩
    refine hK1.out _ _ hS2 (fun _ => ?_)
    clear hK1
    simp only [Act.put, List.setIfInBounds_toArray, List.set_cons_zero, List.set_cons_succ]
    rw [← HR.out]
    refine takeR (i := 12) (v := .int .i64 R) (some 5) rfl rfl (by kernel_rfl) (by kernel_rfl) (by kernel_rfl) (fun _ _ _ h => h) (Or.inl ⟨by kernel_rfl, fun w' hSw => by kernel_rfl⟩) hS2 ?_
    simp only [Act.put, List.setIfInBounds_toArray, List.set_cons_zero, List.set_cons_succ]
    refine wpAnyH_done (by kernel_rfl) ?_ _
    have HE : Hid (∃ q os', Z.alloc (.cells #[.int .i64 i1, .int .i64 i2] 3) = Go.Sort.grow (w.drewN q) os') := HG.out.2 (.cells #[.int .i64 i1, .int .i64 i2] 3)
    clear HG HOr hS hS2
    go_wp2
    go_ret
    exact ⟨rfl, HE⟩

end Go.Proofs.Ytbhddfcdnpidkaa
