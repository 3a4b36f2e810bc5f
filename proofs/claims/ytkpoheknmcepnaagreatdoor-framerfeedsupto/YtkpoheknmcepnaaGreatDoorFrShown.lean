/-
  framer's law: shown.
-/
import Derived.Test.YtkpoheknmcepnaaGreatDoorFrD
namespace Go.Proofs.YtkpoheknmcepnaaGreatDoor
set_option linter.unusedVariables false
set_option linter.unusedSimpArgs false
open Go.RowKit Go.Great Go.Shelf

set_option maxRecDepth 100000 in
set_option maxHeartbeats 4000000 in
theorem shown_any (w : World) (hM : Mon w) (hP : Pow w) : Calls Tryz.prog 7 #[] w fun e w' => e = .returned (.bool true) ∧ Below w.heap.size w w' := by
  have HM : Hid (Mon w ∧ Pow w) := ⟨hM, hP⟩
  clear hM hP
  go_enter Tryz.func7, Tryz.ntmps7
  go_wp2_with (go_at_call 8; fail)
  refine (New_text _).mono ?_
  rintro e w1 ⟨rfl, rfl⟩
  go_wp2_with (go_at_call 8; fail)
  refine (New_bin _).mono ?_
  rintro e w1 ⟨rfl, rfl⟩
  go_wp2_with (go_at_call 8; fail)
  refine (New_three _).mono ?_
  rintro e w1 ⟨rfl, rfl⟩
  go_wp2_with (go_at_call 8; fail)
  refine (New_zero _).mono ?_
  rintro e w1 ⟨rfl, rfl⟩
  have hsz : ((w.alloc (newF 19)).alloc (newF 20)).heap.size = w.heap.size + 2 := by simp
  have hf1 : ((w.alloc (newF 19)).alloc (newF 20)).heap[w.heap.size]? = some (newF 19) := (Below.heap_alloc (w.alloc (newF 19)) _ _ (by simp)).trans (heap_alloc_new w _)
  have hf2 : ((w.alloc (newF 19)).alloc (newF 20)).heap[w.heap.size + 1]? = some (newF 20) := by have := heap_alloc_new (w.alloc (newF 19)) (newF 20); rwa [World.size_alloc] at this
  have hF2 : Fr w ((w.alloc (newF 19)).alloc (newF 20)) (fun _ => False) := (Fr.alloc _ _ (fun _ => False)).trans (Fr.alloc _ _ (fun _ => False)) fun _ _ q => q.elim id id
  simp only [World.size_alloc]
  generalize (w.alloc (newF 19)).alloc (newF 20) = w2 at *
  have H2 : Hid (w2.heap.size = w.heap.size + 2 ∧ w2.heap[w.heap.size]? = some (newF 19) ∧ w2.heap[w.heap.size + 1]? = some (newF 20) ∧ Fr w w2 (fun _ => False)) := ⟨hsz, hf1, hf2, hF2⟩
  clear hsz hf1 hf2 hF2
  go_upto_region 7 with fail
  rename_i Kc hKc
  refine wp_region_lit ?_
  have hcv3 := Lib.run_convert_bytes_const (P := Tryz.prog) w2 22 5 (Lib.byteCells exT).toArray 37 37 Tryz.underlying22 Tryz.underlying5
  have hO3 : LSrc (w2.alloc (.cells (Lib.byteCells exT).toArray 5 ((Lib.byteCells exT).toArray.size, (Lib.byteCells exT).toArray.size + 1))) (some ⟨w2.heap.size, 0, none⟩) exT := lsrc_of_cells (heap_alloc_new w2 _)
  have hF3 : Fr w2 (w2.alloc (.cells (Lib.byteCells exT).toArray 5 ((Lib.byteCells exT).toArray.size, (Lib.byteCells exT).toArray.size + 1))) (fun _ => False) := Fr.alloc _ _ _
  have hz3 : (w2.alloc (.cells (Lib.byteCells exT).toArray 5 ((Lib.byteCells exT).toArray.size, (Lib.byteCells exT).toArray.size + 1))).heap.size = w2.heap.size + 1 := by simp
  refine wpList_runTo rfl (some 59) rfl (.pointer (some ⟨w.heap.size, 0, none⟩)) w2 (by kernel_rfl) ?_
  simp only [Act.put, List.setIfInBounds_toArray, List.set_cons_zero, List.set_cons_succ]
  refine wpList_runTo rfl (some 60) rfl (.slice (some ⟨w2.heap.size, 0, none⟩) 37 37) (w2.alloc (.cells (Lib.byteCells exT).toArray 5)) (by kernel_rfl) ?_
  simp only [Act.put, List.setIfInBounds_toArray, List.set_cons_zero, List.set_cons_succ]
  generalize w2.alloc (.cells (Lib.byteCells exT).toArray 5 ((Lib.byteCells exT).toArray.size, (Lib.byteCells exT).toArray.size + 1)) = w3 at *
  have H3 : Hid (LSrc w3 (some ⟨w2.heap.size, 0, none⟩) exT ∧ Fr w2 w3 (fun _ => False) ∧ w3.heap.size = w2.heap.size + 1) := ⟨hO3, hF3, hz3⟩
  clear hO3 hF3 hz3
  refine wpList_runTo rfl (some 61) rfl (.slice (some ⟨w2.heap.size, 0, none⟩) 37 37) w3 (by exact exec_convert (.tmp 60) rfl (by kernel_rfl) hcv3) ?_
  simp only [Act.put, List.setIfInBounds_toArray, List.set_cons_zero, List.set_cons_succ]
  clear hcv3
  have hF03 : Fr w w3 (fun _ => False) := H2.out.2.2.2.trans H3.out.2.1 fun _ _ q => q.elim id id
  have hB3 : Below w.heap.size w w3 := hF03.below (Nat.le_refl _) fun _ _ q => q
  have hp3 : w3.heap[w.heap.size]? = some (newF 19) := (H3.out.2.1.block _ (by have := H2.out.1; omega) id).trans H2.out.2.1
  have hq3 : w3.heap[w.heap.size + 1]? = some (newF 20) := (H3.out.2.1.block _ (by have := H2.out.1; omega) id).trans H2.out.2.2.1
  refine wpList_callF rfl (some 62) rfl 10 #[.pointer (some ⟨w.heap.size, 0, none⟩), .slice (some ⟨w2.heap.size, 0, none⟩) 37 37] (by kernel_rfl) (Feed_fresh (W0 := w) textS_steady (lookText_any w HM.out.2) enter_text textS_le hp3 H3.out.1 (fun _ => ⟨rfl, by have := H2.out.1; omega⟩) rfl (Nat.le_refl _) (by decide) hB3 (Nat.le_refl _)) ?_
  rintro e w4 ⟨v, rfl, hE⟩
  refine ⟨_, rfl, ?_⟩
  simp only [Act.put, List.setIfInBounds_toArray, List.set_cons_zero, List.set_cons_succ]
  obtain ⟨gl, ol, cl, gx, ox, cx, a4, c4, wants4, told4, rfl, hl0, hl1, hlx, hm4, hfr4, hgl, hgx, hgl', hgx'⟩ := hE.one walk_text (by unfold exE; simp)
  refine wpList_runTo rfl (some 9) rfl (.slice (some ⟨gl, ol, none⟩) 1 cl) w4 (by kernel_rfl) ?_
  simp only [Act.put, List.setIfInBounds_toArray, List.set_cons_zero, List.set_cons_succ]
  refine wpList_nil ?_
  refine hKc _ _ ?_
  clear hKc hE
  have hz23 := H2.out.1
  have hz33 := H3.out.2.2
  have hB4 : Below w.heap.size w w4 := hB3.trans (hfr4.below (by omega) fun b hb q => by
    rcases q with q | q
    · omega
    · cases q)
  have hq4 : w4.heap[w.heap.size + 1]? = some (newF 20) := (hfr4.block _ (by omega) fun q => by
    rcases q with q | q
    · omega
    · cases q).trans hq3
  have hMon4 : Mon w4 := HM.out.1.below hB4 HM.out.1.lt
  go_upto_region 8 with fail
  rename_i Kc hKc
  refine wp_region_lit ?_
  refine wpList_runTo rfl (some 64) rfl (.agg tqM.cs) w4 (by kernel_rfl) ?_
  simp only [Act.put, List.setIfInBounds_toArray, List.set_cons_zero, List.set_cons_succ]
  refine wpList_callF rfl (some 65) rfl 14 #[.agg tqM.cs] (by kernel_rfl) (Encode_yes tqM w4 hMon4 tqOk tqV) ?_
  rintro e w5 ⟨gb, rfl, hO5, hgb, hB5⟩
  refine ⟨_, rfl, ?_⟩
  rw [tqL]
  simp only [Act.put, List.setIfInBounds_toArray, List.set_cons_zero, List.set_cons_succ]
  have hF5 : Fr w4 w5 (fun _ => False) := Fr.of_below hB5 _
  refine wpList_runTo rfl (some 63) rfl (.tuple #[.slice (some ⟨gb, 0, none⟩) 82 82, .int .i64 0]) w5 (by kernel_rfl) ?_
  simp only [Act.put, List.setIfInBounds_toArray, List.set_cons_zero, List.set_cons_succ]
  refine wpList_runTo rfl (some 66) rfl (.slice (some ⟨gb, 0, none⟩) 82 82) w5 (by kernel_rfl) ?_
  simp only [Act.put, List.setIfInBounds_toArray, List.set_cons_zero, List.set_cons_succ]
  refine wpList_runTo rfl (some 67) rfl (.int .i64 0) w5 (by kernel_rfl) ?_
  simp only [Act.put, List.setIfInBounds_toArray, List.set_cons_zero, List.set_cons_succ]
  refine wpList_runTo rfl (some 10) rfl (.slice (some ⟨gb, 0, none⟩) 82 82) w5 (by kernel_rfl) ?_
  simp only [Act.put, List.setIfInBounds_toArray, List.set_cons_zero, List.set_cons_succ]
  refine wpList_runTo rfl (some 11) rfl (.int .i64 0) w5 (by kernel_rfl) ?_
  simp only [Act.put, List.setIfInBounds_toArray, List.set_cons_zero, List.set_cons_succ]
  refine wpList_nil ?_
  refine hKc _ _ ?_
  clear hKc
  go_upto_region 9 with fail
  rename_i Kc hKc
  refine wp_region_lit ?_
  have hcv6 := Lib.run_convert_bytes_const (P := Tryz.prog) w5 22 5 (Lib.byteCells [79]).toArray 1 1 Tryz.underlying22 Tryz.underlying5
  have hO6 : LSrc (w5.alloc (.cells (Lib.byteCells [79]).toArray 5 ((Lib.byteCells [79]).toArray.size, (Lib.byteCells [79]).toArray.size + 1))) (some ⟨w5.heap.size, 0, none⟩) [79] := lsrc_of_cells (heap_alloc_new w5 _)
  have hF6 : Fr w5 (w5.alloc (.cells (Lib.byteCells [79]).toArray 5 ((Lib.byteCells [79]).toArray.size, (Lib.byteCells [79]).toArray.size + 1))) (fun _ => False) := Fr.alloc _ _ _
  have hz6 : (w5.alloc (.cells (Lib.byteCells [79]).toArray 5 ((Lib.byteCells [79]).toArray.size, (Lib.byteCells [79]).toArray.size + 1))).heap.size = w5.heap.size + 1 := by simp
  refine wpList_runTo rfl (some 68) rfl (.pointer (some ⟨w.heap.size + 1, 0, none⟩)) w5 (by kernel_rfl) ?_
  simp only [Act.put, List.setIfInBounds_toArray, List.set_cons_zero, List.set_cons_succ]
  refine wpList_runTo rfl (some 69) rfl (.slice (some ⟨w5.heap.size, 0, none⟩) 1 1) (w5.alloc (.cells (Lib.byteCells [79]).toArray 5)) (by kernel_rfl) ?_
  simp only [Act.put, List.setIfInBounds_toArray, List.set_cons_zero, List.set_cons_succ]
  generalize w5.alloc (.cells (Lib.byteCells [79]).toArray 5 ((Lib.byteCells [79]).toArray.size, (Lib.byteCells [79]).toArray.size + 1)) = w6 at *
  refine wpList_runTo rfl (some 70) rfl (.slice (some ⟨w5.heap.size, 0, none⟩) 1 1) w6 (by exact exec_convert (.tmp 69) rfl (by kernel_rfl) hcv6) ?_
  simp only [Act.put, List.setIfInBounds_toArray, List.set_cons_zero, List.set_cons_succ]
  clear hcv6
  refine wpList_runTo rfl (some 71) rfl (.slice (some ⟨gb, 0, none⟩) 82 82) w6 (by kernel_rfl) ?_
  simp only [Act.put, List.setIfInBounds_toArray, List.set_cons_zero, List.set_cons_succ]
  have hgb5 := hO5.lt
  have hO56 : OwnL w6 gb (frameL tqM) := hO5.keep (hF6.block gb hgb5 id)
  obtain ⟨c7, w7, hrun7, hby7, hc7, hfr7⟩ := run_append_full (c := 82) hO6 rfl hO56.src tqL (by decide) (by decide)
  refine wpList_runTo rfl (some 72) rfl (.slice (some ⟨w6.heap.size, 0, none⟩) 83 c7) w7 (exec_append (.tmp 70) (.tmp 71) 22 rfl (by kernel_rfl) (by kernel_rfl) hrun7) ?_
  simp only [Act.put, List.setIfInBounds_toArray, List.set_cons_zero, List.set_cons_succ]
  have hs4 := hfr4.size
  have hs5 := hF5.size
  have hs6 := hF6.size
  have hF47 : Fr w4 w7 (fun _ => False) := (hF5.trans hF6 fun _ _ q => q.elim id id).trans hfr7 fun _ _ q => q.elim id id
  have hB7 : Below w.heap.size w w7 := hB4.trans (hF47.below (by omega) fun _ _ q => q)
  have hq7 : w7.heap[w.heap.size + 1]? = some (newF 20) := (hF47.block _ (by omega) id).trans hq4
  refine wpList_callF rfl (some 73) rfl 10 #[.pointer (some ⟨w.heap.size + 1, 0, none⟩), .slice (some ⟨w6.heap.size, 0, none⟩) 83 c7] (by kernel_rfl) (Feed_fresh (W0 := w) binS_steady (lookBinary_any w) enter_bin binS_le hq7 (ByAt.src hby7) (fun _ => ⟨rfl, by omega⟩) (by simp [tqL]) hc7 (by decide) hB7 (by omega)) ?_
  rintro e w8 ⟨v8, rfl, hE⟩
  refine ⟨_, rfl, ?_⟩
  simp only [Act.put, List.setIfInBounds_toArray, List.set_cons_zero, List.set_cons_succ]
  obtain ⟨hl, hol, hcl, hx, hox, hcx, a8, c8, wants8, told8, rfl, kl0, kl1, klx, hm8, hfr8, hhl, hhx, hhl', hhx'⟩ := hE.one walk_bin (fun e => by have := tqL; rw [e] at this; cases this)
  refine wpList_runTo rfl (some 12) rfl (.slice (some ⟨hl, hol, none⟩) 1 hcl) w8 (by kernel_rfl) ?_
  simp only [Act.put, List.setIfInBounds_toArray, List.set_cons_zero, List.set_cons_succ]
  refine wpList_nil ?_
  refine hKc _ _ ?_
  clear hKc hE
  have hs7 := hfr7.size
  have hs8 := hfr8.size
  have hF48 : Fr w4 w8 (fun b => b = w.heap.size + 1) := hF47.trans hfr8 fun b _ q => by
    rcases q with q | q | q
    · exact q.elim
    · exact q
    · cases q
  have hF78 : Fr w7 w8 (fun b => b = w.heap.size + 1) := (Fr.refl w7 (fun _ => False)).trans hfr8 fun b _ q => by
    rcases q with q | q | q
    · exact q.elim
    · exact q
    · cases q
  have hc0 : w8.cell? ⟨gl, ol, none⟩ = some (.slice (some ⟨gx, ox, none⟩) 32 cx) := (World.cell?_of_block (hF48.block gl hgl' (by omega))).trans hl0
  have hc1 : w8.cell? ⟨gl, ol + 1, none⟩ = some (.int .i64 2) := (World.cell?_of_block (hF48.block gl hgl' (by omega))).trans hl1
  have hcx8 : LSrc w8 (some ⟨gx, ox, none⟩) exE := hlx.fr hF48 (by omega)
  have hm48 : FmB w8 w.heap.size (.func (.func 19) #[] #[]) (.slice a4 3 c4) wants4 2 told4 := hm4.fr hF48 (by omega)
  have hk0 : w8.cell? ⟨hl, hol, none⟩ = some (.slice (some ⟨hx, hox, none⟩) 82 hcx) := by rw [kl0, tqL]
  have hgbs : LSrc w8 (some ⟨gb, 0, none⟩) (frameL tqM) := ((hO5.src.fr hF6 id).fr hfr7 id).fr hF78 (by omega)
  have hSS0 : w8.cell? ⟨gl, ol, none⟩ = some (.slice (some ⟨gx, ox, none⟩) 32 cx) ∧ w8.cell? ⟨gl, ol + 1, none⟩ = some (.int .i64 2) ∧ LSrc w8 (some ⟨gx, ox, none⟩) exE ∧ FmB w8 w.heap.size (.func (.func 19) #[] #[]) (.slice a4 3 c4) wants4 2 told4 ∧ w8.cell? ⟨hl, hol, none⟩ = some (.slice (some ⟨hx, hox, none⟩) 82 hcx) ∧ w8.cell? ⟨hl, hol + 1, none⟩ = some (.int .i64 1) ∧ LSrc w8 (some ⟨hx, hox, none⟩) (frameL tqM) ∧ LSrc w8 (some ⟨gb, 0, none⟩) (frameL tqM) := ⟨hc0, hc1, hcx8, hm48, hk0, kl1, klx, hgbs⟩
  have HEnd : Hid (Below w.heap.size w w8.drew) := (hB7.trans (hF78.below (by omega) fun b hb q => by omega)).drew
  clear hc0 hc1 hcx8 hm48 hk0 hgbs kl0 kl1 klx hl0 hl1 hlx hm4 hm8 hfr8 hF48 hF78 hO5 hO56 hO6 hF6 hfr7 hby7 hrun7 hB5 hF5 hF47 hB7 hq7 hq4 hq3 hp3 hB3 hB4 hMon4 hfr4
  go_upto_region 10 with fail
  rename_i Kc hKc
  refine wp_region_held (S := fun w' => w'.cell? ⟨gl, ol, none⟩ = some (.slice (some ⟨gx, ox, none⟩) 32 cx) ∧ w'.cell? ⟨gl, ol + 1, none⟩ = some (.int .i64 2) ∧ LSrc w' (some ⟨gx, ox, none⟩) exE ∧ FmB w' w.heap.size (.func (.func 19) #[] #[]) (.slice a4 3 c4) wants4 2 told4 ∧ w'.cell? ⟨hl, hol, none⟩ = some (.slice (some ⟨hx, hox, none⟩) 82 hcx) ∧ w'.cell? ⟨hl, hol + 1, none⟩ = some (.int .i64 1) ∧ LSrc w' (some ⟨hx, hox, none⟩) (frameL tqM) ∧ LSrc w' (some ⟨gb, 0, none⟩) (frameL tqM)) (by kernel_rfl) ?_
  change wpAnyH _ _ _ _ _ _ _ _ (World.drew _)
  have hSS : w8.drew.cell? ⟨gl, ol, none⟩ = some (.slice (some ⟨gx, ox, none⟩) 32 cx) ∧ w8.drew.cell? ⟨gl, ol + 1, none⟩ = some (.int .i64 2) ∧ LSrc w8.drew (some ⟨gx, ox, none⟩) exE ∧ FmB w8.drew w.heap.size (.func (.func 19) #[] #[]) (.slice a4 3 c4) wants4 2 told4 ∧ w8.drew.cell? ⟨hl, hol, none⟩ = some (.slice (some ⟨hx, hox, none⟩) 82 hcx) ∧ w8.drew.cell? ⟨hl, hol + 1, none⟩ = some (.int .i64 1) ∧ LSrc w8.drew (some ⟨hx, hox, none⟩) (frameL tqM) ∧ LSrc w8.drew (some ⟨gb, 0, none⟩) (frameL tqM) := hSS0
  clear hSS0
  generalize w8.drew = w9 at *
  refine takeR (i := 0) (v := .slice (some ⟨gl, ol, none⟩) 1 cl) (some 74) rfl rfl (by kernel_rfl) (by kernel_rfl) (by kernel_rfl) (fun _ _ _ h => h) (Or.inl ⟨by kernel_rfl, fun w' hSw => by kernel_rfl⟩) hSS ?_
  simp only [Act.put, List.setIfInBounds_toArray, List.set_cons_zero, List.set_cons_succ]
  refine takeR (i := 1) (v := .int .i64 1) (some 75) rfl rfl (by kernel_rfl) (by kernel_rfl) (by kernel_rfl) (fun _ _ _ h => h) (Or.inl ⟨by kernel_rfl, fun w' hSw => by kernel_rfl⟩) hSS ?_
  simp only [Act.put, List.setIfInBounds_toArray, List.set_cons_zero, List.set_cons_succ]
  refine takeR (i := 2) (v := .bool true) (some 76) rfl rfl (by kernel_rfl) (by kernel_rfl) (by kernel_rfl) (fun _ _ _ h => h) (Or.inl ⟨by kernel_rfl, fun w' hSw => by kernel_rfl⟩) hSS ?_
  simp only [Act.put, List.setIfInBounds_toArray, List.set_cons_zero, List.set_cons_succ]
  refine takeR (i := 3) (v := .bool true) (some 77) rfl rfl (by kernel_rfl) (by kernel_rfl) (by kernel_rfl) (fun _ _ _ h => h) (Or.inl ⟨by kernel_rfl, fun w' hSw => by kernel_rfl⟩) hSS ?_
  simp only [Act.put, List.setIfInBounds_toArray, List.set_cons_zero, List.set_cons_succ]
  refine takeR (i := 4) (v := .slice (some ⟨gl, ol, none⟩) 1 cl) (some 78) rfl rfl (by kernel_rfl) (by kernel_rfl) (by kernel_rfl) (fun _ _ _ h => h) (Or.inl ⟨by kernel_rfl, fun w' hSw => by kernel_rfl⟩) hSS ?_
  simp only [Act.put, List.setIfInBounds_toArray, List.set_cons_zero, List.set_cons_succ]
  refine takeR (i := 5) (v := .pointer (some ⟨gl, ol, none⟩)) (some 79) rfl rfl (by kernel_rfl) (by kernel_rfl) (by kernel_rfl) (fun _ _ _ h => h) (Or.inl ⟨by kernel_rfl, fun w' hSw => by go_simp⟩) hSS ?_
  simp only [Act.put, List.setIfInBounds_toArray, List.set_cons_zero, List.set_cons_succ]
  refine takeR (i := 6) (v := .pointer (some ⟨gl, ol, none⟩)) (some 80) rfl rfl (by kernel_rfl) (by kernel_rfl) (by kernel_rfl) (fun _ _ _ h => h) (Or.inl ⟨by kernel_rfl, fun w' hSw => by go_simp⟩) hSS ?_
  simp only [Act.put, List.setIfInBounds_toArray, List.set_cons_zero, List.set_cons_succ]
  refine takeR (i := 7) (v := .slice (some ⟨gx, ox, none⟩) 32 cx) (some 81) rfl rfl (by kernel_rfl) (by kernel_rfl) (by kernel_rfl) (fun _ _ _ h => h) (Or.inl ⟨by kernel_rfl, fun w' hSw => by have q0 := hSw.1; go_simp⟩) hSS ?_
  simp only [Act.put, List.setIfInBounds_toArray, List.set_cons_zero, List.set_cons_succ]
  refine takeR (i := 8) (v := .string ⟨exE.toArray⟩) (some 82) rfl rfl (by kernel_rfl) (by kernel_rfl) (by kernel_rfl) (fun _ _ _ h => h) (Or.inl ⟨by kernel_rfl, fun w' hSw => by exact exec_convert (v := .slice (some ⟨gx, ox, none⟩) 32 cx) (.tmp 81) rfl (by kernel_rfl) (conv_src hSw.2.2.1 32 rfl)⟩) hSS ?_
  simp only [Act.put, List.setIfInBounds_toArray, List.set_cons_zero, List.set_cons_succ]
  refine takeR (i := 9) (v := .bool true) (some 83) rfl rfl (by kernel_rfl) (by kernel_rfl) (by kernel_rfl) (fun _ _ _ h => h) (Or.inl ⟨by kernel_rfl, fun w' hSw => by kernel_rfl⟩) hSS ?_
  simp only [Act.put, List.setIfInBounds_toArray, List.set_cons_zero, List.set_cons_succ]
  refine takeR (i := 10) (v := .bool true) (some 84) rfl rfl (by kernel_rfl) (by kernel_rfl) (by kernel_rfl) (fun _ _ _ h => h) (Or.inl ⟨by kernel_rfl, fun w' hSw => by kernel_rfl⟩) hSS ?_
  simp only [Act.put, List.setIfInBounds_toArray, List.set_cons_zero, List.set_cons_succ]
  refine takeR (i := 11) (v := .bool true) (some 85) rfl rfl (by kernel_rfl) (by kernel_rfl) (by kernel_rfl) (fun _ _ _ h => h) (Or.inl ⟨by kernel_rfl, fun w' hSw => by kernel_rfl⟩) hSS ?_
  simp only [Act.put, List.setIfInBounds_toArray, List.set_cons_zero, List.set_cons_succ]
  refine takeR (i := 12) (v := .slice (some ⟨gl, ol, none⟩) 1 cl) (some 86) rfl rfl (by kernel_rfl) (by kernel_rfl) (by kernel_rfl) (fun _ _ _ h => h) (Or.inl ⟨by kernel_rfl, fun w' hSw => by kernel_rfl⟩) hSS ?_
  simp only [Act.put, List.setIfInBounds_toArray, List.set_cons_zero, List.set_cons_succ]
  refine takeR (i := 13) (v := .pointer (some ⟨gl, ol, none⟩)) (some 87) rfl rfl (by kernel_rfl) (by kernel_rfl) (by kernel_rfl) (fun _ _ _ h => h) (Or.inl ⟨by kernel_rfl, fun w' hSw => by go_simp⟩) hSS ?_
  simp only [Act.put, List.setIfInBounds_toArray, List.set_cons_zero, List.set_cons_succ]
  refine takeR (i := 14) (v := .pointer (some ⟨gl, ol + 1, none⟩)) (some 88) rfl rfl (by kernel_rfl) (by kernel_rfl) (by kernel_rfl) (fun _ _ _ h => h) (Or.inl ⟨by kernel_rfl, fun w' hSw => by go_simp⟩) hSS ?_
  simp only [Act.put, List.setIfInBounds_toArray, List.set_cons_zero, List.set_cons_succ]
  refine takeR (i := 15) (v := .int .i64 2) (some 89) rfl rfl (by kernel_rfl) (by kernel_rfl) (by kernel_rfl) (fun _ _ _ h => h) (Or.inl ⟨by kernel_rfl, fun w' hSw => by have q0 := hSw.2.1; go_simp⟩) hSS ?_
  simp only [Act.put, List.setIfInBounds_toArray, List.set_cons_zero, List.set_cons_succ]
  refine takeR (i := 16) (v := .bool true) (some 90) rfl rfl (by kernel_rfl) (by kernel_rfl) (by kernel_rfl) (fun _ _ _ h => h) (Or.inl ⟨by kernel_rfl, fun w' hSw => by kernel_rfl⟩) hSS ?_
  simp only [Act.put, List.setIfInBounds_toArray, List.set_cons_zero, List.set_cons_succ]
  refine takeR (i := 17) (v := .bool true) (some 91) rfl rfl (by kernel_rfl) (by kernel_rfl) (by kernel_rfl) (fun _ _ _ h => h) (Or.inl ⟨by kernel_rfl, fun w' hSw => by kernel_rfl⟩) hSS ?_
  simp only [Act.put, List.setIfInBounds_toArray, List.set_cons_zero, List.set_cons_succ]
  refine takeR (i := 18) (v := .bool true) (some 92) rfl rfl (by kernel_rfl) (by kernel_rfl) (by kernel_rfl) (fun _ _ _ h => h) (Or.inl ⟨by kernel_rfl, fun w' hSw => by kernel_rfl⟩) hSS ?_
  simp only [Act.put, List.setIfInBounds_toArray, List.set_cons_zero, List.set_cons_succ]
  refine takeR (i := 19) (v := .pointer (some ⟨w.heap.size, 0, none⟩)) (some 93) rfl rfl (by kernel_rfl) (by kernel_rfl) (by kernel_rfl) (fun _ _ _ h => h) (Or.inl ⟨by kernel_rfl, fun w' hSw => by kernel_rfl⟩) hSS ?_
  simp only [Act.put, List.setIfInBounds_toArray, List.set_cons_zero, List.set_cons_succ]
  refine wpAnyH_ready (rs := [20]) (by kernel_rfl) (by simp) ?_
  refine AllReadyH.cons rfl (fun K1 hK1 => ?_) AllReadyH.nil
  rw [if_pos (by kernel_rfl)]
  refine callR (d := some 94) rfl 13 #[.pointer (some ⟨w.heap.size, 0, none⟩)] (by kernel_rfl) (Waits_any hSS.2.2.2.1) ?_
  rintro e w10 ⟨rfl, rfl⟩
  refine ⟨_, rfl, hK1.out _ _ hSS (fun _ => ?_)⟩
  clear hK1
  simp only [Act.put, List.setIfInBounds_toArray, List.set_cons_zero, List.set_cons_succ]
  refine takeR (i := 21) (v := .bool true) (some 95) rfl rfl (by kernel_rfl) (by kernel_rfl) (by kernel_rfl) (fun _ _ _ h => h) (Or.inl ⟨by kernel_rfl, fun w' hSw => by kernel_rfl⟩) hSS ?_
  simp only [Act.put, List.setIfInBounds_toArray, List.set_cons_zero, List.set_cons_succ]
  refine takeR (i := 22) (v := .bool true) (some 96) rfl rfl (by kernel_rfl) (by kernel_rfl) (by kernel_rfl) (fun _ _ _ h => h) (Or.inl ⟨by kernel_rfl, fun w' hSw => by kernel_rfl⟩) hSS ?_
  simp only [Act.put, List.setIfInBounds_toArray, List.set_cons_zero, List.set_cons_succ]
  refine takeR (i := 23) (v := .bool true) (some 97) rfl rfl (by kernel_rfl) (by kernel_rfl) (by kernel_rfl) (fun _ _ _ h => h) (Or.inl ⟨by kernel_rfl, fun w' hSw => by kernel_rfl⟩) hSS ?_
  simp only [Act.put, List.setIfInBounds_toArray, List.set_cons_zero, List.set_cons_succ]
  refine takeR (i := 24) (v := .pointer (some ⟨w.heap.size, 0, none⟩)) (some 98) rfl rfl (by kernel_rfl) (by kernel_rfl) (by kernel_rfl) (fun _ _ _ h => h) (Or.inl ⟨by kernel_rfl, fun w' hSw => by kernel_rfl⟩) hSS ?_
  simp only [Act.put, List.setIfInBounds_toArray, List.set_cons_zero, List.set_cons_succ]
  refine wpAnyH_ready (rs := [25]) (by kernel_rfl) (by simp) ?_
  refine AllReadyH.cons rfl (fun K1 hK1 => ?_) AllReadyH.nil
  rw [if_pos (by kernel_rfl)]
  refine callR (d := some 99) rfl 12 #[.pointer (some ⟨w.heap.size, 0, none⟩)] (by kernel_rfl) (Junk_any hSS.2.2.2.1) ?_
  rintro e w10 ⟨rfl, rfl⟩
  refine ⟨_, rfl, hK1.out _ _ hSS (fun _ => ?_)⟩
  clear hK1
  simp only [Act.put, List.setIfInBounds_toArray, List.set_cons_zero, List.set_cons_succ]
  refine takeR (i := 26) (v := .bool true) (some 100) rfl rfl (by kernel_rfl) (by kernel_rfl) (by kernel_rfl) (fun _ _ _ h => h) (Or.inl ⟨by kernel_rfl, fun w' hSw => by kernel_rfl⟩) hSS ?_
  simp only [Act.put, List.setIfInBounds_toArray, List.set_cons_zero, List.set_cons_succ]
  refine takeR (i := 27) (v := .bool true) (some 101) rfl rfl (by kernel_rfl) (by kernel_rfl) (by kernel_rfl) (fun _ _ _ h => h) (Or.inl ⟨by kernel_rfl, fun w' hSw => by kernel_rfl⟩) hSS ?_
  simp only [Act.put, List.setIfInBounds_toArray, List.set_cons_zero, List.set_cons_succ]
  refine takeR (i := 28) (v := .bool true) (some 102) rfl rfl (by kernel_rfl) (by kernel_rfl) (by kernel_rfl) (fun _ _ _ h => h) (Or.inl ⟨by kernel_rfl, fun w' hSw => by kernel_rfl⟩) hSS ?_
  simp only [Act.put, List.setIfInBounds_toArray, List.set_cons_zero, List.set_cons_succ]
  refine takeR (i := 29) (v := .int .i64 0) (some 103) rfl rfl (by kernel_rfl) (by kernel_rfl) (by kernel_rfl) (fun _ _ _ h => h) (Or.inl ⟨by kernel_rfl, fun w' hSw => by kernel_rfl⟩) hSS ?_
  simp only [Act.put, List.setIfInBounds_toArray, List.set_cons_zero, List.set_cons_succ]
  refine takeR (i := 30) (v := .bool true) (some 104) rfl rfl (by kernel_rfl) (by kernel_rfl) (by kernel_rfl) (fun _ _ _ h => h) (Or.inl ⟨by kernel_rfl, fun w' hSw => by kernel_rfl⟩) hSS ?_
  simp only [Act.put, List.setIfInBounds_toArray, List.set_cons_zero, List.set_cons_succ]
  refine takeR (i := 31) (v := .bool true) (some 105) rfl rfl (by kernel_rfl) (by kernel_rfl) (by kernel_rfl) (fun _ _ _ h => h) (Or.inl ⟨by kernel_rfl, fun w' hSw => by kernel_rfl⟩) hSS ?_
  simp only [Act.put, List.setIfInBounds_toArray, List.set_cons_zero, List.set_cons_succ]
  refine takeR (i := 32) (v := .bool true) (some 106) rfl rfl (by kernel_rfl) (by kernel_rfl) (by kernel_rfl) (fun _ _ _ h => h) (Or.inl ⟨by kernel_rfl, fun w' hSw => by kernel_rfl⟩) hSS ?_
  simp only [Act.put, List.setIfInBounds_toArray, List.set_cons_zero, List.set_cons_succ]
  refine takeR (i := 33) (v := .slice (some ⟨hl, hol, none⟩) 1 hcl) (some 107) rfl rfl (by kernel_rfl) (by kernel_rfl) (by kernel_rfl) (fun _ _ _ h => h) (Or.inl ⟨by kernel_rfl, fun w' hSw => by kernel_rfl⟩) hSS ?_
  simp only [Act.put, List.setIfInBounds_toArray, List.set_cons_zero, List.set_cons_succ]
  refine takeR (i := 34) (v := .int .i64 1) (some 108) rfl rfl (by kernel_rfl) (by kernel_rfl) (by kernel_rfl) (fun _ _ _ h => h) (Or.inl ⟨by kernel_rfl, fun w' hSw => by kernel_rfl⟩) hSS ?_
  simp only [Act.put, List.setIfInBounds_toArray, List.set_cons_zero, List.set_cons_succ]
  refine takeR (i := 35) (v := .bool true) (some 109) rfl rfl (by kernel_rfl) (by kernel_rfl) (by kernel_rfl) (fun _ _ _ h => h) (Or.inl ⟨by kernel_rfl, fun w' hSw => by kernel_rfl⟩) hSS ?_
  simp only [Act.put, List.setIfInBounds_toArray, List.set_cons_zero, List.set_cons_succ]
  refine takeR (i := 36) (v := .bool true) (some 110) rfl rfl (by kernel_rfl) (by kernel_rfl) (by kernel_rfl) (fun _ _ _ h => h) (Or.inl ⟨by kernel_rfl, fun w' hSw => by kernel_rfl⟩) hSS ?_
  simp only [Act.put, List.setIfInBounds_toArray, List.set_cons_zero, List.set_cons_succ]
  refine takeR (i := 37) (v := .bool true) (some 111) rfl rfl (by kernel_rfl) (by kernel_rfl) (by kernel_rfl) (fun _ _ _ h => h) (Or.inl ⟨by kernel_rfl, fun w' hSw => by kernel_rfl⟩) hSS ?_
  simp only [Act.put, List.setIfInBounds_toArray, List.set_cons_zero, List.set_cons_succ]
  refine takeR (i := 38) (v := .slice (some ⟨hl, hol, none⟩) 1 hcl) (some 112) rfl rfl (by kernel_rfl) (by kernel_rfl) (by kernel_rfl) (fun _ _ _ h => h) (Or.inl ⟨by kernel_rfl, fun w' hSw => by kernel_rfl⟩) hSS ?_
  simp only [Act.put, List.setIfInBounds_toArray, List.set_cons_zero, List.set_cons_succ]
  refine takeR (i := 39) (v := .pointer (some ⟨hl, hol, none⟩)) (some 113) rfl rfl (by kernel_rfl) (by kernel_rfl) (by kernel_rfl) (fun _ _ _ h => h) (Or.inl ⟨by kernel_rfl, fun w' hSw => by go_simp⟩) hSS ?_
  simp only [Act.put, List.setIfInBounds_toArray, List.set_cons_zero, List.set_cons_succ]
  refine takeR (i := 40) (v := .pointer (some ⟨hl, hol, none⟩)) (some 114) rfl rfl (by kernel_rfl) (by kernel_rfl) (by kernel_rfl) (fun _ _ _ h => h) (Or.inl ⟨by kernel_rfl, fun w' hSw => by go_simp⟩) hSS ?_
  simp only [Act.put, List.setIfInBounds_toArray, List.set_cons_zero, List.set_cons_succ]
  refine takeR (i := 41) (v := .slice (some ⟨hx, hox, none⟩) 82 hcx) (some 115) rfl rfl (by kernel_rfl) (by kernel_rfl) (by kernel_rfl) (fun _ _ _ h => h) (Or.inl ⟨by kernel_rfl, fun w' hSw => by have q0 := hSw.2.2.2.2.1; go_simp⟩) hSS ?_
  simp only [Act.put, List.setIfInBounds_toArray, List.set_cons_zero, List.set_cons_succ]
  refine takeR (i := 42) (v := .string ⟨(frameL tqM).toArray⟩) (some 116) rfl rfl (by kernel_rfl) (by kernel_rfl) (by kernel_rfl) (fun _ _ _ h => h) (Or.inl ⟨by kernel_rfl, fun w' hSw => by exact exec_convert (v := .slice (some ⟨hx, hox, none⟩) 82 hcx) (.tmp 115) rfl (by kernel_rfl) (conv_src hSw.2.2.2.2.2.2.1 82 tqL.symm)⟩) hSS ?_
  simp only [Act.put, List.setIfInBounds_toArray, List.set_cons_zero, List.set_cons_succ]
  refine takeR (i := 43) (v := .slice (some ⟨gb, 0, none⟩) 82 82) (some 117) rfl rfl (by kernel_rfl) (by kernel_rfl) (by kernel_rfl) (fun _ _ _ h => h) (Or.inl ⟨by kernel_rfl, fun w' hSw => by kernel_rfl⟩) hSS ?_
  simp only [Act.put, List.setIfInBounds_toArray, List.set_cons_zero, List.set_cons_succ]
  refine takeR (i := 44) (v := .string ⟨(frameL tqM).toArray⟩) (some 118) rfl rfl (by kernel_rfl) (by kernel_rfl) (by kernel_rfl) (fun _ _ _ h => h) (Or.inl ⟨by kernel_rfl, fun w' hSw => by exact exec_convert (v := .slice (some ⟨gb, 0, none⟩) 82 82) (.tmp 117) rfl (by kernel_rfl) (conv_src hSw.2.2.2.2.2.2.2 82 tqL.symm)⟩) hSS ?_
  simp only [Act.put, List.setIfInBounds_toArray, List.set_cons_zero, List.set_cons_succ]
  refine takeR (i := 45) (v := .bool true) (some 119) rfl rfl (by kernel_rfl) (by kernel_rfl) (by kernel_rfl) (fun _ _ _ h => h) (Or.inl ⟨by kernel_rfl, fun w' hSw => by clear hSw; go_simp⟩) hSS ?_
  simp only [Act.put, List.setIfInBounds_toArray, List.set_cons_zero, List.set_cons_succ]
  refine takeR (i := 46) (v := .bool true) (some 120) rfl rfl (by kernel_rfl) (by kernel_rfl) (by kernel_rfl) (fun _ _ _ h => h) (Or.inl ⟨by kernel_rfl, fun w' hSw => by kernel_rfl⟩) hSS ?_
  simp only [Act.put, List.setIfInBounds_toArray, List.set_cons_zero, List.set_cons_succ]
  refine takeR (i := 47) (v := .bool true) (some 121) rfl rfl (by kernel_rfl) (by kernel_rfl) (by kernel_rfl) (fun _ _ _ h => h) (Or.inl ⟨by kernel_rfl, fun w' hSw => by kernel_rfl⟩) hSS ?_
  simp only [Act.put, List.setIfInBounds_toArray, List.set_cons_zero, List.set_cons_succ]
  refine takeR (i := 48) (v := .slice (some ⟨hl, hol, none⟩) 1 hcl) (some 122) rfl rfl (by kernel_rfl) (by kernel_rfl) (by kernel_rfl) (fun _ _ _ h => h) (Or.inl ⟨by kernel_rfl, fun w' hSw => by kernel_rfl⟩) hSS ?_
  simp only [Act.put, List.setIfInBounds_toArray, List.set_cons_zero, List.set_cons_succ]
  refine takeR (i := 49) (v := .pointer (some ⟨hl, hol, none⟩)) (some 123) rfl rfl (by kernel_rfl) (by kernel_rfl) (by kernel_rfl) (fun _ _ _ h => h) (Or.inl ⟨by kernel_rfl, fun w' hSw => by go_simp⟩) hSS ?_
  simp only [Act.put, List.setIfInBounds_toArray, List.set_cons_zero, List.set_cons_succ]
  refine takeR (i := 50) (v := .pointer (some ⟨hl, hol + 1, none⟩)) (some 124) rfl rfl (by kernel_rfl) (by kernel_rfl) (by kernel_rfl) (fun _ _ _ h => h) (Or.inl ⟨by kernel_rfl, fun w' hSw => by go_simp⟩) hSS ?_
  simp only [Act.put, List.setIfInBounds_toArray, List.set_cons_zero, List.set_cons_succ]
  refine takeR (i := 51) (v := .int .i64 1) (some 125) rfl rfl (by kernel_rfl) (by kernel_rfl) (by kernel_rfl) (fun _ _ _ h => h) (Or.inl ⟨by kernel_rfl, fun w' hSw => by have q0 := hSw.2.2.2.2.2.1; go_simp⟩) hSS ?_
  simp only [Act.put, List.setIfInBounds_toArray, List.set_cons_zero, List.set_cons_succ]
  refine takeR (i := 52) (v := .bool true) (some 126) rfl rfl (by kernel_rfl) (by kernel_rfl) (by kernel_rfl) (fun _ _ _ h => h) (Or.inl ⟨by kernel_rfl, fun w' hSw => by kernel_rfl⟩) hSS ?_
  simp only [Act.put, List.setIfInBounds_toArray, List.set_cons_zero, List.set_cons_succ]
  refine takeR (i := 53) (v := .bool true) (some 127) rfl rfl (by kernel_rfl) (by kernel_rfl) (by kernel_rfl) (fun _ _ _ h => h) (Or.inl ⟨by kernel_rfl, fun w' hSw => by kernel_rfl⟩) hSS ?_
  simp only [Act.put, List.setIfInBounds_toArray, List.set_cons_zero, List.set_cons_succ]
  refine takeR (i := 54) (v := .bool true) (some 0) rfl rfl (by kernel_rfl) (by kernel_rfl) (by kernel_rfl) (fun _ _ _ h => h) (Or.inl ⟨by kernel_rfl, fun w' hSw => by kernel_rfl⟩) hSS ?_
  simp only [Act.put, List.setIfInBounds_toArray, List.set_cons_zero, List.set_cons_succ]
  refine wpAnyH_done (by kernel_rfl) ?_ _
  refine hKc _ _ ?_
  clear hKc
  go_wp2
  go_ret
  exact ⟨rfl, HEnd.out⟩
end Go.Proofs.YtkpoheknmcepnaaGreatDoor
