/-
  MsgDrops: the walk.
-/
import Derived.Test.YtdlmaeieoiocdaaDoorMsgDrop
import Derived.Deep.DeepCutAuto
namespace Go.Proofs.YtdlmaeieoiocdaaDoor
set_option linter.unusedVariables false
set_option linter.unusedSimpArgs false
open Go.RowKit Go.Great

set_option maxRecDepth 100000 in
set_option maxHeartbeats 8000000 in
theorem MsgDrops_law (M : Msg) (hz : M.ok) (hS : M.okS) (fd : Int) (hfd : (Lit.int .i64 fd).wf = true) (w : World) (hM : Mon w) :
    Calls Tryd.prog 5 #[.agg M.cs, .int .i64 fd] w fun e w' => e = .returned (.bool true) ∧ Below w.heap.size w w' := by
  clear hS hfd
  have HM : Hid (1 < w.heap.size ∧ Mon w ∧ M.ok) := ⟨hM.lt, hM, hz⟩
  have ho : OwnM (w.alloc (.cells M.cs 23)) w.heap.size M := heap_alloc_new w _
  have hb : Below w.heap.size w (w.alloc (.cells M.cs 23)) := (Below.refl _ w).alloc (Nat.le_refl _) _
  have HO1 : Hid (OwnM (w.alloc (.cells M.cs 23)) w.heap.size M ∧ Below w.heap.size w (w.alloc (.cells M.cs 23))) := ⟨ho, hb⟩
  clear ho hb hM hz
  go_enter Tryd.func5, Tryd.ntmps5
  go_upto_region 1 with fail
  generalize w.alloc (.cells M.cs 23) = w1 at *
  generalize hcs : M.cs = CS at *
  go_wp2_with (go_at_call 9; fail)
  refine (shown_any w1 (HM.out.2.1.below HO1.out.2 HM.out.1)).mono ?_
  rintro e w2 ⟨rfl, hb2⟩
  have HO2 : Hid (OwnM w2 w.heap.size M ∧ Below w.heap.size w w2) := ⟨HO1.out.1.below hb2 HO1.out.1.lt, HO1.out.2.trans (hb2.mono HO1.out.2.size)⟩
  clear HO1 hb2
  go_upto_region 2 with fail
  refine wp_region_lit ?_
  refine wpList_loadM HO2.out.1 (.tmp 2) rfl rfl rfl ?_
  simp only [Act.put, List.setIfInBounds_toArray, List.set_cons_zero, List.set_cons_succ]
  rw [hcs]
  go_wp2_with (go_at_call 10; fail)
  have hv := Valid_any M w2 (HM.out.2.1.below HO2.out.2 HM.out.1) HM.out.2.2
  rw [hcs] at hv
  refine hv.mono ?_
  clear hv
  rintro e w3 ⟨rfl, hb3⟩
  have HO3 : Hid (OwnM w3 w.heap.size M ∧ Below w.heap.size w w3) := ⟨HO2.out.1.below hb3 HO2.out.1.lt, HO2.out.2.trans (hb3.mono HO2.out.2.size)⟩
  clear HO2 hb3
  have hiff : ((valE M == 0) == (valN M == 0)) = true := by have h := val_iff M; revert h; cases (valE M == 0) <;> cases (valN M == 0) <;> decide
  have HD : Hid (valE M = 0 → ∀ j, isJ j → hasAt (M.z 0) (tNum.getD j 0) j ≠ 0 → _) := fun h j hj hh => drop_val h j hj hh
  generalize valE M = ve at *
  generalize valN M = vn at *
  have c0 : w3.cell? ⟨w.heap.size, 0, none⟩ = some (.int .i64 (M.z 0)) := HO3.out.1.cell 0 (by decide)
  have hh := Has_any (M.z 0) fd w3
  have HH : Hid (hasN (M.z 0) fd ≠ 0 → isK (M.z 0) = true ∧ ∃ j, j < 42 ∧ tNum.getD j 0 = fd) := fun h => hasN_num h
  have HH2 : Hid (isK (M.z 0) = true → ∀ j, j < 42 → tNum.getD j 0 = fd → hasN (M.z 0) fd = hasAt (M.z 0) (tNum.getD j 0) j) := fun hK j hj e => by rw [← e]; exact hasN_at hK j hj
  generalize hasN (M.z 0) fd = hn at *
  go_wp2_with (go_at_call 14; fail)
  refine hh.mono ?_
  rintro e w4 ⟨rfl, hb4⟩
  have HO4 : Hid (OwnM w4 w.heap.size M ∧ Below w.heap.size w w4) := ⟨HO3.out.1.below hb4 HO3.out.1.lt, HO3.out.2.trans (hb4.mono HO3.out.2.size)⟩
  clear HO3 hb4 hh c0 hiff
  go_upto_region 6 with fail
  go_cut [9] (fun b wx => b = .bool (rulB fd) ∧ wx = w4)
  case first => as_aux_lemma =>
    clear HD HH HH2 HO4 HM hcs
    by_cases r0 : fd = 43
    · subst r0
      go_wp2_with fail
      go_meet
      exact ⟨rfl, rfl⟩
    have b0 : (fd == 43) = false := by simp [r0]
    by_cases r1 : fd = 122
    · subst r1
      go_wp2_with fail
      go_meet
      exact ⟨rfl, rfl⟩
    have b1 : (fd == 122) = false := by simp [r1]
    by_cases r2 : fd = 16
    · subst r2
      go_wp2_with fail
      go_meet
      exact ⟨rfl, rfl⟩
    have b2 : (fd == 16) = false := by simp [r2]
    by_cases r3 : fd = 44
    · subst r3
      go_wp2_with fail
      go_meet
      exact ⟨rfl, rfl⟩
    have b3 : (fd == 44) = false := by simp [r3]
    by_cases r4 : fd = 99
    · subst r4
      go_wp2_with fail
      go_meet
      exact ⟨rfl, rfl⟩
    have b4 : (fd == 99) = false := by simp [r4]
    by_cases r5 : fd = 111
    · subst r5
      go_wp2_with fail
      go_meet
      exact ⟨rfl, rfl⟩
    have b5 : (fd == 111) = false := by simp [r5]
    by_cases r6 : fd = 110
    · subst r6
      go_wp2_with fail
      go_meet
      exact ⟨rfl, rfl⟩
    have b6 : (fd == 110) = false := by simp [r6]
    by_cases r7 : fd = 432
    · subst r7
      go_wp2_with fail
      go_meet
      exact ⟨rfl, rfl⟩
    have b7 : (fd == 432) = false := by simp [r7]
    by_cases r8 : fd = 31
    · subst r8
      go_wp2_with fail
      go_meet
      exact ⟨rfl, rfl⟩
    have b8 : (fd == 31) = false := by simp [r8]
    by_cases r9 : fd = 32
    · subst r9
      go_wp2_with fail
      go_meet
      exact ⟨rfl, rfl⟩
    have b9 : (fd == 32) = false := by simp [r9]
    by_cases r10 : fd = 151
    · subst r10
      go_wp2_with fail
      go_meet
      exact ⟨rfl, rfl⟩
    have b10 : (fd == 151) = false := by simp [r10]
    by_cases r11 : fd = 14
    · subst r11
      go_wp2_with fail
      go_meet
      exact ⟨rfl, rfl⟩
    have b11 : (fd == 14) = false := by simp [r11]
    by_cases r12 : fd = 38
    · subst r12
      go_wp2_with fail
      go_meet
      exact ⟨rfl, rfl⟩
    have b12 : (fd == 38) = false := by simp [r12]
    by_cases r13 : fd = 40
    · subst r13
      go_wp2_with fail
      go_meet
      exact ⟨rfl, rfl⟩
    have b13 : (fd == 40) = false := by simp [r13]
    by_cases r14 : fd = 59
    · subst r14
      go_wp2_with fail
      go_meet
      exact ⟨rfl, rfl⟩
    have b14 : (fd == 59) = false := by simp [r14]
    by_cases r15 : fd = 150
    · subst r15
      go_wp2_with fail
      go_meet
      exact ⟨rfl, rfl⟩
    have b15 : (fd == 150) = false := by simp [r15]
    have HR : Hid (rulB fd = false) := by show rulB fd = false; simp [rulB, b0, b1, b2, b3, b4, b5, b6, b7, b8, b9, b10, b11, b12, b13, b14, b15]
    go_wp2_with fail
    go_meet
    exact ⟨by rw [HR.out], rfl⟩
  case rest =>
    obtain ⟨rfl, rfl⟩ := hcut
    go_upto_region 7 with fail
    go_cut [10] (fun b wx => b = .bool (zerB fd) ∧ wx = wc)
    case first => as_aux_lemma =>
      clear HD HH HH2 HO4 HM hcs
      by_cases r0 : fd = 52
      · subst r0
        go_wp2_with fail
        go_meet
        exact ⟨rfl, rfl⟩
      have b0 : (fd == 52) = false := by simp [r0]
      by_cases r1 : fd = 373
      · subst r1
        go_wp2_with fail
        go_meet
        exact ⟨rfl, rfl⟩
      have b1 : (fd == 373) = false := by simp [r1]
      by_cases r2 : fd = 37
      · subst r2
        go_wp2_with fail
        go_meet
        exact ⟨rfl, rfl⟩
      have b2 : (fd == 37) = false := by simp [r2]
      by_cases r3 : fd = 326
      · subst r3
        go_wp2_with fail
        go_meet
        exact ⟨rfl, rfl⟩
      have b3 : (fd == 326) = false := by simp [r3]
      by_cases r4 : fd = 533
      · subst r4
        go_wp2_with fail
        go_meet
        exact ⟨rfl, rfl⟩
      have b4 : (fd == 533) = false := by simp [r4]
      have HR : Hid (zerB fd = false) := by show zerB fd = false; simp [zerB, b0, b1, b2, b3, b4]
      go_wp2_with fail
      go_meet
      exact ⟨by rw [HR.out], rfl⟩
    case rest =>
      obtain ⟨rfl, rfl⟩ := hcut
      by_cases h0 : ve = 0
      · subst h0
        by_cases h1 : hn = 0
        · subst h1
          go_wp2
          go_ret
          exact ⟨rfl, HO4.out.2⟩
        · have h1b : (hn == 0) = false := by simp [h1]
          by_cases h2 : fd = 35
          · subst h2
            go_wp2
            go_ret
            exact ⟨rfl, HO4.out.2⟩
          · have h2b : (fd == 35) = false := by simp [h2]
            cases hr : rulB fd
            · obtain ⟨hK, j, hj, hjn⟩ := HH.out h1
              have hJ := rul_J j hj (by rw [hjn]; exact h2) (by rw [hjn]; exact hr)
              have hat := HH2.out hK j hj hjn
              have hzz := zer_J j hJ
              have hdv := HD.out rfl j hJ (by rw [← hat]; exact h1)
              have HDV : Hid ((valE (dropM M j), valN (dropM M j)) = if hn = 2 ∧ zerB fd = false then (31, fd) else (0, 0)) := by
                show (valE (dropM M j), valN (dropM M j)) = if hn = 2 ∧ zerB fd = false then (31, fd) else (0, 0)
                rw [hdv, ← hat, ← hzz, hjn]
              have hput := fun g (w' : World) (ho : OwnM w' g M) => put_at M j hJ g w' ho
              rw [hjn] at hput
              have HPUT : Hid (∀ g (w' : World) (ho : OwnM w' g M), _) := hput
              have HOK : Hid ((dropM M j).ok) := drop_ok HM.out.2.2 j
              clear hdv hput hat hzz hK HH HH2 HD hJ
              generalize dropM M j = D at *
              clear hj hjn
              go_upto_region 10 with fail
              rename_i K hK
              refine wp_region_lit ?_
              refine wpList_loadM HO4.out.1 (.tmp 2) rfl rfl rfl ?_
              refine wpList_runTo rfl (some 11) rfl (.pointer (some ⟨wc.heap.size, 0, none⟩)) (wc.alloc (.cells zeroM.cs 23)) (by kernel_rfl) ?_
              refine wpList_store_row rfl 23 (.tmp 11) (.tmp 126) rfl wc.heap.size M.cs (by kernel_rfl) (by kernel_rfl) 23 _ (heap_alloc_new wc _) (by rw [M.cs_size]; kernel_rfl) (by rw [M.cs_size]; kernel_rfl) M.cs_one ?_
              rw [World.setRow_alloc_new]
              refine wpList_nil ?_
              refine hK _ _ ?_
              clear hK K
              simp only [Act.put, List.setIfInBounds_toArray, List.set_cons_zero, List.set_cons_succ]
              rw [hcs]
              have HG : Hid (w.heap.size ≤ wc.heap.size) := HO4.out.2.size
              have HO5 : Hid (OwnM (wc.alloc (.cells CS 23)) wc.heap.size M ∧ Below w.heap.size w (wc.alloc (.cells CS 23))) := ⟨by rw [← hcs]; exact heap_alloc_new wc _, HO4.out.2.alloc HG.out _⟩
              clear HO4
              generalize wc.alloc (.cells CS 23) = w5 at *
              generalize wc.heap.size = g at *
              go_wp2_with (go_at_call 15; fail)
              refine (HPUT.out g w5 HO5.out.1).mono ?_
              rintro e w6 ⟨rfl, ho6, hb6⟩
              have HO6 : Hid (OwnM w6 g D ∧ Below w.heap.size w w6) := ⟨ho6, HO5.out.2.trans (hb6.mono HG.out)⟩
              clear HO5 ho6 hb6 HPUT
              go_upto_region 12 with fail
              refine wp_region_lit ?_
              refine wpList_loadM HO6.out.1 (.tmp 11) rfl rfl rfl ?_
              simp only [Act.put, List.setIfInBounds_toArray, List.set_cons_zero, List.set_cons_succ]
              have hv := Valid_any D w6 (HM.out.2.1.below HO6.out.2 HM.out.1) HOK.out
              generalize D.cs = CS2 at *
              go_wp2_with (go_at_call 10; fail)
              refine hv.mono ?_
              clear hv
              rintro e w7 ⟨rfl, hb7⟩
              have HB7 : Hid (Below w.heap.size w w7) := HO6.out.2.trans (hb7.mono HO6.out.2.size)
              clear HO6 hb7 HOK HM HG hcs
              have hdv := HDV.out
              generalize valE D = vE at *
              generalize valN D = vN at *
              clear HDV
              by_cases h3 : hn = 2
              · subst h3
                cases hzb : zerB fd
                · rw [if_pos ⟨rfl, hzb⟩] at hdv
                  obtain ⟨rfl, rfl⟩ := Prod.mk.inj hdv
                  clear hdv
                  go_wp2
                  go_ret
                  exact ⟨by first | rfl | (simp; done), HB7.out⟩
                · rw [if_neg (by simp [hzb])] at hdv
                  obtain ⟨rfl, rfl⟩ := Prod.mk.inj hdv
                  clear hdv
                  go_wp2
                  go_ret
                  exact ⟨by first | rfl | (simp; done), HB7.out⟩
              · rw [if_neg (by simp [h3])] at hdv
                obtain ⟨rfl, rfl⟩ := Prod.mk.inj hdv
                clear hdv
                have h3b : (hn == 2) = false := by simp [h3]
                go_wp2
                go_ret
                exact ⟨by first | rfl | (simp; done), HB7.out⟩
            · go_wp2
              go_ret
              exact ⟨rfl, HO4.out.2⟩
      · have h0b : (ve != 0) = true := by simp [h0]
        go_wp2
        go_ret
        exact ⟨rfl, HO4.out.2⟩

end Go.Proofs.YtdlmaeieoiocdaaDoor
