/-
  MsgMoves: the walk.
-/
import Derived.Test.YtdlmaeieoiocdaaDoorMsgUpd
namespace Go.Proofs.YtdlmaeieoiocdaaDoor
set_option linter.unusedVariables false
open Go.RowKit Go.Great

def mvM (M : Msg) (sn tg : ByteArray) (sq tm : Int) : Msg := (((M.setS 1 sn).setS 2 tg).setZ 3 sq).setZ 5 tm
theorem mv_fit (M : Msg) (sn tg : ByteArray) (sq tm : Int) : fitN (mvM M sn tg sq tm) = fitN M := rfl
theorem mv_kind (M : Msg) (sn tg : ByteArray) (sq tm : Int) : (mvM M sn tg sq tm).z 0 = M.z 0 := rfl
theorem mv_err (M : Msg) (sn tg : ByteArray) (sq tm : Int) (j : Nat) (hj : j < 42) (h1 : j ≠ 1) (h2 : j ≠ 2) (h3 : j ≠ 3) (h5 : j ≠ 5) : errAt (mvM M sn tg sq tm) j = errAt M j := by
  have : stOf (mvM M sn tg sq tm) j = stOf M j := by
    rcases cases42 hj with rfl | rfl | rfl | rfl | rfl | rfl | rfl | rfl | rfl | rfl | rfl | rfl | rfl | rfl | rfl | rfl | rfl | rfl | rfl | rfl | rfl | rfl | rfl | rfl | rfl | rfl | rfl | rfl | rfl | rfl | rfl | rfl | rfl | rfl | rfl | rfl | rfl | rfl | rfl | rfl | rfl | rfl <;> first | rfl | contradiction
  unfold errAt
  rw [this, mv_kind]
theorem stT_nm (s : ByteArray) : stT nmS s = 1 ↔ nmS s = true := by
  unfold stT
  by_cases h0 : s.size = 0
  · simp [h0, nmS]
  · cases h : nmS s <;> simp [h0]
/-- What Valid tells of a message that is moved. -/
theorem mv_val {M : Msg} (sn tg : ByteArray) (sq tm : Int) (h : valE M = 0) :
    (valE (mvM M sn tg sq tm), valN (mvM M sn tg sq tm)) = if nmS sn = false then (31, 49) else if nmS tg = false then (31, 56) else if ¬ (1 ≤ sq ∧ sq ≤ 999999999) then (31, 34) else if ¬ (0 ≤ tm ∧ tm ≤ 253402300799999) then (31, 52) else (0, 0) := by
  obtain ⟨hK, hE, hF⟩ := val_ok h
  have hA := all_has _ hK
  have e1 : errAt (mvM M sn tg sq tm) 1 = rowErr true ((0 : Nat).testBit (M.z 0).toNat) false (stT nmS sn) := by rw [← hA]; rfl
  have e2 : errAt (mvM M sn tg sq tm) 2 = rowErr true ((0 : Nat).testBit (M.z 0).toNat) false (stT nmS tg) := by rw [← hA]; rfl
  have e3 : errAt (mvM M sn tg sq tm) 3 = rowErr true ((0 : Nat).testBit (M.z 0).toNat) false (stN sq 999999999) := by rw [← hA]; rfl
  have e5 : errAt (mvM M sn tg sq tm) 5 = rowErr true ((0 : Nat).testBit (M.z 0).toNat) true (stN tm 253402300799999) := by
    show rowErr ((262142 : Nat).testBit (M.z 0).toNat) _ true (stN tm 253402300799999) = _
    rw [hA]
    rfl
  have eo : ∀ j, j < 42 → j ≠ 1 → j ≠ 2 → j ≠ 3 → j ≠ 5 → errAt (mvM M sn tg sq tm) j = 0 := fun j hj h1 h2 h3 h5 => by rw [mv_err M sn tg sq tm j hj h1 h2 h3 h5, hE j hj]
  have hK' : isK ((mvM M sn tg sq tm).z 0) = true := hK
  generalize (0 : Nat).testBit (M.z 0).toNat = q at *
  have s1 := stT_le nmS sn
  have s2 := stT_le nmS tg
  have t1 := stT_nm sn
  have t2 := stT_nm tg
  cases a : nmS sn
  · have hne : errAt (mvM M sn tg sq tm) 1 = 31 := by
      rw [e1]
      have : stT nmS sn = 0 ∨ stT nmS sn = 2 := by rw [a] at t1; simp at t1; omega
      rcases this with h | h <;> rw [h] <;> cases q <;> rfl
    have := val_err hK' (k := 1) (by decide) (fun j hj => eo j (by omega) (by omega) (by omega) (by omega) (by omega)) (by rw [hne]; decide)
    rw [this.1, this.2, hne]
    rfl
  · have z1 : errAt (mvM M sn tg sq tm) 1 = 0 := by rw [e1, t1.2 a]; cases q <;> rfl
    cases b : nmS tg
    · have hne : errAt (mvM M sn tg sq tm) 2 = 31 := by
        rw [e2]
        have : stT nmS tg = 0 ∨ stT nmS tg = 2 := by rw [b] at t2; simp at t2; omega
        rcases this with h | h <;> rw [h] <;> cases q <;> rfl
      have := val_err hK' (k := 2) (by decide) (fun j hj => by
        by_cases h1 : j = 1
        · rw [h1, z1]
        · exact eo j (by omega) h1 (by omega) (by omega) (by omega)) (by rw [hne]; decide)
      rw [this.1, this.2, hne]
      rfl
    · have z2 : errAt (mvM M sn tg sq tm) 2 = 0 := by rw [e2, t2.2 b]; cases q <;> rfl
      by_cases c : 1 ≤ sq ∧ sq ≤ 999999999
      · have z3 : errAt (mvM M sn tg sq tm) 3 = 0 := by
          rw [e3, show stN sq 999999999 = 1 by unfold stN; rw [if_neg (by omega), if_neg (by omega)]]
          cases q <;> rfl
        by_cases d : 0 ≤ tm ∧ tm ≤ 253402300799999
        · have z5 : errAt (mvM M sn tg sq tm) 5 = 0 := by
            rw [e5]
            have : stN tm 253402300799999 = 0 ∨ stN tm 253402300799999 = 1 := by
              unfold stN
              by_cases h0 : tm = 0
              · simp [h0]
              · rw [if_neg h0, if_neg (by omega)]; simp
            rcases this with h | h <;> rw [h] <;> cases q <;> rfl
          have := val_of hK' (fun j hj => by
            by_cases h1 : j = 1
            · rw [h1, z1]
            · by_cases h2 : j = 2
              · rw [h2, z2]
              · by_cases h3 : j = 3
                · rw [h3, z3]
                · by_cases h5 : j = 5
                  · rw [h5, z5]
                  · exact eo j hj h1 h2 h3 h5) (by rw [mv_fit]; exact hF)
          rw [this.1, this.2, if_neg (by simp), if_neg (by simp), if_neg (by simp [c]), if_neg (by simp [d])]
        · have hne : errAt (mvM M sn tg sq tm) 5 = 31 := by
            rw [e5, show stN tm 253402300799999 = 2 by unfold stN; rw [if_neg (by omega), if_pos (by omega)]]
            cases q <;> rfl
          have := val_err hK' (k := 5) (by decide) (fun j hj => by
            by_cases h1 : j = 1
            · rw [h1, z1]
            · by_cases h2 : j = 2
              · rw [h2, z2]
              · by_cases h3 : j = 3
                · rw [h3, z3]
                · exact eo j (by omega) h1 h2 h3 (by omega)) (by rw [hne]; decide)
          rw [this.1, this.2, hne, if_neg (by simp), if_neg (by simp), if_neg (by simp [c]), if_pos d]
          rfl
      · have hne : errAt (mvM M sn tg sq tm) 3 = 31 := by
          rw [e3]
          have : stN sq 999999999 = 0 ∨ stN sq 999999999 = 2 := by
            unfold stN
            by_cases h0 : sq = 0
            · simp [h0]
            · rw [if_neg h0, if_pos (by omega)]; simp
          rcases this with h | h <;> rw [h] <;> cases q <;> rfl
        have := val_err hK' (k := 3) (by decide) (fun j hj => by
          by_cases h1 : j = 1
          · rw [h1, z1]
          · by_cases h2 : j = 2
            · rw [h2, z2]
            · exact eo j (by omega) h1 h2 (by omega) (by omega)) (by rw [hne]; decide)
        rw [this.1, this.2, hne, if_neg (by simp), if_neg (by simp), if_pos c]
        rfl
set_option maxRecDepth 100000 in
set_option maxHeartbeats 4000000 in
theorem MsgMoves_law (M : Msg) (hz : M.ok) (hS : M.okS) (sn : ByteArray) (hsn : sn.size ≤ maxLen) (tg : ByteArray) (htg : tg.size ≤ maxLen) (sq : Int) (hsq : (Lit.int .i64 sq).wf = true) (tm : Int) (htm : (Lit.int .i64 tm).wf = true) (w : World) (hM : Mon w) :
    Calls Tryd.prog 3 #[.agg M.cs, .string sn, .string tg, .int .i64 sq, .int .i64 tm] w fun e w' => e = .returned (.bool true) ∧ Below w.heap.size w w' := by
  obtain ⟨sq0, sq1⟩ := bounds_i64 hsq
  obtain ⟨tm0, tm1⟩ := bounds_i64 htm
  clear hS hsn htg hsq htm
  have HM : Hid (1 < w.heap.size ∧ Mon w ∧ M.ok) := ⟨hM.lt, hM, hz⟩
  have ho : OwnM (w.alloc (.cells M.cs 23)) w.heap.size M := heap_alloc_new w _
  have hb : Below w.heap.size w (w.alloc (.cells M.cs 23)) := (Below.refl _ w).alloc (Nat.le_refl _) _
  have HO1 : Hid (OwnM (w.alloc (.cells M.cs 23)) w.heap.size M ∧ Below w.heap.size w (w.alloc (.cells M.cs 23))) := ⟨ho, hb⟩
  clear ho hb hM hz
  go_enter Tryd.func3, Tryd.ntmps3
  go_upto_region 1 with fail
  generalize w.alloc (.cells M.cs 23) = w1 at *
  generalize hcs : M.cs = CS at *
  go_wp2_with (go_at_call 9; fail)
  refine (shown_any w1 (HM.out.2.1.below HO1.out.2 HM.out.1)).mono ?_
  rintro e w2 ⟨rfl, hb2⟩
  have HO2 : Hid (OwnM w2 w.heap.size M ∧ Below w.heap.size w w2) := ⟨HO1.out.1.below hb2 HO1.out.1.lt, HO1.out.2.trans (hb2.mono HO1.out.2.size)⟩
  clear HO1 hb2
  go_upto_region 2 with fail
  refine wp_region_lit ?_
  refine wpList_loadM HO2.out.1 (.tmp 5) rfl rfl rfl ?_
  simp only [Act.put, List.setIfInBounds_toArray, List.set_cons_zero, List.set_cons_succ]
  rw [hcs]
  go_wp2_with (go_at_call 10; fail)
  have hv := Valid_any M w2 (HM.out.2.1.below HO2.out.2 HM.out.1) HM.out.2.2
  rw [hcs] at hv
  refine hv.mono ?_
  clear hv
  rintro e w3 ⟨rfl, hb3⟩
  have HO3 : Hid (OwnM w3 w.heap.size M ∧ Below w.heap.size w w3) := ⟨HO2.out.1.below hb3 HO2.out.1.lt, HO2.out.2.trans (hb3.mono HO2.out.2.size)⟩
  clear HO2 hb3
  by_cases h0 : valE M = 0
  · have HV : Hid (_ = _) := mv_val sn tg sq tm h0
    generalize valE M = ve at *
    generalize valN M = vn at *
    subst h0
    go_upto_region 5 with fail
    rename_i K hK
    refine wp_region_lit ?_
    refine wpList_loadM HO3.out.1 (.tmp 5) rfl rfl rfl ?_
    refine wpList_runTo rfl (some 14) rfl (.pointer (some ⟨w3.heap.size, 0, none⟩)) (w3.alloc (.cells zeroM.cs 23)) (by kernel_rfl) ?_
    refine wpList_store_row rfl 23 (.tmp 14) (.tmp 34) rfl w3.heap.size M.cs (by rfl) (by rfl) 23 _ (heap_alloc_new w3 _) (by rw [M.cs_size]; kernel_rfl) (by rw [M.cs_size]; kernel_rfl) M.cs_one ?_
    rw [World.setRow_alloc_new]
    refine wpList_nil ?_
    refine hK _ _ ?_
    clear hK K
    simp only [Act.put, List.setIfInBounds_toArray, List.set_cons_zero, List.set_cons_succ]
    rw [hcs]
    have HG : Hid (w.heap.size ≤ w3.heap.size) := HO3.out.2.size
    have HO4 : Hid (OwnM (w3.alloc (.cells CS 23)) w3.heap.size M ∧ Below w.heap.size w (w3.alloc (.cells CS 23))) := ⟨by rw [← hcs]; exact heap_alloc_new w3 _, HO3.out.2.alloc HG.out _⟩
    clear HO3
    generalize w3.alloc (.cells CS 23) = w4 at *
    generalize w3.heap.size = g at *
    have c1 : w4.cell? ⟨g, 1, none⟩ = some (.string (M.s 1)) := HO4.out.1.cell 1 (by decide)
    have f1 := HO4.out.1.frozen 1
    have HO5 : Hid (OwnM (w4.setCell ⟨g, 1, none⟩ (.string sn)) g (M.setS 1 sn) ∧ Below w.heap.size w (w4.setCell ⟨g, 1, none⟩ (.string sn))) := ⟨HO4.out.1.store (cs_setS _ 1 _ (by decide) rfl), HO4.out.2.trans (HO4.out.1.stays HG.out)⟩
    clear HO4
    go_upto_region 7 with fail
    clear c1 f1
    generalize w4.setCell ⟨g, 1, none⟩ (.string sn) = w5 at *
    have c2 : w5.cell? ⟨g, 2, none⟩ = some (.string (M.s 2)) := HO5.out.1.cell 2 (by decide)
    have f2 := HO5.out.1.frozen 2
    have HO6 : Hid (OwnM (w5.setCell ⟨g, 2, none⟩ (.string tg)) g ((M.setS 1 sn).setS 2 tg) ∧ Below w.heap.size w (w5.setCell ⟨g, 2, none⟩ (.string tg))) := ⟨HO5.out.1.store (cs_setS _ 2 _ (by decide) rfl), HO5.out.2.trans (HO5.out.1.stays HG.out)⟩
    clear HO5
    go_upto_region 8 with fail
    clear c2 f2
    generalize w5.setCell ⟨g, 2, none⟩ (.string tg) = w6 at *
    have c3 : w6.cell? ⟨g, 3, none⟩ = some (.int .i64 (M.z 3)) := HO6.out.1.cell 3 (by decide)
    have f3 := HO6.out.1.frozen 3
    have HO7 : Hid (OwnM (w6.setCell ⟨g, 3, none⟩ (.int .i64 sq)) g (((M.setS 1 sn).setS 2 tg).setZ 3 sq) ∧ Below w.heap.size w (w6.setCell ⟨g, 3, none⟩ (.int .i64 sq))) := ⟨HO6.out.1.store (cs_setZ _ 3 _ (by decide) rfl rfl), HO6.out.2.trans (HO6.out.1.stays HG.out)⟩
    clear HO6
    go_upto_region 9 with fail
    clear c3 f3
    generalize w6.setCell ⟨g, 3, none⟩ (.int .i64 sq) = w7 at *
    have c5 : w7.cell? ⟨g, 5, none⟩ = some (.int .i64 (M.z 5)) := HO7.out.1.cell 5 (by decide)
    have f5 := HO7.out.1.frozen 5
    have HO8 : Hid (OwnM (w7.setCell ⟨g, 5, none⟩ (.int .i64 tm)) g (mvM M sn tg sq tm) ∧ Below w.heap.size w (w7.setCell ⟨g, 5, none⟩ (.int .i64 tm))) := ⟨HO7.out.1.store (cs_setZ _ 5 _ (by decide) rfl rfl), HO7.out.2.trans (HO7.out.1.stays HG.out)⟩
    clear HO7
    go_upto_region 10 with fail
    clear c5 f5
    generalize w7.setCell ⟨g, 5, none⟩ (.int .i64 tm) = w8 at *
    have hok : (mvM M sn tg sq tm).ok := fun i => by
      by_cases h5 : i = 5
      · subst h5; exact ⟨tm0, tm1⟩
      · by_cases h3 : i = 3
        · subst h3; exact ⟨sq0, sq1⟩
        · have : (mvM M sn tg sq tm).z i = M.z i := by simp [mvM, Msg.setZ, Msg.setS, h5, h3]
          rw [this]; exact HM.out.2.2 i
    have hv := Valid_any (mvM M sn tg sq tm) w8 (HM.out.2.1.below HO8.out.2 HM.out.1) hok
    have hmv := HV.out
    refine wp_region_lit ?_
    refine wpList_loadM HO8.out.1 (.tmp 14) rfl rfl rfl ?_
    simp only [Act.put, List.setIfInBounds_toArray, List.set_cons_zero, List.set_cons_succ]
    generalize (mvM M sn tg sq tm).cs = CS2 at *
    go_wp2_with (go_at_call 10; fail)
    refine hv.mono ?_
    clear hv hok
    rintro e w9 ⟨rfl, hb9⟩
    have HB9 : Hid (Below w.heap.size w w9) := HO8.out.2.trans (hb9.mono HO8.out.2.size)
    clear HO8 hb9 HM HV HG hcs
    generalize valE (mvM M sn tg sq tm) = vE at *
    generalize valN (mvM M sn tg sq tm) = vN at *
    cases h1 : nmS sn
    · rw [if_pos h1] at hmv
      obtain ⟨rfl, rfl⟩ := Prod.mk.inj hmv
      clear hmv
      go_wp2_with (go_at_call 11; refine (IsName_any _ _).mono ?_; rintro e w9 ⟨rfl, rfl⟩)
      all_goals go_ret
      all_goals exact ⟨by first | rfl | (simp; done) | (exfalso; omega) | (exfalso; simp_all; done) | (exfalso; simp_all; omega), HB9.out⟩
    · rw [if_neg (by simp [h1])] at hmv
      cases h2 : nmS tg
      · rw [if_pos h2] at hmv
        obtain ⟨rfl, rfl⟩ := Prod.mk.inj hmv
        clear hmv
        go_wp2_with (go_at_call 11; refine (IsName_any _ _).mono ?_; rintro e w9 ⟨rfl, rfl⟩)
        all_goals go_ret
        all_goals exact ⟨by first | rfl | (simp; done) | (exfalso; omega) | (exfalso; simp_all; done) | (exfalso; simp_all; omega), HB9.out⟩
      · rw [if_neg (by simp [h2])] at hmv
        by_cases h3 : 1 ≤ sq ∧ sq ≤ 999999999
        · rw [if_neg (by simp [h3])] at hmv
          obtain ⟨h31, h32⟩ := h3
          by_cases h4 : 0 ≤ tm ∧ tm ≤ 253402300799999
          · rw [if_neg (by simp [h4])] at hmv
            obtain ⟨rfl, rfl⟩ := Prod.mk.inj hmv
            obtain ⟨h41, h42⟩ := h4
            clear hmv
            go_wp2_with (go_at_call 11; refine (IsName_any _ _).mono ?_; rintro e w9 ⟨rfl, rfl⟩)
            all_goals go_ret
            all_goals exact ⟨by first | rfl | (simp; done) | (exfalso; omega) | (exfalso; simp_all; done) | (exfalso; simp_all; omega), HB9.out⟩
          · rw [if_pos h4] at hmv
            obtain ⟨rfl, rfl⟩ := Prod.mk.inj hmv
            clear hmv
            by_cases h5 : 0 ≤ tm
            · have h6 : ¬ tm ≤ 253402300799999 := fun h => h4 ⟨h5, h⟩
              go_wp2_with (go_at_call 11; refine (IsName_any _ _).mono ?_; rintro e w9 ⟨rfl, rfl⟩)
              all_goals go_ret
              all_goals exact ⟨by first | rfl | (simp; done) | (exfalso; omega) | (exfalso; simp_all; done) | (exfalso; simp_all; omega), HB9.out⟩
            · go_wp2_with (go_at_call 11; refine (IsName_any _ _).mono ?_; rintro e w9 ⟨rfl, rfl⟩)
              all_goals go_ret
              all_goals exact ⟨by first | rfl | (simp; done) | (exfalso; omega) | (exfalso; simp_all; done) | (exfalso; simp_all; omega), HB9.out⟩
        · rw [if_pos h3] at hmv
          obtain ⟨rfl, rfl⟩ := Prod.mk.inj hmv
          clear hmv
          by_cases h5 : 1 ≤ sq
          · have h6 : ¬ sq ≤ 999999999 := fun h => h3 ⟨h5, h⟩
            go_wp2_with (go_at_call 11; refine (IsName_any _ _).mono ?_; rintro e w9 ⟨rfl, rfl⟩)
            all_goals go_ret
            all_goals exact ⟨by first | rfl | (simp; done) | (exfalso; omega) | (exfalso; simp_all; done) | (exfalso; simp_all; omega), HB9.out⟩
          · go_wp2_with (go_at_call 11; refine (IsName_any _ _).mono ?_; rintro e w9 ⟨rfl, rfl⟩)
            all_goals go_ret
            all_goals exact ⟨by first | rfl | (simp; done) | (exfalso; omega) | (exfalso; simp_all; done) | (exfalso; simp_all; omega), HB9.out⟩
  · have h0b : (valE M != 0) = true := by simp [h0]
    generalize valE M = ve at *
    generalize valN M = vn at *
    go_wp2
    go_ret
    exact ⟨rfl, HO3.out.2⟩

end Go.Proofs.YtdlmaeieoiocdaaDoor
