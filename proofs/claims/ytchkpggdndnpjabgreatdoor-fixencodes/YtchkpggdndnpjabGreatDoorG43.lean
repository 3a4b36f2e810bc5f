import Derived.Test.YtchkpggdndnpjabGreatDoorG40
import Derived.Test.YtchkpggdndnpjabGreatDoorG42
import Derived.Laws.EntriesVeiled
import Derived.Deep.DeepCutAuto

namespace Go.Proofs.YtchkpggdndnpjabGreatDoor
set_option linter.unusedVariables false
set_option linter.unusedSimpArgs false
open Go.RowKit Go.Great

theorem TabAt.below {w w' : World} {G : Nat} {mu ma : Nat → Value} (h : TabAt w G mu ma) (hG : G < w.heap.size) (hb : Below w.heap.size w w') : TabAt w' G mu ma :=
  ⟨fun j hj i v hv => by rw [hb.cell (p := ⟨G, j * 7 + i, none⟩) hG]; exact h.1 j hj i v hv, fun j hj => ⟨(h.2 j hj).1.below hb, (h.2 j hj).2.below hb⟩⟩
theorem range_below {w w' : World} {B C : Nat} {l : List Value} (h : w.rangeAt B 0 l) (hb : Below C w w') (hB : B < C) : w'.rangeAt B 0 l := fun j v hv => by rw [hb.cell (p := ⟨B, 0 + j, none⟩) hB]; exact h j v hv
theorem vN_in {M : Msg} (h : M.ok) (i : Nat) : -9223372036854775808 ≤ vN M i ∧ vN M i ≤ 9223372036854775807 := by
  unfold vN
  split
  · decide
  · split
    · unfold trN; split <;> decide
    · exact h i
theorem vS_in {M : Msg} (h : M.okS) (i : Nat) : (vS M i).size ≤ 9223372036854775807 := by
  unfold vS
  split
  · exact Nat.le_trans (h i) (by decide)
  · decide
set_option maxRecDepth 100000 in
set_option maxHeartbeats 8000000 in
theorem refValid_any (M : Msg) (hz : M.ok) (hS : M.okS) (w : World) :
    Calls Tryz.prog 16 #[.agg M.cs] w fun e w' => e = .returned (.tuple #[.int .i64 (valE M), .int .i64 (valN M)]) ∧ Below w.heap.size w w' := by
  have HO := box_own M w
  have HZ : Hid (M.ok ∧ M.okS) := ⟨hz, hS⟩
  clear hz hS
  go_enter Tryz.func16, Tryz.ntmps16
  go_upto_region 1 with fail
  generalize w.alloc (.cells M.cs 23) = w1 at *
  have c0 : w1.cell? ⟨w.heap.size, 0, none⟩ = some (.int .i64 (M.z 0)) := HO.out.1.cell 0 (by decide)
  generalize hcs : M.cs = CS at *
  by_cases k1 : M.z 0 < 1
  · have HV : Hid (valE M = 30 ∧ valN M = 35) := by
      have hK : isK (M.z 0) = false := by simp [isK]; omega
      exact ⟨by simp [valE, hK], by simp [valN, hK]⟩
    go_wp2
    go_ret2
    exact ⟨ret2 (vint HV.out.1.symm) (vint HV.out.2.symm), HO.out.2⟩
  · by_cases k17 : 17 < M.z 0
    · have HV : Hid (valE M = 30 ∧ valN M = 35) := by
        have hK : isK (M.z 0) = false := by simp [isK]; omega
        exact ⟨by simp [valE, hK], by simp [valN, hK]⟩
      go_wp2
      go_ret2
      exact ⟨ret2 (vint HV.out.1.symm) (vint HV.out.2.symm), HO.out.2⟩
    · have HK : Hid (isK (M.z 0) = true) := by show isK (M.z 0) = true; simp [isK]; omega
      go_wp2_with (go_at_call 46; fail)
      refine (Rows_any w1).mono ?_
      rintro e w2 ⟨G, mu, ma, rfl, hG, hT, hb2⟩
      have HT : Hid (TabAt w2 G mu ma ∧ G < w2.heap.size ∧ OwnM w2 w.heap.size M ∧ Below w.heap.size w w2) := ⟨hT, hG, HO.out.1.below hb2 HO.out.1.lt, HO.out.2.trans (hb2.mono HO.out.2.size)⟩
      clear hT hG hb2 HO c0 k1 k17
      go_wp2
      go_loopw [5, 6, 7, 8, 9, 10, 11] (fun i x6 x7 x8 x9 x10 x11 wr => ∃ k : Nat, k ≤ 42 ∧ i = .int .i64 k ∧ Hid (∀ j, j < k → errAt M j = 0) ∧ Hid (Below w2.heap.size w2 wr)) (fun i _ _ _ _ _ _ _ => 42 - (intOf i).toNat)
      case atStart => exact ⟨0, by omega, rfl, fun j hj => by omega, Below.refl _ _⟩
      case round =>
        obtain ⟨k, hk, rfl, he, hb⟩ := hrel
        by_cases hlt : k < 42
        · have hlt' : (k : Int) < 42 := by omega
          have HTr : Hid (TabAt wr G mu ma) := HT.out.1.below HT.out.2.1 hb.out
          have c0 := HTr.out.cell k hlt 0 _ rfl
          have c1 := HTr.out.cell k hlt 1 _ rfl
          have c2 := HTr.out.cell k hlt 2 _ rfl
          have c3 := HTr.out.cell k hlt 3 _ rfl
          have c4 := HTr.out.cell k hlt 4 _ rfl
          have c5 := HTr.out.cell k hlt 5 _ rfl
          have c6 := HTr.out.cell k hlt 6 _ rfl
          rw [Nat.add_zero] at c0
          have hs := HTr.out.2 k hlt
          have hre := row_err M HK.out k hlt
          have HR : Hid (errAt M k ≠ 0 → valE M = errAt M k ∧ valN M = tNum.getD k 0) := fun hne => by
            have hf := firstErr_some hlt he.out hne
            simp [valE, valN, HK.out, hf]
          have HR2 : Hid (errAt M k = 0 → ∀ j, j < k + 1 → errAt M j = 0) := fun h0 j hj => by
            by_cases hjk : j = k
            · rw [hjk, h0]
            · exact he.out j (by omega)
          have HVa : Hid (∀ w', _) := fun w' => val_at M k hlt w'
          have HHa : Hid (∀ w' (c : Bool), SlI w' (mu k) (rMust.getD k []) → SlI w' (ma k) (rMay.getD k []) → _) := fun w' c h1 h2 => refhas_any (M.z 0) (tNum.getD k 0) (rWhat.getD k 0) (rLeast.getD k 0) (rMost.getD k 0) (tOz.getD k false) (mu k) (ma k) _ _ (must_len k hlt) (may_len k hlt) w' h1 h2 h1.form h2.form
          obtain ⟨au, lu, cu, hu⟩ := hs.1.form
          obtain ⟨aa, la, ca, ha⟩ := hs.2.form
          have HMa : Hid (∀ w', _) := fun w' => may_any (tNum.getD k 0) (rWhat.getD k 0) (rLeast.getD k 0) (rMost.getD k 0) (tOz.getD k false) au aa lu cu la ca (vN M k) (vS M k) (vS_in HZ.out.2 k) (vN_in HZ.out.1 k).1 (vN_in HZ.out.1 k).2 w'
          have HSl : Hid (SlI wr (.slice au lu cu) (rMust.getD k []) ∧ SlI wr (.slice aa la ca) (rMay.getD k [])) := by rw [hu, ha] at hs; exact hs
          rw [hu, ha] at HHa
          rw [hu] at c5
          rw [ha] at c6
          clear hs hu ha he HTr
          have hth : thRB M k = (vN M k != 0 || (vS M k).size != 0) := rfl
          generalize hhv : hasRR (M.z 0) (rMust.getD k []) (rMay.getD k []) = hv at *
          have hv3 : hv = 0 ∨ hv = 1 ∨ hv = 2 := by
            rw [← hhv]; unfold hasRR
            split
            · simp
            · split <;> simp
          generalize mayRS (rWhat.getD k 0) (rLeast.getD k 0) (rMost.getD k 0) (vN M k) (vS M k) = fi at *
          generalize thRB M k = th at *
          generalize vN M k = nn at *
          generalize vS M k = ss at *
          generalize tNum.getD k 0 = n at *
          generalize rWhat.getD k 0 = what at *
          generalize rLeast.getD k 0 = least at *
          generalize rMost.getD k 0 = most at *
          generalize tOz.getD k false = oz at *
          generalize rMust.getD k [] = lmu at *
          generalize rMay.getD k [] = lma at *
          have HRE : Hid (errAt M k = refErr hv th fi oz) := hre
          clear hre hhv
          go_upto_region 8 with fail
          have hb1 : Below w2.heap.size w2 (wr.alloc (Obj.cells #[.int .i64 n, .int .i64 what, .int .i64 least, .int .i64 most, .bool oz, .slice au lu cu, .slice aa la ca] 95)) := hb.out.alloc (hb.out.size) _
          have hr1 : (wr.alloc (Obj.cells #[.int .i64 n, .int .i64 what, .int .i64 least, .int .i64 most, .bool oz, .slice au lu cu, .slice aa la ca] 95)).rangeAt wr.heap.size 0 [.int .i64 n, .int .i64 what, .int .i64 least, .int .i64 most, .bool oz, .slice au lu cu, .slice aa la ca] := fun j v hv => by
            rw [Nat.zero_add, cell_of_row _ _ _ _ _ _ (heap_alloc_new wr _)]
            simpa using hv
          have hsz : wr.heap.size < (wr.alloc (Obj.cells #[.int .i64 n, .int .i64 what, .int .i64 least, .int .i64 most, .bool oz, .slice au lu cu, .slice aa la ca] 95)).heap.size := by simp
          have hsl : SlI (wr.alloc (Obj.cells #[.int .i64 n, .int .i64 what, .int .i64 least, .int .i64 most, .bool oz, .slice au lu cu, .slice aa la ca] 95)) (.slice au lu cu) lmu ∧ SlI (wr.alloc (Obj.cells #[.int .i64 n, .int .i64 what, .int .i64 least, .int .i64 most, .bool oz, .slice au lu cu, .slice aa la ca] 95)) (.slice aa la ca) lma := ⟨HSl.out.1.below ((Below.refl _ _).alloc (Nat.le_refl _) _), HSl.out.2.below ((Below.refl _ _).alloc (Nat.le_refl _) _)⟩
          have HW : Hid ((Below w2.heap.size w2 (wr.alloc (Obj.cells #[.int .i64 n, .int .i64 what, .int .i64 least, .int .i64 most, .bool oz, .slice au lu cu, .slice aa la ca] 95)) ∧ SlI (wr.alloc (Obj.cells #[.int .i64 n, .int .i64 what, .int .i64 least, .int .i64 most, .bool oz, .slice au lu cu, .slice aa la ca] 95)) (.slice au lu cu) lmu ∧ SlI (wr.alloc (Obj.cells #[.int .i64 n, .int .i64 what, .int .i64 least, .int .i64 most, .bool oz, .slice au lu cu, .slice aa la ca] 95)) (.slice aa la ca) lma) ∧ wr.heap.size < (wr.alloc (Obj.cells #[.int .i64 n, .int .i64 what, .int .i64 least, .int .i64 most, .bool oz, .slice au lu cu, .slice aa la ca] 95)).heap.size ∧ (wr.alloc (Obj.cells #[.int .i64 n, .int .i64 what, .int .i64 least, .int .i64 most, .bool oz, .slice au lu cu, .slice aa la ca] 95)).rangeAt wr.heap.size 0 [.int .i64 n, .int .i64 what, .int .i64 least, .int .i64 most, .bool oz, .slice au lu cu, .slice aa la ca]) := ⟨⟨hb1, hsl⟩, hsz, hr1⟩
          clear hb hb1 hr1 hsz hsl HSl c0 c1 c2 c3 c4 c5 c6
          generalize wr.alloc (Obj.cells #[.int .i64 n, .int .i64 what, .int .i64 least, .int .i64 most, .bool oz, .slice au lu cu, .slice aa la ca] 95) = w3 at *
          generalize wr.heap.size = B at *
          have d0 : w3.cell? ⟨B, 0, none⟩ = some (.int .i64 n) := by have h := HW.out.2.2 0 _ rfl; rwa [Nat.zero_add] at h
          have HOw : Hid (OwnM w3 w.heap.size M) := HT.out.2.2.1.below HW.out.1.1 HT.out.2.2.1.lt
          refine wp_region_lit ?_
          refine wpList_loadM HOw.out (.tmp 1) rfl rfl rfl ?_
          simp only [Act.put, List.setIfInBounds_toArray, List.set_cons_zero, List.set_cons_succ]
          rw [hcs]
          have hva := HVa.out w3
          rw [hcs] at hva
          go_wp2_with (go_at_call 47; fail)
          refine hva.mono ?_
          rintro e w4 ⟨rfl, hb4⟩
          have HW4 : Hid ((Below w2.heap.size w2 w4 ∧ SlI w4 (.slice au lu cu) lmu ∧ SlI w4 (.slice aa la ca) lma) ∧ B < w4.heap.size ∧ w4.rangeAt B 0 [.int .i64 n, .int .i64 what, .int .i64 least, .int .i64 most, .bool oz, .slice au lu cu, .slice aa la ca]) :=
            ⟨⟨HW.out.1.1.trans (hb4.mono HW.out.1.1.size), HW.out.1.2.1.below hb4, HW.out.1.2.2.below hb4⟩, Nat.lt_of_lt_of_le HW.out.2.1 hb4.size, range_below HW.out.2.2 hb4 HW.out.2.1⟩
          clear HW HVa hva hb4 d0 HOw
          go_upto_region 9 with fail
          go_cut [9] from 22 to 82 (fun b wx => b = .bool th ∧ wx = w4)
          case first => as_aux_lemma =>
            clear HR HR2 HRE HHa HMa HW4
            cases h1 : (nn != 0)
            · rw [h1, Bool.false_or] at hth
              have HTh : Hid (th = (ss.size != 0)) := hth
              clear hth
              have h2 : ss.toList.isEmpty = (ss.size == 0) := isEmpty_size ss
              go_wp2_with fail
              go_meet
              exact ⟨by rw [HTh.out]; first | rfl | (simp [bne]; done), rfl⟩
            · rw [h1, Bool.true_or] at hth
              have HTh : Hid (th = true) := hth
              clear hth
              go_wp2_with fail
              go_meet
              exact ⟨by rw [HTh.out], rfl⟩
          case rest =>
            obtain ⟨rfl, rfl⟩ := hcut
            clear hth
            have HW : Hid ((Below w2.heap.size w2 wc ∧ SlI wc (.slice au lu cu) lmu ∧ SlI wc (.slice aa la ca) lma) ∧ B < wc.heap.size ∧ wc.rangeAt B 0 [.int .i64 n, .int .i64 what, .int .i64 least, .int .i64 most, .bool oz, .slice au lu cu, .slice aa la ca]) := HW4.out
            clear HW4
            have d0 : wc.cell? ⟨B, 0, none⟩ = some (.int .i64 n) := by have h := HW.out.2.2 0 _ rfl; rwa [Nat.zero_add] at h
            have d1 : wc.cell? ⟨B, 1, none⟩ = some (.int .i64 what) := by have h := HW.out.2.2 1 _ rfl; rwa [Nat.zero_add] at h
            have d2 : wc.cell? ⟨B, 2, none⟩ = some (.int .i64 least) := by have h := HW.out.2.2 2 _ rfl; rwa [Nat.zero_add] at h
            have d3 : wc.cell? ⟨B, 3, none⟩ = some (.int .i64 most) := by have h := HW.out.2.2 3 _ rfl; rwa [Nat.zero_add] at h
            have d4 : wc.cell? ⟨B, 4, none⟩ = some (.bool oz) := by have h := HW.out.2.2 4 _ rfl; rwa [Nat.zero_add] at h
            have d5 : wc.cell? ⟨B, 5, none⟩ = some (.slice au lu cu) := by have h := HW.out.2.2 5 _ rfl; rwa [Nat.zero_add] at h
            have d6 : wc.cell? ⟨B, 6, none⟩ = some (.slice aa la ca) := by have h := HW.out.2.2 6 _ rfl; rwa [Nat.zero_add] at h
            have k0 : wc.cell? ⟨w.heap.size, 0, none⟩ = some (.int .i64 (M.z 0)) := (HT.out.2.2.1.below HW.out.1.1 HT.out.2.2.1.lt).cell 0 (by decide)
            go_wp2_with (go_at_call 48; fail)
            refine (HHa.out wc true HW.out.1.2.1 HW.out.1.2.2).mono ?_
            rintro e w5 ⟨rfl, hb5⟩
            have HW5 : Hid (Below w2.heap.size w2 w5 ∧ B < w5.heap.size ∧ w5.rangeAt B 0 [.int .i64 n, .int .i64 what, .int .i64 least, .int .i64 most, .bool oz, .slice au lu cu, .slice aa la ca]) := ⟨HW.out.1.1.trans (hb5.mono HW.out.1.1.size), Nat.lt_of_lt_of_le HW.out.2.1 hb5.size, range_below HW.out.2.2 hb5 HW.out.2.1⟩
            clear HW hb5 HHa d0 d1 d2 d3 d4 d5 d6 k0
            have HW : Hid (Below w2.heap.size w2 w5 ∧ B < w5.heap.size ∧ w5.rangeAt B 0 [.int .i64 n, .int .i64 what, .int .i64 least, .int .i64 most, .bool oz, .slice au lu cu, .slice aa la ca]) := HW5.out
            have d0 : w5.cell? ⟨B, 0, none⟩ = some (.int .i64 n) := by have h := HW.out.2.2 0 _ rfl; rwa [Nat.zero_add] at h
            have d1 : w5.cell? ⟨B, 1, none⟩ = some (.int .i64 what) := by have h := HW.out.2.2 1 _ rfl; rwa [Nat.zero_add] at h
            have d2 : w5.cell? ⟨B, 2, none⟩ = some (.int .i64 least) := by have h := HW.out.2.2 2 _ rfl; rwa [Nat.zero_add] at h
            have d3 : w5.cell? ⟨B, 3, none⟩ = some (.int .i64 most) := by have h := HW.out.2.2 3 _ rfl; rwa [Nat.zero_add] at h
            have d4 : w5.cell? ⟨B, 4, none⟩ = some (.bool oz) := by have h := HW.out.2.2 4 _ rfl; rwa [Nat.zero_add] at h
            have d5 : w5.cell? ⟨B, 5, none⟩ = some (.slice au lu cu) := by have h := HW.out.2.2 5 _ rfl; rwa [Nat.zero_add] at h
            have d6 : w5.cell? ⟨B, 6, none⟩ = some (.slice aa la ca) := by have h := HW.out.2.2 6 _ rfl; rwa [Nat.zero_add] at h
            go_wp2_with (go_at_call 49; fail)
            refine (HMa.out w5).mono ?_
            rintro e w6 ⟨rfl, hb6⟩
            clear HW
            have HW : Hid (Below w2.heap.size w2 w6 ∧ B < w6.heap.size ∧ w6.rangeAt B 0 [.int .i64 n, .int .i64 what, .int .i64 least, .int .i64 most, .bool oz, .slice au lu cu, .slice aa la ca]) := ⟨HW5.out.1.trans (hb6.mono HW5.out.1.size), Nat.lt_of_lt_of_le HW5.out.2.1 hb6.size, range_below HW5.out.2.2 hb6 HW5.out.2.1⟩
            clear HW5 hb6 HMa d0 d1 d2 d3 d4 d5 d6
            have d0 : w6.cell? ⟨B, 0, none⟩ = some (.int .i64 n) := by have h := HW.out.2.2 0 _ rfl; rwa [Nat.zero_add] at h
            have d4 : w6.cell? ⟨B, 4, none⟩ = some (.bool oz) := by have h := HW.out.2.2 4 _ rfl; rwa [Nat.zero_add] at h
            have HB6 : Hid (Below w2.heap.size w2 w6 ∧ Below w.heap.size w w6) := ⟨HW.out.1, HT.out.2.2.2.trans (HW.out.1.mono HT.out.2.2.2.size)⟩
            clear HW
            rcases hv3 with rfl | rfl | rfl
            · cases th
              · have HV : Hid (∀ j, j < k + 1 → errAt M j = 0) := HR2.out (by rw [HRE.out]; simp [refErr])
                clear HR HR2 HRE
                go_wp2
                go_roundw
                case rel => exact ⟨k + 1, by omega, by go_num, HV, HB6.out.1⟩
                case measure => simp [intOf]; omega
              · have HV : Hid (valE M = 32 ∧ valN M = n) := by
                  have e : errAt M k = 32 := by rw [HRE.out]; simp [refErr]
                  have := HR.out (by rw [e]; decide)
                  rw [e] at this
                  exact this
                clear HR HR2 HRE
                go_wp2
                go_quiet (fail)
                go_wp2
                go_ret2
                exact ⟨ret2 (vint HV.out.1.symm) (vint HV.out.2.symm), below_drewN HB6.out.2 _⟩
            · cases th
              · have HV : Hid (∀ j, j < k + 1 → errAt M j = 0) := HR2.out (by rw [HRE.out]; simp [refErr])
                clear HR HR2 HRE
                go_wp2
                go_roundw
                case rel => exact ⟨k + 1, by omega, by go_num, HV, HB6.out.1⟩
                case measure => simp [intOf]; omega
              · cases fi
                · have HV : Hid (valE M = 31 ∧ valN M = n) := by
                    have e : errAt M k = 31 := by rw [HRE.out]; simp [refErr]
                    have := HR.out (by rw [e]; decide)
                    rw [e] at this
                    exact this
                  clear HR HR2 HRE
                  go_wp2
                  go_quiet (fail)
                  go_wp2
                  go_ret2
                  exact ⟨ret2 (vint HV.out.1.symm) (vint HV.out.2.symm), below_drewN HB6.out.2 _⟩
                · have HV : Hid (∀ j, j < k + 1 → errAt M j = 0) := HR2.out (by rw [HRE.out]; simp [refErr])
                  clear HR HR2 HRE
                  go_wp2
                  go_roundw
                  case rel => exact ⟨k + 1, by omega, by go_num, HV, HB6.out.1⟩
                  case measure => simp [intOf]; omega
            · cases th
              · cases oz
                · have HV : Hid (valE M = 31 ∧ valN M = n) := by
                    have e : errAt M k = 31 := by rw [HRE.out]; simp [refErr]
                    have := HR.out (by rw [e]; decide)
                    rw [e] at this
                    exact this
                  clear HR HR2 HRE
                  go_wp2
                  go_quiet (fail)
                  go_wp2
                  go_ret2
                  exact ⟨ret2 (vint HV.out.1.symm) (vint HV.out.2.symm), below_drewN HB6.out.2 _⟩
                · have HV : Hid (∀ j, j < k + 1 → errAt M j = 0) := HR2.out (by rw [HRE.out]; simp [refErr])
                  clear HR HR2 HRE
                  go_wp2
                  go_roundw
                  case rel => exact ⟨k + 1, by omega, by go_num, HV, HB6.out.1⟩
                  case measure => simp [intOf]; omega
              · cases fi
                · have HV : Hid (valE M = 31 ∧ valN M = n) := by
                    have e : errAt M k = 31 := by rw [HRE.out]; simp [refErr]
                    have := HR.out (by rw [e]; decide)
                    rw [e] at this
                    exact this
                  clear HR HR2 HRE
                  go_wp2
                  go_quiet (fail)
                  go_wp2
                  go_ret2
                  exact ⟨ret2 (vint HV.out.1.symm) (vint HV.out.2.symm), below_drewN HB6.out.2 _⟩
                · have HV : Hid (∀ j, j < k + 1 → errAt M j = 0) := HR2.out (by rw [HRE.out]; simp [refErr])
                  clear HR HR2 HRE
                  go_wp2
                  go_roundw
                  case rel => exact ⟨k + 1, by omega, by go_num, HV, HB6.out.1⟩
                  case measure => simp [intOf]; omega
        · obtain rfl : k = 42 := by omega
          have HR : Hid (valE M = (if fitN M = 0 then 0 else 31) ∧ valN M = fitN M) := by
            have hf := firstErr_none he.out
            show valE M = _ ∧ valN M = _
            simp [valE, valN, HK.out, hf]
          have HOw : Hid (OwnM wr w.heap.size M ∧ Below w.heap.size w wr) := ⟨HT.out.2.2.1.below hb.out HT.out.2.2.1.lt, HT.out.2.2.2.trans (hb.out.mono HT.out.2.2.2.size)⟩
          have hnn := fitN_nn M
          have hft := fits_any M wr
          rw [hcs] at hft
          clear he hb
          go_upto_region 18 with fail
          refine wp_region_lit ?_
          refine wpList_loadM HOw.out.1 (.tmp 1) rfl rfl rfl ?_
          simp only [Act.put, List.setIfInBounds_toArray, List.set_cons_zero, List.set_cons_succ]
          rw [hcs]
          generalize fitN M = fn at *
          go_wp2_with (go_at_call 50; fail)
          refine hft.mono ?_
          rintro e w4 ⟨rfl, hb4⟩
          have HB4 : Hid (Below w.heap.size w w4) := HOw.out.2.trans (hb4.mono HOw.out.2.size)
          clear HOw hb4 hft
          by_cases h0 : fn = 0
          · subst h0
            go_wp2
            go_ret2
            exact ⟨ret2 (vint (by rw [HR.out.1]; rfl)) (vint HR.out.2.symm), HB4.out⟩
          · have h0' : 0 < fn := by omega
            go_wp2
            go_ret2
            exact ⟨ret2 (vint (by rw [HR.out.1, if_neg h0])) (vint HR.out.2.symm), HB4.out⟩
end Go.Proofs.YtchkpggdndnpjabGreatDoor
