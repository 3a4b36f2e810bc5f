/-
  listing: beginning, firstBehind, Phase.
-/
import Derived.Test.YtnhkmfofkhhnaaaDoorLNew4
import Derived.Deep.DeepCutAuto
namespace Go.Proofs.YtnhkmfofkhhnaaaDoor
set_option linter.unusedVariables false
open Go.Shelf Go.RowKit Go.Sort Go.Lib

theorem bounds_i64 {n : Int} (h : (Lit.int .i64 n).wf = true) : -9223372036854775808 ≤ n ∧ n ≤ 9223372036854775807 := by
  simp [Lit.wf, IntKind.min, IntKind.max, IntKind.signed, IntKind.bits] at h
  omega
/-- What is told of a day. -/
theorem told_day (n : Nat) (h : n ≤ 2932896) : dnum (dateN n : Int) = some n ∧ dnV (dateN n : Int) = (n : Int) ∧ dtE (dateN n : Int) = 0 ∧ dnB (dateN n : Int) = true ∧ -9223372036854775808 ≤ (dateN n : Int) ∧ (dateN n : Int) ≤ 9223372036854775807 := by
  have hnum := dnum_date h
  have hb := dateN_bounds h
  have e1 : dnV (dateN n : Int) = (n : Int) := by unfold dnV; rw [hnum]
  have e2 : dnB (dateN n : Int) = true := by unfold dnB; rw [hnum]; rfl
  exact ⟨hnum, e1, by unfold dtE; rw [e2]; rfl, e2, by omega, by omega⟩
set_option maxRecDepth 100000 in
set_option maxHeartbeats 400000 in
theorem beginning_any (K : Nat) (mi ph : Int) (w : World) (hM : Mon w) (hK : K ≤ 2932896) (h0 : 0 ≤ mi) (h1 : mi ≤ 1439) :
    Calls Tryd.prog 25 #[.int .i64 (dateN K : Int), .agg #[.int .i64 mi, .int .i64 ph]] w fun e w' => e = .returned (.int .i64 ((K : Int) * 86400000 + mi * 60000)) ∧ Below w.heap.size w w' := by
  obtain ⟨_, e1, e2, _, b0, b1⟩ := told_day K hK
  have hs : ∀ w, Mon w → _ := fun w h => Start_any (dateN K : Int) w h b0 b1
  rw [e1, e2] at hs
  have HM : Hid (Mon (w.alloc (.cells #[.int .i64 mi, .int .i64 ph] 35))) := hM.below ((Below.refl _ w).alloc (Nat.le_refl _) _) hM.lt
  have HB : Hid (Below w.heap.size w (w.alloc (.cells #[.int .i64 mi, .int .i64 ph] 35))) := (Below.refl _ w).alloc (Nat.le_refl _) _
  generalize dateN K = d at *
  clear e1 e2 b0 b1 hM
  go_enter Tryd.func25, Tryd.ntmps25
  go_wp2_with (go_at_call 14; fail)
  refine (hs _ HM.out).mono ?_
  rintro e w1 ⟨rfl, rfl⟩
  go_wp2
  go_ret
  exact ⟨ret_int (by first | rfl | omega | (unfold wrap64; omega)), HB.out⟩
/-- A listing with its calendar. -/
structure LisC (w : World) (L B : Nat) (I : Ins) (C : Nat) (S : Int → Bool) : Prop where
  lis : LisAt w L B I C
  cal : CalAt w C S
  mon : Mon w
theorem LisC.below {w w' : World} {L B C : Nat} {I : Ins} {S : Int → Bool} (h : LisC w L B I C S) (hb : Below w.heap.size w w') : LisC w' L B I C S := ⟨h.lis.below hb, h.cal.below hb, h.mon.below hb h.mon.lt⟩
theorem ins_ok {I : Ins} (h : insB I = true) : syS I.sym = true ∧ (1 ≤ I.lot ∧ I.lot ≤ I.most ∧ I.most ≤ 1000000 ∧ I.most % I.lot = 0) ∧ OkS (fN I.steps) (gN I.steps) I.steps.length ∧ (0 ≤ I.band ∧ I.band ≤ 10000) ∧ OkT (fN I.turns) (gN I.turns) I.turns.length ∧ (-10000 ≤ I.maker ∧ I.maker ≤ 10000) ∧ (0 ≤ I.taker ∧ I.taker ≤ 10000) ∧ May (fN I.steps) (gN I.steps) I.steps.length I.ref := by
  unfold insB lotB feeB at h
  simp only [Bool.and_eq_true, decide_eq_true_eq, wiB_iff] at h
  obtain ⟨⟨⟨⟨⟨⟨h1, h2⟩, h3⟩, h4⟩, h5⟩, h6⟩, h7⟩ := h
  exact ⟨h1, ⟨h2.1.1.1, h2.1.2.1, h2.1.2.2, h2.2⟩, areB_ok h3, h4, tuB_ok h6, h7.1.1, h7.1.2, ((areB_ok h3).may_iff _).1 h5⟩
set_option maxRecDepth 100000 in
set_option maxHeartbeats 1000000 in
theorem firstBehind_any (L B C : Nat) (I : Ins) (S : Int → Bool) (D : Nat) (w : World) (hL : LisC w L B I C S) (hD : D ≤ 2932896) :
    Calls Tryd.prog 26 #[.pointer (some ⟨L, 0, none⟩), .int .i64 (dateN D : Int)] w fun e w' => e = .returned (.int .i64 (fbV S (fN I.turns) I.turns.length D)) ∧ Below w.heap.size w w' := by
  have hok := (ins_ok hL.lis.ok).2.2.2.2.1
  obtain ⟨aS, cS, aT, cT, hblk, _, hT⟩ := hL.lis.blk
  have q6 : w.cell? ⟨L, 6, none⟩ = some (.slice aT I.turns.length cT) := hblk.cell 6
  have q9 : w.cell? ⟨L, 9, none⟩ = some (.pointer (some ⟨C, 0, none⟩)) := hblk.cell 9
  have hlt := hblk.lt
  unfold fbV
  by_cases hm : I.turns.length = 0
  · rw [if_pos hm]
    rw [hm] at q6
    clear hT hblk
    go_enter Tryd.func26, Tryd.ntmps26
    go_wp2
    go_ret
    exact ⟨rfl, Below.refl _ _⟩
  · rw [if_neg hm]
    obtain ⟨hnum, _, _, _, b0, b1⟩ := told_day D hD
    have ha := Add_up C S (dateN D : Int) D w hL.mon hL.cal b0 b1 hnum 1 (by decide) (by decide)
    have hm0 : ((I.turns.length : Int) == 0) = false := beq_false_of_ne (by omega)
    have hm1 : ¬ (I.turns.length : Int) = 0 := by omega
    have hm2 : (0 : Int) < (I.turns.length : Int) := by omega
    have HL : Hid (LisC w L B I C S) := hL
    clear hL hblk
    generalize dateN D = d at *
    cases hg : goUp S D 1 with
    | none =>
      rw [hg] at ha
      simp only [addV, addE] at ha
      go_enter Tryd.func26, Tryd.ntmps26
      go_wp2_with (go_at_call 53; fail)
      refine ha.mono ?_
      rintro e w1 ⟨rfl, hb1⟩
      have HB : Hid (Below w.heap.size w w1) := hb1
      clear hb1
      go_wp2
      go_ret
      exact ⟨rfl, HB.out⟩
    | some K =>
      rw [hg] at ha
      simp only [addV, addE] at ha
      have hK := (goUp_some hg).2.1
      have hbe := fun w' (hb : Below w.heap.size w w') (q : Int) => beginning_any K (fN I.turns 0) (gN I.turns 0) w' (HL.out.mon.below hb HL.out.mon.lt) hK (hok.mn 0 (by omega)).1 (hok.mn 0 (by omega)).2
      have HBE : Hid (∀ w', Below w.heap.size w w' → Calls Tryd.prog 25 #[.int .i64 (dateN K : Int), .agg #[.int .i64 (fN I.turns 0), .int .i64 (gN I.turns 0)]] w' fun e w2 => e = .returned (.int .i64 ((K : Int) * 86400000 + (fN I.turns 0) * 60000)) ∧ Below w'.heap.size w' w2) := fun w' hb => hbe w' hb 0
      clear hbe
      obtain ⟨_, _, b, off, hab, hq⟩ := hT.src.at (by omega)
      obtain ⟨x0, x1⟩ := hq 0 (by omega)
      rw [Nat.zero_mul, Nat.add_zero] at x0 x1
      subst hab
      have hbl : b < w.heap.size := World.block_lt_of_cell? _ _ x0
      clear hq hT hg
      generalize dateN K = dk at *
      go_enter Tryd.func26, Tryd.ntmps26
      go_wp2_with (go_at_call 53; fail)
      refine ha.mono ?_
      rintro e w1 ⟨rfl, hb1⟩
      have HB : Hid (Below w.heap.size w w1) := hb1
      have r6 : w1.cell? ⟨L, 6, none⟩ = some (.slice (some ⟨b, off, none⟩) I.turns.length cT) := by rw [hb1.cell (p := ⟨L, 6, none⟩) hlt]; exact q6
      have y0 : w1.cell? ⟨b, off, none⟩ = some (.int .i64 (fN I.turns 0)) := by rw [hb1.cell (p := ⟨b, _, none⟩) hbl]; exact x0
      have y1 : w1.cell? ⟨b, off + 1, none⟩ = some (.int .i64 (gN I.turns 0)) := by rw [hb1.cell (p := ⟨b, _, none⟩) hbl]; exact x1
      clear hb1
      go_wp2_with (go_at_call 25; fail)
      refine (HBE.out _ HB.out).mono ?_
      rintro e w2 ⟨rfl, hb2⟩
      have HB2 : Hid (Below w.heap.size w w2) := HB.out.trans (hb2.mono HB.out.size)
      clear hb2
      go_wp2
      go_ret
      exact ⟨rfl, HB2.out⟩
set_option maxRecDepth 100000 in
set_option maxHeartbeats 1000000 in
theorem Phase_any (L B C : Nat) (I : Ins) (S : Int → Bool) (z : Int) (w : World) (hL : LisC w L B I C S) :
    Calls Tryd.prog 10 #[.pointer (some ⟨L, 0, none⟩), .int .i64 z] w fun e w' => e = .returned (.tuple #[.int .i64 (phF S (fN I.turns) (gN I.turns) I.turns.length z), .int .i64 (nxF S (fN I.turns) I.turns.length z)]) ∧ Below w.heap.size w w' := by
  have hda := DateOf_any z w hL.mon
  have HL : Hid (LisC w L B I C S) := hL
  cases hT : isT z
  · have e1 : phF S (fN I.turns) (gN I.turns) I.turns.length z = 0 := by unfold phF; rw [hT]; rfl
    have e2 : nxF S (fN I.turns) I.turns.length z = 0 := by unfold nxF; rw [hT]; rfl
    have e3 : doV z = 0 := by unfold doV; rw [hT]; rfl
    have e4 : stE z = 20 := by unfold stE; rw [hT]; rfl
    rw [e1, e2]
    rw [e3, e4] at hda
    clear e1 e2 e3 e4 hT hL
    go_enter Tryd.func10, Tryd.ntmps10
    go_wp2_with (go_at_call 11; fail)
    refine hda.mono ?_
    rintro e w1 ⟨rfl, hb1⟩
    have HB : Hid (Below w.heap.size w w1) := hb1
    clear hb1
    go_wp2
    go_ret2
    exact ⟨rfl, HB.out⟩
  obtain ⟨hD, _⟩ := time_parts hT
  have e3 : doV z = (dateN (dyN z) : Int) := by unfold doV dyN; rw [hT]; rfl
  have e4 : stE z = 0 := by unfold stE; rw [hT]; rfl
  rw [e3, e4] at hda
  have hmi := fun w => Minute_any z w
  rw [e4, hT, if_pos rfl] at hmi
  change ∀ w, Calls Tryd.prog 13 #[.int .i64 z] w fun e w' => e = .returned (.tuple #[.int .i64 (mnV z), .int .i64 0]) ∧ w' = w at hmi
  obtain ⟨_, d1, _, d2, b0, b1⟩ := told_day (dyN z) hD
  have hop := fun w' (hb : Below w.heap.size w w') => Open_any C S (dateN (dyN z) : Int) w' (HL.out.mon.below hb HL.out.mon.lt) (HL.out.cal.below hb) b0 b1
  rw [d1, d2, Bool.true_and, Int.toNat_natCast] at hop
  have hfb := fun w' (hb : Below w.heap.size w w') => firstBehind_any L B C I S (dyN z) w' (HL.out.below hb) hD
  have hbe := fun w' (hb : Below w.heap.size w w') (j : Nat) (hj : j < I.turns.length) => beginning_any (dyN z) (fN I.turns j) (gN I.turns j) w' (HL.out.mon.below hb HL.out.mon.lt) hD ((ins_ok HL.out.lis.ok).2.2.2.2.1.mn j hj).1 ((ins_ok HL.out.lis.ok).2.2.2.2.1.mn j hj).2
  obtain ⟨aS, cS, aT, cT, hblk, _, hTo⟩ := hL.lis.blk
  have q6 : w.cell? ⟨L, 6, none⟩ = some (.slice aT I.turns.length cT) := hblk.cell 6
  have q9 : w.cell? ⟨L, 9, none⟩ = some (.pointer (some ⟨C, 0, none⟩)) := hblk.cell 9
  have hlt := hblk.lt
  have HT : Hid (SrcT w (.slice aT I.turns.length cT) I.turns) := hTo.src
  have h10 := (ins_ok HL.out.lis.ok).2.2.2.2.1.m10
  have HP : Hid (phF S (fN I.turns) (gN I.turns) I.turns.length z = if isOpen S (dyN z) = true then phV (gN I.turns) (nxJ (fN I.turns) I.turns.length (mnV z)) else 0) := by show _ = _; unfold phF; rw [if_pos hT]
  have HX : Hid (nxF S (fN I.turns) I.turns.length z = if isOpen S (dyN z) = true ∧ nxJ (fN I.turns) I.turns.length (mnV z) < I.turns.length then (dyN z : Int) * 86400000 + fN I.turns (nxJ (fN I.turns) I.turns.length (mnV z)) * 60000 else fbV S (fN I.turns) I.turns.length (dyN z)) := by show _ = _; unfold nxF; rw [if_pos hT]
  have HF : Hid ((∀ w', Below w.heap.size w w' → Calls Tryd.prog 26 #[.pointer (some ⟨L, 0, none⟩), .int .i64 (dateN (dyN z) : Int)] w' fun e w2 => e = .returned (.int .i64 (fbV S (fN I.turns) I.turns.length (dyN z))) ∧ Below w'.heap.size w' w2) ∧ (∀ w', Below w.heap.size w w' → ∀ j, j < I.turns.length → Calls Tryd.prog 25 #[.int .i64 (dateN (dyN z) : Int), .agg #[.int .i64 (fN I.turns j), .int .i64 (gN I.turns j)]] w' fun e w2 => e = .returned (.int .i64 ((dyN z : Int) * 86400000 + fN I.turns j * 60000)) ∧ Below w'.heap.size w' w2) ∧ (∀ w', Below w.heap.size w w' → Calls Tryd.prog 12 #[.pointer (some ⟨C, 0, none⟩), .int .i64 (dateN (dyN z) : Int)] w' fun e w2 => e = .returned (.bool (isOpen S (dyN z))) ∧ Below w'.heap.size w' w2)) := ⟨hfb, hbe, hop⟩
  clear hfb hbe hop hblk hTo d1 d2 b0 b1 e3 e4 hT hL HL hD
  generalize phF S (fN I.turns) (gN I.turns) I.turns.length z = RP at *
  generalize nxF S (fN I.turns) I.turns.length z = RX at *
  generalize dyN z = D at *
  generalize mnV z = mi at *
  generalize dateN D = d at *
  cases ho : isOpen S D
  · rw [ho] at HF HP HX
    rw [if_neg (by decide)] at HP
    rw [if_neg (by simp)] at HX
    have e1 := HP.out
    have e2 := HX.out
    subst e1 e2
    clear ho
    go_enter Tryd.func10, Tryd.ntmps10
    go_wp2_with (go_at_call 11; fail)
    refine hda.mono ?_
    rintro e w1 ⟨rfl, hb1⟩
    have HB : Hid (Below w.heap.size w w1) := hb1
    have r9 : w1.cell? ⟨L, 9, none⟩ = some (.pointer (some ⟨C, 0, none⟩)) := by rw [hb1.cell (p := ⟨L, 9, none⟩) hlt]; exact q9
    clear hb1
    go_wp2_with (go_at_call 12; fail)
    refine (HF.out.2.2 _ HB.out).mono ?_
    rintro e w2 ⟨rfl, hb2⟩
    have HB2 : Hid (Below w.heap.size w w2) := HB.out.trans (hb2.mono HB.out.size)
    clear hb2
    go_wp2_with (go_at_call 26; fail)
    refine (HF.out.1 _ HB2.out).mono ?_
    rintro e w3 ⟨rfl, hb3⟩
    have HB3 : Hid (Below w.heap.size w w3) := HB2.out.trans (hb3.mono HB2.out.size)
    clear hb3
    go_wp2
    go_ret2
    exact ⟨rfl, HB3.out⟩
  · rw [ho] at HF HP HX
    rw [if_pos rfl] at HP
    simp only [true_and] at HX
    clear ho
    go_enter Tryd.func10, Tryd.ntmps10
    go_wp2_with (go_at_call 11; fail)
    refine hda.mono ?_
    rintro e w1 ⟨rfl, hb1⟩
    have HB : Hid (Below w.heap.size w w1) := hb1
    have r9 : w1.cell? ⟨L, 9, none⟩ = some (.pointer (some ⟨C, 0, none⟩)) := by rw [hb1.cell (p := ⟨L, 9, none⟩) hlt]; exact q9
    clear hb1
    go_wp2_with (go_at_call 12; fail)
    refine (HF.out.2.2 _ HB.out).mono ?_
    rintro e w2 ⟨rfl, hb2⟩
    have HB2 : Hid (Below w.heap.size w w2) := HB.out.trans (hb2.mono HB.out.size)
    have s6 : w2.cell? ⟨L, 6, none⟩ = some (.slice aT I.turns.length cT) := by rw [HB2.out.cell (p := ⟨L, 6, none⟩) hlt]; exact q6
    clear hb2 HB r9
    go_wp2_with (go_at_call 13; fail)
    refine (hmi _).mono ?_
    rintro e w2 ⟨rfl, rfl⟩
    go_wp2
    go_loopw [8, 12, 37] (fun ph _ i wr => ∃ k : Nat, k ≤ I.turns.length ∧ i = .int .i64 (k : Int) ∧ ph = .int .i64 (phV (gN I.turns) k) ∧ (∀ j, j < k → fN I.turns j ≤ mi) ∧ Below w.heap.size w wr) (fun _ _ i _ => I.turns.length - (intOf i).toNat)
    case atStart => exact ⟨0, Nat.zero_le _, rfl, rfl, fun j hj => by omega, HB2.out⟩
    case round =>
      obtain ⟨k, hk, rfl, rfl, hall, hb⟩ := hrel
      have HW : Hid (Below w.heap.size w wr ∧ ∀ j, j < k → fN I.turns j ≤ mi) := ⟨hb, hall⟩
      clear hall hb
      by_cases hlt' : k < I.turns.length
      · have hki : (k : Int) < (I.turns.length : Int) := by omega
        obtain ⟨_, _, b, off, hab, hq⟩ := (HT.out.below HW.out.1).at (by omega)
        subst hab
        obtain ⟨x0, x1⟩ := hq k hlt'
        have hbl : b < wr.heap.size := World.block_lt_of_cell? _ _ x0
        clear hq
        have HB4 : Hid (Below w.heap.size w (wr.alloc (.cells #[.int .i64 (fN I.turns k), .int .i64 (gN I.turns k)] 35))) := HW.out.1.alloc HW.out.1.size _
        by_cases hmn : mi < fN I.turns k
        · have hj := nxJ_eq (M := fN I.turns) (x := mi) (m := I.turns.length) (j := k) hk HW.out.2 (fun _ => hmn)
          rw [hj] at HP HX
          rw [if_pos hlt'] at HX
          have e1 := HP.out
          have e2 := HX.out
          subst e1 e2
          clear hj
          go_wp2_with (go_at_call 25; fail)
          refine (HF.out.2.1 _ HB4.out k hlt').mono ?_
          rintro e w5 ⟨rfl, hb5⟩
          have HB5 : Hid (Below w.heap.size w w5) := HB4.out.trans (hb5.mono HB4.out.size)
          clear hb5
          go_wp2
          go_ret2
          exact ⟨rfl, HB5.out⟩
        · have HN : Hid (phV (gN I.turns) (k + 1) = gN I.turns k) := by show _ = _; unfold phV; rw [if_neg (by omega)]; rfl
          have HA : Hid (∀ j, j < k + 1 → fN I.turns j ≤ mi) := fun j hj => by
            rcases Nat.lt_or_ge j k with h | h
            · exact HW.out.2 j h
            · rw [show j = k by omega]; omega
          go_wp2
          exact ⟨⟨k + 1, by omega, by go_num, by rw [HN.out], HA.out, HB4.out⟩, by simp [intOf]; omega⟩
      · obtain rfl : k = I.turns.length := by omega
        have hj := nxJ_eq (M := fN I.turns) (x := mi) (m := I.turns.length) (j := I.turns.length) hk HW.out.2 (fun h => absurd h (Nat.lt_irrefl _))
        rw [hj] at HP HX
        rw [if_neg (Nat.lt_irrefl _)] at HX
        have e1 := HP.out
        have e2 := HX.out
        subst e1 e2
        clear hj
        go_wp2_with (go_at_call 26; fail)
        refine (HF.out.1 _ HW.out.1).mono ?_
        rintro e w3 ⟨rfl, hb3⟩
        have HB3 : Hid (Below w.heap.size w w3) := HW.out.1.trans (hb3.mono HW.out.1.size)
        clear hb3
        go_wp2
        go_ret2
        exact ⟨rfl, HB3.out⟩
end Go.Proofs.YtnhkmfofkhhnaaaDoor
