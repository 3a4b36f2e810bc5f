/-
  ListingPhases: the walk.
-/
import Derived.Test.YtnhkmfofkhhnaaaDoorLTurn
import Derived.Deep.RegionLaw
import Derived.Deep.RegionHeld3
import Derived.Deep.CutBlock
namespace Go.Proofs.YtnhkmfofkhhnaaaDoor
set_option linter.unusedVariables false
set_option linter.unusedSimpArgs false
open Go.Shelf Go.RowKit Go.Sort Go.Lib

theorem td300 {x : Int} (h0 : -9223372036854775808 ≤ x) (h1 : x ≤ 9223372036854775807) : -9223372036854775808 ≤ x.tdiv 300 ∧ x.tdiv 300 ≤ 9223372036854775807 := by
  rcases Int.le_total 0 x with h | h
  · rw [Int.tdiv_eq_ediv_of_nonneg h]; omega
  · have : x.tdiv 300 = -((-x).tdiv 300) := by rw [Int.neg_tdiv, Int.neg_neg]
    rw [this, Int.tdiv_eq_ediv_of_nonneg (by omega)]; omega
theorem callR {P : Program} {op : Oper} {a : Act} {w : World} {K : Act → World → Prop} {Q : Exit → Act → World → Prop} {d : Option Tmp} (hd : op.dst = d)
    (f : FuncId) (args : Array Value) (hrun : (execOp a.eval op).run P w = .ok (.enter f args) w) {R : Ending → World → Prop} (hc : Calls P f args w R)
    (h : ∀ e w', R e w' → ∃ v, e = .returned v ∧ K (a.put d v) w') : op.wp P a w K Q := by
  subst hd
  unfold Oper.wp
  rw [hrun, Oper.upon_enter]
  refine hc.mono fun e w'' hh => ?_
  obtain ⟨v, rfl, hw⟩ := h _ _ hh
  exact hw
set_option maxRecDepth 100000 in
set_option maxHeartbeats 8000000 in
theorem ListingPhases_law (a : Option Addr) (n c : Nat) (d : Nat → Int) (z : Int) (w : World) (hs : SrcI w a n d) (hn : n ≤ maxLen) (z0 : -9223372036854775808 ≤ z) (z1 : z ≤ 9223372036854775807) (hM : Mon w) :
    Calls Tryd.prog 3 #[.slice a n c, .int .i64 z] w fun e w' => e = .returned (.bool true) ∧ Below w.heap.size w w' := by
  have HM : Hid (Mon w ∧ SrcI w a n d) := ⟨hM, hs⟩
  clear hM hs
  go_enter Tryd.func3, Tryd.ntmps3
  go_wp2_with (go_at_call 5; fail)
  refine (shown_any _ HM.out.1).mono ?_
  rintro e w1 ⟨rfl, hb1⟩
  have H1 : Hid (Below w.heap.size w w1 ∧ Mon w1) := ⟨hb1, HM.out.1.below hb1 HM.out.1.lt⟩
  clear hb1
  go_wp2_with (go_at_call 6; fail)
  refine (NewCal0 _ H1.out.2).mono ?_
  rintro e w2 ⟨C, rfl, hc2, hb2⟩
  have H2 : Hid (Below w.heap.size w w2 ∧ Mon w2 ∧ CalAt w2 C noS) := ⟨H1.out.1.trans (hb2.mono H1.out.1.size), H1.out.2.below hb2 H1.out.2.lt, hc2⟩
  clear hc2 hb2 H1
  go_wp2_with (go_at_call 7; fail)
  refine (example_any _).mono ?_
  rintro e w3 ⟨aS, cS, aT, cT, rfl, ho1, ho2, hb3⟩
  have H3 : Hid (Below w.heap.size w w3 ∧ Mon w3 ∧ CalAt w3 C noS ∧ OwnT 55 w3 w.heap.size (.slice aS 2 cS) exI.steps) := ⟨H2.out.1.trans (hb3.mono H2.out.1.size), H2.out.2.1.below hb3 H2.out.2.1.lt, H2.out.2.2.below hb3, ho1.mono H2.out.1.size⟩
  clear ho1 ho2 hb3 H2
  have HR : Hid (OkT (fN []) (gN []) 0) := OkT.nil
  simp only [exI, Ins.cs]
  go_upto_block 0 with fail
  have HT : Hid (TS w3 (w3.alloc (.cells #[.string ⟨#[65, 66, 67]⟩, .int .i64 10, .int .i64 1000, .slice aS 2 cS, .int .i64 1000, .int .i64 10000, .slice none 0 0, .int .i64 (-20), .int .i64 30] 31)) w3.heap.size (.slice aS 2 cS) none 0 []) := ⟨(Below.refl _ w3).alloc (Nat.le_refl _) _, Nat.le_refl _, Blk.new _ _ _, OwnT.nil _ _ _, HR.out⟩
  clear HR
  generalize w3.alloc (.cells #[.string ⟨#[65, 66, 67]⟩, .int .i64 10, .int .i64 1000, .slice aS 2 cS, .int .i64 1000, .int .i64 10000, .slice none 0 0, .int .i64 (-20), .int .i64 30] 31) = w4 at *
  go_cut [9] (fun _ wx => ∃ aT cT T, TS w3 wx w3.heap.size (.slice aS 2 cS) aT cT T)
  case first =>
    go_wp2
    go_loopw [9, 10, 11] (fun ls i _ wr => ∃ (T : List (Int × Int)) (aT : Option Addr) (cT : Nat), T.length ≤ n ∧ i = .int .i64 (T.length : Int) ∧ ls = .int .i64 (laV T) ∧ TS w3 wr w3.heap.size (.slice aS 2 cS) aT cT T) (fun _ i _ _ => n - (intOf i).toNat)
    case atStart => exact ⟨[], none, 0, Nat.zero_le _, rfl, rfl, HT.out⟩
    case round =>
      obtain ⟨T, aT, cT, hTn, rfl, rfl, hts⟩ := hrel
      have HS : Hid (TS w3 wr w3.heap.size (.slice aS 2 cS) aT cT T) := hts
      clear hts HT
      by_cases hn' : T.length < n
      · have hni : (T.length : Int) < (n : Int) := by omega
        by_cases h10 : T.length < 10
        · have h10i : (T.length : Int) < 10 := by omega
          rcases HM.out.2.below (H3.out.1.trans (HS.out.below.mono H3.out.1.size)) with h | ⟨b, off, rfl, hr⟩
          · omega
          obtain ⟨hc, hd0, hd1⟩ := hr T.length hn'
          clear hr
          generalize d T.length = dk at *
          have hbw : b < wr.heap.size := World.block_lt_of_cell? _ _ hc
          have hpk := fun w => pick_any dk 300 w hd0 hd1 (by decide) (by decide)
          obtain ⟨p0, p1⟩ := pkN_bd (c := dk) (n := 300) (by decide)
          generalize pkN dk 300 = pk at *
          obtain ⟨l0, l1, _⟩ := laV_bd HS.out.ok
          have hw1 : wrap64 (laV T + 1) = laV T + 1 := by unfold wrap64; omega
          have hw2 : wrap64 (laV T + 1 + pk) = laV T + 1 + pk := by unfold wrap64; omega
          by_cases hm : 1439 < laV T + 1 + pk
          · go_wp2_with (go_at_call 8; fail)
            refine (hpk _).mono ?_
            rintro e w5 ⟨rfl, rfl⟩
            go_wp2
            go_meet
            exact ⟨aT, cT, T, HS.out⟩
          · have hdq : -9223372036854775808 ≤ dk.tdiv 300 ∧ dk.tdiv 300 ≤ 9223372036854775807 := td300 hd0 hd1
            have hpk2 := fun w => pick_any (dk.tdiv 300) 4 w hdq.1 hdq.2 (by decide) (by decide)
            obtain ⟨q0, q1⟩ := pkN_bd (c := dk.tdiv 300) (n := 4) (by decide)
            generalize pkN (dk.tdiv 300) 4 = qk at *
            obtain ⟨K, rfl⟩ : ∃ K : Nat, qk = K := ⟨qk.toNat, by omega⟩
            go_wp2_with (go_at_call 8; fail)
            refine (hpk _).mono ?_
            rintro e wr ⟨rfl, rfl⟩
            go_upto_region 11 with fail
            have hK4 : K < 4 := by omega
            obtain ⟨hph, hpc⟩ := phs4 K hK4
            have hpc4 := fun w => (Blk.new w 3 #[Value.int .i64 0, .int .i64 1, .int .i64 3, .int .i64 5]).cell K
            rw [hph] at hpc4
            clear hph
            generalize ([0, 1, 3, 5] : List Int).getD K 0 = ph at *
            have q6 : wr.cell? ⟨w3.heap.size, 6, none⟩ = some (.slice aT T.length cT) := HS.out.blk.cell 6
            have hgl := HS.out.blk.lt
            have hwq : wrap64 (dk.tdiv 300) = dk.tdiv 300 := by unfold wrap64; omega
            have hwq2 : IntKind.i64.wrap (dk.tdiv 300) = dk.tdiv 300 := by first | exact hwq | (rw [IntKind.wrap_i64]; omega) | (unfold IntKind.wrap; simp [IntKind.signed, IntKind.bits]; omega)
            have hpk3 : ∀ w, Calls Tryd.prog 8 #[.int .i64 (IntKind.i64.wrap (dk.tdiv 300)), .int .i64 4] w fun e w' => e = .returned (.int .i64 (K : Int)) ∧ w' = w := fun w => by rw [hwq2]; exact hpk2 w
            clear hwq hwq2 hpk2
            have hk0 : (0 : Int) ≤ (K : Int) := by omega
            have hk1 : (K : Int) < 4 := by omega
            have hk2 : decide ((K : Int) < 4) = true := by simp; omega
            have hk3 : (K : Int).toNat = K := by omega
            have ht0 : (0 : Int) ≤ (T.length : Int) := by omega
            have ht2 : decide ((T.length : Int) < (n : Int)) = true := by simp; omega
            have ht3 : (T.length : Int).toNat = T.length := by omega
            have hget : ∀ h : K < ([.int .i64 0, .int .i64 1, .int .i64 3, .int .i64 5] : List Value).length, ([.int .i64 0, .int .i64 1, .int .i64 3, .int .i64 5] : List Value)[K]'h = .int .i64 ph := fun h => by
              have e := hpc4 wr
              rw [(Blk.new wr 3 #[Value.int .i64 0, .int .i64 1, .int .i64 3, .int .i64 5]).cell K] at e
              simpa using (List.getElem?_eq_some_iff.1 (by simpa using e)).2
            have HROW : Hid (((wr.alloc (.cells #[.int .i64 0, .int .i64 1, .int .i64 3, .int .i64 5] 3)).alloc (.cells #[.int .i64 (laV T + 1 + pk), .int .i64 ph] 35)).drew.ownsRow w3.heap.size 35 2 (.slice aT T.length cT) T.length (tcs T)) := (show OwnT 35 _ w3.heap.size (.slice aT T.length cT) T from HS.out.tur.keep fun q _ hq => (heap_alloc_old (wr.alloc (.cells #[.int .i64 0, .int .i64 1, .int .i64 3, .int .i64 5] 3)) _ (by simp; omega)).trans (heap_alloc_old wr _ hq))
            have HNEW : Hid (∀ j u, ([.int .i64 (laV T + 1 + pk), .int .i64 ph] : List Value)[j]? = some u → ((wr.alloc (.cells #[.int .i64 0, .int .i64 1, .int .i64 3, .int .i64 5] 3)).alloc (.cells #[.int .i64 (laV T + 1 + pk), .int .i64 ph] 35)).drew.cell? ((⟨wr.heap.size + 1, 0, none⟩ : Addr).add j) = some u) := by
              have h := World.news_of_block (heap_alloc_new (wr.alloc (.cells #[.int .i64 0, .int .i64 1, .int .i64 3, .int .i64 5] 3)) (.cells #[.int .i64 (laV T + 1 + pk), .int .i64 ph] 35))
              intro j u hj
              have h2 := h j u (by simpa using hj)
              simpa using h2
            have hsz := HS.out.below.size
            obtain ⟨i0, hi, hz0, hz1, hz2⟩ := info_parts infoT
            have HAPP : Hid (∀ g2 cap w6, w6.ownsRow w3.heap.size 35 2 (.slice (some ⟨g2, 0, none⟩) (T.length + 1) cap) (T.length + 1) (tcs T ++ [.int .i64 (laV T + 1 + pk), .int .i64 ph]) → ((wr.alloc (.cells #[.int .i64 0, .int .i64 1, .int .i64 3, .int .i64 5] 3)).alloc (.cells #[.int .i64 (laV T + 1 + pk), .int .i64 ph] 35)).drew.grownBy w6 (Value.slice aT T.length cT).ownBlock → TS w3 (w6.setCell ⟨w3.heap.size, 6, none⟩ (.slice (some ⟨g2, 0, none⟩) (T.length + 1) cap)) w3.heap.size (.slice aS 2 cS) (some ⟨g2, 0, none⟩) cap (T ++ [(laV T + 1 + pk, ph)]) ∧ w6.cell? ⟨w3.heap.size, 6, none⟩ = some (.slice aT T.length cT) ∧ w6.frozen? ⟨w3.heap.size, 6, none⟩ = false) := fun g2 cap w6 h1 h2 => HS.out.drew.app rfl h10 (by omega) (by omega) (by omega) hpc h1 h2
            have HLV : Hid (laV (T ++ [(laV T + 1 + pk, ph)]) = laV T + 1 + pk) := laV_app _ _ _
            clear hpc hpc4 hdq hpk l0 l1 p0 p1 q0 q1 hd0 hd1 hw1 hw2
            generalize laV T + 1 + pk = mm at *
            go_region_law (first
              | (refine step_append_lies _ (by rfl) _ _ _ (by rfl) w3.heap.size 35 i0 _ 2 16 Tryd.underlying29 hi hz0 hz1 hz2 rfl (by omega) (.slice aT T.length cT) T.length (tcs T) (by rfl) HROW.out ⟨wr.heap.size + 1, 0, none⟩ 1 1 [.int .i64 mm, .int .i64 ph] (by rfl) (by rfl) HNEW.out (by simp [Value.oneCell']) (by omega) (by unfold maxLen; omega) (by omega) (by simp; omega) (wr.heap.size + 2) (by simp) ?_; intro g2 cap w6 hown1 hgrow hat hlt1; obtain ⟨x0, x1, x2⟩ := HAPP.out _ _ _ hown1 hgrow)
              | (rw [if_pos (by kernel_rfl)]; refine callR (d := some 71) rfl 8 #[.int .i64 (IntKind.i64.wrap (dk.tdiv 300)), .int .i64 4] (by kernel_rfl) (hpk3 _) ?_; rintro e w5 ⟨rfl, rfl⟩; refine ⟨_, rfl, ?_⟩))
            all_goals
              have HX : Hid (TS w3 (w6.setCell ⟨w3.heap.size, 6, none⟩ (.slice (some ⟨g2, 0, none⟩) (T.length + 1) cap)) w3.heap.size (.slice aS 2 cS) (some ⟨g2, 0, none⟩) cap (T ++ [(mm, ph)])) := x0
              clear x0 x1 x2 hown1 hgrow hat hlt1
              generalize w6.setCell ⟨w3.heap.size, 6, none⟩ (.slice (some ⟨g2, 0, none⟩) (T.length + 1) cap) = w7 at *
              go_wp2
              exact ⟨⟨T ++ [(mm, ph)], some ⟨g2, 0, none⟩, cap, by simp; omega, by rw [show (T ++ [(mm, ph)]).length = T.length + 1 by simp]; go_num, by rw [HLV.out], HX.out⟩, by simp [intOf]; omega⟩
        · have h10i : ¬ (T.length : Int) < 10 := by omega
          go_wp2
          go_meet
          exact ⟨aT, cT, T, HS.out⟩
      · have hni : ¬ (T.length : Int) < (n : Int) := by omega
        go_wp2
        go_meet
        exact ⟨aT, cT, T, HS.out⟩
  case rest =>
    obtain ⟨aT, cT, T, hts⟩ := hcut
    generalize wc = wb at *
    have HS : Hid (TS w3 wb w3.heap.size (.slice aS 2 cS) aT cT T) := hts
    have HW : Hid (Below w.heap.size w wb ∧ Mon wb ∧ CalAt wb C noS ∧ SrcT wb (.slice aS 2 cS) (phI T).steps ∧ SrcT wb (.slice aT T.length cT) T) := ⟨H3.out.1.trans (hts.below.mono H3.out.1.size), H3.out.2.1.below hts.below H3.out.2.1.lt, H3.out.2.2.1.below hts.below, H3.out.2.2.2.src.below hts.below, hts.tur.src⟩
    have q0 : wb.cell? ⟨w3.heap.size, 0, none⟩ = some (.string ⟨#[65, 66, 67]⟩) := hts.blk.cell 0
    have q1 : wb.cell? ⟨w3.heap.size, 1, none⟩ = some (.int .i64 10) := hts.blk.cell 1
    have q2 : wb.cell? ⟨w3.heap.size, 2, none⟩ = some (.int .i64 1000) := hts.blk.cell 2
    have q3 : wb.cell? ⟨w3.heap.size, 3, none⟩ = some (.slice aS 2 cS) := hts.blk.cell 3
    have q4 : wb.cell? ⟨w3.heap.size, 4, none⟩ = some (.int .i64 1000) := hts.blk.cell 4
    have q5 : wb.cell? ⟨w3.heap.size, 5, none⟩ = some (.int .i64 10000) := hts.blk.cell 5
    have q6 : wb.cell? ⟨w3.heap.size, 6, none⟩ = some (.slice aT T.length cT) := hts.blk.cell 6
    have q7 : wb.cell? ⟨w3.heap.size, 7, none⟩ = some (.int .i64 (-20)) := hts.blk.cell 7
    have q8 : wb.cell? ⟨w3.heap.size, 8, none⟩ = some (.int .i64 30) := hts.blk.cell 8
    clear hts HT H3
    have hnew := New_yes (phI T) aS aT cS cT C wb HW.out.2.2.2.1 HW.out.2.2.2.2 (insB_phI HS.out.ok) (by show 2 ≤ 8; decide) HS.out.ok.m10
    simp only [phI, Ins.cs] at hnew
    go_wp2_with (go_at_call 9; fail)
    refine hnew.mono ?_
    clear hnew
    rintro e wd ⟨L, rfl, hl, hbd⟩
    have HD : Hid (Below w.heap.size w wd ∧ LisC wd L wb.heap.size (phI T) C noS ∧ Below wb.heap.size wb wd) := ⟨HW.out.1.trans (hbd.mono HW.out.1.size), ⟨hl, HW.out.2.2.1.below hbd, HW.out.2.1.below hbd HW.out.2.1.lt⟩, hbd⟩
    clear hl hbd q0 q1 q2 q3 q4 q5 q7 q8
    go_upto_if 98 with fail
    obtain ⟨tb0, tb1⟩ := tm_bd z
    go_cut [14] (fun v wx => ∃ tt : Int, v = .int .i64 tt ∧ 0 ≤ tt ∧ tt ≤ 253402300799999 ∧ wx = wd)
    case first =>
      by_cases hneg : z.tmod 253402300800000 < 0
      · have hw : wrap64 (-(z.tmod 253402300800000)) = -(z.tmod 253402300800000) := by unfold wrap64; omega
        have hw2 : wrap64 (z.tmod 253402300800000) = z.tmod 253402300800000 := by unfold wrap64; omega
        go_wp2_with fail
        all_goals go_meet
        all_goals exact ⟨-(z.tmod 253402300800000), by first | rfl | rw [hw], by omega, by omega, rfl⟩
      · have hw2 : wrap64 (z.tmod 253402300800000) = z.tmod 253402300800000 := by unfold wrap64; omega
        go_wp2_with fail
        all_goals go_meet
        all_goals exact ⟨z.tmod 253402300800000, rfl, by omega, by omega, rfl⟩
    case rest =>
      obtain ⟨tt, rfl, t0, t1, rfl⟩ := hcut
      clear tb0 tb1
      have hT : isT tt = true := (isT_iff tt).2 ⟨t0, t1⟩
      obtain ⟨hD, _⟩ := time_parts hT
      obtain ⟨e1, e2⟩ := told_time hT
      have hpha := fun w' (h : LisC w' L wb.heap.size (phI T) C noS) (x : Int) => Phase_any L wb.heap.size C (phI T) noS x w' h
      have HPH : Hid (∀ w', LisC w' L wb.heap.size (phI T) C noS → ∀ x : Int, Calls Tryd.prog 10 #[.pointer (some ⟨L, 0, none⟩), .int .i64 x] w' fun e w2 => e = .returned (.tuple #[.int .i64 (phF noS (fN T) (gN T) T.length x), .int .i64 (nxF noS (fN T) T.length x)]) ∧ Below w'.heap.size w' w2) := hpha
      clear hpha
      have hda := fun w' (h : Mon w') => DateOf_any tt w' h
      rw [e1, e2] at hda
      have HTT : Hid (isT tt = true) := hT
      clear e1 e2 hT
      have HOPN : Hid (∀ w', LisC w' L wb.heap.size (phI T) C noS → ∀ K : Nat, K ≤ 2932896 → Calls Tryd.prog 12 #[.pointer (some ⟨C, 0, none⟩), .int .i64 (dateN K : Int)] w' fun e w2 => e = .returned (.bool (isOpen noS K)) ∧ Below w'.heap.size w' w2) := fun w' h K hK => by
        obtain ⟨_, d1, _, d2, b0, b1⟩ := told_day K hK
        have := Open_any C noS (dateN K : Int) w' h.mon h.cal b0 b1
        rw [d1, d2, Bool.true_and, Int.toNat_natCast] at this
        exact this
      have HQ6 : Hid (∀ w', Below wb.heap.size wb w' → w'.cell? ⟨w3.heap.size, 6, none⟩ = some (.slice aT T.length cT)) := fun w' hb => (HS.out.blk.below hb HS.out.blk.lt).cell 6
      clear q6
      go_wp2_with (go_at_call 10; fail)
      refine (HPH.out _ HD.out.2.1 tt).mono ?_
      rintro e we ⟨rfl, hbe⟩
      have HE : Hid (Below w.heap.size w we ∧ LisC we L wb.heap.size (phI T) C noS ∧ Below wb.heap.size wb we) := ⟨HD.out.1.trans (hbe.mono HD.out.1.size), HD.out.2.1.below hbe, HD.out.2.2.trans (hbe.mono HD.out.2.2.size)⟩
      clear hbe HD
      go_wp2_with (go_at_call 11; fail)
      refine (hda _ HE.out.2.1.mon).mono ?_
      rintro e wf ⟨rfl, hbf⟩
      have HF : Hid (Below w.heap.size w wf ∧ LisC wf L wb.heap.size (phI T) C noS ∧ Below wb.heap.size wb wf) := ⟨HE.out.1.trans (hbf.mono HE.out.1.size), HE.out.2.1.below hbf, HE.out.2.2.trans (hbf.mono HE.out.2.2.size)⟩
      clear hbf HE hda
      go_wp2_with (go_at_call 12; fail)
      refine (HOPN.out _ HF.out.2.1 (dyN tt) hD).mono ?_
      rintro e wg ⟨rfl, hbg⟩
      have HG : Hid (Below w.heap.size w wg ∧ LisC wg L wb.heap.size (phI T) C noS ∧ Below wb.heap.size wb wg) := ⟨HF.out.1.trans (hbg.mono HF.out.1.size), HF.out.2.1.below hbg, HF.out.2.2.trans (hbg.mono HF.out.2.2.size)⟩
      clear hbg HF
      have q6 : wg.cell? ⟨w3.heap.size, 6, none⟩ = some (.slice aT T.length cT) := HQ6.out _ HG.out.2.2
      by_cases hm : T.length = 0
      · obtain ⟨z1, z2⟩ := ph_none (S := noS) (M := fN T) (P := gN T) (z := tt)
        rw [hm] at q6 ⊢
        rw [z1, z2]
        clear z1 z2
        generalize isOpen noS (dyN tt) = op at *
        go_wp2
        go_ret
        exact ⟨rfl, HG.out.1⟩
      have hm0 : ((T.length : Int) == 0) = false := beq_false_of_ne (by omega)
      have HCASE : Hid (_) := nx_told (M := fN T) (P := gN T) (m := T.length) HTT.out HS.out.ok (by omega)
      have HSH : Hid (isOpen noS (dyN tt) = false → phF noS (fN T) (gN T) T.length tt = 0) := fun h => ph_shut h
      generalize hp0 : phF noS (fN T) (gN T) T.length tt = p0 at *
      generalize hx0 : nxF noS (fN T) T.length tt = x0 at *
      generalize hopn : isOpen noS (dyN tt) = op at *
      clear hp0 hx0 hopn HTT
      generalize dyN tt = D at *
      go_upto_region 22 with fail
      go_cut [126] (fun v wx => v = .bool false ∧ wx = wg)
      case first =>
        cases op
        · have hz := HSH.out rfl
          subst hz
          go_wp2_with fail
          all_goals go_meet
          all_goals exact ⟨rfl, rfl⟩
        · go_wp2_with fail
          all_goals go_meet
          all_goals exact ⟨rfl, rfl⟩
      case rest =>
        obtain ⟨rfl, hw⟩ := hcut
        obtain rfl := hw.symm
        clear hw HSH hm hm0
        rcases HCASE.out with ⟨hx0, hlate⟩ | ⟨K, j, hx, hK, hKo, hj, hlt, hph, hpos, hrest⟩
        · subst hx0
          go_wp2
          go_ret
          exact ⟨ret_bool (by simp [hlate]), HG.out.1⟩
        · clear HCASE
          have hmj := HS.out.ok.mn j hj
          have HU : Hid (∀ i, i < T.length → fN T i = fN T j → i = j) := fun i hi he => by
            rcases Nat.lt_trichotomy i j with h | h | h
            · have := HS.out.ok.mono h hj; omega
            · exact h
            · have := HS.out.ok.mono h hi; omega
          have hr0 : 0 ≤ fN T j * 60000 := by omega
          have hr1 : fN T j * 60000 < 86400000 := by omega
          have hXT := isT_day (D := K) hK hr0 hr1
          obtain ⟨y1, y2⟩ := dy_of (D := K) hr0 hr1
          have hYT : (K : Int) * 86400000 + fN T j * 60000 ≤ 253402300799999 := ((isT_iff _).1 hXT).2
          have hmul : fN T j * 60000 / 60000 = fN T j := by omega
          obtain ⟨e1, e2⟩ := told_time hXT
          rw [y1] at e1
          have hda := fun w' (h : Mon w') => DateOf_any ((K : Int) * 86400000 + fN T j * 60000) w' h
          rw [e1, e2] at hda
          have hmi := fun w => Minute_any ((K : Int) * 86400000 + fN T j * 60000) w
          rw [e2, hXT, if_pos rfl, show ((K : Int) * 86400000 + fN T j * 60000) % 86400000 / 60000 = fN T j from y2.trans hmul] at hmi
          obtain ⟨_, d1, d2, _, b0, b1⟩ := told_day K hK
          have hst := fun w h => Start_any (dateN K : Int) w h b0 b1
          rw [d1, d2] at hst
          have h60 : ((K : Int) * 86400000 + fN T j * 60000) % 60000 = 0 := by omega
          have HDD : Hid ((K = D ↔ dateN K = dateN D) ∧ K ≤ 2932896) := ⟨⟨fun h => by rw [h], fun h => by
            rcases Nat.lt_trichotomy K D with h1 | h1 | h1
            · have := dateN_lt h1 hD; omega
            · exact h1
            · have := dateN_lt h1 hK; omega⟩, hK⟩
          have HPJ : Hid (phF noS (fN T) (gN T) T.length ((K : Int) * 86400000 + fN T j * 60000) = gN T j) := hph
          have HRS : Hid (_) := hrest
          have HK : Hid (K ≤ 2932896 ∧ isOpen noS K = true) := ⟨hK, hKo⟩
          obtain ⟨X, hX⟩ : ∃ X, X = (K : Int) * 86400000 + fN T j * 60000 := ⟨_, rfl⟩
          rw [← hX] at hx hda hmi h60 hlt hYT
          subst hx
          have hXp : 0 < x0 := by omega
          have hXz : (x0 == 0) = false := beq_false_of_ne (by omega)
          rw [← hX] at HPJ HRS
          have HXX : Hid (x0 = (K : Int) * 86400000 + fN T j * 60000) := hX
          clear hX hph hrest hpos hXT y1 y2 hmul e1 e2 d1 d2 b0 b1 hr0 hr1 hKo
          go_wp2_with (go_at_call 11; fail)
          refine (hda _ HG.out.2.1.mon).mono ?_
          rintro e v1 ⟨rfl, hb⟩
          have Hv1 : Hid (Below w.heap.size w v1 ∧ LisC v1 L wb.heap.size (phI T) C noS ∧ Below wb.heap.size wb v1) := ⟨HG.out.1.trans (hb.mono HG.out.1.size), HG.out.2.1.below hb, HG.out.2.2.trans (hb.mono HG.out.2.2.size)⟩
          clear hb HG
          go_wp2_with (go_at_call 13; fail)
          refine (hmi _).mono ?_
          rintro e v1 ⟨rfl, rfl⟩
          have hop := fun w' (h : LisC w' L wb.heap.size (phI T) C noS) => HOPN.out w' h K HK.out.1
          rw [HK.out.2] at hop
          go_wp2_with (go_at_call 12; fail)
          refine (hop _ Hv1.out.2.1).mono ?_
          rintro e v2 ⟨rfl, hb⟩
          have Hv2 : Hid (Below w.heap.size w v2 ∧ LisC v2 L wb.heap.size (phI T) C noS ∧ Below wb.heap.size wb v2) := ⟨Hv1.out.1.trans (hb.mono Hv1.out.1.size), Hv1.out.2.1.below hb, Hv1.out.2.2.trans (hb.mono Hv1.out.2.2.size)⟩
          clear hb Hv1
          have hxl : tt < x0 := hlt
          have q7 : v2.cell? ⟨w3.heap.size, 6, none⟩ = some (.slice aT T.length cT) := HQ6.out _ Hv2.out.2.2
          have HSR : Hid (SrcT v2 (.slice aT T.length cT) T) := HW.out.2.2.2.2.below Hv2.out.2.2
          clear hda hmi hop q6
          go_upto_block 2 with fail
          go_cut [25] (fun v wx => v = .int .i64 (gN T j) ∧ wx = v2)
          case first =>
            go_wp2
            go_loopw [25, 26] (fun p i wr => ∃ k : Nat, k ≤ T.length ∧ i = .int .i64 (k : Int) ∧ p = .int .i64 (pjV (gN T j) j k) ∧ wr = v2) (fun _ i _ => T.length - (intOf i).toNat)
            case atStart => exact ⟨0, Nat.zero_le _, rfl, rfl, rfl⟩
            case round =>
              obtain ⟨k, hk, rfl, rfl, hwr⟩ := hrel
              obtain rfl := hwr.symm
              clear hwr
              have HM10 : Hid (T.length ≤ 10) := HS.out.ok.m10
              have hk10 : k ≤ 10 := Nat.le_trans hk HM10.out
              by_cases hkl : k < T.length
              · have hki : (k : Int) < (T.length : Int) := by omega
                obtain ⟨_, _, b, off, hab, hq⟩ := HSR.out.at (by omega)
                subst hab
                obtain ⟨c0, c1⟩ := hq k hkl
                clear hq
                by_cases he : fN T k = fN T j
                · have hkj := HU.out k hkl he
                  subst hkj
                  have HN : Hid (pjV (gN T k) k (k + 1) = gN T k) := by show _ = _; unfold pjV; rw [if_pos (by omega)]
                  generalize pjV (gN T k) k k = pv at *
                  have hbe : (fN T k == fN T k) = true := by simp
                  go_wp2
                  exact ⟨⟨k + 1, by omega, by go_num, by rw [HN.out], trivial⟩, by simp [intOf]; omega⟩
                · have hne : ¬ k = j := fun h => he (by rw [h])
                  have HN : Hid (pjV (gN T j) j (k + 1) = pjV (gN T j) j k) := by
                    show _ = _
                    unfold pjV
                    by_cases h : j < k
                    · rw [if_pos h, if_pos (by omega)]
                    · rw [if_neg h, if_neg (by omega)]
                  generalize pjV (gN T j) j k = pv at *
                  have hbe : (fN T k == fN T j) = false := beq_false_of_ne he
                  clear he hne
                  go_wp2
                  exact ⟨⟨k + 1, by omega, by go_num, by rw [HN.out], trivial⟩, by simp [intOf]; omega⟩
              · obtain rfl : k = T.length := by omega
                have HN : Hid (pjV (gN T j) j T.length = gN T j) := by show _ = _; unfold pjV; rw [if_pos hj]
                rw [HN.out]
                go_wp2
                go_meet
                exact ⟨rfl, rfl⟩
          case rest =>
            obtain ⟨rfl, hw⟩ := hcut
            obtain rfl := hw.symm
            clear hw
            have hph1 : ∀ w', LisC w' L wb.heap.size (phI T) C noS → Calls Tryd.prog 10 #[.pointer (some ⟨L, 0, none⟩), .int .i64 x0] w' fun e w2 => e = .returned (.tuple #[.int .i64 (gN T j), .int .i64 (nxF noS (fN T) T.length x0)]) ∧ Below w'.heap.size w' w2 := fun w' h => by
              have := HPH.out w' h x0
              rw [HPJ.out] at this
              exact this
            have hph2 := fun w' h => HPH.out w' h (x0 - 1)
            have hph3 := fun w' h => HPH.out w' h ((K : Int) * 86400000)
            generalize nxF noS (fN T) T.length x0 = n1 at *
            generalize nxF noS (fN T) T.length (x0 - 1) = n2 at *
            have hw1 : wrap64 (x0 - 1) = x0 - 1 := by unfold wrap64; omega
            have hw2 : x0 - 1 ≤ 253402300799999 := by omega
            clear HPJ HPH HOPN HQ6 HU HXX q7 HSR
            go_wp2_with (go_at_call 10; fail)
            refine (hph1 _ Hv2.out.2.1).mono ?_
            rintro e v3 ⟨rfl, hb⟩
            have Hv3 : Hid (Below w.heap.size w v3 ∧ LisC v3 L wb.heap.size (phI T) C noS ∧ Below wb.heap.size wb v3) := ⟨Hv2.out.1.trans (hb.mono Hv2.out.1.size), Hv2.out.2.1.below hb, Hv2.out.2.2.trans (hb.mono Hv2.out.2.2.size)⟩
            clear hb Hv2
            go_wp2_with (go_at_call 14; fail)
            refine (hst _ Hv3.out.2.1.mon).mono ?_
            rintro e v3 ⟨rfl, rfl⟩
            go_wp2_with (go_at_call 10; fail)
            refine (hph2 _ Hv3.out.2.1).mono ?_
            rintro e v4 ⟨rfl, hb⟩
            have Hv4 : Hid (Below w.heap.size w v4 ∧ LisC v4 L wb.heap.size (phI T) C noS ∧ Below wb.heap.size wb v4) := ⟨Hv3.out.1.trans (hb.mono Hv3.out.1.size), Hv3.out.2.1.below hb, Hv3.out.2.2.trans (hb.mono Hv3.out.2.2.size)⟩
            clear hb Hv3
            clear hph1 hph2 hst
            have hq1 : (gN T j == gN T j) = true := by simp
            rcases HRS.out with ⟨hKD, hpp⟩ | ⟨hKD, hj0, hor⟩
            · rw [hpp]
              have hdd : ((dateN K : Int) == (dateN D : Int)) = true := by rw [hKD]; simp
              have hp1 : (p0 == p0) = true := by simp
              clear HRS HDD hpp hph3
              generalize dateN K = dk at *
              generalize dateN D = dd at *
              go_wp2
              go_ret
              exact ⟨rfl, Hv4.out.1⟩
            · have hdd : ((dateN K : Int) == (dateN D : Int)) = false := beq_false_of_ne (fun h => by
                have h2 : dateN K = dateN D := by omega
                have := HDD.out.1.2 h2
                omega)
              generalize phF noS (fN T) (gN T) T.length (x0 - 1) = f2 at *
              clear HRS HDD hKD
              rcases hor with ⟨hz, hn0 | hn0⟩ | ⟨hz, hn0, hp0⟩
              · rw [hn0] at hph3
                generalize phF noS (fN T) (gN T) T.length ((K : Int) * 86400000) = f3 at *
                have hx1 : ((0 : Int) == x0) = false := beq_false_of_ne (by omega)
                have hx2 : ¬ x0 < 0 := by omega
                rw [hz]
                clear hn0
                generalize dateN K = dk at *
                generalize dateN D = dd at *
                go_wp2_with (go_at_call 10; fail)
                refine (hph3 _ Hv4.out.2.1).mono ?_
                rintro e v5 ⟨rfl, hb⟩
                have Hv5 : Hid (Below w.heap.size w v5 ∧ LisC v5 L wb.heap.size (phI T) C noS ∧ Below wb.heap.size wb v5) := ⟨Hv4.out.1.trans (hb.mono Hv4.out.1.size), Hv4.out.2.1.below hb, Hv4.out.2.2.trans (hb.mono Hv4.out.2.2.size)⟩
                clear hb Hv4
                go_wp2
                go_ret
                exact ⟨rfl, Hv5.out.1⟩
              · generalize phF noS (fN T) (gN T) T.length ((K : Int) * 86400000) = f3 at *
                generalize nxF noS (fN T) T.length ((K : Int) * 86400000) = n3 at *
                have hx1 : (n3 == x0) = false := beq_false_of_ne (by omega)
                rw [hz]
                generalize dateN K = dk at *
                generalize dateN D = dd at *
                go_wp2_with (go_at_call 10; fail)
                refine (hph3 _ Hv4.out.2.1).mono ?_
                rintro e v5 ⟨rfl, hb⟩
                have Hv5 : Hid (Below w.heap.size w v5 ∧ LisC v5 L wb.heap.size (phI T) C noS ∧ Below wb.heap.size wb v5) := ⟨Hv4.out.1.trans (hb.mono Hv4.out.1.size), Hv4.out.2.1.below hb, Hv4.out.2.2.trans (hb.mono Hv4.out.2.2.size)⟩
                clear hb Hv4
                go_wp2
                go_ret
                exact ⟨rfl, Hv5.out.1⟩
              · rw [hn0, hp0] at hph3
                have hx1 : (x0 == x0) = true := by simp
                generalize dateN K = dk at *
                generalize dateN D = dd at *
                clear hn0 hp0 hz
                go_wp2_with (go_at_call 10; fail)
                refine (hph3 _ Hv4.out.2.1).mono ?_
                rintro e v5 ⟨rfl, hb⟩
                have Hv5 : Hid (Below w.heap.size w v5 ∧ LisC v5 L wb.heap.size (phI T) C noS ∧ Below wb.heap.size wb v5) := ⟨Hv4.out.1.trans (hb.mono Hv4.out.1.size), Hv4.out.2.1.below hb, Hv4.out.2.2.trans (hb.mono Hv4.out.2.2.size)⟩
                clear hb Hv4
                go_wp2
                go_ret
                exact ⟨rfl, Hv5.out.1⟩
end Go.Proofs.YtnhkmfofkhhnaaaDoor
