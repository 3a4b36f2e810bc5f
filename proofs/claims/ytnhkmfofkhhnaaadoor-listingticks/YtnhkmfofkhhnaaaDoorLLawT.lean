/-
  ListingTicks: the walk.
-/
import Derived.Test.YtnhkmfofkhhnaaaDoorLGood
import Derived.Deep.CutBlock
namespace Go.Proofs.YtnhkmfofkhhnaaaDoor
set_option linter.unusedVariables false
set_option linter.unusedSimpArgs false
open Go.Shelf Go.RowKit Go.Sort Go.Lib

def tkO (lot pr : Int) : Ord := ⟨0, ⟨#[]⟩, ⟨#[]⟩, ⟨#[]⟩, 1, 1, 1, pr, 0, lot, 0, 0, 0, 0, 0⟩
theorem tick_chk {I : Ins} (h : insB I = true) (pr : Int) (h0 : 1 ≤ pr) (h1 : pr ≤ 1000000000) : chE I (tkO I.lot pr) 3 0 20240103 = if mayB (fN I.steps) (gN I.steps) I.steps.length pr = true then 0 else 101 := by
  obtain ⟨_, ⟨l1, l2, l3, l4⟩, _⟩ := ins_ok h
  have e1 : orB (tkO I.lot pr) 20240103 = true := by
    unfold orB tyB shB leB unB tkO
    simp [wiB]
    omega
  have e2 : loB I (tkO I.lot pr) = true := by
    unfold loB tkO wiB
    simp
    omega
  have hp0 : (pr == 0) = false := beq_false_of_ne (by omega)
  have e3 : tkB I (tkO I.lot pr).pr = mayB (fN I.steps) (gN I.steps) I.steps.length pr := by
    show (pr == 0 || _) = _
    rw [hp0, Bool.false_or]
    rfl
  have e4 : tkB I (tkO I.lot pr).sp = true := rfl
  have e5 : bdB I (tkO I.lot pr).pr 0 = true := by
    show (pr == 0 || wiB pr (bnL I 0) (bnH I 0)) = true
    unfold bnL bnH
    rw [hp0, Bool.false_or, if_pos (.inr (by decide)), if_pos (.inr (by decide))]
    exact wiB_iff.2 ⟨h0, h1⟩
  have e6 : phB (tkO I.lot pr) 3 = true := by unfold phB; rw [if_pos rfl]; rfl
  unfold chE
  rw [e1, e2, e3, e4, e5, e6]
  cases mayB (fN I.steps) (gN I.steps) I.steps.length pr <;> rfl
/-- What stands: a listing, and an order of the law's own. -/
structure LS (w wx : World) (L B C : Nat) (I : Ins) (g : Nat) (pr : Int) : Prop where
  below : Below w.heap.size w wx
  lis : LisAt wx L B I C
  mon : Mon wx
  low : w.heap.size ≤ g
  ne : B ≤ L ∧ g < wx.heap.size
  blk : Blk wx g 50 #[.int .i64 0, .string ⟨#[]⟩, .string ⟨#[]⟩, .string ⟨#[]⟩, .int .i64 1, .int .i64 1, .int .i64 1, .int .i64 pr, .int .i64 0, .int .i64 I.lot, .int .i64 0, .int .i64 0, .int .i64 0, .int .i64 0, .int .i64 0]
  far : ∃ w0, LisAt w0 L B I C ∧ Mon w0 ∧ Below w0.heap.size w0 wx ∧ w0.heap.size ≤ g
theorem LS.step {w wx wy : World} {L B C : Nat} {I : Ins} {g : Nat} {pr : Int} (h : LS w wx L B C I g pr) (hb : Below wx.heap.size wx wy) : LS w wy L B C I g pr := by
  obtain ⟨w0, f1, f2, f3, f4⟩ := h.far
  exact ⟨h.below.trans (hb.mono h.below.size), h.lis.below hb, h.mon.below hb h.mon.lt, h.low, ⟨h.ne.1, Nat.lt_of_lt_of_le h.ne.2 hb.size⟩, h.blk.below hb h.blk.lt, w0, f1, f2, f3.trans (hb.mono f3.size), f4⟩
theorem LS.put {w wx : World} {L B C : Nat} {I : Ins} {g : Nat} {pr : Int} (h : LS w wx L B C I g pr) (x : Int) : LS w (wx.setCell ⟨g, 7, none⟩ (.int .i64 x)) L B C I g x := by
  obtain ⟨w0, f1, f2, f3, f4⟩ := h.far
  have hb := below_set f3 f4 7 (.int .i64 x)
  exact ⟨below_set h.below h.low _ _, f1.below hb, f2.below hb f2.lt, h.low, ⟨h.ne.1, by simpa [World.setCell] using h.ne.2⟩, h.blk.set 7 _, w0, f1, f2, hb, f4⟩
theorem tm9_bd (z : Int) : -999999999 ≤ z.tmod 1000000000 ∧ z.tmod 1000000000 ≤ 999999999 := by
  rcases Int.le_total 0 z with h | h
  · rw [Int.tmod_eq_emod_of_nonneg h]; omega
  · have : z.tmod 1000000000 = -((-z).tmod 1000000000) := by rw [Int.neg_tmod, Int.neg_neg]
    rw [this, Int.tmod_eq_emod_of_nonneg (by omega)]; omega
set_option maxRecDepth 100000 in
set_option maxHeartbeats 8000000 in
theorem ListingTicks_law (a : Option Addr) (n c : Nat) (d : Nat → Int) (z : Int) (w : World) (hs : SrcI w a n d) (hn : n ≤ maxLen) (z0 : -9223372036854775808 ≤ z) (z1 : z ≤ 9223372036854775807) (hM : Mon w) :
    Calls Tryd.prog 4 #[.slice a n c, .int .i64 z] w fun e w' => e = .returned (.bool true) ∧ Below w.heap.size w w' := by
  have HM : Hid (Mon w ∧ SrcI w a n d) := ⟨hM, hs⟩
  clear hM hs
  go_enter Tryd.func4, Tryd.ntmps4
  go_wp2_with (go_at_call 5; fail)
  refine (shown_any _ HM.out.1).mono ?_
  rintro e w1 ⟨rfl, hb1⟩
  have H1 : Hid (Below w.heap.size w w1 ∧ Mon w1) := ⟨hb1, HM.out.1.below hb1 HM.out.1.lt⟩
  clear hb1
  go_wp2_with (go_at_call 6; fail)
  refine (NewCal0 _ H1.out.2).mono ?_
  rintro e w2 ⟨C, rfl, hc2, hb2⟩
  have H2 : Hid (Below w.heap.size w w2 ∧ Mon w2) := ⟨H1.out.1.trans (hb2.mono H1.out.1.size), H1.out.2.below hb2 H1.out.2.lt⟩
  clear hc2 hb2 H1
  go_wp2_with (go_at_call 15; fail)
  refine (good_any a n c d w2 (HM.out.2.below H2.out.1) hn).mono ?_
  rintro e w3 ⟨I, aS, cS, rfl, hI1, hI3, ho3, hb3⟩
  have H3 : Hid (Below w.heap.size w w3 ∧ Mon w3 ∧ insB I = true) := ⟨H2.out.1.trans (hb3.mono H2.out.1.size), H2.out.2.below hb3 H2.out.2.lt, hI1⟩
  have hlen : I.turns.length = 0 := by rw [hI3]; rfl
  have hnew := New_yes I aS none cS 0 C w3 ho3.src ⟨none, 0, rfl, by omega, .inl hI3⟩ hI1 (ins_ok hI1).2.2.1.n8 (by omega)
  rw [hlen] at hnew
  clear hI1 ho3 hb3 H2 hlen hI3
  go_wp2_with (go_at_call 9; fail)
  refine hnew.mono ?_
  clear hnew
  rintro e w4 ⟨L, rfl, hl4, hb4⟩
  have H4 : Hid (Below w.heap.size w w4 ∧ Mon w4 ∧ LisAt w4 L w3.heap.size I C) := ⟨H3.out.1.trans (hb4.mono H3.out.1.size), H3.out.2.1.below hb4 H3.out.2.1.lt, hl4⟩
  clear hl4 hb4
  generalize w3.heap.size = B at *
  go_upto_if 41 with fail
  obtain ⟨tb0, tb1⟩ := tm9_bd z
  go_cut [10] (fun v wx => ∃ p : Int, v = .int .i64 p ∧ 1 ≤ p ∧ p ≤ 1000000000 ∧ wx = w4)
  case first =>
    by_cases hneg : z.tmod 1000000000 < 1
    · have hw : wrap64 (z.tmod 1000000000 + 1000000000) = z.tmod 1000000000 + 1000000000 := by unfold wrap64; omega
      go_wp2_with fail
      all_goals go_meet
      all_goals exact ⟨z.tmod 1000000000 + 1000000000, by first | rfl | rw [hw], by omega, by omega, rfl⟩
    · go_wp2_with fail
      all_goals go_meet
      all_goals exact ⟨z.tmod 1000000000, rfl, by omega, by omega, rfl⟩
  case rest =>
    obtain ⟨p, rfl, p0, p1, hw⟩ := hcut
    obtain rfl := hw.symm
    clear hw tb0 tb1
    have HO : Hid (OkS (fN I.steps) (gN I.steps) I.steps.length) := H4.out.2.2.okS
    have HLOW : Hid (_) := HO.out.low p0 p1
    have HHIGH : Hid (_) := HO.out.high p0 p1
    have HBT : Hid (_) := HO.out.between p0 p1
    have hro := fun w' (h : LisAt w' L B I C) (x s : Int) => Round_any L B C I x s w' h
    have HRO : Hid (∀ w', LisAt w' L B I C → ∀ x s : Int, Calls Tryd.prog 16 #[.pointer (some ⟨L, 0, none⟩), .int .i64 x, .int .i64 s] w' fun e w2 => e = .returned (.int .i64 (roV I x s)) ∧ Below w'.heap.size w' w2) := hro
    have HR1 : Hid (∀ x, roV I x 1 = dnP (fN I.steps) (gN I.steps) I.steps.length x) := fun x => by unfold roV; rw [if_pos rfl]
    have HR2 : Hid (∀ x, roV I x 2 = upP (fN I.steps) (gN I.steps) I.steps.length x) := fun x => by unfold roV; rw [if_neg (by decide), if_pos rfl]
    have HTK : Hid (∀ w', LisAt w' L B I C → ∀ x : Int, Calls Tryd.prog 18 #[.pointer (some ⟨L, 0, none⟩), .int .i64 x] w' fun e w2 => e = .returned (.int .i64 (gN I.steps (stpN (fN I.steps) I.steps.length x))) ∧ Below w'.heap.size w' w2) := fun w' h x => Tick_any L B C I x w' h
    have HCK : Hid (∀ w', LisAt w' L B I C → Mon w' → ∀ pr : Int, Calls Tryd.prog 19 #[.pointer (some ⟨L, 0, none⟩), .agg #[.int .i64 0, .string ⟨#[]⟩, .string ⟨#[]⟩, .string ⟨#[]⟩, .int .i64 1, .int .i64 1, .int .i64 1, .int .i64 pr, .int .i64 0, .int .i64 I.lot, .int .i64 0, .int .i64 0, .int .i64 0, .int .i64 0, .int .i64 0], .int .i64 3, .int .i64 0, .int .i64 20240103] w' fun e w2 => e = .returned (.int .i64 (chE I (tkO I.lot pr) 3 0 20240103)) ∧ Below w'.heap.size w' w2) := fun w' h hm pr => Check_any L B C I (tkO I.lot pr) 3 0 20240103 w' h hm (by show (-9223372036854775808 : Int) ≤ 0; decide) (by show (0 : Int) ≤ 9223372036854775807; decide)
    clear hro
    have hr1 := HRO.out w4 H4.out.2.2 p 1
    rw [HR1.out] at hr1
    go_wp2_with (go_at_call 16; fail)
    refine hr1.mono ?_
    rintro e w5 ⟨rfl, hb5⟩
    have H5 : Hid (Below w.heap.size w w5 ∧ Mon w5 ∧ LisAt w5 L B I C) := ⟨H4.out.1.trans (hb5.mono H4.out.1.size), H4.out.2.1.below hb5 H4.out.2.1.lt, H4.out.2.2.below hb5⟩
    clear hb5 hr1 H4
    have hr2 := HRO.out w5 H5.out.2.2 p 2
    rw [HR2.out] at hr2
    go_wp2_with (go_at_call 16; fail)
    refine hr2.mono ?_
    rintro e w6 ⟨rfl, hb6⟩
    have H6 : Hid (Below w.heap.size w w6 ∧ Mon w6 ∧ LisAt w6 L B I C) := ⟨H5.out.1.trans (hb6.mono H5.out.1.size), H5.out.2.1.below hb6 H5.out.2.1.lt, H5.out.2.2.below hb6⟩
    clear hb6 hr2 H5
    have hfl : ∀ vS vT w, Sem.run Tryd.prog (Instr.field 31 (.agg (I.cs vS vT)) 1) w = .ok (.int .i64 I.lot) w := fun vS vT w => by kernel_rfl
    go_wp2_with (go_at_call 17; fail)
    refine (Instrument_any L B C I w6 H6.out.2.2).mono ?_
    rintro e w7 ⟨aS2, cS2, aT2, cT2, rfl, _, _, hb7⟩
    have H7 : Hid (Below w.heap.size w w7 ∧ Mon w7 ∧ LisAt w7 L B I C) := ⟨H6.out.1.trans (hb7.mono H6.out.1.size), H6.out.2.1.below hb7 H6.out.2.1.lt, H6.out.2.2.below hb7⟩
    clear hb7 H6
    go_upto_region 12 with fail
    have HL : Hid (LS w (w7.alloc (.cells #[.int .i64 0, .string ⟨#[]⟩, .string ⟨#[]⟩, .string ⟨#[]⟩, .int .i64 1, .int .i64 1, .int .i64 1, .int .i64 0, .int .i64 0, .int .i64 I.lot, .int .i64 0, .int .i64 0, .int .i64 0, .int .i64 0, .int .i64 0] 50)) L B C I w7.heap.size 0) := ⟨H7.out.1.alloc H7.out.1.size _, H7.out.2.2.below ((Below.refl _ w7).alloc (Nat.le_refl _) _), H7.out.2.1.below ((Below.refl _ w7).alloc (Nat.le_refl _) _) H7.out.2.1.lt, H7.out.1.size, ⟨H7.out.2.2.low, by simp⟩, Blk.new _ _ _, w7, H7.out.2.2, H7.out.2.1, (Below.refl _ w7).alloc (Nat.le_refl _) _, Nat.le_refl _⟩
    generalize w7.alloc (.cells #[.int .i64 0, .string ⟨#[]⟩, .string ⟨#[]⟩, .string ⟨#[]⟩, .int .i64 1, .int .i64 1, .int .i64 1, .int .i64 0, .int .i64 0, .int .i64 I.lot, .int .i64 0, .int .i64 0, .int .i64 0, .int .i64 0, .int .i64 0] 50) = w8 at *
    generalize w7.heap.size = g at *
    clear H7 hfl H3
    generalize hlo : dnP (fN I.steps) (gN I.steps) I.steps.length p = low at *
    generalize hhi : upP (fN I.steps) (gN I.steps) I.steps.length p = high at *
    clear hlo hhi
    obtain ⟨lo0, lo1, HLO⟩ := HLOW.out
    obtain ⟨hi0, HHI⟩ := HHIGH.out
    have HLO' : Hid (_) := HLO
    have HHI' : Hid (_) := HHI
    clear HLO HHI HLOW HHIGH
    go_cut [87] (fun v wx => v = .bool false ∧ LS w wx L B C I g 0)
    case first =>
      have HT1 : Hid (low ≠ 0 → (∀ w', LisAt w' L B I C → Calls Tryd.prog 18 #[.pointer (some ⟨L, 0, none⟩), .int .i64 low] w' fun e w2 => e = .returned (.int .i64 (gN I.steps (stpN (fN I.steps) I.steps.length p))) ∧ Below w'.heap.size w' w2) ∧ p - low < gN I.steps (stpN (fN I.steps) I.steps.length p)) := fun h => ⟨fun w' hl => by
        have := HTK.out w' hl low
        rw [(HLO'.out h).1] at this
        exact this, (HLO'.out h).2.1⟩
      have HT2 : Hid (high ≠ 0 → (p ≤ high ∧ high ≤ 1000000000) ∧ high - p < gN I.steps (stpN (fN I.steps) I.steps.length p)) := fun h => ⟨⟨(HHI'.out h).1, (HHI'.out h).2.2.2.1⟩, (HHI'.out h).2.1⟩
      have htp := fun w' hl => HTK.out w' hl p
      generalize gN I.steps (stpN (fN I.steps) I.steps.length p) = tp at *
      have hng : ¬ p < low := by omega
      by_cases hl0 : low = 0
      · have hlb : (low != 0) = false := by simp [hl0]
        clear HT1
        by_cases hh0 : high = 0
        · have hhb : (high != 0) = false := by simp [hh0]
          clear hl0 hh0 HT2
          go_wp2_with fail
          all_goals go_meet
          all_goals exact ⟨rfl, HL.out⟩
        · have hhb : (high != 0) = true := by simp [hh0]
          obtain ⟨x1, x2⟩ := HT2.out hh0
          have x3 : decide (high < p) = false := by simp; omega
          have x4 : decide (tp ≤ high - p) = false := by simp; omega
          have x5 : wrap64 (high - p) = high - p := by unfold wrap64; omega
          clear hl0 hh0 HT2 hi0 x2 x1
          go_wp2_with (go_at_call 18; fail)
          refine (htp _ HL.out.lis).mono ?_
          rintro e wx1 ⟨rfl, hb⟩
          have Hwx1 : Hid (LS w wx1 L B C I g 0) := HL.out.step hb
          clear hb HL
          go_wp2_with fail
          all_goals go_meet
          all_goals exact ⟨by first | rfl | simp [*], Hwx1.out⟩
      · have hlb : (low != 0) = true := by simp [hl0]
        obtain ⟨y1, y2⟩ := HT1.out hl0
        have y3 : decide (tp ≤ p - low) = false := by simp; omega
        clear HT1 y2
        by_cases hh0 : high = 0
        · have hhb : (high != 0) = false := by simp [hh0]
          clear hl0 hh0 HT2
          go_wp2_with (go_at_call 18; fail)
          refine (y1 _ HL.out.lis).mono ?_
          rintro e wx1 ⟨rfl, hb⟩
          have Hwx1 : Hid (LS w wx1 L B C I g 0) := HL.out.step hb
          clear hb HL
          go_wp2_with fail
          all_goals go_meet
          all_goals exact ⟨by first | rfl | simp [*], Hwx1.out⟩
        · have hhb : (high != 0) = true := by simp [hh0]
          obtain ⟨x1, x2⟩ := HT2.out hh0
          have x3 : decide (high < p) = false := by simp; omega
          have x4 : decide (tp ≤ high - p) = false := by simp; omega
          have x5 : wrap64 (high - p) = high - p := by unfold wrap64; omega
          clear hl0 hh0 HT2 hi0 x2 x1
          go_wp2_with (go_at_call 18; fail)
          refine (y1 _ HL.out.lis).mono ?_
          rintro e wx1 ⟨rfl, hb⟩
          have Hwx1 : Hid (LS w wx1 L B C I g 0) := HL.out.step hb
          clear hb HL
          go_wp2_with (go_at_call 18; fail)
          refine (htp _ Hwx1.out.lis).mono ?_
          rintro e wx2 ⟨rfl, hb⟩
          have Hwx2 : Hid (LS w wx2 L B C I g 0) := Hwx1.out.step hb
          clear hb Hwx1
          go_wp2_with fail
          all_goals go_meet
          all_goals exact ⟨by first | rfl | simp [*], Hwx2.out⟩
    case rest =>
      obtain ⟨rfl, hls⟩ := hcut
      have HL0 : Hid (LS w wc L B C I g 0) := hls
      clear hls HL
      generalize wc = w9 at *
      have HMAY : Hid ((low ≠ 0 → May (fN I.steps) (gN I.steps) I.steps.length low) ∧ (high ≠ 0 → May (fN I.steps) (gN I.steps) I.steps.length high)) := ⟨fun h => (HLO'.out h).2.2, fun h => (HHI'.out h).2.2⟩
      clear HLO' HHI'
      go_upto_block 0 with fail
      go_cut [15] (fun _ wx => ∃ pr, LS w wx L B C I g pr)
      case first =>
        go_wp2
        go_loopw [14, 15] (fun i _ wr => ∃ (k : Nat) (pr : Int), k ≤ 2 ∧ i = .int .i64 (k : Int) ∧ LS w wr L B C I g pr) (fun i _ _ => 2 - (intOf i).toNat)
        case atStart => exact ⟨0, 0, by omega, rfl, HL0.out⟩
        case round =>
          obtain ⟨k, pr, hk, rfl, hls⟩ := hrel
          have HL : Hid (LS w wr L B C I g pr) := hls
          clear hls HL0
          by_cases hk2 : k < 2
          · have hki : (k : Int) < 2 := by omega
            obtain ⟨x, hget, hx0, hx1⟩ : ∃ x : Int, (∀ h : k < ([.int .i64 low, .int .i64 high] : List Value).length, ([.int .i64 low, .int .i64 high] : List Value)[k]'h = .int .i64 x) ∧ (k = 0 → x = low) ∧ (k = 1 → x = high) := by
              have : k = 0 ∨ k = 1 := by omega
              rcases this with rfl | rfl
              · exact ⟨low, fun _ => rfl, fun _ => rfl, fun h => by omega⟩
              · exact ⟨high, fun _ => rfl, fun h => by omega, fun _ => rfl⟩
            have HMX : Hid (x ≠ 0 → May (fN I.steps) (gN I.steps) I.steps.length x) := fun h => by
              have : k = 0 ∨ k = 1 := by omega
              rcases this with h1 | h1
              · rw [hx0 h1] at h ⊢; exact HMAY.out.1 h
              · rw [hx1 h1] at h ⊢; exact HMAY.out.2 h
            clear hx0 hx1
            have HLa : Hid (LS w (wr.alloc (.cells #[.int .i64 low, .int .i64 high] 2)) L B C I g pr) := HL.out.step ((Below.refl _ wr).alloc (Nat.le_refl _) _)
            by_cases hxz : x = 0
            · have hxb : (x == 0) = true := by simp [hxz]
              clear hxz
              go_wp2
              exact ⟨⟨k + 1, pr, by omega, by go_num, HLa.out⟩, by simp [intOf]; omega⟩
            · have hxb : (x == 0) = false := by simp [hxz]
              have hmay := HMX.out hxz
              obtain ⟨m0, m1, _⟩ := hmay
              have HS1 : Hid (dnP (fN I.steps) (gN I.steps) I.steps.length x = x ∧ upP (fN I.steps) (gN I.steps) I.steps.length x = x ∧ chE I (tkO I.lot x) 3 0 20240103 = 0 ∧ dnP (fN I.steps) (gN I.steps) I.steps.length (x - 1) < x ∧ (x < 1000000000 → upP (fN I.steps) (gN I.steps) I.steps.length (x + 1) ≠ x)) := ⟨HO.out.dn_self (HMX.out hxz), HO.out.up_self (HMX.out hxz), by rw [tick_chk HL.out.lis.ok x m0 m1, if_pos ((HO.out.may_iff x).2 (HMX.out hxz))], dnP_lt HO.out (by omega) m0, fun h => upP_ne HO.out h m0⟩
              have c7 : (wr.alloc (.cells #[.int .i64 low, .int .i64 high] 2)).cell? ⟨g, 7, none⟩ = some (.int .i64 pr) := HLa.out.blk.cell 7
              have f7 : (wr.alloc (.cells #[.int .i64 low, .int .i64 high] 2)).frozen? ⟨g, 7, none⟩ = false := HLa.out.blk.frozen 7
              clear HMX hxz
              go_upto_region 20 with fail
              have HLb : Hid (LS w ((wr.alloc (.cells #[.int .i64 low, .int .i64 high] 2)).setCell ⟨g, 7, none⟩ (.int .i64 x)) L B C I g x) := HLa.out.put x
              generalize (wr.alloc (.cells #[.int .i64 low, .int .i64 high] 2)).setCell ⟨g, 7, none⟩ (.int .i64 x) = w5 at *
              clear HL HLa c7 f7 hget
              have r1 : ∀ w', LisAt w' L B I C → Calls Tryd.prog 16 #[.pointer (some ⟨L, 0, none⟩), .int .i64 x, .int .i64 1] w' fun e w2 => e = .returned (.int .i64 x) ∧ Below w'.heap.size w' w2 := fun w' h => by
                have := HRO.out w' h x 1
                rw [HR1.out, HS1.out.1] at this
                exact this
              have r2 : ∀ w', LisAt w' L B I C → Calls Tryd.prog 16 #[.pointer (some ⟨L, 0, none⟩), .int .i64 x, .int .i64 2] w' fun e w2 => e = .returned (.int .i64 x) ∧ Below w'.heap.size w' w2 := fun w' h => by
                have := HRO.out w' h x 2
                rw [HR2.out, HS1.out.2.1] at this
                exact this
              have r3 : ∀ w', LisAt w' L B I C → Mon w' → _ := fun w' h hm => HCK.out w' h hm x
              rw [HS1.out.2.2.1] at r3
              have hxx : (x != x) = false := by simp
              go_wp2_with (go_at_call 16; fail)
              refine (r1 _ HLb.out.lis).mono ?_
              rintro e v1 ⟨rfl, hb⟩
              have Hv1 : Hid (LS w v1 L B C I g x) := HLb.out.step hb
              clear hb HLb
              go_wp2_with (go_at_call 16; fail)
              refine (r2 _ Hv1.out.lis).mono ?_
              rintro e v2 ⟨rfl, hb⟩
              have Hv2 : Hid (LS w v2 L B C I g x) := Hv1.out.step hb
              clear hb Hv1
              have v2x0 : v2.cell? ⟨g, 0, none⟩ = some (.int .i64 0) := Hv2.out.blk.cell 0
              have v2x1 : v2.cell? ⟨g, 1, none⟩ = some (.string ⟨#[]⟩) := Hv2.out.blk.cell 1
              have v2x2 : v2.cell? ⟨g, 2, none⟩ = some (.string ⟨#[]⟩) := Hv2.out.blk.cell 2
              have v2x3 : v2.cell? ⟨g, 3, none⟩ = some (.string ⟨#[]⟩) := Hv2.out.blk.cell 3
              have v2x4 : v2.cell? ⟨g, 4, none⟩ = some (.int .i64 1) := Hv2.out.blk.cell 4
              have v2x5 : v2.cell? ⟨g, 5, none⟩ = some (.int .i64 1) := Hv2.out.blk.cell 5
              have v2x6 : v2.cell? ⟨g, 6, none⟩ = some (.int .i64 1) := Hv2.out.blk.cell 6
              have v2x7 : v2.cell? ⟨g, 7, none⟩ = some (.int .i64 x) := Hv2.out.blk.cell 7
              have v2x8 : v2.cell? ⟨g, 8, none⟩ = some (.int .i64 0) := Hv2.out.blk.cell 8
              have v2x9 : v2.cell? ⟨g, 9, none⟩ = some (.int .i64 I.lot) := Hv2.out.blk.cell 9
              have v2x10 : v2.cell? ⟨g, 10, none⟩ = some (.int .i64 0) := Hv2.out.blk.cell 10
              have v2x11 : v2.cell? ⟨g, 11, none⟩ = some (.int .i64 0) := Hv2.out.blk.cell 11
              have v2x12 : v2.cell? ⟨g, 12, none⟩ = some (.int .i64 0) := Hv2.out.blk.cell 12
              have v2x13 : v2.cell? ⟨g, 13, none⟩ = some (.int .i64 0) := Hv2.out.blk.cell 13
              have v2x14 : v2.cell? ⟨g, 14, none⟩ = some (.int .i64 0) := Hv2.out.blk.cell 14
              go_wp2_with (go_at_call 19; fail)
              refine (r3 _ Hv2.out.lis Hv2.out.mon).mono ?_
              rintro e v3 ⟨rfl, hb⟩
              have Hv3 : Hid (LS w v3 L B C I g x) := Hv2.out.step hb
              clear hb Hv2
              clear v2x0 v2x1 v2x2 v2x3 v2x4 v2x5 v2x6 v2x7 v2x8 v2x9 v2x10 v2x11 v2x12 v2x13 v2x14
              clear r1 r2 r3 hxx
              have s4 : ∀ w', LisAt w' L B I C → Calls Tryd.prog 16 #[.pointer (some ⟨L, 0, none⟩), .int .i64 (x - 1), .int .i64 1] w' fun e w2 => e = .returned (.int .i64 (dnP (fN I.steps) (gN I.steps) I.steps.length (x - 1))) ∧ Below w'.heap.size w' w2 := fun w' h => by
                have := HRO.out w' h (x - 1) 1
                rw [HR1.out] at this
                exact this
              have s5 : ∀ w', LisAt w' L B I C → Calls Tryd.prog 16 #[.pointer (some ⟨L, 0, none⟩), .int .i64 (x + 1), .int .i64 2] w' fun e w2 => e = .returned (.int .i64 (upP (fN I.steps) (gN I.steps) I.steps.length (x + 1))) ∧ Below w'.heap.size w' w2 := fun w' h => by
                have := HRO.out w' h (x + 1) 2
                rw [HR2.out] at this
                exact this
              obtain ⟨_, _, _, hd1, hu1⟩ := HS1.out
              generalize dnP (fN I.steps) (gN I.steps) I.steps.length (x - 1) = dm at *
              generalize upP (fN I.steps) (gN I.steps) I.steps.length (x + 1) = um at *
              clear HS1
              have hdn : ¬ x ≤ dm := by omega
              have hw1 : wrap64 (x - 1) = x - 1 := by unfold wrap64; omega
              have hw2 : wrap64 (x + 1) = x + 1 := by unfold wrap64; omega
              have hlen := HO.out.n1
              have hfl3 : ∀ vS vT w, Sem.run Tryd.prog (Instr.field 31 (.agg (I.cs vS vT)) 3) w = .ok vS w := fun vS vT w => by kernel_rfl
              by_cases hk0 : k = 0
              · have k0 : ((k : Int) == 0) = true := by simp [hk0]
                have k1 : ((k : Int) == 1) = false := by simp [hk0]
                have HKK : Hid (k = 0) := hk0
                clear hk0 hu1
                go_wp2_with (go_at_call 17; fail)
                refine (Instrument_any L B C I v3 Hv3.out.lis).mono ?_
                rintro e v4 ⟨aS2, cS2, aT2, cT2, rfl, ho4, _, hb4⟩
                have Hv4 : Hid (LS w v4 L B C I g x) := Hv3.out.step hb4
                obtain ⟨_, _, bb, off, hab, hq⟩ := ho4.src.at (by omega)
                obtain ⟨_, g1⟩ := hq 0 (by omega)
                rw [Nat.zero_mul, Nat.add_zero] at g1
                subst hab
                have hl0i : (0 : Int) < (I.steps.length : Int) := by omega
                clear hq hb4 Hv3 ho4
                generalize gN I.steps 0 = t0 at *
                by_cases htx : t0 < x
                · go_wp2_with (go_at_call 16; fail)
                  refine (s4 _ Hv4.out.lis).mono ?_
                  rintro e v5 ⟨rfl, hb⟩
                  have Hv5 : Hid (LS w v5 L B C I g x) := Hv4.out.step hb
                  clear hb Hv4
                  go_wp2
                  exact ⟨⟨k + 1, x, by omega, by go_num, Hv5.out⟩, by simp [intOf]; omega⟩
                · go_wp2
                  exact ⟨⟨k + 1, x, by omega, by go_num, Hv4.out⟩, by simp [intOf]; omega⟩
              · have k0 : ((k : Int) == 0) = false := by simp [hk0]
                have k1 : ((k : Int) == 1) = true := by simp; omega
                clear hk0
                by_cases hxm : x < 1000000000
                · have hue : (um == x) = false := beq_false_of_ne (hu1 hxm)
                  clear hu1
                  go_wp2_with (go_at_call 16; fail)
                  refine (s5 _ Hv3.out.lis).mono ?_
                  rintro e v5 ⟨rfl, hb⟩
                  have Hv5 : Hid (LS w v5 L B C I g x) := Hv3.out.step hb
                  clear hb Hv3
                  go_wp2
                  exact ⟨⟨k + 1, x, by omega, by go_num, Hv5.out⟩, by simp [intOf]; omega⟩
                · clear hu1
                  go_wp2
                  exact ⟨⟨k + 1, x, by omega, by go_num, Hv3.out⟩, by simp [intOf]; omega⟩
          · have hki : ¬ (k : Int) < 2 := by omega
            go_wp2
            go_meet
            exact ⟨pr, HL.out⟩
      case rest =>
        obtain ⟨pr, hls⟩ := hcut
        have HL : Hid (LS w wc L B C I g pr) := hls
        clear hls HL0
        generalize wc = wd at *
        by_cases hne : low = high
        · have hnb : (low != high) = false := by simp [hne]
          clear hne
          go_wp2
          go_ret
          exact ⟨rfl, HL.out.below⟩
        · have hnb : (low != high) = true := by simp [hne]
          by_cases hl0 : low = 0
          · have hlb : (low != 0) = false := by simp [hl0]
            clear hne hl0
            go_wp2
            go_ret
            exact ⟨rfl, HL.out.below⟩
          · have hlb : (low != 0) = true := by simp [hl0]
            obtain ⟨hnm, hor⟩ := HBT.out hne hl0
            have HCP : Hid (chE I (tkO I.lot p) 3 0 20240103 = 101) := by
              show _ = _
              rw [tick_chk HL.out.lis.ok p p0 p1, if_neg (fun h => hnm ((HO.out.may_iff p).1 h))]
            have c7 : wd.cell? ⟨g, 7, none⟩ = some (.int .i64 pr) := HL.out.blk.cell 7
            have f7 : wd.frozen? ⟨g, 7, none⟩ = false := HL.out.blk.frozen 7
            clear hne hl0 hnm HBT
            go_upto_region 26 with fail
            have HLb : Hid (LS w (wd.setCell ⟨g, 7, none⟩ (.int .i64 p)) L B C I g p) := HL.out.put p
            generalize wd.setCell ⟨g, 7, none⟩ (.int .i64 p) = w5 at *
            clear HL c7 f7
            have w5x0 : w5.cell? ⟨g, 0, none⟩ = some (.int .i64 0) := HLb.out.blk.cell 0
            have w5x1 : w5.cell? ⟨g, 1, none⟩ = some (.string ⟨#[]⟩) := HLb.out.blk.cell 1
            have w5x2 : w5.cell? ⟨g, 2, none⟩ = some (.string ⟨#[]⟩) := HLb.out.blk.cell 2
            have w5x3 : w5.cell? ⟨g, 3, none⟩ = some (.string ⟨#[]⟩) := HLb.out.blk.cell 3
            have w5x4 : w5.cell? ⟨g, 4, none⟩ = some (.int .i64 1) := HLb.out.blk.cell 4
            have w5x5 : w5.cell? ⟨g, 5, none⟩ = some (.int .i64 1) := HLb.out.blk.cell 5
            have w5x6 : w5.cell? ⟨g, 6, none⟩ = some (.int .i64 1) := HLb.out.blk.cell 6
            have w5x7 : w5.cell? ⟨g, 7, none⟩ = some (.int .i64 p) := HLb.out.blk.cell 7
            have w5x8 : w5.cell? ⟨g, 8, none⟩ = some (.int .i64 0) := HLb.out.blk.cell 8
            have w5x9 : w5.cell? ⟨g, 9, none⟩ = some (.int .i64 I.lot) := HLb.out.blk.cell 9
            have w5x10 : w5.cell? ⟨g, 10, none⟩ = some (.int .i64 0) := HLb.out.blk.cell 10
            have w5x11 : w5.cell? ⟨g, 11, none⟩ = some (.int .i64 0) := HLb.out.blk.cell 11
            have w5x12 : w5.cell? ⟨g, 12, none⟩ = some (.int .i64 0) := HLb.out.blk.cell 12
            have w5x13 : w5.cell? ⟨g, 13, none⟩ = some (.int .i64 0) := HLb.out.blk.cell 13
            have w5x14 : w5.cell? ⟨g, 14, none⟩ = some (.int .i64 0) := HLb.out.blk.cell 14
            have r3 : ∀ w', LisAt w' L B I C → Mon w' → _ := fun w' h hm => HCK.out w' h hm p
            rw [HCP.out] at r3
            go_wp2_with (go_at_call 19; fail)
            refine (r3 _ HLb.out.lis HLb.out.mon).mono ?_
            rintro e v3 ⟨rfl, hb⟩
            have Hv3 : Hid (LS w v3 L B C I g p) := HLb.out.step hb
            clear hb HLb
            clear w5x0 w5x1 w5x2 w5x3 w5x4 w5x5 w5x6 w5x7 w5x8 w5x9 w5x10 w5x11 w5x12 w5x13 w5x14
            rcases hor with hh | hh
            · have hhb : (high == 0) = true := by simp [hh]
              clear hh
              go_wp2
              go_ret
              exact ⟨rfl, Hv3.out.below⟩
            · by_cases hh0 : high = 0
              · have hhb : (high == 0) = true := by simp [hh0]
                clear hh hh0
                go_wp2
                go_ret
                exact ⟨rfl, Hv3.out.below⟩
              · have hhb : (high == 0) = false := by simp [hh0]
                have hw2 : wrap64 (low + 1) = low + 1 := by unfold wrap64; omega
                have r4 : ∀ w', LisAt w' L B I C → Calls Tryd.prog 16 #[.pointer (some ⟨L, 0, none⟩), .int .i64 (low + 1), .int .i64 2] w' fun e w2 => e = .returned (.int .i64 high) ∧ Below w'.heap.size w' w2 := fun w' h => by
                  have := HRO.out w' h (low + 1) 2
                  rw [HR2.out, hh] at this
                  exact this
                have hxx : (high == high) = true := by simp
                clear hh hh0
                go_wp2_with (go_at_call 16; fail)
                refine (r4 _ Hv3.out.lis).mono ?_
                rintro e v5 ⟨rfl, hb⟩
                have Hv5 : Hid (LS w v5 L B C I g p) := Hv3.out.step hb
                clear hb Hv3
                go_wp2
                go_ret
                exact ⟨rfl, Hv5.out.below⟩
end Go.Proofs.YtnhkmfofkhhnaaaDoor
