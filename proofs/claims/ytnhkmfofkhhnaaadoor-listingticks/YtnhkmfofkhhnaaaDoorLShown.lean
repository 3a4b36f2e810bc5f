/-
  listing's law: shown.
-/
import Derived.Test.YtnhkmfofkhhnaaaDoorLEx
namespace Go.Proofs.YtnhkmfofkhhnaaaDoor
set_option linter.unusedVariables false
set_option linter.unusedSimpArgs false
open Go.Shelf Go.RowKit Go.Sort Go.Lib

def noS : Int → Bool := daySet (fun _ => 0) 0
theorem noS_no (x : Int) : noS x = false := rfl
def exO (pr : Int) : Ord := ⟨0, ⟨#[]⟩, ⟨#[]⟩, ⟨#[]⟩, 1, 1, 1, pr, 0, 20, 0, 0, 0, 0, 0⟩
theorem ex_chk : chE exI (exO 10010) 3 10000 20240103 = 0 ∧ chE exI (exO 10015) 3 10000 20240103 = 101 := ⟨by kernel_rfl, by kernel_rfl⟩
theorem ex_band : bnL exI 10000 = 9000 ∧ bnH exI 10000 = 11000 := ⟨by kernel_rfl, by kernel_rfl⟩
theorem ex_tick : gN exI.steps (stpN (fN exI.steps) exI.steps.length 9999) = 1 := by kernel_rfl
theorem ex_round : roV exI 10015 2 = 10020 := by kernel_rfl
theorem ex_fee : feV exI 99999 false = -2 := by kernel_rfl
theorem ex_phase : phF noS (fN exI.turns) (gN exI.turns) exI.turns.length 1704272340000 = 1 ∧ nxF noS (fN exI.turns) exI.turns.length 1704272340000 = 1704272400000 := ⟨by kernel_rfl, by kernel_rfl⟩
/-- An empty calendar. -/
theorem NewCal0 (w : World) (hM : Mon w) : Calls Tryd.prog 6 #[.slice none 0 0] w fun e w' => ∃ C, e = .returned (.tuple #[.pointer (some ⟨C, 0, none⟩), .int .i64 0]) ∧ CalAt w' C noS ∧ Below w.heap.size w w' :=
  NewCalendar_yes none 0 0 (fun _ => 0) w (by decide) (.inl rfl) hM (fun j hj => by omega)
set_option maxRecDepth 100000 in
set_option maxHeartbeats 8000000 in
theorem shown_any (w : World) (hM : Mon w) :
    Calls Tryd.prog 5 #[] w fun e w' => e = .returned (.bool true) ∧ Below w.heap.size w w' := by
  have HM : Hid (Mon w) := hM
  clear hM
  go_enter Tryd.func5, Tryd.ntmps5
  go_wp2_with (go_at_call 6; fail)
  refine (NewCal0 _ HM.out).mono ?_
  rintro e w1 ⟨C, rfl, hc1, hb1⟩
  have H1 : Hid (Below w.heap.size w w1 ∧ Mon w1 ∧ CalAt w1 C noS) := ⟨hb1, HM.out.below hb1 HM.out.lt, hc1⟩
  clear hc1 hb1
  go_wp2_with (go_at_call 7; fail)
  refine (example_any _).mono ?_
  rintro e w2 ⟨aS, cS, aT, cT, rfl, ho1, ho2, hb2⟩
  have H2 : Hid (Below w.heap.size w w2 ∧ Mon w2 ∧ CalAt w2 C noS ∧ SrcT w2 (.slice aS 2 cS) exI.steps ∧ SrcT w2 (.slice aT 4 cT) exI.turns) := ⟨H1.out.1.trans (hb2.mono H1.out.1.size), H1.out.2.1.below hb2 H1.out.2.1.lt, H1.out.2.2.below hb2, ho1.src, ho2.src⟩
  clear ho1 ho2 hb2 H1
  go_wp2_with (go_at_call 9; fail)
  refine (New_yes exI aS aT cS cT C w2 H2.out.2.2.2.1 H2.out.2.2.2.2 exI_ok (by decide) (by decide)).mono ?_
  rintro e w3 ⟨L, rfl, hl3, hb3⟩
  have H3 : Hid (Below w.heap.size w w3 ∧ Mon w3 ∧ LisC w3 L w2.heap.size exI C noS) := ⟨H2.out.1.trans (hb3.mono H2.out.1.size), H2.out.2.1.below hb3 H2.out.2.1.lt, ⟨hl3, H2.out.2.2.1.below hb3, H2.out.2.1.below hb3 H2.out.2.1.lt⟩⟩
  clear hl3 hb3 H2
  go_wp2_with (go_at_call 7; fail)
  refine (example_any _).mono ?_
  rintro e w4 ⟨aS, cS, aT, cT, rfl, ho1, ho2, hb4⟩
  have H4 : Hid (Below w.heap.size w w4 ∧ LisC w4 L w2.heap.size exI C noS) := ⟨H3.out.1.trans (hb4.mono H3.out.1.size), H3.out.2.2.below hb4⟩
  clear ho1 ho2 hb4 H3
  go_wp2_with (go_at_call 9; fail)
  refine (New_nil exI aS aT 2 cS 4 cT w4).mono ?_
  rintro e w5 ⟨rfl, hb5⟩
  have H5 : Hid (Below w.heap.size w w5 ∧ LisC w5 L w2.heap.size exI C noS) := ⟨H4.out.1.trans (hb5.mono H4.out.1.size), H4.out.2.below hb5⟩
  clear hb5 H4
  have hck := fun w' (hl : LisC w' L w2.heap.size exI C noS) => Check_any L w2.heap.size C exI (exO 10010) 3 10000 20240103 w' hl.lis hl.mon (by decide) (by decide)
  have hck2 := fun w' (hl : LisC w' L w2.heap.size exI C noS) => Check_any L w2.heap.size C exI (exO 10015) 3 10000 20240103 w' hl.lis hl.mon (by decide) (by decide)
  rw [ex_chk.1] at hck
  rw [ex_chk.2] at hck2
  have HB : Hid (Blk (w5.alloc (.cells #[.int .i64 0, .string ⟨#[]⟩, .string ⟨#[]⟩, .string ⟨#[]⟩, .int .i64 1, .int .i64 1, .int .i64 1, .int .i64 10010, .int .i64 0, .int .i64 20, .int .i64 0, .int .i64 0, .int .i64 0, .int .i64 0, .int .i64 0] 50)) w5.heap.size 50 #[.int .i64 0, .string ⟨#[]⟩, .string ⟨#[]⟩, .string ⟨#[]⟩, .int .i64 1, .int .i64 1, .int .i64 1, .int .i64 10010, .int .i64 0, .int .i64 20, .int .i64 0, .int .i64 0, .int .i64 0, .int .i64 0, .int .i64 0] ∧ Below w5.heap.size w5 (w5.alloc (.cells #[.int .i64 0, .string ⟨#[]⟩, .string ⟨#[]⟩, .string ⟨#[]⟩, .int .i64 1, .int .i64 1, .int .i64 1, .int .i64 10010, .int .i64 0, .int .i64 20, .int .i64 0, .int .i64 0, .int .i64 0, .int .i64 0, .int .i64 0] 50))) := ⟨Blk.new _ _ _, (Below.refl _ w5).alloc (Nat.le_refl _) _⟩
  go_wp2_with (go_at_call 19; fail)
  refine (hck _ (H5.out.2.below HB.out.2)).mono ?_
  rintro e w6 ⟨rfl, hb6⟩
  have H6 : Hid (Below w.heap.size w w6 ∧ LisC w6 L w2.heap.size exI C noS ∧ Blk w6 w5.heap.size 50 #[.int .i64 0, .string ⟨#[]⟩, .string ⟨#[]⟩, .string ⟨#[]⟩, .int .i64 1, .int .i64 1, .int .i64 1, .int .i64 10010, .int .i64 0, .int .i64 20, .int .i64 0, .int .i64 0, .int .i64 0, .int .i64 0, .int .i64 0] ∧ Below w5.heap.size w5 w6) := ⟨(H5.out.1.trans (HB.out.2.mono H5.out.1.size)).trans (hb6.mono (Nat.le_trans H5.out.1.size HB.out.2.size)), (H5.out.2.below HB.out.2).below hb6, HB.out.1.below hb6 HB.out.1.lt, HB.out.2.trans (hb6.mono HB.out.2.size)⟩
  clear hb6 HB hck
  have c7 : w6.cell? ⟨w5.heap.size, 7, none⟩ = some (.int .i64 10010) := H6.out.2.2.1.cell 7
  have f7 : w6.frozen? ⟨w5.heap.size, 7, none⟩ = false := H6.out.2.2.1.frozen 7
  go_upto_region 9 with fail
  have H7 : Hid (Below w.heap.size w (w6.setCell ⟨w5.heap.size, 7, none⟩ (.int .i64 10015)) ∧ LisC (w6.setCell ⟨w5.heap.size, 7, none⟩ (.int .i64 10015)) L w2.heap.size exI C noS ∧ Blk (w6.setCell ⟨w5.heap.size, 7, none⟩ (.int .i64 10015)) w5.heap.size 50 #[.int .i64 0, .string ⟨#[]⟩, .string ⟨#[]⟩, .string ⟨#[]⟩, .int .i64 1, .int .i64 1, .int .i64 1, .int .i64 10015, .int .i64 0, .int .i64 20, .int .i64 0, .int .i64 0, .int .i64 0, .int .i64 0, .int .i64 0]) :=
    ⟨below_set H6.out.1 H5.out.1.size _ _, H5.out.2.below (below_set H6.out.2.2.2 (Nat.le_refl _) _ _), H6.out.2.2.1.set 7 _⟩
  generalize w6.setCell ⟨w5.heap.size, 7, none⟩ (.int .i64 10015) = w7 at *
  clear c7 f7 H6
  have w7x0 : w7.cell? ⟨w5.heap.size, 0, none⟩ = some (.int .i64 0) := H7.out.2.2.cell 0
  have w7x1 : w7.cell? ⟨w5.heap.size, 1, none⟩ = some (.string ⟨#[]⟩) := H7.out.2.2.cell 1
  have w7x2 : w7.cell? ⟨w5.heap.size, 2, none⟩ = some (.string ⟨#[]⟩) := H7.out.2.2.cell 2
  have w7x3 : w7.cell? ⟨w5.heap.size, 3, none⟩ = some (.string ⟨#[]⟩) := H7.out.2.2.cell 3
  have w7x4 : w7.cell? ⟨w5.heap.size, 4, none⟩ = some (.int .i64 1) := H7.out.2.2.cell 4
  have w7x5 : w7.cell? ⟨w5.heap.size, 5, none⟩ = some (.int .i64 1) := H7.out.2.2.cell 5
  have w7x6 : w7.cell? ⟨w5.heap.size, 6, none⟩ = some (.int .i64 1) := H7.out.2.2.cell 6
  have w7x7 : w7.cell? ⟨w5.heap.size, 7, none⟩ = some (.int .i64 10015) := H7.out.2.2.cell 7
  have w7x8 : w7.cell? ⟨w5.heap.size, 8, none⟩ = some (.int .i64 0) := H7.out.2.2.cell 8
  have w7x9 : w7.cell? ⟨w5.heap.size, 9, none⟩ = some (.int .i64 20) := H7.out.2.2.cell 9
  have w7x10 : w7.cell? ⟨w5.heap.size, 10, none⟩ = some (.int .i64 0) := H7.out.2.2.cell 10
  have w7x11 : w7.cell? ⟨w5.heap.size, 11, none⟩ = some (.int .i64 0) := H7.out.2.2.cell 11
  have w7x12 : w7.cell? ⟨w5.heap.size, 12, none⟩ = some (.int .i64 0) := H7.out.2.2.cell 12
  have w7x13 : w7.cell? ⟨w5.heap.size, 13, none⟩ = some (.int .i64 0) := H7.out.2.2.cell 13
  have w7x14 : w7.cell? ⟨w5.heap.size, 14, none⟩ = some (.int .i64 0) := H7.out.2.2.cell 14
  go_wp2_with (go_at_call 19; fail)
  refine (hck2 _ H7.out.2.1).mono ?_
  rintro e w8 ⟨rfl, hb8⟩
  have H8 : Hid (Below w.heap.size w w8 ∧ LisC w8 L w2.heap.size exI C noS) := ⟨H7.out.1.trans (hb8.mono H7.out.1.size), H7.out.2.1.below hb8⟩
  clear hb8 hck2 H7 H5
  clear w7x0 w7x1 w7x2 w7x3 w7x4 w7x5 w7x6 w7x7 w7x8 w7x9 w7x10 w7x11 w7x12 w7x13 w7x14
  have hbn := fun w' (hl : LisC w' L w2.heap.size exI C noS) => Band_any L w2.heap.size C exI 10000 w' hl.lis
  rw [ex_band.1, ex_band.2] at hbn
  have hph := fun w' (hl : LisC w' L w2.heap.size exI C noS) => Phase_any L w2.heap.size C exI noS 1704272340000 w' hl
  rw [ex_phase.1, ex_phase.2] at hph
  have htk := fun w' (hl : LisC w' L w2.heap.size exI C noS) => Tick_any L w2.heap.size C exI 9999 w' hl.lis
  rw [ex_tick] at htk
  have hro := fun w' (hl : LisC w' L w2.heap.size exI C noS) => Round_any L w2.heap.size C exI 10015 2 w' hl.lis
  rw [ex_round] at hro
  have hfe := fun w' (hl : LisC w' L w2.heap.size exI C noS) => Fee_any L w2.heap.size C exI 99999 false w' hl.lis
  rw [ex_fee] at hfe
  go_wp2_with (go_at_call 20; fail)
  refine (hbn _ H8.out.2).mono ?_
  rintro e wa ⟨rfl, hb⟩
  have Hwa : Hid (Below w.heap.size w wa ∧ LisC wa L w2.heap.size exI C noS) := ⟨H8.out.1.trans (hb.mono H8.out.1.size), H8.out.2.below hb⟩
  clear hb H8
  go_wp2_with (go_at_call 10; fail)
  refine (hph _ Hwa.out.2).mono ?_
  rintro e wb ⟨rfl, hb⟩
  have Hwb : Hid (Below w.heap.size w wb ∧ LisC wb L w2.heap.size exI C noS) := ⟨Hwa.out.1.trans (hb.mono Hwa.out.1.size), Hwa.out.2.below hb⟩
  clear hb Hwa
  go_wp2_with (go_at_call 18; fail)
  refine (htk _ Hwb.out.2).mono ?_
  rintro e wc ⟨rfl, hb⟩
  have Hwc : Hid (Below w.heap.size w wc ∧ LisC wc L w2.heap.size exI C noS) := ⟨Hwb.out.1.trans (hb.mono Hwb.out.1.size), Hwb.out.2.below hb⟩
  clear hb Hwb
  go_wp2_with (go_at_call 16; fail)
  refine (hro _ Hwc.out.2).mono ?_
  rintro e wd ⟨rfl, hb⟩
  have Hwd : Hid (Below w.heap.size w wd ∧ LisC wd L w2.heap.size exI C noS) := ⟨Hwc.out.1.trans (hb.mono Hwc.out.1.size), Hwc.out.2.below hb⟩
  clear hb Hwc
  go_wp2_with (go_at_call 21; fail)
  refine (hfe _ Hwd.out.2).mono ?_
  rintro e we ⟨rfl, hb⟩
  have Hwe : Hid (Below w.heap.size w we ∧ LisC we L w2.heap.size exI C noS) := ⟨Hwd.out.1.trans (hb.mono Hwd.out.1.size), Hwd.out.2.below hb⟩
  clear hb Hwd
  go_wp2
  go_ret
  exact ⟨rfl, Hwe.out.1⟩
end Go.Proofs.YtnhkmfofkhhnaaaDoor
