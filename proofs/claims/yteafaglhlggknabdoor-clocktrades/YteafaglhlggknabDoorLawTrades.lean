/-
  ClockTrades: the walk.
-/
import Derived.Test.YteafaglhlggknabDoorMade1
import Derived.Test.YteafaglhlggknabDoorShownC
import Derived.Test.YteafaglhlggknabDoorPick
import Derived.Deep.RegionHeld3
namespace Go.Proofs.YteafaglhlggknabDoor
set_option linter.unusedVariables false
open Go.Shelf Go.RowKit Go.Sort Go.Lib Go.Maps

/-- Questions that came in. -/
def SrcA (w : World) (a : Option Addr) (n : Nat) (t : Nat → Int × Int × Int) : Prop := n = 0 ∨ ∃ b off, a = some ⟨b, off, none⟩ ∧ ∀ j, j < n → w.cell? ⟨b, off + j * 3, none⟩ = some (.int .i64 (t j).1) ∧ w.cell? ⟨b, off + j * 3 + 1, none⟩ = some (.int .i64 (t j).2.1) ∧ w.cell? ⟨b, off + j * 3 + 2, none⟩ = some (.int .i64 (t j).2.2) ∧ (-9223372036854775808 ≤ (t j).1 ∧ (t j).1 ≤ 9223372036854775807) ∧ -9223372036854775808 ≤ (t j).2.1 ∧ (t j).2.1 ≤ 9223372036854775807
theorem SrcA.below {w w' : World} {a : Option Addr} {n : Nat} {t : Nat → Int × Int × Int} (h : SrcA w a n t) (hb : Below w.heap.size w w') : SrcA w' a n t := by
  rcases h with h | ⟨b, off, e, h⟩
  · exact .inl h
  · refine .inr ⟨b, off, e, fun j hj => ?_⟩
    obtain ⟨h1, h2, h3, h4⟩ := h j hj
    have hlt : b < w.heap.size := World.block_lt_of_cell? _ _ h1
    exact ⟨by rw [hb.cell (p := ⟨b, _, none⟩) hlt]; exact h1, by rw [hb.cell (p := ⟨b, _, none⟩) hlt]; exact h2, by rw [hb.cell (p := ⟨b, _, none⟩) hlt]; exact h3, h4⟩
set_option maxRecDepth 100000 in
set_option maxHeartbeats 8000000 in
theorem ClockTrades_law (a1 : Option Addr) (n1 c1 : Nat) (d1 : Nat → Int) (a2 : Option Addr) (n2 c2 : Nat) (d2 : Nat → Int) (a3 : Option Addr) (n3 c3 : Nat) (t : Nat → Int × Int × Int) (w : World)
    (hn1 : n1 ≤ 17592186043904) (hn2 : n2 ≤ 17592186043904) (hn3 : n3 ≤ maxLen) (hs1 : SrcI w a1 n1 d1) (hs2 : SrcI w a2 n2 d2) (hs3 : SrcA w a3 n3 t) (hz1 : a1 = none → c1 = 0) (hz2 : a2 = none → c2 = 0) (hM : Mon w) :
    Calls Tryd.prog 4 #[.slice a1 n1 c1, .slice a2 n2 c2, .slice a3 n3 c3] w fun e w' => e = .returned (.bool true) ∧ Below w.heap.size w w' := by
  have HS : Hid (SrcI w a1 n1 d1 ∧ SrcI w a2 n2 d2 ∧ SrcA w a3 n3 t ∧ Mon w ∧ (a1 = none → c1 = 0) ∧ (a2 = none → c2 = 0)) := ⟨hs1, hs2, hs3, hM, hz1, hz2⟩
  have hn3' : n3 ≤ 9223372036854775807 := by unfold maxLen at hn3; omega
  clear hs1 hs2 hs3 hM hz1 hz2
  go_enter Tryd.func4, Tryd.ntmps4
  go_wp2_with (go_at_call 5; fail)
  refine (shown_any _ HS.out.2.2.2.1).mono ?_
  rintro e wa ⟨rfl, hba⟩
  have HA : Hid (Below w.heap.size w wa) := hba
  clear hba
  go_wp2_with (go_at_call 12; fail)
  refine (made_any a1 n1 c1 d1 wa hn1 (HS.out.1.below HA.out) HS.out.2.2.2.2.1 (HS.out.2.2.2.1.below HA.out HS.out.2.2.2.1.lt)).mono ?_
  rintro e wb ⟨v1, r1, rfl, hcv1, hrv1, hbb⟩
  have HB0 : Hid (CV wb n1 d1 v1 ∧ RV wb n1 d1 r1 ∧ Below w.heap.size w wb) := ⟨hcv1, hrv1, HA.out.trans (hbb.mono HA.out.size)⟩
  clear hcv1 hrv1 hbb HA
  go_wp2_with (go_at_call 12; fail)
  refine (made_any a2 n2 c2 d2 wb hn2 (HS.out.2.1.below HB0.out.2.2) HS.out.2.2.2.2.2 (HS.out.2.2.2.1.below HB0.out.2.2 HS.out.2.2.2.1.lt)).mono ?_
  rintro e w0 ⟨v2, r2, rfl, hcv2, hrv2, hbc⟩
  have hb0 : Below w.heap.size w w0 := HB0.out.2.2.trans (hbc.mono HB0.out.2.2.size)
  have HI : Hid (CV w0 n1 d1 v1 ∧ RV w0 n1 d1 r1 ∧ CV w0 n2 d2 v2 ∧ RV w0 n2 d2 r2 ∧ Mon w0) := ⟨HB0.out.1.below hbc, HB0.out.2.1.below hbc, hcv2, hrv2, HS.out.2.2.2.1.below hb0 HS.out.2.2.2.1.lt⟩
  have HA1 : Hid (SrcA w0 a3 n3 t ∧ Below w.heap.size w w0) := ⟨HS.out.2.2.1.below hb0, hb0⟩
  clear hcv2 hrv2 hbc hb0 HB0 HS
  go_wp2
  go_loopw [14] (fun i wr => ∃ k : Nat, k ≤ n3 ∧ k ≤ 1000 ∧ i = .int .i64 (k : Int) ∧ Below w0.heap.size w0 wr) (fun i _ => 1000 - (intOf i).toNat)
  case atStart => exact ⟨0, Nat.zero_le _, Nat.zero_le _, rfl, Below.refl _ _⟩
  case round =>
    obtain ⟨k, hk3, hk1, rfl, hbr⟩ := hrel
    have HB : Hid (Below w0.heap.size w0 wr) := hbr
    clear hbr
    by_cases hlt : k < n3
    · have hlt' : (k : Int) < (n3 : Int) := by omega
      by_cases hlt2 : k < 1000
      · have hlt2' : (k : Int) < 1000 := by omega
        rcases HA1.out.1.below HB.out with h | ⟨b, off, rfl, hr⟩
        · omega
        obtain ⟨g0, g1, g2, ⟨y0, y1⟩, hz0, hz1⟩ := hr k hlt
        clear hr
        have HKP : Hid (∀ w', Below wr.heap.size wr w' → w'.cell? ⟨b, off + k * 3 + 1, none⟩ = some (.int .i64 (t k).2.1) ∧ w'.cell? ⟨b, off + k * 3 + 2, none⟩ = some (.int .i64 (t k).2.2)) := fun w' hb =>
          ⟨by rw [hb.cell (p := ⟨b, _, none⟩) (World.block_lt_of_cell? _ _ g1)]; exact g1, by rw [hb.cell (p := ⟨b, _, none⟩) (World.block_lt_of_cell? _ _ g2)]; exact g2⟩
        generalize (t k).1 = y at *
        generalize (t k).2.1 = z at *
        generalize (t k).2.2 = x at *
        have hpk := pick_any y 2 2 rfl wr (by decide) (by decide) y0 y1
        have hpl := pickN_lt y (n := 2) (by decide)
        have hp : pickN y 2 = 0 ∨ pickN y 2 = 1 := by omega
        clear hpl
        rcases hp with hp | hp
        · rw [hp] at hpk
          clear hp
          go_wp2_with (go_at_call 13; fail)
          refine hpk.mono ?_
          rintro e wr ⟨rfl, rfl⟩
          clear hpk
          rcases (HI.out.1.below HB.out) with ⟨k1, k2⟩ | ⟨k1, C, k2, k3⟩
          · rcases (HI.out.2.1.below HB.out) with ⟨k4, k5⟩ | ⟨k4, R, k5, k6⟩
            · subst k2 k5
              clear k1 k4
              go_wp2
              exact ⟨⟨k + 1, by omega, by omega, by go_num, HB.out⟩, by simp [intOf]; omega⟩
            · exact absurd k4 k1
          · rcases (HI.out.2.1.below HB.out) with ⟨k4, k5⟩ | ⟨k4, R, k5, k6⟩
            · exact absurd k1 k4
            · subst k2 k5
              clear k1 k4
              have HCAL : Hid (CalAt wr C (daySet d1 n1) ∧ RC wr R n1 d1 ∧ Below w0.heap.size w0 wr ∧ Mon wr) := ⟨k3, k6, HB.out, HI.out.2.2.2.2.below HB.out HI.out.2.2.2.2.lt⟩
              have HAD : Hid (∀ w', Below wr.heap.size wr w' → Calls Tryd.prog 14 #[.pointer (some ⟨C, 0, none⟩), .int .i64 z, .int .i64 x] w' fun e w2 => e = .returned (.tuple #[.int .i64 (addP (daySet d1 n1) z x).1, .int .i64 (addP (daySet d1 n1) z x).2]) ∧ Below w'.heap.size w' w2) := fun w' hb => Add_all C (daySet d1 n1) z x w' (HCAL.out.2.2.2.below hb HCAL.out.2.2.2.lt) (HCAL.out.1.below hb) hz0 hz1
              have HRA : Hid (∀ w', Below wr.heap.size wr w' → Calls Tryd.prog 15 #[.pointer (some ⟨R, 0, none⟩), .int .i64 z, .int .i64 x] w' fun e w2 => e = .returned (.tuple #[.int .i64 (addP (daySet d1 n1) z x).1, .int .i64 (addP (daySet d1 n1) z x).2]) ∧ Below w'.heap.size w' w2) := fun w' hb => refAdd_all R n1 d1 z x w' (HCAL.out.2.1.below hb) hz0 hz1
              have HOP : Hid (∀ w', Below wr.heap.size wr w' → Calls Tryd.prog 16 #[.pointer (some ⟨C, 0, none⟩), .int .i64 z] w' fun e w2 => e = .returned (.bool (dnB z && isOpen (daySet d1 n1) (dnV z).toNat)) ∧ Below w'.heap.size w' w2) := fun w' hb => Open_any C (daySet d1 n1) z w' (HCAL.out.2.2.2.below hb HCAL.out.2.2.2.lt) (HCAL.out.1.below hb) hz0 hz1
              have HRO : Hid (∀ w', Below wr.heap.size wr w' → Calls Tryd.prog 17 #[.pointer (some ⟨R, 0, none⟩), .int .i64 z] w' fun e w2 => e = .returned (.bool (dnB z && isOpen (daySet d1 n1) (dnV z).toNat)) ∧ Below w'.heap.size w' w2) := fun w' hb => refOpen_any R n1 d1 z w' (HCAL.out.2.1.cal.below hb) HCAL.out.2.1.hn HCAL.out.2.1.ok hz0 hz1
              generalize (addP (daySet d1 n1) z x).1 = P1 at *
              generalize (addP (daySet d1 n1) z x).2 = P2 at *
              generalize (dnB z && isOpen (daySet d1 n1) (dnV z).toNat) = ob at *
              have hp1 : (P1 != P1) = false := by simp
              have hp2 : (P2 != P2) = false := by simp
              have hob : (ob == ob) = true := by simp
              go_upto_region 15 with fail
              have hB1 : Below wr.heap.size wr wr.drew := (Below.refl _ wr).drew
              go_region_held3 (fun w' => w'.cell? ⟨b, off + k * 3 + 1, none⟩ = some (.int .i64 z) ∧ w'.cell? ⟨b, off + k * 3 + 2, none⟩ = some (.int .i64 x)) (first | exact HKP.out _ hB5 | exact HKP.out _ hB1) (first | (go_at_call 14; refine (HAD.out _ hB1).mono ?_; rintro e w5 ⟨rfl, hb5⟩; have hB5 : Below wr.heap.size wr w5 := hB1.trans (hb5.mono hB1.size); clear hb5))
              clear hB1 HAD
              obtain ⟨q1, q2⟩ := HKP.out _ hB5
              go_upto_region 16 with fail
              have hB6 : Below wr.heap.size wr w5.drew := hB5.drew
              go_region_held3 (fun w' => w'.cell? ⟨b, off + k * 3 + 1, none⟩ = some (.int .i64 z) ∧ w'.cell? ⟨b, off + k * 3 + 2, none⟩ = some (.int .i64 x)) (first | exact HKP.out _ hB7 | exact HKP.out _ hB6) (first | (go_at_call 15; refine (HRA.out _ hB6).mono ?_; rintro e w7 ⟨rfl, hb7⟩; have hB7 : Below wr.heap.size wr w7 := hB6.trans (hb7.mono hB6.size); clear hb7))
              clear hB6 hB5 HRA q1 q2
              obtain ⟨q1, q2⟩ := HKP.out _ hB7
              go_upto_region 17 with fail
              have hB8 : Below wr.heap.size wr w7.drew := hB7.drew
              go_region_held3 (fun w' => w'.cell? ⟨b, off + k * 3 + 1, none⟩ = some (.int .i64 z)) (first | exact (HKP.out _ hBa).1 | exact (HKP.out _ hB9).1 | exact (HKP.out _ hB8).1) (first
                | (go_at_call 16; refine (HOP.out _ hB8).mono ?_; rintro e w9 ⟨rfl, hb9⟩; have hB9 : Below wr.heap.size wr w9 := hB8.trans (hb9.mono hB8.size); clear hb9)
                | (go_at_call 17; refine (HRO.out _ hB9).mono ?_; rintro e wa ⟨rfl, hba⟩; have hBa : Below wr.heap.size wr wa := hB9.trans (hba.mono hB9.size); clear hba))
              all_goals have HZ : Hid (Below w0.heap.size w0 wa) := HB.out.trans (hBa.mono HB.out.size)
              all_goals clear hB8 hB7 hB9 hBa q1 q2 HOP HRO
              all_goals go_wp2
              all_goals exact ⟨⟨k + 1, by omega, by omega, by go_num, HZ.out⟩, by simp [intOf]; omega⟩
        · rw [hp] at hpk
          clear hp
          go_wp2_with (go_at_call 13; fail)
          refine hpk.mono ?_
          rintro e wr ⟨rfl, rfl⟩
          clear hpk
          rcases (HI.out.2.2.1.below HB.out) with ⟨k1, k2⟩ | ⟨k1, C, k2, k3⟩
          · rcases (HI.out.2.2.2.1.below HB.out) with ⟨k4, k5⟩ | ⟨k4, R, k5, k6⟩
            · subst k2 k5
              clear k1 k4
              go_wp2
              exact ⟨⟨k + 1, by omega, by omega, by go_num, HB.out⟩, by simp [intOf]; omega⟩
            · exact absurd k4 k1
          · rcases (HI.out.2.2.2.1.below HB.out) with ⟨k4, k5⟩ | ⟨k4, R, k5, k6⟩
            · exact absurd k1 k4
            · subst k2 k5
              clear k1 k4
              have HCAL : Hid (CalAt wr C (daySet d2 n2) ∧ RC wr R n2 d2 ∧ Below w0.heap.size w0 wr ∧ Mon wr) := ⟨k3, k6, HB.out, HI.out.2.2.2.2.below HB.out HI.out.2.2.2.2.lt⟩
              have HAD : Hid (∀ w', Below wr.heap.size wr w' → Calls Tryd.prog 14 #[.pointer (some ⟨C, 0, none⟩), .int .i64 z, .int .i64 x] w' fun e w2 => e = .returned (.tuple #[.int .i64 (addP (daySet d2 n2) z x).1, .int .i64 (addP (daySet d2 n2) z x).2]) ∧ Below w'.heap.size w' w2) := fun w' hb => Add_all C (daySet d2 n2) z x w' (HCAL.out.2.2.2.below hb HCAL.out.2.2.2.lt) (HCAL.out.1.below hb) hz0 hz1
              have HRA : Hid (∀ w', Below wr.heap.size wr w' → Calls Tryd.prog 15 #[.pointer (some ⟨R, 0, none⟩), .int .i64 z, .int .i64 x] w' fun e w2 => e = .returned (.tuple #[.int .i64 (addP (daySet d2 n2) z x).1, .int .i64 (addP (daySet d2 n2) z x).2]) ∧ Below w'.heap.size w' w2) := fun w' hb => refAdd_all R n2 d2 z x w' (HCAL.out.2.1.below hb) hz0 hz1
              have HOP : Hid (∀ w', Below wr.heap.size wr w' → Calls Tryd.prog 16 #[.pointer (some ⟨C, 0, none⟩), .int .i64 z] w' fun e w2 => e = .returned (.bool (dnB z && isOpen (daySet d2 n2) (dnV z).toNat)) ∧ Below w'.heap.size w' w2) := fun w' hb => Open_any C (daySet d2 n2) z w' (HCAL.out.2.2.2.below hb HCAL.out.2.2.2.lt) (HCAL.out.1.below hb) hz0 hz1
              have HRO : Hid (∀ w', Below wr.heap.size wr w' → Calls Tryd.prog 17 #[.pointer (some ⟨R, 0, none⟩), .int .i64 z] w' fun e w2 => e = .returned (.bool (dnB z && isOpen (daySet d2 n2) (dnV z).toNat)) ∧ Below w'.heap.size w' w2) := fun w' hb => refOpen_any R n2 d2 z w' (HCAL.out.2.1.cal.below hb) HCAL.out.2.1.hn HCAL.out.2.1.ok hz0 hz1
              generalize (addP (daySet d2 n2) z x).1 = P1 at *
              generalize (addP (daySet d2 n2) z x).2 = P2 at *
              generalize (dnB z && isOpen (daySet d2 n2) (dnV z).toNat) = ob at *
              have hp1 : (P1 != P1) = false := by simp
              have hp2 : (P2 != P2) = false := by simp
              have hob : (ob == ob) = true := by simp
              go_upto_region 15 with fail
              have hB1 : Below wr.heap.size wr wr.drew := (Below.refl _ wr).drew
              go_region_held3 (fun w' => w'.cell? ⟨b, off + k * 3 + 1, none⟩ = some (.int .i64 z) ∧ w'.cell? ⟨b, off + k * 3 + 2, none⟩ = some (.int .i64 x)) (first | exact HKP.out _ hB5 | exact HKP.out _ hB1) (first | (go_at_call 14; refine (HAD.out _ hB1).mono ?_; rintro e w5 ⟨rfl, hb5⟩; have hB5 : Below wr.heap.size wr w5 := hB1.trans (hb5.mono hB1.size); clear hb5))
              clear hB1 HAD
              obtain ⟨q1, q2⟩ := HKP.out _ hB5
              go_upto_region 16 with fail
              have hB6 : Below wr.heap.size wr w5.drew := hB5.drew
              go_region_held3 (fun w' => w'.cell? ⟨b, off + k * 3 + 1, none⟩ = some (.int .i64 z) ∧ w'.cell? ⟨b, off + k * 3 + 2, none⟩ = some (.int .i64 x)) (first | exact HKP.out _ hB7 | exact HKP.out _ hB6) (first | (go_at_call 15; refine (HRA.out _ hB6).mono ?_; rintro e w7 ⟨rfl, hb7⟩; have hB7 : Below wr.heap.size wr w7 := hB6.trans (hb7.mono hB6.size); clear hb7))
              clear hB6 hB5 HRA q1 q2
              obtain ⟨q1, q2⟩ := HKP.out _ hB7
              go_upto_region 17 with fail
              have hB8 : Below wr.heap.size wr w7.drew := hB7.drew
              go_region_held3 (fun w' => w'.cell? ⟨b, off + k * 3 + 1, none⟩ = some (.int .i64 z)) (first | exact (HKP.out _ hBa).1 | exact (HKP.out _ hB9).1 | exact (HKP.out _ hB8).1) (first
                | (go_at_call 16; refine (HOP.out _ hB8).mono ?_; rintro e w9 ⟨rfl, hb9⟩; have hB9 : Below wr.heap.size wr w9 := hB8.trans (hb9.mono hB8.size); clear hb9)
                | (go_at_call 17; refine (HRO.out _ hB9).mono ?_; rintro e wa ⟨rfl, hba⟩; have hBa : Below wr.heap.size wr wa := hB9.trans (hba.mono hB9.size); clear hba))
              all_goals have HZ : Hid (Below w0.heap.size w0 wa) := HB.out.trans (hBa.mono HB.out.size)
              all_goals clear hB8 hB7 hB9 hBa q1 q2 HOP HRO
              all_goals go_wp2
              all_goals exact ⟨⟨k + 1, by omega, by omega, by go_num, HZ.out⟩, by simp [intOf]; omega⟩
      · have hk1000 : k = 1000 := by omega
        subst hk1000
        go_wp2
        go_ret
        exact ⟨rfl, HA1.out.2.trans (HB.out.mono HA1.out.2.size)⟩
    · go_wp2
      go_ret
      exact ⟨rfl, HA1.out.2.trans (HB.out.mono HA1.out.2.size)⟩
end Go.Proofs.YteafaglhlggknabDoor
