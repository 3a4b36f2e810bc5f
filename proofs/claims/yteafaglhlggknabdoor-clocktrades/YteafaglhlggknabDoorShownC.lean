/-
  clock: the document's examples: shown.
-/
import Derived.Test.YteafaglhlggknabDoorStamps
import Derived.Test.YteafaglhlggknabDoorReads2
import Derived.Test.YteafaglhlggknabDoorAdds
namespace Go.Proofs.YteafaglhlggknabDoor
set_option linter.unusedVariables false
open Go.Shelf Go.RowKit Go.Sort Go.Lib Go.Maps

theorem isD_0229 : IsD 2024 2 29 := ⟨by decide, by decide, by decide, by decide, by decide, by decide⟩
theorem isD_1224 : IsD 2024 12 24 := ⟨by decide, by decide, by decide, by decide, by decide, by decide⟩
theorem isD_1225 : IsD 2024 12 25 := ⟨by decide, by decide, by decide, by decide, by decide, by decide⟩
theorem isD_1226 : IsD 2024 12 26 := ⟨by decide, by decide, by decide, by decide, by decide, by decide⟩
theorem dn_0229 : dnum 20240229 = some 19782 := by
  have h := dnum_of isD_0229
  rw [show ((encD 2024 2 29 : Nat) : Int) = 20240229 by decide, show dayNo 2024 2 29 = 19782 by decide] at h
  exact h
theorem dn_1224 : dnum 20241224 = some 20081 := by
  have h := dnum_of isD_1224
  rw [show ((encD 2024 12 24 : Nat) : Int) = 20241224 by decide, show dayNo 2024 12 24 = 20081 by decide] at h
  exact h
theorem dn_1225 : dnum 20241225 = some 20082 := by
  have h := dnum_of isD_1225
  rw [show ((encD 2024 12 25 : Nat) : Int) = 20241225 by decide, show dayNo 2024 12 25 = 20082 by decide] at h
  exact h
theorem date_20083 : dateN 20083 = 20241226 := by
  have h := dateN_eq isD_1226
  rw [show dayNo 2024 12 26 = 20083 by decide, show encD 2024 12 26 = 20241226 by decide] at h
  exact h
theorem date_19782 : dateN 19782 = 20240229 := by
  have h := dateN_eq isD_0229
  rw [show dayNo 2024 2 29 = 19782 by decide, show encD 2024 2 29 = 20240229 by decide] at h
  exact h
theorem stamp_shown : strOfNums (stampI 1709210096789) = ⟨#[50, 48, 50, 52, 48, 50, 50, 57, 45, 49, 50, 58, 51, 52, 58, 53, 54, 46, 55, 56, 57]⟩ := by
  unfold stampI
  rw [show 1709210096789 / 86400000 = 19782 by decide, date_19782]
  decide
def shownS : ByteArray := ⟨#[50, 48, 50, 52, 48, 50, 50, 57, 45, 49, 50, 58, 51, 52, 58, 53, 54]⟩
theorem parse_shown : psV shownS = 1709210096000 ∧ psE shownS = 0 := by
  have p1 : part shownS 0 8 = 20240229 := by decide
  have p2 : part shownS 9 11 = 12 := by decide
  have p3 : part shownS 12 14 = 34 := by decide
  have p4 : part shownS 15 17 = 56 := by decide
  have hb : dnB ((20240229 : Nat) : Int) = true := by unfold dnB; rw [show ((20240229 : Nat) : Int) = 20240229 from rfl, dn_0229]; rfl
  have hv : dnV ((20240229 : Nat) : Int) = 19782 := by unfold dnV; rw [show ((20240229 : Nat) : Int) = 20240229 from rfl, dn_0229]; rfl
  have hok : psOk shownS = true := by
    unfold psOk
    rw [p1, p2, p3, p4, hb, show formOk shownS = true by decide]
    rfl
  unfold psV psE
  rw [hok, p1, p2, p3, p4, hv, if_pos rfl, if_pos rfl, if_neg (by decide)]
  exact ⟨rfl, rfl⟩
theorem add_shown (S : Int → Bool) (h : ∀ x, S x = (x == 20082)) : goUp S 20081 1 = some 20083 := by
  have o1 : isOpen S 20082 = false := by unfold isOpen; rw [h]; decide
  have o2 : isOpen S 20083 = true := by unfold isOpen; rw [h]; decide
  rw [goUp_step S (by decide) (by decide), o1, if_neg (by decide), goUp_step S (by decide) (by decide), o2, if_pos rfl, goUp_zero]
theorem week_shown : wkV 20240229 = 4 ∧ dtE 20240229 = 0 := by
  have hb : dnB 20240229 = true := by unfold dnB; rw [dn_0229]; rfl
  have hv : dnV 20240229 = 19782 := by unfold dnV; rw [dn_0229]; rfl
  unfold wkV dtE
  rw [hb, hv]
  exact ⟨rfl, rfl⟩
set_option maxRecDepth 100000 in
set_option maxHeartbeats 1000000 in
theorem shown_any (w : World) (hM : Mon w) :
    Calls Tryd.prog 5 #[] w fun e w' => e = .returned (.bool true) ∧ Below w.heap.size w w' := by
  have h1 := Stamp_yes 1709210096789 w hM (by decide)
  rw [stamp_shown] at h1
  have HM : Hid (Mon w) := hM
  clear hM
  go_enter Tryd.func5, Tryd.ntmps5
  go_wp2_with (go_at_call 6; fail)
  refine h1.mono ?_
  rintro e w1 ⟨rfl, hb1⟩
  have HB1 : Hid (Below w.heap.size w w1 ∧ Mon w1) := ⟨hb1, HM.out.below hb1 HM.out.lt⟩
  clear hb1 h1
  go_wp2_with (go_at_call 18; fail)
  have h2 := ParseStamp_any shownS w1 HB1.out.2
  rw [parse_shown.1, parse_shown.2] at h2
  refine h2.mono ?_
  rintro e w2 ⟨rfl, q2, hw2⟩
  have HB2 : Hid (Below w.heap.size w w2 ∧ Mon w2) := by rw [hw2]; exact ⟨below_drewN HB1.out.1 _, HB1.out.2⟩
  clear hw2 h2 HB1
  go_wp2_with (go_at_call 19; fail)
  have h3 := Weekday_any 20240229 w2 HB2.out.2 (by decide) (by decide)
  rw [week_shown.1, week_shown.2] at h3
  refine h3.mono ?_
  rintro e w2 ⟨rfl, rfl⟩
  clear h3
  go_wp2_with (go_at_call 20; fail)
  have hal : Below w.heap.size w (w2.alloc (Obj.cells #[Value.int IntKind.i64 20241225] 3)) := HB2.out.1.alloc HB2.out.1.size _
  have h4 := NewCalendar_yes (some ⟨w2.heap.size, 0, none⟩) 1 1 (fun _ => 20241225) (w2.alloc (Obj.cells #[Value.int IntKind.i64 20241225] 3)) (by decide)
    (.inr ⟨w2.heap.size, 0, rfl, fun j hj => ⟨by rw [show 0 + j = 0 by omega]; exact cell_new_sl w2 _ 3, show (-9223372036854775808 : Int) ≤ 20241225 by decide, show (20241225 : Int) ≤ 9223372036854775807 by decide⟩⟩)
    (HB2.out.2.below ((Below.refl _ w2).alloc (Nat.le_refl _) _) HB2.out.2.lt) (fun j hj => by show dnB 20241225 = true; unfold dnB; rw [dn_1225]; rfl)
  refine h4.mono ?_
  rintro e w4 ⟨C, rfl, hC, hb4⟩
  have HB4 : Hid (Below w.heap.size w w4 ∧ Mon w4 ∧ CalAt w4 C (daySet (fun _ => 20241225) 1)) := by
    have hb := hal.trans (hb4.mono hal.size)
    exact ⟨hb, HM.out.below hb HM.out.lt, hC⟩
  clear h4 hal hb4 hC HB2
  have h5 := Add_up C _ 20241224 20081 w4 HB4.out.2.1 HB4.out.2.2 (by decide) (by decide) dn_1224 1 (by decide) (by decide)
  rw [add_shown _ (fun x => by
    show (daySet (fun _ => 20241225) 1 x) = _
    have hv : dnV 20241225 = 20082 := by unfold dnV; rw [dn_1225]; rfl
    simp [daySet, hv]
    exact Bool.beq_comm)] at h5
  have e5 : addV (some 20083) = 20241226 := by show ((dateN 20083 : Nat) : Int) = _; rw [date_20083]; rfl
  have e6 : addE (some 20083) = 0 := rfl
  rw [e5, e6] at h5
  go_wp2_with (go_at_call 14; fail)
  refine h5.mono ?_
  rintro e w5 ⟨rfl, hb5⟩
  have HB5 : Hid (Below w.heap.size w w5) := HB4.out.1.trans (hb5.mono HB4.out.1.size)
  clear hb5 h5 HB4
  go_wp2
  go_ret
  exact ⟨rfl, HB5.out⟩
end Go.Proofs.YteafaglhlggknabDoor
