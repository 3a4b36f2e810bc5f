/-
  The document's examples: shown.
-/
import Derived.Test.YtnnfepapnimlcabDoorPrice2
import Derived.Test.YtnnfepapnimlcabDoorFmt
import Derived.Test.YtnnfepapnimlcabDoorDiv
import Derived.Test.YtnnfepapnimlcabDoorMem
import Derived.Lib.SlBytesConst
namespace Go.Proofs.YtnnfepapnimlcabDoor
set_option linter.unusedVariables false
open Go.Shelf Go.RowKit Go.Sort Go.Lib

theorem pu_42 (w : World) : Calls Tryd.prog 16 #[.string ⟨#[52, 50]⟩, .int .i64 42] w fun e w' => e = .returned (.tuple #[.int .i64 42, .int .i64 0]) ∧ w' = w := by
  have h := ParseUint_any ⟨#[52, 50]⟩ 42 w (by decide) (by decide)
  have e1 : puN (⟨#[52, 50]⟩ : ByteArray).data.toList 42 = 42 := by decide
  have e2 : puE (⟨#[52, 50]⟩ : ByteArray).data.toList 42 = 0 := by decide
  rw [e1, e2] at h; exact h
theorem pu_43 (w : World) : Calls Tryd.prog 16 #[.string ⟨#[52, 51]⟩, .int .i64 42] w fun e w' => e = .returned (.tuple #[.int .i64 0, .int .i64 11]) ∧ w' = w := by
  have h := ParseUint_any ⟨#[52, 51]⟩ 42 w (by decide) (by decide)
  have e1 : puN (⟨#[52, 51]⟩ : ByteArray).data.toList 42 = 0 := by decide
  have e2 : puE (⟨#[52, 51]⟩ : ByteArray).data.toList 42 = 11 := by decide
  rw [e1, e2] at h; exact h
theorem price_150 (w : World) : Calls Tryd.prog 17 #[.string ⟨#[49, 46, 53, 48]⟩] w fun e w' => e = .returned (.tuple #[.int .i64 15000, .int .i64 0]) ∧ ∃ k, w' = w.drewN k := by
  have h := ParsePrice_any ⟨#[49, 46, 53, 48]⟩ w (by decide)
  have e1 : priceN ⟨#[49, 46, 53, 48]⟩ = 15000 := by decide
  have e2 : priceE ⟨#[49, 46, 53, 48]⟩ = 0 := by decide
  rw [e1, e2] at h; exact h
theorem dec_1 : decDigits 1 = [49] := decDigits_one (by decide)
theorem dec_15000 : decDigits 15000 = [49, 53, 48, 48, 48] := by
  rw [decDigits, dif_neg (by decide), decDigits, dif_neg (by decide), decDigits, dif_neg (by decide), decDigits, dif_neg (by decide), decDigits, dif_pos (by decide)]
  rfl
theorem pp_15000 : ppB 15000 = ⟨#[49, 46, 53]⟩ := by
  have m : magI 15000 = 15000 := by decide
  have d1 : decI 1 = ⟨#[49]⟩ := by show (⟨(decDigits 1).toArray⟩ : ByteArray) = _; rw [dec_1]
  have d2 : trim0 (decI 15000) = ⟨#[53]⟩ := by
    show (⟨(trimRightB (decDigits 15000).toArray.toList.tail 48).toArray⟩ : ByteArray) = _
    rw [dec_15000]; rfl
  have s1 : ppS 15000 = ⟨#[49]⟩ := by
    unfold ppS; rw [if_neg (by decide), m]; exact d1
  unfold ppB
  rw [m, if_neg (by decide), s1]
  show _ ++ _ ++ trim0 (decI 15000) = _
  rw [d2]; rfl
theorem print_15000 (w : World) (htab : TabIs Tryd.prog w "internal/strconv.uint64pow10" .u64 pow10Tab) :
    Calls Tryd.prog 18 #[.int .i64 15000] w fun e w' => e = .returned (.string ⟨#[49, 46, 53]⟩) ∧ Below w.heap.size w w' := by
  have h := PrintPrice_any 15000 (by decide) (by decide) w htab
  rw [pp_15000] at h; exact h
def dgs (j : Nat) : Nat := 49 + j
theorem crc_9 : crcEnd (crcRow dgs 9) = 3421780262 := by decide +kernel
theorem crc_shown (b : Nat) (w : World) (h0 : w.cell? ⟨b, 0, none⟩ = some (.int .u8 49)) (h1 : w.cell? ⟨b, 1, none⟩ = some (.int .u8 50)) (h2 : w.cell? ⟨b, 2, none⟩ = some (.int .u8 51)) (h3 : w.cell? ⟨b, 3, none⟩ = some (.int .u8 52)) (h4 : w.cell? ⟨b, 4, none⟩ = some (.int .u8 53)) (h5 : w.cell? ⟨b, 5, none⟩ = some (.int .u8 54)) (h6 : w.cell? ⟨b, 6, none⟩ = some (.int .u8 55)) (h7 : w.cell? ⟨b, 7, none⟩ = some (.int .u8 56)) (h8 : w.cell? ⟨b, 8, none⟩ = some (.int .u8 57)) :
    Calls Tryd.prog 36 #[.slice (some ⟨b, 0, none⟩) 9 9] w fun e w' => e = .returned (.int .u32 3421780262) ∧ w' = w := by
  have h := Crc_any b 0 9 9 dgs w (by decide) (by
    intro j hj
    refine ⟨?_, by unfold dgs; omega⟩
    have : j = 0 ∨ j = 1 ∨ j = 2 ∨ j = 3 ∨ j = 4 ∨ j = 5 ∨ j = 6 ∨ j = 7 ∨ j = 8 := by omega
    rcases this with rfl | rfl | rfl | rfl | rfl | rfl | rfl | rfl | rfl
    · exact h0
    · exact h1
    · exact h2
    · exact h3
    · exact h4
    · exact h5
    · exact h6
    · exact h7
    · exact h8)
  rw [crc_9] at h; exact h
theorem sum_shown (b1 b2 b3 : Nat) (w : World) (h1 : w.cell? ⟨b1, 0, none⟩ = some (.int .u8 200)) (h2 : w.cell? ⟨b2, 0, none⟩ = some (.int .u8 100)) (h3 : w.cell? ⟨b3, 0, none⟩ = some (.slice (some ⟨b1, 0, none⟩) 1 1)) (h4 : w.cell? ⟨b3, 1, none⟩ = some (.slice (some ⟨b2, 0, none⟩) 1 1)) :
    Calls Tryd.prog 37 #[.slice (some ⟨b3, 0, none⟩) 2 2] w fun e w' => e = .returned (.int .i64 44) ∧ w' = w := by
  have h := Sum_any b3 0 2 2 (fun _ => 1) (fun i _ => if i = 0 then 200 else 100) w (by decide) ⟨by
    intro i hi
    have : i = 0 ∨ i = 1 := by omega
    rcases this with rfl | rfl
    · refine ⟨_, _, h3, by decide, .inr ⟨_, _, rfl, ?_⟩⟩
      intro j hj
      have : j = 0 := by omega
      subst this
      exact ⟨h1, by decide⟩
    · refine ⟨_, _, h4, by decide, .inr ⟨_, _, rfl, ?_⟩⟩
      intro j hj
      have : j = 0 := by omega
      subst this
      exact ⟨h2, by decide⟩⟩
  exact h

set_option maxRecDepth 100000 in
set_option maxHeartbeats 1000000 in
theorem shown_any (w : World) (htab : TabIs Tryd.prog w "internal/strconv.uint64pow10" .u64 pow10Tab) :
    Calls Tryd.prog 7 #[] w fun e w' => e = .returned (.bool true) ∧ Below w.heap.size w w' := by
  go_enter Tryd.func7, Tryd.ntmps7
  go_wp2_with (go_at_call 16; fail)
  refine (pu_42 _).mono ?_
  rintro e w' ⟨rfl, rfl⟩
  go_wp2_with (go_at_call 16; fail)
  refine (pu_43 _).mono ?_
  rintro e w' ⟨rfl, rfl⟩
  go_wp2_with (go_at_call 17; fail)
  refine (price_150 _).mono ?_
  rintro e w' ⟨rfl, k1, rfl⟩
  go_wp2_with (go_at_call 12; fail)
  refine (MulDiv_shown _).mono ?_
  rintro e w' ⟨rfl, k2, rfl⟩
  go_wp2_with (go_at_call 21; fail)
  refine (GetVar_shown _ _ (World.cell?_alloc_new (w'.drewN (k1 + k2)) _ _ _) (World.cell?_alloc_new (w'.drewN (k1 + k2)) _ _ _)).mono ?_
  rintro e w2 ⟨rfl, rfl⟩
  go_wp2_with (go_at_call 18; fail)
  have hb0 : Below w'.heap.size w' ((w'.drewN (k1 + k2)).alloc (Obj.cells #[Value.int IntKind.u8 129, Value.int IntKind.u8 1, Value.int IntKind.u8 127] 5)) := (below_drewN (Below.refl _ _) _).alloc (Nat.le_refl _) _
  refine (print_15000 _ (tabIs_below htab hb0)).mono ?_
  rintro e w3 ⟨rfl, hb3⟩
  have hb4 : Below w'.heap.size w' w3 := hb0.trans (hb3.mono hb0.size)
  clear hb0 hb3
  have kc := fun (wx : World) (C : Array Value) (n c : Nat) => run_convert_bytes_const (P := Tryd.prog) wx 29 5 C n c Tryd.underlying29 Tryd.underlying5
  go_wp2_with (go_at_call 36; fail)
  refine (crc_shown _ _ (World.cell?_alloc_mark w3 _ _ _ _) (World.cell?_alloc_mark w3 _ _ _ _) (World.cell?_alloc_mark w3 _ _ _ _) (World.cell?_alloc_mark w3 _ _ _ _) (World.cell?_alloc_mark w3 _ _ _ _) (World.cell?_alloc_mark w3 _ _ _ _) (World.cell?_alloc_mark w3 _ _ _ _) (World.cell?_alloc_mark w3 _ _ _ _) (World.cell?_alloc_mark w3 _ _ _ _)).mono ?_
  rintro e w4 ⟨rfl, hw4⟩
  have hb5 : Below w'.heap.size w' w4 := by rw [hw4]; exact hb4.alloc hb4.size _
  clear hw4 hb4 kc
  go_wp2_with (go_at_call 37; fail)
  refine (sum_shown w4.heap.size (w4.heap.size + 1) (w4.heap.size + 1 + 1) _ ?_ ?_ ?_ ?_).mono ?_
  · exact cell?_alloc_marked _ (cell?_alloc_marked _ (World.cell?_alloc_new w4 _ _ _))
  · have h := World.cell?_alloc_new (w4.alloc (Obj.cells #[Value.int IntKind.u8 200] 5)) #[Value.int IntKind.u8 100] 5 0
    rw [show (w4.alloc (Obj.cells #[Value.int IntKind.u8 200] 5)).heap.size = w4.heap.size + 1 by simp] at h
    exact cell?_alloc_marked _ h
  · have h := World.cell?_alloc_new ((w4.alloc (Obj.cells #[Value.int IntKind.u8 200] 5)).alloc (Obj.cells #[Value.int IntKind.u8 100] 5)) #[Value.slice (some { block := w4.heap.size, off := 0 }) 1 1, Value.slice (some { block := w4.heap.size + 1, off := 0 }) 1 1] 29 0
    rw [show ((w4.alloc (Obj.cells #[Value.int IntKind.u8 200] 5)).alloc (Obj.cells #[Value.int IntKind.u8 100] 5)).heap.size = w4.heap.size + 1 + 1 by simp] at h
    exact h
  · have h := World.cell?_alloc_new ((w4.alloc (Obj.cells #[Value.int IntKind.u8 200] 5)).alloc (Obj.cells #[Value.int IntKind.u8 100] 5)) #[Value.slice (some { block := w4.heap.size, off := 0 }) 1 1, Value.slice (some { block := w4.heap.size + 1, off := 0 }) 1 1] 29 1
    rw [show ((w4.alloc (Obj.cells #[Value.int IntKind.u8 200] 5)).alloc (Obj.cells #[Value.int IntKind.u8 100] 5)).heap.size = w4.heap.size + 1 + 1 by simp] at h
    exact h
  rintro e w6 ⟨rfl, rfl⟩
  have hz := hb5.size
  go_wp2
  go_ret
  exact ⟨rfl, ((hb5.alloc hz _).alloc (by simp; omega) _).alloc (by simp; omega) _⟩
#print axioms shown_any
end Go.Proofs.YtnnfepapnimlcabDoor
