/-
  The reference: Stamp, DateOf, Minute; Stamp of what is no time.
-/
import Derived.Test.YteafaglhlggknabDoorRefStamp
namespace Go.Proofs.YteafaglhlggknabDoor
set_option linter.unusedVariables false
open Go.Shelf Go.RowKit Go.Sort Go.Lib

set_option maxRecDepth 100000 in
set_option maxHeartbeats 400000 in
theorem refIsTime_any (z : Int) (w : World) :
    Calls Tryd.prog 22 #[.int .i64 z] w fun e w' => e = .returned (.bool (isT z)) ∧ w' = w := by
  by_cases h0 : 0 ≤ z
  · by_cases h1 : z ≤ 253402300799999
    · have e : isT z = true := by simp [isT, h0, h1]
      rw [e]
      go_enter Tryd.func22, Tryd.ntmps22
      go_wp2
      go_ret
      exact ⟨rfl, rfl⟩
    · have e : isT z = false := by simp [isT, h0, h1]
      rw [e]
      go_enter Tryd.func22, Tryd.ntmps22
      go_wp2
      go_ret
      exact ⟨ret_bool (by simp), rfl⟩
  · have e : isT z = false := by simp [isT, h0]
    rw [e]
    go_enter Tryd.func22, Tryd.ntmps22
    go_wp2
    go_ret
    exact ⟨rfl, rfl⟩
set_option maxRecDepth 100000 in
set_option maxHeartbeats 400000 in
theorem Stamp_no (z : Int) (w : World) (hM : Mon w) (ht : isT z = false) :
    Calls Tryd.prog 6 #[.int .i64 z] w fun e w' => e = .returned (.tuple #[.string ⟨#[]⟩, .int .i64 20]) ∧ Below w.heap.size w w' := by
  have hdo := DateOf_any z w hM
  rw [show doV z = 0 by unfold doV; rw [ht]; rfl, show stE z = 20 by unfold stE; rw [ht]; rfl] at hdo
  go_enter Tryd.func6, Tryd.ntmps6
  go_wp2_with (go_at_call 8; fail)
  refine hdo.mono ?_
  rintro e w1 ⟨rfl, hb1⟩
  have HB1 : Hid (Below w.heap.size w w1) := hb1
  clear hb1 hdo
  go_wp2
  go_ret2
  exact ⟨rfl, HB1.out⟩
set_option maxRecDepth 100000 in
set_option maxHeartbeats 400000 in
theorem refStamp_no (z : Int) (w : World) (ht : isT z = false) :
    Calls Tryd.prog 7 #[.int .i64 z] w fun e w' => e = .returned (.tuple #[.string ⟨#[]⟩, .int .i64 20]) ∧ Below w.heap.size w w' := by
  have hc := refIsTime_any z w
  rw [ht] at hc
  clear ht
  go_enter Tryd.func7, Tryd.ntmps7
  go_wp2_with (go_at_call 22; fail)
  refine hc.mono ?_
  rintro e w ⟨rfl, rfl⟩
  go_wp2
  go_ret2
  exact ⟨rfl, Below.refl _ _⟩
set_option maxRecDepth 100000 in
set_option maxHeartbeats 400000 in
theorem refDateOf_any (z : Int) (w : World) :
    Calls Tryd.prog 9 #[.int .i64 z] w fun e w' => e = .returned (.tuple #[.int .i64 (doV z), .int .i64 (stE z)]) ∧ Below w.heap.size w w' := by
  have hc := refIsTime_any z w
  cases ht : isT z
  · rw [show doV z = 0 by unfold doV; rw [ht]; rfl, show stE z = 20 by unfold stE; rw [ht]; rfl]
    rw [ht] at hc
    clear ht
    go_enter Tryd.func9, Tryd.ntmps9
    go_wp2_with (go_at_call 22; fail)
    refine hc.mono ?_
    rintro e w ⟨rfl, rfl⟩
    go_wp2
    go_ret2
    exact ⟨rfl, Below.refl _ _⟩
  · rw [ht] at hc
    obtain ⟨t, rfl, ht1, ht2⟩ := day_of ht
    have e1 : doV t = (dateN (t / 86400000) : Int) := by unfold doV; rw [ht, if_pos rfl, show ((t : Int) / 86400000).toNat = t / 86400000 by omega]
    have e2 : stE t = 0 := by unfold stE; rw [ht]; rfl
    rw [e1, e2]
    clear e1 e2 ht
    go_enter Tryd.func9, Tryd.ntmps9
    go_wp2_with (go_at_call 22; fail)
    refine hc.mono ?_
    rintro e w ⟨rfl, rfl⟩
    go_wp2_with (go_at_call 23; fail)
    refine (refDate_any _ (t / 86400000) (by omega) _ ht2).mono ?_
    rintro e w1 ⟨rfl, hb⟩
    have HB : Hid (Below w.heap.size w w1) := hb
    clear hb
    go_wp2
    go_ret2
    exact ⟨rfl, HB.out⟩
set_option maxRecDepth 100000 in
set_option maxHeartbeats 400000 in
theorem refMinute_any (z : Int) (w : World) :
    Calls Tryd.prog 11 #[.int .i64 z] w fun e w' => e = .returned (.tuple #[.int .i64 (if isT z then z % 86400000 / 60000 else 0), .int .i64 (stE z)]) ∧ w' = w := by
  have hc := refIsTime_any z w
  cases ht : isT z
  · rw [show stE z = 20 by unfold stE; rw [ht]; rfl]
    rw [ht] at hc
    clear ht
    go_enter Tryd.func11, Tryd.ntmps11
    go_wp2_with (go_at_call 22; fail)
    refine hc.mono ?_
    rintro e w ⟨rfl, rfl⟩
    go_wp2
    go_ret2
    exact ⟨rfl, rfl⟩
  · rw [ht] at hc
    obtain ⟨t, rfl, ht1, ht2⟩ := day_of ht
    rw [show stE t = 0 by unfold stE; rw [ht]; rfl]
    clear ht
    go_enter Tryd.func11, Tryd.ntmps11
    go_wp2_with (go_at_call 22; fail)
    refine hc.mono ?_
    rintro e w ⟨rfl, rfl⟩
    go_wp2
    go_ret2
    exact ⟨rfl, rfl⟩
theorem stamp_join (t : Nat) (T1 T2 T3 T4 T5 : ByteArray) (h1 : T1.data.toList = digB (dateN (t / 86400000)) 8) (h2 : T2.data.toList = digB (t % 86400000 / 3600000) 2) (h3 : T3.data.toList = digB (t % 3600000 / 60000) 2) (h4 : T4.data.toList = digB (t % 60000 / 1000) 2) (h5 : T5.data.toList = digB (t % 1000) 3) :
    T1 ++ (⟨#[45]⟩ : ByteArray) ++ T2 ++ (⟨#[58]⟩ : ByteArray) ++ T3 ++ (⟨#[58]⟩ : ByteArray) ++ T4 ++ (⟨#[46]⟩ : ByteArray) ++ T5 = strOfNums (stampI t) := by
  refine WideShapes.bytes_inj ?_
  rw [stamp_txt]
  simp only [ByteArray.data_append, Array.toList_append, h1, h2, h3, h4, h5]
  rfl
set_option maxRecDepth 100000 in
set_option maxHeartbeats 2000000 in
theorem refStamp_yes (t : Nat) (w : World) (ht : t ≤ 253402300799999) :
    Calls Tryd.prog 7 #[.int .i64 (t : Int)] w fun e w' => e = .returned (.tuple #[.string (strOfNums (stampI t)), .int .i64 0]) ∧ Below w.heap.size w w' := by
  have hT : isT (t : Int) = true := by rw [isT_iff]; omega
  have hc := refIsTime_any t w
  rw [hT] at hc
  have hdb := dateN_bounds (n := t / 86400000) (by omega)
  have hda := fun z hz w => refDate_any z (t / 86400000) hz w (by omega)
  have m1 : t % 3600000 / 60000 = t % 86400000 / 60000 % 60 := by omega
  have m2 : t % 60000 / 1000 = t % 86400000 / 1000 % 60 := by omega
  have m3 : t % 1000 = t % 86400000 % 1000 := by omega
  have c1 := fun z x hz hx w => refDigits_any (dateN (t / 86400000)) 8 z x hz hx w (by omega) (by omega)
  have c2 := fun z x hz hx w => refDigits_any (t % 86400000 / 3600000) 2 z x hz hx w (by omega) (by omega)
  have c3 := fun z x hz hx w => refDigits_any (t % 3600000 / 60000) 2 z x hz hx w (by omega) (by omega)
  have c4 := fun z x hz hx w => refDigits_any (t % 60000 / 1000) 2 z x hz hx w (by omega) (by omega)
  have c5 := fun z x hz hx w => refDigits_any (t % 1000) 3 z x hz hx w (by omega) (by omega)
  have hj := stamp_join t ⟨(digB (dateN (t / 86400000)) 8).toArray⟩ ⟨(digB (t % 86400000 / 3600000) 2).toArray⟩ ⟨(digB (t % 3600000 / 60000) 2).toArray⟩ ⟨(digB (t % 60000 / 1000) 2).toArray⟩ ⟨(digB (t % 1000) 3).toArray⟩ rfl rfl rfl rfl rfl
  have z1 : (⟨(digB (dateN (t / 86400000)) 8).toArray⟩ : ByteArray).size = 8 := by rw [size_list]; exact digB_length _ _
  have z2 : (⟨(digB (t % 86400000 / 3600000) 2).toArray⟩ : ByteArray).size = 2 := by rw [size_list]; exact digB_length _ _
  have z3 : (⟨(digB (t % 3600000 / 60000) 2).toArray⟩ : ByteArray).size = 2 := by rw [size_list]; exact digB_length _ _
  have z4 : (⟨(digB (t % 60000 / 1000) 2).toArray⟩ : ByteArray).size = 2 := by rw [size_list]; exact digB_length _ _
  have z5 : (⟨(digB (t % 1000) 3).toArray⟩ : ByteArray).size = 3 := by rw [size_list]; exact digB_length _ _
  generalize (⟨(digB (dateN (t / 86400000)) 8).toArray⟩ : ByteArray) = T1 at *
  generalize (⟨(digB (t % 86400000 / 3600000) 2).toArray⟩ : ByteArray) = T2 at *
  generalize (⟨(digB (t % 3600000 / 60000) 2).toArray⟩ : ByteArray) = T3 at *
  generalize (⟨(digB (t % 60000 / 1000) 2).toArray⟩ : ByteArray) = T4 at *
  generalize (⟨(digB (t % 1000) 3).toArray⟩ : ByteArray) = T5 at *
  rw [← hj]
  have hD : t / 86400000 ≤ 2932896 := by omega
  have M : Hid (t % 3600000 / 60000 = t % 86400000 / 60000 % 60 ∧ t % 60000 / 1000 = t % 86400000 / 1000 % 60 ∧ t % 1000 = t % 86400000 % 1000) := ⟨m1, m2, m3⟩
  clear hT hj m1 m2 m3
  generalize dateN (t / 86400000) = d at *
  go_enter Tryd.func7, Tryd.ntmps7
  go_wp2_with (go_at_call 22; fail)
  refine hc.mono ?_
  rintro e w ⟨rfl, rfl⟩
  go_wp2_with (go_at_call 23; fail)
  refine (hda _ (by omega) _).mono ?_
  rintro e w1 ⟨rfl, hb⟩
  have HB : Hid (Below w.heap.size w w1) := hb
  clear hb hc hda
  go_wp2_with (go_at_call 24; fail)
  refine (c1 _ _ rfl rfl _).mono ?_
  rintro e w1 ⟨rfl, rfl⟩
  go_wp2_with (go_at_call 24; fail)
  refine (c2 _ _ (by omega) rfl _).mono ?_
  rintro e w1 ⟨rfl, rfl⟩
  go_wp2_with (go_at_call 24; fail)
  refine (c3 _ _ (by have := M.out.1; omega) rfl _).mono ?_
  rintro e w1 ⟨rfl, rfl⟩
  go_wp2_with (go_at_call 24; fail)
  refine (c4 _ _ (by have := M.out.2.1; omega) rfl _).mono ?_
  rintro e w1 ⟨rfl, rfl⟩
  go_wp2_with (go_at_call 24; fail)
  refine (c5 _ _ (by have := M.out.2.2; omega) rfl _).mono ?_
  rintro e w1 ⟨rfl, rfl⟩
  clear c1 c2 c3 c4 c5
  go_wp2
  go_ret2
  exact ⟨rfl, HB.out⟩
end Go.Proofs.YteafaglhlggknabDoor
