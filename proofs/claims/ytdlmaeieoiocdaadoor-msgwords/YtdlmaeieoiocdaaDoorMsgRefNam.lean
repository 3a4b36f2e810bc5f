/-
  The reference of msg: the kinds' names.
-/
import Derived.Test.YtdlmaeieoiocdaaDoorMsgNam
namespace Go.Proofs.YtdlmaeieoiocdaaDoor
set_option linter.unusedVariables false
open Go.RowKit Go.Great

def refCs : Array Value := ((⟨#[]⟩ :: nameL).map Value.string).toArray
theorem refCs_at (k : Nat) (hk : k < 17) : refCs[k + 1]? = some (.string (nameOf k)) := by
  rcases cases17 hk with rfl | rfl | rfl | rfl | rfl | rfl | rfl | rfl | rfl | rfl | rfl | rfl | rfl | rfl | rfl | rfl | rfl <;> rfl
set_option maxRecDepth 100000 in
set_option maxHeartbeats 1000000 in
theorem refNames_any (w : World) :
    Calls Tryd.prog 44 #[] w fun e w' => e = .returned (.slice (some ⟨w.heap.size, 0, none⟩) 18 18) ∧ Below w.heap.size w w' ∧ ∀ k, k < 17 → w'.cell? ⟨w.heap.size, k + 1, none⟩ = some (.string (nameOf k)) := by
  go_enter Tryd.func44, Tryd.ntmps44
  go_upto_region 1 with fail
  refine wp_region_lit ?_
  refine wpList_runTo rfl (some 1) rfl (.slice (some ⟨w.heap.size, 0, none⟩) 18 18) (w.alloc (.cells refCs 9)) (by kernel_rfl) ?_
  simp only [Act.put, List.setIfInBounds_toArray, List.set_cons_zero, List.set_cons_succ]
  have hb : Below w.heap.size w (w.alloc (.cells refCs 9)) := (Below.refl _ w).alloc (Nat.le_refl _) _
  have hc : ∀ k, k < 17 → (w.alloc (.cells refCs 9)).cell? ⟨w.heap.size, k + 1, none⟩ = some (.string (nameOf k)) := fun k hk => by
    rw [cell_of_row _ _ _ _ _ _ (heap_alloc_new w _)]; exact refCs_at k hk
  have HB : Hid (Below w.heap.size w (w.alloc (.cells refCs 9)) ∧ ∀ k, k < 17 → (w.alloc (.cells refCs 9)).cell? ⟨w.heap.size, k + 1, none⟩ = some (.string (nameOf k))) := ⟨hb, hc⟩
  clear hb hc
  generalize w.alloc (.cells refCs 9) = w1 at *
  go_wp2
  go_ret
  exact ⟨rfl, HB.out⟩
set_option maxRecDepth 100000 in
set_option maxHeartbeats 1000000 in
theorem refName_any (z : Int) (w : World) :
    Calls Tryd.prog 27 #[.int .i64 z] w fun e w' => e = .returned (.string (nmV z)) ∧ Below w.heap.size w w' := by
  by_cases h1 : z < 1
  · rw [show nmV z = ⟨#[]⟩ by have : isK z = false := by (simp [isK]; omega)
                              simp [nmV, this]]
    go_enter Tryd.func27, Tryd.ntmps27
    go_wp2
    go_ret
    exact ⟨rfl, Below.refl _ _⟩
  · by_cases h2 : 17 < z
    · rw [show nmV z = ⟨#[]⟩ by have : isK z = false := by (simp [isK]; omega)
                                simp [nmV, this]]
      go_enter Tryd.func27, Tryd.ntmps27
      go_wp2
      go_ret
      exact ⟨rfl, Below.refl _ _⟩
    · obtain ⟨y, hy⟩ : ∃ y : Nat, z = y + 1 := ⟨z.toNat - 1, by omega⟩
      have hy17 : y < 17 := by omega
      subst hy
      have HV : Hid (nmV (y + 1 : Int) = nameOf y) := by
        show nmV (y + 1 : Int) = _
        have : isK (y + 1 : Int) = true := by simp [isK]; omega
        simp [nmV, this]
      have hn := refNames_any w
      generalize hg : w.heap.size = g at *
      go_enter Tryd.func27, Tryd.ntmps27
      go_wp2_with (go_at_call 44; fail)
      refine hn.mono ?_
      rintro e w1 ⟨rfl, hb1, hc1⟩
      have hc2 := hc1 y hy17
      have hc3 : w1.cell? ⟨g, ((y : Int) + 1).toNat, none⟩ = some (.string (nameOf y)) := by rw [show ((y : Int) + 1).toNat = y + 1 by omega]; exact hc2
      have HB : Hid (Below g w w1) := hb1
      clear hb1 hc1 hn
      generalize nameOf y = nm at *
      go_wp2
      go_ret
      exact ⟨by rw [HV.out]; rfl, HB.out⟩
set_option maxRecDepth 100000 in
set_option maxHeartbeats 1000000 in
theorem refNumber_any (s : ByteArray) (w : World) :
    Calls Tryd.prog 29 #[.string s] w fun e w' => e = .returned (.int .i64 (numV s)) ∧ Below w.heap.size w w' := by
  have hn := refNames_any w
  generalize hg : w.heap.size = g at *
  go_enter Tryd.func29, Tryd.ntmps29
  go_wp2_with (go_at_call 44; fail)
  refine hn.mono ?_
  rintro e w1 ⟨rfl, hb1, hc1⟩
  have HB : Hid (Below g w w1 ∧ ∀ k, k < 17 → w1.cell? ⟨g, k + 1, none⟩ = some (.string (nameOf k))) := ⟨hb1, hc1⟩
  clear hb1 hc1 hn
  go_wp2
  go_loopw [4] (fun i wr => ∃ k : Nat, k ≤ 17 ∧ i = .int .i64 (k + 1) ∧ Hid (∀ j, j < k → ¬ nameOf j = s) ∧ wr = w1) (fun i _ => 18 - (intOf i).toNat)
  case atStart => exact ⟨0, by omega, rfl, fun j hj => by omega, rfl⟩
  case round =>
    obtain ⟨k, hk, rfl, he, rfl⟩ := hrel
    by_cases hlt : k < 17
    · have hlt' : (k : Int) + 1 < 18 := by omega
      have hc2 := HB.out.2 k hlt
      have hc3 : wr.cell? ⟨g, ((k : Int) + 1).toNat, none⟩ = some (.string (nameOf k)) := by rw [show ((k : Int) + 1).toNat = k + 1 by omega]; exact hc2
      have HR : Hid (nameOf k = s → numV s = k + 1) := fun h => numV_some hlt he.out h
      have HR2 : Hid (¬ nameOf k = s → ∀ j, j < k + 1 → ¬ nameOf j = s) := fun h0 j hj => by
        by_cases hjk : j = k
        · rw [hjk]; exact h0
        · exact he.out j (by omega)
      clear he
      generalize nameOf k = nm at *
      by_cases hn : nm = s
      · have HR3 : Hid (numV s = k + 1) := HR.out hn
        clear HR HR2
        subst hn
        have hnb := str_eq nm
        go_wp2
        go_ret
        exact ⟨ret_int (by rw [HR3.out]), HB.out.1⟩
      · have HR4 : Hid (∀ j, j < k + 1 → ¬ nameOf j = s) := HR2.out hn
        clear HR HR2
        have hnb := str_ne hn
        go_wp2
        go_roundw
        case rel => exact ⟨k + 1, by omega, by go_num, HR4, by first | rfl | trivial⟩
        case measure => simp [intOf]; omega
    · obtain rfl : k = 17 := by omega
      have HR : Hid (numV s = 0) := numV_none he.out
      clear he
      go_wp2
      go_ret
      exact ⟨ret_int HR.out.symm, HB.out.1⟩
def admV (z : Int) : Bool := decide (1 ≤ z) && decide (z ≤ 7)
set_option maxRecDepth 100000 in
set_option maxHeartbeats 400000 in
theorem Admin_any (z : Int) (w : World) :
    Calls Tryd.prog 24 #[.int .i64 z] w fun e w' => e = .returned (.bool (admV z)) ∧ w' = w := by
  have hc := isKind_any z w
  cases hK : isK z
  · rw [hK] at hc
    rw [show admV z = false by simp [isK] at hK; simp [admV]; omega]
    clear hK
    go_enter Tryd.func24, Tryd.ntmps24
    go_wp2_with (go_at_call 30; refine hc.mono ?_; rintro e w ⟨rfl, rfl⟩)
    go_ret
    exact ⟨rfl, rfl⟩
  · rw [hK] at hc
    have HV : Hid (admV z = decide (z ≤ 7)) := by
      show admV z = _
      simp [isK] at hK
      simp [admV]
      omega
    clear hK
    go_enter Tryd.func24, Tryd.ntmps24
    go_wp2_with (go_at_call 30; refine hc.mono ?_; rintro e w ⟨rfl, rfl⟩)
    go_ret
    exact ⟨ret_bool HV.out.symm, rfl⟩
set_option maxRecDepth 100000 in
set_option maxHeartbeats 400000 in
theorem refAdmin_any (z : Int) (w : World) :
    Calls Tryd.prog 25 #[.int .i64 z] w fun e w' => e = .returned (.bool (admV z)) ∧ w' = w := by
  by_cases h1 : 1 ≤ z
  · have HV : Hid (admV z = decide (z ≤ 7)) := by show admV z = _; simp [admV, h1]
    go_enter Tryd.func25, Tryd.ntmps25
    go_wp2
    go_ret
    exact ⟨ret_bool HV.out.symm, rfl⟩
  · rw [show admV z = false by simp [admV, h1]]
    go_enter Tryd.func25, Tryd.ntmps25
    go_wp2
    go_ret
    exact ⟨rfl, rfl⟩
theorem numV_name (k : Nat) (hk : k < 17) : numV (nameOf k) = k + 1 := by
  rcases cases17 hk with rfl | rfl | rfl | rfl | rfl | rfl | rfl | rfl | rfl | rfl | rfl | rfl | rfl | rfl | rfl | rfl | rfl <;> kernel_rfl
theorem name_ne (k : Nat) (hk : k < 17) : (nameOf k).size ≠ 0 := by
  rcases cases17 hk with rfl | rfl | rfl | rfl | rfl | rfl | rfl | rfl | rfl | rfl | rfl | rfl | rfl | rfl | rfl | rfl | rfl <;> decide
set_option maxRecDepth 100000 in
set_option maxHeartbeats 2000000 in
theorem MsgWords_law (z : Int) (hz0 : (Lit.int .i64 z).wf = true) (s : ByteArray) (hs : s.size ≤ maxLen) (w : World) (hM : Mon w ∧ Nam w) :
    Calls Tryd.prog 8 #[.int .i64 z, .string s] w fun e w' => e = .returned (.bool true) ∧ Below w.heap.size w w' := by
  have hsh := shown_any w hM.1
  have HN : Hid (Nam w) := hM.2
  clear hM
  go_enter Tryd.func8, Tryd.ntmps8
  go_wp2_with (go_at_call 9; fail)
  refine hsh.mono ?_
  rintro e w1 ⟨rfl, hb1⟩
  have HB : Hid (Below w.heap.size w w1 ∧ Nam w1) := ⟨hb1, HN.out.below hb1 HN.out.lt⟩
  clear hb1 hsh
  have a1 := Admin_any z
  have a2 := refAdmin_any z
  have a3 := Name_any z w1 HB.out.2
  have a4 := refName_any z w1
  generalize admV z = ad at *
  have e9 : ((nmV z).toList == (nmV z).toList) = true := str_eq _
  go_wp2_with (first | (go_at_call 24; refine (a1 _).mono ?_; rintro e w1 ⟨rfl, rfl⟩) | (go_at_call 25; refine (a2 _).mono ?_; rintro e w1 ⟨rfl, rfl⟩) | (go_at_call 26; refine a3.mono ?_; rintro e w1 ⟨rfl, rfl⟩) | (go_at_call 27; fail))
  refine a4.mono ?_
  rintro e w2 ⟨rfl, hb2⟩
  have HB2 : Hid (Below w.heap.size w w2 ∧ Nam w2) := ⟨HB.out.1.trans (hb2.mono HB.out.1.size), HB.out.2.below hb2 HB.out.2.lt⟩
  clear HB hb2 a1 a2 a3 a4
  have c1 := Number_any s w2 HB2.out.2
  have c2 := refNumber_any s w2
  generalize numV s = nv at *
  have hnv : (nv == nv) = true := by simp
  go_wp2_with (first | (go_at_call 28; refine c1.mono ?_; rintro e w2 ⟨rfl, rfl⟩) | (go_at_call 29; fail))
  refine c2.mono ?_
  rintro e w3 ⟨rfl, hb3⟩
  have HB3 : Hid (Below w.heap.size w w3 ∧ Nam w3) := ⟨HB2.out.1.trans (hb3.mono HB2.out.1.size), HB2.out.2.below hb3 HB2.out.2.lt⟩
  clear HB2 hb3 c1 c2
  have d1 := Name_any z w3 HB3.out.2
  have d2 := Number_any (nmV z) w3 HB3.out.2
  cases hK : isK z
  · have e1 : nmV z = ⟨#[]⟩ := by simp [nmV, hK]
    rw [e1] at d1 d2
    clear hK
    go_wp2_with (first | (go_at_call 26; refine d1.mono ?_; rintro e w3 ⟨rfl, rfl⟩) | (go_at_call 28; refine d2.mono ?_; rintro e w3 ⟨rfl, rfl⟩))
    go_ret
    exact ⟨by first | rfl | (simp; done), HB3.out.1⟩
  · obtain ⟨y, hy⟩ : ∃ y : Nat, z = y + 1 := ⟨z.toNat - 1, by simp [isK] at hK; omega⟩
    have hy17 : y < 17 := by simp [isK] at hK; omega
    subst hy
    have e1 : nmV (y + 1 : Int) = nameOf y := by simp [nmV, hK]
    have e2 : (nmV (y + 1 : Int)).toList.isEmpty = false := by rw [e1, isEmpty_size]; simp [name_ne y hy17]
    have e3 : numV (nmV (y + 1 : Int)) = y + 1 := by rw [e1]; exact numV_name y hy17
    rw [e3] at d2
    clear hK e1 e3
    generalize nmV (y + 1 : Int) = nm at *
    go_wp2_with (first | (go_at_call 26; refine d1.mono ?_; rintro e w3 ⟨rfl, rfl⟩) | (go_at_call 28; refine d2.mono ?_; rintro e w3 ⟨rfl, rfl⟩))
    go_ret
    exact ⟨by first | rfl | (simp; done), HB3.out.1⟩

end Go.Proofs.YtdlmaeieoiocdaaDoor
