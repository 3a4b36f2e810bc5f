import Derived.Test.YtchkpggdndnpjabGreatDoorG05
import Derived.Laws.EntriesVeiled
import Derived.Deep.DeepCutAuto

namespace Go.Proofs.YtchkpggdndnpjabGreatDoor
set_option linter.unusedVariables false
open Go.RowKit

def hasAt (z f : Int) (j : Nat) : Int := if tNum.getD j 0 = f then (if (tMust.getD j 0).testBit z.toNat then 2 else if (tMay.getD j 0).testBit z.toNat then 1 else 0) else 0
def hasN (z f : Int) : Int := if isK z then match (List.range 42).find? fun j => hasAt z f j != 0 with | some j => hasAt z f j | none => 0 else 0
theorem hasN_some {z f : Int} {k : Nat} (hK : isK z = true) (hk : k < 42) (h : ∀ j, j < k → hasAt z f j = 0) (he : hasAt z f k ≠ 0) : hasN z f = hasAt z f k := by
  have : (List.range 42).find? (fun j => hasAt z f j != 0) = some k := by
    rw [List.find?_range_eq_some]
    exact ⟨by simp [he], by simpa using hk, fun j hj => by simp [h j hj]⟩
  simp [hasN, hK, this]
theorem hasN_none {z f : Int} (hK : isK z = true) (h : ∀ j, j < 42 → hasAt z f j = 0) : hasN z f = 0 := by
  have : (List.range 42).find? (fun j => hasAt z f j != 0) = none := by
    rw [List.find?_range_eq_none]
    exact fun j hj => by simp [h j hj]
  simp [hasN, hK, this]
set_option maxRecDepth 100000 in
set_option maxHeartbeats 2000000 in
theorem Has_any (z fd : Int) (w : World) :
    Calls Tryz.prog 175 #[.int .i64 z, .int .i64 fd] w fun e w' => e = .returned (.int .i64 (hasN z fd)) ∧ Below w.heap.size w w' := by
  have hc := isKind_any z w
  cases hK : isK z
  · rw [hK] at hc
    rw [show hasN z fd = 0 by simp [hasN, hK]]
    clear hK
    go_enter Tryz.func175, Tryz.ntmps175
    go_wp2_with (go_at_call 31; refine hc.mono ?_; rintro e w ⟨rfl, rfl⟩)
    go_ret
    exact ⟨rfl, Below.refl _ _⟩
  · rw [hK] at hc
    obtain ⟨y, hy⟩ : ∃ y : Nat, z = y := ⟨z.toNat, by simp [isK] at hK; omega⟩
    have hy17 : y ≤ 17 := by simp [isK] at hK; omega
    subst hy
    have HK : Hid (isK (y : Int) = true) := hK
    clear hK
    go_enter Tryz.func175, Tryz.ntmps175
    go_wp2_with (first | (go_at_call 31; refine hc.mono ?_; rintro e w ⟨rfl, rfl⟩) | (go_at_call 32; refine (rows_any _).mono ?_; rintro e w2 ⟨rfl, hb2⟩))
    have HB2 : Hid (Below w.heap.size w w2) := hb2
    clear hb2 hc
    go_loopw [6, 11] (fun x6 i wr => ∃ k : Nat, k ≤ 42 ∧ i = .int .i64 k ∧ Hid (∀ j, j < k → hasAt y fd j = 0) ∧ Hid (Below w.heap.size w wr)) (fun _ i _ => 42 - (intOf i).toNat)
    case atStart => exact ⟨0, by omega, rfl, fun j hj => by omega, HB2⟩
    case round =>
      obtain ⟨k, hk, rfl, he, hb⟩ := hrel
      by_cases hlt : k < 42
      · have hlt' : (k : Int) < 42 := by omega
        have hx := index_at k hlt
        have HR : Hid (hasAt y fd k ≠ 0 → hasN y fd = hasAt y fd k) := fun hne => hasN_some HK.out hlt he.out hne
        have HR2 : Hid (hasAt y fd k = 0 → ∀ j, j < k + 1 → hasAt y fd j = 0) := fun h0 j hj => by
          by_cases hjk : j = k
          · rw [hjk, h0]
          · exact he.out j (by omega)
        have h1 := has_any y (y : Int) (tMust.getD k 0) rfl hy17 (must_lt k)
        have h2 := has_any y (y : Int) (tMay.getD k 0) rfl hy17 (may_lt k)
        have HV : Hid (hasAt y fd k = if tNum.getD k 0 = fd then (if (tMust.getD k 0).testBit y then 2 else if (tMay.getD k 0).testBit y then 1 else 0) else 0) := rfl
        generalize rowsCs.toArray = RC at *
        generalize (tMust.getD k 0).testBit y = bu at *
        generalize (tMay.getD k 0).testBit y = ba at *
        generalize tNum.getD k 0 = n at *
        generalize tMust.getD k 0 = mu at *
        generalize tMay.getD k 0 = ma at *
        generalize tOz.getD k false = oz at *
        generalize tFn.getD k 0 = f at *
        have HB3 : Hid (Below w.heap.size w (wr.alloc (Obj.cells #[.int .i64 n, .int .u32 mu, .int .u32 ma, .bool oz, .func (.func f) #[] #[]] 77))) := hb.out.alloc (hb.out.size) _
        clear he hb
        by_cases hn : n = fd
        · subst hn
          cases bu
          · cases ba
            · have HR3 : Hid (∀ j, j < k + 1 → hasAt y n j = 0) := HR2.out (by rw [HV.out]; simp)
              clear HR HR2 HV
              go_wp2_with (first | (go_at_call 123; refine (h1 _).mono ?_; rintro e w4 ⟨rfl, rfl⟩) | (go_at_call 123; refine (h2 _).mono ?_; rintro e w4 ⟨rfl, rfl⟩))
              go_roundw
              case rel => exact ⟨k + 1, by omega, by go_num, HR3, HB3⟩
              case measure => simp [intOf]; omega
            · have HR3 : Hid (hasN y n = 1) := (HR.out (by rw [HV.out]; simp)).trans (by rw [HV.out]; simp)
              clear HR HR2 HV
              go_wp2_with (first | (go_at_call 123; refine (h1 _).mono ?_; rintro e w4 ⟨rfl, rfl⟩) | (go_at_call 123; refine (h2 _).mono ?_; rintro e w4 ⟨rfl, rfl⟩))
              go_ret
              exact ⟨ret_int HR3.out.symm, HB3.out⟩
          · have HR3 : Hid (hasN y n = 2) := (HR.out (by rw [HV.out]; simp)).trans (by rw [HV.out]; simp)
            clear HR HR2 HV
            go_wp2_with (first | (go_at_call 123; refine (h1 _).mono ?_; rintro e w4 ⟨rfl, rfl⟩) | (go_at_call 123; refine (h2 _).mono ?_; rintro e w4 ⟨rfl, rfl⟩))
            go_ret
            exact ⟨ret_int HR3.out.symm, HB3.out⟩
        · have hnb : (n != fd) = true := by simp [hn]
          have HR3 : Hid (∀ j, j < k + 1 → hasAt y fd j = 0) := HR2.out (by rw [HV.out, if_neg hn])
          clear HR HR2 HV
          go_wp2
          go_roundw
          case rel => exact ⟨k + 1, by omega, by go_num, HR3, HB3⟩
          case measure => simp [intOf]; omega
      · obtain rfl : k = 42 := by omega
        have HR3 : Hid (hasN y fd = 0) := hasN_none HK.out he.out
        clear he
        generalize rowsCs.toArray = RC at *
        go_wp2
        go_ret
        exact ⟨ret_int HR3.out.symm, hb.out⟩

end Go.Proofs.YtchkpggdndnpjabGreatDoor
