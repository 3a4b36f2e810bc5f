/-
  msg: the kinds' names.
-/
import Derived.Test.YtdlmaeieoiocdaaDoorMsgShown
import Derived.Great.BuildSlice
namespace Go.Proofs.YtdlmaeieoiocdaaDoor
set_option linter.unusedVariables false
open Go.RowKit Go.Great

def nameL : List ByteArray := [⟨#[72, 101, 97, 114, 116, 98, 101, 97, 116]⟩, ⟨#[84, 101, 115, 116, 82, 101, 113, 117, 101, 115, 116]⟩, ⟨#[82, 101, 115, 101, 110, 100, 82, 101, 113, 117, 101, 115, 116]⟩, ⟨#[82, 101, 106, 101, 99, 116]⟩, ⟨#[83, 101, 113, 117, 101, 110, 99, 101, 82, 101, 115, 101, 116]⟩, ⟨#[76, 111, 103, 111, 117, 116]⟩, ⟨#[76, 111, 103, 111, 110]⟩, ⟨#[78, 101, 119, 79, 114, 100, 101, 114]⟩, ⟨#[67, 97, 110, 99, 101, 108, 79, 114, 100, 101, 114]⟩, ⟨#[82, 101, 112, 108, 97, 99, 101, 79, 114, 100, 101, 114]⟩, ⟨#[77, 97, 115, 115, 67, 97, 110, 99, 101, 108]⟩, ⟨#[65, 115, 107, 83, 116, 97, 116, 117, 115]⟩, ⟨#[69, 120, 101, 99, 117, 116, 105, 111, 110]⟩, ⟨#[67, 97, 110, 99, 101, 108, 82, 101, 106, 101, 99, 116]⟩, ⟨#[77, 97, 115, 115, 82, 101, 112, 111, 114, 116]⟩, ⟨#[82, 101, 102, 117, 115, 101, 100]⟩, ⟨#[83, 116, 97, 116, 117, 115]⟩]
def nameOf (k : Nat) : ByteArray := nameL.getD k ⟨#[]⟩
/-- The names, as the program's text lays them. -/
def Nam (w : World) : Prop := ∀ k, k < 17 → w.cell? ⟨0, k, none⟩ = some (.string (nameOf k))
theorem Nam.below {w w' : World} {B : Nat} (h : Nam w) (hb : Below B w w') (hB : 0 < B) : Nam w' := fun k hk => by rw [hb.cell (p := ⟨0, k, none⟩) hB]; exact h k hk
theorem Nam.lt {w : World} (h : Nam w) : 0 < w.heap.size := World.block_lt_of_cell? _ _ (h 0 (by decide))
def nmV (z : Int) : ByteArray := if isK z then nameOf (z.toNat - 1) else ⟨#[]⟩
set_option maxRecDepth 100000 in
set_option maxHeartbeats 400000 in
theorem Name_any (z : Int) (w : World) (hN : Nam w) :
    Calls Tryd.prog 26 #[.int .i64 z] w fun e w' => e = .returned (.string (nmV z)) ∧ w' = w := by
  have hc := isKind_any z w
  cases hK : isK z
  · rw [hK] at hc
    rw [show nmV z = ⟨#[]⟩ by simp [nmV, hK]]
    clear hK
    go_enter Tryd.func26, Tryd.ntmps26
    go_wp2_with (go_at_call 30; refine hc.mono ?_; rintro e w ⟨rfl, rfl⟩)
    go_ret
    exact ⟨rfl, rfl⟩
  · rw [hK] at hc
    obtain ⟨y, hy⟩ : ∃ y : Nat, z = y + 1 := ⟨z.toNat - 1, by simp [isK] at hK; omega⟩
    have hy17 : y < 17 := by simp [isK] at hK; omega
    subst hy
    have hc2 := hN y hy17
    have HV : Hid (nmV (y + 1 : Int) = nameOf y) := by show nmV (y + 1 : Int) = _; simp [nmV, hK]
    clear hK hN
    generalize nameOf y = nm at *
    go_enter Tryd.func26, Tryd.ntmps26
    go_wp2_with (go_at_call 30; refine hc.mono ?_; rintro e w ⟨rfl, rfl⟩)
    go_ret
    exact ⟨by rw [HV.out]; rfl, rfl⟩
theorem str_ne {a b : ByteArray} (h : ¬ a = b) : (a.toList == b.toList) = false := by
  rw [beq_eq_false_iff_ne, ByteArray.toList_eq, ByteArray.toList_eq]
  intro e
  apply h
  cases a; cases b
  simpa using e
theorem str_eq (a : ByteArray) : (a.toList == a.toList) = true := by simp
def numV (s : ByteArray) : Int := match (List.range 17).find? fun j => decide (nameOf j = s) with | some j => (j : Int) + 1 | none => 0
theorem numV_some {s : ByteArray} {k : Nat} (hk : k < 17) (h : ∀ j, j < k → ¬ nameOf j = s) (he : nameOf k = s) : numV s = k + 1 := by
  have : (List.range 17).find? (fun j => decide (nameOf j = s)) = some k := by
    rw [List.find?_range_eq_some]
    exact ⟨by simp [he], by simpa using hk, fun j hj => by simp [h j hj]⟩
  simp [numV, this]
theorem numV_none {s : ByteArray} (h : ∀ j, j < 17 → ¬ nameOf j = s) : numV s = 0 := by
  have : (List.range 17).find? (fun j => decide (nameOf j = s)) = none := by
    rw [List.find?_range_eq_none]
    exact fun j hj => by simp [h j hj]
  simp [numV, this]
def nameCs : List Value := nameL.map .string
theorem Nam.range {w : World} (h : Nam w) : w.rangeAt 0 0 nameCs := fun j v hv => by
  have hj : j < 17 := by
    have := (List.getElem?_eq_some_iff.1 hv).1
    simpa [nameCs, nameL] using this
  rw [Nat.zero_add, h j hj]
  unfold nameCs at hv
  rw [List.getElem?_map] at hv
  unfold nameOf
  rw [List.getD_eq_getElem?_getD]
  cases hq : nameL[j]? with
  | none => rw [hq] at hv; cases hv
  | some x => rw [hq] at hv; simpa using hv
theorem cases17 {k : Nat} (h : k < 17) : k = 0 ∨ k = 1 ∨ k = 2 ∨ k = 3 ∨ k = 4 ∨ k = 5 ∨ k = 6 ∨ k = 7 ∨ k = 8 ∨ k = 9 ∨ k = 10 ∨ k = 11 ∨ k = 12 ∨ k = 13 ∨ k = 14 ∨ k = 15 ∨ k = 16 := by omega
set_option maxRecDepth 100000 in
theorem nameIdx (k : Nat) (hk : k < 17) (w : World) : Sem.run Tryd.prog (Instr.index 61 (.agg nameCs.toArray) (.int .i64 k)) w = .ok (.string (nameOf k)) w := by
  rcases cases17 hk with rfl | rfl | rfl | rfl | rfl | rfl | rfl | rfl | rfl | rfl | rfl | rfl | rfl | rfl | rfl | rfl | rfl <;> kernel_rfl
set_option maxRecDepth 100000 in
set_option maxHeartbeats 1000000 in
theorem Number_any (s : ByteArray) (w : World) (hN : Nam w) :
    Calls Tryd.prog 28 #[.string s] w fun e w' => e = .returned (.int .i64 (numV s)) ∧ w' = w := by
  go_enter Tryd.func28, Tryd.ntmps28
  go_upto_region 1 with fail
  refine wp_region_lit ?_
  refine wpList_load_mid rfl 61 (.global 0) rfl 0 0 rfl nameCs _ hN.range Tryd.underlying61 rfl (by kernel_rfl) ?_
  simp only [Act.put, List.setIfInBounds_toArray, List.set_cons_zero, List.set_cons_succ]
  clear hN
  go_wp2
  go_loopw [3, 4, 6] (fun x3 x4 i wr => ∃ k : Nat, k ≤ 17 ∧ i = .int .i64 k ∧ Hid (∀ j, j < k → ¬ nameOf j = s) ∧ wr = w) (fun _ _ i _ => 17 - (intOf i).toNat)
  case atStart => exact ⟨0, by omega, rfl, fun j hj => by omega, rfl⟩
  case round =>
    obtain ⟨k, hk, rfl, he, rfl⟩ := hrel
    by_cases hlt : k < 17
    · have hlt' : (k : Int) < 17 := by omega
      have hx := nameIdx k hlt
      have HR : Hid (nameOf k = s → numV s = k + 1) := fun h => numV_some hlt he.out h
      have HR2 : Hid (¬ nameOf k = s → ∀ j, j < k + 1 → ¬ nameOf j = s) := fun h0 j hj => by
        by_cases hjk : j = k
        · rw [hjk]; exact h0
        · exact he.out j (by omega)
      clear he
      generalize nameCs.toArray = RC at *
      generalize nameOf k = nm at *
      by_cases hn : nm = s
      · have HR3 : Hid (numV s = k + 1) := HR.out hn
        clear HR HR2
        subst hn
        have hnb := str_eq nm
        go_wp2
        go_ret
        exact ⟨ret_int (by rw [HR3.out]), by first | rfl | trivial⟩
      · have HR3 := HR2.out hn
        have HR4 : Hid (∀ j, j < k + 1 → ¬ nameOf j = s) := HR3
        clear HR HR2 HR3
        have hnb := str_ne hn
        go_wp2
        go_roundw
        case rel => exact ⟨k + 1, by omega, by go_num, HR4, by first | rfl | trivial⟩
        case measure => simp [intOf]; omega
    · obtain rfl : k = 17 := by omega
      have HR : Hid (numV s = 0) := numV_none he.out
      clear he
      generalize nameCs.toArray = RC at *
      go_wp2
      go_ret
      exact ⟨ret_int HR.out.symm, by first | rfl | trivial⟩

end Go.Proofs.YtdlmaeieoiocdaaDoor
