/-
  clock: the date of a day; times and their days.
-/
import Derived.Test.YtnhkmfofkhhnaaaDoorShelf2
import Derived.Test.YtnhkmfofkhhnaaaDoorStart
import Derived.Test.YtnhkmfofkhhnaaaDoorDays
import Derived.Test.YtnhkmfofkhhnaaaDoorShelf
namespace Go.Proofs.YtnhkmfofkhhnaaaDoor
set_option linter.unusedVariables false
open Go.Shelf Go.RowKit Go.Sort Go.Lib

def late (n i : Nat) : Bool := decide (n < ahead (1970 + i + 1))
set_option maxRecDepth 100000 in
set_option maxHeartbeats 400000 in
theorem closure_any (n i B : Nat) (W : World) (hi : i < 8029) (hc : W.cell? ⟨B, 0, none⟩ = some (.int .i64 n)) :
    Calls Tryd.prog 55 #[.int .i64 i, .pointer (some ⟨B, 0, none⟩)] W fun e w' => e = .returned (.bool (late n i)) ∧ ∃ q, w' = W.drewN q := by
  have hl : late n i = decide ((n : Int) < (ahead (1970 + i + 1) : Int)) := by unfold late; exact decide_eq_decide.2 (by omega)
  rw [hl]
  have hcD : Hid (∀ m, (W.drewN m).cell? ⟨B, 0, none⟩ = some (.int .i64 n)) := fun _ => hc
  go_enter Tryd.func55, Tryd.ntmps55
  go_wp2
  go_quiet ((go_at_call 43; refine Calls.quiet_of_same (firstDayOfYear_any _ (1970 + i + 1) (by omega) _ (by omega) (by omega))))
  go_wp2
  go_ret
  exact ⟨ret_bool (decide_eq_decide.2 (by omega)), _, rfl⟩
theorem count_lt (k : Nat) : ∀ N, (List.range N).countP (fun i => decide (i < k)) = min k N
  | 0 => by simp
  | N + 1 => by
    rw [List.range_succ, List.countP_append, count_lt k N]
    by_cases h : N < k
    · simp [h]; omega
    · simp [h]; omega
theorem late_false {n y i : Nat} (h0 : ahead y ≤ n) (hy : 1970 ≤ y) (hi : 1970 + i + 1 ≤ y) : late n i = false := by
  have := ahead_le (y := 1970 + i + 1) (z := y) (by omega) hi
  unfold late
  exact decide_eq_false (by omega)
theorem late_true {n y i : Nat} (h1 : n < ahead (y + 1)) (hy : 1970 ≤ y) (hi : y ≤ 1970 + i) : late n i = true := by
  have := ahead_le (y := y + 1) (z := 1970 + i + 1) (by omega) (by omega)
  unfold late
  exact decide_eq_true (by omega)
theorem count_late {n y : Nat} (h0 : ahead y ≤ n) (h1 : n < ahead (y + 1)) (hy : 1970 ≤ y) (hy1 : y ≤ 9999) : (List.range 8029).countP (fun i => !late n i) = y - 1970 := by
  have e : (List.range 8029).countP (fun i => !late n i) = (List.range 8029).countP (fun i => decide (i < y - 1970)) := by
    refine List.countP_congr fun i hi => ?_
    by_cases h : i < y - 1970
    · rw [late_false h0 hy (by omega)]; simp [h]
    · rw [late_true h1 hy (by omega)]; simp [h]
  rw [e, count_lt]
  omega
theorem search_any (n : Nat) (B : Nat) (W : World) (hB : B < W.heap.size) (hc : W.cell? ⟨B, 0, none⟩ = some (.int .i64 n)) (y : Nat) (h0 : ahead y ≤ n) (h1 : n < ahead (y + 1)) (hy : 1970 ≤ y) (hy1 : y ≤ 9999) :
    Calls Tryd.prog 54 #[.int .i64 8029, .func (.func 55) #[] #[.pointer (some ⟨B, 0, none⟩)]] W fun e w' => e = .returned (.int .i64 ((y - 1970 : Nat) : Int)) ∧ Below W.heap.size W w' := by
  have h := Any.sort_Search Tryd.lays16 55 #[.pointer (some ⟨B, 0, none⟩)] 8029 (late n) W (fun args w => by kernel_rfl) (by decide)
    (fun m os i hi => (closure_any n i B (grow (W.drewN m) os) hi (cell_grown hB hc m os)).mono fun e w' ⟨he, q, hq⟩ => ⟨he, q, #[], by rw [hq, grow_empty]⟩)
    (fun a b hab hb ha => by
      unfold late at ha ⊢
      have := ahead_le (y := 1970 + a + 1) (z := 1970 + b + 1) (by omega) (by omega)
      simp only [decide_eq_true_eq] at ha ⊢
      omega)
  rw [count_late h0 h1 hy hy1] at h
  refine h.mono fun e w' ⟨he, q, os, hw⟩ => ⟨he, ?_⟩
  rw [hw]
  exact below_grown_sl _ _ _ _ (Nat.le_refl _)
set_option maxRecDepth 100000 in
set_option maxHeartbeats 400000 in
theorem dateOfDay_any (z : Int) (n : Nat) (hz : z = n) (w : World) (hM : Mon w) (hn : n ≤ 2932896) :
    Calls Tryd.prog 28 #[.int .i64 z] w fun e w' => e = .returned (.int .i64 (dateN n : Int)) ∧ Below w.heap.size w w' := by
  subst hz
  obtain ⟨y, hy0, hy1, ha0, ha1⟩ := year_of n hn
  have ha2 := ha1
  rw [ahead_succ y hy0] at ha2
  have hlp := leapN_le y
  have hmf : ∀ (fn : Fn) (first cap : Array Value) (w : World), (Instr.makeFunc fn first cap).run Tryd.prog w = .ok (.func fn first cap) w := fun _ _ _ _ => rfl
  have HM : Hid (Mon w) := hM
  clear hM
  go_enter Tryd.func28, Tryd.ntmps28
  go_wp2_with (go_at_call 54; fail)
  refine (search_any n w.heap.size (w.alloc (Obj.cells #[Value.int IntKind.i64 ↑n] 3)) (by simp) (cell_new_sl w _ 3) y ha0 ha1 hy0 hy1).mono ?_
  rintro e w1 ⟨rfl, hb1⟩
  have hal : Below w.heap.size w (w.alloc (Obj.cells #[Value.int IntKind.i64 ↑n] 3)) := (Below.refl _ w).alloc (Nat.le_refl _) _
  have HB : Hid (Below w.heap.size w w1) := hal.trans (hb1.mono (by simp))
  have hc1 : w1.cell? ⟨w.heap.size, 0, none⟩ = some (.int .i64 (n : Int)) := by
    rw [hb1.cell (p := ⟨w.heap.size, 0, none⟩) (by simp)]
    exact cell_new_sl w _ 3
  have HM1 : Hid (Mon w1) := HM.out.below HB.out HM.out.lt
  have HC : Hid (∀ m, (w1.drewN m).cell? ⟨w.heap.size, 0, none⟩ = some (.int .i64 (n : Int))) := fun _ => hc1
  generalize hBe : w.heap.size = B at *
  have HBe : Hid (w.heap.size = B) := hBe
  clear hb1 hal hBe
  have ey : (1970 : Int) + ((y - 1970 : Nat) : Int) = (y : Int) := by omega
  have hA : ahead y ≤ 2932897 := by omega
  generalize y - 1970 = u at *
  go_wp2
  go_quiet ((go_at_call 43; refine Calls.quiet_of_same (firstDayOfYear_any _ y (by omega) _ hy0 (by omega))))
  go_wp2
  have HM2 : Hid (Mon (w1.drewN nq)) := HM1.out
  have HB2 : Hid (Below B w (w1.drewN nq)) := below_drewN HB.out _
  generalize w1.drewN nq = w2 at *
  clear HM1 HB HC hc1
  go_loopw [4, 5] (fun a i wr => ∃ k : Nat, k < 12 ∧ i = .int .i64 ((k : Int) + 1) ∧ a = .int .i64 ((n : Int) - (ahead y : Int) - (msum y k : Int)) ∧ ahead y + msum y k ≤ n ∧ wr = w2) (fun _ i _ => 13 - (intOf i).toNat)
  case atStart => exact ⟨0, by omega, rfl, vint (by simp [msum]), by simp [msum]; omega, rfl⟩
  case round =>
    obtain ⟨k, hk, rfl, rfl, hle, rfl⟩ := hrel
    have hs1 := msum_mono y (j := k) (k := 12) (by omega)
    rw [msum_year] at hs1
    have hs3 := mlen_le y (k + 1)
    have hs4 : msum y (k + 1) = msum y k + mlen y (k + 1) := rfl
    by_cases hlt : ahead y + msum y k + mlen y (k + 1) ≤ n
    · have hge : (mlen y (k + 1) : Int) ≤ (n : Int) - (ahead y : Int) - (msum y k : Int) := by omega
      have hk2 : k + 1 < 12 := by
        rcases Nat.lt_or_ge (k + 1) 12 with h | h
        · exact h
        · have e12 : k + 1 = 12 := by omega
          have := msum_year y
          rw [← e12] at this
          omega
      go_wp2_with (go_at_call 42; fail)
      refine (daysOfMonth_any _ _ y (k + 1) rfl (by omega) _ HM2.out (by omega) (by omega) (by omega)).mono ?_
      rintro e w2 ⟨rfl, rfl⟩
      go_wp2_with (go_at_call 42; fail)
      refine (daysOfMonth_any _ _ y (k + 1) rfl (by omega) _ HM2.out (by omega) (by omega) (by omega)).mono ?_
      rintro e w2 ⟨rfl, rfl⟩
      go_wp2
      go_roundw
      case rel => exact ⟨k + 1, by omega, by go_num, vint (by omega), by omega, by first | rfl | trivial⟩
      case measure => simp [intOf]; omega
    · have hge : ¬ (mlen y (k + 1) : Int) ≤ (n : Int) - (ahead y : Int) - (msum y k : Int) := by omega
      have hge2 : (n : Int) - (ahead y : Int) - (msum y k : Int) < (mlen y (k + 1) : Int) := by omega
      have hD : IsD y (k + 1) (n - ahead y - msum y k + 1) := ⟨hy0, hy1, by omega, by omega, by omega, by omega⟩
      have eD := dateN_eq hD
      rw [show dayNo y (k + 1) (n - ahead y - msum y k + 1) = n by unfold dayNo; simp only [Nat.add_sub_cancel]; omega] at eD
      have eN : (dateN n : Int) = (y : Int) * 10000 + ((k : Int) + 1) * 100 + ((n : Int) - (ahead y : Int) - (msum y k : Int)) + 1 := by rw [eD]; unfold encD; omega
      have EN : Hid ((dateN n : Int) = (y : Int) * 10000 + ((k : Int) + 1) * 100 + ((n : Int) - (ahead y : Int) - (msum y k : Int)) + 1) := eN
      clear eN eD
      go_wp2_with (go_at_call 42; fail)
      refine (daysOfMonth_any _ _ y (k + 1) rfl (by omega) _ HM2.out (by omega) (by omega) (by omega)).mono ?_
      rintro e w2 ⟨rfl, rfl⟩
      go_wp2
      go_ret
      exact ⟨ret_int (by have := EN.out; omega), by rw [HBe.out]; exact HB2.out⟩
def doV (z : Int) : Int := if isT z then (dateN (z / 86400000).toNat : Int) else 0
def stE (z : Int) : Int := if isT z then 0 else 20
theorem isT_iff (z : Int) : isT z = true ↔ 0 ≤ z ∧ z ≤ 253402300799999 := by simp [isT]
theorem day_of {z : Int} (h : isT z = true) : ∃ t : Nat, z = t ∧ t ≤ 253402300799999 ∧ t / 86400000 ≤ 2932896 := by
  rw [isT_iff] at h
  exact ⟨z.toNat, by omega, by omega, by omega⟩
set_option maxRecDepth 100000 in
set_option maxHeartbeats 400000 in
theorem DateOf_any (z : Int) (w : World) (hM : Mon w) :
    Calls Tryd.prog 11 #[.int .i64 z] w fun e w' => e = .returned (.tuple #[.int .i64 (doV z), .int .i64 (stE z)]) ∧ Below w.heap.size w w' := by
  cases ht : isT z
  · have e1 : doV z = 0 := by unfold doV; rw [ht]; rfl
    have e2 : stE z = 20 := by unfold stE; rw [ht]; rfl
    have hc := isTime_any z w
    rw [ht] at hc
    rw [e1, e2]
    clear e1 e2 ht
    go_enter Tryd.func11, Tryd.ntmps11
    go_wp2_with (go_at_call 27; refine hc.mono ?_; rintro e w ⟨rfl, rfl⟩)
    go_ret2
    exact ⟨rfl, Below.refl _ _⟩
  · have hc := isTime_any z w
    rw [ht] at hc
    obtain ⟨t, rfl, ht1, ht2⟩ := day_of ht
    have e1 : doV t = (dateN (t / 86400000) : Int) := by unfold doV; rw [ht, if_pos rfl, show ((t : Int) / 86400000).toNat = t / 86400000 by omega]
    have e2 : stE t = 0 := by unfold stE; rw [ht]; rfl
    rw [e1, e2]
    clear e1 e2 ht
    have HM : Hid (Mon w) := hM
    clear hM
    go_enter Tryd.func11, Tryd.ntmps11
    go_wp2_with (go_at_call 27; refine hc.mono ?_; rintro e w ⟨rfl, rfl⟩)
    go_wp2_with (go_at_call 28; fail)
    refine (dateOfDay_any _ (t / 86400000) (by omega) _ HM.out ht2).mono ?_
    rintro e w1 ⟨rfl, hb⟩
    have HB : Hid (Below w.heap.size w w1) := hb
    clear hb
    go_wp2
    go_ret2
    exact ⟨rfl, HB.out⟩
set_option maxRecDepth 100000 in
set_option maxHeartbeats 400000 in
theorem Minute_any (z : Int) (w : World) :
    Calls Tryd.prog 13 #[.int .i64 z] w fun e w' => e = .returned (.tuple #[.int .i64 (if isT z then z % 86400000 / 60000 else 0), .int .i64 (stE z)]) ∧ w' = w := by
  cases ht : isT z
  · have e2 : stE z = 20 := by unfold stE; rw [ht]; rfl
    have hc := isTime_any z w
    rw [ht] at hc
    rw [e2]
    clear e2 ht
    go_enter Tryd.func13, Tryd.ntmps13
    go_wp2_with (go_at_call 27; refine hc.mono ?_; rintro e w ⟨rfl, rfl⟩)
    go_ret2
    exact ⟨rfl, rfl⟩
  · have hc := isTime_any z w
    rw [ht] at hc
    obtain ⟨t, rfl, ht1, ht2⟩ := day_of ht
    have e2 : stE t = 0 := by unfold stE; rw [ht]; rfl
    rw [e2]
    clear e2 ht
    go_enter Tryd.func13, Tryd.ntmps13
    go_wp2_with (go_at_call 27; refine hc.mono ?_; rintro e w ⟨rfl, rfl⟩)
    go_ret2
    exact ⟨rfl, rfl⟩
def wkV (z : Int) : Int := if dnB z then (dnV z + 4) % 7 else 0
end Go.Proofs.YtnhkmfofkhhnaaaDoor
