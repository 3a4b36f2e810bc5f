/-
  risk: which accounts may be; New.
-/
import Derived.Test.YtgioknkfppaaaaaGGd
import Derived.Deep.RegionHeld3
namespace Go.Proofs.Ytgioknkfppaaaaa
set_option linter.unusedVariables false
set_option linter.unusedSimpArgs false
open Go.RowKit Go.Great Go.Maps

def isNm (c : Nat) : Bool := !((decide (c < 65) || decide (90 < c)) && (decide (c < 48) || decide (57 < c)))
theorem take_snoc (s : ByteArray) (k : Nat) (h : k < s.size) : s.data.toList.take (k + 1) = s.data.toList.take k ++ [s[k]] := by
  rw [List.take_succ_eq_append_getElem (by simpa using h)]; rfl
def allB (p : Nat → Bool) (s : ByteArray) : Bool := s.data.toList.all fun c => p c.toNat
def allTo (p : Nat → Bool) (s : ByteArray) (k : Nat) : Bool := (s.data.toList.take k).all fun c => p c.toNat
theorem allTo_succ (p : Nat → Bool) (s : ByteArray) (k : Nat) (h : k < s.size) : allTo p s (k + 1) = (allTo p s k && p s[k].toNat) := by
  unfold allTo; rw [take_snoc s k h]; simp
theorem allTo_all (p : Nat → Bool) (s : ByteArray) : allTo p s s.size = allB p s := by
  unfold allTo allB; rw [List.take_of_length_le (by simp)]
theorem allB_false {p : Nat → Bool} {s : ByteArray} {k : Nat} (h : k < s.size) (hp : p s[k].toNat = false) : allB p s = false := by
  unfold allB
  rw [List.all_eq_false]
  exact ⟨s[k], by simp [ByteArray.getElem_eq_getElem_data], by simp [hp]⟩
theorem isnB_eq (s : ByteArray) : isnB s.data.toList = (decide (1 ≤ s.size) && decide (s.size ≤ 12) && allB isNm s) := by
  unfold isnB allB isNm
  rw [show s.data.toList.length = s.size by simp]
set_option maxRecDepth 100000 in
set_option maxHeartbeats 1000000 in
theorem isName_any (s : ByteArray) (w : World) :
    Calls Try.prog 40 #[.string s] w fun e w' => e = .returned (.bool (isnB s.data.toList)) ∧ w' = w := by
  rw [isnB_eq]
  by_cases h0 : s.size < 1
  · have hr : (decide (1 ≤ s.size) && decide (s.size ≤ 12) && allB isNm s) = false := by rw [decide_eq_false (by omega : ¬ 1 ≤ s.size)]; rfl
    have h0' : (s.size : Int) < 1 := by omega
    rw [hr]
    go_enter Try.func40, Try.ntmps40
    go_wp2
    go_ret
    exact ⟨rfl, rfl⟩
  by_cases h1 : 12 < s.size
  · have hr : (decide (1 ≤ s.size) && decide (s.size ≤ 12) && allB isNm s) = false := by rw [decide_eq_false (by omega : ¬ s.size ≤ 12)]; simp
    have h0' : ¬ (s.size : Int) < 1 := by omega
    have h1' : (12 : Int) < (s.size : Int) := by omega
    rw [hr]
    go_enter Try.func40, Try.ntmps40
    go_wp2
    go_ret
    exact ⟨rfl, rfl⟩
  rw [decide_eq_true (by omega : 1 ≤ s.size), decide_eq_true (by omega : s.size ≤ 12), Bool.true_and, Bool.true_and]
  have h0' : ¬ (s.size : Int) < 1 := by omega
  have h1' : ¬ (12 : Int) < (s.size : Int) := by omega
  go_enter Try.func40, Try.ntmps40
  go_wp2
  go_loopw [15] (fun i wr => ∃ k : Nat, k ≤ s.size ∧ i = .int .i64 k ∧ Hid (allTo isNm s k = true) ∧ wr = w) (fun i _ => s.size - (intOf i).toNat)
  case atStart => exact ⟨0, by omega, rfl, by show allTo _ _ _ = _; simp [allTo], rfl⟩
  case round =>
    obtain ⟨k, hk, rfl, ha, rfl⟩ := hrel
    by_cases hlt : k < s.size
    · have hlt' : (k : Int) < (s.size : Int) := by omega
      have HB : Hid (isNm s[k].toNat = false → allB isNm s = false) := allB_false hlt
      have HT : Hid (isNm s[k].toNat = true → allTo isNm s (k + 1) = true) := fun hp => by rw [allTo_succ _ _ _ hlt, hp, ha.out]; rfl
      have HI : Hid (isNm s[k].toNat = !((decide (s[k].toNat < 65) || decide (90 < s[k].toNat)) && (decide (s[k].toNat < 48) || decide (57 < s[k].toNat)))) := rfl
      clear ha
      have hcc : ∀ c : Nat, s[k].toNat = c → Hid (s[k].toNat = c) := fun c h => h
      by_cases c1 : s[k].toNat < 48
      · have e1 : (s[k].toNat : Int) < 65 := by omega
        have e2 : (s[k].toNat : Int) < 48 := by omega
        have hr : Hid (allB isNm s = false) := HB.out (by rw [HI.out]; simp; omega)
        clear HB HT HI hcc c1
        go_wp2
        go_ret
        exact ⟨ret_bool hr.out.symm, by first | rfl | trivial⟩
      by_cases c2 : s[k].toNat ≤ 57
      · have e1 : (s[k].toNat : Int) < 65 := by omega
        have e2 : ¬ (s[k].toNat : Int) < 48 := by omega
        have e3 : ¬ (57 : Int) < (s[k].toNat : Int) := by omega
        have hr : Hid (allTo isNm s (k + 1) = true) := HT.out (by rw [HI.out]; simp; omega)
        clear HB HT HI hcc c1 c2
        go_wp2
        go_roundw
        case rel => exact ⟨k + 1, by omega, by go_num, hr, by first | rfl | trivial⟩
        case measure => simp [intOf]; omega
      by_cases c3 : s[k].toNat < 65
      · have e1 : (s[k].toNat : Int) < 65 := by omega
        have e2 : ¬ (s[k].toNat : Int) < 48 := by omega
        have e3 : (57 : Int) < (s[k].toNat : Int) := by omega
        have hr : Hid (allB isNm s = false) := HB.out (by rw [HI.out]; simp; omega)
        clear HB HT HI hcc c1 c2 c3
        go_wp2
        go_ret
        exact ⟨ret_bool hr.out.symm, by first | rfl | trivial⟩
      by_cases c4 : s[k].toNat ≤ 90
      · have e1 : ¬ (s[k].toNat : Int) < 65 := by omega
        have e3 : ¬ (90 : Int) < (s[k].toNat : Int) := by omega
        have hr : Hid (allTo isNm s (k + 1) = true) := HT.out (by rw [HI.out]; simp; omega)
        clear HB HT HI hcc c1 c2 c3 c4
        go_wp2
        go_roundw
        case rel => exact ⟨k + 1, by omega, by go_num, hr, by first | rfl | trivial⟩
        case measure => simp [intOf]; omega
      · have e1 : ¬ (s[k].toNat : Int) < 65 := by omega
        have e3 : (90 : Int) < (s[k].toNat : Int) := by omega
        have e4 : ¬ (s[k].toNat : Int) < 48 := by omega
        have e5 : (57 : Int) < (s[k].toNat : Int) := by omega
        have hr : Hid (allB isNm s = false) := HB.out (by rw [HI.out]; simp; omega)
        clear HB HT HI hcc c1 c2 c3 c4
        go_wp2
        go_ret
        exact ⟨ret_bool hr.out.symm, by first | rfl | trivial⟩
    · obtain rfl : k = s.size := by omega
      have hr : Hid (allB isNm s = true) := by show allB _ _ = _; rw [← allTo_all]; exact ha.out
      clear ha
      go_wp2
      go_ret
      exact ⟨ret_bool hr.out.symm, by first | rfl | trivial⟩
def ptV (x y z : Int) (k : Nat) : Int := if k = 0 then x else if k = 1 then y else z
theorem idx3 (x y z : Int) : ∀ k : Nat, k < 3 → ∀ w, Sem.run Try.prog (Instr.index 90 (.agg #[.int .i64 x, .int .i64 y, .int .i64 z]) (.int .i64 (k : Int))) w = .ok (.int .i64 (ptV x y z k)) w
  | 0, _, w => by kernel_rfl
  | 1, _, w => by kernel_rfl
  | 2, _, w => by kernel_rfl
  | k + 3, h, w => absurd h (by omega)
set_option maxRecDepth 100000 in
set_option maxHeartbeats 1000000 in
theorem isAccount_any (nm : ByteArray) (od op po bu pe : Int) (w : World) :
    Calls Try.prog 19 #[.agg (limV nm od op po bu pe)] w fun e w' => e = .returned (.bool (isaB nm od op po bu pe)) ∧ Below w.heap.size w w' := by
  unfold limV
  have HI : Hid (isaB nm od op po bu pe = (wiB od 0 1000000000000000000 && wiB op 0 1000000000000000000 && wiB po 0 1000000000000000000 && (isnB nm.data.toList && wiB bu 0 1000 && wiB pe 0 86400000))) := rfl
  generalize isaB nm od op po bu pe = R at *
  have HX : Hid (∀ k : Nat, k < 3 → ∀ w, Sem.run Try.prog (Instr.index 90 (.agg #[.int .i64 od, .int .i64 op, .int .i64 po]) (.int .i64 (k : Int))) w = .ok (.int .i64 (ptV od op po k)) w) := idx3 od op po
  have HP : Hid (∀ k : Nat, k < 3 → wiB (ptV od op po k) 0 1000000000000000000 = false → R = false) := fun k hk hw => by
    rw [HI.out]
    rcases (by omega : k = 0 ∨ k = 1 ∨ k = 2) with rfl | rfl | rfl
    · rw [show wiB od 0 1000000000000000000 = false from hw]; rfl
    · rw [show wiB op 0 1000000000000000000 = false from hw]; simp
    · rw [show wiB po 0 1000000000000000000 = false from hw]; simp
  have HQ : Hid ((∀ k : Nat, k < 3 → wiB (ptV od op po k) 0 1000000000000000000 = true) → R = (isnB nm.data.toList && wiB bu 0 1000 && wiB pe 0 86400000)) := fun h => by
    have h0 := h 0 (by omega)
    have h1 := h 1 (by omega)
    have h2 := h 2 (by omega)
    rw [HI.out, show wiB od 0 1000000000000000000 = true from h0, show wiB op 0 1000000000000000000 = true from h1, show wiB po 0 1000000000000000000 = true from h2]; rfl
  have HN : Hid (∀ w, Calls Try.prog 40 #[.string nm] w fun e w' => e = .returned (.bool (isnB nm.data.toList)) ∧ w' = w) := fun w => isName_any nm w
  have HW : Hid (∀ x a b w, Calls Try.prog 22 #[.int .i64 x, .int .i64 a, .int .i64 b] w fun e w' => e = .returned (.bool (wiB x a b)) ∧ w' = w) := within_any
  clear HI
  have H0 : Hid (Below w.heap.size w (w.alloc (.cells #[.string nm, .int .i64 od, .int .i64 op, .int .i64 po, .int .i64 bu, .int .i64 pe] 30)) ∧ Blk (w.alloc (.cells #[.string nm, .int .i64 od, .int .i64 op, .int .i64 po, .int .i64 bu, .int .i64 pe] 30)) w.heap.size 30 #[.string nm, .int .i64 od, .int .i64 op, .int .i64 po, .int .i64 bu, .int .i64 pe]) := ⟨(Below.refl _ w).alloc (Nat.le_refl _) _, Blk.new _ _ _⟩
  go_enter Try.func19, Try.ntmps19
  go_upto_region 1 with fail
  have c0 := H0.out.2.cell 0
  have c1 := H0.out.2.cell 1
  have c2 := H0.out.2.cell 2
  have c3 := H0.out.2.cell 3
  have c4 := H0.out.2.cell 4
  have c5 := H0.out.2.cell 5
  simp only [List.getElem?_toArray, List.getElem?_cons_succ, List.getElem?_cons_zero] at c0 c1 c2 c3 c4 c5
  generalize (w.alloc (.cells #[.string nm, .int .i64 od, .int .i64 op, .int .i64 po, .int .i64 bu, .int .i64 pe] 30)) = W at *
  have HB : Hid (Below w.heap.size w W) := H0.out.1
  clear H0
  go_wp2
  go_loopw [12] (fun i wr => ∃ k : Nat, k ≤ 3 ∧ i = .int .i64 k ∧ Hid (∀ j, j < k → wiB (ptV od op po j) 0 1000000000000000000 = true) ∧ wr = W) (fun i _ => 3 - (intOf i).toNat)
  case atStart => exact ⟨0, by omega, rfl, by show ∀ j, _; intro j hj; omega, rfl⟩
  case round =>
    obtain ⟨k, hk, rfl, ha, rfl⟩ := hrel
    by_cases hlt : k < 3
    · have hlt' : (k : Int) < 3 := by omega
      have hx := HX.out k hlt
      have hw := fun w => HW.out (ptV od op po k) 0 1000000000000000000 w
      have HPk : Hid (wiB (ptV od op po k) 0 1000000000000000000 = false → R = false) := HP.out k hlt
      cases hp : wiB (ptV od op po k) 0 1000000000000000000
      · have hr : Hid (R = false) := HPk.out hp
        rw [hp] at hw
        clear hp HPk HP
        generalize ptV od op po k = x at *
        go_wp2_with (go_at_call 22; refine (hw _).mono ?_; rintro e w ⟨rfl, rfl⟩)
        go_ret
        exact ⟨ret_bool hr.out.symm, HB.out⟩
      · have hr : Hid (∀ j, j < k + 1 → wiB (ptV od op po j) 0 1000000000000000000 = true) := fun j hj => by
          rcases (by omega : j < k ∨ j = k) with h | rfl
          · exact ha.out j h
          · exact hp
        rw [hp] at hw
        clear hp HPk ha
        generalize hxx : ptV od op po k = x at *
        clear hxx
        go_wp2_with (go_at_call 22; refine (hw _).mono ?_; rintro e w ⟨rfl, rfl⟩)
        go_roundw
        case rel => exact ⟨k + 1, by omega, by go_num, hr, by first | rfl | trivial⟩
        case measure => simp [intOf]; omega
    · obtain rfl : k = 3 := by omega
      have HR : Hid (R = (isnB nm.data.toList && wiB bu 0 1000 && wiB pe 0 86400000)) := HQ.out ha.out
      have hn := HN.out
      have hw1 := fun w => HW.out bu 0 1000 w
      have hw2 := fun w => HW.out pe 0 86400000 w
      clear ha HP HQ HX HN
      cases h1 : isnB nm.data.toList
      · rw [h1] at hn HR
        go_wp2_with (go_at_call 40; fail)
        refine (hn _).mono ?_
        rintro e w1 ⟨rfl, rfl⟩
        go_wp2
        go_ret
        exact ⟨ret_bool HR.out.symm, HB.out⟩
      rw [h1] at hn HR
      cases h2 : wiB bu 0 1000
      · rw [h2] at hw1 HR
        go_wp2_with (go_at_call 40; fail)
        refine (hn _).mono ?_
        rintro e w1 ⟨rfl, rfl⟩
        go_wp2_with (go_at_call 22; fail)
        refine (hw1 _).mono ?_
        rintro e w1 ⟨rfl, rfl⟩
        go_wp2
        go_ret
        exact ⟨ret_bool HR.out.symm, HB.out⟩
      rw [h2] at hw1 HR
      go_wp2_with (go_at_call 40; fail)
      refine (hn _).mono ?_
      rintro e w1 ⟨rfl, rfl⟩
      go_wp2_with (go_at_call 22; fail)
      refine (hw1 _).mono ?_
      rintro e w1 ⟨rfl, rfl⟩
      go_wp2_with (go_at_call 22; fail)
      refine (hw2 _).mono ?_
      rintro e w1 ⟨rfl, rfl⟩
      go_wp2
      go_ret
      exact ⟨ret_bool HR.out.symm, HB.out⟩
end Go.Proofs.Ytgioknkfppaaaaa
