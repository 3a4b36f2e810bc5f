/-
  The reference of msg: may that stand there?
-/
import Derived.Test.YtdlmaeieoiocdabDoorMsgValB
import Derived.Test.YtdlmaeieoiocdabDoorMsgRefText
import Derived.Test.YtdlmaeieoiocdabDoorRefDays2
namespace Go.Proofs.YtdlmaeieoiocdabDoor
set_option linter.unusedVariables false
set_option linter.unusedSimpArgs false
open Go.RowKit Go.Great

def mayS (what least most n : Int) (s : ByteArray) : Bool :=
  if what = 2 then nmS s else if what = 3 then idS s else if what = 4 then syS s else if what = 5 then txS s else if what = 6 then txS s && decide (s.size ≤ 20) else if what = 1 then true else if what = 7 then dnB n else decide (least ≤ n) && decide (n ≤ most)
set_option maxRecDepth 100000 in
set_option maxHeartbeats 4000000 in
theorem may_any (c0 what least most : Int) (b : Bool) (au aa : Option Addr) (lu cu la ca : Nat) (n : Int) (s : ByteArray) (hs : s.size ≤ 9223372036854775807) (h0 : -9223372036854775808 ≤ n) (h1 : n ≤ 9223372036854775807) (w : World) :
    Calls Tryd.prog 15 #[.agg #[.int .i64 c0, .int .i64 what, .int .i64 least, .int .i64 most, .bool b, .slice au lu cu, .slice aa la ca], .int .i64 n, .string s] w fun e w' => e = .returned (.bool (mayS what least most n s)) ∧ Below w.heap.size w w' := by
  have hb : Below w.heap.size w (w.alloc (Obj.cells #[.int .i64 c0, .int .i64 what, .int .i64 least, .int .i64 most, .bool b, .slice au lu cu, .slice aa la ca] 45)) := (Below.refl _ w).alloc (Nat.le_refl _) _
  have HB : Hid _ := hb
  clear hb
  by_cases x2 : what = 2
  · subst x2
    rw [show mayS 2 least most n s = nmS s by simp [mayS]]
    go_enter Tryd.func15, Tryd.ntmps15
    go_wp2_with (go_at_call 76; fail)
    refine (refIsName s _ hs).mono ?_
    rintro e w2 ⟨rfl, rfl⟩
    go_wp2
    go_ret
    exact ⟨rfl, HB.out⟩
  have y2 : (what == 2) = false := by simp [x2]
  by_cases x3 : what = 3
  · subst x3
    rw [show mayS 3 least most n s = idS s by simp [mayS]]
    go_enter Tryd.func15, Tryd.ntmps15
    go_wp2_with (go_at_call 77; fail)
    refine (refIsID s _ hs).mono ?_
    rintro e w2 ⟨rfl, rfl⟩
    go_wp2
    go_ret
    exact ⟨rfl, HB.out⟩
  have y3 : (what == 3) = false := by simp [x3]
  by_cases x4 : what = 4
  · subst x4
    rw [show mayS 4 least most n s = syS s by simp [mayS]]
    go_enter Tryd.func15, Tryd.ntmps15
    go_wp2_with (go_at_call 78; fail)
    refine (refIsSymbol s _ hs).mono ?_
    rintro e w2 ⟨rfl, rfl⟩
    go_wp2
    go_ret
    exact ⟨rfl, HB.out⟩
  have y4 : (what == 4) = false := by simp [x4]
  by_cases x5 : what = 5
  · subst x5
    rw [show mayS 5 least most n s = txS s by simp [mayS]]
    go_enter Tryd.func15, Tryd.ntmps15
    go_wp2_with (go_at_call 79; fail)
    refine (refIsText s _ hs).mono ?_
    rintro e w2 ⟨rfl, rfl⟩
    go_wp2
    go_ret
    exact ⟨rfl, HB.out⟩
  have y5 : (what == 5) = false := by simp [x5]
  by_cases x6 : what = 6
  · subst x6
    have HV : Hid (mayS 6 least most n s = (txS s && decide (s.size ≤ 20))) := by show mayS 6 least most n s = _; simp [mayS]
    cases ht : txS s
    · rw [ht] at HV
      go_enter Tryd.func15, Tryd.ntmps15
      go_wp2_with (go_at_call 79; fail)
      refine (refIsText s _ hs).mono ?_
      rw [ht]
      rintro e w2 ⟨rfl, rfl⟩
      go_wp2
      go_ret
      exact ⟨ret_bool HV.out.symm, HB.out⟩
    · rw [ht] at HV
      go_enter Tryd.func15, Tryd.ntmps15
      go_wp2_with (go_at_call 79; fail)
      refine (refIsText s _ hs).mono ?_
      rw [ht]
      rintro e w2 ⟨rfl, rfl⟩
      go_wp2
      go_ret
      exact ⟨ret_bool (by rw [HV.out, Bool.true_and, Bool.eq_iff_iff]; simp; try omega), HB.out⟩
  have y6 : (what == 6) = false := by simp [x6]
  by_cases x1 : what = 1
  · subst x1
    rw [show mayS 1 least most n s = true by simp [mayS]]
    go_enter Tryd.func15, Tryd.ntmps15
    go_wp2
    go_ret
    exact ⟨rfl, HB.out⟩
  have y1 : (what == 1) = false := by simp [x1]
  by_cases x7 : what = 7
  · subst x7
    have HV : Hid (mayS 7 least most n s = dnB n) := by show mayS 7 least most n s = _; simp [mayS]
    have hst := fun w' => refStart_any n w' h0 h1
    generalize dnV n * 86400000 = vv at *
    cases hd : dnB n
    · rw [hd] at HV
      rw [show dtE n = 21 by simp [dtE, hd]] at hst
      clear hd
      go_enter Tryd.func15, Tryd.ntmps15
      go_wp2_with (go_at_call 80; fail)
      refine (hst _).mono ?_
      rintro e w2 ⟨rfl, hb2⟩
      go_wp2
      go_ret
      exact ⟨ret_bool HV.out.symm, HB.out.trans (hb2.mono HB.out.size)⟩
    · rw [hd] at HV
      rw [show dtE n = 0 by simp [dtE, hd]] at hst
      clear hd
      go_enter Tryd.func15, Tryd.ntmps15
      go_wp2_with (go_at_call 80; fail)
      refine (hst _).mono ?_
      rintro e w2 ⟨rfl, hb2⟩
      go_wp2
      go_ret
      exact ⟨ret_bool HV.out.symm, HB.out.trans (hb2.mono HB.out.size)⟩
  have y7 : (what == 7) = false := by simp [x7]
  have HV : Hid (mayS what least most n s = (decide (least ≤ n) && decide (n ≤ most))) := by show mayS what least most n s = _; simp [mayS, x1, x2, x3, x4, x5, x6, x7]
  by_cases l0 : least ≤ n
  · go_enter Tryd.func15, Tryd.ntmps15
    go_wp2
    go_ret
    exact ⟨ret_bool (by rw [HV.out]; simp [l0]), HB.out⟩
  · go_enter Tryd.func15, Tryd.ntmps15
    go_wp2
    go_ret
    exact ⟨ret_bool (by rw [HV.out]; simp; omega), HB.out⟩

end Go.Proofs.YtdlmaeieoiocdabDoor
