/-
  ClockDates: the walk.
-/
import Derived.Test.YteafaglhlggknaaDoorShownC
import Derived.Test.YteafaglhlggknaaDoorPick
import Derived.Deep.DeepCutAuto
import Derived.Deep.CutBlock
namespace Go.Proofs.YteafaglhlggknaaDoor
set_option linter.unusedVariables false
open Go.Shelf Go.RowKit Go.Sort Go.Lib

theorem bounds_i64 {n : Int} (h : (Lit.int .i64 n).wf = true) : -9223372036854775808 ≤ n ∧ n ≤ 9223372036854775807 := by
  simp [Lit.wf, IntKind.min, IntKind.max, IntKind.signed, IntKind.bits] at h
  omega
theorem doV_day (n : Nat) (hT : isT ((n : Int) * 86400000) = true) : doV ((n : Int) * 86400000) = (dateN n : Int) := by
  have e : (n : Int) * 86400000 / 86400000 = n := Int.mul_ediv_cancel _ (by decide)
  unfold doV
  rw [hT, if_pos rfl, e, Int.toNat_natCast]
set_option maxRecDepth 100000 in
set_option maxHeartbeats 4000000 in
theorem ClockDates_law (a : Int) (ha : (Lit.int .i64 a).wf = true) (b : Int) (hb : (Lit.int .i64 b).wf = true) (c : Int) (hc : (Lit.int .i64 c).wf = true) (w : World) (hM : Mon w) :
    Calls Tryd.prog 3 #[.int .i64 a, .int .i64 b, .int .i64 c] w fun e w' => e = .returned (.bool true) ∧ Below w.heap.size w w' := by
  obtain ⟨a0, a1⟩ := bounds_i64 ha
  obtain ⟨b0, b1⟩ := bounds_i64 hb
  obtain ⟨c0, c1⟩ := bounds_i64 hc
  have HM : Hid (Mon w) := hM
  clear hM ha hb hc
  have hp1 := pickN_lt a (n := 8100) (by omega)
  have hp2 := pickN_lt b (n := 20) (by omega)
  have hp3 := pickN_lt c (n := 40) (by omega)
  have hk1 := fun w => pick_any a 8100 8100 rfl w (by omega) (by omega) a0 a1
  have hk2 := fun w => pick_any b 20 20 rfl w (by omega) (by omega) b0 b1
  have hk3 := fun w => pick_any c 40 40 rfl w (by omega) (by omega) c0 c1
  generalize pickN a 8100 = y at *
  generalize pickN b 20 = m at *
  generalize pickN c 40 = d at *
  go_enter Tryd.func3, Tryd.ntmps3
  go_wp2_with (go_at_call 9; fail)
  refine (shown_any _ HM.out).mono ?_
  rintro e w1 ⟨rfl, hb1⟩
  have HB1 : Hid (Below w.heap.size w w1 ∧ Mon w1) := ⟨hb1, HM.out.below hb1 HM.out.lt⟩
  clear hb1
  go_wp2_with (go_at_call 10; fail)
  refine (hk1 _).mono ?_
  rintro e w1 ⟨rfl, rfl⟩
  go_wp2_with (go_at_call 10; fail)
  refine (hk2 _).mono ?_
  rintro e w1 ⟨rfl, rfl⟩
  go_wp2_with (go_at_call 10; fail)
  refine (hk3 _).mono ?_
  rintro e w1 ⟨rfl, rfl⟩
  clear hk1 hk2 hk3
  have hY : (1960 : Int) + (y : Int) = ((1960 + y : Nat) : Int) := by omega
  have hY2 : 1960 + y < 10060 := by omega
  have hY3 : 1960 ≤ 1960 + y := by omega
  generalize 1960 + y = Y at *
  clear hp1
  have hZ : (10000 : Int) * (Y : Int) + 100 * (m : Int) + (d : Int) = ((encD Y m d : Nat) : Int) := by unfold encD; omega
  have hZ1 : encD Y m d / 10000 = Y := by unfold encD; omega
  have hZ2 : encD Y m d / 100 % 100 = m := by unfold encD; omega
  have hZ3 : encD Y m d % 100 = d := by unfold encD; omega
  have hZl : encD Y m d ≤ 200000000 := by unfold encD; omega
  have HY : Hid (IsD Y m d → dnum (encD Y m d : Int) = some (dayNo Y m d)) := dnum_of
  have HN : Hid (¬ IsD Y m d → dnum (encD Y m d : Int) = none) := fun h => by
    unfold dnum
    rw [Int.toNat_natCast, hZ1, hZ2, hZ3, if_neg (fun x => h x.2)]
  have HD : Hid (IsD Y m d → dateN (dayNo Y m d) = encD Y m d) := dateN_eq
  clear hZ1 hZ2 hZ3
  generalize encD Y m d = Z at *
  go_upto_block 0 with fail
  go_cut [12] (fun l wx => ∃ L : Nat, l = .int .i64 L ∧ (1 ≤ m → m ≤ 12 → L = mlen Y m) ∧ wx = w1)
  case first =>
    go_wp2_with fail
    all_goals go_meet
    all_goals clear hZ HY HN HD HB1 HM
    all_goals simp only [beq_iff_eq, beq_eq_false_iff_ne, ne_eq] at *
    all_goals first
      | exact ⟨30, rfl, fun _ _ => by unfold mlen; rw [if_neg (by omega), if_pos (by omega)], by first | rfl | trivial⟩
      | exact ⟨31, rfl, fun _ _ => by unfold mlen; rw [if_neg (by omega), if_neg (by omega)], by first | rfl | trivial⟩
      | exact ⟨29, rfl, fun _ _ => by unfold mlen leapN; rw [if_pos (by omega), if_pos (by omega)], by first | rfl | trivial⟩
      | exact ⟨28, rfl, fun _ _ => by unfold mlen leapN; rw [if_pos (by omega), if_neg (by omega)], by first | rfl | trivial⟩
  case rest =>
    obtain ⟨L, rfl, hL, rfl⟩ := hcut
    by_cases hG : IsD Y m d
    · obtain ⟨g1, g2, g3, g4, g5, g6⟩ := hG
      have hG : IsD Y m d := ⟨g1, g2, g3, g4, g5, g6⟩
      have hLe := hL g3 g4
      have f1 : (1970 : Int) ≤ Y := by omega
      have f2 : (Y : Int) ≤ 9999 := by omega
      have f3 : (1 : Int) ≤ m := by omega
      have f4 : (m : Int) ≤ 12 := by omega
      have f5 : (1 : Int) ≤ d := by omega
      have f6 : (d : Int) ≤ L := by omega
      have hdn := HY.out hG
      have hn := hG.last
      have hdd := HD.out hG
      generalize dayNo Y m d = n at *
      have eb : dnB (Z : Int) = true := by unfold dnB; rw [hdn]; rfl
      have ev : dnV (Z : Int) = (n : Int) := by unfold dnV; rw [hdn]
      have ee : dtE (Z : Int) = 0 := by unfold dtE; rw [eb]; rfl
      have ew : wkV (Z : Int) = (((n + 4) % 7 : Nat) : Int) := by unfold wkV; rw [eb, ev, if_pos rfl]; omega
      have hS := fun w h => Start_any (Z : Int) w h (by omega) (by omega)
      have hW := fun w h => Weekday_any (Z : Int) w h (by omega) (by omega)
      have hT : isT ((n : Int) * 86400000) = true := by rw [isT_iff]; omega
      have hDO := fun w h => DateOf_any ((n : Int) * 86400000) w h
      have eo : doV ((n : Int) * 86400000) = (Z : Int) := by rw [doV_day n hT, hdd]
      have et : stE ((n : Int) * 86400000) = 0 := by unfold stE; rw [hT]; rfl
      rw [ev, ee] at hS
      rw [ew, ee] at hW
      rw [eo, et] at hDO
      have q1 : ((n : Int) * 86400000) % 86400000 = 0 := by omega
      have q2 : ((n : Int) * 86400000) / 86400000 = n := by omega
      have q3 : ((n : Int) + 4) % 7 = (((n + 4) % 7 : Nat) : Int) := by omega
      have hT2 : Hid (isT ((n : Int) * 86400000) = true) := hT
      clear eb ev ee ew eo et hdn hdd HY HN HD hLe hG hL hT g1 g2 g3 g4 g5 g6
      have hNn : 0 ≤ (n : Int) * 86400000 := by omega
      have hNm : (n : Int) * 86400000 ≤ 253402300799999 := by omega
      generalize (n + 4) % 7 = k at *
      go_wp2_with (go_at_call 11; fail)
      refine (hS _ HB1.out.2).mono ?_
      rintro e w1 ⟨rfl, rfl⟩
      go_wp2_with (go_at_call 12; fail)
      refine (hW _ HB1.out.2).mono ?_
      rintro e w1 ⟨rfl, rfl⟩
      go_wp2_with (go_at_call 13; fail)
      refine (hDO _ HB1.out.2).mono ?_
      rintro e w3 ⟨rfl, hb3⟩
      have HB3 : Hid (Below w.heap.size w w3) := HB1.out.1.trans (hb3.mono HB1.out.1.size)
      clear hb3 hS hW hDO
      go_wp2
      all_goals go_ret
      all_goals refine ⟨?_, HB3.out⟩
      rfl
    · have hdn := HN.out hG
      have eb : dnB (Z : Int) = false := by unfold dnB; rw [hdn]; rfl
      have ev : dnV (Z : Int) * 86400000 = 0 := by unfold dnV; rw [hdn]; rfl
      have ee : dtE (Z : Int) = 21 := by unfold dtE; rw [eb]; rfl
      have ew : wkV (Z : Int) = 0 := by unfold wkV; rw [eb]; rfl
      have hS := fun w h => Start_any (Z : Int) w h (by omega) (by omega)
      have hW := fun w h => Weekday_any (Z : Int) w h (by omega) (by omega)
      rw [ev, ee] at hS
      rw [ew, ee] at hW
      clear eb ev ee ew hdn HY HN HD
      by_cases x0 : Y < 1970
      · have fx : (Y : Int) < 1970 := by omega
        clear hG hL
        go_wp2_with (go_at_call 11; fail)
        refine (hS _ HB1.out.2).mono ?_
        rintro e w1 ⟨rfl, rfl⟩
        go_wp2_with (go_at_call 12; fail)
        refine (hW _ HB1.out.2).mono ?_
        rintro e w1 ⟨rfl, rfl⟩
        clear hS hW
        go_wp2
        go_ret
        exact ⟨rfl, HB1.out.1⟩
      · have f0 : (1970 : Int) ≤ Y := by omega
        by_cases x1 : 9999 < Y
        · have fx : (9999 : Int) < Y := by omega
          clear hG hL
          go_wp2_with (go_at_call 11; fail)
          refine (hS _ HB1.out.2).mono ?_
          rintro e w1 ⟨rfl, rfl⟩
          go_wp2_with (go_at_call 12; fail)
          refine (hW _ HB1.out.2).mono ?_
          rintro e w1 ⟨rfl, rfl⟩
          clear hS hW
          go_wp2
          go_ret
          exact ⟨rfl, HB1.out.1⟩
        · have f1 : (Y : Int) ≤ 9999 := by omega
          by_cases x2 : m < 1
          · have fx : (m : Int) < 1 := by omega
            clear hG hL
            go_wp2_with (go_at_call 11; fail)
            refine (hS _ HB1.out.2).mono ?_
            rintro e w1 ⟨rfl, rfl⟩
            go_wp2_with (go_at_call 12; fail)
            refine (hW _ HB1.out.2).mono ?_
            rintro e w1 ⟨rfl, rfl⟩
            clear hS hW
            go_wp2
            go_ret
            exact ⟨rfl, HB1.out.1⟩
          · have f2 : (1 : Int) ≤ m := by omega
            by_cases x3 : 12 < m
            · have fx : (12 : Int) < m := by omega
              clear hG hL
              go_wp2_with (go_at_call 11; fail)
              refine (hS _ HB1.out.2).mono ?_
              rintro e w1 ⟨rfl, rfl⟩
              go_wp2_with (go_at_call 12; fail)
              refine (hW _ HB1.out.2).mono ?_
              rintro e w1 ⟨rfl, rfl⟩
              clear hS hW
              go_wp2
              go_ret
              exact ⟨rfl, HB1.out.1⟩
            · have f3 : (m : Int) ≤ 12 := by omega
              by_cases x4 : d < 1
              · have fx : (d : Int) < 1 := by omega
                clear hG hL
                go_wp2_with (go_at_call 11; fail)
                refine (hS _ HB1.out.2).mono ?_
                rintro e w1 ⟨rfl, rfl⟩
                go_wp2_with (go_at_call 12; fail)
                refine (hW _ HB1.out.2).mono ?_
                rintro e w1 ⟨rfl, rfl⟩
                clear hS hW
                go_wp2
                go_ret
                exact ⟨rfl, HB1.out.1⟩
              · have f4 : (1 : Int) ≤ d := by omega
                have hLe := hL (by omega) (by omega)
                have fx : (L : Int) < d := by
                  rcases Nat.lt_or_ge L d with h | h
                  · omega
                  · exact absurd ⟨by omega, by omega, by omega, by omega, by omega, by omega⟩ hG
                have fxn : decide (d ≤ L) = false := decide_eq_false (by omega)
                clear hLe hG hL
                go_wp2_with (go_at_call 11; fail)
                refine (hS _ HB1.out.2).mono ?_
                rintro e w1 ⟨rfl, rfl⟩
                go_wp2_with (go_at_call 12; fail)
                refine (hW _ HB1.out.2).mono ?_
                rintro e w1 ⟨rfl, rfl⟩
                clear hS hW
                go_wp2
                go_ret
                exact ⟨rfl, HB1.out.1⟩
end Go.Proofs.YteafaglhlggknaaDoor
