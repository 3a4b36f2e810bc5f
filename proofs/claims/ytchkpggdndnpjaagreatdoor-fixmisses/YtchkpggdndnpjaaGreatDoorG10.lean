import Derived.Test.YtchkpggdndnpjaaGreatDoorG09

namespace Go.Proofs.YtchkpggdndnpjaaGreatDoor
set_option linter.unusedVariables false
set_option linter.unusedSimpArgs false
open Go.RowKit

set_option maxRecDepth 100000 in
set_option maxHeartbeats 8000000 in
theorem unfit_any (M : Msg) (B : Nat) (w : World) (h : MsgAt w B M) :
    Calls Tryz.prog 26 #[.pointer (some ⟨B, 0, none⟩)] w fun e w' => e = .returned (.int .i64 (fitN M)) ∧ ∃ q, w' = w.drewN q := by
  have HO := fun w' (hb : MsgAt w' B M) => unfitInOrder_any (M.z 24) (M.z 26) (M.z 27) (M.z 28) (M.z 29) (M.z 30) (M.z 25) (M.z 31) B w' (hb 24 (by decide)) (hb 26 (by decide)) (hb 27 (by decide)) (hb 28 (by decide)) (hb 29 (by decide)) (hb 30 (by decide)) (hb 25 (by decide)) (hb 31 (by decide))
  have HE := fun w' (hb : MsgAt w' B M) => unfitInExecution_any (M.z 34) (M.z 36) (M.z 37) (M.z 38) (M.z 39) (M.z 28) B w' (hb 34 (by decide)) (hb 36 (by decide)) (hb 37 (by decide)) (hb 38 (by decide)) (hb 39 (by decide)) (hb 28 (by decide))
  have c0 : w.cell? ⟨B, 0, none⟩ = some (.int .i64 (M.z 0)) := h 0 (by decide)
  have c4 : w.cell? ⟨B, 4, none⟩ = some (.bool (M.b 4)) := h 4 (by decide)
  have c6 : w.cell? ⟨B, 6, none⟩ = some (.int .i64 (M.z 6)) := h 6 (by decide)
  have c10 : w.cell? ⟨B, 10, none⟩ = some (.int .i64 (M.z 10)) := h 10 (by decide)
  have c11 : w.cell? ⟨B, 11, none⟩ = some (.int .i64 (M.z 11)) := h 11 (by decide)
  have HN : Hid (∀ q, MsgAt (w.drewN q) B M) := fun q => h
  clear h
  unfold fitN
  generalize ordN (M.z 24) (M.z 26) (M.z 27) (M.z 28) (M.z 29) (M.z 30) (M.z 25) (M.z 31) = O at *
  generalize exeN (M.z 34) (M.z 36) (M.z 37) (M.z 38) (M.z 39) (M.z 28) = E at *
  have HO2 : Hid (∀ q, _) := fun q => HO (w.drewN q) (HN.out q)
  have HE2 : Hid (∀ q, _) := fun q => HE (w.drewN q) (HN.out q)
  clear HO HE HN
  generalize M.z 0 = k at *
  generalize M.z 6 = ot at *
  generalize M.b 4 = dup at *
  generalize M.z 10 = bg at *
  generalize M.z 11 = en at *
  cases o0 : (ot != 0)
  · cases k3 : (k == 3)
    · cases k8 : (k == 8)
      · cases k13 : (k == 13)
        · have HV : Hid ((if ot != 0 && !dup then 122 else if k == 3 && (en != 0 && decide (en < bg)) then 16 else if k == 8 then O else if k == 13 then E else (0 : Int)) = 0) := by show (if ot != 0 && !dup then 122 else if k == 3 && (en != 0 && decide (en < bg)) then 16 else if k == 8 then O else if k == 13 then E else (0 : Int)) = _; simp [o0, k3, k8, k13]
          generalize (if ot != 0 && !dup then 122 else if k == 3 && (en != 0 && decide (en < bg)) then 16 else if k == 8 then O else if k == 13 then E else (0 : Int)) = RES at *
          go_enter Tryz.func26, Tryz.ntmps26
          go_wp2
          go_quiet (fail)
          go_wp2
          go_ret
          exact ⟨by first | exact ret_int HV.out.symm | exact ret_int rfl, _, rfl⟩
        · have HV : Hid ((if ot != 0 && !dup then 122 else if k == 3 && (en != 0 && decide (en < bg)) then 16 else if k == 8 then O else if k == 13 then E else (0 : Int)) = E) := by show (if ot != 0 && !dup then 122 else if k == 3 && (en != 0 && decide (en < bg)) then 16 else if k == 8 then O else if k == 13 then E else (0 : Int)) = _; simp [o0, k3, k8, k13]
          generalize (if ot != 0 && !dup then 122 else if k == 3 && (en != 0 && decide (en < bg)) then 16 else if k == 8 then O else if k == 13 then E else (0 : Int)) = RES at *
          go_enter Tryz.func26, Tryz.ntmps26
          go_wp2
          go_quiet (fail)
          go_wp2_with (go_at_call 104; refine (HE2.out _).mono ?_; rintro e w2 ⟨rfl, q2, rfl⟩)
          go_ret
          exact ⟨by first | exact ret_int HV.out.symm | exact ret_int rfl, _, rfl⟩
      · have HV : Hid ((if ot != 0 && !dup then 122 else if k == 3 && (en != 0 && decide (en < bg)) then 16 else if k == 8 then O else if k == 13 then E else (0 : Int)) = O) := by show (if ot != 0 && !dup then 122 else if k == 3 && (en != 0 && decide (en < bg)) then 16 else if k == 8 then O else if k == 13 then E else (0 : Int)) = _; simp [o0, k3, k8]
        generalize (if ot != 0 && !dup then 122 else if k == 3 && (en != 0 && decide (en < bg)) then 16 else if k == 8 then O else if k == 13 then E else (0 : Int)) = RES at *
        go_enter Tryz.func26, Tryz.ntmps26
        go_wp2
        go_quiet (fail)
        go_wp2_with (go_at_call 103; refine (HO2.out _).mono ?_; rintro e w2 ⟨rfl, q2, rfl⟩)
        go_ret
        exact ⟨by first | exact ret_int HV.out.symm | exact ret_int rfl, _, rfl⟩
    · obtain rfl : k = 3 := by simpa using k3
      cases n0 : (en != 0)
      · have HV : Hid ((if ot != 0 && !dup then 122 else if (3 : Int) == 3 && (en != 0 && decide (en < bg)) then 16 else if (3 : Int) == 8 then O else if (3 : Int) == 13 then E else (0 : Int)) = 0) := by show (if ot != 0 && !dup then 122 else if (3 : Int) == 3 && (en != 0 && decide (en < bg)) then 16 else if (3 : Int) == 8 then O else if (3 : Int) == 13 then E else (0 : Int)) = _; simp [o0, n0]
        generalize (if ot != 0 && !dup then 122 else if (3 : Int) == 3 && (en != 0 && decide (en < bg)) then 16 else if (3 : Int) == 8 then O else if (3 : Int) == 13 then E else (0 : Int)) = RES at *
        go_enter Tryz.func26, Tryz.ntmps26
        go_wp2
        go_quiet (fail)
        go_wp2
        go_ret
        exact ⟨by first | exact ret_int HV.out.symm | exact ret_int rfl, _, rfl⟩
      · cases l0 : decide (en < bg)
        · have HV : Hid ((if ot != 0 && !dup then 122 else if (3 : Int) == 3 && (en != 0 && decide (en < bg)) then 16 else if (3 : Int) == 8 then O else if (3 : Int) == 13 then E else (0 : Int)) = 0) := by show (if ot != 0 && !dup then 122 else if (3 : Int) == 3 && (en != 0 && decide (en < bg)) then 16 else if (3 : Int) == 8 then O else if (3 : Int) == 13 then E else (0 : Int)) = _; simp [o0, n0, l0]
          generalize (if ot != 0 && !dup then 122 else if (3 : Int) == 3 && (en != 0 && decide (en < bg)) then 16 else if (3 : Int) == 8 then O else if (3 : Int) == 13 then E else (0 : Int)) = RES at *
          go_enter Tryz.func26, Tryz.ntmps26
          go_wp2
          go_quiet (fail)
          go_wp2
          go_ret
          exact ⟨by first | exact ret_int HV.out.symm | exact ret_int rfl, _, rfl⟩
        · have HV : Hid ((if ot != 0 && !dup then 122 else if (3 : Int) == 3 && (en != 0 && decide (en < bg)) then 16 else if (3 : Int) == 8 then O else if (3 : Int) == 13 then E else (0 : Int)) = 16) := by show (if ot != 0 && !dup then 122 else if (3 : Int) == 3 && (en != 0 && decide (en < bg)) then 16 else if (3 : Int) == 8 then O else if (3 : Int) == 13 then E else (0 : Int)) = _; simp [o0, n0, l0]
          generalize (if ot != 0 && !dup then 122 else if (3 : Int) == 3 && (en != 0 && decide (en < bg)) then 16 else if (3 : Int) == 8 then O else if (3 : Int) == 13 then E else (0 : Int)) = RES at *
          go_enter Tryz.func26, Tryz.ntmps26
          go_wp2
          go_quiet (fail)
          go_wp2
          go_ret
          exact ⟨by first | exact ret_int HV.out.symm | exact ret_int rfl, _, rfl⟩
  · cases dup
    · have HV : Hid ((if ot != 0 && !false then 122 else if k == 3 && (en != 0 && decide (en < bg)) then 16 else if k == 8 then O else if k == 13 then E else (0 : Int)) = 122) := by show (if ot != 0 && !false then 122 else if k == 3 && (en != 0 && decide (en < bg)) then 16 else if k == 8 then O else if k == 13 then E else (0 : Int)) = _; simp [o0]
      generalize (if ot != 0 && !false then 122 else if k == 3 && (en != 0 && decide (en < bg)) then 16 else if k == 8 then O else if k == 13 then E else (0 : Int)) = RES at *
      go_enter Tryz.func26, Tryz.ntmps26
      go_wp2
      go_ret
      exact ⟨by first | exact ret_int HV.out.symm | exact ret_int rfl, 0, rfl⟩
    · cases k3 : (k == 3)
      · cases k8 : (k == 8)
        · cases k13 : (k == 13)
          · have HV : Hid ((if ot != 0 && !true then 122 else if k == 3 && (en != 0 && decide (en < bg)) then 16 else if k == 8 then O else if k == 13 then E else (0 : Int)) = 0) := by show (if ot != 0 && !true then 122 else if k == 3 && (en != 0 && decide (en < bg)) then 16 else if k == 8 then O else if k == 13 then E else (0 : Int)) = _; simp [o0, k3, k8, k13]
            generalize (if ot != 0 && !true then 122 else if k == 3 && (en != 0 && decide (en < bg)) then 16 else if k == 8 then O else if k == 13 then E else (0 : Int)) = RES at *
            go_enter Tryz.func26, Tryz.ntmps26
            go_wp2
            go_quiet (fail)
            go_wp2
            go_ret
            exact ⟨by first | exact ret_int HV.out.symm | exact ret_int rfl, _, rfl⟩
          · have HV : Hid ((if ot != 0 && !true then 122 else if k == 3 && (en != 0 && decide (en < bg)) then 16 else if k == 8 then O else if k == 13 then E else (0 : Int)) = E) := by show (if ot != 0 && !true then 122 else if k == 3 && (en != 0 && decide (en < bg)) then 16 else if k == 8 then O else if k == 13 then E else (0 : Int)) = _; simp [o0, k3, k8, k13]
            generalize (if ot != 0 && !true then 122 else if k == 3 && (en != 0 && decide (en < bg)) then 16 else if k == 8 then O else if k == 13 then E else (0 : Int)) = RES at *
            go_enter Tryz.func26, Tryz.ntmps26
            go_wp2
            go_quiet (fail)
            go_wp2_with (go_at_call 104; refine (HE2.out _).mono ?_; rintro e w2 ⟨rfl, q2, rfl⟩)
            go_ret
            exact ⟨by first | exact ret_int HV.out.symm | exact ret_int rfl, _, rfl⟩
        · have HV : Hid ((if ot != 0 && !true then 122 else if k == 3 && (en != 0 && decide (en < bg)) then 16 else if k == 8 then O else if k == 13 then E else (0 : Int)) = O) := by show (if ot != 0 && !true then 122 else if k == 3 && (en != 0 && decide (en < bg)) then 16 else if k == 8 then O else if k == 13 then E else (0 : Int)) = _; simp [o0, k3, k8]
          generalize (if ot != 0 && !true then 122 else if k == 3 && (en != 0 && decide (en < bg)) then 16 else if k == 8 then O else if k == 13 then E else (0 : Int)) = RES at *
          go_enter Tryz.func26, Tryz.ntmps26
          go_wp2
          go_quiet (fail)
          go_wp2_with (go_at_call 103; refine (HO2.out _).mono ?_; rintro e w2 ⟨rfl, q2, rfl⟩)
          go_ret
          exact ⟨by first | exact ret_int HV.out.symm | exact ret_int rfl, _, rfl⟩
      · obtain rfl : k = 3 := by simpa using k3
        cases n0 : (en != 0)
        · have HV : Hid ((if ot != 0 && !true then 122 else if (3 : Int) == 3 && (en != 0 && decide (en < bg)) then 16 else if (3 : Int) == 8 then O else if (3 : Int) == 13 then E else (0 : Int)) = 0) := by show (if ot != 0 && !true then 122 else if (3 : Int) == 3 && (en != 0 && decide (en < bg)) then 16 else if (3 : Int) == 8 then O else if (3 : Int) == 13 then E else (0 : Int)) = _; simp [o0, n0]
          generalize (if ot != 0 && !true then 122 else if (3 : Int) == 3 && (en != 0 && decide (en < bg)) then 16 else if (3 : Int) == 8 then O else if (3 : Int) == 13 then E else (0 : Int)) = RES at *
          go_enter Tryz.func26, Tryz.ntmps26
          go_wp2
          go_quiet (fail)
          go_wp2
          go_ret
          exact ⟨by first | exact ret_int HV.out.symm | exact ret_int rfl, _, rfl⟩
        · cases l0 : decide (en < bg)
          · have HV : Hid ((if ot != 0 && !true then 122 else if (3 : Int) == 3 && (en != 0 && decide (en < bg)) then 16 else if (3 : Int) == 8 then O else if (3 : Int) == 13 then E else (0 : Int)) = 0) := by show (if ot != 0 && !true then 122 else if (3 : Int) == 3 && (en != 0 && decide (en < bg)) then 16 else if (3 : Int) == 8 then O else if (3 : Int) == 13 then E else (0 : Int)) = _; simp [o0, n0, l0]
            generalize (if ot != 0 && !true then 122 else if (3 : Int) == 3 && (en != 0 && decide (en < bg)) then 16 else if (3 : Int) == 8 then O else if (3 : Int) == 13 then E else (0 : Int)) = RES at *
            go_enter Tryz.func26, Tryz.ntmps26
            go_wp2
            go_quiet (fail)
            go_wp2
            go_ret
            exact ⟨by first | exact ret_int HV.out.symm | exact ret_int rfl, _, rfl⟩
          · have HV : Hid ((if ot != 0 && !true then 122 else if (3 : Int) == 3 && (en != 0 && decide (en < bg)) then 16 else if (3 : Int) == 8 then O else if (3 : Int) == 13 then E else (0 : Int)) = 16) := by show (if ot != 0 && !true then 122 else if (3 : Int) == 3 && (en != 0 && decide (en < bg)) then 16 else if (3 : Int) == 8 then O else if (3 : Int) == 13 then E else (0 : Int)) = _; simp [o0, n0, l0]
            generalize (if ot != 0 && !true then 122 else if (3 : Int) == 3 && (en != 0 && decide (en < bg)) then 16 else if (3 : Int) == 8 then O else if (3 : Int) == 13 then E else (0 : Int)) = RES at *
            go_enter Tryz.func26, Tryz.ntmps26
            go_wp2
            go_quiet (fail)
            go_wp2
            go_ret
            exact ⟨by first | exact ret_int HV.out.symm | exact ret_int rfl, _, rfl⟩

end Go.Proofs.YtchkpggdndnpjaaGreatDoor
