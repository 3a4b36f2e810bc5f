import Derived.Test.YtchkpggdndnpjabGreatDoorG06
import Derived.Test.YtchkpggdndnpjabGreatDoorG05
import Derived.Deep.DeepCutAuto
import Derived.Laws.EntriesVeiled

namespace Go.Proofs.YtchkpggdndnpjabGreatDoor
set_option linter.unusedVariables false
set_option linter.unusedSimpArgs false
open Go.RowKit

set_option maxRecDepth 100000 in
set_option maxHeartbeats 8000000 in
theorem unfitInExecution_any (ex lp lq left don qty : Int) (B : Nat) (w : World) (c34 : w.cell? ⟨B, 34, none⟩ = some (.int .i64 ex)) (c36 : w.cell? ⟨B, 36, none⟩ = some (.int .i64 lp)) (c37 : w.cell? ⟨B, 37, none⟩ = some (.int .i64 lq)) (c38 : w.cell? ⟨B, 38, none⟩ = some (.int .i64 left)) (c39 : w.cell? ⟨B, 39, none⟩ = some (.int .i64 don)) (c28 : w.cell? ⟨B, 28, none⟩ = some (.int .i64 qty)) :
    Calls Tryz.prog 125 #[.pointer (some ⟨B, 0, none⟩)] w fun e w' => e = .returned (.int .i64 (exeN ex lp lq left don qty)) ∧ ∃ q, w' = w.drewN q := by
  by_cases e0 : ex = 3
  · subst e0
    by_cases p0 : lp = 0
    · have p0b : (lp != 0) = false := by simp [p0]
      rw [show exeN 3 lp lq left don qty = 31 by simp [exeN, p0b]]
      go_enter Tryz.func125, Tryz.ntmps125
      go_wp2
      go_ret
      exact ⟨rfl, 0, rfl⟩
    · by_cases q0 : lq = 0
      · have p0b : (lp != 0) = true := by simp [p0]
        have q0b : (lq != 0) = false := by simp [q0]
        rw [show exeN 3 lp lq left don qty = 32 by simp [exeN, p0b, q0b]]
        go_enter Tryz.func125, Tryz.ntmps125
        go_wp2
        go_ret
        exact ⟨rfl, 0, rfl⟩
      · by_cases s0 : qty < wrap64 (left + don)
        · have p0b : (lp != 0) = true := by simp [p0]
          have q0b : (lq != 0) = true := by simp [q0]
          rw [show exeN 3 lp lq left don qty = 14 by simp [exeN, p0b, q0b, s0]]
          go_enter Tryz.func125, Tryz.ntmps125
          go_wp2
          go_quiet (fail)
          go_wp2
          go_ret
          exact ⟨rfl, _, rfl⟩
        · have p0b : (lp != 0) = true := by simp [p0]
          have q0b : (lq != 0) = true := by simp [q0]
          rw [show exeN 3 lp lq left don qty = 0 by simp [exeN, p0b, q0b, s0]]
          go_enter Tryz.func125, Tryz.ntmps125
          go_wp2
          go_quiet (fail)
          go_wp2
          go_ret
          exact ⟨rfl, _, rfl⟩
  · by_cases p0 : lp = 0
    · by_cases q0 : lq = 0
      · by_cases s0 : qty < wrap64 (left + don)
        · have e0b : (ex == 3) = false := by simp [e0]
          have p0b : (lp != 0) = false := by simp [p0]
          have q0b : (lq != 0) = false := by simp [q0]
          rw [show exeN ex lp lq left don qty = 14 by simp [exeN, e0b, p0b, q0b, s0]]
          go_enter Tryz.func125, Tryz.ntmps125
          go_wp2
          go_quiet (fail)
          go_wp2
          go_ret
          exact ⟨rfl, _, rfl⟩
        · have e0b : (ex == 3) = false := by simp [e0]
          have p0b : (lp != 0) = false := by simp [p0]
          have q0b : (lq != 0) = false := by simp [q0]
          rw [show exeN ex lp lq left don qty = 0 by simp [exeN, e0b, p0b, q0b, s0]]
          go_enter Tryz.func125, Tryz.ntmps125
          go_wp2
          go_quiet (fail)
          go_wp2
          go_ret
          exact ⟨rfl, _, rfl⟩
      · have e0b : (ex == 3) = false := by simp [e0]
        have p0b : (lp != 0) = false := by simp [p0]
        have q0b : (lq != 0) = true := by simp [q0]
        rw [show exeN ex lp lq left don qty = 32 by simp [exeN, e0b, p0b, q0b]]
        go_enter Tryz.func125, Tryz.ntmps125
        go_wp2
        go_ret
        exact ⟨rfl, 0, rfl⟩
    · have e0b : (ex == 3) = false := by simp [e0]
      have p0b : (lp != 0) = true := by simp [p0]
      rw [show exeN ex lp lq left don qty = 31 by simp [exeN, e0b, p0b]]
      go_enter Tryz.func125, Tryz.ntmps125
      go_wp2
      go_ret
      exact ⟨rfl, 0, rfl⟩

end Go.Proofs.YtchkpggdndnpjabGreatDoor

namespace Go.Proofs.YtchkpggdndnpjabGreatDoor
set_option linter.unusedVariables false
set_option linter.unusedSimpArgs false
open Go.RowKit

set_option maxRecDepth 100000 in
set_option maxHeartbeats 8000000 in
theorem unfit_any (M : Msg) (B : Nat) (w : World) (h : MsgAt w B M) :
    Calls Tryz.prog 34 #[.pointer (some ⟨B, 0, none⟩)] w fun e w' => e = .returned (.int .i64 (fitN M)) ∧ ∃ q, w' = w.drewN q := by
  have HO := fun w' (hb : MsgAt w' B M) => unfitInOrder_any (M.z 24) (M.z 26) (M.z 27) (M.z 28) (M.z 29) (M.z 30) (M.z 25) (M.z 31) B w' (hb 24 (by decide)) (hb 26 (by decide)) (hb 27 (by decide)) (hb 28 (by decide)) (hb 29 (by decide)) (hb 30 (by decide)) (hb 25 (by decide)) (hb 31 (by decide))
  have HE := fun w' (hb : MsgAt w' B M) => unfitInExecution_any (M.z 34) (M.z 36) (M.z 37) (M.z 38) (M.z 39) (M.z 28) B w' (hb 34 (by decide)) (hb 36 (by decide)) (hb 37 (by decide)) (hb 38 (by decide)) (hb 39 (by decide)) (hb 28 (by decide))
  have c0 : w.cell? ⟨B, 0, none⟩ = some (.int .i64 (M.z 0)) := h 0 (by decide)
  have c4 : w.cell? ⟨B, 4, none⟩ = some (.bool (M.b 4)) := h 4 (by decide)
  have c6 : w.cell? ⟨B, 6, none⟩ = some (.int .i64 (M.z 6)) := h 6 (by decide)
  have c10 : w.cell? ⟨B, 10, none⟩ = some (.int .i64 (M.z 10)) := h 10 (by decide)
  have c11 : w.cell? ⟨B, 11, none⟩ = some (.int .i64 (M.z 11)) := h 11 (by decide)
  have HN : Hid (∀ q, MsgAt (w.drewN q) B M) := fun q => h
  clear h
  unfold fitN
  generalize ordN (M.z 24) (M.z 26) (M.z 27) (M.z 28) (M.z 29) (M.z 30) (M.z 25) (M.z 31) = O at *
  generalize exeN (M.z 34) (M.z 36) (M.z 37) (M.z 38) (M.z 39) (M.z 28) = E at *
  have HO2 : Hid (∀ q, _) := fun q => HO (w.drewN q) (HN.out q)
  have HE2 : Hid (∀ q, _) := fun q => HE (w.drewN q) (HN.out q)
  clear HO HE HN
  generalize M.z 0 = k at *
  generalize M.z 6 = ot at *
  generalize M.b 4 = dup at *
  generalize M.z 10 = bg at *
  generalize M.z 11 = en at *
  cases o0 : (ot != 0)
  · cases k3 : (k == 3)
    · cases k8 : (k == 8)
      · cases k13 : (k == 13)
        · have HV : Hid ((if ot != 0 && !dup then 122 else if k == 3 && (en != 0 && decide (en < bg)) then 16 else if k == 8 then O else if k == 13 then E else (0 : Int)) = 0) := by show (if ot != 0 && !dup then 122 else if k == 3 && (en != 0 && decide (en < bg)) then 16 else if k == 8 then O else if k == 13 then E else (0 : Int)) = _; simp [o0, k3, k8, k13]
          generalize (if ot != 0 && !dup then 122 else if k == 3 && (en != 0 && decide (en < bg)) then 16 else if k == 8 then O else if k == 13 then E else (0 : Int)) = RES at *
          go_enter Tryz.func34, Tryz.ntmps34
          go_wp2
          go_quiet (fail)
          go_wp2
          go_ret
          exact ⟨by first | exact ret_int HV.out.symm | exact ret_int rfl, _, rfl⟩
        · have HV : Hid ((if ot != 0 && !dup then 122 else if k == 3 && (en != 0 && decide (en < bg)) then 16 else if k == 8 then O else if k == 13 then E else (0 : Int)) = E) := by show (if ot != 0 && !dup then 122 else if k == 3 && (en != 0 && decide (en < bg)) then 16 else if k == 8 then O else if k == 13 then E else (0 : Int)) = _; simp [o0, k3, k8, k13]
          generalize (if ot != 0 && !dup then 122 else if k == 3 && (en != 0 && decide (en < bg)) then 16 else if k == 8 then O else if k == 13 then E else (0 : Int)) = RES at *
          go_enter Tryz.func34, Tryz.ntmps34
          go_wp2
          go_quiet (fail)
          go_wp2_with (go_at_call 125; refine (HE2.out _).mono ?_; rintro e w2 ⟨rfl, q2, rfl⟩)
          go_ret
          exact ⟨by first | exact ret_int HV.out.symm | exact ret_int rfl, _, rfl⟩
      · have HV : Hid ((if ot != 0 && !dup then 122 else if k == 3 && (en != 0 && decide (en < bg)) then 16 else if k == 8 then O else if k == 13 then E else (0 : Int)) = O) := by show (if ot != 0 && !dup then 122 else if k == 3 && (en != 0 && decide (en < bg)) then 16 else if k == 8 then O else if k == 13 then E else (0 : Int)) = _; simp [o0, k3, k8]
        generalize (if ot != 0 && !dup then 122 else if k == 3 && (en != 0 && decide (en < bg)) then 16 else if k == 8 then O else if k == 13 then E else (0 : Int)) = RES at *
        go_enter Tryz.func34, Tryz.ntmps34
        go_wp2
        go_quiet (fail)
        go_wp2_with (go_at_call 124; refine (HO2.out _).mono ?_; rintro e w2 ⟨rfl, q2, rfl⟩)
        go_ret
        exact ⟨by first | exact ret_int HV.out.symm | exact ret_int rfl, _, rfl⟩
    · obtain rfl : k = 3 := by simpa using k3
      cases n0 : (en != 0)
      · have HV : Hid ((if ot != 0 && !dup then 122 else if (3 : Int) == 3 && (en != 0 && decide (en < bg)) then 16 else if (3 : Int) == 8 then O else if (3 : Int) == 13 then E else (0 : Int)) = 0) := by show (if ot != 0 && !dup then 122 else if (3 : Int) == 3 && (en != 0 && decide (en < bg)) then 16 else if (3 : Int) == 8 then O else if (3 : Int) == 13 then E else (0 : Int)) = _; simp [o0, n0]
        generalize (if ot != 0 && !dup then 122 else if (3 : Int) == 3 && (en != 0 && decide (en < bg)) then 16 else if (3 : Int) == 8 then O else if (3 : Int) == 13 then E else (0 : Int)) = RES at *
        go_enter Tryz.func34, Tryz.ntmps34
        go_wp2
        go_quiet (fail)
        go_wp2
        go_ret
        exact ⟨by first | exact ret_int HV.out.symm | exact ret_int rfl, _, rfl⟩
      · cases l0 : decide (en < bg)
        · have HV : Hid ((if ot != 0 && !dup then 122 else if (3 : Int) == 3 && (en != 0 && decide (en < bg)) then 16 else if (3 : Int) == 8 then O else if (3 : Int) == 13 then E else (0 : Int)) = 0) := by show (if ot != 0 && !dup then 122 else if (3 : Int) == 3 && (en != 0 && decide (en < bg)) then 16 else if (3 : Int) == 8 then O else if (3 : Int) == 13 then E else (0 : Int)) = _; simp [o0, n0, l0]
          generalize (if ot != 0 && !dup then 122 else if (3 : Int) == 3 && (en != 0 && decide (en < bg)) then 16 else if (3 : Int) == 8 then O else if (3 : Int) == 13 then E else (0 : Int)) = RES at *
          go_enter Tryz.func34, Tryz.ntmps34
          go_wp2
          go_quiet (fail)
          go_wp2
          go_ret
          exact ⟨by first | exact ret_int HV.out.symm | exact ret_int rfl, _, rfl⟩
        · have HV : Hid ((if ot != 0 && !dup then 122 else if (3 : Int) == 3 && (en != 0 && decide (en < bg)) then 16 else if (3 : Int) == 8 then O else if (3 : Int) == 13 then E else (0 : Int)) = 16) := by show (if ot != 0 && !dup then 122 else if (3 : Int) == 3 && (en != 0 && decide (en < bg)) then 16 else if (3 : Int) == 8 then O else if (3 : Int) == 13 then E else (0 : Int)) = _; simp [o0, n0, l0]
          generalize (if ot != 0 && !dup then 122 else if (3 : Int) == 3 && (en != 0 && decide (en < bg)) then 16 else if (3 : Int) == 8 then O else if (3 : Int) == 13 then E else (0 : Int)) = RES at *
          go_enter Tryz.func34, Tryz.ntmps34
          go_wp2
          go_quiet (fail)
          go_wp2
          go_ret
          exact ⟨by first | exact ret_int HV.out.symm | exact ret_int rfl, _, rfl⟩
  · cases dup
    · have HV : Hid ((if ot != 0 && !false then 122 else if k == 3 && (en != 0 && decide (en < bg)) then 16 else if k == 8 then O else if k == 13 then E else (0 : Int)) = 122) := by show (if ot != 0 && !false then 122 else if k == 3 && (en != 0 && decide (en < bg)) then 16 else if k == 8 then O else if k == 13 then E else (0 : Int)) = _; simp [o0]
      generalize (if ot != 0 && !false then 122 else if k == 3 && (en != 0 && decide (en < bg)) then 16 else if k == 8 then O else if k == 13 then E else (0 : Int)) = RES at *
      go_enter Tryz.func34, Tryz.ntmps34
      go_wp2
      go_ret
      exact ⟨by first | exact ret_int HV.out.symm | exact ret_int rfl, 0, rfl⟩
    · cases k3 : (k == 3)
      · cases k8 : (k == 8)
        · cases k13 : (k == 13)
          · have HV : Hid ((if ot != 0 && !true then 122 else if k == 3 && (en != 0 && decide (en < bg)) then 16 else if k == 8 then O else if k == 13 then E else (0 : Int)) = 0) := by show (if ot != 0 && !true then 122 else if k == 3 && (en != 0 && decide (en < bg)) then 16 else if k == 8 then O else if k == 13 then E else (0 : Int)) = _; simp [o0, k3, k8, k13]
            generalize (if ot != 0 && !true then 122 else if k == 3 && (en != 0 && decide (en < bg)) then 16 else if k == 8 then O else if k == 13 then E else (0 : Int)) = RES at *
            go_enter Tryz.func34, Tryz.ntmps34
            go_wp2
            go_quiet (fail)
            go_wp2
            go_ret
            exact ⟨by first | exact ret_int HV.out.symm | exact ret_int rfl, _, rfl⟩
          · have HV : Hid ((if ot != 0 && !true then 122 else if k == 3 && (en != 0 && decide (en < bg)) then 16 else if k == 8 then O else if k == 13 then E else (0 : Int)) = E) := by show (if ot != 0 && !true then 122 else if k == 3 && (en != 0 && decide (en < bg)) then 16 else if k == 8 then O else if k == 13 then E else (0 : Int)) = _; simp [o0, k3, k8, k13]
            generalize (if ot != 0 && !true then 122 else if k == 3 && (en != 0 && decide (en < bg)) then 16 else if k == 8 then O else if k == 13 then E else (0 : Int)) = RES at *
            go_enter Tryz.func34, Tryz.ntmps34
            go_wp2
            go_quiet (fail)
            go_wp2_with (go_at_call 125; refine (HE2.out _).mono ?_; rintro e w2 ⟨rfl, q2, rfl⟩)
            go_ret
            exact ⟨by first | exact ret_int HV.out.symm | exact ret_int rfl, _, rfl⟩
        · have HV : Hid ((if ot != 0 && !true then 122 else if k == 3 && (en != 0 && decide (en < bg)) then 16 else if k == 8 then O else if k == 13 then E else (0 : Int)) = O) := by show (if ot != 0 && !true then 122 else if k == 3 && (en != 0 && decide (en < bg)) then 16 else if k == 8 then O else if k == 13 then E else (0 : Int)) = _; simp [o0, k3, k8]
          generalize (if ot != 0 && !true then 122 else if k == 3 && (en != 0 && decide (en < bg)) then 16 else if k == 8 then O else if k == 13 then E else (0 : Int)) = RES at *
          go_enter Tryz.func34, Tryz.ntmps34
          go_wp2
          go_quiet (fail)
          go_wp2_with (go_at_call 124; refine (HO2.out _).mono ?_; rintro e w2 ⟨rfl, q2, rfl⟩)
          go_ret
          exact ⟨by first | exact ret_int HV.out.symm | exact ret_int rfl, _, rfl⟩
      · obtain rfl : k = 3 := by simpa using k3
        cases n0 : (en != 0)
        · have HV : Hid ((if ot != 0 && !true then 122 else if (3 : Int) == 3 && (en != 0 && decide (en < bg)) then 16 else if (3 : Int) == 8 then O else if (3 : Int) == 13 then E else (0 : Int)) = 0) := by show (if ot != 0 && !true then 122 else if (3 : Int) == 3 && (en != 0 && decide (en < bg)) then 16 else if (3 : Int) == 8 then O else if (3 : Int) == 13 then E else (0 : Int)) = _; simp [o0, n0]
          generalize (if ot != 0 && !true then 122 else if (3 : Int) == 3 && (en != 0 && decide (en < bg)) then 16 else if (3 : Int) == 8 then O else if (3 : Int) == 13 then E else (0 : Int)) = RES at *
          go_enter Tryz.func34, Tryz.ntmps34
          go_wp2
          go_quiet (fail)
          go_wp2
          go_ret
          exact ⟨by first | exact ret_int HV.out.symm | exact ret_int rfl, _, rfl⟩
        · cases l0 : decide (en < bg)
          · have HV : Hid ((if ot != 0 && !true then 122 else if (3 : Int) == 3 && (en != 0 && decide (en < bg)) then 16 else if (3 : Int) == 8 then O else if (3 : Int) == 13 then E else (0 : Int)) = 0) := by show (if ot != 0 && !true then 122 else if (3 : Int) == 3 && (en != 0 && decide (en < bg)) then 16 else if (3 : Int) == 8 then O else if (3 : Int) == 13 then E else (0 : Int)) = _; simp [o0, n0, l0]
            generalize (if ot != 0 && !true then 122 else if (3 : Int) == 3 && (en != 0 && decide (en < bg)) then 16 else if (3 : Int) == 8 then O else if (3 : Int) == 13 then E else (0 : Int)) = RES at *
            go_enter Tryz.func34, Tryz.ntmps34
            go_wp2
            go_quiet (fail)
            go_wp2
            go_ret
            exact ⟨by first | exact ret_int HV.out.symm | exact ret_int rfl, _, rfl⟩
          · have HV : Hid ((if ot != 0 && !true then 122 else if (3 : Int) == 3 && (en != 0 && decide (en < bg)) then 16 else if (3 : Int) == 8 then O else if (3 : Int) == 13 then E else (0 : Int)) = 16) := by show (if ot != 0 && !true then 122 else if (3 : Int) == 3 && (en != 0 && decide (en < bg)) then 16 else if (3 : Int) == 8 then O else if (3 : Int) == 13 then E else (0 : Int)) = _; simp [o0, n0, l0]
            generalize (if ot != 0 && !true then 122 else if (3 : Int) == 3 && (en != 0 && decide (en < bg)) then 16 else if (3 : Int) == 8 then O else if (3 : Int) == 13 then E else (0 : Int)) = RES at *
            go_enter Tryz.func34, Tryz.ntmps34
            go_wp2
            go_quiet (fail)
            go_wp2
            go_ret
            exact ⟨by first | exact ret_int HV.out.symm | exact ret_int rfl, _, rfl⟩

end Go.Proofs.YtchkpggdndnpjabGreatDoor

namespace Go.Proofs.YtchkpggdndnpjabGreatDoor
set_option linter.unusedVariables false
open Go.RowKit

def Msg.cs (M : Msg) : Array Value := ((List.range 42).map M.cell).toArray
theorem Msg.cs_size (M : Msg) : M.cs.size = 42 := by simp [Msg.cs]
theorem Msg.cs_get (M : Msg) (k : Nat) (hk : k < 42) : M.cs[k]? = some (M.cell k) := by simp [Msg.cs, hk]
def Msg.okS (M : Msg) : Prop := ∀ i, (M.s i).size ≤ maxLen
theorem msgAt_alloc (M : Msg) (w : World) : MsgAt (w.alloc (.cells M.cs 23)) w.heap.size M := fun k hk => by
  rw [cell_of_row _ _ _ _ _ _ (heap_alloc_new w _)]
  exact M.cs_get k hk
/-- The first row that is wrong. -/
def firstErr (M : Msg) : Option Nat := (List.range 42).find? fun j => errAt M j != 0
def valE (M : Msg) : Int := if isK (M.z 0) then match firstErr M with | some j => errAt M j | none => if fitN M = 0 then 0 else 31 else 30
def valN (M : Msg) : Int := if isK (M.z 0) then match firstErr M with | some j => tNum.getD j 0 | none => fitN M else 35
theorem firstErr_some {M : Msg} {k : Nat} (hk : k < 42) (h : ∀ j, j < k → errAt M j = 0) (he : errAt M k ≠ 0) : firstErr M = some k := by
  unfold firstErr
  rw [List.find?_range_eq_some]
  exact ⟨by simp [he], by simpa using hk, fun j hj => by simp [h j hj]⟩
theorem firstErr_none {M : Msg} (h : ∀ j, j < 42 → errAt M j = 0) : firstErr M = none := by
  unfold firstErr
  rw [List.find?_range_eq_none]
  exact fun j hj => by simp [h j hj]
set_option maxRecDepth 100000 in
set_option maxHeartbeats 1000000 in
theorem Valid_any (M : Msg) (w : World) (hM : Mon w) (hz : M.ok) :
    Calls Tryz.prog 13 #[.agg M.cs] w fun e w' => e = .returned (.tuple #[.int .i64 (valE M), .int .i64 (valN M)]) ∧ Below w.heap.size w w' := by
  have HA := msgAt_alloc M w
  have hB : Below w.heap.size w (w.alloc (.cells M.cs 23)) := (Below.refl _ w).alloc (Nat.le_refl _) _
  go_enter Tryz.func13, Tryz.ntmps13
  go_upto_region 1 with fail
  generalize w.alloc (Obj.cells M.cs 23) = w1 at *
  have hlt := HA.lt
  have hg : 2 < w.heap.size := hM.lt
  have hM1 : Mon w1 := hM.below hB hg
  have c0 : w1.cell? ⟨w.heap.size, 0, none⟩ = some (.int .i64 (M.z 0)) := HA 0 (by decide)
  have hc := isKind_any (M.z 0) w1
  have HFit : Hid (∀ w', MsgAt w' w.heap.size M → _) := fun w' h => unfit_any M w.heap.size w' h
  generalize hBB : w.heap.size = B at *
  have HMt : Hid (MsgAt w1 B M ∧ Mon w1 ∧ 2 < w1.heap.size ∧ M.ok ∧ Below B w w1 ∧ B < w1.heap.size) := ⟨HA, hM1, Nat.lt_trans hg hlt, hz, hB, hlt⟩
  have HBB : Hid (w.heap.size = B) := hBB
  clear HA hM1 hz hB hlt hg hM hBB
  cases hK : isK (M.z 0)
  · rw [hK] at hc
    have e1 : valE M = 30 := by simp [valE, hK]
    have e2 : valN M = 35 := by simp [valN, hK]
    have HE : Hid (valE M = 30 ∧ valN M = 35) := ⟨e1, e2⟩
    clear e1 e2 hK HFit
    go_wp2_with (go_at_call 31; refine hc.mono ?_; rintro e w1 ⟨rfl, rfl⟩)
    go_ret2
    exact ⟨ret2 (vint HE.out.1.symm) (vint HE.out.2.symm), by rw [HBB.out]; exact HMt.out.2.2.2.2.1⟩
  · rw [hK] at hc
    have HK : Hid (isK (M.z 0) = true) := hK
    clear hK
    go_wp2_with (first | (go_at_call 31; refine hc.mono ?_; rintro e w1 ⟨rfl, rfl⟩) | (go_at_call 32; refine (rows_any _).mono ?_; rintro e w2 ⟨rfl, hb2⟩))
    have HB2 : Hid (Below w1.heap.size w1 w2) := hb2
    clear hb2 hc c0
    go_loopw [5, 6, 13] (fun x5 x6 i wr => ∃ k : Nat, k ≤ 42 ∧ i = .int .i64 k ∧ Hid (∀ j, j < k → errAt M j = 0) ∧ Hid (Below w1.heap.size w1 wr)) (fun _ _ i _ => 42 - (intOf i).toNat)
    case atStart => exact ⟨0, by omega, rfl, fun j hj => by omega, HB2⟩
    case round =>
      obtain ⟨k, hk, rfl, he, hb⟩ := hrel
      by_cases hlt : k < 42
      · have hlt' : (k : Int) < 42 := by omega
        have hx := index_at k hlt
        have HCk : Hid (∀ w', Below w1.heap.size w1 w' → _) := fun w' hb' => check_at M k hlt B w' (HMt.out.2.1.below hb' HMt.out.2.2.1) (Nat.lt_of_lt_of_le HMt.out.2.2.1 hb'.size) HMt.out.2.2.2.1 (HMt.out.1.below hb' HMt.out.2.2.2.2.2) HK.out
        have HR : Hid (errAt M k ≠ 0 → valE M = errAt M k ∧ valN M = tNum.getD k 0) := fun hne => by
          have hf := firstErr_some hlt he.out hne
          simp [valE, valN, HK.out, hf]
        have HR2 : Hid (errAt M k = 0 → ∀ j, j < k + 1 → errAt M j = 0) := fun h0 j hj => by
          by_cases hjk : j = k
          · rw [hjk, h0]
          · exact he.out j (by omega)
        generalize rowsCs.toArray = RC at *
        generalize tNum.getD k 0 = n at *
        generalize tMust.getD k 0 = mu at *
        generalize tMay.getD k 0 = ma at *
        generalize tOz.getD k false = oz at *
        generalize tFn.getD k 0 = f at *
        clear he
        go_wp2_with (go_at_call 33; fail)
        have hb1 : Below w1.heap.size w1 (wr.alloc (Obj.cells #[.int .i64 n, .int .u32 mu, .int .u32 ma, .bool oz, .func (.func f) #[] #[]] 77)) := hb.out.alloc (hb.out.size) _
        refine (HCk.out _ hb1).mono ?_
        rintro e w3 ⟨rfl, hb3⟩
        have hcn : w3.cell? ⟨wr.heap.size, 0, none⟩ = some (.int .i64 n) := by
          rw [hb3.cell (p := ⟨wr.heap.size, 0, none⟩) (by show wr.heap.size < (wr.alloc _).heap.size; simp)]
          rw [cell_of_row _ _ _ _ _ _ (heap_alloc_new wr _)]
          rfl
        have HB3 : Hid (Below w1.heap.size w1 w3) := hb1.trans (hb3.mono hb1.size)
        clear hb hb1 hb3 HCk hx
        generalize wr.heap.size = G at *
        by_cases h0 : errAt M k = 0
        · have HR3 : Hid (∀ j, j < k + 1 → errAt M j = 0) := HR2.out h0
          clear HR HR2
          generalize errAt M k = ee at *
          subst h0
          go_wp2
          go_roundw
          case rel => exact ⟨k + 1, by omega, by go_num, HR3, HB3⟩
          case measure => simp [intOf]; omega
        · have HR3 : Hid (valE M = errAt M k ∧ valN M = n) := HR.out h0
          clear HR HR2
          generalize errAt M k = ee at *
          have h0b : (ee != 0) = true := by simp [h0]
          go_wp2
          go_quiet (fail)
          go_wp2
          go_ret2
          exact ⟨ret2 (vint HR3.out.1.symm) (vint HR3.out.2.symm), by rw [HBB.out]; exact below_drewN (HMt.out.2.2.2.2.1.trans (HB3.out.mono (Nat.le_of_lt HMt.out.2.2.2.2.2))) _⟩
      · obtain rfl : k = 42 := by omega
        have hu := HFit.out wr (HMt.out.1.below hb.out HMt.out.2.2.2.2.2)
        have HR : Hid (valE M = (if fitN M = 0 then 0 else 31) ∧ valN M = fitN M) := by
          have hf := firstErr_none he.out
          show valE M = _ ∧ valN M = _
          simp [valE, valN, HK.out, hf]
        have HB3 : Hid (Below w.heap.size w wr) := by show Below w.heap.size w wr; rw [HBB.out]; exact HMt.out.2.2.2.2.1.trans (hb.out.mono (Nat.le_of_lt HMt.out.2.2.2.2.2))
        clear hb he HFit
        generalize rowsCs.toArray = RC at *
        generalize fitN M = fn at *
        by_cases h0 : fn = 0
        · subst h0
          go_wp2_with (go_at_call 34; refine hu.mono ?_; rintro e w4 ⟨rfl, q4, rfl⟩)
          go_ret2
          exact ⟨ret2 (vint (by rw [HR.out.1]; rfl)) (vint HR.out.2.symm), below_drewN HB3.out _⟩
        · have h0b : (fn != 0) = true := by simp [h0]
          go_wp2_with (go_at_call 34; refine hu.mono ?_; rintro e w4 ⟨rfl, q4, rfl⟩)
          go_ret2
          exact ⟨ret2 (vint (by rw [HR.out.1, if_neg h0])) (vint HR.out.2.symm), below_drewN HB3.out _⟩

end Go.Proofs.YtchkpggdndnpjabGreatDoor
