import Derived.Test.YtchkpggdndnpjaaGreatDoorG08

namespace Go.Proofs.YtchkpggdndnpjaaGreatDoor
set_option linter.unusedVariables false
set_option linter.unusedSimpArgs false
open Go.RowKit

set_option maxRecDepth 100000 in
set_option maxHeartbeats 8000000 in
theorem unfitInExecution_any (ex lp lq left don qty : Int) (B : Nat) (w : World) (c34 : w.cell? ⟨B, 34, none⟩ = some (.int .i64 ex)) (c36 : w.cell? ⟨B, 36, none⟩ = some (.int .i64 lp)) (c37 : w.cell? ⟨B, 37, none⟩ = some (.int .i64 lq)) (c38 : w.cell? ⟨B, 38, none⟩ = some (.int .i64 left)) (c39 : w.cell? ⟨B, 39, none⟩ = some (.int .i64 don)) (c28 : w.cell? ⟨B, 28, none⟩ = some (.int .i64 qty)) :
    Calls Tryz.prog 104 #[.pointer (some ⟨B, 0, none⟩)] w fun e w' => e = .returned (.int .i64 (exeN ex lp lq left don qty)) ∧ ∃ q, w' = w.drewN q := by
  by_cases e0 : ex = 3
  · subst e0
    by_cases p0 : lp = 0
    · have p0b : (lp != 0) = false := by simp [p0]
      rw [show exeN 3 lp lq left don qty = 31 by simp [exeN, p0b]]
      go_enter Tryz.func104, Tryz.ntmps104
      go_wp2
      go_ret
      exact ⟨rfl, 0, rfl⟩
    · by_cases q0 : lq = 0
      · have p0b : (lp != 0) = true := by simp [p0]
        have q0b : (lq != 0) = false := by simp [q0]
        rw [show exeN 3 lp lq left don qty = 32 by simp [exeN, p0b, q0b]]
        go_enter Tryz.func104, Tryz.ntmps104
        go_wp2
        go_ret
        exact ⟨rfl, 0, rfl⟩
      · by_cases s0 : qty < wrap64 (left + don)
        · have p0b : (lp != 0) = true := by simp [p0]
          have q0b : (lq != 0) = true := by simp [q0]
          rw [show exeN 3 lp lq left don qty = 14 by simp [exeN, p0b, q0b, s0]]
          go_enter Tryz.func104, Tryz.ntmps104
          go_wp2
          go_quiet (fail)
          go_wp2
          go_ret
          exact ⟨rfl, _, rfl⟩
        · have p0b : (lp != 0) = true := by simp [p0]
          have q0b : (lq != 0) = true := by simp [q0]
          rw [show exeN 3 lp lq left don qty = 0 by simp [exeN, p0b, q0b, s0]]
          go_enter Tryz.func104, Tryz.ntmps104
          go_wp2
          go_quiet (fail)
          go_wp2
          go_ret
          exact ⟨rfl, _, rfl⟩
  · by_cases p0 : lp = 0
    · by_cases q0 : lq = 0
      · by_cases s0 : qty < wrap64 (left + don)
        · have e0b : (ex == 3) = false := by simp [e0]
          have p0b : (lp != 0) = false := by simp [p0]
          have q0b : (lq != 0) = false := by simp [q0]
          rw [show exeN ex lp lq left don qty = 14 by simp [exeN, e0b, p0b, q0b, s0]]
          go_enter Tryz.func104, Tryz.ntmps104
          go_wp2
          go_quiet (fail)
          go_wp2
          go_ret
          exact ⟨rfl, _, rfl⟩
        · have e0b : (ex == 3) = false := by simp [e0]
          have p0b : (lp != 0) = false := by simp [p0]
          have q0b : (lq != 0) = false := by simp [q0]
          rw [show exeN ex lp lq left don qty = 0 by simp [exeN, e0b, p0b, q0b, s0]]
          go_enter Tryz.func104, Tryz.ntmps104
          go_wp2
          go_quiet (fail)
          go_wp2
          go_ret
          exact ⟨rfl, _, rfl⟩
      · have e0b : (ex == 3) = false := by simp [e0]
        have p0b : (lp != 0) = false := by simp [p0]
        have q0b : (lq != 0) = true := by simp [q0]
        rw [show exeN ex lp lq left don qty = 32 by simp [exeN, e0b, p0b, q0b]]
        go_enter Tryz.func104, Tryz.ntmps104
        go_wp2
        go_ret
        exact ⟨rfl, 0, rfl⟩
    · have e0b : (ex == 3) = false := by simp [e0]
      have p0b : (lp != 0) = true := by simp [p0]
      rw [show exeN ex lp lq left don qty = 31 by simp [exeN, e0b, p0b]]
      go_enter Tryz.func104, Tryz.ntmps104
      go_wp2
      go_ret
      exact ⟨rfl, 0, rfl⟩

end Go.Proofs.YtchkpggdndnpjaaGreatDoor
