import Derived.Test.YtchkpggdndnpjabGreatDoorG03
import Derived.BigRegion

namespace Go.Proofs.YtchkpggdndnpjabGreatDoor
set_option linter.unusedVariables false
set_option linter.unusedSimpArgs false
open Go.RowKit

theorem dq2 (w : World) (a b : Nat) : ∃ q, (w.drewN a).drewN b = w.drewN q := ⟨_, World.drewN_drewN _ _ _⟩
theorem dq3 (w : World) (a b c : Nat) : ∃ q, ((w.drewN a).drewN b).drewN c = w.drewN q := ⟨_, by rw [World.drewN_drewN, World.drewN_drewN]⟩
def ordN (ty price stop qty shw least life til : Int) : Int :=
  if (ty == 1 || ty == 4) != (price != 0) then 44 else if (ty == 3 || ty == 4) != (stop != 0) then 99 else if qty < shw then 111 else if qty < least then 110 else if (life == 5) != (til != 0) then 432 else 0
set_option maxRecDepth 100000 in
set_option maxHeartbeats 8000000 in
theorem unfitInOrder_any (ty price stop qty shw least life til : Int) (B : Nat) (w : World) (c24 : w.cell? ⟨B, 24, none⟩ = some (.int .i64 ty)) (c26 : w.cell? ⟨B, 26, none⟩ = some (.int .i64 price)) (c27 : w.cell? ⟨B, 27, none⟩ = some (.int .i64 stop)) (c28 : w.cell? ⟨B, 28, none⟩ = some (.int .i64 qty)) (c29 : w.cell? ⟨B, 29, none⟩ = some (.int .i64 shw)) (c30 : w.cell? ⟨B, 30, none⟩ = some (.int .i64 least)) (c25 : w.cell? ⟨B, 25, none⟩ = some (.int .i64 life)) (c31 : w.cell? ⟨B, 31, none⟩ = some (.int .i64 til)) :
    Calls Tryz.prog 124 #[.pointer (some ⟨B, 0, none⟩)] w fun e w' => e = .returned (.int .i64 (ordN ty price stop qty shw least life til)) ∧ ∃ q, w' = w.drewN q := by
  by_cases t1 : ty = 1
  · subst t1
    by_cases p0 : price = 0
    · have p0b : (price != 0) = false := by simp [p0]
      rw [show ordN 1 price stop qty shw least life til = 44 by simp [ordN, p0b]]
      go_enter Tryz.func124, Tryz.ntmps124
      go_wp2
      go_ret
      exact ⟨rfl, 0, rfl⟩
    · by_cases s0 : stop = 0
      · by_cases g0 : qty < shw
        · have p0b : (price != 0) = true := by simp [p0]
          have s0b : (stop != 0) = false := by simp [s0]
          rw [show ordN 1 price stop qty shw least life til = 111 by simp [ordN, p0b, s0b, g0]]
          go_enter Tryz.func124, Tryz.ntmps124
          go_wp2
          go_quiet (fail)
          go_wp2
          go_ret
          exact ⟨rfl, _, rfl⟩
        · by_cases l0 : qty < least
          · have p0b : (price != 0) = true := by simp [p0]
            have s0b : (stop != 0) = false := by simp [s0]
            rw [show ordN 1 price stop qty shw least life til = 110 by simp [ordN, p0b, s0b, g0, l0]]
            go_enter Tryz.func124, Tryz.ntmps124
            go_wp2
            go_quiet (fail)
            go_wp2
            go_quiet (fail)
            go_wp2
            go_ret
            exact ⟨rfl, dq2 _ _ _⟩
          · by_cases f0 : life = 5
            · by_cases u0 : til = 0
              · have p0b : (price != 0) = true := by simp [p0]
                have s0b : (stop != 0) = false := by simp [s0]
                have f0b : (life == 5) = true := by simp [f0]
                have u0b : (til != 0) = false := by simp [u0]
                rw [show ordN 1 price stop qty shw least life til = 432 by simp [ordN, p0b, s0b, g0, l0, f0b, u0b]]
                go_enter Tryz.func124, Tryz.ntmps124
                go_wp2
                go_quiet (fail)
                go_wp2
                go_quiet (fail)
                go_wp2
                go_quiet (fail)
                go_wp2
                go_ret
                exact ⟨rfl, dq3 _ _ _ _⟩
              · have p0b : (price != 0) = true := by simp [p0]
                have s0b : (stop != 0) = false := by simp [s0]
                have f0b : (life == 5) = true := by simp [f0]
                have u0b : (til != 0) = true := by simp [u0]
                rw [show ordN 1 price stop qty shw least life til = 0 by simp [ordN, p0b, s0b, g0, l0, f0b, u0b]]
                go_enter Tryz.func124, Tryz.ntmps124
                go_wp2
                go_quiet (fail)
                go_wp2
                go_quiet (fail)
                go_wp2
                go_quiet (fail)
                go_wp2
                go_ret
                exact ⟨rfl, dq3 _ _ _ _⟩
            · by_cases u0 : til = 0
              · have p0b : (price != 0) = true := by simp [p0]
                have s0b : (stop != 0) = false := by simp [s0]
                have f0b : (life == 5) = false := by simp [f0]
                have u0b : (til != 0) = false := by simp [u0]
                rw [show ordN 1 price stop qty shw least life til = 0 by simp [ordN, p0b, s0b, g0, l0, f0b, u0b]]
                go_enter Tryz.func124, Tryz.ntmps124
                go_wp2
                go_quiet (fail)
                go_wp2
                go_quiet (fail)
                go_wp2
                go_quiet (fail)
                go_wp2
                go_ret
                exact ⟨rfl, dq3 _ _ _ _⟩
              · have p0b : (price != 0) = true := by simp [p0]
                have s0b : (stop != 0) = false := by simp [s0]
                have f0b : (life == 5) = false := by simp [f0]
                have u0b : (til != 0) = true := by simp [u0]
                rw [show ordN 1 price stop qty shw least life til = 432 by simp [ordN, p0b, s0b, g0, l0, f0b, u0b]]
                go_enter Tryz.func124, Tryz.ntmps124
                go_wp2
                go_quiet (fail)
                go_wp2
                go_quiet (fail)
                go_wp2
                go_quiet (fail)
                go_wp2
                go_ret
                exact ⟨rfl, dq3 _ _ _ _⟩
      · have p0b : (price != 0) = true := by simp [p0]
        have s0b : (stop != 0) = true := by simp [s0]
        rw [show ordN 1 price stop qty shw least life til = 99 by simp [ordN, p0b, s0b]]
        go_enter Tryz.func124, Tryz.ntmps124
        go_wp2
        go_ret
        exact ⟨rfl, 0, rfl⟩
  · by_cases t3 : ty = 3
    · subst t3
      by_cases p0 : price = 0
      · by_cases s0 : stop = 0
        · have p0b : (price != 0) = false := by simp [p0]
          have s0b : (stop != 0) = false := by simp [s0]
          rw [show ordN 3 price stop qty shw least life til = 99 by simp [ordN, p0b, s0b]]
          go_enter Tryz.func124, Tryz.ntmps124
          go_wp2
          go_ret
          exact ⟨rfl, 0, rfl⟩
        · by_cases g0 : qty < shw
          · have p0b : (price != 0) = false := by simp [p0]
            have s0b : (stop != 0) = true := by simp [s0]
            rw [show ordN 3 price stop qty shw least life til = 111 by simp [ordN, p0b, s0b, g0]]
            go_enter Tryz.func124, Tryz.ntmps124
            go_wp2
            go_quiet (fail)
            go_wp2
            go_ret
            exact ⟨rfl, _, rfl⟩
          · by_cases l0 : qty < least
            · have p0b : (price != 0) = false := by simp [p0]
              have s0b : (stop != 0) = true := by simp [s0]
              rw [show ordN 3 price stop qty shw least life til = 110 by simp [ordN, p0b, s0b, g0, l0]]
              go_enter Tryz.func124, Tryz.ntmps124
              go_wp2
              go_quiet (fail)
              go_wp2
              go_quiet (fail)
              go_wp2
              go_ret
              exact ⟨rfl, dq2 _ _ _⟩
            · by_cases f0 : life = 5
              · by_cases u0 : til = 0
                · have p0b : (price != 0) = false := by simp [p0]
                  have s0b : (stop != 0) = true := by simp [s0]
                  have f0b : (life == 5) = true := by simp [f0]
                  have u0b : (til != 0) = false := by simp [u0]
                  rw [show ordN 3 price stop qty shw least life til = 432 by simp [ordN, p0b, s0b, g0, l0, f0b, u0b]]
                  go_enter Tryz.func124, Tryz.ntmps124
                  go_wp2
                  go_quiet (fail)
                  go_wp2
                  go_quiet (fail)
                  go_wp2
                  go_quiet (fail)
                  go_wp2
                  go_ret
                  exact ⟨rfl, dq3 _ _ _ _⟩
                · have p0b : (price != 0) = false := by simp [p0]
                  have s0b : (stop != 0) = true := by simp [s0]
                  have f0b : (life == 5) = true := by simp [f0]
                  have u0b : (til != 0) = true := by simp [u0]
                  rw [show ordN 3 price stop qty shw least life til = 0 by simp [ordN, p0b, s0b, g0, l0, f0b, u0b]]
                  go_enter Tryz.func124, Tryz.ntmps124
                  go_wp2
                  go_quiet (fail)
                  go_wp2
                  go_quiet (fail)
                  go_wp2
                  go_quiet (fail)
                  go_wp2
                  go_ret
                  exact ⟨rfl, dq3 _ _ _ _⟩
              · by_cases u0 : til = 0
                · have p0b : (price != 0) = false := by simp [p0]
                  have s0b : (stop != 0) = true := by simp [s0]
                  have f0b : (life == 5) = false := by simp [f0]
                  have u0b : (til != 0) = false := by simp [u0]
                  rw [show ordN 3 price stop qty shw least life til = 0 by simp [ordN, p0b, s0b, g0, l0, f0b, u0b]]
                  go_enter Tryz.func124, Tryz.ntmps124
                  go_wp2
                  go_quiet (fail)
                  go_wp2
                  go_quiet (fail)
                  go_wp2
                  go_quiet (fail)
                  go_wp2
                  go_ret
                  exact ⟨rfl, dq3 _ _ _ _⟩
                · have p0b : (price != 0) = false := by simp [p0]
                  have s0b : (stop != 0) = true := by simp [s0]
                  have f0b : (life == 5) = false := by simp [f0]
                  have u0b : (til != 0) = true := by simp [u0]
                  rw [show ordN 3 price stop qty shw least life til = 432 by simp [ordN, p0b, s0b, g0, l0, f0b, u0b]]
                  go_enter Tryz.func124, Tryz.ntmps124
                  go_wp2
                  go_quiet (fail)
                  go_wp2
                  go_quiet (fail)
                  go_wp2
                  go_quiet (fail)
                  go_wp2
                  go_ret
                  exact ⟨rfl, dq3 _ _ _ _⟩
      · have p0b : (price != 0) = true := by simp [p0]
        rw [show ordN 3 price stop qty shw least life til = 44 by simp [ordN, p0b]]
        go_enter Tryz.func124, Tryz.ntmps124
        go_wp2
        go_ret
        exact ⟨rfl, 0, rfl⟩
    · by_cases t4 : ty = 4
      · subst t4
        by_cases p0 : price = 0
        · have p0b : (price != 0) = false := by simp [p0]
          rw [show ordN 4 price stop qty shw least life til = 44 by simp [ordN, p0b]]
          go_enter Tryz.func124, Tryz.ntmps124
          go_wp2
          go_ret
          exact ⟨rfl, 0, rfl⟩
        · by_cases s0 : stop = 0
          · have p0b : (price != 0) = true := by simp [p0]
            have s0b : (stop != 0) = false := by simp [s0]
            rw [show ordN 4 price stop qty shw least life til = 99 by simp [ordN, p0b, s0b]]
            go_enter Tryz.func124, Tryz.ntmps124
            go_wp2
            go_ret
            exact ⟨rfl, 0, rfl⟩
          · by_cases g0 : qty < shw
            · have p0b : (price != 0) = true := by simp [p0]
              have s0b : (stop != 0) = true := by simp [s0]
              rw [show ordN 4 price stop qty shw least life til = 111 by simp [ordN, p0b, s0b, g0]]
              go_enter Tryz.func124, Tryz.ntmps124
              go_wp2
              go_quiet (fail)
              go_wp2
              go_ret
              exact ⟨rfl, _, rfl⟩
            · by_cases l0 : qty < least
              · have p0b : (price != 0) = true := by simp [p0]
                have s0b : (stop != 0) = true := by simp [s0]
                rw [show ordN 4 price stop qty shw least life til = 110 by simp [ordN, p0b, s0b, g0, l0]]
                go_enter Tryz.func124, Tryz.ntmps124
                go_wp2
                go_quiet (fail)
                go_wp2
                go_quiet (fail)
                go_wp2
                go_ret
                exact ⟨rfl, dq2 _ _ _⟩
              · by_cases f0 : life = 5
                · by_cases u0 : til = 0
                  · have p0b : (price != 0) = true := by simp [p0]
                    have s0b : (stop != 0) = true := by simp [s0]
                    have f0b : (life == 5) = true := by simp [f0]
                    have u0b : (til != 0) = false := by simp [u0]
                    rw [show ordN 4 price stop qty shw least life til = 432 by simp [ordN, p0b, s0b, g0, l0, f0b, u0b]]
                    go_enter Tryz.func124, Tryz.ntmps124
                    go_wp2
                    go_quiet (fail)
                    go_wp2
                    go_quiet (fail)
                    go_wp2
                    go_quiet (fail)
                    go_wp2
                    go_ret
                    exact ⟨rfl, dq3 _ _ _ _⟩
                  · have p0b : (price != 0) = true := by simp [p0]
                    have s0b : (stop != 0) = true := by simp [s0]
                    have f0b : (life == 5) = true := by simp [f0]
                    have u0b : (til != 0) = true := by simp [u0]
                    rw [show ordN 4 price stop qty shw least life til = 0 by simp [ordN, p0b, s0b, g0, l0, f0b, u0b]]
                    go_enter Tryz.func124, Tryz.ntmps124
                    go_wp2
                    go_quiet (fail)
                    go_wp2
                    go_quiet (fail)
                    go_wp2
                    go_quiet (fail)
                    go_wp2
                    go_ret
                    exact ⟨rfl, dq3 _ _ _ _⟩
                · by_cases u0 : til = 0
                  · have p0b : (price != 0) = true := by simp [p0]
                    have s0b : (stop != 0) = true := by simp [s0]
                    have f0b : (life == 5) = false := by simp [f0]
                    have u0b : (til != 0) = false := by simp [u0]
                    rw [show ordN 4 price stop qty shw least life til = 0 by simp [ordN, p0b, s0b, g0, l0, f0b, u0b]]
                    go_enter Tryz.func124, Tryz.ntmps124
                    go_wp2
                    go_quiet (fail)
                    go_wp2
                    go_quiet (fail)
                    go_wp2
                    go_quiet (fail)
                    go_wp2
                    go_ret
                    exact ⟨rfl, dq3 _ _ _ _⟩
                  · have p0b : (price != 0) = true := by simp [p0]
                    have s0b : (stop != 0) = true := by simp [s0]
                    have f0b : (life == 5) = false := by simp [f0]
                    have u0b : (til != 0) = true := by simp [u0]
                    rw [show ordN 4 price stop qty shw least life til = 432 by simp [ordN, p0b, s0b, g0, l0, f0b, u0b]]
                    go_enter Tryz.func124, Tryz.ntmps124
                    go_wp2
                    go_quiet (fail)
                    go_wp2
                    go_quiet (fail)
                    go_wp2
                    go_quiet (fail)
                    go_wp2
                    go_ret
                    exact ⟨rfl, dq3 _ _ _ _⟩
      · by_cases p0 : price = 0
        · by_cases s0 : stop = 0
          · by_cases g0 : qty < shw
            · have t1b : (ty == 1) = false := by simp [t1]
              have t3b : (ty == 3) = false := by simp [t3]
              have t4b : (ty == 4) = false := by simp [t4]
              have p0b : (price != 0) = false := by simp [p0]
              have s0b : (stop != 0) = false := by simp [s0]
              rw [show ordN ty price stop qty shw least life til = 111 by simp [ordN, t1b, t3b, t4b, p0b, s0b, g0]]
              go_enter Tryz.func124, Tryz.ntmps124
              go_wp2
              go_quiet (fail)
              go_wp2
              go_ret
              exact ⟨rfl, _, rfl⟩
            · by_cases l0 : qty < least
              · have t1b : (ty == 1) = false := by simp [t1]
                have t3b : (ty == 3) = false := by simp [t3]
                have t4b : (ty == 4) = false := by simp [t4]
                have p0b : (price != 0) = false := by simp [p0]
                have s0b : (stop != 0) = false := by simp [s0]
                rw [show ordN ty price stop qty shw least life til = 110 by simp [ordN, t1b, t3b, t4b, p0b, s0b, g0, l0]]
                go_enter Tryz.func124, Tryz.ntmps124
                go_wp2
                go_quiet (fail)
                go_wp2
                go_quiet (fail)
                go_wp2
                go_ret
                exact ⟨rfl, dq2 _ _ _⟩
              · by_cases f0 : life = 5
                · by_cases u0 : til = 0
                  · have t1b : (ty == 1) = false := by simp [t1]
                    have t3b : (ty == 3) = false := by simp [t3]
                    have t4b : (ty == 4) = false := by simp [t4]
                    have p0b : (price != 0) = false := by simp [p0]
                    have s0b : (stop != 0) = false := by simp [s0]
                    have f0b : (life == 5) = true := by simp [f0]
                    have u0b : (til != 0) = false := by simp [u0]
                    rw [show ordN ty price stop qty shw least life til = 432 by simp [ordN, t1b, t3b, t4b, p0b, s0b, g0, l0, f0b, u0b]]
                    go_enter Tryz.func124, Tryz.ntmps124
                    go_wp2
                    go_quiet (fail)
                    go_wp2
                    go_quiet (fail)
                    go_wp2
                    go_quiet (fail)
                    go_wp2
                    go_ret
                    exact ⟨rfl, dq3 _ _ _ _⟩
                  · have t1b : (ty == 1) = false := by simp [t1]
                    have t3b : (ty == 3) = false := by simp [t3]
                    have t4b : (ty == 4) = false := by simp [t4]
                    have p0b : (price != 0) = false := by simp [p0]
                    have s0b : (stop != 0) = false := by simp [s0]
                    have f0b : (life == 5) = true := by simp [f0]
                    have u0b : (til != 0) = true := by simp [u0]
                    rw [show ordN ty price stop qty shw least life til = 0 by simp [ordN, t1b, t3b, t4b, p0b, s0b, g0, l0, f0b, u0b]]
                    go_enter Tryz.func124, Tryz.ntmps124
                    go_wp2
                    go_quiet (fail)
                    go_wp2
                    go_quiet (fail)
                    go_wp2
                    go_quiet (fail)
                    go_wp2
                    go_ret
                    exact ⟨rfl, dq3 _ _ _ _⟩
                · by_cases u0 : til = 0
                  · have t1b : (ty == 1) = false := by simp [t1]
                    have t3b : (ty == 3) = false := by simp [t3]
                    have t4b : (ty == 4) = false := by simp [t4]
                    have p0b : (price != 0) = false := by simp [p0]
                    have s0b : (stop != 0) = false := by simp [s0]
                    have f0b : (life == 5) = false := by simp [f0]
                    have u0b : (til != 0) = false := by simp [u0]
                    rw [show ordN ty price stop qty shw least life til = 0 by simp [ordN, t1b, t3b, t4b, p0b, s0b, g0, l0, f0b, u0b]]
                    go_enter Tryz.func124, Tryz.ntmps124
                    go_wp2
                    go_quiet (fail)
                    go_wp2
                    go_quiet (fail)
                    go_wp2
                    go_quiet (fail)
                    go_wp2
                    go_ret
                    exact ⟨rfl, dq3 _ _ _ _⟩
                  · have t1b : (ty == 1) = false := by simp [t1]
                    have t3b : (ty == 3) = false := by simp [t3]
                    have t4b : (ty == 4) = false := by simp [t4]
                    have p0b : (price != 0) = false := by simp [p0]
                    have s0b : (stop != 0) = false := by simp [s0]
                    have f0b : (life == 5) = false := by simp [f0]
                    have u0b : (til != 0) = true := by simp [u0]
                    rw [show ordN ty price stop qty shw least life til = 432 by simp [ordN, t1b, t3b, t4b, p0b, s0b, g0, l0, f0b, u0b]]
                    go_enter Tryz.func124, Tryz.ntmps124
                    go_wp2
                    go_quiet (fail)
                    go_wp2
                    go_quiet (fail)
                    go_wp2
                    go_quiet (fail)
                    go_wp2
                    go_ret
                    exact ⟨rfl, dq3 _ _ _ _⟩
          · have t1b : (ty == 1) = false := by simp [t1]
            have t3b : (ty == 3) = false := by simp [t3]
            have t4b : (ty == 4) = false := by simp [t4]
            have p0b : (price != 0) = false := by simp [p0]
            have s0b : (stop != 0) = true := by simp [s0]
            rw [show ordN ty price stop qty shw least life til = 99 by simp [ordN, t1b, t3b, t4b, p0b, s0b]]
            go_enter Tryz.func124, Tryz.ntmps124
            go_wp2
            go_ret
            exact ⟨rfl, 0, rfl⟩
        · have t1b : (ty == 1) = false := by simp [t1]
          have t3b : (ty == 3) = false := by simp [t3]
          have t4b : (ty == 4) = false := by simp [t4]
          have p0b : (price != 0) = true := by simp [p0]
          rw [show ordN ty price stop qty shw least life til = 44 by simp [ordN, t1b, t3b, t4b, p0b]]
          go_enter Tryz.func124, Tryz.ntmps124
          go_wp2
          go_ret
          exact ⟨rfl, 0, rfl⟩
def exeN (ex lp lq left don qty : Int) : Int :=
  if (ex == 3) != (lp != 0) then 31 else if (ex == 3) != (lq != 0) then 32 else if qty < wrap64 (left + don) then 14 else 0
def fitN (M : Msg) : Int :=
  if M.z 6 != 0 && !M.b 4 then 122 else if M.z 0 == 3 && (M.z 11 != 0 && decide (M.z 11 < M.z 10)) then 16 else
  if M.z 0 == 8 then ordN (M.z 24) (M.z 26) (M.z 27) (M.z 28) (M.z 29) (M.z 30) (M.z 25) (M.z 31) else
  if M.z 0 == 13 then exeN (M.z 34) (M.z 36) (M.z 37) (M.z 38) (M.z 39) (M.z 28) else 0

end Go.Proofs.YtchkpggdndnpjabGreatDoor
