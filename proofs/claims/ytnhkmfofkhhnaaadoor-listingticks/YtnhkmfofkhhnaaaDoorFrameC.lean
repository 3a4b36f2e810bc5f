/-
  What all rows of the seat want: the table that the rows list, in the walks' words and in the witness.
-/
import Derived.Test.YtnhkmfofkhhnaaaDoorRows
import Derived.Test.YtnhkmfofkhhnaaaDoorTie
import Derived.Test.YtnhkmfofkhhnaaaDoorCards
import Derived.Test.YtnhkmfofkhhnaaaDoorDays
import Derived.ProofKit
import Derived.LaidMore
import Derived.Lay
import Derived.OpenShut
import Derived.ShutString
import Derived.Stop.Joined
import Derived.Stop.LaidErr
import Derived.SevenTiedAt
import Derived.ChangeOld
import Derived.Below
namespace Go.Proofs.YtnhkmfofkhhnaaaDoor
set_option linter.unusedVariables false
open Go.ChangeShapes Go.WideShapes Go.ChangeAt Go.RowKit

theorem own : ownKnob Tryd.prog.godebug = none := by kernel_rfl
theorem laidOut : laidOutB Tryd.prog = true := by kernel_rfl
/-- The list that every row of the seat bears. -/
abbrev tabs : List (String × DataW Unit) := [("outcry/clock.monthDays", Rows.laid_outcry_clock_monthDays)]
theorem mon_data : (Rows.laid_outcry_clock_monthDays : DataW Unit) = Lib.tabData .i64 monTab := by kernel_rfl
theorem gMon : Tryd.prog.globalNamed "outcry/clock.monthDays" = some 0 := by kernel_rfl
theorem tMon : (Tryd.prog.globals[0]?).map (·.type) = some 101 := by kernel_rfl
theorem tab_of {W : World} (h : laidMetH Tryd.prog tabs W) : Mon W := by
  rw [MakeChecks.laidMetH_plain _ _ _ (by kernel_rfl)] at h
  have h2 : laidMet Tryd.prog [("outcry/clock.monthDays", Rows.laid_outcry_clock_monthDays)] W := h
  rw [mon_data] at h2
  have t := Lib.tabIs_of_head gMon tMon Tryd.underlying101 Tryd.underlying3 (by kernel_rfl) (by kernel_rfl) h2
  exact fun k hk => t.cell gMon k hk
theorem tabs_met (os : Os) (args : Array Value) : laidMetH Tryd.prog tabs ((World.laidAll Tryd.prog os tabs).forCall (fun _ _ => 0) ⟨#[], args, []⟩).memory := by
  rw [MakeChecks.laidMetH_plain _ _ _ (by kernel_rfl)]
  exact laidMet_laidAll _ (by kernel_rfl) (by kernel_rfl)
theorem tabs_shaped (os : Os) (args : Array Value) : ((World.laidAll Tryd.prog os tabs).forCall (fun _ _ => 0) ⟨#[], args, []⟩).Shaped Tryd.prog :=
  World.shaped_of_ZipB (by kernel_rfl) (by kernel_rfl)
end Go.Proofs.YtnhkmfofkhhnaaaDoor
