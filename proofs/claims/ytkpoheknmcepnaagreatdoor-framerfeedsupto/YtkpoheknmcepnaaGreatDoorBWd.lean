/-
  bin: the places' widths.
-/
import Derived.Test.YtkpoheknmcepnaaGreatDoorMsgTab
namespace Go.Proofs.YtkpoheknmcepnaaGreatDoor
set_option linter.unusedVariables false
open Go.RowKit

/-- How many bytes the fields' places have. -/
def wdL : List Nat := [1, 12, 12, 4, 1, 8, 8, 2, 1, 20, 4, 4, 4, 1, 4, 1, 2, 2, 60, 20, 20, 12, 8, 1, 1, 1, 4, 4, 4, 4, 4, 4, 4, 4, 1, 1, 4, 4, 4, 4, 1, 4]
def wd (j : Nat) : Nat := wdL.getD j 0
end Go.Proofs.YtkpoheknmcepnaaGreatDoor
