/-
  DERIVED. GIVEN WITH THE SEED: THE CARDS: each row of YteafaglhlggknabDoorRows.lean that lists a variable, with what it lists TIED to the program's text (the seventh form; the later family's looks); each row that meets fmt, with fmt's text TOLD by the authors' own Lean function (tested against real Go, not proved from fmt's source: count such statements apart). THE CARD IS WHAT COUNTS. Prove the row's statement (the work); the ties are given (YteafaglhlggknabDoorTie.lean); close each card by the builder's one call (the guide's Derived/Test/ToyasCard.lean, 'card_holds'). Laid BY PROGRAM, IN A SANDBOX (cutbox-door.mjs). By AI agents, Wed Nov 11 2026. No macro, syntax, notation, axiom, sorry.
-/
import Derived.Test.YteafaglhlggknabDoorRows
import GoSem.ClaimSeven
namespace Go.Proofs.YteafaglhlggknabDoor
namespace Rows

/-- THE TIED CARD OF 'outcrylaw02.ClockStamps'. -/
def clockStampsCard : Claim7 := { stood := { row := clockStampsRow, standIns := [], harness := (true, "40edce6750cb94cbd2bda385c85fb9af99749dc0bfe896a93460db9716856639"), looks := false }, kinds := [], alts := [], laidByText := true, laidKinds := [.data], laidTests := true, laidLooks := .later }
def ClockStampsCardSaid : Prop := Claim7.holds Tryd.pinned (.plain (OpenSpec.ofChange clockStampsSpec)) clockStampsCard

/-- THE TIED CARD OF 'outcrylaw02.ClockTrades'. -/
def clockTradesCard : Claim7 := { stood := { row := clockTradesRow, standIns := [], harness := (true, "40edce6750cb94cbd2bda385c85fb9af99749dc0bfe896a93460db9716856639"), looks := false }, kinds := [], alts := [], laidByText := true, laidKinds := [.data], laidTests := true, laidLooks := .later }
def ClockTradesCardSaid : Prop := Claim7.holds Tryd.pinned (.plain (OpenSpec.ofChange clockTradesSpec)) clockTradesCard

/-- THE SECOND FORM's CARD OF 'outcrylaw02.ClockStamps'. -/
def clockStampsUptoCard : Claim7 := { stood := { row := clockStampsUptoRow, standIns := [], harness := (true, "40edce6750cb94cbd2bda385c85fb9af99749dc0bfe896a93460db9716856639"), looks := false }, kinds := [], alts := [], laidByText := true, laidKinds := [.data], laidTests := true, laidLooks := .later }
def ClockStampsUptoCardSaid : Prop := Claim7.holds Tryd.pinned (.plain (OpenSpec.upto clockStampsSpec)) clockStampsUptoCard

/-- THE SECOND FORM's CARD OF 'outcrylaw02.ClockTrades'. -/
def clockTradesUptoCard : Claim7 := { stood := { row := clockTradesUptoRow, standIns := [], harness := (true, "40edce6750cb94cbd2bda385c85fb9af99749dc0bfe896a93460db9716856639"), looks := false }, kinds := [], alts := [], laidByText := true, laidKinds := [.data], laidTests := true, laidLooks := .later }
def ClockTradesUptoCardSaid : Prop := Claim7.holds Tryd.pinned (.plain (OpenSpec.upto clockTradesSpec)) clockTradesUptoCard
end Rows
end Go.Proofs.YteafaglhlggknabDoor
