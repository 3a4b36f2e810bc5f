/-
  DERIVED. GIVEN WITH THE SEED: THE CARDS: each row of YthadnogcocmfgaaGreatDoorRows.lean that lists a variable, with what it lists TIED to the program's text (the seventh form; the later family's looks); each row that meets fmt, with fmt's text TOLD by the authors' own Lean function (tested against real Go, not proved from fmt's source: count such statements apart). THE CARD IS WHAT COUNTS. Prove the row's statement (the work); the ties are given (YthadnogcocmfgaaGreatDoorTie.lean); close each card by the builder's one call (the guide's Derived/Test/ToyasCard.lean, 'card_holds'). Laid BY PROGRAM, IN A SANDBOX (cutbox-door.mjs). By AI agents, Wed Nov 11 2026. No macro, syntax, notation, axiom, sorry.
-/
import Derived.Test.YthadnogcocmfgaaGreatDoorRows
import GoSem.ClaimSeven
namespace Go.Proofs.YthadnogcocmfgaaGreatDoor
namespace Rows

/-- THE TIED CARD OF 'outcrylaw06.BinBack'. -/
def binBackCard : Claim7 := { stood := { row := binBackRow, standIns := [], harness := (true, "a53539fa5fb54fc1634a44b31326d0fccf16ea4ee3e522b6bf2bc96da4e6af45"), looks := true }, kinds := [], alts := [], laidByText := true, laidKinds := [.data], laidTests := true, laidLooks := .later }
def BinBackCardSaid : Prop := Claim7.holds Tryz.pinned (.plain (OpenSpec.ofChange binBackSpec)) binBackCard

/-- THE TIED CARD OF 'outcrylaw06.BinOneWay'. -/
def binOneWayCard : Claim7 := { stood := { row := binOneWayRow, standIns := [], harness := (true, "a53539fa5fb54fc1634a44b31326d0fccf16ea4ee3e522b6bf2bc96da4e6af45"), looks := true }, kinds := [], alts := [], laidByText := true, laidKinds := [.data], laidTests := true, laidLooks := .later }
def BinOneWayCardSaid : Prop := Claim7.holds Tryz.pinned (.plain (OpenSpec.ofChange binOneWaySpec)) binOneWayCard

/-- THE TIED CARD OF 'outcrylaw06.BinApart'. -/
def binApartCard : Claim7 := { stood := { row := binApartRow, standIns := [], harness := (true, "a53539fa5fb54fc1634a44b31326d0fccf16ea4ee3e522b6bf2bc96da4e6af45"), looks := true }, kinds := [], alts := [], laidByText := true, laidKinds := [.data], laidTests := true, laidLooks := .later }
def BinApartCardSaid : Prop := Claim7.holds Tryz.pinned (.plain (OpenSpec.ofChange binApartSpec)) binApartCard

/-- THE TIED CARD OF 'outcrylaw06.BinTurned'. -/
def binTurnedCard : Claim7 := { stood := { row := binTurnedRow, standIns := [], harness := (true, "a53539fa5fb54fc1634a44b31326d0fccf16ea4ee3e522b6bf2bc96da4e6af45"), looks := true }, kinds := [], alts := [], laidByText := true, laidKinds := [.data], laidTests := true, laidLooks := .later }
def BinTurnedCardSaid : Prop := Claim7.holds Tryz.pinned (.plain (OpenSpec.ofChange binTurnedSpec)) binTurnedCard

/-- THE TIED CARD OF 'outcrylaw06.BinEncodes'. -/
def binEncodesCard : Claim7 := { stood := { row := binEncodesRow, standIns := [], harness := (true, "a53539fa5fb54fc1634a44b31326d0fccf16ea4ee3e522b6bf2bc96da4e6af45"), looks := true }, kinds := [], alts := [], laidByText := true, laidKinds := [.data], laidTests := true, laidLooks := .later }
def BinEncodesCardSaid : Prop := Claim7.holds Tryz.pinned (.plain (OpenSpec.ofChange binEncodesSpec)) binEncodesCard

/-- THE TIED CARD OF 'outcrylaw06.BinDecodes'. -/
def binDecodesCard : Claim7 := { stood := { row := binDecodesRow, standIns := [], harness := (true, "a53539fa5fb54fc1634a44b31326d0fccf16ea4ee3e522b6bf2bc96da4e6af45"), looks := true }, kinds := [], alts := [], laidByText := true, laidKinds := [.data], laidTests := true, laidLooks := .later }
def BinDecodesCardSaid : Prop := Claim7.holds Tryz.pinned (.plain (OpenSpec.ofChange binDecodesSpec)) binDecodesCard

/-- THE SECOND FORM's CARD OF 'outcrylaw06.BinBack'. -/
def binBackUptoCard : Claim7 := { stood := { row := binBackUptoRow, standIns := [], harness := (true, "a53539fa5fb54fc1634a44b31326d0fccf16ea4ee3e522b6bf2bc96da4e6af45"), looks := true }, kinds := [], alts := [], laidByText := true, laidKinds := [.data], laidTests := true, laidLooks := .later }
def BinBackUptoCardSaid : Prop := Claim7.holds Tryz.pinned (.plain (OpenSpec.upto binBackSpec)) binBackUptoCard

/-- THE SECOND FORM's CARD OF 'outcrylaw06.BinOneWay'. -/
def binOneWayUptoCard : Claim7 := { stood := { row := binOneWayUptoRow, standIns := [], harness := (true, "a53539fa5fb54fc1634a44b31326d0fccf16ea4ee3e522b6bf2bc96da4e6af45"), looks := true }, kinds := [], alts := [], laidByText := true, laidKinds := [.data], laidTests := true, laidLooks := .later }
def BinOneWayUptoCardSaid : Prop := Claim7.holds Tryz.pinned (.plain (OpenSpec.upto binOneWaySpec)) binOneWayUptoCard

/-- THE SECOND FORM's CARD OF 'outcrylaw06.BinApart'. -/
def binApartUptoCard : Claim7 := { stood := { row := binApartUptoRow, standIns := [], harness := (true, "a53539fa5fb54fc1634a44b31326d0fccf16ea4ee3e522b6bf2bc96da4e6af45"), looks := true }, kinds := [], alts := [], laidByText := true, laidKinds := [.data], laidTests := true, laidLooks := .later }
def BinApartUptoCardSaid : Prop := Claim7.holds Tryz.pinned (.plain (OpenSpec.upto binApartSpec)) binApartUptoCard

/-- THE SECOND FORM's CARD OF 'outcrylaw06.BinTurned'. -/
def binTurnedUptoCard : Claim7 := { stood := { row := binTurnedUptoRow, standIns := [], harness := (true, "a53539fa5fb54fc1634a44b31326d0fccf16ea4ee3e522b6bf2bc96da4e6af45"), looks := true }, kinds := [], alts := [], laidByText := true, laidKinds := [.data], laidTests := true, laidLooks := .later }
def BinTurnedUptoCardSaid : Prop := Claim7.holds Tryz.pinned (.plain (OpenSpec.upto binTurnedSpec)) binTurnedUptoCard

/-- THE SECOND FORM's CARD OF 'outcrylaw06.BinEncodes'. -/
def binEncodesUptoCard : Claim7 := { stood := { row := binEncodesUptoRow, standIns := [], harness := (true, "a53539fa5fb54fc1634a44b31326d0fccf16ea4ee3e522b6bf2bc96da4e6af45"), looks := true }, kinds := [], alts := [], laidByText := true, laidKinds := [.data], laidTests := true, laidLooks := .later }
def BinEncodesUptoCardSaid : Prop := Claim7.holds Tryz.pinned (.plain (OpenSpec.upto binEncodesSpec)) binEncodesUptoCard

/-- THE SECOND FORM's CARD OF 'outcrylaw06.BinDecodes'. -/
def binDecodesUptoCard : Claim7 := { stood := { row := binDecodesUptoRow, standIns := [], harness := (true, "a53539fa5fb54fc1634a44b31326d0fccf16ea4ee3e522b6bf2bc96da4e6af45"), looks := true }, kinds := [], alts := [], laidByText := true, laidKinds := [.data], laidTests := true, laidLooks := .later }
def BinDecodesUptoCardSaid : Prop := Claim7.holds Tryz.pinned (.plain (OpenSpec.upto binDecodesSpec)) binDecodesUptoCard
end Rows
end Go.Proofs.YthadnogcocmfgaaGreatDoor
