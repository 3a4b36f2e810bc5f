/-
  DERIVED. GIVEN WITH THE SEED: THE CARDS: each row of YtchkpggdndnpjabGreatDoorRows.lean that lists a variable, with what it lists TIED to the program's text (the seventh form; the later family's looks); each row that meets fmt, with fmt's text TOLD by the authors' own Lean function (tested against real Go, not proved from fmt's source: count such statements apart). THE CARD IS WHAT COUNTS. Prove the row's statement (the work); the ties are given (YtchkpggdndnpjabGreatDoorTie.lean); close each card by the builder's one call (the guide's Derived/Test/ToyasCard.lean, 'card_holds'). Laid BY PROGRAM, IN A SANDBOX (cutbox-door.mjs). By AI agents, Wed Nov 11 2026. No macro, syntax, notation, axiom, sorry.
-/
import Derived.Test.YtchkpggdndnpjabGreatDoorRows
import GoSem.ClaimSeven
namespace Go.Proofs.YtchkpggdndnpjabGreatDoor
namespace Rows

/-- THE TIED CARD OF 'outcrylaw05.FixEncodes'. -/
def fixEncodesCard : Claim7 := { stood := { row := fixEncodesRow, standIns := [], harness := (true, "9f149abaf2a13db5773e503a943e7e78c66a1c9945dd0a23d2f51184027c9c55"), looks := true }, kinds := [], alts := [], laidByText := true, laidKinds := [.data, .data, .data, .handle, .data], laidTests := true, laidLooks := .later }
def FixEncodesCardSaid : Prop := Claim7.holds Tryz.pinned (.plain (OpenSpec.ofChange fixEncodesSpec)) fixEncodesCard

/-- THE TIED CARD OF 'outcrylaw05.FixDecodes'. -/
def fixDecodesCard : Claim7 := { stood := { row := fixDecodesRow, standIns := [], harness := (true, "9f149abaf2a13db5773e503a943e7e78c66a1c9945dd0a23d2f51184027c9c55"), looks := true }, kinds := [], alts := [], laidByText := true, laidKinds := [.data, .data, .data, .handle, .data], laidTests := true, laidLooks := .later }
def FixDecodesCardSaid : Prop := Claim7.holds Tryz.pinned (.plain (OpenSpec.ofChange fixDecodesSpec)) fixDecodesCard

/-- THE TIED CARD OF 'outcrylaw05.FixFields'. -/
def fixFieldsCard : Claim7 := { stood := { row := fixFieldsRow, standIns := [], harness := (true, "9f149abaf2a13db5773e503a943e7e78c66a1c9945dd0a23d2f51184027c9c55"), looks := true }, kinds := [], alts := [], laidByText := true, laidKinds := [.data, .data, .data, .handle, .data], laidTests := true, laidLooks := .later }
def FixFieldsCardSaid : Prop := Claim7.holds Tryz.pinned (.plain (OpenSpec.ofChange fixFieldsSpec)) fixFieldsCard

/-- THE SECOND FORM's CARD OF 'outcrylaw05.FixEncodes'. -/
def fixEncodesUptoCard : Claim7 := { stood := { row := fixEncodesUptoRow, standIns := [], harness := (true, "9f149abaf2a13db5773e503a943e7e78c66a1c9945dd0a23d2f51184027c9c55"), looks := true }, kinds := [], alts := [], laidByText := true, laidKinds := [.data, .data, .data, .handle, .data], laidTests := true, laidLooks := .later }
def FixEncodesUptoCardSaid : Prop := Claim7.holds Tryz.pinned (.plain (OpenSpec.upto fixEncodesSpec)) fixEncodesUptoCard

/-- THE SECOND FORM's CARD OF 'outcrylaw05.FixDecodes'. -/
def fixDecodesUptoCard : Claim7 := { stood := { row := fixDecodesUptoRow, standIns := [], harness := (true, "9f149abaf2a13db5773e503a943e7e78c66a1c9945dd0a23d2f51184027c9c55"), looks := true }, kinds := [], alts := [], laidByText := true, laidKinds := [.data, .data, .data, .handle, .data], laidTests := true, laidLooks := .later }
def FixDecodesUptoCardSaid : Prop := Claim7.holds Tryz.pinned (.plain (OpenSpec.upto fixDecodesSpec)) fixDecodesUptoCard

/-- THE SECOND FORM's CARD OF 'outcrylaw05.FixFields'. -/
def fixFieldsUptoCard : Claim7 := { stood := { row := fixFieldsUptoRow, standIns := [], harness := (true, "9f149abaf2a13db5773e503a943e7e78c66a1c9945dd0a23d2f51184027c9c55"), looks := true }, kinds := [], alts := [], laidByText := true, laidKinds := [.data, .data, .data, .handle, .data], laidTests := true, laidLooks := .later }
def FixFieldsUptoCardSaid : Prop := Claim7.holds Tryz.pinned (.plain (OpenSpec.upto fixFieldsSpec)) fixFieldsUptoCard
end Rows
end Go.Proofs.YtchkpggdndnpjabGreatDoor
