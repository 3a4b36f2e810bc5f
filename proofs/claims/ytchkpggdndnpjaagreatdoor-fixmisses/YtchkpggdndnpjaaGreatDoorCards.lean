/-
  DERIVED. GIVEN WITH THE SEED: THE CARDS: each row of YtchkpggdndnpjaaGreatDoorRows.lean that lists a variable, with what it lists TIED to the program's text (the seventh form; the later family's looks); each row that meets fmt, with fmt's text TOLD by the authors' own Lean function (tested against real Go, not proved from fmt's source: count such statements apart). THE CARD IS WHAT COUNTS. Prove the row's statement (the work); the ties are given (YtchkpggdndnpjaaGreatDoorTie.lean); close each card by the builder's one call (the guide's Derived/Test/ToyasCard.lean, 'card_holds'). Laid BY PROGRAM, IN A SANDBOX (cutbox-door.mjs). By AI agents, Wed Nov 11 2026. No macro, syntax, notation, axiom, sorry.
-/
import Derived.Test.YtchkpggdndnpjaaGreatDoorRows
import GoSem.ClaimSeven
namespace Go.Proofs.YtchkpggdndnpjaaGreatDoor
namespace Rows

/-- THE TIED CARD OF 'outcrylaw05.FixTakes'. -/
def fixTakesCard : Claim7 := { stood := { row := fixTakesRow, standIns := [], harness := (true, "8709f920ad1718381b4ceb6d44c52b6950d8922790c7f7c1f4563ac35bac7c26"), looks := true }, kinds := [], alts := [], laidByText := true, laidKinds := [.data, .data, .data, .handle, .data], laidTests := true, laidLooks := .later }
def FixTakesCardSaid : Prop := Claim7.holds Tryz.pinned (.plain (OpenSpec.ofChange fixTakesSpec)) fixTakesCard

/-- THE TIED CARD OF 'outcrylaw05.FixOrder'. -/
def fixOrderCard : Claim7 := { stood := { row := fixOrderRow, standIns := [], harness := (true, "8709f920ad1718381b4ceb6d44c52b6950d8922790c7f7c1f4563ac35bac7c26"), looks := true }, kinds := [], alts := [], laidByText := true, laidKinds := [.data, .data, .data, .handle, .data], laidTests := true, laidLooks := .later }
def FixOrderCardSaid : Prop := Claim7.holds Tryz.pinned (.plain (OpenSpec.ofChange fixOrderSpec)) fixOrderCard

/-- THE TIED CARD OF 'outcrylaw05.FixBack'. -/
def fixBackCard : Claim7 := { stood := { row := fixBackRow, standIns := [], harness := (true, "8709f920ad1718381b4ceb6d44c52b6950d8922790c7f7c1f4563ac35bac7c26"), looks := true }, kinds := [], alts := [], laidByText := true, laidKinds := [.data, .data, .data, .handle, .data], laidTests := true, laidLooks := .later }
def FixBackCardSaid : Prop := Claim7.holds Tryz.pinned (.plain (OpenSpec.ofChange fixBackSpec)) fixBackCard

/-- THE TIED CARD OF 'outcrylaw05.FixSpoilt'. -/
def fixSpoiltCard : Claim7 := { stood := { row := fixSpoiltRow, standIns := [], harness := (true, "8709f920ad1718381b4ceb6d44c52b6950d8922790c7f7c1f4563ac35bac7c26"), looks := true }, kinds := [], alts := [], laidByText := true, laidKinds := [.data, .data, .data, .handle, .data], laidTests := true, laidLooks := .later }
def FixSpoiltCardSaid : Prop := Claim7.holds Tryz.pinned (.plain (OpenSpec.ofChange fixSpoiltSpec)) fixSpoiltCard

/-- THE TIED CARD OF 'outcrylaw05.FixMisses'. -/
def fixMissesCard : Claim7 := { stood := { row := fixMissesRow, standIns := [], harness := (true, "8709f920ad1718381b4ceb6d44c52b6950d8922790c7f7c1f4563ac35bac7c26"), looks := true }, kinds := [], alts := [], laidByText := true, laidKinds := [.data, .data, .data, .handle, .data], laidTests := true, laidLooks := .later }
def FixMissesCardSaid : Prop := Claim7.holds Tryz.pinned (.plain (OpenSpec.ofChange fixMissesSpec)) fixMissesCard

/-- THE TIED CARD OF 'outcrylaw05.FixKnown'. -/
def fixKnownCard : Claim7 := { stood := { row := fixKnownRow, standIns := [], harness := (true, "8709f920ad1718381b4ceb6d44c52b6950d8922790c7f7c1f4563ac35bac7c26"), looks := true }, kinds := [], alts := [], laidByText := true, laidKinds := [.data, .data, .data, .handle, .data], laidTests := true, laidLooks := .later }
def FixKnownCardSaid : Prop := Claim7.holds Tryz.pinned (.plain (OpenSpec.ofChange fixKnownSpec)) fixKnownCard

/-- THE SECOND FORM's CARD OF 'outcrylaw05.FixTakes'. -/
def fixTakesUptoCard : Claim7 := { stood := { row := fixTakesUptoRow, standIns := [], harness := (true, "8709f920ad1718381b4ceb6d44c52b6950d8922790c7f7c1f4563ac35bac7c26"), looks := true }, kinds := [], alts := [], laidByText := true, laidKinds := [.data, .data, .data, .handle, .data], laidTests := true, laidLooks := .later }
def FixTakesUptoCardSaid : Prop := Claim7.holds Tryz.pinned (.plain (OpenSpec.upto fixTakesSpec)) fixTakesUptoCard

/-- THE SECOND FORM's CARD OF 'outcrylaw05.FixOrder'. -/
def fixOrderUptoCard : Claim7 := { stood := { row := fixOrderUptoRow, standIns := [], harness := (true, "8709f920ad1718381b4ceb6d44c52b6950d8922790c7f7c1f4563ac35bac7c26"), looks := true }, kinds := [], alts := [], laidByText := true, laidKinds := [.data, .data, .data, .handle, .data], laidTests := true, laidLooks := .later }
def FixOrderUptoCardSaid : Prop := Claim7.holds Tryz.pinned (.plain (OpenSpec.upto fixOrderSpec)) fixOrderUptoCard

/-- THE SECOND FORM's CARD OF 'outcrylaw05.FixBack'. -/
def fixBackUptoCard : Claim7 := { stood := { row := fixBackUptoRow, standIns := [], harness := (true, "8709f920ad1718381b4ceb6d44c52b6950d8922790c7f7c1f4563ac35bac7c26"), looks := true }, kinds := [], alts := [], laidByText := true, laidKinds := [.data, .data, .data, .handle, .data], laidTests := true, laidLooks := .later }
def FixBackUptoCardSaid : Prop := Claim7.holds Tryz.pinned (.plain (OpenSpec.upto fixBackSpec)) fixBackUptoCard

/-- THE SECOND FORM's CARD OF 'outcrylaw05.FixSpoilt'. -/
def fixSpoiltUptoCard : Claim7 := { stood := { row := fixSpoiltUptoRow, standIns := [], harness := (true, "8709f920ad1718381b4ceb6d44c52b6950d8922790c7f7c1f4563ac35bac7c26"), looks := true }, kinds := [], alts := [], laidByText := true, laidKinds := [.data, .data, .data, .handle, .data], laidTests := true, laidLooks := .later }
def FixSpoiltUptoCardSaid : Prop := Claim7.holds Tryz.pinned (.plain (OpenSpec.upto fixSpoiltSpec)) fixSpoiltUptoCard

/-- THE SECOND FORM's CARD OF 'outcrylaw05.FixMisses'. -/
def fixMissesUptoCard : Claim7 := { stood := { row := fixMissesUptoRow, standIns := [], harness := (true, "8709f920ad1718381b4ceb6d44c52b6950d8922790c7f7c1f4563ac35bac7c26"), looks := true }, kinds := [], alts := [], laidByText := true, laidKinds := [.data, .data, .data, .handle, .data], laidTests := true, laidLooks := .later }
def FixMissesUptoCardSaid : Prop := Claim7.holds Tryz.pinned (.plain (OpenSpec.upto fixMissesSpec)) fixMissesUptoCard

/-- THE SECOND FORM's CARD OF 'outcrylaw05.FixKnown'. -/
def fixKnownUptoCard : Claim7 := { stood := { row := fixKnownUptoRow, standIns := [], harness := (true, "8709f920ad1718381b4ceb6d44c52b6950d8922790c7f7c1f4563ac35bac7c26"), looks := true }, kinds := [], alts := [], laidByText := true, laidKinds := [.data, .data, .data, .handle, .data], laidTests := true, laidLooks := .later }
def FixKnownUptoCardSaid : Prop := Claim7.holds Tryz.pinned (.plain (OpenSpec.upto fixKnownSpec)) fixKnownUptoCard
end Rows
end Go.Proofs.YtchkpggdndnpjaaGreatDoor
