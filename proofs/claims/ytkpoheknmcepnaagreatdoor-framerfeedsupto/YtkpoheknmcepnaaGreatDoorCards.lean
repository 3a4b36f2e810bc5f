/-
  DERIVED. GIVEN WITH THE SEED: THE CARDS: each row of YtkpoheknmcepnaaGreatDoorRows.lean that lists a variable, with what it lists TIED to the program's text (the seventh form; the later family's looks); each row that meets fmt, with fmt's text TOLD by the authors' own Lean function (tested against real Go, not proved from fmt's source: count such statements apart). THE CARD IS WHAT COUNTS. Prove the row's statement (the work); the ties are given (YtkpoheknmcepnaaGreatDoorTie.lean); close each card by the builder's one call (the guide's Derived/Test/ToyasCard.lean, 'card_holds'). Laid BY PROGRAM, IN A SANDBOX (cutbox-door.mjs). By AI agents, Wed Nov 11 2026. No macro, syntax, notation, axiom, sorry.
-/
import Derived.Test.YtkpoheknmcepnaaGreatDoorRows
import GoSem.ClaimSeven
namespace Go.Proofs.YtkpoheknmcepnaaGreatDoor
namespace Rows

/-- THE TIED CARD OF 'outcrylaw07.FramerPieces'. -/
def framerPiecesCard : Claim7 := { stood := { row := framerPiecesRow, standIns := [], harness := (true, "21cdfedc10c3ad0a25d52170246f20457e44dcd3817fbe6d263f36e062fe30a2"), looks := false }, kinds := [], alts := [], laidByText := true, laidKinds := [.data, .data, .data, .data], laidTests := true, laidLooks := .later }
def FramerPiecesCardSaid : Prop := Claim7.holds Tryz.pinned (.plain (OpenSpec.ofChange framerPiecesSpec)) framerPiecesCard

/-- THE TIED CARD OF 'outcrylaw07.FramerBinary'. -/
def framerBinaryCard : Claim7 := { stood := { row := framerBinaryRow, standIns := [], harness := (true, "21cdfedc10c3ad0a25d52170246f20457e44dcd3817fbe6d263f36e062fe30a2"), looks := false }, kinds := [], alts := [], laidByText := true, laidKinds := [.data, .data, .data, .data], laidTests := true, laidLooks := .later }
def FramerBinaryCardSaid : Prop := Claim7.holds Tryz.pinned (.plain (OpenSpec.ofChange framerBinarySpec)) framerBinaryCard

/-- THE TIED CARD OF 'outcrylaw07.FramerFinds'. -/
def framerFindsCard : Claim7 := { stood := { row := framerFindsRow, standIns := [], harness := (true, "21cdfedc10c3ad0a25d52170246f20457e44dcd3817fbe6d263f36e062fe30a2"), looks := false }, kinds := [], alts := [], laidByText := true, laidKinds := [.data, .data, .data, .data], laidTests := true, laidLooks := .later }
def FramerFindsCardSaid : Prop := Claim7.holds Tryz.pinned (.plain (OpenSpec.ofChange framerFindsSpec)) framerFindsCard

/-- THE TIED CARD OF 'outcrylaw07.FramerFeeds'. -/
def framerFeedsCard : Claim7 := { stood := { row := framerFeedsRow, standIns := [], harness := (true, "21cdfedc10c3ad0a25d52170246f20457e44dcd3817fbe6d263f36e062fe30a2"), looks := false }, kinds := [], alts := [], laidByText := true, laidKinds := [.data, .data, .data, .data], laidTests := true, laidLooks := .later }
def FramerFeedsCardSaid : Prop := Claim7.holds Tryz.pinned (.plain (OpenSpec.ofChange framerFeedsSpec)) framerFeedsCard

/-- THE SECOND FORM's CARD OF 'outcrylaw07.FramerPieces'. -/
def framerPiecesUptoCard : Claim7 := { stood := { row := framerPiecesUptoRow, standIns := [], harness := (true, "21cdfedc10c3ad0a25d52170246f20457e44dcd3817fbe6d263f36e062fe30a2"), looks := false }, kinds := [], alts := [], laidByText := true, laidKinds := [.data, .data, .data, .data], laidTests := true, laidLooks := .later }
def FramerPiecesUptoCardSaid : Prop := Claim7.holds Tryz.pinned (.plain (OpenSpec.upto framerPiecesSpec)) framerPiecesUptoCard

/-- THE SECOND FORM's CARD OF 'outcrylaw07.FramerBinary'. -/
def framerBinaryUptoCard : Claim7 := { stood := { row := framerBinaryUptoRow, standIns := [], harness := (true, "21cdfedc10c3ad0a25d52170246f20457e44dcd3817fbe6d263f36e062fe30a2"), looks := false }, kinds := [], alts := [], laidByText := true, laidKinds := [.data, .data, .data, .data], laidTests := true, laidLooks := .later }
def FramerBinaryUptoCardSaid : Prop := Claim7.holds Tryz.pinned (.plain (OpenSpec.upto framerBinarySpec)) framerBinaryUptoCard

/-- THE SECOND FORM's CARD OF 'outcrylaw07.FramerFinds'. -/
def framerFindsUptoCard : Claim7 := { stood := { row := framerFindsUptoRow, standIns := [], harness := (true, "21cdfedc10c3ad0a25d52170246f20457e44dcd3817fbe6d263f36e062fe30a2"), looks := false }, kinds := [], alts := [], laidByText := true, laidKinds := [.data, .data, .data, .data], laidTests := true, laidLooks := .later }
def FramerFindsUptoCardSaid : Prop := Claim7.holds Tryz.pinned (.plain (OpenSpec.upto framerFindsSpec)) framerFindsUptoCard

/-- THE SECOND FORM's CARD OF 'outcrylaw07.FramerFeeds'. -/
def framerFeedsUptoCard : Claim7 := { stood := { row := framerFeedsUptoRow, standIns := [], harness := (true, "21cdfedc10c3ad0a25d52170246f20457e44dcd3817fbe6d263f36e062fe30a2"), looks := false }, kinds := [], alts := [], laidByText := true, laidKinds := [.data, .data, .data, .data], laidTests := true, laidLooks := .later }
def FramerFeedsUptoCardSaid : Prop := Claim7.holds Tryz.pinned (.plain (OpenSpec.upto framerFeedsSpec)) framerFeedsUptoCard
end Rows
end Go.Proofs.YtkpoheknmcepnaaGreatDoor
