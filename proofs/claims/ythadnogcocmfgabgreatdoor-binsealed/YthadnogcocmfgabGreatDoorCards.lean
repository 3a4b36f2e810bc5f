/-
  DERIVED. GIVEN WITH THE SEED: THE CARDS: each row of YthadnogcocmfgabGreatDoorRows.lean that lists a variable, with what it lists TIED to the program's text (the seventh form; the later family's looks); each row that meets fmt, with fmt's text TOLD by the authors' own Lean function (tested against real Go, not proved from fmt's source: count such statements apart). THE CARD IS WHAT COUNTS. Prove the row's statement (the work); the ties are given (YthadnogcocmfgabGreatDoorTie.lean); close each card by the builder's one call (the guide's Derived/Test/ToyasCard.lean, 'card_holds'). Laid BY PROGRAM, IN A SANDBOX (cutbox-door.mjs). By AI agents, Wed Nov 11 2026. No macro, syntax, notation, axiom, sorry.
-/
import Derived.Test.YthadnogcocmfgabGreatDoorRows
import GoSem.ClaimSeven
namespace Go.Proofs.YthadnogcocmfgabGreatDoor
namespace Rows

/-- THE TIED CARD OF 'outcrylaw06.BinSealed'. -/
def binSealedCard : Claim7 := { stood := { row := binSealedRow, standIns := [], harness := (true, "247080a675988970a6a130d006fd73f8423b539f5408726b2eee4f1bbabb5e6a"), looks := true }, kinds := [], alts := [], laidByText := true, laidKinds := [.data], laidTests := true, laidLooks := .later }
def BinSealedCardSaid : Prop := Claim7.holds Tryz.pinned (.plain (OpenSpec.ofChange binSealedSpec)) binSealedCard

/-- THE SECOND FORM's CARD OF 'outcrylaw06.BinSealed'. -/
def binSealedUptoCard : Claim7 := { stood := { row := binSealedUptoRow, standIns := [], harness := (true, "247080a675988970a6a130d006fd73f8423b539f5408726b2eee4f1bbabb5e6a"), looks := true }, kinds := [], alts := [], laidByText := true, laidKinds := [.data], laidTests := true, laidLooks := .later }
def BinSealedUptoCardSaid : Prop := Claim7.holds Tryz.pinned (.plain (OpenSpec.upto binSealedSpec)) binSealedUptoCard
end Rows
end Go.Proofs.YthadnogcocmfgabGreatDoor
