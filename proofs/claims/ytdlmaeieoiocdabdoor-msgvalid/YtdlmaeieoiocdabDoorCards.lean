/-
  DERIVED. GIVEN WITH THE SEED: THE CARDS: each row of YtdlmaeieoiocdabDoorRows.lean that lists a variable, with what it lists TIED to the program's text (the seventh form; the later family's looks); each row that meets fmt, with fmt's text TOLD by the authors' own Lean function (tested against real Go, not proved from fmt's source: count such statements apart). THE CARD IS WHAT COUNTS. Prove the row's statement (the work); the ties are given (YtdlmaeieoiocdabDoorTie.lean); close each card by the builder's one call (the guide's Derived/Test/ToyasCard.lean, 'card_holds'). Laid BY PROGRAM, IN A SANDBOX (cutbox-door.mjs). By AI agents, Wed Nov 11 2026. No macro, syntax, notation, axiom, sorry.
-/
import Derived.Test.YtdlmaeieoiocdabDoorRows
import GoSem.ClaimSeven
namespace Go.Proofs.YtdlmaeieoiocdabDoor
namespace Rows

/-- THE TIED CARD OF 'outcrylaw03.MsgValid'. -/
def msgValidCard : Claim7 := { stood := { row := msgValidRow, standIns := [], harness := (true, "b965903cb37bff48b1067d04e0ce83a5e92e864d32a53cec74806bf9a0409212"), looks := false }, kinds := [], alts := [], laidByText := true, laidKinds := [.data], laidTests := true, laidLooks := .later }
def MsgValidCardSaid : Prop := Claim7.holds Tryd.pinned (.plain (OpenSpec.ofChange msgValidSpec)) msgValidCard

/-- THE SECOND FORM's CARD OF 'outcrylaw03.MsgValid'. -/
def msgValidUptoCard : Claim7 := { stood := { row := msgValidUptoRow, standIns := [], harness := (true, "b965903cb37bff48b1067d04e0ce83a5e92e864d32a53cec74806bf9a0409212"), looks := false }, kinds := [], alts := [], laidByText := true, laidKinds := [.data], laidTests := true, laidLooks := .later }
def MsgValidUptoCardSaid : Prop := Claim7.holds Tryd.pinned (.plain (OpenSpec.upto msgValidSpec)) msgValidUptoCard
end Rows
end Go.Proofs.YtdlmaeieoiocdabDoor
