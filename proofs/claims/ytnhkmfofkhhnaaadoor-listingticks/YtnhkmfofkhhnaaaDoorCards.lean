/-
  DERIVED. GIVEN WITH THE SEED: THE CARDS: each row of YtnhkmfofkhhnaaaDoorRows.lean that lists a variable, with what it lists TIED to the program's text (the seventh form; the later family's looks); each row that meets fmt, with fmt's text TOLD by the authors' own Lean function (tested against real Go, not proved from fmt's source: count such statements apart). THE CARD IS WHAT COUNTS. Prove the row's statement (the work); the ties are given (YtnhkmfofkhhnaaaDoorTie.lean); close each card by the builder's one call (the guide's Derived/Test/ToyasCard.lean, 'card_holds'). Laid BY PROGRAM, IN A SANDBOX (cutbox-door.mjs). By AI agents, Wed Nov 11 2026. No macro, syntax, notation, axiom, sorry.
-/
import Derived.Test.YtnhkmfofkhhnaaaDoorRows
import GoSem.ClaimSeven
namespace Go.Proofs.YtnhkmfofkhhnaaaDoor
namespace Rows

/-- THE TIED CARD OF 'outcrylaw10.ListingPhases'. -/
def listingPhasesCard : Claim7 := { stood := { row := listingPhasesRow, standIns := [], harness := (true, "d9fdd1c78110310888861368a9e37b12d244c6efe322c0ca67e464205846abc0"), looks := false }, kinds := [], alts := [], laidByText := true, laidKinds := [.data], laidTests := true, laidLooks := .later }
def ListingPhasesCardSaid : Prop := Claim7.holds Tryd.pinned (.plain (OpenSpec.ofChange listingPhasesSpec)) listingPhasesCard

/-- THE TIED CARD OF 'outcrylaw10.ListingTicks'. -/
def listingTicksCard : Claim7 := { stood := { row := listingTicksRow, standIns := [], harness := (true, "d9fdd1c78110310888861368a9e37b12d244c6efe322c0ca67e464205846abc0"), looks := false }, kinds := [], alts := [], laidByText := true, laidKinds := [.data], laidTests := true, laidLooks := .later }
def ListingTicksCardSaid : Prop := Claim7.holds Tryd.pinned (.plain (OpenSpec.ofChange listingTicksSpec)) listingTicksCard

/-- THE SECOND FORM's CARD OF 'outcrylaw10.ListingPhases'. -/
def listingPhasesUptoCard : Claim7 := { stood := { row := listingPhasesUptoRow, standIns := [], harness := (true, "d9fdd1c78110310888861368a9e37b12d244c6efe322c0ca67e464205846abc0"), looks := false }, kinds := [], alts := [], laidByText := true, laidKinds := [.data], laidTests := true, laidLooks := .later }
def ListingPhasesUptoCardSaid : Prop := Claim7.holds Tryd.pinned (.plain (OpenSpec.upto listingPhasesSpec)) listingPhasesUptoCard

/-- THE SECOND FORM's CARD OF 'outcrylaw10.ListingTicks'. -/
def listingTicksUptoCard : Claim7 := { stood := { row := listingTicksUptoRow, standIns := [], harness := (true, "d9fdd1c78110310888861368a9e37b12d244c6efe322c0ca67e464205846abc0"), looks := false }, kinds := [], alts := [], laidByText := true, laidKinds := [.data], laidTests := true, laidLooks := .later }
def ListingTicksUptoCardSaid : Prop := Claim7.holds Tryd.pinned (.plain (OpenSpec.upto listingTicksSpec)) listingTicksUptoCard
end Rows
end Go.Proofs.YtnhkmfofkhhnaaaDoor
