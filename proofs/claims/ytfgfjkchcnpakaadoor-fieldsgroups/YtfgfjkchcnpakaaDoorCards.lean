/-
  DERIVED. GIVEN WITH THE SEED: THE CARDS: each row of YtfgfjkchcnpakaaDoorRows.lean that lists a variable, with what it lists TIED to the program's text (the seventh form; the later family's looks); each row that meets fmt, with fmt's text TOLD by the authors' own Lean function (tested against real Go, not proved from fmt's source: count such statements apart). THE CARD IS WHAT COUNTS. Prove the row's statement (the work); the ties are given (YtfgfjkchcnpakaaDoorTie.lean); close each card by the builder's one call (the guide's Derived/Test/ToyasCard.lean, 'card_holds'). Laid BY PROGRAM, IN A SANDBOX (cutbox-door.mjs). By AI agents, Wed Nov 11 2026. No macro, syntax, notation, axiom, sorry.
-/
import Derived.Test.YtfgfjkchcnpakaaDoorRows
import GoSem.ClaimSeven
namespace Go.Proofs.YtfgfjkchcnpakaaDoor
namespace Rows

/-- THE TIED CARD OF 'outcrylaw04.FieldsBack'. -/
def fieldsBackCard : Claim7 := { stood := { row := fieldsBackRow, standIns := [], harness := (true, "78d1b0b83d6c169de3fadaee36668bfb1844063bc5613662857a9316194904ef"), looks := true }, kinds := [], alts := [], laidByText := true, laidKinds := [.data, .data, .data], laidTests := true, laidLooks := .later }
def FieldsBackCardSaid : Prop := Claim7.holds Tryd.pinned (.plain (OpenSpec.ofChange fieldsBackSpec)) fieldsBackCard

/-- THE TIED CARD OF 'outcrylaw04.FieldsParts'. -/
def fieldsPartsCard : Claim7 := { stood := { row := fieldsPartsRow, standIns := [], harness := (true, "78d1b0b83d6c169de3fadaee36668bfb1844063bc5613662857a9316194904ef"), looks := true }, kinds := [], alts := [], laidByText := true, laidKinds := [.data, .data, .data], laidTests := true, laidLooks := .later }
def FieldsPartsCardSaid : Prop := Claim7.holds Tryd.pinned (.plain (OpenSpec.ofChange fieldsPartsSpec)) fieldsPartsCard

/-- THE TIED CARD OF 'outcrylaw04.FieldsJoin'. -/
def fieldsJoinCard : Claim7 := { stood := { row := fieldsJoinRow, standIns := [], harness := (true, "78d1b0b83d6c169de3fadaee36668bfb1844063bc5613662857a9316194904ef"), looks := true }, kinds := [], alts := [], laidByText := true, laidKinds := [.data, .data, .data], laidTests := true, laidLooks := .later }
def FieldsJoinCardSaid : Prop := Claim7.holds Tryd.pinned (.plain (OpenSpec.ofChange fieldsJoinSpec)) fieldsJoinCard

/-- THE TIED CARD OF 'outcrylaw04.FieldsGroups'. -/
def fieldsGroupsCard : Claim7 := { stood := { row := fieldsGroupsRow, standIns := [], harness := (true, "78d1b0b83d6c169de3fadaee36668bfb1844063bc5613662857a9316194904ef"), looks := true }, kinds := [], alts := [], laidByText := true, laidKinds := [.data, .data, .data], laidTests := true, laidLooks := .later }
def FieldsGroupsCardSaid : Prop := Claim7.holds Tryd.pinned (.plain (OpenSpec.ofChange fieldsGroupsSpec)) fieldsGroupsCard

/-- THE TIED CARD OF 'outcrylaw04.FieldsSplit'. -/
def fieldsSplitCard : Claim7 := { stood := { row := fieldsSplitRow, standIns := [], harness := (true, "78d1b0b83d6c169de3fadaee36668bfb1844063bc5613662857a9316194904ef"), looks := true }, kinds := [], alts := [], laidByText := true, laidKinds := [.data, .data, .data], laidTests := true, laidLooks := .later }
def FieldsSplitCardSaid : Prop := Claim7.holds Tryd.pinned (.plain (OpenSpec.ofChange fieldsSplitSpec)) fieldsSplitCard

/-- THE SECOND FORM's CARD OF 'outcrylaw04.FieldsBack'. -/
def fieldsBackUptoCard : Claim7 := { stood := { row := fieldsBackUptoRow, standIns := [], harness := (true, "78d1b0b83d6c169de3fadaee36668bfb1844063bc5613662857a9316194904ef"), looks := true }, kinds := [], alts := [], laidByText := true, laidKinds := [.data, .data, .data], laidTests := true, laidLooks := .later }
def FieldsBackUptoCardSaid : Prop := Claim7.holds Tryd.pinned (.plain (OpenSpec.upto fieldsBackSpec)) fieldsBackUptoCard

/-- THE SECOND FORM's CARD OF 'outcrylaw04.FieldsParts'. -/
def fieldsPartsUptoCard : Claim7 := { stood := { row := fieldsPartsUptoRow, standIns := [], harness := (true, "78d1b0b83d6c169de3fadaee36668bfb1844063bc5613662857a9316194904ef"), looks := true }, kinds := [], alts := [], laidByText := true, laidKinds := [.data, .data, .data], laidTests := true, laidLooks := .later }
def FieldsPartsUptoCardSaid : Prop := Claim7.holds Tryd.pinned (.plain (OpenSpec.upto fieldsPartsSpec)) fieldsPartsUptoCard

/-- THE SECOND FORM's CARD OF 'outcrylaw04.FieldsJoin'. -/
def fieldsJoinUptoCard : Claim7 := { stood := { row := fieldsJoinUptoRow, standIns := [], harness := (true, "78d1b0b83d6c169de3fadaee36668bfb1844063bc5613662857a9316194904ef"), looks := true }, kinds := [], alts := [], laidByText := true, laidKinds := [.data, .data, .data], laidTests := true, laidLooks := .later }
def FieldsJoinUptoCardSaid : Prop := Claim7.holds Tryd.pinned (.plain (OpenSpec.upto fieldsJoinSpec)) fieldsJoinUptoCard

/-- THE SECOND FORM's CARD OF 'outcrylaw04.FieldsGroups'. -/
def fieldsGroupsUptoCard : Claim7 := { stood := { row := fieldsGroupsUptoRow, standIns := [], harness := (true, "78d1b0b83d6c169de3fadaee36668bfb1844063bc5613662857a9316194904ef"), looks := true }, kinds := [], alts := [], laidByText := true, laidKinds := [.data, .data, .data], laidTests := true, laidLooks := .later }
def FieldsGroupsUptoCardSaid : Prop := Claim7.holds Tryd.pinned (.plain (OpenSpec.upto fieldsGroupsSpec)) fieldsGroupsUptoCard

/-- THE SECOND FORM's CARD OF 'outcrylaw04.FieldsSplit'. -/
def fieldsSplitUptoCard : Claim7 := { stood := { row := fieldsSplitUptoRow, standIns := [], harness := (true, "78d1b0b83d6c169de3fadaee36668bfb1844063bc5613662857a9316194904ef"), looks := true }, kinds := [], alts := [], laidByText := true, laidKinds := [.data, .data, .data], laidTests := true, laidLooks := .later }
def FieldsSplitUptoCardSaid : Prop := Claim7.holds Tryd.pinned (.plain (OpenSpec.upto fieldsSplitSpec)) fieldsSplitUptoCard
end Rows
end Go.Proofs.YtfgfjkchcnpakaaDoor
