/-
  DERIVED. GIVEN WITH THE SEED: THE CARDS: each row of YtdlmaeieoiocdaaDoorRows.lean that lists a variable, with what it lists TIED to the program's text (the seventh form; the later family's looks); each row that meets fmt, with fmt's text TOLD by the authors' own Lean function (tested against real Go, not proved from fmt's source: count such statements apart). THE CARD IS WHAT COUNTS. Prove the row's statement (the work); the ties are given (YtdlmaeieoiocdaaDoorTie.lean); close each card by the builder's one call (the guide's Derived/Test/ToyasCard.lean, 'card_holds'). Laid BY PROGRAM, IN A SANDBOX (cutbox-door.mjs). By AI agents, Wed Nov 11 2026. No macro, syntax, notation, axiom, sorry.
-/
import Derived.Test.YtdlmaeieoiocdaaDoorRows
import GoSem.ClaimSeven
namespace Go.Proofs.YtdlmaeieoiocdaaDoor
namespace Rows

/-- THE TIED CARD OF 'outcrylaw03.MsgMoves'. -/
def msgMovesCard : Claim7 := { stood := { row := msgMovesRow, standIns := [], harness := (true, "cd0b7f2214ed245b2b4c785b5be64c75d74d6f9bbb155153a4ff2acb930c1bf5"), looks := false }, kinds := [], alts := [], laidByText := true, laidKinds := [.data], laidTests := true, laidLooks := .later }
def MsgMovesCardSaid : Prop := Claim7.holds Tryd.pinned (.plain (OpenSpec.ofChange msgMovesSpec)) msgMovesCard

/-- THE TIED CARD OF 'outcrylaw03.MsgBusiness'. -/
def msgBusinessCard : Claim7 := { stood := { row := msgBusinessRow, standIns := [], harness := (true, "cd0b7f2214ed245b2b4c785b5be64c75d74d6f9bbb155153a4ff2acb930c1bf5"), looks := false }, kinds := [], alts := [], laidByText := true, laidKinds := [.data], laidTests := true, laidLooks := .later }
def MsgBusinessCardSaid : Prop := Claim7.holds Tryd.pinned (.plain (OpenSpec.ofChange msgBusinessSpec)) msgBusinessCard

/-- THE TIED CARD OF 'outcrylaw03.MsgDrops'. -/
def msgDropsCard : Claim7 := { stood := { row := msgDropsRow, standIns := [], harness := (true, "cd0b7f2214ed245b2b4c785b5be64c75d74d6f9bbb155153a4ff2acb930c1bf5"), looks := false }, kinds := [], alts := [], laidByText := true, laidKinds := [.data], laidTests := true, laidLooks := .later }
def MsgDropsCardSaid : Prop := Claim7.holds Tryd.pinned (.plain (OpenSpec.ofChange msgDropsSpec)) msgDropsCard

/-- THE TIED CARD OF 'outcrylaw03.MsgHas'. -/
def msgHasCard : Claim7 := { stood := { row := msgHasRow, standIns := [], harness := (true, "cd0b7f2214ed245b2b4c785b5be64c75d74d6f9bbb155153a4ff2acb930c1bf5"), looks := false }, kinds := [], alts := [], laidByText := true, laidKinds := [.data], laidTests := true, laidLooks := .later }
def MsgHasCardSaid : Prop := Claim7.holds Tryd.pinned (.plain (OpenSpec.ofChange msgHasSpec)) msgHasCard

/-- THE TIED CARD OF 'outcrylaw03.MsgNames'. -/
def msgNamesCard : Claim7 := { stood := { row := msgNamesRow, standIns := [], harness := (true, "cd0b7f2214ed245b2b4c785b5be64c75d74d6f9bbb155153a4ff2acb930c1bf5"), looks := false }, kinds := [], alts := [], laidByText := true, laidKinds := [.data], laidTests := true, laidLooks := .later }
def MsgNamesCardSaid : Prop := Claim7.holds Tryd.pinned (.plain (OpenSpec.ofChange msgNamesSpec)) msgNamesCard

/-- THE TIED CARD OF 'outcrylaw03.MsgWords'. -/
def msgWordsCard : Claim7 := { stood := { row := msgWordsRow, standIns := [], harness := (true, "cd0b7f2214ed245b2b4c785b5be64c75d74d6f9bbb155153a4ff2acb930c1bf5"), looks := false }, kinds := [], alts := [], laidByText := true, laidKinds := [.data, .data], laidTests := true, laidLooks := .later }
def MsgWordsCardSaid : Prop := Claim7.holds Tryd.pinned (.plain (OpenSpec.ofChange msgWordsSpec)) msgWordsCard

/-- THE SECOND FORM's CARD OF 'outcrylaw03.MsgMoves'. -/
def msgMovesUptoCard : Claim7 := { stood := { row := msgMovesUptoRow, standIns := [], harness := (true, "cd0b7f2214ed245b2b4c785b5be64c75d74d6f9bbb155153a4ff2acb930c1bf5"), looks := false }, kinds := [], alts := [], laidByText := true, laidKinds := [.data], laidTests := true, laidLooks := .later }
def MsgMovesUptoCardSaid : Prop := Claim7.holds Tryd.pinned (.plain (OpenSpec.upto msgMovesSpec)) msgMovesUptoCard

/-- THE SECOND FORM's CARD OF 'outcrylaw03.MsgBusiness'. -/
def msgBusinessUptoCard : Claim7 := { stood := { row := msgBusinessUptoRow, standIns := [], harness := (true, "cd0b7f2214ed245b2b4c785b5be64c75d74d6f9bbb155153a4ff2acb930c1bf5"), looks := false }, kinds := [], alts := [], laidByText := true, laidKinds := [.data], laidTests := true, laidLooks := .later }
def MsgBusinessUptoCardSaid : Prop := Claim7.holds Tryd.pinned (.plain (OpenSpec.upto msgBusinessSpec)) msgBusinessUptoCard

/-- THE SECOND FORM's CARD OF 'outcrylaw03.MsgDrops'. -/
def msgDropsUptoCard : Claim7 := { stood := { row := msgDropsUptoRow, standIns := [], harness := (true, "cd0b7f2214ed245b2b4c785b5be64c75d74d6f9bbb155153a4ff2acb930c1bf5"), looks := false }, kinds := [], alts := [], laidByText := true, laidKinds := [.data], laidTests := true, laidLooks := .later }
def MsgDropsUptoCardSaid : Prop := Claim7.holds Tryd.pinned (.plain (OpenSpec.upto msgDropsSpec)) msgDropsUptoCard

/-- THE SECOND FORM's CARD OF 'outcrylaw03.MsgHas'. -/
def msgHasUptoCard : Claim7 := { stood := { row := msgHasUptoRow, standIns := [], harness := (true, "cd0b7f2214ed245b2b4c785b5be64c75d74d6f9bbb155153a4ff2acb930c1bf5"), looks := false }, kinds := [], alts := [], laidByText := true, laidKinds := [.data], laidTests := true, laidLooks := .later }
def MsgHasUptoCardSaid : Prop := Claim7.holds Tryd.pinned (.plain (OpenSpec.upto msgHasSpec)) msgHasUptoCard

/-- THE SECOND FORM's CARD OF 'outcrylaw03.MsgNames'. -/
def msgNamesUptoCard : Claim7 := { stood := { row := msgNamesUptoRow, standIns := [], harness := (true, "cd0b7f2214ed245b2b4c785b5be64c75d74d6f9bbb155153a4ff2acb930c1bf5"), looks := false }, kinds := [], alts := [], laidByText := true, laidKinds := [.data], laidTests := true, laidLooks := .later }
def MsgNamesUptoCardSaid : Prop := Claim7.holds Tryd.pinned (.plain (OpenSpec.upto msgNamesSpec)) msgNamesUptoCard

/-- THE SECOND FORM's CARD OF 'outcrylaw03.MsgWords'. -/
def msgWordsUptoCard : Claim7 := { stood := { row := msgWordsUptoRow, standIns := [], harness := (true, "cd0b7f2214ed245b2b4c785b5be64c75d74d6f9bbb155153a4ff2acb930c1bf5"), looks := false }, kinds := [], alts := [], laidByText := true, laidKinds := [.data, .data], laidTests := true, laidLooks := .later }
def MsgWordsUptoCardSaid : Prop := Claim7.holds Tryd.pinned (.plain (OpenSpec.upto msgWordsSpec)) msgWordsUptoCard
end Rows
end Go.Proofs.YtdlmaeieoiocdaaDoor
