/-
  NARROWER THAN 'FOR EVERY INPUT', by the rows' own cells (each row's printed sentence says how): BinBack: laid · BinOneWay: laid · BinApart: laid · BinTurned: laid · BinEncodes: laid · BinDecodes: laid.
  DERIVED. THE GIVEN ROWS OF THIS SEAT. 6 by the template 'for every input the law returns true; each argument reads behind the call as it read before'; 0 by the template 'total and deterministic' (their statements: YthadnogcocmfgaaGreatDoorTotals.lean).
  GIVEN WITH THE SEED: the statements are not yours to turn. If you find one false, say at which input.
  Laid BY PROGRAM, IN A SANDBOX (cutbox-rows.mjs): the forced cells as the released guide's own fill.sh prints them over the translation 1d74509c02839797… (all of the seat's roots in one cut). By AI agents, Wed Nov 11 2026. No macro, syntax, notation, axiom, sorry.
-/
import Derived.Test.YthadnogcocmfgaaGreatDoorChecked
import GoSem.Claim
import GoSem.ClaimJoined
import GoSem.ClaimMapViews
import Derived.JoinedTies
import Derived.KernelRfl
namespace Go.Proofs.YthadnogcocmfgaaGreatDoor
/- THE CELL 'sum', in the pinned program and in every row, IS THE sha256 OF THE DUMP (.gsa) THAT YthadnogcocmfgaaGreatDoorProg.lean LOADS. Nothing in Lean hashes anything: it is a label: what it is worth is what the hold of that sum in a sandbox is worth. -/
noncomputable def Tryz.pinned : Pinned := { name := "ythadnogcocmfgaagreatdoor", sum := "1d74509c0283979700acf9a3bee5b8a6229e7f53f1dbf63edf03a5078902eaad", checked := Tryz.checked }
namespace Rows
def none {H : Type} : Left H := { results := [], args := [] }

/- WHAT THE LISTED PACKAGE-LEVEL VARIABLES READ AS WHEN THE CALL BEGINS. Each datum BY PROGRAM (the guide's laid-datum.mjs) off the statement by which the dump's own 'gosem.cut.vars' lays the variable. In a bare row this is a premise. The card (YthadnogcocmfgaaGreatDoorCards.lean) ties it to the program's text. -/
def laid_outcry_clock_monthDays {H : Type} : DataW H := .agg [.lit (.int .i64 31), .lit (.int .i64 28), .lit (.int .i64 31), .lit (.int .i64 30), .lit (.int .i64 31), .lit (.int .i64 30), .lit (.int .i64 31), .lit (.int .i64 31), .lit (.int .i64 30), .lit (.int .i64 31), .lit (.int .i64 30), .lit (.int .i64 31)]

/-- 'outcrylaw06.BinBack': WHATEVER THE INPUT: true; the input reads as it did. -/
def binBackSpec : ChangeSpec := { name := "binBack", fn := fun _ => fun
  | [d] => { results := [.lit (.bool true)], args := [d] }
  | _ => none }
def binBackRow : OpenClaim := { program := "ythadnogcocmfgaagreatdoor", sum := "1d74509c0283979700acf9a3bee5b8a6229e7f53f1dbf63edf03a5078902eaad", func := "outcry/outcrylaw06.BinBack", spec := "binBack", unfollowed := true, recurses := true, named := ["outcry/clock.monthDays"], apart := false, laid := [("outcry/clock.monthDays", laid_outcry_clock_monthDays)] }
def BinBackSaid : Prop := binBackRow.holds Tryz.pinned (OpenSpec.ofChange binBackSpec)

/-- ITS FALSE NEIGHBOUR: 'it returns false'. Refute it at one input. -/
def binBackWrong : ChangeSpec := { name := "binBack", fn := fun _ => fun
  | [d] => { results := [.lit (.bool false)], args := [d] }
  | _ => none }
def BinBackWrongFalsely : Prop := binBackRow.holds Tryz.pinned (OpenSpec.ofChange binBackWrong)

/-- 'outcrylaw06.BinOneWay': WHATEVER THE INPUT: true; the input reads as it did. -/
def binOneWaySpec : ChangeSpec := { name := "binOneWay", fn := fun _ => fun
  | [d] => { results := [.lit (.bool true)], args := [d] }
  | _ => none }
def binOneWayRow : OpenClaim := { program := "ythadnogcocmfgaagreatdoor", sum := "1d74509c0283979700acf9a3bee5b8a6229e7f53f1dbf63edf03a5078902eaad", func := "outcry/outcrylaw06.BinOneWay", spec := "binOneWay", unfollowed := true, recurses := true, named := ["outcry/clock.monthDays"], apart := false, laid := [("outcry/clock.monthDays", laid_outcry_clock_monthDays)] }
def BinOneWaySaid : Prop := binOneWayRow.holds Tryz.pinned (OpenSpec.ofChange binOneWaySpec)

/-- ITS FALSE NEIGHBOUR: 'it returns false'. Refute it at one input. -/
def binOneWayWrong : ChangeSpec := { name := "binOneWay", fn := fun _ => fun
  | [d] => { results := [.lit (.bool false)], args := [d] }
  | _ => none }
def BinOneWayWrongFalsely : Prop := binOneWayRow.holds Tryz.pinned (OpenSpec.ofChange binOneWayWrong)

/-- 'outcrylaw06.BinApart': WHATEVER THE INPUT: true; the input reads as it did. -/
def binApartSpec : ChangeSpec := { name := "binApart", fn := fun _ => fun
  | [d1, d2] => { results := [.lit (.bool true)], args := [d1, d2] }
  | _ => none }
def binApartRow : OpenClaim := { program := "ythadnogcocmfgaagreatdoor", sum := "1d74509c0283979700acf9a3bee5b8a6229e7f53f1dbf63edf03a5078902eaad", func := "outcry/outcrylaw06.BinApart", spec := "binApart", unfollowed := true, recurses := true, named := ["outcry/clock.monthDays"], apart := false, laid := [("outcry/clock.monthDays", laid_outcry_clock_monthDays)] }
def BinApartSaid : Prop := binApartRow.holds Tryz.pinned (OpenSpec.ofChange binApartSpec)

/-- ITS FALSE NEIGHBOUR: 'it returns false'. Refute it at one input. -/
def binApartWrong : ChangeSpec := { name := "binApart", fn := fun _ => fun
  | [d1, d2] => { results := [.lit (.bool false)], args := [d1, d2] }
  | _ => none }
def BinApartWrongFalsely : Prop := binApartRow.holds Tryz.pinned (OpenSpec.ofChange binApartWrong)

/-- 'outcrylaw06.BinTurned': WHATEVER THE INPUT: true; the input reads as it did. -/
def binTurnedSpec : ChangeSpec := { name := "binTurned", fn := fun _ => fun
  | [d1, d2, d3] => { results := [.lit (.bool true)], args := [d1, d2, d3] }
  | _ => none }
def binTurnedRow : OpenClaim := { program := "ythadnogcocmfgaagreatdoor", sum := "1d74509c0283979700acf9a3bee5b8a6229e7f53f1dbf63edf03a5078902eaad", func := "outcry/outcrylaw06.BinTurned", spec := "binTurned", unfollowed := true, recurses := true, named := ["outcry/clock.monthDays"], apart := false, laid := [("outcry/clock.monthDays", laid_outcry_clock_monthDays)] }
def BinTurnedSaid : Prop := binTurnedRow.holds Tryz.pinned (OpenSpec.ofChange binTurnedSpec)

/-- ITS FALSE NEIGHBOUR: 'it returns false'. Refute it at one input. -/
def binTurnedWrong : ChangeSpec := { name := "binTurned", fn := fun _ => fun
  | [d1, d2, d3] => { results := [.lit (.bool false)], args := [d1, d2, d3] }
  | _ => none }
def BinTurnedWrongFalsely : Prop := binTurnedRow.holds Tryz.pinned (OpenSpec.ofChange binTurnedWrong)

/-- 'outcrylaw06.BinEncodes': WHATEVER THE INPUT: true; the input reads as it did. -/
def binEncodesSpec : ChangeSpec := { name := "binEncodes", fn := fun _ => fun
  | [d1, d2] => { results := [.lit (.bool true)], args := [d1, d2] }
  | _ => none }
def binEncodesRow : OpenClaim := { program := "ythadnogcocmfgaagreatdoor", sum := "1d74509c0283979700acf9a3bee5b8a6229e7f53f1dbf63edf03a5078902eaad", func := "outcry/outcrylaw06.BinEncodes", spec := "binEncodes", unfollowed := true, recurses := true, named := ["outcry/clock.monthDays"], apart := false, laid := [("outcry/clock.monthDays", laid_outcry_clock_monthDays)] }
def BinEncodesSaid : Prop := binEncodesRow.holds Tryz.pinned (OpenSpec.ofChange binEncodesSpec)

/-- ITS FALSE NEIGHBOUR: 'it returns false'. Refute it at one input. -/
def binEncodesWrong : ChangeSpec := { name := "binEncodes", fn := fun _ => fun
  | [d1, d2] => { results := [.lit (.bool false)], args := [d1, d2] }
  | _ => none }
def BinEncodesWrongFalsely : Prop := binEncodesRow.holds Tryz.pinned (OpenSpec.ofChange binEncodesWrong)

/-- 'outcrylaw06.BinDecodes': WHATEVER THE INPUT: true; the input reads as it did. -/
def binDecodesSpec : ChangeSpec := { name := "binDecodes", fn := fun _ => fun
  | [d] => { results := [.lit (.bool true)], args := [d] }
  | _ => none }
def binDecodesRow : OpenClaim := { program := "ythadnogcocmfgaagreatdoor", sum := "1d74509c0283979700acf9a3bee5b8a6229e7f53f1dbf63edf03a5078902eaad", func := "outcry/outcrylaw06.BinDecodes", spec := "binDecodes", unfollowed := true, recurses := true, named := ["outcry/clock.monthDays"], apart := false, laid := [("outcry/clock.monthDays", laid_outcry_clock_monthDays)] }
def BinDecodesSaid : Prop := binDecodesRow.holds Tryz.pinned (OpenSpec.ofChange binDecodesSpec)

/-- ITS FALSE NEIGHBOUR: 'it returns false'. Refute it at one input. -/
def binDecodesWrong : ChangeSpec := { name := "binDecodes", fn := fun _ => fun
  | [d] => { results := [.lit (.bool false)], args := [d] }
  | _ => none }
def BinDecodesWrongFalsely : Prop := binDecodesRow.holds Tryz.pinned (OpenSpec.ofChange binDecodesWrong)

/- THE SECOND FORM. 'bulk': how many values and letters a reading holds, each counted each time it is reached (what is shared counts as often as it is met; a slice's spare places count too). A statement '..UptoSaid' is the law's where the arguments, and the package variables that the reading takes, are together of bulk at most 1048576: NARROWER than '..Said'. Prove '..Said' where nothing that the law and all that it calls make is longer than what came in: it says more and counts as full. Else prove '..UptoSaid'. A law counts once. -/
mutual
def uptoBulk {H : Type} : DataW H → Nat
  | .lit (.string bytes) => bytes.length + 1
  | .lit _ => 1
  | .nil => 1
  | .ptr d => uptoBulk d + 1
  | .slice elems spare => uptoBulkAll elems + uptoBulkAll spare + 1
  | .agg parts => uptoBulkAll parts + 1
  | .iface _ d => uptoBulk d + 1
  | .map entries => uptoBulkEntries entries + 1
  | .held _ => 1
def uptoBulkAll {H : Type} : List (DataW H) → Nat
  | [] => 0
  | d :: r => uptoBulk d + uptoBulkAll r
def uptoBulkEntries {H : Type} : List (Lit × DataW H) → Nat
  | [] => 0
  | x :: r => uptoBulkEntry x + uptoBulkEntries r
def uptoBulkEntry {H : Type} : Lit × DataW H → Nat
  | (.string bytes, d) => bytes.length + uptoBulk d + 1
  | (_, d) => uptoBulk d + 1
 end
def uptoSmall : (H : Type) → List (DataW H) → Bool := fun _ ds => decide (uptoBulkAll ds ≤ 1048576)
def OpenSpec.upto (s : _root_.Go.ChangeSpec) : _root_.Go.OpenSpec := { _root_.Go.OpenSpec.ofChange s with cond := some uptoSmall }

/-- 'outcrylaw06.BinBack', WHERE WHAT IT READS IS OF BULK AT MOST 1048576: true; the input reads as it did. -/
def binBackUptoRow : OpenClaim := { program := "ythadnogcocmfgaagreatdoor", sum := "1d74509c0283979700acf9a3bee5b8a6229e7f53f1dbf63edf03a5078902eaad", func := "outcry/outcrylaw06.BinBack", spec := "binBack", unfollowed := true, recurses := true, named := ["outcry/clock.monthDays"], apart := false, laid := [("outcry/clock.monthDays", laid_outcry_clock_monthDays)], narrowed := true }
def BinBackUptoSaid : Prop := binBackUptoRow.holds Tryz.pinned (OpenSpec.upto binBackSpec)

/-- 'outcrylaw06.BinOneWay', WHERE WHAT IT READS IS OF BULK AT MOST 1048576: true; the input reads as it did. -/
def binOneWayUptoRow : OpenClaim := { program := "ythadnogcocmfgaagreatdoor", sum := "1d74509c0283979700acf9a3bee5b8a6229e7f53f1dbf63edf03a5078902eaad", func := "outcry/outcrylaw06.BinOneWay", spec := "binOneWay", unfollowed := true, recurses := true, named := ["outcry/clock.monthDays"], apart := false, laid := [("outcry/clock.monthDays", laid_outcry_clock_monthDays)], narrowed := true }
def BinOneWayUptoSaid : Prop := binOneWayUptoRow.holds Tryz.pinned (OpenSpec.upto binOneWaySpec)

/-- 'outcrylaw06.BinApart', WHERE WHAT IT READS IS OF BULK AT MOST 1048576: true; the input reads as it did. -/
def binApartUptoRow : OpenClaim := { program := "ythadnogcocmfgaagreatdoor", sum := "1d74509c0283979700acf9a3bee5b8a6229e7f53f1dbf63edf03a5078902eaad", func := "outcry/outcrylaw06.BinApart", spec := "binApart", unfollowed := true, recurses := true, named := ["outcry/clock.monthDays"], apart := false, laid := [("outcry/clock.monthDays", laid_outcry_clock_monthDays)], narrowed := true }
def BinApartUptoSaid : Prop := binApartUptoRow.holds Tryz.pinned (OpenSpec.upto binApartSpec)

/-- 'outcrylaw06.BinTurned', WHERE WHAT IT READS IS OF BULK AT MOST 1048576: true; the input reads as it did. -/
def binTurnedUptoRow : OpenClaim := { program := "ythadnogcocmfgaagreatdoor", sum := "1d74509c0283979700acf9a3bee5b8a6229e7f53f1dbf63edf03a5078902eaad", func := "outcry/outcrylaw06.BinTurned", spec := "binTurned", unfollowed := true, recurses := true, named := ["outcry/clock.monthDays"], apart := false, laid := [("outcry/clock.monthDays", laid_outcry_clock_monthDays)], narrowed := true }
def BinTurnedUptoSaid : Prop := binTurnedUptoRow.holds Tryz.pinned (OpenSpec.upto binTurnedSpec)

/-- 'outcrylaw06.BinEncodes', WHERE WHAT IT READS IS OF BULK AT MOST 1048576: true; the input reads as it did. -/
def binEncodesUptoRow : OpenClaim := { program := "ythadnogcocmfgaagreatdoor", sum := "1d74509c0283979700acf9a3bee5b8a6229e7f53f1dbf63edf03a5078902eaad", func := "outcry/outcrylaw06.BinEncodes", spec := "binEncodes", unfollowed := true, recurses := true, named := ["outcry/clock.monthDays"], apart := false, laid := [("outcry/clock.monthDays", laid_outcry_clock_monthDays)], narrowed := true }
def BinEncodesUptoSaid : Prop := binEncodesUptoRow.holds Tryz.pinned (OpenSpec.upto binEncodesSpec)

/-- 'outcrylaw06.BinDecodes', WHERE WHAT IT READS IS OF BULK AT MOST 1048576: true; the input reads as it did. -/
def binDecodesUptoRow : OpenClaim := { program := "ythadnogcocmfgaagreatdoor", sum := "1d74509c0283979700acf9a3bee5b8a6229e7f53f1dbf63edf03a5078902eaad", func := "outcry/outcrylaw06.BinDecodes", spec := "binDecodes", unfollowed := true, recurses := true, named := ["outcry/clock.monthDays"], apart := false, laid := [("outcry/clock.monthDays", laid_outcry_clock_monthDays)], narrowed := true }
def BinDecodesUptoSaid : Prop := binDecodesUptoRow.holds Tryz.pinned (OpenSpec.upto binDecodesSpec)

end Rows
end Go.Proofs.YthadnogcocmfgaaGreatDoor
