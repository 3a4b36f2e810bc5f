/-
  NARROWER THAN 'FOR EVERY INPUT', by the rows' own cells (each row's printed sentence says how): ListingPhases: laid · ListingTicks: laid.
  DERIVED. THE GIVEN ROWS OF THIS SEAT. 2 by the template 'for every input the law returns true; each argument reads behind the call as it read before'; 0 by the template 'total and deterministic' (their statements: YtnhkmfofkhhnaaaDoorTotals.lean).
  GIVEN WITH THE SEED: the statements are not yours to turn. If you find one false, say at which input.
  Laid BY PROGRAM, IN A SANDBOX (cutbox-rows.mjs): the forced cells as the released guide's own fill.sh prints them over the translation 62c6d81e7ddce2b0… (all of the seat's roots in one cut). By AI agents, Wed Nov 11 2026. No macro, syntax, notation, axiom, sorry.
-/
import Derived.Test.YtnhkmfofkhhnaaaDoorChecked
import GoSem.Claim
import GoSem.ClaimJoined
import GoSem.ClaimMapViews
import Derived.JoinedTies
import Derived.KernelRfl
namespace Go.Proofs.YtnhkmfofkhhnaaaDoor
/- THE CELL 'sum', in the pinned program and in every row, IS THE sha256 OF THE DUMP (.gsa) THAT YtnhkmfofkhhnaaaDoorProg.lean LOADS. Nothing in Lean hashes anything: it is a label: what it is worth is what the hold of that sum in a sandbox is worth. -/
noncomputable def Tryd.pinned : Pinned := { name := "ytnhkmfofkhhnaaadoor", sum := "62c6d81e7ddce2b0e726c57ec5cb902342310bb0c47f3cb61635e0e42c46631a", checked := Tryd.checked }
namespace Rows
def none {H : Type} : Left H := { results := [], args := [] }

/- WHAT THE LISTED PACKAGE-LEVEL VARIABLES READ AS WHEN THE CALL BEGINS. Each datum BY PROGRAM (the guide's laid-datum.mjs) off the statement by which the dump's own 'gosem.cut.vars' lays the variable. In a bare row this is a premise. The card (YtnhkmfofkhhnaaaDoorCards.lean) ties it to the program's text. -/
def laid_outcry_clock_monthDays {H : Type} : DataW H := .agg [.lit (.int .i64 31), .lit (.int .i64 28), .lit (.int .i64 31), .lit (.int .i64 30), .lit (.int .i64 31), .lit (.int .i64 30), .lit (.int .i64 31), .lit (.int .i64 31), .lit (.int .i64 30), .lit (.int .i64 31), .lit (.int .i64 30), .lit (.int .i64 31)]

/-- 'outcrylaw10.ListingPhases': WHATEVER THE INPUT: true; the input reads as it did. -/
def listingPhasesSpec : ChangeSpec := { name := "listingPhases", fn := fun _ => fun
  | [d1, d2] => { results := [.lit (.bool true)], args := [d1, d2] }
  | _ => none }
def listingPhasesRow : OpenClaim := { program := "ytnhkmfofkhhnaaadoor", sum := "62c6d81e7ddce2b0e726c57ec5cb902342310bb0c47f3cb61635e0e42c46631a", func := "outcry/outcrylaw10.ListingPhases", spec := "listingPhases", unfollowed := true, recurses := true, named := ["outcry/clock.monthDays", "math/bits.divideError", "math/bits.overflowError"], apart := false, laid := [("outcry/clock.monthDays", laid_outcry_clock_monthDays)] }
def ListingPhasesSaid : Prop := listingPhasesRow.holds Tryd.pinned (OpenSpec.ofChange listingPhasesSpec)

/-- ITS FALSE NEIGHBOUR: 'it returns false'. Refute it at one input. -/
def listingPhasesWrong : ChangeSpec := { name := "listingPhases", fn := fun _ => fun
  | [d1, d2] => { results := [.lit (.bool false)], args := [d1, d2] }
  | _ => none }
def ListingPhasesWrongFalsely : Prop := listingPhasesRow.holds Tryd.pinned (OpenSpec.ofChange listingPhasesWrong)

/-- 'outcrylaw10.ListingTicks': WHATEVER THE INPUT: true; the input reads as it did. -/
def listingTicksSpec : ChangeSpec := { name := "listingTicks", fn := fun _ => fun
  | [d1, d2] => { results := [.lit (.bool true)], args := [d1, d2] }
  | _ => none }
def listingTicksRow : OpenClaim := { program := "ytnhkmfofkhhnaaadoor", sum := "62c6d81e7ddce2b0e726c57ec5cb902342310bb0c47f3cb61635e0e42c46631a", func := "outcry/outcrylaw10.ListingTicks", spec := "listingTicks", unfollowed := true, recurses := true, named := ["outcry/clock.monthDays", "math/bits.divideError", "math/bits.overflowError"], apart := false, laid := [("outcry/clock.monthDays", laid_outcry_clock_monthDays)] }
def ListingTicksSaid : Prop := listingTicksRow.holds Tryd.pinned (OpenSpec.ofChange listingTicksSpec)

/-- ITS FALSE NEIGHBOUR: 'it returns false'. Refute it at one input. -/
def listingTicksWrong : ChangeSpec := { name := "listingTicks", fn := fun _ => fun
  | [d1, d2] => { results := [.lit (.bool false)], args := [d1, d2] }
  | _ => none }
def ListingTicksWrongFalsely : Prop := listingTicksRow.holds Tryd.pinned (OpenSpec.ofChange listingTicksWrong)

/- THE SECOND FORM. 'bulk': how many values and letters a reading holds, each counted each time it is reached (what is shared counts as often as it is met; a slice's spare places count too). A statement '..UptoSaid' is the law's where the arguments, and the package variables that the reading takes, are together of bulk at most 1048576: NARROWER than '..Said'. Prove '..Said' where nothing that the law and all that it calls make is longer than what came in: it says more and counts as full. Else prove '..UptoSaid'. A law counts once. -/
mutual
def uptoBulk {H : Type} : DataW H → Nat
  | .lit (.string bytes) => bytes.length + 1
  | .lit _ => 1
  | .nil => 1
  | .ptr d => uptoBulk d + 1
  | .slice elems spare => uptoBulkAll elems + uptoBulkAll spare + 1
  | .agg parts => uptoBulkAll parts + 1
  | .iface _ d => uptoBulk d + 1
  | .map entries => uptoBulkEntries entries + 1
  | .held _ => 1
def uptoBulkAll {H : Type} : List (DataW H) → Nat
  | [] => 0
  | d :: r => uptoBulk d + uptoBulkAll r
def uptoBulkEntries {H : Type} : List (Lit × DataW H) → Nat
  | [] => 0
  | x :: r => uptoBulkEntry x + uptoBulkEntries r
def uptoBulkEntry {H : Type} : Lit × DataW H → Nat
  | (.string bytes, d) => bytes.length + uptoBulk d + 1
  | (_, d) => uptoBulk d + 1
 end
def uptoSmall : (H : Type) → List (DataW H) → Bool := fun _ ds => decide (uptoBulkAll ds ≤ 1048576)
def OpenSpec.upto (s : _root_.Go.ChangeSpec) : _root_.Go.OpenSpec := { _root_.Go.OpenSpec.ofChange s with cond := some uptoSmall }

/-- 'outcrylaw10.ListingPhases', WHERE WHAT IT READS IS OF BULK AT MOST 1048576: true; the input reads as it did. -/
def listingPhasesUptoRow : OpenClaim := { program := "ytnhkmfofkhhnaaadoor", sum := "62c6d81e7ddce2b0e726c57ec5cb902342310bb0c47f3cb61635e0e42c46631a", func := "outcry/outcrylaw10.ListingPhases", spec := "listingPhases", unfollowed := true, recurses := true, named := ["outcry/clock.monthDays", "math/bits.divideError", "math/bits.overflowError"], apart := false, laid := [("outcry/clock.monthDays", laid_outcry_clock_monthDays)], narrowed := true }
def ListingPhasesUptoSaid : Prop := listingPhasesUptoRow.holds Tryd.pinned (OpenSpec.upto listingPhasesSpec)

/-- 'outcrylaw10.ListingTicks', WHERE WHAT IT READS IS OF BULK AT MOST 1048576: true; the input reads as it did. -/
def listingTicksUptoRow : OpenClaim := { program := "ytnhkmfofkhhnaaadoor", sum := "62c6d81e7ddce2b0e726c57ec5cb902342310bb0c47f3cb61635e0e42c46631a", func := "outcry/outcrylaw10.ListingTicks", spec := "listingTicks", unfollowed := true, recurses := true, named := ["outcry/clock.monthDays", "math/bits.divideError", "math/bits.overflowError"], apart := false, laid := [("outcry/clock.monthDays", laid_outcry_clock_monthDays)], narrowed := true }
def ListingTicksUptoSaid : Prop := listingTicksUptoRow.holds Tryd.pinned (OpenSpec.upto listingTicksSpec)

end Rows
end Go.Proofs.YtnhkmfofkhhnaaaDoor
