/-
  NARROWER THAN 'FOR EVERY INPUT', by the rows' own cells (each row's printed sentence says how): ClockDates: laid · ClockOrder: laid · ClockSums: laid · ClockReads: laid · ClockBack: laid · ClockDays: laid.
  DERIVED. THE GIVEN ROWS OF THIS SEAT. 6 by the template 'for every input the law returns true; each argument reads behind the call as it read before'; 0 by the template 'total and deterministic' (their statements: YteafaglhlggknaaDoorTotals.lean).
  GIVEN WITH THE SEED: the statements are not yours to turn. If you find one false, say at which input.
  Laid BY PROGRAM, IN A SANDBOX (cutbox-rows.mjs): the forced cells as the released guide's own fill.sh prints them over the translation 9ab64e216e50b469… (all of the seat's roots in one cut). By AI agents, Wed Nov 11 2026. No macro, syntax, notation, axiom, sorry.
-/
import Derived.Test.YteafaglhlggknaaDoorChecked
import GoSem.Claim
import GoSem.ClaimJoined
import GoSem.ClaimMapViews
import Derived.JoinedTies
import Derived.KernelRfl
namespace Go.Proofs.YteafaglhlggknaaDoor
/- THE CELL 'sum', in the pinned program and in every row, IS THE sha256 OF THE DUMP (.gsa) THAT YteafaglhlggknaaDoorProg.lean LOADS. Nothing in Lean hashes anything: it is a label: what it is worth is what the hold of that sum in a sandbox is worth. -/
noncomputable def Tryd.pinned : Pinned := { name := "yteafaglhlggknaadoor", sum := "9ab64e216e50b469994c8d2032b52b5e5fea0938f002281b7affe620002cff8d", checked := Tryd.checked }
namespace Rows
def none {H : Type} : Left H := { results := [], args := [] }

/- WHAT THE LISTED PACKAGE-LEVEL VARIABLES READ AS WHEN THE CALL BEGINS. Each datum BY PROGRAM (the guide's laid-datum.mjs) off the statement by which the dump's own 'gosem.cut.vars' lays the variable. In a bare row this is a premise. The card (YteafaglhlggknaaDoorCards.lean) ties it to the program's text. -/
def laid_outcry_clock_monthDays {H : Type} : DataW H := .agg [.lit (.int .i64 31), .lit (.int .i64 28), .lit (.int .i64 31), .lit (.int .i64 30), .lit (.int .i64 31), .lit (.int .i64 30), .lit (.int .i64 31), .lit (.int .i64 31), .lit (.int .i64 30), .lit (.int .i64 31), .lit (.int .i64 30), .lit (.int .i64 31)]

/-- 'outcrylaw02.ClockDates': WHATEVER THE INPUT: true; the input reads as it did. -/
def clockDatesSpec : ChangeSpec := { name := "clockDates", fn := fun _ => fun
  | [d1, d2, d3] => { results := [.lit (.bool true)], args := [d1, d2, d3] }
  | _ => none }
def clockDatesRow : OpenClaim := { program := "yteafaglhlggknaadoor", sum := "9ab64e216e50b469994c8d2032b52b5e5fea0938f002281b7affe620002cff8d", func := "outcry/outcrylaw02.ClockDates", spec := "clockDates", unfollowed := true, recurses := true, named := ["outcry/clock.monthDays"], apart := false, laid := [("outcry/clock.monthDays", laid_outcry_clock_monthDays)] }
def ClockDatesSaid : Prop := clockDatesRow.holds Tryd.pinned (OpenSpec.ofChange clockDatesSpec)

/-- ITS FALSE NEIGHBOUR: 'it returns false'. Refute it at one input. -/
def clockDatesWrong : ChangeSpec := { name := "clockDates", fn := fun _ => fun
  | [d1, d2, d3] => { results := [.lit (.bool false)], args := [d1, d2, d3] }
  | _ => none }
def ClockDatesWrongFalsely : Prop := clockDatesRow.holds Tryd.pinned (OpenSpec.ofChange clockDatesWrong)

/-- 'outcrylaw02.ClockOrder': WHATEVER THE INPUT: true; the input reads as it did. -/
def clockOrderSpec : ChangeSpec := { name := "clockOrder", fn := fun _ => fun
  | [d1, d2] => { results := [.lit (.bool true)], args := [d1, d2] }
  | _ => none }
def clockOrderRow : OpenClaim := { program := "yteafaglhlggknaadoor", sum := "9ab64e216e50b469994c8d2032b52b5e5fea0938f002281b7affe620002cff8d", func := "outcry/outcrylaw02.ClockOrder", spec := "clockOrder", unfollowed := true, recurses := true, named := ["outcry/clock.monthDays"], apart := false, laid := [("outcry/clock.monthDays", laid_outcry_clock_monthDays)] }
def ClockOrderSaid : Prop := clockOrderRow.holds Tryd.pinned (OpenSpec.ofChange clockOrderSpec)

/-- ITS FALSE NEIGHBOUR: 'it returns false'. Refute it at one input. -/
def clockOrderWrong : ChangeSpec := { name := "clockOrder", fn := fun _ => fun
  | [d1, d2] => { results := [.lit (.bool false)], args := [d1, d2] }
  | _ => none }
def ClockOrderWrongFalsely : Prop := clockOrderRow.holds Tryd.pinned (OpenSpec.ofChange clockOrderWrong)

/-- 'outcrylaw02.ClockSums': WHATEVER THE INPUT: true; the input reads as it did. -/
def clockSumsSpec : ChangeSpec := { name := "clockSums", fn := fun _ => fun
  | [d1, d2, d3, d4] => { results := [.lit (.bool true)], args := [d1, d2, d3, d4] }
  | _ => none }
def clockSumsRow : OpenClaim := { program := "yteafaglhlggknaadoor", sum := "9ab64e216e50b469994c8d2032b52b5e5fea0938f002281b7affe620002cff8d", func := "outcry/outcrylaw02.ClockSums", spec := "clockSums", unfollowed := true, recurses := true, named := ["outcry/clock.monthDays"], apart := false, laid := [("outcry/clock.monthDays", laid_outcry_clock_monthDays)] }
def ClockSumsSaid : Prop := clockSumsRow.holds Tryd.pinned (OpenSpec.ofChange clockSumsSpec)

/-- ITS FALSE NEIGHBOUR: 'it returns false'. Refute it at one input. -/
def clockSumsWrong : ChangeSpec := { name := "clockSums", fn := fun _ => fun
  | [d1, d2, d3, d4] => { results := [.lit (.bool false)], args := [d1, d2, d3, d4] }
  | _ => none }
def ClockSumsWrongFalsely : Prop := clockSumsRow.holds Tryd.pinned (OpenSpec.ofChange clockSumsWrong)

/-- 'outcrylaw02.ClockReads': WHATEVER THE INPUT: true; the input reads as it did. -/
def clockReadsSpec : ChangeSpec := { name := "clockReads", fn := fun _ => fun
  | [d] => { results := [.lit (.bool true)], args := [d] }
  | _ => none }
def clockReadsRow : OpenClaim := { program := "yteafaglhlggknaadoor", sum := "9ab64e216e50b469994c8d2032b52b5e5fea0938f002281b7affe620002cff8d", func := "outcry/outcrylaw02.ClockReads", spec := "clockReads", unfollowed := true, recurses := true, named := ["outcry/clock.monthDays"], apart := false, laid := [("outcry/clock.monthDays", laid_outcry_clock_monthDays)] }
def ClockReadsSaid : Prop := clockReadsRow.holds Tryd.pinned (OpenSpec.ofChange clockReadsSpec)

/-- ITS FALSE NEIGHBOUR: 'it returns false'. Refute it at one input. -/
def clockReadsWrong : ChangeSpec := { name := "clockReads", fn := fun _ => fun
  | [d] => { results := [.lit (.bool false)], args := [d] }
  | _ => none }
def ClockReadsWrongFalsely : Prop := clockReadsRow.holds Tryd.pinned (OpenSpec.ofChange clockReadsWrong)

/-- 'outcrylaw02.ClockBack': WHATEVER THE INPUT: true; the input reads as it did. -/
def clockBackSpec : ChangeSpec := { name := "clockBack", fn := fun _ => fun
  | [d] => { results := [.lit (.bool true)], args := [d] }
  | _ => none }
def clockBackRow : OpenClaim := { program := "yteafaglhlggknaadoor", sum := "9ab64e216e50b469994c8d2032b52b5e5fea0938f002281b7affe620002cff8d", func := "outcry/outcrylaw02.ClockBack", spec := "clockBack", unfollowed := true, recurses := true, named := ["outcry/clock.monthDays"], apart := false, laid := [("outcry/clock.monthDays", laid_outcry_clock_monthDays)] }
def ClockBackSaid : Prop := clockBackRow.holds Tryd.pinned (OpenSpec.ofChange clockBackSpec)

/-- ITS FALSE NEIGHBOUR: 'it returns false'. Refute it at one input. -/
def clockBackWrong : ChangeSpec := { name := "clockBack", fn := fun _ => fun
  | [d] => { results := [.lit (.bool false)], args := [d] }
  | _ => none }
def ClockBackWrongFalsely : Prop := clockBackRow.holds Tryd.pinned (OpenSpec.ofChange clockBackWrong)

/-- 'outcrylaw02.ClockDays': WHATEVER THE INPUT: true; the input reads as it did. -/
def clockDaysSpec : ChangeSpec := { name := "clockDays", fn := fun _ => fun
  | [d] => { results := [.lit (.bool true)], args := [d] }
  | _ => none }
def clockDaysRow : OpenClaim := { program := "yteafaglhlggknaadoor", sum := "9ab64e216e50b469994c8d2032b52b5e5fea0938f002281b7affe620002cff8d", func := "outcry/outcrylaw02.ClockDays", spec := "clockDays", unfollowed := true, recurses := true, named := ["outcry/clock.monthDays"], apart := false, laid := [("outcry/clock.monthDays", laid_outcry_clock_monthDays)] }
def ClockDaysSaid : Prop := clockDaysRow.holds Tryd.pinned (OpenSpec.ofChange clockDaysSpec)

/-- ITS FALSE NEIGHBOUR: 'it returns false'. Refute it at one input. -/
def clockDaysWrong : ChangeSpec := { name := "clockDays", fn := fun _ => fun
  | [d] => { results := [.lit (.bool false)], args := [d] }
  | _ => none }
def ClockDaysWrongFalsely : Prop := clockDaysRow.holds Tryd.pinned (OpenSpec.ofChange clockDaysWrong)

/- THE SECOND FORM. 'bulk': how many values and letters a reading holds, each counted each time it is reached (what is shared counts as often as it is met; a slice's spare places count too). A statement '..UptoSaid' is the law's where the arguments, and the package variables that the reading takes, are together of bulk at most 1048576: NARROWER than '..Said'. Prove '..Said' where nothing that the law and all that it calls make is longer than what came in: it says more and counts as full. Else prove '..UptoSaid'. A law counts once. -/
mutual
def uptoBulk {H : Type} : DataW H → Nat
  | .lit (.string bytes) => bytes.length + 1
  | .lit _ => 1
  | .nil => 1
  | .ptr d => uptoBulk d + 1
  | .slice elems spare => uptoBulkAll elems + uptoBulkAll spare + 1
  | .agg parts => uptoBulkAll parts + 1
  | .iface _ d => uptoBulk d + 1
  | .map entries => uptoBulkEntries entries + 1
  | .held _ => 1
def uptoBulkAll {H : Type} : List (DataW H) → Nat
  | [] => 0
  | d :: r => uptoBulk d + uptoBulkAll r
def uptoBulkEntries {H : Type} : List (Lit × DataW H) → Nat
  | [] => 0
  | x :: r => uptoBulkEntry x + uptoBulkEntries r
def uptoBulkEntry {H : Type} : Lit × DataW H → Nat
  | (.string bytes, d) => bytes.length + uptoBulk d + 1
  | (_, d) => uptoBulk d + 1
 end
def uptoSmall : (H : Type) → List (DataW H) → Bool := fun _ ds => decide (uptoBulkAll ds ≤ 1048576)
def OpenSpec.upto (s : _root_.Go.ChangeSpec) : _root_.Go.OpenSpec := { _root_.Go.OpenSpec.ofChange s with cond := some uptoSmall }

/-- 'outcrylaw02.ClockDates', WHERE WHAT IT READS IS OF BULK AT MOST 1048576: true; the input reads as it did. -/
def clockDatesUptoRow : OpenClaim := { program := "yteafaglhlggknaadoor", sum := "9ab64e216e50b469994c8d2032b52b5e5fea0938f002281b7affe620002cff8d", func := "outcry/outcrylaw02.ClockDates", spec := "clockDates", unfollowed := true, recurses := true, named := ["outcry/clock.monthDays"], apart := false, laid := [("outcry/clock.monthDays", laid_outcry_clock_monthDays)], narrowed := true }
def ClockDatesUptoSaid : Prop := clockDatesUptoRow.holds Tryd.pinned (OpenSpec.upto clockDatesSpec)

/-- 'outcrylaw02.ClockOrder', WHERE WHAT IT READS IS OF BULK AT MOST 1048576: true; the input reads as it did. -/
def clockOrderUptoRow : OpenClaim := { program := "yteafaglhlggknaadoor", sum := "9ab64e216e50b469994c8d2032b52b5e5fea0938f002281b7affe620002cff8d", func := "outcry/outcrylaw02.ClockOrder", spec := "clockOrder", unfollowed := true, recurses := true, named := ["outcry/clock.monthDays"], apart := false, laid := [("outcry/clock.monthDays", laid_outcry_clock_monthDays)], narrowed := true }
def ClockOrderUptoSaid : Prop := clockOrderUptoRow.holds Tryd.pinned (OpenSpec.upto clockOrderSpec)

/-- 'outcrylaw02.ClockSums', WHERE WHAT IT READS IS OF BULK AT MOST 1048576: true; the input reads as it did. -/
def clockSumsUptoRow : OpenClaim := { program := "yteafaglhlggknaadoor", sum := "9ab64e216e50b469994c8d2032b52b5e5fea0938f002281b7affe620002cff8d", func := "outcry/outcrylaw02.ClockSums", spec := "clockSums", unfollowed := true, recurses := true, named := ["outcry/clock.monthDays"], apart := false, laid := [("outcry/clock.monthDays", laid_outcry_clock_monthDays)], narrowed := true }
def ClockSumsUptoSaid : Prop := clockSumsUptoRow.holds Tryd.pinned (OpenSpec.upto clockSumsSpec)

/-- 'outcrylaw02.ClockReads', WHERE WHAT IT READS IS OF BULK AT MOST 1048576: true; the input reads as it did. -/
def clockReadsUptoRow : OpenClaim := { program := "yteafaglhlggknaadoor", sum := "9ab64e216e50b469994c8d2032b52b5e5fea0938f002281b7affe620002cff8d", func := "outcry/outcrylaw02.ClockReads", spec := "clockReads", unfollowed := true, recurses := true, named := ["outcry/clock.monthDays"], apart := false, laid := [("outcry/clock.monthDays", laid_outcry_clock_monthDays)], narrowed := true }
def ClockReadsUptoSaid : Prop := clockReadsUptoRow.holds Tryd.pinned (OpenSpec.upto clockReadsSpec)

/-- 'outcrylaw02.ClockBack', WHERE WHAT IT READS IS OF BULK AT MOST 1048576: true; the input reads as it did. -/
def clockBackUptoRow : OpenClaim := { program := "yteafaglhlggknaadoor", sum := "9ab64e216e50b469994c8d2032b52b5e5fea0938f002281b7affe620002cff8d", func := "outcry/outcrylaw02.ClockBack", spec := "clockBack", unfollowed := true, recurses := true, named := ["outcry/clock.monthDays"], apart := false, laid := [("outcry/clock.monthDays", laid_outcry_clock_monthDays)], narrowed := true }
def ClockBackUptoSaid : Prop := clockBackUptoRow.holds Tryd.pinned (OpenSpec.upto clockBackSpec)

/-- 'outcrylaw02.ClockDays', WHERE WHAT IT READS IS OF BULK AT MOST 1048576: true; the input reads as it did. -/
def clockDaysUptoRow : OpenClaim := { program := "yteafaglhlggknaadoor", sum := "9ab64e216e50b469994c8d2032b52b5e5fea0938f002281b7affe620002cff8d", func := "outcry/outcrylaw02.ClockDays", spec := "clockDays", unfollowed := true, recurses := true, named := ["outcry/clock.monthDays"], apart := false, laid := [("outcry/clock.monthDays", laid_outcry_clock_monthDays)], narrowed := true }
def ClockDaysUptoSaid : Prop := clockDaysUptoRow.holds Tryd.pinned (OpenSpec.upto clockDaysSpec)

end Rows
end Go.Proofs.YteafaglhlggknaaDoor
