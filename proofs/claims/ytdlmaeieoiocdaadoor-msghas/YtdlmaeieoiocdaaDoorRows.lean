/-
  NARROWER THAN 'FOR EVERY INPUT', by the rows' own cells (each row's printed sentence says how): MsgMoves: laid · MsgBusiness: laid · MsgDrops: laid · MsgHas: laid · MsgNames: laid · MsgWords: laid.
  DERIVED. THE GIVEN ROWS OF THIS SEAT. 6 by the template 'for every input the law returns true; each argument reads behind the call as it read before'; 0 by the template 'total and deterministic' (their statements: YtdlmaeieoiocdaaDoorTotals.lean).
  GIVEN WITH THE SEED: the statements are not yours to turn. If you find one false, say at which input.
  Laid BY PROGRAM, IN A SANDBOX (cutbox-rows.mjs): the forced cells as the released guide's own fill.sh prints them over the translation c0d6df454f8c7055… (all of the seat's roots in one cut). By AI agents, Wed Nov 11 2026. No macro, syntax, notation, axiom, sorry.
-/
import Derived.Test.YtdlmaeieoiocdaaDoorChecked
import GoSem.Claim
import GoSem.ClaimJoined
import GoSem.ClaimMapViews
import Derived.JoinedTies
import Derived.KernelRfl
namespace Go.Proofs.YtdlmaeieoiocdaaDoor
/- THE CELL 'sum', in the pinned program and in every row, IS THE sha256 OF THE DUMP (.gsa) THAT YtdlmaeieoiocdaaDoorProg.lean LOADS. Nothing in Lean hashes anything: it is a label: what it is worth is what the hold of that sum in a sandbox is worth. -/
noncomputable def Tryd.pinned : Pinned := { name := "ytdlmaeieoiocdaadoor", sum := "c0d6df454f8c7055260f43b4e3864b3daf1d29f29d2385b5bde35e4919e1f666", checked := Tryd.checked }
namespace Rows
def none {H : Type} : Left H := { results := [], args := [] }

/- WHAT THE LISTED PACKAGE-LEVEL VARIABLES READ AS WHEN THE CALL BEGINS. Each datum BY PROGRAM (the guide's laid-datum.mjs) off the statement by which the dump's own 'gosem.cut.vars' lays the variable. In a bare row this is a premise. The card (YtdlmaeieoiocdaaDoorCards.lean) ties it to the program's text. -/
def laid_outcry_clock_monthDays {H : Type} : DataW H := .agg [.lit (.int .i64 31), .lit (.int .i64 28), .lit (.int .i64 31), .lit (.int .i64 30), .lit (.int .i64 31), .lit (.int .i64 30), .lit (.int .i64 31), .lit (.int .i64 31), .lit (.int .i64 30), .lit (.int .i64 31), .lit (.int .i64 30), .lit (.int .i64 31)]
def laid_outcry_msg_names {H : Type} : DataW H := .agg [.lit (.string [72, 101, 97, 114, 116, 98, 101, 97, 116]), .lit (.string [84, 101, 115, 116, 82, 101, 113, 117, 101, 115, 116]), .lit (.string [82, 101, 115, 101, 110, 100, 82, 101, 113, 117, 101, 115, 116]), .lit (.string [82, 101, 106, 101, 99, 116]), .lit (.string [83, 101, 113, 117, 101, 110, 99, 101, 82, 101, 115, 101, 116]), .lit (.string [76, 111, 103, 111, 117, 116]), .lit (.string [76, 111, 103, 111, 110]), .lit (.string [78, 101, 119, 79, 114, 100, 101, 114]), .lit (.string [67, 97, 110, 99, 101, 108, 79, 114, 100, 101, 114]), .lit (.string [82, 101, 112, 108, 97, 99, 101, 79, 114, 100, 101, 114]), .lit (.string [77, 97, 115, 115, 67, 97, 110, 99, 101, 108]), .lit (.string [65, 115, 107, 83, 116, 97, 116, 117, 115]), .lit (.string [69, 120, 101, 99, 117, 116, 105, 111, 110]), .lit (.string [67, 97, 110, 99, 101, 108, 82, 101, 106, 101, 99, 116]), .lit (.string [77, 97, 115, 115, 82, 101, 112, 111, 114, 116]), .lit (.string [82, 101, 102, 117, 115, 101, 100]), .lit (.string [83, 116, 97, 116, 117, 115])]

/-- 'outcrylaw03.MsgMoves': WHATEVER THE INPUT: true; the input reads as it did. -/
def msgMovesSpec : ChangeSpec := { name := "msgMoves", fn := fun _ => fun
  | [d1, d2, d3, d4, d5] => { results := [.lit (.bool true)], args := [d1, d2, d3, d4, d5] }
  | _ => none }
def msgMovesRow : OpenClaim := { program := "ytdlmaeieoiocdaadoor", sum := "c0d6df454f8c7055260f43b4e3864b3daf1d29f29d2385b5bde35e4919e1f666", func := "outcry/outcrylaw03.MsgMoves", spec := "msgMoves", unfollowed := true, recurses := true, named := ["outcry/clock.monthDays"], apart := false, laid := [("outcry/clock.monthDays", laid_outcry_clock_monthDays)] }
def MsgMovesSaid : Prop := msgMovesRow.holds Tryd.pinned (OpenSpec.ofChange msgMovesSpec)

/-- ITS FALSE NEIGHBOUR: 'it returns false'. Refute it at one input. -/
def msgMovesWrong : ChangeSpec := { name := "msgMoves", fn := fun _ => fun
  | [d1, d2, d3, d4, d5] => { results := [.lit (.bool false)], args := [d1, d2, d3, d4, d5] }
  | _ => none }
def MsgMovesWrongFalsely : Prop := msgMovesRow.holds Tryd.pinned (OpenSpec.ofChange msgMovesWrong)

/-- 'outcrylaw03.MsgBusiness': WHATEVER THE INPUT: true; the input reads as it did. -/
def msgBusinessSpec : ChangeSpec := { name := "msgBusiness", fn := fun _ => fun
  | [d] => { results := [.lit (.bool true)], args := [d] }
  | _ => none }
def msgBusinessRow : OpenClaim := { program := "ytdlmaeieoiocdaadoor", sum := "c0d6df454f8c7055260f43b4e3864b3daf1d29f29d2385b5bde35e4919e1f666", func := "outcry/outcrylaw03.MsgBusiness", spec := "msgBusiness", unfollowed := true, recurses := true, named := ["outcry/clock.monthDays"], apart := false, laid := [("outcry/clock.monthDays", laid_outcry_clock_monthDays)] }
def MsgBusinessSaid : Prop := msgBusinessRow.holds Tryd.pinned (OpenSpec.ofChange msgBusinessSpec)

/-- ITS FALSE NEIGHBOUR: 'it returns false'. Refute it at one input. -/
def msgBusinessWrong : ChangeSpec := { name := "msgBusiness", fn := fun _ => fun
  | [d] => { results := [.lit (.bool false)], args := [d] }
  | _ => none }
def MsgBusinessWrongFalsely : Prop := msgBusinessRow.holds Tryd.pinned (OpenSpec.ofChange msgBusinessWrong)

/-- 'outcrylaw03.MsgDrops': WHATEVER THE INPUT: true; the input reads as it did. -/
def msgDropsSpec : ChangeSpec := { name := "msgDrops", fn := fun _ => fun
  | [d1, d2] => { results := [.lit (.bool true)], args := [d1, d2] }
  | _ => none }
def msgDropsRow : OpenClaim := { program := "ytdlmaeieoiocdaadoor", sum := "c0d6df454f8c7055260f43b4e3864b3daf1d29f29d2385b5bde35e4919e1f666", func := "outcry/outcrylaw03.MsgDrops", spec := "msgDrops", unfollowed := true, recurses := true, named := ["outcry/clock.monthDays"], apart := false, laid := [("outcry/clock.monthDays", laid_outcry_clock_monthDays)] }
def MsgDropsSaid : Prop := msgDropsRow.holds Tryd.pinned (OpenSpec.ofChange msgDropsSpec)

/-- ITS FALSE NEIGHBOUR: 'it returns false'. Refute it at one input. -/
def msgDropsWrong : ChangeSpec := { name := "msgDrops", fn := fun _ => fun
  | [d1, d2] => { results := [.lit (.bool false)], args := [d1, d2] }
  | _ => none }
def MsgDropsWrongFalsely : Prop := msgDropsRow.holds Tryd.pinned (OpenSpec.ofChange msgDropsWrong)

/-- 'outcrylaw03.MsgHas': WHATEVER THE INPUT: true; the input reads as it did. -/
def msgHasSpec : ChangeSpec := { name := "msgHas", fn := fun _ => fun
  | [d1, d2] => { results := [.lit (.bool true)], args := [d1, d2] }
  | _ => none }
def msgHasRow : OpenClaim := { program := "ytdlmaeieoiocdaadoor", sum := "c0d6df454f8c7055260f43b4e3864b3daf1d29f29d2385b5bde35e4919e1f666", func := "outcry/outcrylaw03.MsgHas", spec := "msgHas", unfollowed := true, recurses := true, named := ["outcry/clock.monthDays"], apart := false, laid := [("outcry/clock.monthDays", laid_outcry_clock_monthDays)] }
def MsgHasSaid : Prop := msgHasRow.holds Tryd.pinned (OpenSpec.ofChange msgHasSpec)

/-- ITS FALSE NEIGHBOUR: 'it returns false'. Refute it at one input. -/
def msgHasWrong : ChangeSpec := { name := "msgHas", fn := fun _ => fun
  | [d1, d2] => { results := [.lit (.bool false)], args := [d1, d2] }
  | _ => none }
def MsgHasWrongFalsely : Prop := msgHasRow.holds Tryd.pinned (OpenSpec.ofChange msgHasWrong)

/-- 'outcrylaw03.MsgNames': WHATEVER THE INPUT: true; the input reads as it did. -/
def msgNamesSpec : ChangeSpec := { name := "msgNames", fn := fun _ => fun
  | [d] => { results := [.lit (.bool true)], args := [d] }
  | _ => none }
def msgNamesRow : OpenClaim := { program := "ytdlmaeieoiocdaadoor", sum := "c0d6df454f8c7055260f43b4e3864b3daf1d29f29d2385b5bde35e4919e1f666", func := "outcry/outcrylaw03.MsgNames", spec := "msgNames", unfollowed := true, recurses := true, named := ["outcry/clock.monthDays"], apart := false, laid := [("outcry/clock.monthDays", laid_outcry_clock_monthDays)] }
def MsgNamesSaid : Prop := msgNamesRow.holds Tryd.pinned (OpenSpec.ofChange msgNamesSpec)

/-- ITS FALSE NEIGHBOUR: 'it returns false'. Refute it at one input. -/
def msgNamesWrong : ChangeSpec := { name := "msgNames", fn := fun _ => fun
  | [d] => { results := [.lit (.bool false)], args := [d] }
  | _ => none }
def MsgNamesWrongFalsely : Prop := msgNamesRow.holds Tryd.pinned (OpenSpec.ofChange msgNamesWrong)

/-- 'outcrylaw03.MsgWords': WHATEVER THE INPUT: true; the input reads as it did. -/
def msgWordsSpec : ChangeSpec := { name := "msgWords", fn := fun _ => fun
  | [d1, d2] => { results := [.lit (.bool true)], args := [d1, d2] }
  | _ => none }
def msgWordsRow : OpenClaim := { program := "ytdlmaeieoiocdaadoor", sum := "c0d6df454f8c7055260f43b4e3864b3daf1d29f29d2385b5bde35e4919e1f666", func := "outcry/outcrylaw03.MsgWords", spec := "msgWords", unfollowed := true, recurses := true, named := ["outcry/clock.monthDays", "outcry/msg.names"], apart := false, laid := [("outcry/clock.monthDays", laid_outcry_clock_monthDays), ("outcry/msg.names", laid_outcry_msg_names)] }
def MsgWordsSaid : Prop := msgWordsRow.holds Tryd.pinned (OpenSpec.ofChange msgWordsSpec)

/-- ITS FALSE NEIGHBOUR: 'it returns false'. Refute it at one input. -/
def msgWordsWrong : ChangeSpec := { name := "msgWords", fn := fun _ => fun
  | [d1, d2] => { results := [.lit (.bool false)], args := [d1, d2] }
  | _ => none }
def MsgWordsWrongFalsely : Prop := msgWordsRow.holds Tryd.pinned (OpenSpec.ofChange msgWordsWrong)

/- THE SECOND FORM. 'bulk': how many values and letters a reading holds, each counted each time it is reached (what is shared counts as often as it is met; a slice's spare places count too). A statement '..UptoSaid' is the law's where the arguments, and the package variables that the reading takes, are together of bulk at most 1048576: NARROWER than '..Said'. Prove '..Said' where nothing that the law and all that it calls make is longer than what came in: it says more and counts as full. Else prove '..UptoSaid'. A law counts once. -/
mutual
def uptoBulk {H : Type} : DataW H → Nat
  | .lit (.string bytes) => bytes.length + 1
  | .lit _ => 1
  | .nil => 1
  | .ptr d => uptoBulk d + 1
  | .slice elems spare => uptoBulkAll elems + uptoBulkAll spare + 1
  | .agg parts => uptoBulkAll parts + 1
  | .iface _ d => uptoBulk d + 1
  | .map entries => uptoBulkEntries entries + 1
  | .held _ => 1
def uptoBulkAll {H : Type} : List (DataW H) → Nat
  | [] => 0
  | d :: r => uptoBulk d + uptoBulkAll r
def uptoBulkEntries {H : Type} : List (Lit × DataW H) → Nat
  | [] => 0
  | x :: r => uptoBulkEntry x + uptoBulkEntries r
def uptoBulkEntry {H : Type} : Lit × DataW H → Nat
  | (.string bytes, d) => bytes.length + uptoBulk d + 1
  | (_, d) => uptoBulk d + 1
 end
def uptoSmall : (H : Type) → List (DataW H) → Bool := fun _ ds => decide (uptoBulkAll ds ≤ 1048576)
def OpenSpec.upto (s : _root_.Go.ChangeSpec) : _root_.Go.OpenSpec := { _root_.Go.OpenSpec.ofChange s with cond := some uptoSmall }

/-- 'outcrylaw03.MsgMoves', WHERE WHAT IT READS IS OF BULK AT MOST 1048576: true; the input reads as it did. -/
def msgMovesUptoRow : OpenClaim := { program := "ytdlmaeieoiocdaadoor", sum := "c0d6df454f8c7055260f43b4e3864b3daf1d29f29d2385b5bde35e4919e1f666", func := "outcry/outcrylaw03.MsgMoves", spec := "msgMoves", unfollowed := true, recurses := true, named := ["outcry/clock.monthDays"], apart := false, laid := [("outcry/clock.monthDays", laid_outcry_clock_monthDays)], narrowed := true }
def MsgMovesUptoSaid : Prop := msgMovesUptoRow.holds Tryd.pinned (OpenSpec.upto msgMovesSpec)

/-- 'outcrylaw03.MsgBusiness', WHERE WHAT IT READS IS OF BULK AT MOST 1048576: true; the input reads as it did. -/
def msgBusinessUptoRow : OpenClaim := { program := "ytdlmaeieoiocdaadoor", sum := "c0d6df454f8c7055260f43b4e3864b3daf1d29f29d2385b5bde35e4919e1f666", func := "outcry/outcrylaw03.MsgBusiness", spec := "msgBusiness", unfollowed := true, recurses := true, named := ["outcry/clock.monthDays"], apart := false, laid := [("outcry/clock.monthDays", laid_outcry_clock_monthDays)], narrowed := true }
def MsgBusinessUptoSaid : Prop := msgBusinessUptoRow.holds Tryd.pinned (OpenSpec.upto msgBusinessSpec)

/-- 'outcrylaw03.MsgDrops', WHERE WHAT IT READS IS OF BULK AT MOST 1048576: true; the input reads as it did. -/
def msgDropsUptoRow : OpenClaim := { program := "ytdlmaeieoiocdaadoor", sum := "c0d6df454f8c7055260f43b4e3864b3daf1d29f29d2385b5bde35e4919e1f666", func := "outcry/outcrylaw03.MsgDrops", spec := "msgDrops", unfollowed := true, recurses := true, named := ["outcry/clock.monthDays"], apart := false, laid := [("outcry/clock.monthDays", laid_outcry_clock_monthDays)], narrowed := true }
def MsgDropsUptoSaid : Prop := msgDropsUptoRow.holds Tryd.pinned (OpenSpec.upto msgDropsSpec)

/-- 'outcrylaw03.MsgHas', WHERE WHAT IT READS IS OF BULK AT MOST 1048576: true; the input reads as it did. -/
def msgHasUptoRow : OpenClaim := { program := "ytdlmaeieoiocdaadoor", sum := "c0d6df454f8c7055260f43b4e3864b3daf1d29f29d2385b5bde35e4919e1f666", func := "outcry/outcrylaw03.MsgHas", spec := "msgHas", unfollowed := true, recurses := true, named := ["outcry/clock.monthDays"], apart := false, laid := [("outcry/clock.monthDays", laid_outcry_clock_monthDays)], narrowed := true }
def MsgHasUptoSaid : Prop := msgHasUptoRow.holds Tryd.pinned (OpenSpec.upto msgHasSpec)

/-- 'outcrylaw03.MsgNames', WHERE WHAT IT READS IS OF BULK AT MOST 1048576: true; the input reads as it did. -/
def msgNamesUptoRow : OpenClaim := { program := "ytdlmaeieoiocdaadoor", sum := "c0d6df454f8c7055260f43b4e3864b3daf1d29f29d2385b5bde35e4919e1f666", func := "outcry/outcrylaw03.MsgNames", spec := "msgNames", unfollowed := true, recurses := true, named := ["outcry/clock.monthDays"], apart := false, laid := [("outcry/clock.monthDays", laid_outcry_clock_monthDays)], narrowed := true }
def MsgNamesUptoSaid : Prop := msgNamesUptoRow.holds Tryd.pinned (OpenSpec.upto msgNamesSpec)

/-- 'outcrylaw03.MsgWords', WHERE WHAT IT READS IS OF BULK AT MOST 1048576: true; the input reads as it did. -/
def msgWordsUptoRow : OpenClaim := { program := "ytdlmaeieoiocdaadoor", sum := "c0d6df454f8c7055260f43b4e3864b3daf1d29f29d2385b5bde35e4919e1f666", func := "outcry/outcrylaw03.MsgWords", spec := "msgWords", unfollowed := true, recurses := true, named := ["outcry/clock.monthDays", "outcry/msg.names"], apart := false, laid := [("outcry/clock.monthDays", laid_outcry_clock_monthDays), ("outcry/msg.names", laid_outcry_msg_names)], narrowed := true }
def MsgWordsUptoSaid : Prop := msgWordsUptoRow.holds Tryd.pinned (OpenSpec.upto msgWordsSpec)

end Rows
end Go.Proofs.YtdlmaeieoiocdaaDoor
