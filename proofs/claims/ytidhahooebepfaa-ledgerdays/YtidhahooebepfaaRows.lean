/-
  No cell of these rows narrows 'for every input' (looked for: loops, veiled, ifaces, maps, wideKeys, modest, calm, conditions, laid).
  DERIVED. THE GIVEN ROWS OF THIS SEAT. 5 by the template 'for every input the law returns true; each argument reads behind the call as it read before'; 0 by the template 'total and deterministic' (their statements: YtidhahooebepfaaTotals.lean).
  GIVEN WITH THE SEED: the statements are not yours to turn. If you find one false, say at which input.
  Laid BY PROGRAM, IN A SANDBOX (cutbox-rows.mjs): the forced cells as the released guide's own fill.sh prints them over the translation 7a3bd4a7e59d5ecd… (all of the seat's roots in one cut). By AI agents, Wed Nov 11 2026. No macro, syntax, notation, axiom, sorry.
-/
import Derived.Test.YtidhahooebepfaaChecked
import GoSem.Claim
import GoSem.ClaimJoined
import GoSem.ClaimMapViews
import Derived.JoinedTies
import Derived.KernelRfl
namespace Go.Proofs.Ytidhahooebepfaa
/- THE CELL 'sum', in the pinned program and in every row, IS THE sha256 OF THE DUMP (.gsa) THAT YtidhahooebepfaaProg.lean LOADS. Nothing in Lean hashes anything: it is a label: what it is worth is what the hold of that sum in a sandbox is worth. -/
noncomputable def Try.pinned : Pinned := { name := "ytidhahooebepfaa", sum := "7a3bd4a7e59d5ecd6446696e2da3bc603c9273b55e615299c87cb8b481c25fc0", checked := Try.checked }
namespace Rows
def none {H : Type} : Left H := { results := [], args := [] }

/-- 'outcrylaw17.LedgerMany': WHATEVER THE INPUT: true; the input reads as it did. -/
def ledgerManySpec : ChangeSpec := { name := "ledgerMany", fn := fun _ => fun
  | [d] => { results := [.lit (.bool true)], args := [d] }
  | _ => none }
def ledgerManyRow : OpenClaim := { program := "ytidhahooebepfaa", sum := "7a3bd4a7e59d5ecd6446696e2da3bc603c9273b55e615299c87cb8b481c25fc0", func := "outcry/outcrylaw17.LedgerMany", spec := "ledgerMany", unfollowed := true, recurses := true, plainKeys := false, apart := false }
def LedgerManySaid : Prop := ledgerManyRow.holds Try.pinned (OpenSpec.ofChange ledgerManySpec)

/-- ITS FALSE NEIGHBOUR: 'it returns false'. Refute it at one input. -/
def ledgerManyWrong : ChangeSpec := { name := "ledgerMany", fn := fun _ => fun
  | [d] => { results := [.lit (.bool false)], args := [d] }
  | _ => none }
def LedgerManyWrongFalsely : Prop := ledgerManyRow.holds Try.pinned (OpenSpec.ofChange ledgerManyWrong)

/-- 'outcrylaw17.LedgerConserves': WHATEVER THE INPUT: true; the input reads as it did. -/
def ledgerConservesSpec : ChangeSpec := { name := "ledgerConserves", fn := fun _ => fun
  | [d] => { results := [.lit (.bool true)], args := [d] }
  | _ => none }
def ledgerConservesRow : OpenClaim := { program := "ytidhahooebepfaa", sum := "7a3bd4a7e59d5ecd6446696e2da3bc603c9273b55e615299c87cb8b481c25fc0", func := "outcry/outcrylaw17.LedgerConserves", spec := "ledgerConserves", unfollowed := true, recurses := true, plainKeys := false, apart := false }
def LedgerConservesSaid : Prop := ledgerConservesRow.holds Try.pinned (OpenSpec.ofChange ledgerConservesSpec)

/-- ITS FALSE NEIGHBOUR: 'it returns false'. Refute it at one input. -/
def ledgerConservesWrong : ChangeSpec := { name := "ledgerConserves", fn := fun _ => fun
  | [d] => { results := [.lit (.bool false)], args := [d] }
  | _ => none }
def LedgerConservesWrongFalsely : Prop := ledgerConservesRow.holds Try.pinned (OpenSpec.ofChange ledgerConservesWrong)

/-- 'outcrylaw17.LedgerDays': WHATEVER THE INPUT: true; the input reads as it did. -/
def ledgerDaysSpec : ChangeSpec := { name := "ledgerDays", fn := fun _ => fun
  | [d] => { results := [.lit (.bool true)], args := [d] }
  | _ => none }
def ledgerDaysRow : OpenClaim := { program := "ytidhahooebepfaa", sum := "7a3bd4a7e59d5ecd6446696e2da3bc603c9273b55e615299c87cb8b481c25fc0", func := "outcry/outcrylaw17.LedgerDays", spec := "ledgerDays", unfollowed := true, recurses := true, plainKeys := false, apart := false }
def LedgerDaysSaid : Prop := ledgerDaysRow.holds Try.pinned (OpenSpec.ofChange ledgerDaysSpec)

/-- ITS FALSE NEIGHBOUR: 'it returns false'. Refute it at one input. -/
def ledgerDaysWrong : ChangeSpec := { name := "ledgerDays", fn := fun _ => fun
  | [d] => { results := [.lit (.bool false)], args := [d] }
  | _ => none }
def LedgerDaysWrongFalsely : Prop := ledgerDaysRow.holds Try.pinned (OpenSpec.ofChange ledgerDaysWrong)

/-- 'outcrylaw17.LedgerBreaks': WHATEVER THE INPUT: true; the input reads as it did. -/
def ledgerBreaksSpec : ChangeSpec := { name := "ledgerBreaks", fn := fun _ => fun
  | [d1, d2] => { results := [.lit (.bool true)], args := [d1, d2] }
  | _ => none }
def ledgerBreaksRow : OpenClaim := { program := "ytidhahooebepfaa", sum := "7a3bd4a7e59d5ecd6446696e2da3bc603c9273b55e615299c87cb8b481c25fc0", func := "outcry/outcrylaw17.LedgerBreaks", spec := "ledgerBreaks", unfollowed := true, recurses := true, plainKeys := false, apart := false }
def LedgerBreaksSaid : Prop := ledgerBreaksRow.holds Try.pinned (OpenSpec.ofChange ledgerBreaksSpec)

/-- ITS FALSE NEIGHBOUR: 'it returns false'. Refute it at one input. -/
def ledgerBreaksWrong : ChangeSpec := { name := "ledgerBreaks", fn := fun _ => fun
  | [d1, d2] => { results := [.lit (.bool false)], args := [d1, d2] }
  | _ => none }
def LedgerBreaksWrongFalsely : Prop := ledgerBreaksRow.holds Try.pinned (OpenSpec.ofChange ledgerBreaksWrong)

/-- 'outcrylaw17.LedgerPlays': WHATEVER THE INPUT: true; the input reads as it did. -/
def ledgerPlaysSpec : ChangeSpec := { name := "ledgerPlays", fn := fun _ => fun
  | [d] => { results := [.lit (.bool true)], args := [d] }
  | _ => none }
def ledgerPlaysRow : OpenClaim := { program := "ytidhahooebepfaa", sum := "7a3bd4a7e59d5ecd6446696e2da3bc603c9273b55e615299c87cb8b481c25fc0", func := "outcry/outcrylaw17.LedgerPlays", spec := "ledgerPlays", unfollowed := true, recurses := true, plainKeys := false, apart := false }
def LedgerPlaysSaid : Prop := ledgerPlaysRow.holds Try.pinned (OpenSpec.ofChange ledgerPlaysSpec)

/-- ITS FALSE NEIGHBOUR: 'it returns false'. Refute it at one input. -/
def ledgerPlaysWrong : ChangeSpec := { name := "ledgerPlays", fn := fun _ => fun
  | [d] => { results := [.lit (.bool false)], args := [d] }
  | _ => none }
def LedgerPlaysWrongFalsely : Prop := ledgerPlaysRow.holds Try.pinned (OpenSpec.ofChange ledgerPlaysWrong)

/- THE SECOND FORM. 'bulk': how many values and letters a reading holds, each counted each time it is reached (what is shared counts as often as it is met; a slice's spare places count too). A statement '..UptoSaid' is the law's where the arguments, and the package variables that the reading takes, are together of bulk at most 1048576: NARROWER than '..Said'. Prove '..Said' where nothing that the law and all that it calls make is longer than what came in: it says more and counts as full. Else prove '..UptoSaid'. A law counts once. -/
mutual
def uptoBulk {H : Type} : DataW H → Nat
  | .lit (.string bytes) => bytes.length + 1
  | .lit _ => 1
  | .nil => 1
  | .ptr d => uptoBulk d + 1
  | .slice elems spare => uptoBulkAll elems + uptoBulkAll spare + 1
  | .agg parts => uptoBulkAll parts + 1
  | .iface _ d => uptoBulk d + 1
  | .map entries => uptoBulkEntries entries + 1
  | .held _ => 1
def uptoBulkAll {H : Type} : List (DataW H) → Nat
  | [] => 0
  | d :: r => uptoBulk d + uptoBulkAll r
def uptoBulkEntries {H : Type} : List (Lit × DataW H) → Nat
  | [] => 0
  | x :: r => uptoBulkEntry x + uptoBulkEntries r
def uptoBulkEntry {H : Type} : Lit × DataW H → Nat
  | (.string bytes, d) => bytes.length + uptoBulk d + 1
  | (_, d) => uptoBulk d + 1
 end
def uptoSmall : (H : Type) → List (DataW H) → Bool := fun _ ds => decide (uptoBulkAll ds ≤ 1048576)
def OpenSpec.upto (s : _root_.Go.ChangeSpec) : _root_.Go.OpenSpec := { _root_.Go.OpenSpec.ofChange s with cond := some uptoSmall }

/-- 'outcrylaw17.LedgerMany', WHERE WHAT IT READS IS OF BULK AT MOST 1048576: true; the input reads as it did. -/
def ledgerManyUptoRow : OpenClaim := { program := "ytidhahooebepfaa", sum := "7a3bd4a7e59d5ecd6446696e2da3bc603c9273b55e615299c87cb8b481c25fc0", func := "outcry/outcrylaw17.LedgerMany", spec := "ledgerMany", unfollowed := true, recurses := true, plainKeys := false, apart := false, narrowed := true }
def LedgerManyUptoSaid : Prop := ledgerManyUptoRow.holds Try.pinned (OpenSpec.upto ledgerManySpec)

/-- 'outcrylaw17.LedgerConserves', WHERE WHAT IT READS IS OF BULK AT MOST 1048576: true; the input reads as it did. -/
def ledgerConservesUptoRow : OpenClaim := { program := "ytidhahooebepfaa", sum := "7a3bd4a7e59d5ecd6446696e2da3bc603c9273b55e615299c87cb8b481c25fc0", func := "outcry/outcrylaw17.LedgerConserves", spec := "ledgerConserves", unfollowed := true, recurses := true, plainKeys := false, apart := false, narrowed := true }
def LedgerConservesUptoSaid : Prop := ledgerConservesUptoRow.holds Try.pinned (OpenSpec.upto ledgerConservesSpec)

/-- 'outcrylaw17.LedgerDays', WHERE WHAT IT READS IS OF BULK AT MOST 1048576: true; the input reads as it did. -/
def ledgerDaysUptoRow : OpenClaim := { program := "ytidhahooebepfaa", sum := "7a3bd4a7e59d5ecd6446696e2da3bc603c9273b55e615299c87cb8b481c25fc0", func := "outcry/outcrylaw17.LedgerDays", spec := "ledgerDays", unfollowed := true, recurses := true, plainKeys := false, apart := false, narrowed := true }
def LedgerDaysUptoSaid : Prop := ledgerDaysUptoRow.holds Try.pinned (OpenSpec.upto ledgerDaysSpec)

/-- 'outcrylaw17.LedgerBreaks', WHERE WHAT IT READS IS OF BULK AT MOST 1048576: true; the input reads as it did. -/
def ledgerBreaksUptoRow : OpenClaim := { program := "ytidhahooebepfaa", sum := "7a3bd4a7e59d5ecd6446696e2da3bc603c9273b55e615299c87cb8b481c25fc0", func := "outcry/outcrylaw17.LedgerBreaks", spec := "ledgerBreaks", unfollowed := true, recurses := true, plainKeys := false, apart := false, narrowed := true }
def LedgerBreaksUptoSaid : Prop := ledgerBreaksUptoRow.holds Try.pinned (OpenSpec.upto ledgerBreaksSpec)

/-- 'outcrylaw17.LedgerPlays', WHERE WHAT IT READS IS OF BULK AT MOST 1048576: true; the input reads as it did. -/
def ledgerPlaysUptoRow : OpenClaim := { program := "ytidhahooebepfaa", sum := "7a3bd4a7e59d5ecd6446696e2da3bc603c9273b55e615299c87cb8b481c25fc0", func := "outcry/outcrylaw17.LedgerPlays", spec := "ledgerPlays", unfollowed := true, recurses := true, plainKeys := false, apart := false, narrowed := true }
def LedgerPlaysUptoSaid : Prop := ledgerPlaysUptoRow.holds Try.pinned (OpenSpec.upto ledgerPlaysSpec)

end Rows
end Go.Proofs.Ytidhahooebepfaa
