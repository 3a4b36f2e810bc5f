/-
  No cell of these rows narrows 'for every input' (looked for: loops, veiled, ifaces, maps, wideKeys, modest, calm, conditions, laid).
  DERIVED. THE GIVEN ROWS OF THIS SEAT. 4 by the template 'for every input the law returns true; each argument reads behind the call as it read before'; 0 by the template 'total and deterministic' (their statements: YtgioknkfppaaaaaTotals.lean).
  GIVEN WITH THE SEED: the statements are not yours to turn. If you find one false, say at which input.
  Laid BY PROGRAM, IN A SANDBOX (cutbox-rows.mjs): the forced cells as the released guide's own fill.sh prints them over the translation 1681b8df251cf8bc… (all of the seat's roots in one cut). By AI agents, Wed Nov 11 2026. No macro, syntax, notation, axiom, sorry.
-/
import Derived.Test.YtgioknkfppaaaaaChecked
import GoSem.Claim
import GoSem.ClaimJoined
import GoSem.ClaimMapViews
import Derived.JoinedTies
import Derived.KernelRfl
namespace Go.Proofs.Ytgioknkfppaaaaa
/- THE CELL 'sum', in the pinned program and in every row, IS THE sha256 OF THE DUMP (.gsa) THAT YtgioknkfppaaaaaProg.lean LOADS. Nothing in Lean hashes anything: it is a label: what it is worth is what the hold of that sum in a sandbox is worth. -/
noncomputable def Try.pinned : Pinned := { name := "ytgioknkfppaaaaa", sum := "1681b8df251cf8bcb85cef638cdead6f10e27dd32b095f46e993eb8b29afcf51", checked := Try.checked }
namespace Rows
def none {H : Type} : Left H := { results := [], args := [] }

/-- 'outcrylaw15.RiskRate': WHATEVER THE INPUT: true; the input reads as it did. -/
def riskRateSpec : ChangeSpec := { name := "riskRate", fn := fun _ => fun
  | [d1, d2, d3] => { results := [.lit (.bool true)], args := [d1, d2, d3] }
  | _ => none }
def riskRateRow : OpenClaim := { program := "ytgioknkfppaaaaa", sum := "1681b8df251cf8bcb85cef638cdead6f10e27dd32b095f46e993eb8b29afcf51", func := "outcry/outcrylaw15.RiskRate", spec := "riskRate", named := ["math/bits.divideError", "math/bits.overflowError"], apart := false }
def RiskRateSaid : Prop := riskRateRow.holds Try.pinned (OpenSpec.ofChange riskRateSpec)

/-- ITS FALSE NEIGHBOUR: 'it returns false'. Refute it at one input. -/
def riskRateWrong : ChangeSpec := { name := "riskRate", fn := fun _ => fun
  | [d1, d2, d3] => { results := [.lit (.bool false)], args := [d1, d2, d3] }
  | _ => none }
def RiskRateWrongFalsely : Prop := riskRateRow.holds Try.pinned (OpenSpec.ofChange riskRateWrong)

/-- 'outcrylaw15.RiskHolds': WHATEVER THE INPUT: true; the input reads as it did. -/
def riskHoldsSpec : ChangeSpec := { name := "riskHolds", fn := fun _ => fun
  | [d1, d2, d3] => { results := [.lit (.bool true)], args := [d1, d2, d3] }
  | _ => none }
def riskHoldsRow : OpenClaim := { program := "ytgioknkfppaaaaa", sum := "1681b8df251cf8bcb85cef638cdead6f10e27dd32b095f46e993eb8b29afcf51", func := "outcry/outcrylaw15.RiskHolds", spec := "riskHolds", named := ["math/bits.divideError", "math/bits.overflowError"], apart := false }
def RiskHoldsSaid : Prop := riskHoldsRow.holds Try.pinned (OpenSpec.ofChange riskHoldsSpec)

/-- ITS FALSE NEIGHBOUR: 'it returns false'. Refute it at one input. -/
def riskHoldsWrong : ChangeSpec := { name := "riskHolds", fn := fun _ => fun
  | [d1, d2, d3] => { results := [.lit (.bool false)], args := [d1, d2, d3] }
  | _ => none }
def RiskHoldsWrongFalsely : Prop := riskHoldsRow.holds Try.pinned (OpenSpec.ofChange riskHoldsWrong)

/-- 'outcrylaw15.RiskApart': WHATEVER THE INPUT: true; the input reads as it did. -/
def riskApartSpec : ChangeSpec := { name := "riskApart", fn := fun _ => fun
  | [d1, d2, d3] => { results := [.lit (.bool true)], args := [d1, d2, d3] }
  | _ => none }
def riskApartRow : OpenClaim := { program := "ytgioknkfppaaaaa", sum := "1681b8df251cf8bcb85cef638cdead6f10e27dd32b095f46e993eb8b29afcf51", func := "outcry/outcrylaw15.RiskApart", spec := "riskApart", named := ["math/bits.divideError", "math/bits.overflowError"], apart := false }
def RiskApartSaid : Prop := riskApartRow.holds Try.pinned (OpenSpec.ofChange riskApartSpec)

/-- ITS FALSE NEIGHBOUR: 'it returns false'. Refute it at one input. -/
def riskApartWrong : ChangeSpec := { name := "riskApart", fn := fun _ => fun
  | [d1, d2, d3] => { results := [.lit (.bool false)], args := [d1, d2, d3] }
  | _ => none }
def RiskApartWrongFalsely : Prop := riskApartRow.holds Try.pinned (OpenSpec.ofChange riskApartWrong)

/-- 'outcrylaw15.RiskPlays': WHATEVER THE INPUT: true; the input reads as it did. -/
def riskPlaysSpec : ChangeSpec := { name := "riskPlays", fn := fun _ => fun
  | [d1, d2, d3] => { results := [.lit (.bool true)], args := [d1, d2, d3] }
  | _ => none }
def riskPlaysRow : OpenClaim := { program := "ytgioknkfppaaaaa", sum := "1681b8df251cf8bcb85cef638cdead6f10e27dd32b095f46e993eb8b29afcf51", func := "outcry/outcrylaw15.RiskPlays", spec := "riskPlays", named := ["math/bits.divideError", "math/bits.overflowError"], apart := false }
def RiskPlaysSaid : Prop := riskPlaysRow.holds Try.pinned (OpenSpec.ofChange riskPlaysSpec)

/-- ITS FALSE NEIGHBOUR: 'it returns false'. Refute it at one input. -/
def riskPlaysWrong : ChangeSpec := { name := "riskPlays", fn := fun _ => fun
  | [d1, d2, d3] => { results := [.lit (.bool false)], args := [d1, d2, d3] }
  | _ => none }
def RiskPlaysWrongFalsely : Prop := riskPlaysRow.holds Try.pinned (OpenSpec.ofChange riskPlaysWrong)

/- THE SECOND FORM. 'bulk': how many values and letters a reading holds, each counted each time it is reached (what is shared counts as often as it is met; a slice's spare places count too). A statement '..UptoSaid' is the law's where the arguments, and the package variables that the reading takes, are together of bulk at most 1048576: NARROWER than '..Said'. Prove '..Said' where nothing that the law and all that it calls make is longer than what came in: it says more and counts as full. Else prove '..UptoSaid'. A law counts once. -/
mutual
def uptoBulk {H : Type} : DataW H → Nat
  | .lit (.string bytes) => bytes.length + 1
  | .lit _ => 1
  | .nil => 1
  | .ptr d => uptoBulk d + 1
  | .slice elems spare => uptoBulkAll elems + uptoBulkAll spare + 1
  | .agg parts => uptoBulkAll parts + 1
  | .iface _ d => uptoBulk d + 1
  | .map entries => uptoBulkEntries entries + 1
  | .held _ => 1
def uptoBulkAll {H : Type} : List (DataW H) → Nat
  | [] => 0
  | d :: r => uptoBulk d + uptoBulkAll r
def uptoBulkEntries {H : Type} : List (Lit × DataW H) → Nat
  | [] => 0
  | x :: r => uptoBulkEntry x + uptoBulkEntries r
def uptoBulkEntry {H : Type} : Lit × DataW H → Nat
  | (.string bytes, d) => bytes.length + uptoBulk d + 1
  | (_, d) => uptoBulk d + 1
 end
def uptoSmall : (H : Type) → List (DataW H) → Bool := fun _ ds => decide (uptoBulkAll ds ≤ 1048576)
def OpenSpec.upto (s : _root_.Go.ChangeSpec) : _root_.Go.OpenSpec := { _root_.Go.OpenSpec.ofChange s with cond := some uptoSmall }

/-- 'outcrylaw15.RiskRate', WHERE WHAT IT READS IS OF BULK AT MOST 1048576: true; the input reads as it did. -/
def riskRateUptoRow : OpenClaim := { program := "ytgioknkfppaaaaa", sum := "1681b8df251cf8bcb85cef638cdead6f10e27dd32b095f46e993eb8b29afcf51", func := "outcry/outcrylaw15.RiskRate", spec := "riskRate", named := ["math/bits.divideError", "math/bits.overflowError"], apart := false, narrowed := true }
def RiskRateUptoSaid : Prop := riskRateUptoRow.holds Try.pinned (OpenSpec.upto riskRateSpec)

/-- 'outcrylaw15.RiskHolds', WHERE WHAT IT READS IS OF BULK AT MOST 1048576: true; the input reads as it did. -/
def riskHoldsUptoRow : OpenClaim := { program := "ytgioknkfppaaaaa", sum := "1681b8df251cf8bcb85cef638cdead6f10e27dd32b095f46e993eb8b29afcf51", func := "outcry/outcrylaw15.RiskHolds", spec := "riskHolds", named := ["math/bits.divideError", "math/bits.overflowError"], apart := false, narrowed := true }
def RiskHoldsUptoSaid : Prop := riskHoldsUptoRow.holds Try.pinned (OpenSpec.upto riskHoldsSpec)

/-- 'outcrylaw15.RiskApart', WHERE WHAT IT READS IS OF BULK AT MOST 1048576: true; the input reads as it did. -/
def riskApartUptoRow : OpenClaim := { program := "ytgioknkfppaaaaa", sum := "1681b8df251cf8bcb85cef638cdead6f10e27dd32b095f46e993eb8b29afcf51", func := "outcry/outcrylaw15.RiskApart", spec := "riskApart", named := ["math/bits.divideError", "math/bits.overflowError"], apart := false, narrowed := true }
def RiskApartUptoSaid : Prop := riskApartUptoRow.holds Try.pinned (OpenSpec.upto riskApartSpec)

/-- 'outcrylaw15.RiskPlays', WHERE WHAT IT READS IS OF BULK AT MOST 1048576: true; the input reads as it did. -/
def riskPlaysUptoRow : OpenClaim := { program := "ytgioknkfppaaaaa", sum := "1681b8df251cf8bcb85cef638cdead6f10e27dd32b095f46e993eb8b29afcf51", func := "outcry/outcrylaw15.RiskPlays", spec := "riskPlays", named := ["math/bits.divideError", "math/bits.overflowError"], apart := false, narrowed := true }
def RiskPlaysUptoSaid : Prop := riskPlaysUptoRow.holds Try.pinned (OpenSpec.upto riskPlaysSpec)

end Rows
end Go.Proofs.Ytgioknkfppaaaaa
