/-
  No cell of these rows narrows 'for every input' (looked for: loops, veiled, ifaces, maps, wideKeys, modest, calm, conditions, laid).
  DERIVED. THE GIVEN ROWS OF THIS SEAT. 3 by the template 'for every input the law returns true; each argument reads behind the call as it read before'; 0 by the template 'total and deterministic' (their statements: YtdncemecnbglaaaTotals.lean).
  GIVEN WITH THE SEED: the statements are not yours to turn. If you find one false, say at which input.
  Laid BY PROGRAM, IN A SANDBOX (cutbox-rows.mjs): the forced cells as the released guide's own fill.sh prints them over the translation 5ebeaf289abc40d9… (all of the seat's roots in one cut). By AI agents, Wed Nov 11 2026. No macro, syntax, notation, axiom, sorry.
-/
import Derived.Test.YtdncemecnbglaaaChecked
import GoSem.Claim
import GoSem.ClaimJoined
import GoSem.ClaimMapViews
import Derived.JoinedTies
import Derived.KernelRfl
namespace Go.Proofs.Ytdncemecnbglaaa
/- THE CELL 'sum', in the pinned program and in every row, IS THE sha256 OF THE DUMP (.gsa) THAT YtdncemecnbglaaaProg.lean LOADS. Nothing in Lean hashes anything: it is a label: what it is worth is what the hold of that sum in a sandbox is worth. -/
noncomputable def Try.pinned : Pinned := { name := "ytdncemecnbglaaa", sum := "5ebeaf289abc40d9b913fc55b7c4edee5cee73b949baa4176f44853ba64c34ab", checked := Try.checked }
namespace Rows
def none {H : Type} : Left H := { results := [], args := [] }

/-- 'outcrylaw21.ArbiterOrder': WHATEVER THE INPUT: true; the input reads as it did. -/
def arbiterOrderSpec : ChangeSpec := { name := "arbiterOrder", fn := fun _ => fun
  | [d1, d2, d3] => { results := [.lit (.bool true)], args := [d1, d2, d3] }
  | _ => none }
def arbiterOrderRow : OpenClaim := { program := "ytdncemecnbglaaa", sum := "5ebeaf289abc40d9b913fc55b7c4edee5cee73b949baa4176f44853ba64c34ab", func := "outcry/outcrylaw21.ArbiterOrder", spec := "arbiterOrder", unfollowed := true, recurses := true, apart := false }
def ArbiterOrderSaid : Prop := arbiterOrderRow.holds Try.pinned (OpenSpec.ofChange arbiterOrderSpec)

/-- ITS FALSE NEIGHBOUR: 'it returns false'. Refute it at one input. -/
def arbiterOrderWrong : ChangeSpec := { name := "arbiterOrder", fn := fun _ => fun
  | [d1, d2, d3] => { results := [.lit (.bool false)], args := [d1, d2, d3] }
  | _ => none }
def ArbiterOrderWrongFalsely : Prop := arbiterOrderRow.holds Try.pinned (OpenSpec.ofChange arbiterOrderWrong)

/-- 'outcrylaw21.ArbiterWhole': WHATEVER THE INPUT: true; the input reads as it did. -/
def arbiterWholeSpec : ChangeSpec := { name := "arbiterWhole", fn := fun _ => fun
  | [d1, d2, d3] => { results := [.lit (.bool true)], args := [d1, d2, d3] }
  | _ => none }
def arbiterWholeRow : OpenClaim := { program := "ytdncemecnbglaaa", sum := "5ebeaf289abc40d9b913fc55b7c4edee5cee73b949baa4176f44853ba64c34ab", func := "outcry/outcrylaw21.ArbiterWhole", spec := "arbiterWhole", unfollowed := true, recurses := true, apart := false }
def ArbiterWholeSaid : Prop := arbiterWholeRow.holds Try.pinned (OpenSpec.ofChange arbiterWholeSpec)

/-- ITS FALSE NEIGHBOUR: 'it returns false'. Refute it at one input. -/
def arbiterWholeWrong : ChangeSpec := { name := "arbiterWhole", fn := fun _ => fun
  | [d1, d2, d3] => { results := [.lit (.bool false)], args := [d1, d2, d3] }
  | _ => none }
def ArbiterWholeWrongFalsely : Prop := arbiterWholeRow.holds Try.pinned (OpenSpec.ofChange arbiterWholeWrong)

/-- 'outcrylaw21.ArbiterPlays': WHATEVER THE INPUT: true; the input reads as it did. -/
def arbiterPlaysSpec : ChangeSpec := { name := "arbiterPlays", fn := fun _ => fun
  | [d1, d2, d3] => { results := [.lit (.bool true)], args := [d1, d2, d3] }
  | _ => none }
def arbiterPlaysRow : OpenClaim := { program := "ytdncemecnbglaaa", sum := "5ebeaf289abc40d9b913fc55b7c4edee5cee73b949baa4176f44853ba64c34ab", func := "outcry/outcrylaw21.ArbiterPlays", spec := "arbiterPlays", unfollowed := true, recurses := true, apart := false }
def ArbiterPlaysSaid : Prop := arbiterPlaysRow.holds Try.pinned (OpenSpec.ofChange arbiterPlaysSpec)

/-- ITS FALSE NEIGHBOUR: 'it returns false'. Refute it at one input. -/
def arbiterPlaysWrong : ChangeSpec := { name := "arbiterPlays", fn := fun _ => fun
  | [d1, d2, d3] => { results := [.lit (.bool false)], args := [d1, d2, d3] }
  | _ => none }
def ArbiterPlaysWrongFalsely : Prop := arbiterPlaysRow.holds Try.pinned (OpenSpec.ofChange arbiterPlaysWrong)

/- THE SECOND FORM. 'bulk': how many values and letters a reading holds, each counted each time it is reached (what is shared counts as often as it is met; a slice's spare places count too). A statement '..UptoSaid' is the law's where the arguments, and the package variables that the reading takes, are together of bulk at most 1048576: NARROWER than '..Said'. Prove '..Said' where nothing that the law and all that it calls make is longer than what came in: it says more and counts as full. Else prove '..UptoSaid'. A law counts once. -/
mutual
def uptoBulk {H : Type} : DataW H → Nat
  | .lit (.string bytes) => bytes.length + 1
  | .lit _ => 1
  | .nil => 1
  | .ptr d => uptoBulk d + 1
  | .slice elems spare => uptoBulkAll elems + uptoBulkAll spare + 1
  | .agg parts => uptoBulkAll parts + 1
  | .iface _ d => uptoBulk d + 1
  | .map entries => uptoBulkEntries entries + 1
  | .held _ => 1
def uptoBulkAll {H : Type} : List (DataW H) → Nat
  | [] => 0
  | d :: r => uptoBulk d + uptoBulkAll r
def uptoBulkEntries {H : Type} : List (Lit × DataW H) → Nat
  | [] => 0
  | x :: r => uptoBulkEntry x + uptoBulkEntries r
def uptoBulkEntry {H : Type} : Lit × DataW H → Nat
  | (.string bytes, d) => bytes.length + uptoBulk d + 1
  | (_, d) => uptoBulk d + 1
 end
def uptoSmall : (H : Type) → List (DataW H) → Bool := fun _ ds => decide (uptoBulkAll ds ≤ 1048576)
def OpenSpec.upto (s : _root_.Go.ChangeSpec) : _root_.Go.OpenSpec := { _root_.Go.OpenSpec.ofChange s with cond := some uptoSmall }

/-- 'outcrylaw21.ArbiterOrder', WHERE WHAT IT READS IS OF BULK AT MOST 1048576: true; the input reads as it did. -/
def arbiterOrderUptoRow : OpenClaim := { program := "ytdncemecnbglaaa", sum := "5ebeaf289abc40d9b913fc55b7c4edee5cee73b949baa4176f44853ba64c34ab", func := "outcry/outcrylaw21.ArbiterOrder", spec := "arbiterOrder", unfollowed := true, recurses := true, apart := false, narrowed := true }
def ArbiterOrderUptoSaid : Prop := arbiterOrderUptoRow.holds Try.pinned (OpenSpec.upto arbiterOrderSpec)

/-- 'outcrylaw21.ArbiterWhole', WHERE WHAT IT READS IS OF BULK AT MOST 1048576: true; the input reads as it did. -/
def arbiterWholeUptoRow : OpenClaim := { program := "ytdncemecnbglaaa", sum := "5ebeaf289abc40d9b913fc55b7c4edee5cee73b949baa4176f44853ba64c34ab", func := "outcry/outcrylaw21.ArbiterWhole", spec := "arbiterWhole", unfollowed := true, recurses := true, apart := false, narrowed := true }
def ArbiterWholeUptoSaid : Prop := arbiterWholeUptoRow.holds Try.pinned (OpenSpec.upto arbiterWholeSpec)

/-- 'outcrylaw21.ArbiterPlays', WHERE WHAT IT READS IS OF BULK AT MOST 1048576: true; the input reads as it did. -/
def arbiterPlaysUptoRow : OpenClaim := { program := "ytdncemecnbglaaa", sum := "5ebeaf289abc40d9b913fc55b7c4edee5cee73b949baa4176f44853ba64c34ab", func := "outcry/outcrylaw21.ArbiterPlays", spec := "arbiterPlays", unfollowed := true, recurses := true, apart := false, narrowed := true }
def ArbiterPlaysUptoSaid : Prop := arbiterPlaysUptoRow.holds Try.pinned (OpenSpec.upto arbiterPlaysSpec)

end Rows
end Go.Proofs.Ytdncemecnbglaaa
