/-
  No cell of these rows narrows 'for every input' (looked for: loops, veiled, ifaces, maps, wideKeys, modest, calm, conditions, laid).
  DERIVED. THE GIVEN ROWS OF THIS SEAT. 5 by the template 'for every input the law returns true; each argument reads behind the call as it read before'; 0 by the template 'total and deterministic' (their statements: YtjnnecoikcmaeaaTotals.lean).
  GIVEN WITH THE SEED: the statements are not yours to turn. If you find one false, say at which input.
  Laid BY PROGRAM, IN A SANDBOX (cutbox-rows.mjs): the forced cells as the released guide's own fill.sh prints them over the translation 41db1bfd11c09830… (all of the seat's roots in one cut). By AI agents, Wed Nov 11 2026. No macro, syntax, notation, axiom, sorry.
-/
import Derived.Test.YtjnnecoikcmaeaaChecked
import GoSem.Claim
import GoSem.ClaimJoined
import GoSem.ClaimMapViews
import Derived.JoinedTies
import Derived.KernelRfl
namespace Go.Proofs.Ytjnnecoikcmaeaa
/- THE CELL 'sum', in the pinned program and in every row, IS THE sha256 OF THE DUMP (.gsa) THAT YtjnnecoikcmaeaaProg.lean LOADS. Nothing in Lean hashes anything: it is a label: what it is worth is what the hold of that sum in a sandbox is worth. -/
noncomputable def Try.pinned : Pinned := { name := "ytjnnecoikcmaeaa", sum := "41db1bfd11c0983001e77435715b0356893c099808ad1f18a78b130418b0edff", checked := Try.checked }
namespace Rows
def none {H : Type} : Left H := { results := [], args := [] }

/-- 'outcrylaw18.TapeBack': WHATEVER THE INPUT: true; the input reads as it did. -/
def tapeBackSpec : ChangeSpec := { name := "tapeBack", fn := fun _ => fun
  | [d1, d2] => { results := [.lit (.bool true)], args := [d1, d2] }
  | _ => none }
def tapeBackRow : OpenClaim := { program := "ytjnnecoikcmaeaa", sum := "41db1bfd11c0983001e77435715b0356893c099808ad1f18a78b130418b0edff", func := "outcry/outcrylaw18.TapeBack", spec := "tapeBack", unfollowed := true, recurses := true, apart := false }
def TapeBackSaid : Prop := tapeBackRow.holds Try.pinned (OpenSpec.ofChange tapeBackSpec)

/-- ITS FALSE NEIGHBOUR: 'it returns false'. Refute it at one input. -/
def tapeBackWrong : ChangeSpec := { name := "tapeBack", fn := fun _ => fun
  | [d1, d2] => { results := [.lit (.bool false)], args := [d1, d2] }
  | _ => none }
def TapeBackWrongFalsely : Prop := tapeBackRow.holds Try.pinned (OpenSpec.ofChange tapeBackWrong)

/-- 'outcrylaw18.TapeCut': WHATEVER THE INPUT: true; the input reads as it did. -/
def tapeCutSpec : ChangeSpec := { name := "tapeCut", fn := fun _ => fun
  | [d1, d2, d3] => { results := [.lit (.bool true)], args := [d1, d2, d3] }
  | _ => none }
def tapeCutRow : OpenClaim := { program := "ytjnnecoikcmaeaa", sum := "41db1bfd11c0983001e77435715b0356893c099808ad1f18a78b130418b0edff", func := "outcry/outcrylaw18.TapeCut", spec := "tapeCut", unfollowed := true, recurses := true, apart := false }
def TapeCutSaid : Prop := tapeCutRow.holds Try.pinned (OpenSpec.ofChange tapeCutSpec)

/-- ITS FALSE NEIGHBOUR: 'it returns false'. Refute it at one input. -/
def tapeCutWrong : ChangeSpec := { name := "tapeCut", fn := fun _ => fun
  | [d1, d2, d3] => { results := [.lit (.bool false)], args := [d1, d2, d3] }
  | _ => none }
def TapeCutWrongFalsely : Prop := tapeCutRow.holds Try.pinned (OpenSpec.ofChange tapeCutWrong)

/-- 'outcrylaw18.TapeDecodes': WHATEVER THE INPUT: true; the input reads as it did. -/
def tapeDecodesSpec : ChangeSpec := { name := "tapeDecodes", fn := fun _ => fun
  | [d] => { results := [.lit (.bool true)], args := [d] }
  | _ => none }
def tapeDecodesRow : OpenClaim := { program := "ytjnnecoikcmaeaa", sum := "41db1bfd11c0983001e77435715b0356893c099808ad1f18a78b130418b0edff", func := "outcry/outcrylaw18.TapeDecodes", spec := "tapeDecodes", unfollowed := true, recurses := true, apart := false }
def TapeDecodesSaid : Prop := tapeDecodesRow.holds Try.pinned (OpenSpec.ofChange tapeDecodesSpec)

/-- ITS FALSE NEIGHBOUR: 'it returns false'. Refute it at one input. -/
def tapeDecodesWrong : ChangeSpec := { name := "tapeDecodes", fn := fun _ => fun
  | [d] => { results := [.lit (.bool false)], args := [d] }
  | _ => none }
def TapeDecodesWrongFalsely : Prop := tapeDecodesRow.holds Try.pinned (OpenSpec.ofChange tapeDecodesWrong)

/-- 'outcrylaw18.TapePlays': WHATEVER THE INPUT: true; the input reads as it did. -/
def tapePlaysSpec : ChangeSpec := { name := "tapePlays", fn := fun _ => fun
  | [d1, d2] => { results := [.lit (.bool true)], args := [d1, d2] }
  | _ => none }
def tapePlaysRow : OpenClaim := { program := "ytjnnecoikcmaeaa", sum := "41db1bfd11c0983001e77435715b0356893c099808ad1f18a78b130418b0edff", func := "outcry/outcrylaw18.TapePlays", spec := "tapePlays", unfollowed := true, recurses := true, apart := false }
def TapePlaysSaid : Prop := tapePlaysRow.holds Try.pinned (OpenSpec.ofChange tapePlaysSpec)

/-- ITS FALSE NEIGHBOUR: 'it returns false'. Refute it at one input. -/
def tapePlaysWrong : ChangeSpec := { name := "tapePlays", fn := fun _ => fun
  | [d1, d2] => { results := [.lit (.bool false)], args := [d1, d2] }
  | _ => none }
def TapePlaysWrongFalsely : Prop := tapePlaysRow.holds Try.pinned (OpenSpec.ofChange tapePlaysWrong)

/-- 'outcrylaw18.TapeOpens': WHATEVER THE INPUT: true; the input reads as it did. -/
def tapeOpensSpec : ChangeSpec := { name := "tapeOpens", fn := fun _ => fun
  | [d1, d2] => { results := [.lit (.bool true)], args := [d1, d2] }
  | _ => none }
def tapeOpensRow : OpenClaim := { program := "ytjnnecoikcmaeaa", sum := "41db1bfd11c0983001e77435715b0356893c099808ad1f18a78b130418b0edff", func := "outcry/outcrylaw18.TapeOpens", spec := "tapeOpens", unfollowed := true, recurses := true, apart := false }
def TapeOpensSaid : Prop := tapeOpensRow.holds Try.pinned (OpenSpec.ofChange tapeOpensSpec)

/-- ITS FALSE NEIGHBOUR: 'it returns false'. Refute it at one input. -/
def tapeOpensWrong : ChangeSpec := { name := "tapeOpens", fn := fun _ => fun
  | [d1, d2] => { results := [.lit (.bool false)], args := [d1, d2] }
  | _ => none }
def TapeOpensWrongFalsely : Prop := tapeOpensRow.holds Try.pinned (OpenSpec.ofChange tapeOpensWrong)

/- THE SECOND FORM. 'bulk': how many values and letters a reading holds, each counted each time it is reached (what is shared counts as often as it is met; a slice's spare places count too). A statement '..UptoSaid' is the law's where the arguments, and the package variables that the reading takes, are together of bulk at most 1048576: NARROWER than '..Said'. Prove '..Said' where nothing that the law and all that it calls make is longer than what came in: it says more and counts as full. Else prove '..UptoSaid'. A law counts once. -/
mutual
def uptoBulk {H : Type} : DataW H → Nat
  | .lit (.string bytes) => bytes.length + 1
  | .lit _ => 1
  | .nil => 1
  | .ptr d => uptoBulk d + 1
  | .slice elems spare => uptoBulkAll elems + uptoBulkAll spare + 1
  | .agg parts => uptoBulkAll parts + 1
  | .iface _ d => uptoBulk d + 1
  | .map entries => uptoBulkEntries entries + 1
  | .held _ => 1
def uptoBulkAll {H : Type} : List (DataW H) → Nat
  | [] => 0
  | d :: r => uptoBulk d + uptoBulkAll r
def uptoBulkEntries {H : Type} : List (Lit × DataW H) → Nat
  | [] => 0
  | x :: r => uptoBulkEntry x + uptoBulkEntries r
def uptoBulkEntry {H : Type} : Lit × DataW H → Nat
  | (.string bytes, d) => bytes.length + uptoBulk d + 1
  | (_, d) => uptoBulk d + 1
 end
def uptoSmall : (H : Type) → List (DataW H) → Bool := fun _ ds => decide (uptoBulkAll ds ≤ 1048576)
def OpenSpec.upto (s : _root_.Go.ChangeSpec) : _root_.Go.OpenSpec := { _root_.Go.OpenSpec.ofChange s with cond := some uptoSmall }

/-- 'outcrylaw18.TapeBack', WHERE WHAT IT READS IS OF BULK AT MOST 1048576: true; the input reads as it did. -/
def tapeBackUptoRow : OpenClaim := { program := "ytjnnecoikcmaeaa", sum := "41db1bfd11c0983001e77435715b0356893c099808ad1f18a78b130418b0edff", func := "outcry/outcrylaw18.TapeBack", spec := "tapeBack", unfollowed := true, recurses := true, apart := false, narrowed := true }
def TapeBackUptoSaid : Prop := tapeBackUptoRow.holds Try.pinned (OpenSpec.upto tapeBackSpec)

/-- 'outcrylaw18.TapeCut', WHERE WHAT IT READS IS OF BULK AT MOST 1048576: true; the input reads as it did. -/
def tapeCutUptoRow : OpenClaim := { program := "ytjnnecoikcmaeaa", sum := "41db1bfd11c0983001e77435715b0356893c099808ad1f18a78b130418b0edff", func := "outcry/outcrylaw18.TapeCut", spec := "tapeCut", unfollowed := true, recurses := true, apart := false, narrowed := true }
def TapeCutUptoSaid : Prop := tapeCutUptoRow.holds Try.pinned (OpenSpec.upto tapeCutSpec)

/-- 'outcrylaw18.TapeDecodes', WHERE WHAT IT READS IS OF BULK AT MOST 1048576: true; the input reads as it did. -/
def tapeDecodesUptoRow : OpenClaim := { program := "ytjnnecoikcmaeaa", sum := "41db1bfd11c0983001e77435715b0356893c099808ad1f18a78b130418b0edff", func := "outcry/outcrylaw18.TapeDecodes", spec := "tapeDecodes", unfollowed := true, recurses := true, apart := false, narrowed := true }
def TapeDecodesUptoSaid : Prop := tapeDecodesUptoRow.holds Try.pinned (OpenSpec.upto tapeDecodesSpec)

/-- 'outcrylaw18.TapePlays', WHERE WHAT IT READS IS OF BULK AT MOST 1048576: true; the input reads as it did. -/
def tapePlaysUptoRow : OpenClaim := { program := "ytjnnecoikcmaeaa", sum := "41db1bfd11c0983001e77435715b0356893c099808ad1f18a78b130418b0edff", func := "outcry/outcrylaw18.TapePlays", spec := "tapePlays", unfollowed := true, recurses := true, apart := false, narrowed := true }
def TapePlaysUptoSaid : Prop := tapePlaysUptoRow.holds Try.pinned (OpenSpec.upto tapePlaysSpec)

/-- 'outcrylaw18.TapeOpens', WHERE WHAT IT READS IS OF BULK AT MOST 1048576: true; the input reads as it did. -/
def tapeOpensUptoRow : OpenClaim := { program := "ytjnnecoikcmaeaa", sum := "41db1bfd11c0983001e77435715b0356893c099808ad1f18a78b130418b0edff", func := "outcry/outcrylaw18.TapeOpens", spec := "tapeOpens", unfollowed := true, recurses := true, apart := false, narrowed := true }
def TapeOpensUptoSaid : Prop := tapeOpensUptoRow.holds Try.pinned (OpenSpec.upto tapeOpensSpec)

end Rows
end Go.Proofs.Ytjnnecoikcmaeaa
