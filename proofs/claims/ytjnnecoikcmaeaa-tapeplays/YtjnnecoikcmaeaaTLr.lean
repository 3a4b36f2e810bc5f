/-
  TapePlays: its row.
-/
import Derived.Test.YtjnnecoikcmaeaaTL9
namespace Go.Proofs.Ytjnnecoikcmaeaa
set_option linter.unusedVariables false
open Go.RowKit Go.Great

theorem TapePlays_row {w : World} (a0 : Option Addr) (n0 c0 : Nat) (t0 : Nat → Cm) (hn : n0 ≤ maxLen) (hs : SrcC w a0 n0 t0) (at_ : Int) : Calls Try.prog 6 #[.slice a0 n0 c0, .int .i64 at_] w fun e w' => e = .returned (.bool true) ∧ Below w.heap.size w w' := (TapePlays_law a0 n0 c0 t0 hn hs at_).mono fun _ _ ⟨h1, h2⟩ => ⟨h1, h2.out⟩
end Go.Proofs.Ytjnnecoikcmaeaa
