/-
  ArbiterWhole: its row.
-/
import Derived.Test.YtdncemecnbglaaaA13
namespace Go.Proofs.Ytdncemecnbglaaa
set_option linter.unusedVariables false
open Go.RowKit Go.Great

theorem ArbiterWhole_row {w : World} (wd : Int) (hwd : -9223372036854775808 ≤ wd ∧ wd ≤ 9223372036854775807) (a1 : Option Addr) (n1 c1 : Nat) (z1 : Nat → Int) (hn1 : n1 ≤ maxLen) (hs1 : SrcI w a1 n1 z1) (a2 : Option Addr) (n2 c2 : Nat) (z2 : Nat → Int) (hn2 : n2 ≤ maxLen) (hs2 : SrcI w a2 n2 z2) : Calls Try.prog 4 #[.int .i64 wd, .slice a1 n1 c1, .slice a2 n2 c2] w fun e w' => e = .returned (.bool true) ∧ Below w.heap.size w w' := (ArbiterWhole_law wd hwd a1 n1 c1 z1 hn1 hs1 a2 n2 c2 z2 hn2 hs2).mono fun _ _ ⟨h1, h2⟩ => ⟨h1, h2.out⟩
end Go.Proofs.Ytdncemecnbglaaa
