/-
  ArbiterOrder: its row.
-/
import Derived.Test.YtdncemecnbglaaaA15
namespace Go.Proofs.Ytdncemecnbglaaa
set_option linter.unusedVariables false
open Go.RowKit Go.Great

theorem ArbiterOrder_row {w : World} (wd pd : Int) (hwd : -9223372036854775808 ≤ wd ∧ wd ≤ 9223372036854775807) (hpd : -9223372036854775808 ≤ pd ∧ pd ≤ 9223372036854775807) (a1 : Option Addr) (n1 c1 : Nat) (z1 : Nat → Nat → Int) (hn1 : n1 ≤ maxLen) (hs1 : SrcR w a1 n1 z1) : Calls Try.prog 3 #[.int .i64 wd, .int .i64 pd, .slice a1 n1 c1] w fun e w' => e = .returned (.bool true) ∧ Below w.heap.size w w' := (ArbiterOrder_law wd pd hwd hpd a1 n1 c1 z1 hn1 hs1).mono fun _ _ ⟨h1, h2⟩ => ⟨h1, h2.out⟩
end Go.Proofs.Ytdncemecnbglaaa
