/-
  The law's fault: place and number of an error.
-/
import Derived.Test.YtfgfjkchcnpakaaDoorFJoin2
namespace Go.Proofs.YtfgfjkchcnpakaaDoor
set_option linter.unusedVariables false
open Go.RowKit

set_option maxRecDepth 100000 in
theorem lawFault_nil (w : World) :
    Calls Tryd.prog 26 #[.nilIface] w fun x w' => x = .returned (.tuple #[.int .i64 0, .int .i64 0, .bool true]) ∧ w' = w := by
  go_enter Tryd.func26, Tryd.ntmps26
  go_wp2
  go_ret3
  exact ⟨rfl, rfl⟩
set_option maxRecDepth 100000 in
theorem lawFault_at (g : Nat) (e : Int) (a : Nat) (w : World) (hf : FaultAt w g e a) (he : e ≠ 0) :
    Calls Tryd.prog 26 #[.iface 100 (.pointer (some ⟨g, 0, none⟩))] w fun x w' => x = .returned (.tuple #[.int .i64 (a : Int), .int .i64 e, .bool true]) ∧ ∃ q, w' = w.drewN q := by
  have c0 := hf.cell0
  have c1 := hf.cell1
  have he' : (e != 0) = true := by simpa using he
  clear hf
  have hta : ∀ W, (Instr.typeAssert (Value.iface 100 (.pointer (some ⟨g, 0, none⟩))) 29 100 true).run Tryd.prog W = .ok (.tuple #[.pointer (some ⟨g, 0, none⟩), .bool true]) W := fun W => by kernel_rfl
  go_enter Tryd.func26, Tryd.ntmps26
  go_wp2
  go_quiet (fail)
  go_wp2
  go_ret3
  exact ⟨rfl, _, rfl⟩
end Go.Proofs.YtfgfjkchcnpakaaDoor
