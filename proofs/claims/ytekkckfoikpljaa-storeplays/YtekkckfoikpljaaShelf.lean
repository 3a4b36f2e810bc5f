/-
  sort.Search, laid over this seat's dump.
-/
import Derived.Shelf.SlSorted.Search
import Derived.Test.YtekkckfoikpljaaProg
namespace Go.Proofs
open Go.Shelf
def Try.lays16_ren : Go.Shelf.Ren := ⟨fun | 16 => 29 | n => n, fun | 3 => 3 | 35 => 75 | 4 => 4 | 38 => 81 | n => n, fun | n => n⟩
theorem Try.lays16 : Go.Proofs.SlLaysO.n16 Try.prog Try.lays16_ren := {
  mixed := by kernel_rfl
  f16 := Try.func29.trans (congrArg some (by kernel_rfl))
  t3 := Try.underlying3
  a3 := Try.isAgg3
  z3 := Try.sizeOf3
  v3 := Try.zeroValue3
  t4 := Try.underlying4
  a4 := Try.isAgg4
  z4 := Try.sizeOf4
  v4 := Try.zeroValue4
  t35 := Try.underlying75
  a35 := Try.isAgg75
  z35 := Try.sizeOf75
  v35 := Try.zeroValue75
  t38 := Try.underlying81
  a38 := Try.isAgg81
  z38 := Try.sizeOf81
  v38 := Try.zeroValue81 }
end Go.Proofs
