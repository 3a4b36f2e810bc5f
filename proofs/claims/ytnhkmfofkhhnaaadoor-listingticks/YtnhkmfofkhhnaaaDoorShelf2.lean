/-
  sort.Search, laid over this seat's dump.
-/
import Derived.Shelf.SlSorted.Search
import Derived.Test.YtnhkmfofkhhnaaaDoorProg
namespace Go.Proofs
open Go.Shelf
def Tryd.lays16_ren : Go.Shelf.Ren := ⟨fun | 16 => 54 | n => n, fun | 3 => 3 | 35 => 43 | 4 => 4 | 38 => 105 | n => n, fun | n => n⟩
theorem Tryd.lays16 : Go.Proofs.SlLaysO.n16 Tryd.prog Tryd.lays16_ren := {
  mixed := by kernel_rfl
  f16 := Tryd.func54.trans (congrArg some (by kernel_rfl))
  t3 := Tryd.underlying3
  a3 := Tryd.isAgg3
  z3 := Tryd.sizeOf3
  v3 := Tryd.zeroValue3
  t4 := Tryd.underlying4
  a4 := Tryd.isAgg4
  z4 := Tryd.sizeOf4
  v4 := Tryd.zeroValue4
  t35 := Tryd.underlying43
  a35 := Tryd.isAgg43
  z35 := Tryd.sizeOf43
  v35 := Tryd.zeroValue43
  t38 := Tryd.underlying105
  a38 := Tryd.isAgg105
  z38 := Tryd.sizeOf105
  v38 := Tryd.zeroValue105 }
end Go.Proofs
