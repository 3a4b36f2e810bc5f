/-
  sort.Search, laid over this seat's dump.
-/
import Derived.Shelf.SlSorted.Search
import Derived.Test.YteafaglhlggknaaDoorProg
namespace Go.Proofs
open Go.Shelf
def Tryd.lays16_ren : Go.Shelf.Ren := ⟨fun | 16 => 36 | n => n, fun | 3 => 3 | 35 => 40 | 4 => 4 | 38 => 58 | n => n, fun | n => n⟩
theorem Tryd.lays16 : Go.Proofs.SlLaysO.n16 Tryd.prog Tryd.lays16_ren := {
  mixed := by kernel_rfl
  f16 := Tryd.func36.trans (congrArg some (by kernel_rfl))
  t3 := Tryd.underlying3
  a3 := Tryd.isAgg3
  z3 := Tryd.sizeOf3
  v3 := Tryd.zeroValue3
  t4 := Tryd.underlying4
  a4 := Tryd.isAgg4
  z4 := Tryd.sizeOf4
  v4 := Tryd.zeroValue4
  t35 := Tryd.underlying40
  a35 := Tryd.isAgg40
  z35 := Tryd.sizeOf40
  v35 := Tryd.zeroValue40
  t38 := Tryd.underlying58
  a38 := Tryd.isAgg58
  z38 := Tryd.sizeOf58
  v38 := Tryd.zeroValue58 }
end Go.Proofs
