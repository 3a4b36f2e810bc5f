/-
  sort.Search, laid over this seat's dump.
-/
import Derived.Shelf.SlSorted.Search
import Derived.Test.YteafaglhlggknabDoorProg
namespace Go.Proofs
open Go.Shelf
def Tryd.lays16_ren : Go.Shelf.Ren := ⟨fun | 16 => 37 | n => n, fun | 3 => 3 | 35 => 39 | 4 => 4 | 38 => 65 | n => n, fun | n => n⟩
theorem Tryd.lays16 : Go.Proofs.SlLaysO.n16 Tryd.prog Tryd.lays16_ren := {
  mixed := by kernel_rfl
  f16 := Tryd.func37.trans (congrArg some (by kernel_rfl))
  t3 := Tryd.underlying3
  a3 := Tryd.isAgg3
  z3 := Tryd.sizeOf3
  v3 := Tryd.zeroValue3
  t4 := Tryd.underlying4
  a4 := Tryd.isAgg4
  z4 := Tryd.sizeOf4
  v4 := Tryd.zeroValue4
  t35 := Tryd.underlying39
  a35 := Tryd.isAgg39
  z35 := Tryd.sizeOf39
  v35 := Tryd.zeroValue39
  t38 := Tryd.underlying65
  a38 := Tryd.isAgg65
  z38 := Tryd.sizeOf65
  v38 := Tryd.zeroValue65 }
end Go.Proofs
