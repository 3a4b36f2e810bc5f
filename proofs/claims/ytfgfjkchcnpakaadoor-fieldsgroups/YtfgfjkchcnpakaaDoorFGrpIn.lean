/-
  FieldsGroups: from the row's data to the walk.
-/
import Derived.Test.YtfgfjkchcnpakaaDoorFLawGroups
import Derived.Test.YtfgfjkchcnpakaaDoorFSized
namespace Go.Proofs.YtfgfjkchcnpakaaDoor
set_option linter.unusedVariables false
open Go.ChangeShapes Go.WideShapes Go.ChangeAt Go.RowKit Go.Deep

theorem open_nil22 {H : Type} {enc : TypeId × Value → H} {W : World} {a : Option Addr} {len cap fuel : Nat} {x : DataW H × List MemPlace} (h : DataW.trod enc Tryd.prog W 0 (fun _ => true) true fuel 22 [.slice a len cap] = some x) (ha : a = none) : cap = 0 := by
  rcases open_slice_pairs Tryd.underlying22 Tryd.underlying36 (by kernel_rfl) rfl rfl (by kernel_rfl) (by kernel_rfl) h with ⟨hcs, hx⟩ | ⟨a', len', cap', m, n, V0, V1, D0, D1, P0, P1, hcs, hb, hl, hm, hmm, hx, hall⟩
  · simp at hcs
    exact hcs.2.2
  · simp at hcs
    rw [hcs.1] at ha; cases ha
end Go.Proofs.YtfgfjkchcnpakaaDoor
