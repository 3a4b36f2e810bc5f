/-
  How long a list of bytes can be that came in.
-/
import Derived.Test.YtjnnecoikcmaeaaTIn
import Derived.SizedLaws
import Derived.ChangeSlices
namespace Go.Proofs.Ytjnnecoikcmaeaa
open Go.ChangeShapes
theorem bytes5 : Try.prog.bytesOf 5 = 1 := by kernel_rfl
theorem lits_length {H : Type} (k : IntKind) (zs : List Int) : (lits (H := H) k zs).length = zs.length := by simp [lits]
theorem len_of_sized {H : Type} {l c B : Nat} {k : IntKind} {zs : List Int} (hl : l ≤ c) (hz : zs.length = c) (hB : B = 1) (h : ((lits (H := H) k (zs.take l)).length + (lits (H := H) k (zs.drop l)).length) * B ≤ reachBytes) : l ≤ 140737488351232 := by
  have := reachBytes_lt
  have hr : reachBytes ≤ 140737488351232 := by decide
  rw [lits_length, lits_length, hB, List.length_take, List.length_drop] at h
  omega
end Go.Proofs.Ytjnnecoikcmaeaa
