/-
  Bytes that came in: from what the row lays down to the walks' words.
-/
import Derived.Test.YthadnogcocmfgabGreatDoorOwn
import Derived.SizedLaws
import Derived.ChangeSlices
namespace Go.Proofs.YthadnogcocmfgabGreatDoor
open Go.ChangeShapes
set_option linter.unusedVariables false
theorem src_of_ints {W : World} {x : Addr} {l c : Nat} {zs : List Int} (hl : l ≤ c) (hz : zs.length = c) (hcell : ∀ i, i < zs.length → W.cell? (x.add i) = some (.int .u8 (zs.getD i 0))) (hwz : ∀ n ∈ zs, (Lit.int .u8 n).wf = true) : Src W (some x) l (fun j => (zs.getD j 0).toNat) := by
  by_cases h0 : l = 0
  · exact .inl h0
  · obtain ⟨b, off, spot⟩ := x
    have h1 := hcell 0 (by omega)
    have hs : spot = none := by
      cases spot with
      | none => rfl
      | some s =>
        simp [Addr.add, World.cell?] at h1
        split at h1 <;> simp at h1
    subst hs
    refine .inr ⟨b, off, rfl, fun j hj => ?_⟩
    have h2 := hcell j (by omega)
    rw [show (⟨b, off, none⟩ : Addr).add j = ⟨b, off + j, none⟩ by unfold Addr.add; split <;> simp_all] at h2
    have h3 := hwz (zs.getD j 0) (by rw [List.getD_eq_getElem?_getD, List.getElem?_eq_getElem (by omega)]; exact List.getElem_mem _)
    simp [Lit.wf, IntKind.min, IntKind.max, IntKind.signed, IntKind.bits, -List.getD_eq_getElem?_getD] at h3
    refine ⟨?_, by show (zs.getD j 0).toNat < 256; omega⟩
    rw [h2]
    show some (Value.int .u8 (zs.getD j 0)) = some (Value.int .u8 ((zs.getD j 0).toNat : Int))
    rw [Int.toNat_of_nonneg (by omega)]
theorem bytes5 : Tryz.prog.bytesOf 5 = 1 := by kernel_rfl
theorem lits_length {H : Type} (k : IntKind) (zs : List Int) : (lits (H := H) k zs).length = zs.length := by simp [lits]
theorem len_of_sized {H : Type} {l c B : Nat} {k : IntKind} {zs : List Int} (hl : l ≤ c) (hz : zs.length = c) (hB : B = 1) (h : ((lits (H := H) k (zs.take l)).length + (lits (H := H) k (zs.drop l)).length) * B ≤ reachBytes) : l ≤ 140737488351232 := by
  have := reachBytes_lt
  have hr : reachBytes ≤ 140737488351232 := by decide
  rw [lits_length, lits_length, hB, List.length_take, List.length_drop] at h
  omega
end Go.Proofs.YthadnogcocmfgabGreatDoor
