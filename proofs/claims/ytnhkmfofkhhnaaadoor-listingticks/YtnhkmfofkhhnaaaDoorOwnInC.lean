/-
  Numbers that came in: from what the row lays down to the walks' words.
-/
import Derived.Test.YtnhkmfofkhhnaaaDoorOpen
import Derived.SizedLaws
import Derived.ChangeSlices
namespace Go.Proofs.YtnhkmfofkhhnaaaDoor
open Go.ChangeShapes
set_option linter.unusedVariables false
theorem srcI_of_ints {W : World} {x : Addr} {l c : Nat} {zs : List Int} (hl : l ≤ c) (hz : zs.length = c) (hcell : ∀ i, i < zs.length → W.cell? (x.add i) = some (.int .i64 (zs.getD i 0))) (hwz : ∀ n ∈ zs, (Lit.int .i64 n).wf = true) : SrcI W (some x) l (fun j => zs.getD j 0) := by
  by_cases h0 : l = 0
  · exact .inl h0
  · obtain ⟨b, off, spot⟩ := x
    have h1 := hcell 0 (by omega)
    have hs : spot = none := by
      cases spot with
      | none => rfl
      | some s =>
        simp [Addr.add, World.cell?] at h1
        split at h1 <;> simp at h1
    subst hs
    refine .inr ⟨b, off, rfl, fun j hj => ?_⟩
    have h2 := hcell j (by omega)
    rw [show (⟨b, off, none⟩ : Addr).add j = ⟨b, off + j, none⟩ by unfold Addr.add; split <;> simp_all] at h2
    have h3 := hwz (zs.getD j 0) (by rw [List.getD_eq_getElem?_getD, List.getElem?_eq_getElem (by omega)]; exact List.getElem_mem _)
    simp [Lit.wf, IntKind.min, IntKind.max, IntKind.signed, IntKind.bits, -List.getD_eq_getElem?_getD] at h3
    exact ⟨h2, by show _ ≤ zs.getD j 0; omega, by show zs.getD j 0 ≤ _; omega⟩
end Go.Proofs.YtnhkmfofkhhnaaaDoor
