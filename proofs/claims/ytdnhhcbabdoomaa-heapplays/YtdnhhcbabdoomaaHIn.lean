/-
  What all rows of the seat want; numbers that came in.
-/
import Derived.Test.YtdnhhcbabdoomaaRows
import Derived.Test.YtdnhhcbabdoomaaHTwo
import Derived.Deep.Grids
import Derived.ProofKit
import Derived.OpenShut
import Derived.Handed
import Derived.JoinedOf
import Derived.Carry
import Derived.SizedLaws
import Derived.ChangeSlices
import Derived.Below
namespace Go.Proofs.Ytdnhhcbabdoomaa
set_option linter.unusedVariables false
open Go.ChangeShapes Go.WideShapes Go.ChangeAt Go.RowKit

theorem own : ownKnob Try.prog.godebug = none := by kernel_rfl
theorem laidOut : laidOutB Try.prog = true := by kernel_rfl
theorem srcI_of_ints {W : World} {x : Addr} {l c : Nat} {zs : List Int} (hl : l ≤ c) (hz : zs.length = c) (hcell : ∀ i, i < zs.length → W.cell? (x.add i) = some (.int .i64 (zs.getD i 0))) (hwz : ∀ n ∈ zs, (Lit.int .i64 n).wf = true) : SrcI W (some x) l (fun j => zs.getD j 0) := by
  by_cases h0 : l = 0
  · exact .inl h0
  · obtain ⟨b, off, spot⟩ := x
    have h1 := hcell 0 (by omega)
    have hs : spot = none := by
      cases spot with
      | none => rfl
      | some s =>
        simp [Addr.add, World.cell?] at h1
        split at h1 <;> simp at h1
    subst hs
    refine .inr ⟨b, off, rfl, fun j hj => ?_⟩
    have h2 := hcell j (by omega)
    rw [show (⟨b, off, none⟩ : Addr).add j = ⟨b, off + j, none⟩ by unfold Addr.add; split <;> simp_all] at h2
    have h3 := hwz (zs.getD j 0) (by rw [List.getD_eq_getElem?_getD, List.getElem?_eq_getElem (by omega)]; exact List.getElem_mem _)
    simp [Lit.wf, IntKind.min, IntKind.max, IntKind.signed, IntKind.bits, -List.getD_eq_getElem?_getD] at h3
    exact ⟨h2, by show _ ≤ zs.getD j 0; omega, by show zs.getD j 0 ≤ _; omega⟩
theorem srcT_of_bools {W : World} {x : Addr} {l c : Nat} {B : Nat → Bool} (hl : l ≤ c) (hcell : ∀ i, i < c → W.cell? (x.add i) = some (.bool (B i))) : SrcT W (some x) l B := by
  by_cases h0 : l = 0
  · exact .inl h0
  · obtain ⟨b, off, spot⟩ := x
    have h1 := hcell 0 (by omega)
    have hs : spot = none := by
      cases spot with
      | none => rfl
      | some s =>
        simp [Addr.add, World.cell?] at h1
        split at h1 <;> simp at h1
    subst hs
    refine .inr ⟨b, off, rfl, fun j hj => ?_⟩
    have h2 := hcell j (by omega)
    rw [show (⟨b, off, none⟩ : Addr).add j = ⟨b, off + j, none⟩ by unfold Addr.add; split <;> simp_all] at h2
    exact h2
end Go.Proofs.Ytdnhhcbabdoomaa
