/-
  LedgerBreaks: truths that came in.
-/
import Derived.Test.YtidhahooebepfaaJDdIn
import Derived.Test.YtidhahooebepfaaJBrks
namespace Go.Proofs.Ytidhahooebepfaa
set_option linter.unusedVariables false
open Go.ChangeShapes Go.WideShapes Go.ChangeAt Go.RowKit

theorem srcT_of_bools {W : World} {x : Addr} {l c : Nat} {B : Nat → Bool} (hl : l ≤ c) (hcell : ∀ i, i < c → W.cell? (x.add i) = some (.bool (B i))) : SrcT W (some x) l B := by
  by_cases h0 : l = 0
  · exact .inl h0
  · obtain ⟨b, off, spot⟩ := x
    have h1 := hcell 0 (by omega)
    have hs : spot = none := by
      cases spot with
      | none => rfl
      | some s =>
        simp [Addr.add, World.cell?] at h1
        split at h1 <;> simp at h1
    subst hs
    refine .inr ⟨b, off, rfl, fun j hj => ?_⟩
    have h2 := hcell j (by omega)
    rw [show (⟨b, off, none⟩ : Addr).add j = ⟨b, off + j, none⟩ by unfold Addr.add; split <;> simp_all] at h2
    exact h2
end Go.Proofs.Ytidhahooebepfaa
