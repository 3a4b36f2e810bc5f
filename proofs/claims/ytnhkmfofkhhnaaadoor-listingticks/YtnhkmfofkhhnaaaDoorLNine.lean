/-
  listing: nine cells are written.
-/
import Derived.Test.YtnhkmfofkhhnaaaDoorLMem
namespace Go.Proofs.YtnhkmfofkhhnaaaDoor
set_option linter.unusedVariables false
open Go.Shelf Go.RowKit Go.Sort Go.Lib

/-- Nine cells are written. -/
theorem nine {w : World} {g : Nat} {T : TypeId} {z0 z1 z2 z3 z4 z5 z6 z7 z8 : Value} (a0 a1 a2 a3 a4 a5 a6 a7 a8 : Value) (b0 : Blk w g T #[z0, z1, z2, z3, z4, z5, z6, z7, z8]) :
    Blk (((((((((w.setCell ⟨g, 0, none⟩ a0).setCell ⟨g, 1, none⟩ a1).setCell ⟨g, 2, none⟩ a2).setCell ⟨g, 3, none⟩ a3).setCell ⟨g, 4, none⟩ a4).setCell ⟨g, 5, none⟩ a5).setCell ⟨g, 6, none⟩ a6).setCell ⟨g, 7, none⟩ a7).setCell ⟨g, 8, none⟩ a8) g T #[a0, a1, a2, a3, a4, a5, a6, a7, a8] ∧ (∀ q, q ≠ g → (((((((((w.setCell ⟨g, 0, none⟩ a0).setCell ⟨g, 1, none⟩ a1).setCell ⟨g, 2, none⟩ a2).setCell ⟨g, 3, none⟩ a3).setCell ⟨g, 4, none⟩ a4).setCell ⟨g, 5, none⟩ a5).setCell ⟨g, 6, none⟩ a6).setCell ⟨g, 7, none⟩ a7).setCell ⟨g, 8, none⟩ a8).heap[q]? = w.heap[q]?) ∧ Below g w (((((((((w.setCell ⟨g, 0, none⟩ a0).setCell ⟨g, 1, none⟩ a1).setCell ⟨g, 2, none⟩ a2).setCell ⟨g, 3, none⟩ a3).setCell ⟨g, 4, none⟩ a4).setCell ⟨g, 5, none⟩ a5).setCell ⟨g, 6, none⟩ a6).setCell ⟨g, 7, none⟩ a7).setCell ⟨g, 8, none⟩ a8) := by
  have k0 : ∀ q, q ≠ g → w.heap[q]? = w.heap[q]? := fun _ _ => rfl
  have e0 := Below.refl g w
  have b1 := b0.set 0 a0
  have k1 : ∀ q, q ≠ g → (w.setCell ⟨g, 0, none⟩ a0).heap[q]? = w.heap[q]? := fun q hq => (Below.heap_setCell _ _ _ _ (fun e => hq e)).trans (k0 q hq)
  have e1 := below_set e0 (Nat.le_refl g) 0 a0
  have b2 := b1.set 1 a1
  have k2 : ∀ q, q ≠ g → ((w.setCell ⟨g, 0, none⟩ a0).setCell ⟨g, 1, none⟩ a1).heap[q]? = w.heap[q]? := fun q hq => (Below.heap_setCell _ _ _ _ (fun e => hq e)).trans (k1 q hq)
  have e2 := below_set e1 (Nat.le_refl g) 1 a1
  have b3 := b2.set 2 a2
  have k3 : ∀ q, q ≠ g → (((w.setCell ⟨g, 0, none⟩ a0).setCell ⟨g, 1, none⟩ a1).setCell ⟨g, 2, none⟩ a2).heap[q]? = w.heap[q]? := fun q hq => (Below.heap_setCell _ _ _ _ (fun e => hq e)).trans (k2 q hq)
  have e3 := below_set e2 (Nat.le_refl g) 2 a2
  have b4 := b3.set 3 a3
  have k4 : ∀ q, q ≠ g → ((((w.setCell ⟨g, 0, none⟩ a0).setCell ⟨g, 1, none⟩ a1).setCell ⟨g, 2, none⟩ a2).setCell ⟨g, 3, none⟩ a3).heap[q]? = w.heap[q]? := fun q hq => (Below.heap_setCell _ _ _ _ (fun e => hq e)).trans (k3 q hq)
  have e4 := below_set e3 (Nat.le_refl g) 3 a3
  have b5 := b4.set 4 a4
  have k5 : ∀ q, q ≠ g → (((((w.setCell ⟨g, 0, none⟩ a0).setCell ⟨g, 1, none⟩ a1).setCell ⟨g, 2, none⟩ a2).setCell ⟨g, 3, none⟩ a3).setCell ⟨g, 4, none⟩ a4).heap[q]? = w.heap[q]? := fun q hq => (Below.heap_setCell _ _ _ _ (fun e => hq e)).trans (k4 q hq)
  have e5 := below_set e4 (Nat.le_refl g) 4 a4
  have b6 := b5.set 5 a5
  have k6 : ∀ q, q ≠ g → ((((((w.setCell ⟨g, 0, none⟩ a0).setCell ⟨g, 1, none⟩ a1).setCell ⟨g, 2, none⟩ a2).setCell ⟨g, 3, none⟩ a3).setCell ⟨g, 4, none⟩ a4).setCell ⟨g, 5, none⟩ a5).heap[q]? = w.heap[q]? := fun q hq => (Below.heap_setCell _ _ _ _ (fun e => hq e)).trans (k5 q hq)
  have e6 := below_set e5 (Nat.le_refl g) 5 a5
  have b7 := b6.set 6 a6
  have k7 : ∀ q, q ≠ g → (((((((w.setCell ⟨g, 0, none⟩ a0).setCell ⟨g, 1, none⟩ a1).setCell ⟨g, 2, none⟩ a2).setCell ⟨g, 3, none⟩ a3).setCell ⟨g, 4, none⟩ a4).setCell ⟨g, 5, none⟩ a5).setCell ⟨g, 6, none⟩ a6).heap[q]? = w.heap[q]? := fun q hq => (Below.heap_setCell _ _ _ _ (fun e => hq e)).trans (k6 q hq)
  have e7 := below_set e6 (Nat.le_refl g) 6 a6
  have b8 := b7.set 7 a7
  have k8 : ∀ q, q ≠ g → ((((((((w.setCell ⟨g, 0, none⟩ a0).setCell ⟨g, 1, none⟩ a1).setCell ⟨g, 2, none⟩ a2).setCell ⟨g, 3, none⟩ a3).setCell ⟨g, 4, none⟩ a4).setCell ⟨g, 5, none⟩ a5).setCell ⟨g, 6, none⟩ a6).setCell ⟨g, 7, none⟩ a7).heap[q]? = w.heap[q]? := fun q hq => (Below.heap_setCell _ _ _ _ (fun e => hq e)).trans (k7 q hq)
  have e8 := below_set e7 (Nat.le_refl g) 7 a7
  have b9 := b8.set 8 a8
  have k9 : ∀ q, q ≠ g → (((((((((w.setCell ⟨g, 0, none⟩ a0).setCell ⟨g, 1, none⟩ a1).setCell ⟨g, 2, none⟩ a2).setCell ⟨g, 3, none⟩ a3).setCell ⟨g, 4, none⟩ a4).setCell ⟨g, 5, none⟩ a5).setCell ⟨g, 6, none⟩ a6).setCell ⟨g, 7, none⟩ a7).setCell ⟨g, 8, none⟩ a8).heap[q]? = w.heap[q]? := fun q hq => (Below.heap_setCell _ _ _ _ (fun e => hq e)).trans (k8 q hq)
  have e9 := below_set e8 (Nat.le_refl g) 8 a8
  simp only [List.setIfInBounds_toArray, List.set_cons_zero, List.set_cons_succ] at b9
  exact ⟨b9, k9, e9⟩
end Go.Proofs.YtnhkmfofkhhnaaaDoor
