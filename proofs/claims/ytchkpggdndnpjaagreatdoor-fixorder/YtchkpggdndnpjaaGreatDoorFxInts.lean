/-
  Numbers that came in.
-/
import Derived.Test.YtchkpggdndnpjaaGreatDoorG47
import Derived.Test.YtchkpggdndnpjaaGreatDoorFxLawOrder
namespace Go.Proofs.YtchkpggdndnpjaaGreatDoor
set_option linter.unusedVariables false
open Go.ChangeShapes Go.WideShapes Go.ChangeAt Go.RowKit Go.Deep

theorem open_numbers {H : Type} {enc : TypeId × Value → H} {W : World} {a : Option Addr} {len cap fuel : Nat} {x : DataW H × List MemPlace} (h : DataW.trod enc Tryz.prog W 0 (fun _ => true) true fuel 38 [.slice a len cap] = some x) :
    IntsIn W a len ∧ len ≤ 9223372036854775807 := by
  rcases open_ints Tryz.underlying38 Tryz.underlying3 (by kernel_rfl) h with ⟨hcs, _⟩ | ⟨ad, l, c, zs, hcs, _, hl, hm, hz, hx, hcell, hwz⟩
  · simp at hcs
    obtain ⟨rfl, rfl, rfl⟩ := hcs
    exact ⟨fun k hk => absurd hk (Nat.not_lt_zero _), Nat.zero_le _⟩
  · simp at hcs
    obtain ⟨rfl, rfl, rfl⟩ := hcs
    have hz' : zs.length = cap := by simpa using hz
    refine ⟨fun k hk => ?_, by unfold maxLen at hm; omega⟩
    obtain ⟨b, off, spot⟩ := ad
    have h1 := hcell 0 (by omega)
    have hsp : spot = none := by
      cases spot with
      | none => rfl
      | some s =>
        simp [Addr.add, World.cell?] at h1
        split at h1 <;> simp at h1
    subst hsp
    have h2 := hcell k (by omega)
    rw [show (⟨b, off, none⟩ : Addr).add k = ⟨b, off + k, none⟩ by unfold Addr.add; split <;> simp_all] at h2
    have h3 := hwz (zs.getD k 0) (by rw [List.getD_eq_getElem?_getD, List.getElem?_eq_getElem (by omega)]; exact List.getElem_mem _)
    have h4 := bounds_i64 h3
    exact ⟨_, h4.1, h4.2, b, off, rfl, h2⟩
end Go.Proofs.YtchkpggdndnpjaaGreatDoor
