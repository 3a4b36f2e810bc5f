/-
  Bytes that came in.
-/
import Derived.Test.YtchkpggdndnpjaaGreatDoorG47
import Derived.Test.YtchkpggdndnpjaaGreatDoorG24
import Derived.Deep.SlicePairs
import Derived.Deep.Slices
namespace Go.Proofs.YtchkpggdndnpjaaGreatDoor
set_option linter.unusedVariables false
open Go.ChangeShapes Go.WideShapes Go.ChangeAt Go.RowKit Go.Deep

theorem srcB_of_ints {W : World} {x : Addr} {l c : Nat} {zs : List Int} (hl : l ≤ c) (hz : zs.length = c) (hcell : ∀ i, i < zs.length → W.cell? (x.add i) = some (.int .u8 (zs.getD i 0))) (hwz : ∀ n ∈ zs, (Lit.int .u8 n).wf = true) :
    ∃ s : List UInt8, SrcB W (.slice (some x) l c) s ∧ s.length = l := by
  have hu : ∀ i, i < c → ∃ u : UInt8, zs.getD i 0 = (u.toNat : Int) := fun i hi => by
    have hm : zs.getD i 0 ∈ zs := by rw [List.getD_eq_getElem?_getD, List.getElem?_eq_getElem (by omega)]; exact List.getElem_mem _
    have hb := bounds_u8 (hwz _ hm)
    generalize zs.getD i 0 = z at *
    refine ⟨UInt8.ofNat z.toNat, ?_⟩
    have : (UInt8.ofNat z.toNat).toNat = z.toNat := by simp; omega
    rw [this]; omega
  obtain ⟨q, hq⟩ := choose_lt hu
  refine ⟨(List.range l).map q, ⟨some x, c, by simp, by simpa using hl, ?_⟩, by simp⟩
  by_cases h0 : l = 0
  · subst h0; exact .inl rfl
  · obtain ⟨b, off, spot⟩ := x
    have h1 := hcell 0 (by omega)
    have hs : spot = none := by
      cases spot with
      | none => rfl
      | some s =>
        simp [Addr.add, World.cell?] at h1
        split at h1 <;> simp at h1
    subst hs
    refine .inr ⟨b, off, rfl, fun j cc hj => ?_⟩
    have hjl : j < l := by have := (List.getElem?_eq_some_iff.1 hj).1; simpa using this
    simp only [List.getElem?_map, List.getElem?_range hjl, Option.map_some, Option.some.injEq] at hj
    subst hj
    have g1 := hcell j (by omega)
    rw [addr_add, hq j (by omega)] at g1
    exact g1
theorem open_byts {H : Type} {enc : TypeId × Value → H} {W : World} {a : Option Addr} {len cap fuel : Nat} {x : DataW H × List MemPlace} (h : DataW.trod enc Tryz.prog W 0 (fun _ => true) true fuel 22 [.slice a len cap] = some x) :
    ∃ s : List UInt8, SrcB W (.slice a len cap) s ∧ s.length = len ∧ len ≤ maxLen := by
  rcases open_ints Tryz.underlying22 Tryz.underlying5 (by kernel_rfl) h with ⟨hcs, _⟩ | ⟨x, l, c, zs, hcs, _, hl, hm, hz, hx, hcell, hwz⟩
  · simp at hcs
    obtain ⟨rfl, rfl, rfl⟩ := hcs
    exact ⟨[], ⟨none, 0, rfl, Nat.le_refl _, .inl rfl⟩, rfl, by decide⟩
  · simp at hcs
    obtain ⟨rfl, rfl, rfl⟩ := hcs
    have hz' : zs.length = cap := by simpa using hz
    obtain ⟨s, h1, h2⟩ := srcB_of_ints hl hz' hcell hwz
    exact ⟨s, h1, h2, Nat.le_trans hl hm⟩
end Go.Proofs.YtchkpggdndnpjaaGreatDoor
