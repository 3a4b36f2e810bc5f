/-
  What all rows of the seat want: the tables that the rows list, in the walks' words and in the witness.
-/
import Derived.Test.YtfgfjkchcnpakaaDoorRows
import Derived.Test.YtfgfjkchcnpakaaDoorTie
import Derived.Test.YtfgfjkchcnpakaaDoorCards
import Derived.Test.YtfgfjkchcnpakaaDoorFJoin2
import Derived.ProofKit
import Derived.LaidMore
import Derived.Lay
import Derived.OpenShut
import Derived.ShutString
import Derived.Stop.Joined
import Derived.Stop.LaidErr
import Derived.SevenTiedAt
import Derived.ChangeOld
import Derived.Below
import Derived.Deep.DeepHandedRow
import Derived.Deep.SlicePairs
import Derived.SizedLaws
import Derived.ChangeSlices
namespace Go.Proofs.YtfgfjkchcnpakaaDoor
set_option linter.unusedVariables false
open Go.ChangeShapes Go.WideShapes Go.ChangeAt Go.RowKit Go.Deep

theorem own : ownKnob Tryd.prog.godebug = none := by kernel_rfl
theorem laidOut : laidOutB Tryd.prog = true := by kernel_rfl
/-- The list that every row of the seat bears. -/
abbrev tabs : List (String × DataW Unit) := [("math/bits.deBruijn32tab", Rows.laid_math_bits_deBruijn32tab), ("math/bits.deBruijn64tab", Rows.laid_math_bits_deBruijn64tab), ("internal/strconv.uint64pow10", Rows.laid_internal_strconv_uint64pow10)]
theorem pow10_data : (Rows.laid_internal_strconv_uint64pow10 : DataW Unit) = Lib.tabData .u64 Lib.pow10Tab := by kernel_rfl
theorem gPow : Tryd.prog.globalNamed "internal/strconv.uint64pow10" = some 0 := by kernel_rfl
theorem tPow : (Tryd.prog.globals[0]?).map (·.type) = some 125 := by kernel_rfl
theorem pow_of {W : World} (h : laidMetH Tryd.prog tabs W) : Pow W := by
  rw [MakeChecks.laidMetH_plain _ _ _ (by kernel_rfl)] at h
  have h2 := h.tail.tail
  rw [pow10_data] at h2
  exact Lib.tabIs_of_head gPow tPow Tryd.underlying125 Tryd.underlying116 (by kernel_rfl) (by kernel_rfl) h2
theorem tabs_met (os : Os) (args : Array Value) : laidMetH Tryd.prog tabs ((World.laidAll Tryd.prog os tabs).forCall (fun _ _ => 0) ⟨#[], args, []⟩).memory := by
  rw [MakeChecks.laidMetH_plain _ _ _ (by kernel_rfl)]
  exact laidMet_laidAll _ (by kernel_rfl) (by kernel_rfl)

/-- A field as a datum. -/
def fdat (H : Type) (f : Fld) : DataW H := .agg [.lit (.int .i64 f.1), .lit (.string f.2)]
theorem bulk_fdat {H : Type} (f : Fld) : Rows.uptoBulk (fdat H f) = f.2.length + 3 := by
  simp [fdat, Rows.uptoBulk, Rows.uptoBulkAll]; omega
theorem bulk_body {H : Type} : ∀ fs : List Fld, okT fs → (bodyB fs).length ≤ 8 * Rows.uptoBulkAll (fs.map (fdat H)) ∧ fs.length ≤ Rows.uptoBulkAll (fs.map (fdat H))
  | [], _ => by simp [bodyB]
  | f :: fs, h => by
    have ih := bulk_body (H := H) fs (fun g hg => h g (by simp [hg]))
    have eb : bodyB (f :: fs) = fldL f ++ bodyB fs := by simp [bodyB]
    have ht := h f (by simp)
    have hi := itoa_le f.1 ht.1 ht.2
    rw [eb, List.length_append, fldL_length, List.map_cons]
    simp only [Rows.uptoBulkAll, bulk_fdat, List.length_cons]
    omega
/-- Fields that came in. -/
theorem open_flds {H : Type} {enc : TypeId × Value → H} {W : World} {a : Option Addr} {len cap fuel : Nat} {x : DataW H × List MemPlace} (h : DataW.trod enc Tryd.prog W 0 (fun _ => true) true fuel 22 [.slice a len cap] = some x) :
    ∃ fs : List Fld, SrcF W (.slice a len cap) fs ∧ okT fs ∧ fs.length = len ∧ (∀ f ∈ fs, f.2.length ≤ maxLen) ∧ (bodyB fs).length ≤ 8 * Rows.uptoBulk x.1 ∧ fs.length ≤ Rows.uptoBulk x.1 := by
  rcases open_slice_pairs Tryd.underlying22 Tryd.underlying36 (by kernel_rfl) rfl rfl (by kernel_rfl) (by kernel_rfl) h with ⟨hcs, hx⟩ | ⟨a', len', cap', m, n, V0, V1, D0, D1, P0, P1, hcs, hb, hl, hm, hmm, hx, hall⟩
  · simp at hcs
    obtain ⟨rfl, rfl, rfl⟩ := hcs
    exact ⟨[], ⟨none, 0, rfl, Nat.le_refl _, .inl rfl⟩, fun f hf => by simp at hf, rfl, fun f hf => by simp at hf, by simp [bodyB], Nat.zero_le _⟩
  · simp at hcs
    obtain ⟨rfl, rfl, rfl⟩ := hcs
    have hlm : len ≤ m := by rw [hmm]; split <;> omega
    have each : ∀ i, i < len → ∃ q : Int × ByteArray, W.cell? (a'.add (i * 2)) = some (.int .i64 q.1) ∧ W.cell? (a'.add (i * 2 + 1)) = some (.string q.2) ∧ D0 i = .lit (.int .i64 q.1) ∧ D1 i = .lit (.string q.2.data.toList) ∧ (Lit.int .i64 q.1).wf = true ∧ q.2.size ≤ maxLen := by
      intro i hi
      obtain ⟨h1, h2, h3, h4⟩ := hall i (by omega)
      obtain ⟨z, e1, e2, e3⟩ := DataW.trod_int Tryd.underlying3 h3
      obtain ⟨b, e4, e5, e6⟩ := DataW.trod_string Tryd.underlying9 h4
      simp only [List.cons.injEq, and_true] at e1 e4
      rw [e1] at h1
      rw [e4] at h2
      exact ⟨(z, b), h1, h2, (Prod.mk.inj e2).1, (Prod.mk.inj e5).1, e3, e6⟩
    obtain ⟨q, hq⟩ := choose_lt each
    refine ⟨(List.range len).map fun i => ((q i).1, (q i).2.data.toList), ?_, ?_, by simp, ?_, ?_⟩
    · refine ⟨some a', cap, by simp, by simpa using hl, ?_⟩
      by_cases h0 : len = 0
      · subst h0; exact .inl rfl
      · obtain ⟨b, off, spot⟩ := a'
        have h1 := (hq 0 (by omega)).1
        have hs : spot = none := by
          cases spot with
          | none => rfl
          | some s =>
            simp [Addr.add, World.cell?] at h1
            split at h1 <;> simp at h1
        subst hs
        refine .inr ⟨b, off, rfl, fun j f hj => ?_⟩
        have hjl : j < len := by have := (List.getElem?_eq_some_iff.1 hj).1; simpa using this
        simp only [List.getElem?_map, List.getElem?_range hjl, Option.map_some, Option.some.injEq] at hj
        subst hj
        obtain ⟨g1, g2, _⟩ := hq j hjl
        rw [addr_add] at g1 g2
        exact ⟨g1, by rw [show off + j * 2 + 1 = off + (j * 2 + 1) by omega]; exact g2⟩
    · intro f hf
      simp only [List.mem_map, List.mem_range] at hf
      obtain ⟨i, hi, rfl⟩ := hf
      have := (hq i hi).2.2.2.2.1
      have hb := bounds_i64 this
      exact hb
    · intro f hf
      simp only [List.mem_map, List.mem_range] at hf
      obtain ⟨i, hi, rfl⟩ := hf
      have := (hq i hi).2.2.2.2.2
      rw [size_data]; exact this
    · have hbd : okT ((List.range len).map fun i => ((q i).1, (q i).2.data.toList)) := by
        intro f hf
        simp only [List.mem_map, List.mem_range] at hf
        obtain ⟨i, hi, rfl⟩ := hf
        exact bounds_i64 (hq i hi).2.2.2.2.1
      have hbk := bulk_body (H := H) _ hbd
      have he : ((List.range len).map fun i => DataW.agg [D0 i, D1 i]) = ((List.range len).map fun i => ((q i).1, (q i).2.data.toList)).map (fdat H) := by
        rw [List.map_map]
        refine List.map_congr_left fun i hi => ?_
        obtain ⟨_, _, g3, g4, _⟩ := hq i (List.mem_range.1 hi)
        rw [g3, g4]; rfl
      rw [hx]
      simp only [Rows.uptoBulk]
      rw [he]
      omega
/-- Bytes that came in. -/
theorem srcB_of_ints {W : World} {x : Addr} {l c : Nat} {zs : List Int} (hl : l ≤ c) (hz : zs.length = c) (hcell : ∀ i, i < zs.length → W.cell? (x.add i) = some (.int .u8 (zs.getD i 0))) (hwz : ∀ n ∈ zs, (Lit.int .u8 n).wf = true) :
    ∃ s : List UInt8, SrcB W (.slice (some x) l c) s ∧ s.length = l := by
  have hu : ∀ i, i < c → ∃ u : UInt8, zs.getD i 0 = (u.toNat : Int) := fun i hi => by
    have hm : zs.getD i 0 ∈ zs := by rw [List.getD_eq_getElem?_getD, List.getElem?_eq_getElem (by omega)]; exact List.getElem_mem _
    have hb := bounds_u8 (hwz _ hm)
    generalize zs.getD i 0 = z at *
    refine ⟨UInt8.ofNat z.toNat, ?_⟩
    have : (UInt8.ofNat z.toNat).toNat = z.toNat := by simp; omega
    rw [this]; omega
  obtain ⟨q, hq⟩ := choose_lt hu
  refine ⟨(List.range l).map q, ⟨some x, c, by simp, by simpa using hl, ?_⟩, by simp⟩
  by_cases h0 : l = 0
  · subst h0; exact .inl rfl
  · obtain ⟨b, off, spot⟩ := x
    have h1 := hcell 0 (by omega)
    have hs : spot = none := by
      cases spot with
      | none => rfl
      | some s =>
        simp [Addr.add, World.cell?] at h1
        split at h1 <;> simp at h1
    subst hs
    refine .inr ⟨b, off, rfl, fun j cc hj => ?_⟩
    have hjl : j < l := by have := (List.getElem?_eq_some_iff.1 hj).1; simpa using this
    simp only [List.getElem?_map, List.getElem?_range hjl, Option.map_some, Option.some.injEq] at hj
    subst hj
    have g1 := hcell j (by omega)
    rw [addr_add, hq j (by omega)] at g1
    exact g1
theorem bytes5 : Tryd.prog.bytesOf 5 = 1 := by kernel_rfl
theorem open_byts {H : Type} {enc : TypeId × Value → H} {W : World} {a : Option Addr} {len cap fuel : Nat} {x : DataW H × List MemPlace} (h : DataW.trod enc Tryd.prog W 0 (fun _ => true) true fuel 23 [.slice a len cap] = some x) :
    ∃ s : List UInt8, SrcB W (.slice a len cap) s ∧ s.length = len ∧ len ≤ maxLen := by
  rcases open_ints Tryd.underlying23 Tryd.underlying5 (by kernel_rfl) h with ⟨hcs, _⟩ | ⟨x, l, c, zs, hcs, _, hl, hm, hz, hx, hcell, hwz⟩
  · simp at hcs
    obtain ⟨rfl, rfl, rfl⟩ := hcs
    exact ⟨[], ⟨none, 0, rfl, Nat.le_refl _, .inl rfl⟩, rfl, by decide⟩
  · simp at hcs
    obtain ⟨rfl, rfl, rfl⟩ := hcs
    have hz' : zs.length = cap := by simpa using hz
    obtain ⟨s, h1, h2⟩ := srcB_of_ints hl hz' hcell hwz
    exact ⟨s, h1, h2, Nat.le_trans hl hm⟩
end Go.Proofs.YtfgfjkchcnpakaaDoor
