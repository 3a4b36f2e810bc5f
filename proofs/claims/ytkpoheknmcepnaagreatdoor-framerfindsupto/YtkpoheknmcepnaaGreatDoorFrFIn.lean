/-
  Lists of fields that came in, for framer's rows.
-/
import Derived.Test.YtkpoheknmcepnaaGreatDoorFrIn
import Derived.Test.YtkpoheknmcepnaaGreatDoorFrK
import Derived.Deep.Slices
import Derived.Deep.SlicePairs
namespace Go.Proofs.YtkpoheknmcepnaaGreatDoor
set_option linter.unusedVariables false
open Go.ChangeShapes Go.WideShapes Go.ChangeAt Go.RowKit Go.Deep

/-- A field as a datum. -/
def fdat (H : Type) (f : Fld) : DataW H := .agg [.lit (.int .i64 f.1), .lit (.string f.2)]
theorem bulk_fdat {H : Type} (f : Fld) : Rows.uptoBulk (fdat H f) = f.2.length + 3 := by
  simp [fdat, Rows.uptoBulk, Rows.uptoBulkAll]; omega
theorem bulk_body {H : Type} : ∀ fs : List Fld, okT fs → (bodyFB fs).length ≤ 8 * Rows.uptoBulkAll (fs.map (fdat H)) ∧ fs.length ≤ Rows.uptoBulkAll (fs.map (fdat H))
  | [], _ => by simp [bodyFB]
  | f :: fs, h => by
    have ih := bulk_body (H := H) fs (fun g hg => h g (by simp [hg]))
    have eb : bodyFB (f :: fs) = fldL f ++ bodyFB fs := by simp [bodyFB]
    have ht := h f (by simp)
    have hi := itoa_le f.1 ht.1 ht.2
    rw [eb, List.length_append, fldL_length, List.map_cons]
    simp only [Rows.uptoBulkAll, bulk_fdat, List.length_cons]
    omega
/-- Fields that came in. -/
theorem open_flds {H : Type} {enc : TypeId × Value → H} {W : World} {a : Option Addr} {len cap fuel : Nat} {x : DataW H × List MemPlace} (h : DataW.trod enc Tryz.prog W 0 (fun _ => true) true fuel 47 [.slice a len cap] = some x) :
    ∃ fs : List Fld, SrcF W (.slice a len cap) fs ∧ okT fs ∧ fs.length = len ∧ (∀ f ∈ fs, f.2.length ≤ maxLen) ∧ (bodyFB fs).length ≤ 8 * Rows.uptoBulk x.1 ∧ fs.length ≤ Rows.uptoBulk x.1 := by
  rcases open_slice_pairs Tryz.underlying47 Tryz.underlying94 (by kernel_rfl) rfl rfl (by kernel_rfl) (by kernel_rfl) h with ⟨hcs, hx⟩ | ⟨a', len', cap', m, n, V0, V1, D0, D1, P0, P1, hcs, hb, hl, hm, hmm, hx, hall⟩
  · simp at hcs
    obtain ⟨rfl, rfl, rfl⟩ := hcs
    exact ⟨[], ⟨none, 0, rfl, Nat.le_refl _, .inl rfl⟩, fun f hf => by simp at hf, rfl, fun f hf => by simp at hf, by simp [bodyFB], Nat.zero_le _⟩
  · simp at hcs
    obtain ⟨rfl, rfl, rfl⟩ := hcs
    have hlm : len ≤ m := by rw [hmm]; split <;> omega
    have each : ∀ i, i < len → ∃ q : Int × ByteArray, W.cell? (a'.add (i * 2)) = some (.int .i64 q.1) ∧ W.cell? (a'.add (i * 2 + 1)) = some (.string q.2) ∧ D0 i = .lit (.int .i64 q.1) ∧ D1 i = .lit (.string q.2.data.toList) ∧ (Lit.int .i64 q.1).wf = true ∧ q.2.size ≤ maxLen := by
      intro i hi
      obtain ⟨h1, h2, h3, h4⟩ := hall i (by omega)
      obtain ⟨z, e1, e2, e3⟩ := DataW.trod_int Tryz.underlying3 h3
      obtain ⟨b, e4, e5, e6⟩ := DataW.trod_string Tryz.underlying9 h4
      simp only [List.cons.injEq, and_true] at e1 e4
      rw [e1] at h1
      rw [e4] at h2
      exact ⟨(z, b), h1, h2, (Prod.mk.inj e2).1, (Prod.mk.inj e5).1, e3, e6⟩
    obtain ⟨q, hq⟩ := choose_lt each
    refine ⟨(List.range len).map fun i => ((q i).1, (q i).2.data.toList), ?_, ?_, by simp, ?_, ?_⟩
    · refine ⟨some a', cap, by simp, by simpa using hl, ?_⟩
      by_cases h0 : len = 0
      · subst h0; exact .inl rfl
      · obtain ⟨b, off, spot⟩ := a'
        have h1 := (hq 0 (by omega)).1
        have hs : spot = none := by
          cases spot with
          | none => rfl
          | some s =>
            simp [Addr.add, World.cell?] at h1
            split at h1 <;> simp at h1
        subst hs
        refine .inr ⟨b, off, rfl, fun j f hj => ?_⟩
        have hjl : j < len := by have := (List.getElem?_eq_some_iff.1 hj).1; simpa using this
        simp only [List.getElem?_map, List.getElem?_range hjl, Option.map_some, Option.some.injEq] at hj
        subst hj
        obtain ⟨g1, g2, _⟩ := hq j hjl
        rw [addr_add] at g1 g2
        exact ⟨g1, by rw [show off + j * 2 + 1 = off + (j * 2 + 1) by omega]; exact g2⟩
    · intro f hf
      simp only [List.mem_map, List.mem_range] at hf
      obtain ⟨i, hi, rfl⟩ := hf
      have := (hq i hi).2.2.2.2.1
      have hb := bounds_i64 this
      exact hb
    · intro f hf
      simp only [List.mem_map, List.mem_range] at hf
      obtain ⟨i, hi, rfl⟩ := hf
      have := (hq i hi).2.2.2.2.2
      rw [size_data]; exact this
    · have hbd : okT ((List.range len).map fun i => ((q i).1, (q i).2.data.toList)) := by
        intro f hf
        simp only [List.mem_map, List.mem_range] at hf
        obtain ⟨i, hi, rfl⟩ := hf
        exact bounds_i64 (hq i hi).2.2.2.2.1
      have hbk := bulk_body (H := H) _ hbd
      have he : ((List.range len).map fun i => DataW.agg [D0 i, D1 i]) = ((List.range len).map fun i => ((q i).1, (q i).2.data.toList)).map (fdat H) := by
        rw [List.map_map]
        refine List.map_congr_left fun i hi => ?_
        obtain ⟨_, _, g3, g4, _⟩ := hq i (List.mem_range.1 hi)
        rw [g3, g4]; rfl
      rw [hx]
      simp only [Rows.uptoBulk]
      rw [he]
      omega
theorem bulk_mem {H : Type} {d : DataW H} : ∀ {l : List (DataW H)}, d ∈ l → Rows.uptoBulk d ≤ Rows.uptoBulkAll l
  | [], h => by cases h
  | x :: l, h => by
    simp only [Rows.uptoBulkAll]
    rcases List.mem_cons.1 h with rfl | h
    · omega
    · have := bulk_mem h; omega
theorem cells22 : Tryz.prog.cellsOf 47 = 1 := by kernel_rfl
/-- Lists of fields that came in. -/
theorem open_fldss {H : Type} {enc : TypeId × Value → H} {W : World} {a : Option Addr} {len cap fuel : Nat} {x : DataW H × List MemPlace} (h : DataW.trod enc Tryz.prog W 0 (fun _ => true) true fuel 45 [.slice a len cap] = some x) (hk : Rows.uptoBulk x.1 ≤ 1048576) :
    ∃ Fss : Nat → List Fld, FldsIn W a len Fss := by
  rcases open_slice Tryz.underlying45 h with ⟨hcs, _⟩ | ⟨a', len', cap', m, n, D, Pl, hcs, hb, hl, hm, hmm, hx, hall⟩
  · simp at hcs
    obtain ⟨rfl, rfl, rfl⟩ := hcs
    exact ⟨fun _ => [], .inl rfl⟩
  · simp at hcs
    obtain ⟨rfl, rfl, rfl⟩ := hcs
    have hlm : len ≤ m := by rw [hmm]; split <;> omega
    have each : ∀ i, i < len → ∃ fs : List Fld, (∃ v, W.cell? (a'.add i) = some v ∧ SrcF W v fs) ∧ okT fs ∧ (bodyFB fs).length ≤ 1099511627776 ∧ fs.length ≤ 1099511627776 := fun i hi => by
      obtain ⟨cs', h1, h2⟩ := hall i (by omega)
      rw [cells22] at h1
      obtain ⟨_, hlen, hcell⟩ := World.cells?_some h1
      obtain ⟨v, rfl⟩ : ∃ v, cs' = [v] := by
        match cs', hlen with
        | [v], _ => exact ⟨v, rfl⟩
      have hv := hcell 0 (by decide)
      have hs : ∃ a l c, v = .slice a l c := by
        rcases open_slice Tryz.underlying47 h2 with ⟨hcs, _⟩ | ⟨a, l, c, _, _, _, _, hcs, _⟩
        · simp at hcs; exact ⟨_, _, _, hcs⟩
        · simp at hcs; exact ⟨_, _, _, hcs⟩
      obtain ⟨a, l, c, rfl⟩ := hs
      obtain ⟨fs, g1, g2, g3, g4, g5, g6⟩ := open_flds h2
      have hbk : Rows.uptoBulk (D i) ≤ Rows.uptoBulk x.1 := by
        rw [hx]
        simp only [Rows.uptoBulk]
        have := bulk_mem (d := D i) (l := (List.range len).map D) (List.mem_map.2 ⟨i, List.mem_range.2 hi, rfl⟩)
        omega
      refine ⟨fs, ⟨_, ?_, g1⟩, g2, ?_, ?_⟩
      · have e0 : ∀ x : Addr, x.add 0 = x := fun x => by unfold Addr.add; split <;> simp_all
        rw [e0] at hv
        simpa using hv
      · simp only at g5; omega
      · simp only at g6; omega
    obtain ⟨F, hF⟩ := choose_lt each
    refine ⟨F, ?_⟩
    by_cases h0 : len = 0
    · exact .inl h0
    · obtain ⟨b, off, spot⟩ := a'
      have hs : spot = none := by
        obtain ⟨⟨v, h1, _⟩, _⟩ := hF 0 (by omega)
        cases spot with
        | none => rfl
        | some s =>
          simp [Addr.add, World.cell?] at h1
          split at h1 <;> simp at h1
      subst hs
      refine .inr ⟨b, off, rfl, fun i hi => ?_⟩
      obtain ⟨⟨v, h1, h2⟩, h3⟩ := hF i hi
      rw [addr_add] at h1
      exact ⟨⟨v, h1, h2⟩, h3⟩
end Go.Proofs.YtkpoheknmcepnaaGreatDoor
