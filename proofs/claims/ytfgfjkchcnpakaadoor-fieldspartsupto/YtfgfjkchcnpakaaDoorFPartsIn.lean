/-
  FieldsParts: parts that came in.
-/
import Derived.Test.YtfgfjkchcnpakaaDoorFFrame
import Derived.Test.YtfgfjkchcnpakaaDoorFParts1
namespace Go.Proofs.YtfgfjkchcnpakaaDoor
set_option linter.unusedVariables false
open Go.ChangeShapes Go.WideShapes Go.ChangeAt Go.RowKit Go.Deep

theorem bulk_sum {H : Type} (D : Nat → DataW H) (f : Nat → Nat) : ∀ l : List Nat, (∀ i ∈ l, f i ≤ Rows.uptoBulk (D i)) → (l.map f).sum ≤ Rows.uptoBulkAll (l.map D)
  | [], _ => by simp
  | i :: l, h => by
    have ih := bulk_sum D f l (fun j hj => h j (by simp [hj]))
    have h0 := h i (by simp)
    rw [List.map_cons, List.map_cons, List.sum_cons]
    simp only [Rows.uptoBulkAll]
    omega
theorem cells22 : Tryd.prog.cellsOf 22 = 1 := by kernel_rfl
theorem open_part {H : Type} {enc : TypeId × Value → H} {W : World} {v : Value} {n : Nat} {x : DataW H × List MemPlace} (h : DataW.trod enc Tryd.prog W 0 (fun _ => true) true n 39 [v] = some x) :
    ∃ p : List Fld, SrcF W v p ∧ (∀ f ∈ p, f.2.length ≤ maxLen) ∧ p.length + 1 ≤ Rows.uptoBulk x.1 := by
  obtain ⟨y0, m, hx, _, hy⟩ := trod_struct1 Tryd.underlying39 h
  have hy' : DataW.trod enc Tryd.prog W 0 (fun _ => true) true m 22 [v] = some y0 := by simp only [cells22, List.drop_zero] at hy; exact hy
  have hs : ∃ a l c, v = .slice a l c := by
    rcases open_slice Tryd.underlying22 hy' with ⟨hcs, _⟩ | ⟨a, l, c, _, _, _, _, hcs, _⟩
    · simp at hcs; exact ⟨_, _, _, hcs⟩
    · simp at hcs; exact ⟨_, _, _, hcs⟩
  obtain ⟨a, l, c, rfl⟩ := hs
  obtain ⟨fs, h1, _, _, h2, _, h3⟩ := open_flds hy'
  refine ⟨fs, h1, h2, ?_⟩
  rw [hx]
  simp only [Rows.uptoBulk, Rows.uptoBulkAll]
  omega
theorem open_parts {H : Type} {enc : TypeId × Value → H} {W : World} {a : Option Addr} {len cap fuel : Nat} {x : DataW H × List MemPlace} (h : DataW.trod enc Tryd.prog W 0 (fun _ => true) true fuel 34 [.slice a len cap] = some x) :
    ∃ ps : List (List Fld), SrcP W (.slice a len cap) ps ∧ ps.length = len ∧ (∀ p ∈ ps, ∀ f ∈ p, f.2.length ≤ maxLen) ∧ (ps.map fun p => p.length + 1).sum ≤ Rows.uptoBulk x.1 := by
  rcases open_slice1 Tryd.underlying34 (by kernel_rfl) h with ⟨hcs, hx⟩ | ⟨a', len', cap', m, n, V, D, Pl, hcs, hb, hl, hm, hmm, hx, hall⟩
  · simp at hcs
    obtain ⟨rfl, rfl, rfl⟩ := hcs
    exact ⟨[], ⟨none, 0, rfl, Nat.le_refl _, .inl rfl⟩, rfl, fun p hp => by simp at hp, by simp⟩
  · simp at hcs
    obtain ⟨rfl, rfl, rfl⟩ := hcs
    have hlm : len ≤ m := by rw [hmm]; split <;> omega
    have each : ∀ i, i < len → ∃ p : List Fld, W.cell? (a'.add i) = some (V i) ∧ SrcF W (V i) p ∧ (∀ f ∈ p, f.2.length ≤ maxLen) ∧ p.length + 1 ≤ Rows.uptoBulk (D i) := by
      intro i hi
      obtain ⟨h1, h2⟩ := hall i (by omega)
      obtain ⟨p, q1, q2, q3⟩ := open_part h2
      exact ⟨p, h1, q1, q2, q3⟩
    obtain ⟨q, hq⟩ := choose_lt each
    refine ⟨(List.range len).map q, ?_, by simp, ?_, ?_⟩
    · refine ⟨some a', cap, by simp, by simpa using hl, ?_⟩
      by_cases h0 : len = 0
      · subst h0; exact .inl rfl
      · obtain ⟨b, off, spot⟩ := a'
        have h1 := (hq 0 (by omega)).1
        have hs : spot = none := by
          cases spot with
          | none => rfl
          | some s =>
            obtain ⟨_, _, hv, _⟩ := (hq 0 (by omega)).2.1
            rw [hv] at h1
            simp [Addr.add, World.cell?] at h1
            split at h1 <;> simp at h1
        subst hs
        refine .inr ⟨b, off, rfl, fun j p hj => ?_⟩
        have hjl : j < len := by have := (List.getElem?_eq_some_iff.1 hj).1; simpa using this
        simp only [List.getElem?_map, List.getElem?_range hjl, Option.map_some, Option.some.injEq] at hj
        subst hj
        obtain ⟨g1, g2, _⟩ := hq j hjl
        rw [addr_add] at g1
        exact ⟨_, g1, g2⟩
    · intro p hp
      simp only [List.mem_map, List.mem_range] at hp
      obtain ⟨i, hi, rfl⟩ := hp
      exact (hq i hi).2.2.1
    · rw [hx, List.map_map]
      simp only [Rows.uptoBulk]
      have := bulk_sum D (fun i => (q i).length + 1) (List.range len) (fun i hi => (hq i (List.mem_range.1 hi)).2.2.2)
      have e : ((List.range len).map ((fun p : List Fld => p.length + 1) ∘ q)) = (List.range len).map (fun i => (q i).length + 1) := rfl
      rw [e]
      omega
end Go.Proofs.YtfgfjkchcnpakaaDoor
