/-
  auction's rows: what all rows of the seat want; raw orders that came in.
-/
import Derived.Test.YtbhddfcdnpidkaaRows
import Derived.Test.YtbhddfcdnpidkaaV31
import Derived.WideShapes
import Derived.ProofKit
import Derived.OpenShut
import Derived.Handed
import Derived.JoinedOf
import Derived.Carry
import Derived.SizedLaws
import Derived.ChangeSlices
import Derived.Below
import Derived.Deep.SlicePairs
import Derived.LaidMore
import Derived.Lay
import Derived.Deep.DeepHandedRow
namespace Go.Proofs.Ytbhddfcdnpidkaa
set_option linter.unusedVariables false
open Go.ChangeShapes Go.WideShapes Go.ChangeAt Go.RowKit Go.Deep

theorem own : ownKnob Try.prog.godebug = none := by kernel_rfl
set_option maxRecDepth 100000 in
theorem laidOut : laidOutB Try.prog = true := by kernel_rfl
theorem bounds_i64 {a : Int} (h : (Lit.int .i64 a).wf = true) : -9223372036854775808 ≤ a ∧ a ≤ 9223372036854775807 := by
  simp [Lit.wf, IntKind.min, IntKind.max, IntKind.signed, IntKind.bits] at h; omega
theorem bulk_len {H : Type} (D : Nat → DataW H) : ∀ l : List Nat, (∀ i ∈ l, 1 ≤ Rows.uptoBulk (D i)) → l.length ≤ Rows.uptoBulkAll (l.map D)
  | [], _ => Nat.zero_le _
  | i :: l, h => by
    have h1 := h i List.mem_cons_self
    have h2 := bulk_len D l fun j hj => h j (List.mem_cons_of_mem _ hj)
    simp only [List.map_cons, Rows.uptoBulkAll, List.length_cons]
    omega
set_option maxRecDepth 100000 in
/-- Raw orders that came in. -/
theorem open_raws {H : Type} {enc : TypeId × Value → H} {W : World} {a : Option Addr} {len cap fuel : Nat} {x : DataW H × List MemPlace} (h : DataW.trod enc Try.prog W 0 (fun _ => true) true fuel 22 [.slice a len cap] = some x) :
    ∃ l : List Rw, PrAt W a l ∧ (∀ r ∈ l, r.ok) ∧ l.length = len ∧ len ≤ Rows.uptoBulk x.1 := by
  rcases open_slice_pairs Try.underlying22 Try.underlying53 (by kernel_rfl) rfl rfl (by kernel_rfl) (by kernel_rfl) h with ⟨hcs, _⟩ | ⟨a', len', cap', m, n, V0, V1, D0, D1, P0, P1, hcs, hb, hl, hm, hmm, hx, hall⟩
  · simp at hcs
    obtain ⟨rfl, rfl, rfl⟩ := hcs
    exact ⟨[], .inl rfl, fun r hr => by simp at hr, rfl, Nat.zero_le _⟩
  · simp at hcs
    obtain ⟨rfl, rfl, rfl⟩ := hcs
    have hlm : len ≤ m := by rw [hmm]; split <;> omega
    have hbk : len ≤ Rows.uptoBulk x.1 := by
      rw [hx]
      show len ≤ Rows.uptoBulkAll _ + Rows.uptoBulkAll _ + 1
      have := bulk_len (fun i => .agg [D0 i, D1 i]) (List.range len) fun i _ => by simp [Rows.uptoBulk]
      simp only [List.length_range] at this
      omega
    by_cases h0 : len = 0
    · subst h0
      exact ⟨[], .inl rfl, fun r hr => by simp at hr, rfl, Nat.zero_le _⟩
    · have each : ∀ i, i < len → ∃ p : Rw, W.cell? (a'.add (i * 2)) = some (.int .i64 p.x) ∧ W.cell? (a'.add (i * 2 + 1)) = some (.int .i64 p.y) ∧ p.ok := fun i hi => by
        obtain ⟨h1, h2, h3, h4⟩ := hall i (by omega)
        obtain ⟨z0, e0, _, r0⟩ := DataW.trod_int Try.underlying3 h3
        obtain ⟨z1, e1, _, r1⟩ := DataW.trod_int Try.underlying3 h4
        simp only [List.cons.injEq, and_true] at e0 e1
        rw [e0] at h1
        rw [e1] at h2
        exact ⟨⟨z0, z1⟩, h1, h2, ⟨bounds_i64 r0, bounds_i64 r1⟩⟩
      obtain ⟨b, off, spot⟩ := a'
      have hs : spot = none := by
        obtain ⟨p, h1, _⟩ := each 0 (by omega)
        cases spot with
        | none => rfl
        | some s =>
          simp [Addr.add, World.cell?] at h1
          split at h1 <;> simp at h1
      subst hs
      haveI : Inhabited Rw := ⟨⟨0, 0⟩⟩
      obtain ⟨q, hq⟩ := choose_lt each
      have addr : ∀ j, (⟨b, off, none⟩ : Addr).add j = ⟨b, off + j, none⟩ := fun j => by unfold Addr.add; split <;> simp_all
      refine ⟨(List.range len).map q, .inr ⟨b, off, rfl, fun j r hj => ?_⟩, fun r hr => ?_, by simp, hbk⟩
      · have hjl : j < len := by have := (List.getElem?_eq_some_iff.1 hj).1; simpa using this
        simp only [List.getElem?_map, List.getElem?_range hjl, Option.map_some, Option.some.injEq] at hj
        subst hj
        obtain ⟨g1, g2, _⟩ := hq j hjl
        rw [addr] at g1 g2
        exact ⟨g1, g2⟩
      · simp only [List.mem_map, List.mem_range] at hr
        obtain ⟨i, hi, rfl⟩ := hr
        exact (hq i hi).2.2
end Go.Proofs.Ytbhddfcdnpidkaa
