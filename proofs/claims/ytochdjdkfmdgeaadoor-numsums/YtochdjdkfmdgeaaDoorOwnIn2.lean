/-
  Lists of bytes that came in: from what the row lays down to the walks' words.
-/
import Derived.Test.YtochdjdkfmdgeaaDoorOwnIn
import Derived.Test.YtochdjdkfmdgeaaDoorRefSum
import Derived.Deep.Matrix
namespace Go.Proofs.YtochdjdkfmdgeaaDoor
open Go.ChangeShapes Go.Deep
set_option linter.unusedVariables false
theorem weights_mem_all {H : Type} {P : Program} {e : TypeId} : ∀ {ds : List (DataW H)} {d : DataW H} {n : Nat}, d ∈ ds → n ∈ d.weights P e → n ∈ DataW.weightsAll P e ds
  | d0 :: ds, d, n, hd, hn => by
    simp only [DataW.weightsAll, List.mem_append]
    rcases List.mem_cons.1 hd with rfl | hd
    · exact .inl hn
    · exact .inr (weights_mem_all hd hn)
theorem sized_rows {H : Type} {P : Program} {ts : List TypeId} {ds : List (DataW H)} (h : (DataW.weightsEach P ts ds).all (· ≤ reachBytes) = true) {j : Nat} {t e q : TypeId} {elems spare : List (DataW H)} (ht : ts[j]? = some t) (hd : ds[j]? = some (.slice elems spare)) (hu : P.underlying t = some (.slice e)) (hv : P.underlying e = some (.slice q))
    {el sp : List (DataW H)} (hm : (.slice el sp : DataW H) ∈ elems) : (el.length + sp.length) * P.bytesOf q ≤ reachBytes := by
  have := List.all_eq_true.1 h _ (DataW.weights_mem_each ht hd ((el.length + sp.length) * P.bytesOf q) (by
    simp only [DataW.weights, hu, List.mem_cons, List.mem_append]
    exact .inr (.inl (weights_mem_all hm (by simp [DataW.weights, hv])))))
  simpa using this
theorem bytes28 : Tryd.prog.bytesOf 28 = 24 := by kernel_rfl
theorem src2_of_rows {W : World} {x : Addr} {len cap : Nat} {A : Nat → Option Addr} {L C : Nat → Nat} {Z : Nat → List Int} (hl : len ≤ cap) (hb : ∀ r, r < len → L r ≤ 140737488351232)
    (h : ∀ r, r < cap → W.cell? (x.add r) = some (.slice (A r) (L r) (C r)) ∧ L r ≤ C r ∧ C r ≤ maxLen ∧ (Z r).length = C r ∧ (∀ n ∈ Z r, (Lit.int .u8 n).wf = true) ∧ (A r = none → C r = 0) ∧ ∀ a', A r = some a' → 0 ≤ a'.block ∧ ∀ c, c < C r → W.cell? (a'.add c) = some (.int .u8 ((Z r).getD c 0))) :
    Src2 W (some x) len L (fun r j => ((Z r).getD j 0).toNat) := by
  by_cases h0 : len = 0
  · exact .inl h0
  · obtain ⟨b, off, spot⟩ := x
    have h1 := (h 0 (by omega)).1
    have hs : spot = none := by
      cases spot with
      | none => rfl
      | some s =>
        simp [Addr.add, World.cell?] at h1
        split at h1 <;> simp at h1
    subst hs
    refine .inr ⟨b, off, rfl, fun i hi => ?_⟩
    obtain ⟨g1, g2, g3, g4, g5, g6, g7⟩ := h i (by omega)
    rw [show (⟨b, off, none⟩ : Addr).add i = ⟨b, off + i, none⟩ by unfold Addr.add; split <;> simp_all] at g1
    refine ⟨A i, C i, g1, hb i hi, ?_⟩
    cases hA : A i with
    | none => exact .inl (by have := g6 hA; omega)
    | some a' => exact src_of_ints g2 g4 (fun c hc => (g7 a' hA).2 c (by omega)) g5
theorem rows_bound {L : Nat → Nat} {C : Nat → Nat} {A : Nat → Option Addr} {Z : Nat → List Int} {H : Type} {len cap : Nat} {ts : List TypeId} {ds : List (DataW H)} (hsz : (DataW.weightsEach Tryd.prog ts ds).all (· ≤ reachBytes) = true) {j : Nat} {sp : List (DataW H)} (ht : ts[j]? = some 41) (hd : ds[j]? = some (.slice ((List.range len).map fun r => intRow .u8 (A r) (L r) (Z r)) sp)) (hl : len ≤ cap)
    (h : ∀ r, r < cap → L r ≤ C r ∧ (Z r).length = C r ∧ (A r = none → C r = 0)) (r : Nat) (hr : r < len) : L r ≤ 140737488351232 := by
  obtain ⟨h1, h2, h3⟩ := h r (by omega)
  cases hA : A r with
  | none => have := h3 hA; omega
  | some a' =>
    have hb := sized_rows hsz ht hd Tryd.underlying41 Tryd.underlying28 (el := lits .u8 ((Z r).take (L r))) (sp := lits .u8 ((Z r).drop (L r))) (List.mem_map.2 ⟨r, List.mem_range.2 hr, by simp [intRow, hA]⟩)
    exact len_of_sized h1 h2 bytes5 hb
end Go.Proofs.YtochdjdkfmdgeaaDoor
