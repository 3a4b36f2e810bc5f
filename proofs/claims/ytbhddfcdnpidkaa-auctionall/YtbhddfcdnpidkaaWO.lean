/-
  auction: orders that came in, and a raw result: from what the row lays down to the walk's words.
-/
import Derived.Test.YtbhddfcdnpidkaaRows
import Derived.Test.YtbhddfcdnpidkaaMG
import Derived.WideShapes
import Derived.ProofKit
import Derived.OpenShut
import Derived.Handed
import Derived.JoinedOf
import Derived.Carry
import Derived.SizedLaws
import Derived.ChangeSlices
import Derived.Below
import Derived.Deep.Slices
import Derived.LaidMore
import Derived.Lay
import Derived.Deep.DeepHandedRow
namespace Go.Proofs.Ytbhddfcdnpidkaa
set_option linter.unusedVariables false
open Go.ChangeShapes Go.WideShapes Go.ChangeAt Go.RowKit Go.Deep

theorem own : ownKnob Try.prog.godebug = none := by kernel_rfl
set_option maxRecDepth 100000 in
theorem laidOut : laidOutB Try.prog = true := by kernel_rfl
theorem bounds_i64 {a : Int} (h : (Lit.int .i64 a).wf = true) : -9223372036854775808 ≤ a ∧ a ≤ 9223372036854775807 := by
  simp [Lit.wf, IntKind.min, IntKind.max, IntKind.signed, IntKind.bits] at h; omega
theorem bytesOd : Try.prog.bytesOf 42 = 144 := by kernel_rfl
theorem cellsOd : Try.prog.cellsOf 42 = 15 := by kernel_rfl
section
variable {H : Type} {enc : TypeId × Value → H} {W : World} {base : Nat} {sp : Nat → Bool} {held : Bool}
theorem one_at {l : List Value} {i : Nat} {v : Value} (h : (l.drop i).take 1 = [v]) : l[i]? = some v := by
  have := congrArg (·[0]?) h
  simpa [List.getElem?_take, List.getElem?_drop] using this
theorem f_i3 {n i : Nat} {l : List Value} {x : DataW H × List MemPlace} (h : DataW.trod enc Try.prog W base sp held n 3 ((l.drop i).take (Try.prog.cellsOf 3)) = some x) : ∃ z, l[i]? = some (.int .i64 z) ∧ z ≤ 9223372036854775807 := by
  rw [show Try.prog.cellsOf 3 = 1 by kernel_rfl] at h
  obtain ⟨z, hc, _, hw⟩ := DataW.trod_int Try.underlying3 h
  exact ⟨z, one_at hc, (bounds_i64 hw).2⟩
theorem f_i2 {n i : Nat} {l : List Value} {x : DataW H × List MemPlace} (h : DataW.trod enc Try.prog W base sp held n 2 ((l.drop i).take (Try.prog.cellsOf 2)) = some x) : ∃ z, l[i]? = some (.int .i64 z) ∧ z ≤ 9223372036854775807 := by
  rw [show Try.prog.cellsOf 2 = 1 by kernel_rfl] at h
  obtain ⟨z, hc, _, hw⟩ := DataW.trod_int Try.underlying2 h
  exact ⟨z, one_at hc, (bounds_i64 hw).2⟩
theorem f_s9 {n i : Nat} {l : List Value} {x : DataW H × List MemPlace} (h : DataW.trod enc Try.prog W base sp held n 9 ((l.drop i).take (Try.prog.cellsOf 9)) = some x) : ∃ s : ByteArray, l[i]? = some (.string s) := by
  rw [show Try.prog.cellsOf 9 = 1 by kernel_rfl] at h
  obtain ⟨s, hc, _, hw⟩ := DataW.trod_string Try.underlying9 h
  exact ⟨s, one_at hc⟩
set_option maxRecDepth 100000 in
set_option maxHeartbeats 4000000 in
theorem open_order {fuel : Nat} {l : List Value} {y : DataW H × List MemPlace} (hsz : l.length = 15) (hf : DataW.trod enc Try.prog W base sp held fuel 42 l = some y) : ∃ o : Od, l = o.cs.toList ∧ OdT o := by
  obtain ⟨xs, n, _, _, _, hlen, hfl⟩ := DataW.trod_struct Try.underlying42 hf
  have hlen' : xs.length = 15 := hlen
  have hx : ∀ i, (hi : i < 15) → xs[i]? = some (xs[i]'(by omega)) := fun i hi => List.getElem?_eq_getElem (by omega)
  obtain ⟨z0, k0, _⟩ : ∃ z, l[0]? = some (.int .i64 z) ∧ z ≤ 9223372036854775807 := by first | exact f_i3 ((hfl 0 _ rfl).trans (hx 0 (by decide))) | exact f_i2 ((hfl 0 _ rfl).trans (hx 0 (by decide)))
  obtain ⟨s1, k1⟩ := f_s9 ((hfl 1 _ rfl).trans (hx 1 (by decide)))
  obtain ⟨s2, k2⟩ := f_s9 ((hfl 2 _ rfl).trans (hx 2 (by decide)))
  obtain ⟨s3, k3⟩ := f_s9 ((hfl 3 _ rfl).trans (hx 3 (by decide)))
  obtain ⟨z4, k4, _⟩ : ∃ z, l[4]? = some (.int .i64 z) ∧ z ≤ 9223372036854775807 := by first | exact f_i3 ((hfl 4 _ rfl).trans (hx 4 (by decide))) | exact f_i2 ((hfl 4 _ rfl).trans (hx 4 (by decide)))
  obtain ⟨z5, k5, _⟩ : ∃ z, l[5]? = some (.int .i64 z) ∧ z ≤ 9223372036854775807 := by first | exact f_i3 ((hfl 5 _ rfl).trans (hx 5 (by decide))) | exact f_i2 ((hfl 5 _ rfl).trans (hx 5 (by decide)))
  obtain ⟨z6, k6, _⟩ : ∃ z, l[6]? = some (.int .i64 z) ∧ z ≤ 9223372036854775807 := by first | exact f_i3 ((hfl 6 _ rfl).trans (hx 6 (by decide))) | exact f_i2 ((hfl 6 _ rfl).trans (hx 6 (by decide)))
  obtain ⟨z7, k7, _⟩ : ∃ z, l[7]? = some (.int .i64 z) ∧ z ≤ 9223372036854775807 := by first | exact f_i3 ((hfl 7 _ rfl).trans (hx 7 (by decide))) | exact f_i2 ((hfl 7 _ rfl).trans (hx 7 (by decide)))
  obtain ⟨z8, k8, _⟩ : ∃ z, l[8]? = some (.int .i64 z) ∧ z ≤ 9223372036854775807 := by first | exact f_i3 ((hfl 8 _ rfl).trans (hx 8 (by decide))) | exact f_i2 ((hfl 8 _ rfl).trans (hx 8 (by decide)))
  obtain ⟨z9, k9, _⟩ : ∃ z, l[9]? = some (.int .i64 z) ∧ z ≤ 9223372036854775807 := by first | exact f_i3 ((hfl 9 _ rfl).trans (hx 9 (by decide))) | exact f_i2 ((hfl 9 _ rfl).trans (hx 9 (by decide)))
  obtain ⟨z10, k10, _⟩ : ∃ z, l[10]? = some (.int .i64 z) ∧ z ≤ 9223372036854775807 := by first | exact f_i3 ((hfl 10 _ rfl).trans (hx 10 (by decide))) | exact f_i2 ((hfl 10 _ rfl).trans (hx 10 (by decide)))
  obtain ⟨z11, k11, _⟩ : ∃ z, l[11]? = some (.int .i64 z) ∧ z ≤ 9223372036854775807 := by first | exact f_i3 ((hfl 11 _ rfl).trans (hx 11 (by decide))) | exact f_i2 ((hfl 11 _ rfl).trans (hx 11 (by decide)))
  obtain ⟨z12, k12, _⟩ : ∃ z, l[12]? = some (.int .i64 z) ∧ z ≤ 9223372036854775807 := by first | exact f_i3 ((hfl 12 _ rfl).trans (hx 12 (by decide))) | exact f_i2 ((hfl 12 _ rfl).trans (hx 12 (by decide)))
  obtain ⟨z13, k13, _⟩ : ∃ z, l[13]? = some (.int .i64 z) ∧ z ≤ 9223372036854775807 := by first | exact f_i3 ((hfl 13 _ rfl).trans (hx 13 (by decide))) | exact f_i2 ((hfl 13 _ rfl).trans (hx 13 (by decide)))
  obtain ⟨z14, k14, _⟩ : ∃ z, l[14]? = some (.int .i64 z) ∧ z ≤ 9223372036854775807 := by first | exact f_i3 ((hfl 14 _ rfl).trans (hx 14 (by decide))) | exact f_i2 ((hfl 14 _ rfl).trans (hx 14 (by decide)))
  refine ⟨⟨oC z0 s1 s2 s3 z4 z5 z6 z7 z8 z9 z10 z11 z12 z13 z14, z0, z5, z7, z9⟩, ?_, ⟨z0, s1, s2, s3, z4, z5, z6, z7, z8, z9, z10, z11, z12, z13, z14, rfl⟩⟩
  apply List.ext_getElem?
  intro q
  by_cases hq : q < 15
  · match q, hq with
    | 0, _ => exact k0
    | 1, _ => exact k1
    | 2, _ => exact k2
    | 3, _ => exact k3
    | 4, _ => exact k4
    | 5, _ => exact k5
    | 6, _ => exact k6
    | 7, _ => exact k7
    | 8, _ => exact k8
    | 9, _ => exact k9
    | 10, _ => exact k10
    | 11, _ => exact k11
    | 12, _ => exact k12
    | 13, _ => exact k13
    | 14, _ => exact k14
  · rw [List.getElem?_eq_none (by omega), List.getElem?_eq_none (by show 15 ≤ q; omega)]
set_option maxRecDepth 100000 in
/-- A raw result. -/
theorem open_res {r : Reach} {b0 : Nat} {v : Value} {d : DataW H} {p : List MemPlace} (hv : Value.okWide Try.prog W r b0 28 v) (h : DataW.Trod enc Try.prog W base sp held 28 v d p) :
    ∃ c : Rs, v = .agg c.cs ∧ c.qty ≤ 9223372036854775807 := by
  obtain ⟨cs, rfl, hsz⟩ := okWide_struct Try.underlying28 hv
  rw [show Try.prog.cellsOf 28 = 4 by kernel_rfl] at hsz
  obtain ⟨fuel, hf⟩ := h
  obtain ⟨xs, n, _, _, _, hlen, hfl⟩ := DataW.trod_struct Try.underlying28 hf
  have hlen' : xs.length = 4 := hlen
  have hx : ∀ i, (hi : i < 4) → xs[i]? = some (xs[i]'(by omega)) := fun i hi => List.getElem?_eq_getElem (by omega)
  obtain ⟨z0, k0, r0⟩ : ∃ z, cs.toList[0]? = some (.int .i64 z) ∧ z ≤ 9223372036854775807 := by first | exact f_i3 ((hfl 0 _ rfl).trans (hx 0 (by decide))) | exact f_i2 ((hfl 0 _ rfl).trans (hx 0 (by decide)))
  obtain ⟨z1, k1, r1⟩ : ∃ z, cs.toList[1]? = some (.int .i64 z) ∧ z ≤ 9223372036854775807 := by first | exact f_i3 ((hfl 1 _ rfl).trans (hx 1 (by decide))) | exact f_i2 ((hfl 1 _ rfl).trans (hx 1 (by decide)))
  obtain ⟨z2, k2, r2⟩ : ∃ z, cs.toList[2]? = some (.int .i64 z) ∧ z ≤ 9223372036854775807 := by first | exact f_i3 ((hfl 2 _ rfl).trans (hx 2 (by decide))) | exact f_i2 ((hfl 2 _ rfl).trans (hx 2 (by decide)))
  obtain ⟨z3, k3, r3⟩ : ∃ z, cs.toList[3]? = some (.int .i64 z) ∧ z ≤ 9223372036854775807 := by first | exact f_i3 ((hfl 3 _ rfl).trans (hx 3 (by decide))) | exact f_i2 ((hfl 3 _ rfl).trans (hx 3 (by decide)))
  refine ⟨⟨z0, z1, z2, z3⟩, congrArg Value.agg (Array.ext' ?_), r1⟩
  have hsz' : cs.toList.length = 4 := by simpa using hsz
  have k0' : cs.toList[0]? = some (.int .i64 z0) := k0
  apply List.ext_getElem?
  intro q
  by_cases hq : q < 4
  · match q, hq with
    | 0, _ => exact k0
    | 1, _ => exact k1
    | 2, _ => exact k2
    | 3, _ => exact k3
  · rw [List.getElem?_eq_none (by omega), List.getElem?_eq_none (by show 4 ≤ q; omega)]
end
theorem open_orders {H : Type} {enc : TypeId × Value → H} {W : World} {a : Option Addr} {len cap fuel j : Nat} {x : DataW H × List MemPlace} {ts : List TypeId} {ds : List (DataW H)} (h : DataW.trod enc Try.prog W 0 (fun _ => true) true fuel 24 [.slice a len cap] = some x)
    (hsz : (DataW.weightsEach Try.prog ts ds).all (· ≤ reachBytes) = true) (ht : ts[j]? = some 24) (hd : ds[j]? = some x.1) :
    ∃ l : List Od, RowIn W 42 15 (.slice a l.length cap) l.length (flatL (fun o => o.cs.toList) l) ∧ (∀ o ∈ l, OdT o) ∧ l.length = len ∧ len ≤ 977343669105 := by
  rcases open_slice Try.underlying24 h with ⟨hcs, _⟩ | ⟨a', len', cap', m, n, D, Pl, hcs, hb, hl, hm, hmm, hx, hall⟩
  · simp at hcs
    obtain ⟨rfl, rfl, rfl⟩ := hcs
    exact ⟨[], ⟨rfl, none, 0, rfl, Nat.le_refl _, by decide, fun h => absurd h (by decide)⟩, fun o ho => by simp at ho, rfl, by decide⟩
  · simp at hcs
    obtain ⟨rfl, rfl, rfl⟩ := hcs
    have hlm : len ≤ m := by rw [hmm]; split <;> omega
    have hd' : ds[j]? = some (.slice ((List.range len).map D) ((List.range (m - len)).map fun j => D (len + j))) := by rw [hd, hx]
    have hb2 := sized_slice hsz ht hd' Try.underlying24
    rw [bytesOd, List.length_map, List.length_map, List.length_range, List.length_range] at hb2
    have h5 : reachBytes ≤ 140737488351232 := by decide
    have hlen : len ≤ 977343669105 := by omega
    have each : ∀ i, i < len → ∃ o : Od, (∀ (q : Nat) (v : Value), o.cs.toList[q]? = some v → W.cell? ((a'.add (i * 15)).add q) = some v) ∧ OdT o := fun i hi => by
      obtain ⟨cs', h1, h2⟩ := hall i (by omega)
      rw [cellsOd] at h1
      obtain ⟨_, hl15, hcell⟩ := World.cells?_some h1
      obtain ⟨o, q1, q2⟩ := open_order hl15 h2
      refine ⟨o, fun q v hv => ?_, q2⟩
      rw [← q1] at hv
      have hq : q < 15 := by have := (List.getElem?_eq_some_iff.1 hv).1; omega
      exact (hcell q hq).trans hv
    haveI : Inhabited Od := ⟨ZOd⟩
    obtain ⟨f, hf⟩ := choose_lt each
    have hT : ∀ o ∈ (List.range len).map f, OdT o := fun o ho => by
      simp only [List.mem_map, List.mem_range] at ho
      obtain ⟨i, hi, rfl⟩ := ho
      exact (hf i hi).2
    have hfl := flatO_len (fifteen hT)
    refine ⟨(List.range len).map f, ⟨hfl, some a', cap, rfl, by simpa using hl, hm, fun hp => ?_⟩, hT, by simp, hlen⟩
    have hp' : 0 < len := by simpa using hp
    obtain ⟨b, off, spot⟩ := a'
    have hs : spot = none := by
      obtain ⟨h1, h2⟩ := hf 0 hp'
      obtain ⟨v, hv⟩ : ∃ v, (f 0).cs.toList[0]? = some v := ⟨_, List.getElem?_eq_getElem (by rw [Array.length_toList, h2.ok.sz]; decide)⟩
      have h3 := h1 0 v hv
      cases spot with
      | none => rfl
      | some s =>
        simp [Addr.add, World.cell?] at h3
        split at h3 <;> simp at h3
    subst hs
    refine ⟨b, off, rfl, fun j u hj => ?_⟩
    have hj2 : j < len * 15 := by
      have := (List.getElem?_eq_some_iff.1 hj).1
      rw [hfl] at this
      simpa using this
    have e : j / 15 * 15 + j % 15 = j := by omega
    have hi : j / 15 < len := by omega
    have hg : ((List.range len).map f)[j / 15]? = some (f (j / 15)) := by simp [hi]
    rw [← e, flatL_getM (f := fun o : Od => o.cs.toList) (size := 15) (fifteen hT) hg (Nat.mod_lt _ (by decide))] at hj
    have h3 := (hf (j / 15) hi).1 (j % 15) u hj
    rw [Addr.add_mid, Addr.add_mid] at h3
    rw [show off + j = off + j / 15 * 15 + j % 15 by omega]
    exact h3
end Go.Proofs.Ytbhddfcdnpidkaa
