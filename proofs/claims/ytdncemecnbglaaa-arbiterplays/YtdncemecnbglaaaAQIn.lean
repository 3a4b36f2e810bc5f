/-
  Operations that came in, each with its bytes: from what the row lays down to the walk's words.
-/
import Derived.Test.YtdncemecnbglaaaAOIn
import Derived.Test.YtdncemecnbglaaaAXc
import Derived.SizedLaws
import Derived.ChangeSlices
import Derived.Deep.Slices
namespace Go.Proofs.Ytdncemecnbglaaa
set_option linter.unusedVariables false
open Go.ChangeShapes Go.WideShapes Go.ChangeAt Go.RowKit Go.Deep

theorem by_of_ints {W : World} {x : Addr} {l c : Nat} {zs : List Int} (hl : l ≤ c) (hz : zs.length = c) (hcell : ∀ i, i < zs.length → W.cell? (x.add i) = some (.int .u8 (zs.getD i 0))) (hwz : ∀ n ∈ zs, (Lit.int .u8 n).wf = true) : ∃ b : List Nat, By W (.slice (some x) l c) b ∧ b.length = l := by
  have hb : ∀ j, j < l → 0 ≤ zs.getD j 0 ∧ zs.getD j 0 < 256 := fun j hj => by
    have h3 := hwz (zs.getD j 0) (by rw [List.getD_eq_getElem?_getD, List.getElem?_eq_getElem (by omega)]; exact List.getElem_mem _)
    simp [Lit.wf, IntKind.min, IntKind.max, IntKind.signed, IntKind.bits, -List.getD_eq_getElem?_getD] at h3
    show 0 ≤ zs.getD j 0 ∧ zs.getD j 0 < 256
    omega
  have hlen : ((List.range l).map fun j => (zs.getD j 0).toNat).length = l := by simp
  refine ⟨(List.range l).map fun j => (zs.getD j 0).toNat, ⟨⟨some x, c, by rw [hlen], by rw [hlen]; exact hl, fun e => (by cases e), ?_⟩, fun y hy => ?_⟩, hlen⟩
  · by_cases h0 : l = 0
    · subst h0; exact .inl rfl
    · obtain ⟨b, off, spot⟩ := x
      have h1 := hcell 0 (by omega)
      have hs : spot = none := by
        cases spot with
        | none => rfl
        | some s =>
          simp [Addr.add, World.cell?] at h1
          split at h1 <;> simp at h1
      subst hs
      refine .inr ⟨b, off, rfl, fun j y hj => ?_⟩
      have hjl : j < l := by
        have := (List.getElem?_eq_some_iff.1 hj).1
        rw [hlen] at this; exact this
      rw [List.getElem?_map, List.getElem?_range hjl, Option.map_some] at hj
      injection hj with hj
      have h2 := hcell j (by omega)
      rw [show (⟨b, off, none⟩ : Addr).add j = ⟨b, off + j, none⟩ by unfold Addr.add; split <;> simp_all] at h2
      rw [h2, ← hj, Int.toNat_of_nonneg (hb j hjl).1]
  · obtain ⟨j, hj, rfl⟩ := List.mem_map.1 hy
    have := hb j (List.mem_range.1 hj)
    omega
theorem f_intM {H : Type} {enc : TypeId × Value → H} {W : World} {base : Nat} {sp : Nat → Bool} {held : Bool} {n i : Nat} {l : List Value} {x : DataW H × List MemPlace} (h : DataW.trod enc Try.prog W base sp held n 2 ((l.drop i).take (Try.prog.cellsOf 2)) = some x) : intN l[i]? := by
  rw [show Try.prog.cellsOf 2 = 1 by kernel_rfl] at h
  obtain ⟨z, hc, _, hw⟩ := DataW.trod_int Try.underlying2 h
  exact ⟨z, at_one hc, bounds_i64 hw⟩
theorem bytes5 : Try.prog.bytesOf 5 = 1 := by kernel_rfl
theorem lits_length {H : Type} (k : IntKind) (zs : List Int) : (lits (H := H) k zs).length = zs.length := by simp [lits]
theorem weights_mem_all {H : Type} {P : Program} {e : TypeId} : ∀ {elems : List (DataW H)} {d : DataW H}, d ∈ elems → ∀ n ∈ d.weights P e, n ∈ DataW.weightsAll P e elems
  | d0 :: r, d, hd, n, hn => by
    simp only [DataW.weightsAll, List.mem_append]
    rcases List.mem_cons.1 hd with rfl | hd
    · exact .inl hn
    · exact .inr (weights_mem_all hd n hn)
  | [], d, hd, n, hn => by cases hd
section
variable {H : Type} {enc : TypeId × Value → H} {W : World} {held : Bool}
/-- Bytes inside a thing. -/
theorem f_bytes {n i : Nat} {l : List Value} {x : DataW H × List MemPlace} (h : DataW.trod enc Try.prog W 0 (fun _ => true) held n 35 ((l.drop i).take (Try.prog.cellsOf 35)) = some x) : ∃ (a : Option Addr) (bl bc : Nat) (b : List Nat), l[i]? = some (.slice a bl bc) ∧ By W (.slice a bl bc) b ∧ (b = [] ∨ b.length ∈ x.1.weights Try.prog 35 ∨ ∃ m, b.length ≤ m ∧ m ∈ x.1.weights Try.prog 35) := by
  rw [show Try.prog.cellsOf 35 = 1 by kernel_rfl] at h
  rcases open_ints Try.underlying35 Try.underlying5 (by kernel_rfl) h with ⟨hcs, _⟩ | ⟨x1, l1, c, zs, hcs, _, hl, hm, hz, hx, hcell, hwz⟩
  · exact ⟨none, 0, 0, [], at_one hcs, By.nil W, .inl rfl⟩
  · have hz' : zs.length = c := by simpa using hz
    obtain ⟨b, h1, h2⟩ := by_of_ints hl hz' hcell hwz
    refine ⟨some x1, l1, c, b, at_one hcs, h1, .inr (.inr ⟨((lits (H := H) .u8 (zs.take l1)).length + (lits (H := H) .u8 (zs.drop l1)).length) * Try.prog.bytesOf 5, ?_, ?_⟩)⟩
    · rw [lits_length, lits_length, bytes5, List.length_take, List.length_drop, h2]
      omega
    · rw [hx]
      simp only [DataW.weights, Try.underlying35]
      exact List.mem_cons_self
set_option maxRecDepth 100000 in
theorem cells_op {fuel : Nat} {l : List Value} {y : DataW H × List MemPlace} (hf : DataW.trod enc Try.prog W 0 (fun _ => true) held fuel 56 l = some y) : ∃ o : OpC, (∀ q, q < 5 → l[q]? = o.v.toList[q]?) ∧ (∃ z, l[0]? = some (.int .i64 z)) ∧ By W (.slice o.a o.bl o.bc) o.l ∧ (o.l = [] ∨ ∃ m, o.l.length ≤ m ∧ m ∈ y.1.weights Try.prog 56) := by
  obtain ⟨xs, n, _, hy, _, hlen, hfl⟩ := DataW.trod_struct Try.underlying56 hf
  have hlen' : xs.length = 5 := hlen
  have hx : ∀ i, (hi : i < 5) → xs[i]? = some (xs[i]'(by omega)) := fun i hi => List.getElem?_eq_getElem (by omega)
  obtain ⟨k0, e0, r0⟩ := f_intN ((hfl 0 _ rfl).trans (hx 0 (by decide)))
  obtain ⟨k1, e1, r1⟩ := f_intN ((hfl 1 _ rfl).trans (hx 1 (by decide)))
  obtain ⟨k2, e2, r2⟩ := f_intN ((hfl 2 _ rfl).trans (hx 2 (by decide)))
  obtain ⟨a, bl, bc, b, e3, hb, hw⟩ := f_bytes ((hfl 3 _ rfl).trans (hx 3 (by decide)))
  obtain ⟨k4, e4, r4⟩ := f_intM ((hfl 4 _ rfl).trans (hx 4 (by decide)))
  refine ⟨⟨k0, k1, k2, k4, a, bl, bc, b⟩, fun q hq => ?_, ⟨k0, e0⟩, hb, ?_⟩
  · match q, hq with
    | 0, _ => exact e0
    | 1, _ => exact e1
    | 2, _ => exact e2
    | 3, _ => exact e3
    | 4, _ => exact e4
  · have hin : ∀ m, m ∈ (xs[3]'(by omega)).1.weights Try.prog 35 → m ∈ y.1.weights Try.prog 56 := fun m hm => by
      rw [hy]
      simp only [DataW.weights, Try.underlying56]
      refine DataW.weights_mem_each (j := 3) (t := 35) (d := (xs[3]'(by omega)).1) rfl ?_ m hm
      rw [List.getElem?_map, hx 3 (by decide)]
      rfl
    rcases hw with hw | hw | ⟨m, h1, h2⟩
    · exact .inl hw
    · exact .inr ⟨_, Nat.le_refl _, hin _ hw⟩
    · exact .inr ⟨m, h1, hin m h2⟩
end
theorem open_aops {H : Type} {enc : TypeId × Value → H} {W : World} {a : Option Addr} {len cap fuel j : Nat} {x : DataW H × List MemPlace} {ts : List TypeId} {ds : List (DataW H)} (h : DataW.trod enc Try.prog W 0 (fun _ => true) true fuel 44 [.slice a len cap] = some x)
    (hsz : (DataW.weightsEach Try.prog ts ds).all (· ≤ reachBytes) = true) (ht : ts[j]? = some 44) (hd : ds[j]? = some x.1) :
    ∃ t : Nat → OpC, SrcO W a len t := by
  rcases open_slice Try.underlying44 h with ⟨hcs, _⟩ | ⟨a', len', cap', m, n, D, Pl, hcs, hb, hl, hm, hmm, hx, hall⟩
  · simp at hcs
    obtain ⟨rfl, rfl, rfl⟩ := hcs
    exact ⟨fun _ => ⟨0, 0, 0, 0, none, 0, 0, []⟩, .inl rfl⟩
  · simp at hcs
    obtain ⟨rfl, rfl, rfl⟩ := hcs
    have hlm : len ≤ m := by rw [hmm]; split <;> omega
    by_cases h0 : len = 0
    · exact ⟨fun _ => ⟨0, 0, 0, 0, none, 0, 0, []⟩, .inl h0⟩
    · have each : ∀ i, i < len → ∃ o : OpC, (∀ q, q < 5 → W.cell? ((a'.add (i * 5)).add q) = o.v.toList[q]?) ∧ (∃ z, W.cell? ((a'.add (i * 5)).add 0) = some (.int .i64 z)) ∧ By W (.slice o.a o.bl o.bc) o.l ∧ o.l.length ≤ 140737488351232 := fun i hi => by
        obtain ⟨cs', h1, h2⟩ := hall i (by omega)
        rw [show Try.prog.cellsOf 56 = 5 by kernel_rfl] at h1
        obtain ⟨_, hlen, hcell⟩ := World.cells?_some h1
        obtain ⟨o, q1, ⟨z, q2⟩, q3, q4⟩ := cells_op h2
        refine ⟨o, fun q hq => (hcell q (by omega)).trans (q1 q hq), ⟨z, (hcell 0 (by omega)).trans q2⟩, q3, ?_⟩
        rcases q4 with e | ⟨m2, e1, e2⟩
        · rw [e]; decide
        · have hin : m2 ∈ DataW.weightsEach Try.prog ts ds := by
            refine DataW.weights_mem_each ht hd m2 ?_
            rw [hx]
            simp only [DataW.weights, Try.underlying44]
            refine List.mem_cons_of_mem _ (List.mem_append_left _ ?_)
            exact weights_mem_all (List.mem_map.2 ⟨i, List.mem_range.2 hi, rfl⟩) m2 e2
          have h3 := List.all_eq_true.1 hsz m2 hin
          have h4 : m2 ≤ reachBytes := by simpa using h3
          have h5 : reachBytes ≤ 140737488351232 := by decide
          omega
      obtain ⟨b, off, spot⟩ := a'
      have hs : spot = none := by
        obtain ⟨o, _, ⟨z, h1⟩, _⟩ := each 0 (by omega)
        cases spot with
        | none => rfl
        | some s =>
          simp [Addr.add, World.cell?] at h1
          split at h1 <;> simp at h1
      subst hs
      have every : ∀ i, ∃ o : OpC, i < len → W.rangeAt b (off + i * 5) o.v.toList ∧ By W (.slice o.a o.bl o.bc) o.l ∧ o.l.length ≤ 140737488351232 := fun i => by
        by_cases hi : i < len
        · obtain ⟨o, q1, _, q3, q4⟩ := each i hi
          refine ⟨o, fun _ => ⟨fun q v hv => ?_, q3, q4⟩⟩
          have hq : q < 5 := (List.getElem?_eq_some_iff.1 hv).1
          have := q1 q hq
          simp only [Addr.add_mid] at this
          rw [hv] at this
          exact this
        · exact ⟨⟨0, 0, 0, 0, none, 0, 0, []⟩, fun h => absurd h hi⟩
      exact ⟨fun i => Classical.choose (every i), .inr ⟨b, off, rfl, fun i hi => Classical.choose_spec (every i) hi⟩⟩
/-- The law, of whatever came in. -/
theorem ArbiterPlays_row {w : World} (wd pd : Int) (hwd : -9223372036854775808 ≤ wd ∧ wd ≤ 9223372036854775807) (a1 : Option Addr) (n1 c1 : Nat) (t1 : Nat → OpC) (hs1 : SrcO w a1 n1 t1) : Calls Try.prog 5 #[.int .i64 wd, .int .i64 pd, .slice a1 n1 c1] w fun e w' => e = .returned (.bool true) ∧ Below w.heap.size w w' := by
  by_cases hok : 1 ≤ wd ∧ wd ≤ 1000 ∧ 0 ≤ pd ∧ pd ≤ 253402300799999
  · obtain ⟨h1, h2, h3, h4⟩ := hok
    obtain ⟨win, rfl⟩ : ∃ n : Nat, wd = (n : Int) := ⟨wd.toNat, by omega⟩
    exact (ArbiterPlays_good win pd (by omega) (by omega) h3 h4 a1 n1 c1 t1 hs1).mono fun _ _ ⟨h1, h2⟩ => ⟨h1, h2.out⟩
  · exact (ArbiterPlays_bad wd pd hok a1 n1 c1).mono fun _ _ ⟨h1, h2⟩ => ⟨h1, h2.out⟩
end Go.Proofs.Ytdncemecnbglaaa
