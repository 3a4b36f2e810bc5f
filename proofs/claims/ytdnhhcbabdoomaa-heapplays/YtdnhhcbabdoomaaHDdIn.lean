/-
  Things of plain numbers that came in: from what the row lays down to the walk's words.
-/
import Derived.Test.YtdnhhcbabdoomaaHIn
import Derived.Test.YtdnhhcbabdoomaaHP11
import Derived.Deep.Slices
namespace Go.Proofs.Ytdnhhcbabdoomaa
set_option linter.unusedVariables false
open Go.ChangeShapes Go.WideShapes Go.ChangeAt Go.RowKit Go.Deep

def intN (v : Option Value) : Prop := ∃ z, v = some (.int .i64 z) ∧ i64B z
section
variable {H : Type} {enc : TypeId × Value → H} {W : World} {base : Nat} {sp : Nat → Bool} {held : Bool}
theorem at_one {l : List Value} {i : Nat} {v : Value} (h : (l.drop i).take 1 = [v]) : l[i]? = some v := by
  have := congrArg (·[0]?) h
  simpa [List.getElem?_take, List.getElem?_drop] using this
theorem f_intN {n i : Nat} {l : List Value} {x : DataW H × List MemPlace} (h : DataW.trod enc Try.prog W base sp held n 3 ((l.drop i).take (Try.prog.cellsOf 3)) = some x) : intN l[i]? := by
  rw [show Try.prog.cellsOf 3 = 1 by kernel_rfl] at h
  obtain ⟨z, hc, _, hw⟩ := DataW.trod_int Try.underlying3 h
  exact ⟨z, at_one hc, bounds_i64 hw⟩
set_option maxRecDepth 100000 in
theorem cells_thing {fuel : Nat} {l : List Value} {y : DataW H × List MemPlace} (hf : DataW.trod enc Try.prog W base sp held fuel 30 l = some y) : ∀ i, i < 2 → intN l[i]? := by
  obtain ⟨xs, n, _, _, _, hlen, hfl⟩ := DataW.trod_struct Try.underlying30 hf
  have hlen' : xs.length = 2 := hlen
  have hx : ∀ i, i < 2 → ∃ x, xs[i]? = some x := fun i hi => ⟨xs[i], List.getElem?_eq_getElem (by omega)⟩
  obtain ⟨x0, h0⟩ := hx 0 (by decide)
  obtain ⟨x1, h1⟩ := hx 1 (by decide)
  intro i hi
  match i, hi with
  | 0, _ => exact f_intN ((hfl 0 _ rfl).trans h0)
  | 1, _ => exact f_intN ((hfl 1 _ rfl).trans h1)
set_option maxRecDepth 100000 in
theorem cells_steps {fuel : Nat} {l : List Value} {y : DataW H × List MemPlace} (hf : DataW.trod enc Try.prog W base sp held fuel 93 l = some y) : ∀ i, i < 6 → intN l[i]? := by
  obtain ⟨xs, n, _, _, _, hlen, hfl⟩ := DataW.trod_struct Try.underlying93 hf
  have hlen' : xs.length = 5 := hlen
  have hx : ∀ i, i < 5 → ∃ x, xs[i]? = some x := fun i hi => ⟨xs[i], List.getElem?_eq_getElem (by omega)⟩
  obtain ⟨x0, h0⟩ := hx 0 (by decide)
  obtain ⟨x1, h1⟩ := hx 1 (by decide)
  obtain ⟨x2, h2⟩ := hx 2 (by decide)
  obtain ⟨x3, h3⟩ := hx 3 (by decide)
  obtain ⟨x4, h4⟩ := hx 4 (by decide)
  have ht : ∀ i, i < 2 → intN l[4 + i]? := fun i hi => by
    have h := cells_thing ((hfl 4 _ rfl).trans h4) i hi
    have e : ((l.drop 4).take 2)[i]? = l[4 + i]? := by
      rw [List.getElem?_take, if_pos hi, List.getElem?_drop]
    rw [← e]
    exact h
  intro i hi
  match i, hi with
  | 0, _ => exact f_intN ((hfl 0 _ rfl).trans h0)
  | 1, _ => exact f_intN ((hfl 1 _ rfl).trans h1)
  | 2, _ => exact f_intN ((hfl 2 _ rfl).trans h2)
  | 3, _ => exact f_intN ((hfl 3 _ rfl).trans h3)
  | 4, _ => exact ht 0 (by decide)
  | 5, _ => exact ht 1 (by decide)
end
theorem open_deeds {H : Type} {enc : TypeId × Value → H} {W : World} {a : Option Addr} {len cap fuel : Nat} {x : DataW H × List MemPlace} (h : DataW.trod enc Try.prog W 0 (fun _ => true) true fuel 82 [.slice a len cap] = some x) :
    ∃ t : Nat → Dd, SrcD W a len t ∧ len ≤ maxLen := by
  rcases open_slice Try.underlying82 h with ⟨hcs, _⟩ | ⟨a', len', cap', m, n, D, Pl, hcs, hb, hl, hm, hmm, hx, hall⟩
  · simp at hcs
    obtain ⟨rfl, rfl, rfl⟩ := hcs
    exact ⟨fun _ => ⟨0, 0, 0, 0, 0, 0⟩, .inl rfl, by decide⟩
  · simp at hcs
    obtain ⟨rfl, rfl, rfl⟩ := hcs
    have hlm : len ≤ m := by rw [hmm]; split <;> omega
    have hmx : len ≤ maxLen := Nat.le_trans hl hm
    by_cases h0 : len = 0
    · exact ⟨fun _ => ⟨0, 0, 0, 0, 0, 0⟩, .inl h0, hmx⟩
    · have each : ∀ i, i < len → ∀ q, q < 6 → ∃ z, W.cell? ((a'.add (i * 6)).add q) = some (.int .i64 z) ∧ i64B z := fun i hi q hq => by
        obtain ⟨cs', h1, h2⟩ := hall i (by omega)
        rw [show Try.prog.cellsOf 93 = 6 by kernel_rfl] at h1
        obtain ⟨_, hlen, hcell⟩ := World.cells?_some h1
        obtain ⟨z, hz, hr⟩ := cells_steps h2 q hq
        exact ⟨z, (hcell q (by omega)).trans hz, hr⟩
      obtain ⟨b, off, spot⟩ := a'
      have hs : spot = none := by
        obtain ⟨z, h1, _⟩ := each 0 (by omega) 0 (by decide)
        cases spot with
        | none => rfl
        | some s =>
          simp [Addr.add, World.cell?] at h1
          split at h1 <;> simp at h1
      subst hs
      have every : ∀ i, ∃ p : Dd, i < len → (W.cell? ⟨b, off + i * 6, none⟩ = some (.int .i64 p.d) ∧ W.cell? ⟨b, off + i * 6 + 1, none⟩ = some (.int .i64 p.o) ∧ W.cell? ⟨b, off + i * 6 + 2, none⟩ = some (.int .i64 p.i) ∧ W.cell? ⟨b, off + i * 6 + 3, none⟩ = some (.int .i64 p.n) ∧ W.cell? ⟨b, off + i * 6 + 4, none⟩ = some (.int .i64 p.k) ∧ W.cell? ⟨b, off + i * 6 + 5, none⟩ = some (.int .i64 p.g)) ∧ i64B p.d ∧ i64B p.o ∧ i64B p.i ∧ i64B p.n ∧ i64B p.k ∧ i64B p.g := fun i => by
        by_cases hi : i < len
        · obtain ⟨z0, e0, r0⟩ := each i hi 0 (by decide)
          obtain ⟨z1, e1, r1⟩ := each i hi 1 (by decide)
          obtain ⟨z2, e2, r2⟩ := each i hi 2 (by decide)
          obtain ⟨z3, e3, r3⟩ := each i hi 3 (by decide)
          obtain ⟨z4, e4, r4⟩ := each i hi 4 (by decide)
          obtain ⟨z5, e5, r5⟩ := each i hi 5 (by decide)
          simp only [Addr.add_mid] at e0 e1 e2 e3 e4 e5
          exact ⟨⟨z0, z1, z2, z3, z4, z5⟩, fun _ => ⟨⟨e0, e1, e2, e3, e4, e5⟩, r0, r1, r2, r3, r4, r5⟩⟩
        · exact ⟨⟨0, 0, 0, 0, 0, 0⟩, fun h => absurd h hi⟩
      exact ⟨fun i => Classical.choose (every i), .inr ⟨b, off, rfl, fun i hi => Classical.choose_spec (every i) hi⟩, hmx⟩
end Go.Proofs.Ytdnhhcbabdoomaa
