/-
  Rows of three numbers that came in: from what the row lays down to the walk's words.
-/
import Derived.Test.YtdncemecnbglaaaAIn
import Derived.Test.YtdncemecnbglaaaA14
import Derived.Deep.Slices
namespace Go.Proofs.Ytdncemecnbglaaa
set_option linter.unusedVariables false
open Go.ChangeShapes Go.WideShapes Go.ChangeAt Go.RowKit Go.Deep

def intN (v : Option Value) : Prop := ∃ z, v = some (.int .i64 z) ∧ -9223372036854775808 ≤ z ∧ z ≤ 9223372036854775807
section
variable {H : Type} {enc : TypeId × Value → H} {W : World} {base : Nat} {sp : Nat → Bool} {held : Bool}
theorem at_one {l : List Value} {i : Nat} {v : Value} (h : (l.drop i).take 1 = [v]) : l[i]? = some v := by
  have := congrArg (·[0]?) h
  simpa [List.getElem?_take, List.getElem?_drop] using this
theorem f_intN {n i : Nat} {l : List Value} {x : DataW H × List MemPlace} (h : DataW.trod enc Try.prog W base sp held n 3 ((l.drop i).take (Try.prog.cellsOf 3)) = some x) : intN l[i]? := by
  rw [show Try.prog.cellsOf 3 = 1 by kernel_rfl] at h
  obtain ⟨z, hc, _, hw⟩ := DataW.trod_int Try.underlying3 h
  exact ⟨z, at_one hc, bounds_i64 hw⟩
set_option maxRecDepth 100000 in
theorem cells_r3 {fuel : Nat} {l : List Value} {y : DataW H × List MemPlace} (hf : DataW.trod enc Try.prog W base sp held fuel 31 l = some y) : ∀ i, i < 3 → intN l[i]? := by
  obtain ⟨xs, n, _, _, _, hlen, hfl⟩ := DataW.trod_array Try.underlying31 hf
  intro i hi
  obtain ⟨x, hx⟩ : ∃ x, xs[i]? = some x := ⟨xs[i], List.getElem?_eq_getElem (by omega)⟩
  have := hfl i hi
  rw [hx, show i * Try.prog.cellsOf 3 = i by rw [show Try.prog.cellsOf 3 = 1 by kernel_rfl, Nat.mul_one]] at this
  exact f_intN this
end
theorem open_r3 {H : Type} {enc : TypeId × Value → H} {W : World} {a : Option Addr} {len cap fuel : Nat} {x : DataW H × List MemPlace} (h : DataW.trod enc Try.prog W 0 (fun _ => true) true fuel 22 [.slice a len cap] = some x) :
    ∃ t : Nat → Nat → Int, SrcR W a len t ∧ len ≤ maxLen := by
  rcases open_slice Try.underlying22 h with ⟨hcs, _⟩ | ⟨a', len', cap', m, n, D, Pl, hcs, hb, hl, hm, hmm, hx, hall⟩
  · simp at hcs
    obtain ⟨rfl, rfl, rfl⟩ := hcs
    exact ⟨fun _ _ => 0, .inl rfl, by decide⟩
  · simp at hcs
    obtain ⟨rfl, rfl, rfl⟩ := hcs
    have hlm : len ≤ m := by rw [hmm]; split <;> omega
    have hmx : len ≤ maxLen := Nat.le_trans hl hm
    by_cases h0 : len = 0
    · exact ⟨fun _ _ => 0, .inl h0, hmx⟩
    · have each : ∀ i, i < len → ∀ q, q < 3 → ∃ z, W.cell? ((a'.add (i * 3)).add q) = some (.int .i64 z) ∧ -9223372036854775808 ≤ z ∧ z ≤ 9223372036854775807 := fun i hi q hq => by
        obtain ⟨cs', h1, h2⟩ := hall i (by omega)
        rw [show Try.prog.cellsOf 31 = 3 by kernel_rfl] at h1
        obtain ⟨_, hlen, hcell⟩ := World.cells?_some h1
        obtain ⟨z, hz, hr⟩ := cells_r3 h2 q hq
        exact ⟨z, (hcell q (by omega)).trans hz, hr⟩
      obtain ⟨b, off, spot⟩ := a'
      have hs : spot = none := by
        obtain ⟨z, h1, _⟩ := each 0 (by omega) 0 (by decide)
        cases spot with
        | none => rfl
        | some s =>
          simp [Addr.add, World.cell?] at h1
          split at h1 <;> simp at h1
      subst hs
      have every : ∀ i q, ∃ z : Int, i < len → q < 3 → W.cell? ⟨b, off + i * 3 + q, none⟩ = some (.int .i64 z) ∧ -9223372036854775808 ≤ z ∧ z ≤ 9223372036854775807 := fun i q => by
        by_cases hi : i < len ∧ q < 3
        · obtain ⟨z, e, r⟩ := each i hi.1 q hi.2
          simp only [Addr.add_mid] at e
          exact ⟨z, fun _ _ => ⟨e, r⟩⟩
        · exact ⟨0, fun h1 h2 => absurd ⟨h1, h2⟩ hi⟩
      exact ⟨fun i q => Classical.choose (every i q), .inr ⟨b, off, rfl, fun i hi q hq => Classical.choose_spec (every i q) hi hq⟩, hmx⟩
end Go.Proofs.Ytdncemecnbglaaa
