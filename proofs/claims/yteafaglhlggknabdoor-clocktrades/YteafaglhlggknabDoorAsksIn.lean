/-
  Numbers and questions that came in: from what the row lays down to the walks' words.
-/
import Derived.Test.YteafaglhlggknabDoorLawTrades
import Derived.Test.YteafaglhlggknabDoorOwnInC
import Derived.Deep.Slices
import Derived.SizedLaws
import Derived.ChangeSlices
namespace Go.Proofs.YteafaglhlggknabDoor
set_option linter.unusedVariables false
open Go.ChangeShapes Go.WideShapes Go.RowKit Go.Deep

theorem bytes3 : Tryd.prog.bytesOf 3 = 8 := by kernel_rfl
theorem cells3 : Tryd.prog.cellsOf 3 = 1 := by kernel_rfl
theorem cells37 : Tryd.prog.cellsOf 37 = 3 := by kernel_rfl
theorem bnd_i64 {n : Int} (h : (Lit.int .i64 n).wf = true) : -9223372036854775808 ≤ n ∧ n ≤ 9223372036854775807 := by
  simp [Lit.wf, IntKind.min, IntKind.max, IntKind.signed, IntKind.bits] at h
  omega
theorem open_intsS {H : Type} {enc : TypeId × Value → H} {W : World} {a : Option Addr} {len cap fuel : Nat} {x : DataW H × List MemPlace} (h : DataW.trod enc Tryd.prog W 0 (fun _ => true) true fuel 29 [.slice a len cap] = some x)
    {ts : List TypeId} {ds : List (DataW H)} (hsz : (DataW.weightsEach Tryd.prog ts ds).all (· ≤ reachBytes) = true) {j : Nat} (ht : ts[j]? = some 29) (hd : ds[j]? = some x.1) :
    ∃ d : Nat → Int, SrcI W a len d ∧ len ≤ 17592186043904 ∧ (a = none → cap = 0) := by
  rcases open_ints Tryd.underlying29 Tryd.underlying3 (by kernel_rfl) h with ⟨hcs, _⟩ | ⟨y, l, c, zs, hcs, _, hl, hm, hz, hx, hcell, hwz⟩
  · simp at hcs
    obtain ⟨rfl, rfl, rfl⟩ := hcs
    exact ⟨fun _ => 0, .inl rfl, by decide, fun _ => rfl⟩
  · simp at hcs
    obtain ⟨rfl, rfl, rfl⟩ := hcs
    have hz' : zs.length = cap := by simpa using hz
    rw [hx] at hd
    have hb := sized_slice hsz ht hd Tryd.underlying29
    rw [bytes3] at hb
    simp [lits] at hb
    have hr : reachBytes ≤ 140737488351232 := by decide
    exact ⟨_, srcI_of_ints hl hz' hcell hwz, by omega, fun h => by cases h⟩
theorem open_asks {H : Type} {enc : TypeId × Value → H} {W : World} {a : Option Addr} {len cap fuel : Nat} {x : DataW H × List MemPlace} (h : DataW.trod enc Tryd.prog W 0 (fun _ => true) true fuel 30 [.slice a len cap] = some x) :
    ∃ t : Nat → Int × Int × Int, SrcA W a len t ∧ len ≤ maxLen := by
  rcases open_slice Tryd.underlying30 h with ⟨hcs, _⟩ | ⟨a', len', cap', m, n, D, Pl, hcs, hb, hl, hm, hmm, hx, hall⟩
  · simp at hcs
    obtain ⟨rfl, rfl, rfl⟩ := hcs
    exact ⟨fun _ => (0, 0, 0), .inl rfl, by decide⟩
  · simp at hcs
    obtain ⟨rfl, rfl, rfl⟩ := hcs
    have hlm : len ≤ m := by rw [hmm]; split <;> omega
    have each : ∀ i, i < len → ∃ q : Int × Int × Int, W.cell? (a'.add (i * 3)) = some (.int .i64 q.1) ∧ W.cell? (a'.add (i * 3 + 1)) = some (.int .i64 q.2.1) ∧ W.cell? (a'.add (i * 3 + 2)) = some (.int .i64 q.2.2) ∧ (Lit.int .i64 q.1).wf = true ∧ (Lit.int .i64 q.2.1).wf = true := by
      intro i hi
      obtain ⟨cs', h1, h2⟩ := hall i (by omega)
      rw [cells37] at h1
      obtain ⟨_, hlen, hcell⟩ := World.cells?_some h1
      obtain ⟨xs, k, hk, hxy, _, hxl, hf⟩ := DataW.trod_struct Tryd.underlying37 h2
      match xs, hxl, cs', hlen with
      | [y0, y1, y2], _, [v0, v1, v2], _ =>
        have g0 := hf 0 _ rfl
        have g1 := hf 1 _ rfl
        have g2 := hf 2 _ rfl
        simp [cells3] at g0 g1 g2
        obtain ⟨z0, e1, e2, e3⟩ := DataW.trod_int Tryd.underlying3 g0
        obtain ⟨z1, e4, e5, e6⟩ := DataW.trod_int Tryd.underlying3 g1
        obtain ⟨z2, e7, e8, e9⟩ := DataW.trod_int Tryd.underlying3 g2
        simp only [List.cons.injEq, and_true] at e1 e4 e7
        have c0 := hcell 0 (by omega)
        have c1 := hcell 1 (by omega)
        have c2 := hcell 2 (by omega)
        rw [add_add] at c0 c1 c2
        simp [e1] at c0
        simp [e4] at c1
        simp [e7] at c2
        exact ⟨(z0, z1, z2), c0, c1, c2, e3, e6⟩
    obtain ⟨q, hq⟩ := choose_lt each
    refine ⟨q, ?_, Nat.le_trans hl hm⟩
    by_cases h0 : len = 0
    · exact .inl h0
    · obtain ⟨b, off, spot⟩ := a'
      have h1 := (hq 0 (by omega)).1
      have hs : spot = none := by
        cases spot with
        | none => rfl
        | some s =>
          simp [Addr.add, World.cell?] at h1
          split at h1 <;> simp at h1
      subst hs
      refine .inr ⟨b, off, rfl, fun j hj => ?_⟩
      obtain ⟨k1, k2, k3, k4, k5⟩ := hq j hj
      rw [addr_add] at k1 k2 k3
      exact ⟨k1, by rw [show off + j * 3 + 1 = off + (j * 3 + 1) by omega]; exact k2, by rw [show off + j * 3 + 2 = off + (j * 3 + 2) by omega]; exact k3, bnd_i64 k4, bnd_i64 k5⟩
end Go.Proofs.YteafaglhlggknabDoor
