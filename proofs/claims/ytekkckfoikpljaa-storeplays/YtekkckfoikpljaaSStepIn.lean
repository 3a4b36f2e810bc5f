/-
  Steps that came in: from what the row lays down to the walk's words.
-/
import Derived.Test.YtekkckfoikpljaaSLawPlays
import Derived.Test.YtekkckfoikpljaaSMsgIn
import Derived.Test.YtekkckfoikpljaaSIn
import Derived.Deep.Slices
namespace Go.Proofs.Ytekkckfoikpljaa
set_option linter.unusedVariables false
open Go.ChangeShapes Go.WideShapes Go.ChangeAt Go.RowKit Go.Deep

set_option maxRecDepth 100000 in
theorem open_msgL {H : Type} {enc : TypeId × Value → H} {W : World} {base : Nat} {sp : Nat → Bool} {held : Bool} {fuel : Nat} {cs : Array Value} {y : DataW H × List MemPlace} (hsz : cs.size = 42) (hf : DataW.trod enc Try.prog W base sp held fuel 34 cs.toList = some y) :
    (msgOf cs).cs = cs ∧ (msgOf cs).ok ∧ (msgOf cs).okS := by
  obtain ⟨xs, n, _, _, _, hlen, hfl⟩ := DataW.trod_struct Try.underlying34 hf
  have hlen' : xs.length = 42 := hlen
  have hx : ∀ i, i < 42 → ∃ x, xs[i]? = some x := fun i hi => ⟨xs[i], List.getElem?_eq_getElem (by omega)⟩
  have hfl' : ∀ (i : Nat) (f : Field), _ := hfl
  have key : ∀ i, i < 42 → cs[i]? = some ((msgOf cs).cell i) ∧ inR ((msgOf cs).z i) ∧ ((msgOf cs).s i).size ≤ maxLen := fun i hi => by
    obtain ⟨x, hx⟩ := hx i hi
    rcases cases42 hi with rfl | rfl | rfl | rfl | rfl | rfl | rfl | rfl | rfl | rfl | rfl | rfl | rfl | rfl | rfl | rfl | rfl | rfl | rfl | rfl | rfl | rfl | rfl | rfl | rfl | rfl | rfl | rfl | rfl | rfl | rfl | rfl | rfl | rfl | rfl | rfl | rfl | rfl | rfl | rfl | rfl | rfl
    · exact mk_int rfl rfl (f_int3 ((hfl 0 _ rfl).trans hx))
    · exact mk_str rfl (f_str ((hfl 1 _ rfl).trans hx))
    · exact mk_str rfl (f_str ((hfl 2 _ rfl).trans hx))
    · exact mk_int rfl rfl (f_int3 ((hfl 3 _ rfl).trans hx))
    · exact mk_boo rfl rfl (f_boo ((hfl 4 _ rfl).trans hx))
    · exact mk_int rfl rfl (f_int2 ((hfl 5 _ rfl).trans hx))
    · exact mk_int rfl rfl (f_int2 ((hfl 6 _ rfl).trans hx))
    · exact mk_int rfl rfl (f_int3 ((hfl 7 _ rfl).trans hx))
    · exact mk_boo rfl rfl (f_boo ((hfl 8 _ rfl).trans hx))
    · exact mk_str rfl (f_str ((hfl 9 _ rfl).trans hx))
    · exact mk_int rfl rfl (f_int3 ((hfl 10 _ rfl).trans hx))
    · exact mk_int rfl rfl (f_int3 ((hfl 11 _ rfl).trans hx))
    · exact mk_int rfl rfl (f_int3 ((hfl 12 _ rfl).trans hx))
    · exact mk_boo rfl rfl (f_boo ((hfl 13 _ rfl).trans hx))
    · exact mk_int rfl rfl (f_int3 ((hfl 14 _ rfl).trans hx))
    · exact mk_int rfl rfl (f_int3 ((hfl 15 _ rfl).trans hx))
    · exact mk_int rfl rfl (f_int3 ((hfl 16 _ rfl).trans hx))
    · exact mk_int rfl rfl (f_int3 ((hfl 17 _ rfl).trans hx))
    · exact mk_str rfl (f_str ((hfl 18 _ rfl).trans hx))
    · exact mk_str rfl (f_str ((hfl 19 _ rfl).trans hx))
    · exact mk_str rfl (f_str ((hfl 20 _ rfl).trans hx))
    · exact mk_str rfl (f_str ((hfl 21 _ rfl).trans hx))
    · exact mk_str rfl (f_str ((hfl 22 _ rfl).trans hx))
    · exact mk_int rfl rfl (f_int3 ((hfl 23 _ rfl).trans hx))
    · exact mk_int rfl rfl (f_int3 ((hfl 24 _ rfl).trans hx))
    · exact mk_int rfl rfl (f_int3 ((hfl 25 _ rfl).trans hx))
    · exact mk_int rfl rfl (f_int2 ((hfl 26 _ rfl).trans hx))
    · exact mk_int rfl rfl (f_int2 ((hfl 27 _ rfl).trans hx))
    · exact mk_int rfl rfl (f_int2 ((hfl 28 _ rfl).trans hx))
    · exact mk_int rfl rfl (f_int2 ((hfl 29 _ rfl).trans hx))
    · exact mk_int rfl rfl (f_int2 ((hfl 30 _ rfl).trans hx))
    · exact mk_int rfl rfl (f_int3 ((hfl 31 _ rfl).trans hx))
    · exact mk_int rfl rfl (f_int3 ((hfl 32 _ rfl).trans hx))
    · exact mk_int rfl rfl (f_int3 ((hfl 33 _ rfl).trans hx))
    · exact mk_int rfl rfl (f_int3 ((hfl 34 _ rfl).trans hx))
    · exact mk_int rfl rfl (f_int3 ((hfl 35 _ rfl).trans hx))
    · exact mk_int rfl rfl (f_int2 ((hfl 36 _ rfl).trans hx))
    · exact mk_int rfl rfl (f_int2 ((hfl 37 _ rfl).trans hx))
    · exact mk_int rfl rfl (f_int2 ((hfl 38 _ rfl).trans hx))
    · exact mk_int rfl rfl (f_int2 ((hfl 39 _ rfl).trans hx))
    · exact mk_int rfl rfl (f_int3 ((hfl 40 _ rfl).trans hx))
    · exact mk_int rfl rfl (f_int3 ((hfl 41 _ rfl).trans hx))
  have none_at : ∀ i, ¬ i < 42 → cs[i]? = none := fun i hi => Array.getElem?_eq_none (by omega)
  refine ⟨?_, fun i => ?_, fun i => ?_⟩
  · apply Array.ext_getElem?
    intro i
    by_cases hi : i < 42
    · rw [(key i hi).1, Msg.cs_get _ _ hi]
    · rw [none_at i hi, Array.getElem?_eq_none (by rw [Msg.cs_size]; omega)]
  · by_cases hi : i < 42
    · exact (key i hi).2.1
    · simp only [msgOf, none_at i hi, cellZ]; decide
  · by_cases hi : i < 42
    · exact (key i hi).2.2
    · simp only [msgOf, none_at i hi, cellS]; exact Nat.zero_le _
/-- A step, out of its cells. -/
def stepOf (l : List Value) : SD := ⟨cellZ l[0]?, cellZ l[1]?, cellZ l[2]?, cellZ l[3]?, cellZ l[4]?, msgOf (l.drop 5).toArray⟩
theorem int_cell {l : List Value} {i : Nat} (h : ∃ z, l[i]? = some (.int .i64 z) ∧ inR z) : l[i]? = some (.int .i64 (cellZ l[i]?)) ∧ inR (cellZ l[i]?) := by
  obtain ⟨z, h1, h2⟩ := h
  rw [h1]
  exact ⟨rfl, h2⟩
set_option maxRecDepth 100000 in
theorem open_step {H : Type} {enc : TypeId × Value → H} {W : World} {base : Nat} {sp : Nat → Bool} {held : Bool} {fuel : Nat} {l : List Value} {y : DataW H × List MemPlace} (hsz : l.length = 47) (hf : DataW.trod enc Try.prog W base sp held fuel 54 l = some y) :
    (stepOf l).v = l ∧ inR (stepOf l).on := by
  obtain ⟨xs, n, _, _, _, hlen, hfl⟩ := DataW.trod_struct Try.underlying54 hf
  have hlen' : xs.length = 6 := hlen
  have hx : ∀ i, i < 6 → ∃ x, xs[i]? = some x := fun i hi => ⟨xs[i], List.getElem?_eq_getElem (by omega)⟩
  obtain ⟨x0, h0⟩ := hx 0 (by decide)
  obtain ⟨x1, h1⟩ := hx 1 (by decide)
  obtain ⟨x2, h2⟩ := hx 2 (by decide)
  obtain ⟨x3, h3⟩ := hx 3 (by decide)
  obtain ⟨x4, h4⟩ := hx 4 (by decide)
  obtain ⟨x5, h5⟩ := hx 5 (by decide)
  have k0 := int_cell (f_int3 ((hfl 0 _ rfl).trans h0))
  have k1 := int_cell (f_int3 ((hfl 1 _ rfl).trans h1))
  have k2 := int_cell (f_int3 ((hfl 2 _ rfl).trans h2))
  have k3 := int_cell (f_int3 ((hfl 3 _ rfl).trans h3))
  have k4 := int_cell (f_int3 ((hfl 4 _ rfl).trans h4))
  have hm0 := (hfl 5 _ rfl).trans h5
  have hm1 : DataW.trod enc Try.prog W base sp held n 34 ((l.drop 5).take (Try.prog.cellsOf 34)) = some x5 := hm0
  rw [show Try.prog.cellsOf 34 = 42 by kernel_rfl, List.take_of_length_le (by rw [List.length_drop]; omega)] at hm1
  have k5 := (open_msgL (cs := (l.drop 5).toArray) (by simp [hsz]) hm1).1
  refine ⟨?_, k1.2⟩
  unfold SD.v stV
  show [Value.int .i64 (cellZ l[0]?), .int .i64 (cellZ l[1]?), .int .i64 (cellZ l[2]?), .int .i64 (cellZ l[3]?), .int .i64 (cellZ l[4]?)] ++ (msgOf (l.drop 5).toArray).cs.toList = l
  rw [k5]
  match l, hsz with
  | a0 :: a1 :: a2 :: a3 :: a4 :: t, _ =>
    have e0 : a0 = .int .i64 (cellZ (some a0)) := Option.some.inj k0.1
    have e1 : a1 = .int .i64 (cellZ (some a1)) := Option.some.inj k1.1
    have e2 : a2 = .int .i64 (cellZ (some a2)) := Option.some.inj k2.1
    have e3 : a3 = .int .i64 (cellZ (some a3)) := Option.some.inj k3.1
    have e4 : a4 = .int .i64 (cellZ (some a4)) := Option.some.inj k4.1
    show [Value.int .i64 (cellZ (some a0)), .int .i64 (cellZ (some a1)), .int .i64 (cellZ (some a2)), .int .i64 (cellZ (some a3)), .int .i64 (cellZ (some a4))] ++ t = _
    rw [← e0, ← e1, ← e2, ← e3, ← e4]; rfl
theorem open_steps {H : Type} {enc : TypeId × Value → H} {W : World} {a : Option Addr} {len cap fuel : Nat} {x : DataW H × List MemPlace} (h : DataW.trod enc Try.prog W 0 (fun _ => true) true fuel 46 [.slice a len cap] = some x) :
    ∃ ss : Nat → SD, StepsIn W a len ss ∧ len ≤ 9223372036854775807 := by
  rcases open_slice Try.underlying46 h with ⟨hcs, _⟩ | ⟨a', len', cap', m, n, D, Pl, hcs, hb, hl, hm, hmm, hx, hall⟩
  · simp at hcs
    obtain ⟨rfl, rfl, rfl⟩ := hcs
    exact ⟨fun _ => ⟨0, 0, 0, 0, 0, zeroM⟩, .inl rfl, by decide⟩
  · simp at hcs
    obtain ⟨rfl, rfl, rfl⟩ := hcs
    have hlm : len ≤ m := by rw [hmm]; split <;> omega
    have hmx : len ≤ 9223372036854775807 := by have := Nat.le_trans hl hm; unfold maxLen at this; omega
    refine ⟨fun i => stepOf ((W.cells? 0 (a'.add (i * 47)) 47).getD []), ?_, hmx⟩
    by_cases h0 : len = 0
    · exact .inl h0
    · have each : ∀ i, i < len → ∃ cs' : List Value, W.cells? 0 (a'.add (i * 47)) 47 = some cs' ∧ cs'.length = 47 ∧ (∀ q (hq : q < 47), ∃ v, cs'[q]? = some v ∧ W.cell? ((a'.add (i * 47)).add q) = some v) ∧ (stepOf cs').v = cs' ∧ inR (stepOf cs').on := fun i hi => by
        obtain ⟨cs', h1, h2⟩ := hall i (by omega)
        rw [show Try.prog.cellsOf 54 = 47 by kernel_rfl] at h1
        obtain ⟨_, hlen, hcell⟩ := World.cells?_some h1
        refine ⟨cs', h1, hlen, fun q hq => ⟨_, List.getElem?_eq_getElem (by omega), (hcell q (by omega)).trans (List.getElem?_eq_getElem (by omega))⟩, open_step hlen h2⟩
      obtain ⟨b, off, spot⟩ := a'
      have hs : spot = none := by
        obtain ⟨cs', _, _, hc, _⟩ := each 0 (by omega)
        obtain ⟨v, _, h1⟩ := hc 0 (by decide)
        cases spot with
        | none => rfl
        | some s =>
          simp [Addr.add, World.cell?] at h1
          split at h1 <;> simp at h1
      subst hs
      refine .inr ⟨b, off, rfl, fun i hi => ?_⟩
      obtain ⟨cs', e1, e2, e3, e4, e5⟩ := each i hi
      simp only [e1, Option.getD_some]
      refine ⟨fun q v hv => ?_, e5.1, e5.2⟩
      rw [e4] at hv
      have hq : q < 47 := by have := (List.getElem?_eq_some_iff.1 hv).1; omega
      obtain ⟨v', g1, g2⟩ := e3 q hq
      have : v = v' := by
        rw [hv] at g1
        exact Option.some.inj g1
      subst this
      rw [Addr.add_mid, Addr.add_mid] at g2
      exact g2
end Go.Proofs.Ytekkckfoikpljaa
