/-
  Steps and accounts that came in: from what the row lays down to the walk's words.
-/
import Derived.Test.YtgioknkfppaaaaaGIn
import Derived.Test.YtgioknkfppaaaaaGAp1
import Derived.Deep.Slices
namespace Go.Proofs.Ytgioknkfppaaaaa
set_option linter.unusedVariables false
open Go.ChangeShapes Go.WideShapes Go.ChangeAt Go.RowKit Go.Deep

def inR (z : Int) : Prop := -9223372036854775808 ≤ z ∧ z ≤ 9223372036854775807
def IntC (v : Option Value) : Prop := ∃ z, v = some (.int .i64 z) ∧ inR z
def StrC (v : Option Value) : Prop := ∃ s : ByteArray, v = some (.string s) ∧ s.size ≤ maxLen
def BooC (v : Option Value) : Prop := ∃ b, v = some (.bool b)
section
variable {H : Type} {enc : TypeId × Value → H} {W : World} {base : Nat} {sp : Nat → Bool} {held : Bool}
theorem one_at {l : List Value} {i : Nat} {v : Value} (h : (l.drop i).take 1 = [v]) : l[i]? = some v := by
  have := congrArg (·[0]?) h
  simpa [List.getElem?_take, List.getElem?_drop] using this
theorem f_int3 {n i : Nat} {l : List Value} {x : DataW H × List MemPlace} (h : DataW.trod enc Try.prog W base sp held n 3 ((l.drop i).take (Try.prog.cellsOf 3)) = some x) : IntC l[i]? := by
  rw [show Try.prog.cellsOf 3 = 1 by kernel_rfl] at h
  obtain ⟨z, hc, _, hw⟩ := DataW.trod_int Try.underlying3 h
  exact ⟨z, one_at hc, bounds_i64 hw⟩
theorem f_int2 {n i : Nat} {l : List Value} {x : DataW H × List MemPlace} (h : DataW.trod enc Try.prog W base sp held n 2 ((l.drop i).take (Try.prog.cellsOf 2)) = some x) : IntC l[i]? := by
  rw [show Try.prog.cellsOf 2 = 1 by kernel_rfl] at h
  obtain ⟨z, hc, _, hw⟩ := DataW.trod_int Try.underlying2 h
  exact ⟨z, one_at hc, bounds_i64 hw⟩
theorem f_str {n i : Nat} {l : List Value} {x : DataW H × List MemPlace} (h : DataW.trod enc Try.prog W base sp held n 9 ((l.drop i).take (Try.prog.cellsOf 9)) = some x) : StrC l[i]? := by
  rw [show Try.prog.cellsOf 9 = 1 by kernel_rfl] at h
  obtain ⟨s, hc, _, hw⟩ := DataW.trod_string Try.underlying9 h
  exact ⟨s, one_at hc, hw⟩
theorem f_boo {n i : Nat} {l : List Value} {x : DataW H × List MemPlace} (h : DataW.trod enc Try.prog W base sp held n 4 ((l.drop i).take (Try.prog.cellsOf 4)) = some x) : BooC l[i]? := by
  rw [show Try.prog.cellsOf 4 = 1 by kernel_rfl] at h
  obtain ⟨b, hc, _⟩ := DataW.trod_bool Try.underlying4 h
  exact ⟨b, one_at hc⟩
set_option maxRecDepth 100000 in
theorem cells_lim {fuel : Nat} {l : List Value} {y : DataW H × List MemPlace} (hf : DataW.trod enc Try.prog W base sp held fuel 30 l = some y) : StrC l[0]? ∧ IntC l[1]? ∧ IntC l[2]? ∧ IntC l[3]? ∧ IntC l[4]? ∧ IntC l[5]? := by
  obtain ⟨xs, n, _, _, _, hlen, hfl⟩ := DataW.trod_struct Try.underlying30 hf
  have hlen' : xs.length = 6 := hlen
  have hx : ∀ i, i < 6 → ∃ x, xs[i]? = some x := fun i hi => ⟨xs[i], List.getElem?_eq_getElem (by omega)⟩
  obtain ⟨x0, h0⟩ := hx 0 (by decide)
  obtain ⟨x1, h1⟩ := hx 1 (by decide)
  obtain ⟨x2, h2⟩ := hx 2 (by decide)
  obtain ⟨x3, h3⟩ := hx 3 (by decide)
  obtain ⟨x4, h4⟩ := hx 4 (by decide)
  obtain ⟨x5, h5⟩ := hx 5 (by decide)
  exact ⟨f_str ((hfl 0 _ rfl).trans h0), f_int2 ((hfl 1 _ rfl).trans h1), f_int2 ((hfl 2 _ rfl).trans h2), f_int2 ((hfl 3 _ rfl).trans h3), f_int3 ((hfl 4 _ rfl).trans h4), f_int3 ((hfl 5 _ rfl).trans h5)⟩
set_option maxRecDepth 100000 in
theorem cells_ord {fuel : Nat} {l : List Value} {y : DataW H × List MemPlace} (hf : DataW.trod enc Try.prog W base sp held fuel 35 l = some y) : IntC l[0]? ∧ StrC l[1]? ∧ StrC l[2]? ∧ StrC l[3]? ∧ IntC l[4]? ∧ IntC l[5]? ∧ IntC l[6]? ∧ IntC l[7]? ∧ IntC l[8]? ∧ IntC l[9]? ∧ IntC l[10]? ∧ IntC l[11]? ∧ IntC l[12]? ∧ IntC l[13]? ∧ IntC l[14]? := by
  obtain ⟨xs, n, _, _, _, hlen, hfl⟩ := DataW.trod_struct Try.underlying35 hf
  have hlen' : xs.length = 15 := hlen
  have hx : ∀ i, i < 15 → ∃ x, xs[i]? = some x := fun i hi => ⟨xs[i], List.getElem?_eq_getElem (by omega)⟩
  obtain ⟨x0, h0⟩ := hx 0 (by decide)
  obtain ⟨x1, h1⟩ := hx 1 (by decide)
  obtain ⟨x2, h2⟩ := hx 2 (by decide)
  obtain ⟨x3, h3⟩ := hx 3 (by decide)
  obtain ⟨x4, h4⟩ := hx 4 (by decide)
  obtain ⟨x5, h5⟩ := hx 5 (by decide)
  obtain ⟨x6, h6⟩ := hx 6 (by decide)
  obtain ⟨x7, h7⟩ := hx 7 (by decide)
  obtain ⟨x8, h8⟩ := hx 8 (by decide)
  obtain ⟨x9, h9⟩ := hx 9 (by decide)
  obtain ⟨x10, h10⟩ := hx 10 (by decide)
  obtain ⟨x11, h11⟩ := hx 11 (by decide)
  obtain ⟨x12, h12⟩ := hx 12 (by decide)
  obtain ⟨x13, h13⟩ := hx 13 (by decide)
  obtain ⟨x14, h14⟩ := hx 14 (by decide)
  exact ⟨f_int3 ((hfl 0 _ rfl).trans h0), f_str ((hfl 1 _ rfl).trans h1), f_str ((hfl 2 _ rfl).trans h2), f_str ((hfl 3 _ rfl).trans h3), f_int3 ((hfl 4 _ rfl).trans h4), f_int3 ((hfl 5 _ rfl).trans h5), f_int3 ((hfl 6 _ rfl).trans h6), f_int2 ((hfl 7 _ rfl).trans h7), f_int2 ((hfl 8 _ rfl).trans h8), f_int2 ((hfl 9 _ rfl).trans h9), f_int2 ((hfl 10 _ rfl).trans h10), f_int2 ((hfl 11 _ rfl).trans h11), f_int2 ((hfl 12 _ rfl).trans h12), f_int3 ((hfl 13 _ rfl).trans h13), f_int3 ((hfl 14 _ rfl).trans h14)⟩
set_option maxRecDepth 100000 in
theorem open_op {fuel : Nat} {l : List Value} {y : DataW H × List MemPlace} (hsz : l.length = 29) (hf : DataW.trod enc Try.prog W base sp held fuel 50 l = some y) : ∃ p : Opp, p.cs.toList = l ∧ p.inn := by
  obtain ⟨xs, n, _, _, _, hlen, hfl⟩ := DataW.trod_struct Try.underlying50 hf
  have hlen' : xs.length = 10 := hlen
  have hx : ∀ i, i < 10 → ∃ x, xs[i]? = some x := fun i hi => ⟨xs[i], List.getElem?_eq_getElem (by omega)⟩
  obtain ⟨x0, h0⟩ := hx 0 (by decide)
  obtain ⟨x1, h1⟩ := hx 1 (by decide)
  obtain ⟨x2, h2⟩ := hx 2 (by decide)
  obtain ⟨x3, h3⟩ := hx 3 (by decide)
  obtain ⟨x4, h4⟩ := hx 4 (by decide)
  obtain ⟨x5, h5⟩ := hx 5 (by decide)
  obtain ⟨x6, h6⟩ := hx 6 (by decide)
  obtain ⟨x7, h7⟩ := hx 7 (by decide)
  obtain ⟨x8, h8⟩ := hx 8 (by decide)
  obtain ⟨x9, h9⟩ := hx 9 (by decide)
  have k0 := f_int3 ((hfl 0 _ rfl).trans h0)
  have k1 := f_int3 ((hfl 1 _ rfl).trans h1)
  have k23 := f_int2 ((hfl 4 _ rfl).trans h4)
  have k24 := f_int2 ((hfl 5 _ rfl).trans h5)
  have k25 := f_int2 ((hfl 6 _ rfl).trans h6)
  have k26 := f_str ((hfl 7 _ rfl).trans h7)
  have k27 := f_str ((hfl 8 _ rfl).trans h8)
  have k28 := f_boo ((hfl 9 _ rfl).trans h9)
  have hA0 := (hfl 2 _ rfl).trans h2
  have hA1 : DataW.trod enc Try.prog W base sp held n 30 ((l.drop 2).take (Try.prog.cellsOf 30)) = some x2 := hA0
  rw [show Try.prog.cellsOf 30 = 6 by kernel_rfl] at hA1
  have hO0 := (hfl 3 _ rfl).trans h3
  have hO1 : DataW.trod enc Try.prog W base sp held n 35 ((l.drop 8).take (Try.prog.cellsOf 35)) = some x3 := hO0
  rw [show Try.prog.cellsOf 35 = 15 by kernel_rfl] at hO1
  obtain ⟨k2, k3, k4, k5, k6, k7⟩ := cells_lim hA1
  obtain ⟨k8, k9, k10, k11, k12, k13, k14, k15, k16, k17, k18, k19, k20, k21, k22⟩ := cells_ord hO1
  clear hA0 hA1 hO0 hO1 hfl
  match l, hsz with
  | [a0, a1, a2, a3, a4, a5, a6, a7, a8, a9, a10, a11, a12, a13, a14, a15, a16, a17, a18, a19, a20, a21, a22, a23, a24, a25, a26, a27, a28], _ =>
    obtain ⟨z0, e0, r0⟩ := k0
    obtain ⟨z1, e1, r1⟩ := k1
    obtain ⟨z2, e2, r2⟩ := k2
    obtain ⟨z3, e3, r3⟩ := k3
    obtain ⟨z4, e4, r4⟩ := k4
    obtain ⟨z5, e5, r5⟩ := k5
    obtain ⟨z6, e6, r6⟩ := k6
    obtain ⟨z7, e7, r7⟩ := k7
    obtain ⟨z8, e8, r8⟩ := k8
    obtain ⟨z9, e9, r9⟩ := k9
    obtain ⟨z10, e10, r10⟩ := k10
    obtain ⟨z11, e11, r11⟩ := k11
    obtain ⟨z12, e12, r12⟩ := k12
    obtain ⟨z13, e13, r13⟩ := k13
    obtain ⟨z14, e14, r14⟩ := k14
    obtain ⟨z15, e15, r15⟩ := k15
    obtain ⟨z16, e16, r16⟩ := k16
    obtain ⟨z17, e17, r17⟩ := k17
    obtain ⟨z18, e18, r18⟩ := k18
    obtain ⟨z19, e19, r19⟩ := k19
    obtain ⟨z20, e20, r20⟩ := k20
    obtain ⟨z21, e21, r21⟩ := k21
    obtain ⟨z22, e22, r22⟩ := k22
    obtain ⟨z23, e23, r23⟩ := k23
    obtain ⟨z24, e24, r24⟩ := k24
    obtain ⟨z25, e25, r25⟩ := k25
    obtain ⟨z26, e26, r26⟩ := k26
    obtain ⟨z27, e27, r27⟩ := k27
    obtain ⟨z28, e28⟩ := k28
    obtain rfl : a0 = .int .i64 z0 := Option.some.inj e0
    obtain rfl : a1 = .int .i64 z1 := Option.some.inj e1
    obtain rfl : a2 = .string z2 := Option.some.inj e2
    obtain rfl : a3 = .int .i64 z3 := Option.some.inj e3
    obtain rfl : a4 = .int .i64 z4 := Option.some.inj e4
    obtain rfl : a5 = .int .i64 z5 := Option.some.inj e5
    obtain rfl : a6 = .int .i64 z6 := Option.some.inj e6
    obtain rfl : a7 = .int .i64 z7 := Option.some.inj e7
    obtain rfl : a8 = .int .i64 z8 := Option.some.inj e8
    obtain rfl : a9 = .string z9 := Option.some.inj e9
    obtain rfl : a10 = .string z10 := Option.some.inj e10
    obtain rfl : a11 = .string z11 := Option.some.inj e11
    obtain rfl : a12 = .int .i64 z12 := Option.some.inj e12
    obtain rfl : a13 = .int .i64 z13 := Option.some.inj e13
    obtain rfl : a14 = .int .i64 z14 := Option.some.inj e14
    obtain rfl : a15 = .int .i64 z15 := Option.some.inj e15
    obtain rfl : a16 = .int .i64 z16 := Option.some.inj e16
    obtain rfl : a17 = .int .i64 z17 := Option.some.inj e17
    obtain rfl : a18 = .int .i64 z18 := Option.some.inj e18
    obtain rfl : a19 = .int .i64 z19 := Option.some.inj e19
    obtain rfl : a20 = .int .i64 z20 := Option.some.inj e20
    obtain rfl : a21 = .int .i64 z21 := Option.some.inj e21
    obtain rfl : a22 = .int .i64 z22 := Option.some.inj e22
    obtain rfl : a23 = .int .i64 z23 := Option.some.inj e23
    obtain rfl : a24 = .int .i64 z24 := Option.some.inj e24
    obtain rfl : a25 = .int .i64 z25 := Option.some.inj e25
    obtain rfl : a26 = .string z26 := Option.some.inj e26
    obtain rfl : a27 = .string z27 := Option.some.inj e27
    obtain rfl : a28 = .bool z28 := Option.some.inj e28
    exact ⟨⟨z0, z1, ⟨z2, z3, z4, z5, z6, z7⟩, ⟨z8, z9, z10, z11, z12, z13, z14, z15, z16, z17, z18, z19, z20, z21, z22⟩, z23, z24, z25, z26, z27, z28⟩, rfl, ⟨r10, r11, r26, r27, r8⟩⟩
set_option maxRecDepth 100000 in
theorem open_lim {r : Reach} {b0 : Nat} {v : Value} {d : DataW H} {p : List MemPlace} (hv : Value.okWide Try.prog W r b0 30 v) (h : DataW.Trod enc Try.prog W base sp held 30 v d p) :
    ∃ a : Lim, v = .agg a.cs := by
  obtain ⟨cs, rfl, hsz⟩ := okWide_struct Try.underlying30 hv
  rw [show Try.prog.cellsOf 30 = 6 by kernel_rfl] at hsz
  obtain ⟨fuel, hf⟩ := h
  have hf' : DataW.trod enc Try.prog W base sp held fuel 30 cs.toList = some (d, p) := hf
  obtain ⟨k0, k1, k2, k3, k4, k5⟩ := cells_lim hf'
  obtain ⟨l⟩ := cs
  have hl : l.length = 6 := hsz
  clear hf hf' hsz hv
  match l, hl with
  | [a0, a1, a2, a3, a4, a5], _ =>
    obtain ⟨z0, e0, _⟩ := k0
    obtain ⟨z1, e1, _⟩ := k1
    obtain ⟨z2, e2, _⟩ := k2
    obtain ⟨z3, e3, _⟩ := k3
    obtain ⟨z4, e4, _⟩ := k4
    obtain ⟨z5, e5, _⟩ := k5
    obtain rfl : a0 = .string z0 := Option.some.inj e0
    obtain rfl : a1 = .int .i64 z1 := Option.some.inj e1
    obtain rfl : a2 = .int .i64 z2 := Option.some.inj e2
    obtain rfl : a3 = .int .i64 z3 := Option.some.inj e3
    obtain rfl : a4 = .int .i64 z4 := Option.some.inj e4
    obtain rfl : a5 = .int .i64 z5 := Option.some.inj e5
    exact ⟨⟨z0, z1, z2, z3, z4, z5⟩, rfl⟩
end
theorem open_ops {H : Type} {enc : TypeId × Value → H} {W : World} {a : Option Addr} {len cap fuel : Nat} {x : DataW H × List MemPlace} (h : DataW.trod enc Try.prog W 0 (fun _ => true) true fuel 48 [.slice a len cap] = some x) :
    ∃ t : Nat → Opp, SrcO W a len t ∧ len ≤ maxLen := by
  rcases open_slice Try.underlying48 h with ⟨hcs, _⟩ | ⟨a', len', cap', m, n, D, Pl, hcs, hb, hl, hm, hmm, hx, hall⟩
  · simp at hcs
    obtain ⟨rfl, rfl, rfl⟩ := hcs
    exact ⟨fun _ => zO, .inl rfl, by decide⟩
  · simp at hcs
    obtain ⟨rfl, rfl, rfl⟩ := hcs
    have hlm : len ≤ m := by rw [hmm]; split <;> omega
    have hmx : len ≤ maxLen := Nat.le_trans hl hm
    by_cases h0 : len = 0
    · exact ⟨fun _ => zO, .inl h0, hmx⟩
    · have each : ∀ i, i < len → ∃ (cs' : List Value) (p : Opp), W.cells? 0 (a'.add (i * 29)) 29 = some cs' ∧ cs'.length = 29 ∧ (∀ q (hq : q < 29), ∃ v, cs'[q]? = some v ∧ W.cell? ((a'.add (i * 29)).add q) = some v) ∧ p.cs.toList = cs' ∧ p.inn := fun i hi => by
        obtain ⟨cs', h1, h2⟩ := hall i (by omega)
        rw [show Try.prog.cellsOf 50 = 29 by kernel_rfl] at h1
        obtain ⟨_, hlen, hcell⟩ := World.cells?_some h1
        obtain ⟨p, hp1, hp2⟩ := open_op hlen h2
        exact ⟨cs', p, h1, hlen, fun q hq => ⟨_, List.getElem?_eq_getElem (by omega), (hcell q (by omega)).trans (List.getElem?_eq_getElem (by omega))⟩, hp1, hp2⟩
      obtain ⟨b, off, spot⟩ := a'
      have hs : spot = none := by
        obtain ⟨cs', _, _, _, hc, _⟩ := each 0 (by omega)
        obtain ⟨v, _, h1⟩ := hc 0 (by decide)
        cases spot with
        | none => rfl
        | some s =>
          simp [Addr.add, World.cell?] at h1
          split at h1 <;> simp at h1
      subst hs
      have every : ∀ i, ∃ p : Opp, i < len → W.rangeAt b (off + i * 29) p.cs.toList ∧ p.inn := fun i => by
        by_cases hi : i < len
        · obtain ⟨cs', p, e1, e2, e3, e4, e5⟩ := each i hi
          refine ⟨p, fun _ => ⟨fun q v hv => ?_, e5⟩⟩
          rw [e4] at hv
          have hq : q < 29 := by have := (List.getElem?_eq_some_iff.1 hv).1; omega
          obtain ⟨v', g1, g2⟩ := e3 q hq
          have : v = v' := by
            rw [hv] at g1
            exact Option.some.inj g1
          subst this
          rw [Addr.add_mid, Addr.add_mid] at g2
          exact g2
        · exact ⟨zO, fun h => absurd h hi⟩
      exact ⟨fun i => Classical.choose (every i), .inr ⟨b, off, rfl, fun i hi => Classical.choose_spec (every i) hi⟩, hmx⟩
end Go.Proofs.Ytgioknkfppaaaaa
