/-
  Commands that came in: from what the row lays down to the walk's words.
-/
import Derived.Test.YtjnnecoikcmaeaaTIn
import Derived.Test.YtjnnecoikcmaeaaTCa
import Derived.Deep.Slices
namespace Go.Proofs.Ytjnnecoikcmaeaa
set_option linter.unusedVariables false
open Go.ChangeShapes Go.WideShapes Go.ChangeAt Go.RowKit Go.Deep
section
variable {H : Type} {enc : TypeId × Value → H} {W : World} {base : Nat} {sp : Nat → Bool} {held : Bool}
set_option maxRecDepth 100000 in
set_option maxHeartbeats 4000000 in
theorem open_cmdL {fuel : Nat} {l : List Value} {y : DataW H × List MemPlace} (hsz : l.length = 25) (hf : DataW.trod enc Try.prog W base sp held fuel 27 l = some y) : ∃ c : Cm, l = c.cs.toList ∧ c.ok := by
  obtain ⟨xs, n, _, _, _, hlen, hfl⟩ := DataW.trod_struct Try.underlying27 hf
  have hlen' : xs.length = 6 := hlen
  have hx : ∀ i, (hi : i < 6) → xs[i]? = some (xs[i]'(by omega)) := fun i hi => List.getElem?_eq_getElem (by omega)
  obtain ⟨ys, n2, _, _, _, hlen2, hfo⟩ := DataW.trod_struct Try.underlying23 ((hfl 3 _ rfl).trans (hx 3 (by decide)))
  have hlen2' : ys.length = 15 := hlen2
  have hy : ∀ i, (hi : i < 15) → ys[i]? = some (ys[i]'(by omega)) := fun i hi => List.getElem?_eq_getElem (by omega)
  obtain ⟨zs, n3, _, _, _, hlen3, hfa⟩ := DataW.trod_struct Try.underlying25 ((hfl 5 _ rfl).trans (hx 5 (by decide)))
  have hlen3' : zs.length = 6 := hlen3
  have hz : ∀ i, (hi : i < 6) → zs[i]? = some (zs[i]'(by omega)) := fun i hi => List.getElem?_eq_getElem (by omega)
  have k0 : ∃ z, l[0]? = some (.int .i64 z) ∧ inR z := by first | exact f_int3 ((hfl 0 _ rfl).trans (hx 0 (by decide))) | exact f_int2 ((hfl 0 _ rfl).trans (hx 0 (by decide)))
  have k1 : ∃ z, l[1]? = some (.int .i64 z) ∧ inR z := by first | exact f_int3 ((hfl 1 _ rfl).trans (hx 1 (by decide))) | exact f_int2 ((hfl 1 _ rfl).trans (hx 1 (by decide)))
  have k2 : ∃ z, l[2]? = some (.int .i64 z) ∧ inR z := by first | exact f_int3 ((hfl 2 _ rfl).trans (hx 2 (by decide))) | exact f_int2 ((hfl 2 _ rfl).trans (hx 2 (by decide)))
  have k3 : ∃ z, l[3]? = some (.int .i64 z) ∧ inR z := by first | exact sub_i (f_int3 ((hfo 0 _ rfl).trans (hy 0 (by decide)))) | exact sub_i (f_int2 ((hfo 0 _ rfl).trans (hy 0 (by decide))))
  have k4 : ∃ s : ByteArray, l[4]? = some (.string s) ∧ s.size ≤ maxLen := by exact sub_s (f_str ((hfo 1 _ rfl).trans (hy 1 (by decide))))
  have k5 : ∃ s : ByteArray, l[5]? = some (.string s) ∧ s.size ≤ maxLen := by exact sub_s (f_str ((hfo 2 _ rfl).trans (hy 2 (by decide))))
  have k6 : ∃ s : ByteArray, l[6]? = some (.string s) ∧ s.size ≤ maxLen := by exact sub_s (f_str ((hfo 3 _ rfl).trans (hy 3 (by decide))))
  have k7 : ∃ z, l[7]? = some (.int .i64 z) ∧ inR z := by first | exact sub_i (f_int3 ((hfo 4 _ rfl).trans (hy 4 (by decide)))) | exact sub_i (f_int2 ((hfo 4 _ rfl).trans (hy 4 (by decide))))
  have k8 : ∃ z, l[8]? = some (.int .i64 z) ∧ inR z := by first | exact sub_i (f_int3 ((hfo 5 _ rfl).trans (hy 5 (by decide)))) | exact sub_i (f_int2 ((hfo 5 _ rfl).trans (hy 5 (by decide))))
  have k9 : ∃ z, l[9]? = some (.int .i64 z) ∧ inR z := by first | exact sub_i (f_int3 ((hfo 6 _ rfl).trans (hy 6 (by decide)))) | exact sub_i (f_int2 ((hfo 6 _ rfl).trans (hy 6 (by decide))))
  have k10 : ∃ z, l[10]? = some (.int .i64 z) ∧ inR z := by first | exact sub_i (f_int3 ((hfo 7 _ rfl).trans (hy 7 (by decide)))) | exact sub_i (f_int2 ((hfo 7 _ rfl).trans (hy 7 (by decide))))
  have k11 : ∃ z, l[11]? = some (.int .i64 z) ∧ inR z := by first | exact sub_i (f_int3 ((hfo 8 _ rfl).trans (hy 8 (by decide)))) | exact sub_i (f_int2 ((hfo 8 _ rfl).trans (hy 8 (by decide))))
  have k12 : ∃ z, l[12]? = some (.int .i64 z) ∧ inR z := by first | exact sub_i (f_int3 ((hfo 9 _ rfl).trans (hy 9 (by decide)))) | exact sub_i (f_int2 ((hfo 9 _ rfl).trans (hy 9 (by decide))))
  have k13 : ∃ z, l[13]? = some (.int .i64 z) ∧ inR z := by first | exact sub_i (f_int3 ((hfo 10 _ rfl).trans (hy 10 (by decide)))) | exact sub_i (f_int2 ((hfo 10 _ rfl).trans (hy 10 (by decide))))
  have k14 : ∃ z, l[14]? = some (.int .i64 z) ∧ inR z := by first | exact sub_i (f_int3 ((hfo 11 _ rfl).trans (hy 11 (by decide)))) | exact sub_i (f_int2 ((hfo 11 _ rfl).trans (hy 11 (by decide))))
  have k15 : ∃ z, l[15]? = some (.int .i64 z) ∧ inR z := by first | exact sub_i (f_int3 ((hfo 12 _ rfl).trans (hy 12 (by decide)))) | exact sub_i (f_int2 ((hfo 12 _ rfl).trans (hy 12 (by decide))))
  have k16 : ∃ z, l[16]? = some (.int .i64 z) ∧ inR z := by first | exact sub_i (f_int3 ((hfo 13 _ rfl).trans (hy 13 (by decide)))) | exact sub_i (f_int2 ((hfo 13 _ rfl).trans (hy 13 (by decide))))
  have k17 : ∃ z, l[17]? = some (.int .i64 z) ∧ inR z := by first | exact sub_i (f_int3 ((hfo 14 _ rfl).trans (hy 14 (by decide)))) | exact sub_i (f_int2 ((hfo 14 _ rfl).trans (hy 14 (by decide))))
  have k18 : ∃ s : ByteArray, l[18]? = some (.string s) ∧ s.size ≤ maxLen := by exact f_str ((hfl 4 _ rfl).trans (hx 4 (by decide)))
  have k19 : ∃ s : ByteArray, l[19]? = some (.string s) ∧ s.size ≤ maxLen := by exact sub_s (f_str ((hfa 0 _ rfl).trans (hz 0 (by decide))))
  have k20 : ∃ z, l[20]? = some (.int .i64 z) ∧ inR z := by first | exact sub_i (f_int3 ((hfa 1 _ rfl).trans (hz 1 (by decide)))) | exact sub_i (f_int2 ((hfa 1 _ rfl).trans (hz 1 (by decide))))
  have k21 : ∃ z, l[21]? = some (.int .i64 z) ∧ inR z := by first | exact sub_i (f_int3 ((hfa 2 _ rfl).trans (hz 2 (by decide)))) | exact sub_i (f_int2 ((hfa 2 _ rfl).trans (hz 2 (by decide))))
  have k22 : ∃ z, l[22]? = some (.int .i64 z) ∧ inR z := by first | exact sub_i (f_int3 ((hfa 3 _ rfl).trans (hz 3 (by decide)))) | exact sub_i (f_int2 ((hfa 3 _ rfl).trans (hz 3 (by decide))))
  have k23 : ∃ z, l[23]? = some (.int .i64 z) ∧ inR z := by first | exact sub_i (f_int3 ((hfa 4 _ rfl).trans (hz 4 (by decide)))) | exact sub_i (f_int2 ((hfa 4 _ rfl).trans (hz 4 (by decide))))
  have k24 : ∃ z, l[24]? = some (.int .i64 z) ∧ inR z := by first | exact sub_i (f_int3 ((hfa 5 _ rfl).trans (hz 5 (by decide)))) | exact sub_i (f_int2 ((hfa 5 _ rfl).trans (hz 5 (by decide))))
  obtain ⟨c0, e0, r0⟩ := k0
  obtain ⟨c1, e1, r1⟩ := k1
  obtain ⟨c2, e2, r2⟩ := k2
  obtain ⟨c3, e3, r3⟩ := k3
  obtain ⟨c4, e4, r4⟩ := k4
  obtain ⟨c5, e5, r5⟩ := k5
  obtain ⟨c6, e6, r6⟩ := k6
  obtain ⟨c7, e7, r7⟩ := k7
  obtain ⟨c8, e8, r8⟩ := k8
  obtain ⟨c9, e9, r9⟩ := k9
  obtain ⟨c10, e10, r10⟩ := k10
  obtain ⟨c11, e11, r11⟩ := k11
  obtain ⟨c12, e12, r12⟩ := k12
  obtain ⟨c13, e13, r13⟩ := k13
  obtain ⟨c14, e14, r14⟩ := k14
  obtain ⟨c15, e15, r15⟩ := k15
  obtain ⟨c16, e16, r16⟩ := k16
  obtain ⟨c17, e17, r17⟩ := k17
  obtain ⟨c18, e18, r18⟩ := k18
  obtain ⟨c19, e19, r19⟩ := k19
  obtain ⟨c20, e20, r20⟩ := k20
  obtain ⟨c21, e21, r21⟩ := k21
  obtain ⟨c22, e22, r22⟩ := k22
  obtain ⟨c23, e23, r23⟩ := k23
  obtain ⟨c24, e24, r24⟩ := k24
  have hcl : l.length = 25 := hsz
  refine ⟨⟨c0, fun i => if i = 0 then c1 else if i = 1 then c2 else if i = 3 then c3 else if i = 7 then c7 else if i = 8 then c8 else if i = 9 then c9 else if i = 10 then c10 else if i = 11 then c11 else if i = 12 then c12 else if i = 13 then c13 else if i = 17 then c14 else if i = 14 then c15 else if i = 15 then c16 else if i = 16 then c17 else if i = 19 then c20 else if i = 20 then c21 else if i = 21 then c22 else if i = 22 then c23 else if i = 23 then c24 else 0, fun i => if i = 4 then c4 else if i = 5 then c5 else if i = 6 then c6 else if i = 2 then c18 else if i = 18 then c19 else ⟨#[]⟩⟩, ?_, ⟨r0.1, r0.2, ?_, ?_, ?_⟩⟩
  · skip
    apply List.ext_getElem?
    intro i
    by_cases hi : i < 25
    · have hc25 : i = 0 ∨ i = 1 ∨ i = 2 ∨ i = 3 ∨ i = 4 ∨ i = 5 ∨ i = 6 ∨ i = 7 ∨ i = 8 ∨ i = 9 ∨ i = 10 ∨ i = 11 ∨ i = 12 ∨ i = 13 ∨ i = 14 ∨ i = 15 ∨ i = 16 ∨ i = 17 ∨ i = 18 ∨ i = 19 ∨ i = 20 ∨ i = 21 ∨ i = 22 ∨ i = 23 ∨ i = 24 := by omega
      rcases hc25 with rfl | rfl | rfl | rfl | rfl | rfl | rfl | rfl | rfl | rfl | rfl | rfl | rfl | rfl | rfl | rfl | rfl | rfl | rfl | rfl | rfl | rfl | rfl | rfl | rfl
      all_goals first | exact e0 | exact e1 | exact e2 | exact e3 | exact e4 | exact e5 | exact e6 | exact e7 | exact e8 | exact e9 | exact e10 | exact e11 | exact e12 | exact e13 | exact e14 | exact e15 | exact e16 | exact e17 | exact e18 | exact e19 | exact e20 | exact e21 | exact e22 | exact e23 | exact e24
    · rw [List.getElem?_eq_none (by omega), List.getElem?_eq_none (by show 25 ≤ i; omega)]
  · intro i hi
    rcases cases24 hi with rfl | rfl | rfl | rfl | rfl | rfl | rfl | rfl | rfl | rfl | rfl | rfl | rfl | rfl | rfl | rfl | rfl | rfl | rfl | rfl | rfl | rfl | rfl | rfl
    all_goals first | exact r1.1 | exact r2.1 | exact r3.1 | exact r7.1 | exact r8.1 | exact r9.1 | exact r10.1 | exact r11.1 | exact r12.1 | exact r13.1 | exact r14.1 | exact r15.1 | exact r16.1 | exact r17.1 | exact r20.1 | exact r21.1 | exact r22.1 | exact r23.1 | exact r24.1 | (show -9223372036854775808 ≤ (0 : Int); decide)
  · intro i hi
    rcases cases24 hi with rfl | rfl | rfl | rfl | rfl | rfl | rfl | rfl | rfl | rfl | rfl | rfl | rfl | rfl | rfl | rfl | rfl | rfl | rfl | rfl | rfl | rfl | rfl | rfl
    all_goals first | exact r1.2 | exact r2.2 | exact r3.2 | exact r7.2 | exact r8.2 | exact r9.2 | exact r10.2 | exact r11.2 | exact r12.2 | exact r13.2 | exact r14.2 | exact r15.2 | exact r16.2 | exact r17.2 | exact r20.2 | exact r21.2 | exact r22.2 | exact r23.2 | exact r24.2 | (show (0 : Int) ≤ 9223372036854775807; decide)
  · intro i hi
    rcases cases24 hi with rfl | rfl | rfl | rfl | rfl | rfl | rfl | rfl | rfl | rfl | rfl | rfl | rfl | rfl | rfl | rfl | rfl | rfl | rfl | rfl | rfl | rfl | rfl | rfl
    all_goals first | exact r4 | exact r5 | exact r6 | exact r18 | exact r19 | (show 0 ≤ maxLen; exact Nat.zero_le _)
end
theorem open_cmds {H : Type} {enc : TypeId × Value → H} {W : World} {a : Option Addr} {len cap fuel : Nat} {x : DataW H × List MemPlace} (h : DataW.trod enc Try.prog W 0 (fun _ => true) true fuel 38 [.slice a len cap] = some x) :
    ∃ t : Nat → Cm, SrcC W a len t ∧ len ≤ maxLen := by
  rcases open_slice Try.underlying38 h with ⟨hcs, _⟩ | ⟨a', len', cap', m, n, D, Pl, hcs, hb, hl, hm, hmm, hx, hall⟩
  · simp at hcs
    obtain ⟨rfl, rfl, rfl⟩ := hcs
    exact ⟨fun _ => zeroC, .inl rfl, by decide⟩
  · simp at hcs
    obtain ⟨rfl, rfl, rfl⟩ := hcs
    have hlm : len ≤ m := by rw [hmm]; split <;> omega
    have hmx : len ≤ maxLen := Nat.le_trans hl hm
    by_cases h0 : len = 0
    · exact ⟨fun _ => zeroC, .inl h0, hmx⟩
    · have each : ∀ i, i < len → ∃ (cs' : List Value) (p : Cm), W.cells? 0 (a'.add (i * 25)) 25 = some cs' ∧ cs'.length = 25 ∧ (∀ q (hq : q < 25), ∃ v, cs'[q]? = some v ∧ W.cell? ((a'.add (i * 25)).add q) = some v) ∧ cs' = p.cs.toList ∧ p.ok := fun i hi => by
        obtain ⟨cs', h1, h2⟩ := hall i (by omega)
        rw [show Try.prog.cellsOf 27 = 25 by kernel_rfl] at h1
        obtain ⟨_, hlen, hcell⟩ := World.cells?_some h1
        obtain ⟨p, hp1, hp2⟩ := open_cmdL hlen h2
        exact ⟨cs', p, h1, hlen, fun q hq => ⟨_, List.getElem?_eq_getElem (by omega), (hcell q (by omega)).trans (List.getElem?_eq_getElem (by omega))⟩, hp1, hp2⟩
      obtain ⟨b, off, spot⟩ := a'
      have hs : spot = none := by
        obtain ⟨cs', _, _, _, hc, _⟩ := each 0 (by omega)
        obtain ⟨v, _, h1⟩ := hc 0 (by decide)
        cases spot with
        | none => rfl
        | some s =>
          simp [Addr.add, World.cell?] at h1
          split at h1 <;> simp at h1
      subst hs
      have every : ∀ i, ∃ p : Cm, i < len → W.rangeAt b (off + i * 25) p.cs.toList ∧ p.ok := fun i => by
        by_cases hi : i < len
        · obtain ⟨cs', p, e1, e2, e3, e4, e5⟩ := each i hi
          refine ⟨p, fun _ => ⟨fun q v hv => ?_, e5⟩⟩
          rw [← e4] at hv
          have hq : q < 25 := by have := (List.getElem?_eq_some_iff.1 hv).1; omega
          obtain ⟨v', g1, g2⟩ := e3 q hq
          have : v = v' := by
            rw [hv] at g1
            exact Option.some.inj g1
          subst this
          rw [Addr.add_mid, Addr.add_mid] at g2
          exact g2
        · exact ⟨zeroC, fun h => absurd h hi⟩
      exact ⟨fun i => Classical.choose (every i), .inr ⟨b, off, rfl, fun i hi => Classical.choose_spec (every i) hi⟩, hmx⟩
end Go.Proofs.Ytjnnecoikcmaeaa
