import Derived.Test.YtkpoheknmcepnaaGreatDoorMsgValid
import Derived.ProofKit
import Derived.OpenShut
import Derived.WideShapes
import Derived.Below
import Derived.Carry
import Derived.Test.YtkpoheknmcepnaaGreatDoorFrIn
import Derived.Test.YtkpoheknmcepnaaGreatDoorFrG
import Derived.Test.YtkpoheknmcepnaaGreatDoorMsgShown
import Derived.Deep.Slices

namespace Go.Proofs.YtkpoheknmcepnaaGreatDoor
set_option linter.unusedVariables false
open Go.ChangeShapes Go.WideShapes Go.ChangeAt Go.RowKit

def cellZ (v : Option Value) : Int := match v with | some (.int _ z) => z | _ => 0
def cellS (v : Option Value) : ByteArray := match v with | some (.string s) => s | _ => ⟨#[]⟩
def cellB (v : Option Value) : Bool := match v with | some (.bool b) => b | _ => false
def msgOf (cs : Array Value) : Msg := ⟨fun i => cellZ cs[i]?, fun i => cellS cs[i]?, fun i => cellB cs[i]?⟩
def inR (z : Int) : Prop := -9223372036854775808 ≤ z ∧ z ≤ 9223372036854775807
theorem wf_in {z : Int} (h : (Lit.int .i64 z).wf = true) : inR z := by
  exact bounds_i64 h
section
variable {H : Type} {enc : TypeId × Value → H} {W : World} {base : Nat} {sp : Nat → Bool} {held : Bool}
theorem one_at {l : List Value} {i : Nat} {v : Value} (h : (l.drop i).take 1 = [v]) : l[i]? = some v := by
  have := congrArg (·[0]?) h
  simpa [List.getElem?_take, List.getElem?_drop] using this
theorem f_int3 {n i : Nat} {l : List Value} {x : DataW H × List MemPlace} (h : DataW.trod enc Tryz.prog W base sp held n 3 ((l.drop i).take (Tryz.prog.cellsOf 3)) = some x) : ∃ z, l[i]? = some (.int .i64 z) ∧ inR z := by
  rw [show Tryz.prog.cellsOf 3 = 1 by kernel_rfl] at h
  obtain ⟨z, hc, _, hw⟩ := DataW.trod_int Tryz.underlying3 h
  exact ⟨z, one_at hc, wf_in hw⟩
theorem f_int2 {n i : Nat} {l : List Value} {x : DataW H × List MemPlace} (h : DataW.trod enc Tryz.prog W base sp held n 2 ((l.drop i).take (Tryz.prog.cellsOf 2)) = some x) : ∃ z, l[i]? = some (.int .i64 z) ∧ inR z := by
  rw [show Tryz.prog.cellsOf 2 = 1 by kernel_rfl] at h
  obtain ⟨z, hc, _, hw⟩ := DataW.trod_int Tryz.underlying2 h
  exact ⟨z, one_at hc, wf_in hw⟩
theorem f_str {n i : Nat} {l : List Value} {x : DataW H × List MemPlace} (h : DataW.trod enc Tryz.prog W base sp held n 9 ((l.drop i).take (Tryz.prog.cellsOf 9)) = some x) : ∃ s : ByteArray, l[i]? = some (.string s) ∧ s.size ≤ maxLen := by
  rw [show Tryz.prog.cellsOf 9 = 1 by kernel_rfl] at h
  obtain ⟨s, hc, _, hw⟩ := DataW.trod_string Tryz.underlying9 h
  exact ⟨s, one_at hc, hw⟩
theorem f_boo {n i : Nat} {l : List Value} {x : DataW H × List MemPlace} (h : DataW.trod enc Tryz.prog W base sp held n 4 ((l.drop i).take (Tryz.prog.cellsOf 4)) = some x) : ∃ b, l[i]? = some (.bool b) := by
  rw [show Tryz.prog.cellsOf 4 = 1 by kernel_rfl] at h
  obtain ⟨b, hc, _⟩ := DataW.trod_bool Tryz.underlying4 h
  exact ⟨b, one_at hc⟩
theorem mk_int {cs : Array Value} {i : Nat} (hs : isStr i = false) (hb : isBoo i = false) (h : ∃ z, cs.toList[i]? = some (.int .i64 z) ∧ inR z) : cs[i]? = some ((msgOf cs).cell i) ∧ inR ((msgOf cs).z i) ∧ ((msgOf cs).s i).size ≤ maxLen := by
  obtain ⟨z, h1, h2⟩ := h
  have h1' : cs[i]? = some (.int .i64 z) := by simpa using h1
  refine ⟨?_, ?_, ?_⟩
  · simp [msgOf, Msg.cell, hs, hb, h1', cellZ]
  · simpa [msgOf, h1', cellZ] using h2
  · simp only [msgOf, h1', cellS]; exact Nat.zero_le _
theorem mk_str {cs : Array Value} {i : Nat} (hs : isStr i = true) (h : ∃ s : ByteArray, cs.toList[i]? = some (.string s) ∧ s.size ≤ maxLen) : cs[i]? = some ((msgOf cs).cell i) ∧ inR ((msgOf cs).z i) ∧ ((msgOf cs).s i).size ≤ maxLen := by
  obtain ⟨s, h1, h2⟩ := h
  have h1' : cs[i]? = some (.string s) := by simpa using h1
  refine ⟨?_, ?_, ?_⟩
  · simp [msgOf, Msg.cell, hs, h1', cellS]
  · simp [msgOf, h1', cellZ, inR]
  · simpa [msgOf, h1', cellS] using h2
theorem mk_boo {cs : Array Value} {i : Nat} (hs : isStr i = false) (hb : isBoo i = true) (h : ∃ b, cs.toList[i]? = some (.bool b)) : cs[i]? = some ((msgOf cs).cell i) ∧ inR ((msgOf cs).z i) ∧ ((msgOf cs).s i).size ≤ maxLen := by
  obtain ⟨b, h1⟩ := h
  have h1' : cs[i]? = some (.bool b) := by simpa using h1
  refine ⟨?_, ?_, ?_⟩
  · simp [msgOf, Msg.cell, hs, hb, h1', cellB]
  · simp [msgOf, h1', cellZ, inR]
  · simp only [msgOf, h1', cellS]; exact Nat.zero_le _
set_option maxRecDepth 100000 in
theorem open_msg {r : Reach} {b0 : Nat} {v : Value} {d : DataW H} {p : List MemPlace} (hv : Value.okWide Tryz.prog W r b0 43 v) (h : DataW.Trod enc Tryz.prog W base sp held 43 v d p) :
    ∃ M : Msg, v = .agg M.cs ∧ M.ok ∧ M.okS := by
  obtain ⟨cs, rfl, hsz⟩ := okWide_struct Tryz.underlying43 hv
  rw [show Tryz.prog.cellsOf 43 = 42 by kernel_rfl] at hsz
  obtain ⟨fuel, hf⟩ := h
  obtain ⟨xs, n, _, _, _, hlen, hfl⟩ := DataW.trod_struct Tryz.underlying43 hf
  have hlen' : xs.length = 42 := hlen
  have hx : ∀ i, i < 42 → ∃ x, xs[i]? = some x := fun i hi => ⟨xs[i], List.getElem?_eq_getElem (by omega)⟩
  have hfl' : ∀ (i : Nat) (f : Field), _ := hfl
  have key : ∀ i, i < 42 → cs[i]? = some ((msgOf cs).cell i) ∧ inR ((msgOf cs).z i) ∧ ((msgOf cs).s i).size ≤ maxLen := fun i hi => by
    obtain ⟨x, hx⟩ := hx i hi
    rcases cases42 hi with rfl | rfl | rfl | rfl | rfl | rfl | rfl | rfl | rfl | rfl | rfl | rfl | rfl | rfl | rfl | rfl | rfl | rfl | rfl | rfl | rfl | rfl | rfl | rfl | rfl | rfl | rfl | rfl | rfl | rfl | rfl | rfl | rfl | rfl | rfl | rfl | rfl | rfl | rfl | rfl | rfl | rfl
    · exact mk_int rfl rfl (f_int3 ((hfl 0 _ rfl).trans hx))
    · exact mk_str rfl (f_str ((hfl 1 _ rfl).trans hx))
    · exact mk_str rfl (f_str ((hfl 2 _ rfl).trans hx))
    · exact mk_int rfl rfl (f_int3 ((hfl 3 _ rfl).trans hx))
    · exact mk_boo rfl rfl (f_boo ((hfl 4 _ rfl).trans hx))
    · exact mk_int rfl rfl (f_int2 ((hfl 5 _ rfl).trans hx))
    · exact mk_int rfl rfl (f_int2 ((hfl 6 _ rfl).trans hx))
    · exact mk_int rfl rfl (f_int3 ((hfl 7 _ rfl).trans hx))
    · exact mk_boo rfl rfl (f_boo ((hfl 8 _ rfl).trans hx))
    · exact mk_str rfl (f_str ((hfl 9 _ rfl).trans hx))
    · exact mk_int rfl rfl (f_int3 ((hfl 10 _ rfl).trans hx))
    · exact mk_int rfl rfl (f_int3 ((hfl 11 _ rfl).trans hx))
    · exact mk_int rfl rfl (f_int3 ((hfl 12 _ rfl).trans hx))
    · exact mk_boo rfl rfl (f_boo ((hfl 13 _ rfl).trans hx))
    · exact mk_int rfl rfl (f_int3 ((hfl 14 _ rfl).trans hx))
    · exact mk_int rfl rfl (f_int3 ((hfl 15 _ rfl).trans hx))
    · exact mk_int rfl rfl (f_int3 ((hfl 16 _ rfl).trans hx))
    · exact mk_int rfl rfl (f_int3 ((hfl 17 _ rfl).trans hx))
    · exact mk_str rfl (f_str ((hfl 18 _ rfl).trans hx))
    · exact mk_str rfl (f_str ((hfl 19 _ rfl).trans hx))
    · exact mk_str rfl (f_str ((hfl 20 _ rfl).trans hx))
    · exact mk_str rfl (f_str ((hfl 21 _ rfl).trans hx))
    · exact mk_str rfl (f_str ((hfl 22 _ rfl).trans hx))
    · exact mk_int rfl rfl (f_int3 ((hfl 23 _ rfl).trans hx))
    · exact mk_int rfl rfl (f_int3 ((hfl 24 _ rfl).trans hx))
    · exact mk_int rfl rfl (f_int3 ((hfl 25 _ rfl).trans hx))
    · exact mk_int rfl rfl (f_int2 ((hfl 26 _ rfl).trans hx))
    · exact mk_int rfl rfl (f_int2 ((hfl 27 _ rfl).trans hx))
    · exact mk_int rfl rfl (f_int2 ((hfl 28 _ rfl).trans hx))
    · exact mk_int rfl rfl (f_int2 ((hfl 29 _ rfl).trans hx))
    · exact mk_int rfl rfl (f_int2 ((hfl 30 _ rfl).trans hx))
    · exact mk_int rfl rfl (f_int3 ((hfl 31 _ rfl).trans hx))
    · exact mk_int rfl rfl (f_int3 ((hfl 32 _ rfl).trans hx))
    · exact mk_int rfl rfl (f_int3 ((hfl 33 _ rfl).trans hx))
    · exact mk_int rfl rfl (f_int3 ((hfl 34 _ rfl).trans hx))
    · exact mk_int rfl rfl (f_int3 ((hfl 35 _ rfl).trans hx))
    · exact mk_int rfl rfl (f_int2 ((hfl 36 _ rfl).trans hx))
    · exact mk_int rfl rfl (f_int2 ((hfl 37 _ rfl).trans hx))
    · exact mk_int rfl rfl (f_int2 ((hfl 38 _ rfl).trans hx))
    · exact mk_int rfl rfl (f_int2 ((hfl 39 _ rfl).trans hx))
    · exact mk_int rfl rfl (f_int3 ((hfl 40 _ rfl).trans hx))
    · exact mk_int rfl rfl (f_int3 ((hfl 41 _ rfl).trans hx))
  have none_at : ∀ i, ¬ i < 42 → cs[i]? = none := fun i hi => Array.getElem?_eq_none (by omega)
  refine ⟨msgOf cs, ?_, fun i => ?_, fun i => ?_⟩
  · congr 1
    apply Array.ext_getElem?
    intro i
    by_cases hi : i < 42
    · rw [(key i hi).1, Msg.cs_get _ _ hi]
    · rw [none_at i hi, Array.getElem?_eq_none (by rw [Msg.cs_size]; omega)]
  · by_cases hi : i < 42
    · exact (key i hi).2.1
    · simp only [msgOf, none_at i hi, cellZ]; decide
  · by_cases hi : i < 42
    · exact (key i hi).2.2
    · simp only [msgOf, none_at i hi, cellS]; exact Nat.zero_le _
end

end Go.Proofs.YtkpoheknmcepnaaGreatDoor

namespace Go.Proofs.YtkpoheknmcepnaaGreatDoor
set_option linter.unusedVariables false
open Go.ChangeShapes Go.WideShapes Go.ChangeAt Go.RowKit Go.Deep

theorem cellsM : Tryz.prog.cellsOf 43 = 42 := by kernel_rfl
set_option maxRecDepth 100000 in
theorem open_msgL {H : Type} {enc : TypeId × Value → H} {W : World} {base : Nat} {sp : Nat → Bool} {held : Bool} {fuel : Nat} {cs : Array Value} {y : DataW H × List MemPlace} (hsz : cs.size = 42) (hf : DataW.trod enc Tryz.prog W base sp held fuel 43 cs.toList = some y) :
    (msgOf cs).cs = cs ∧ (msgOf cs).ok ∧ (msgOf cs).okS := by
  obtain ⟨xs, n, _, _, _, hlen, hfl⟩ := DataW.trod_struct Tryz.underlying43 hf
  have hlen' : xs.length = 42 := hlen
  have hx : ∀ i, i < 42 → ∃ x, xs[i]? = some x := fun i hi => ⟨xs[i], List.getElem?_eq_getElem (by omega)⟩
  have hfl' : ∀ (i : Nat) (f : Field), _ := hfl
  have key : ∀ i, i < 42 → cs[i]? = some ((msgOf cs).cell i) ∧ inR ((msgOf cs).z i) ∧ ((msgOf cs).s i).size ≤ maxLen := fun i hi => by
    obtain ⟨x, hx⟩ := hx i hi
    rcases cases42 hi with rfl | rfl | rfl | rfl | rfl | rfl | rfl | rfl | rfl | rfl | rfl | rfl | rfl | rfl | rfl | rfl | rfl | rfl | rfl | rfl | rfl | rfl | rfl | rfl | rfl | rfl | rfl | rfl | rfl | rfl | rfl | rfl | rfl | rfl | rfl | rfl | rfl | rfl | rfl | rfl | rfl | rfl
    · exact mk_int rfl rfl (f_int3 ((hfl 0 _ rfl).trans hx))
    · exact mk_str rfl (f_str ((hfl 1 _ rfl).trans hx))
    · exact mk_str rfl (f_str ((hfl 2 _ rfl).trans hx))
    · exact mk_int rfl rfl (f_int3 ((hfl 3 _ rfl).trans hx))
    · exact mk_boo rfl rfl (f_boo ((hfl 4 _ rfl).trans hx))
    · exact mk_int rfl rfl (f_int2 ((hfl 5 _ rfl).trans hx))
    · exact mk_int rfl rfl (f_int2 ((hfl 6 _ rfl).trans hx))
    · exact mk_int rfl rfl (f_int3 ((hfl 7 _ rfl).trans hx))
    · exact mk_boo rfl rfl (f_boo ((hfl 8 _ rfl).trans hx))
    · exact mk_str rfl (f_str ((hfl 9 _ rfl).trans hx))
    · exact mk_int rfl rfl (f_int3 ((hfl 10 _ rfl).trans hx))
    · exact mk_int rfl rfl (f_int3 ((hfl 11 _ rfl).trans hx))
    · exact mk_int rfl rfl (f_int3 ((hfl 12 _ rfl).trans hx))
    · exact mk_boo rfl rfl (f_boo ((hfl 13 _ rfl).trans hx))
    · exact mk_int rfl rfl (f_int3 ((hfl 14 _ rfl).trans hx))
    · exact mk_int rfl rfl (f_int3 ((hfl 15 _ rfl).trans hx))
    · exact mk_int rfl rfl (f_int3 ((hfl 16 _ rfl).trans hx))
    · exact mk_int rfl rfl (f_int3 ((hfl 17 _ rfl).trans hx))
    · exact mk_str rfl (f_str ((hfl 18 _ rfl).trans hx))
    · exact mk_str rfl (f_str ((hfl 19 _ rfl).trans hx))
    · exact mk_str rfl (f_str ((hfl 20 _ rfl).trans hx))
    · exact mk_str rfl (f_str ((hfl 21 _ rfl).trans hx))
    · exact mk_str rfl (f_str ((hfl 22 _ rfl).trans hx))
    · exact mk_int rfl rfl (f_int3 ((hfl 23 _ rfl).trans hx))
    · exact mk_int rfl rfl (f_int3 ((hfl 24 _ rfl).trans hx))
    · exact mk_int rfl rfl (f_int3 ((hfl 25 _ rfl).trans hx))
    · exact mk_int rfl rfl (f_int2 ((hfl 26 _ rfl).trans hx))
    · exact mk_int rfl rfl (f_int2 ((hfl 27 _ rfl).trans hx))
    · exact mk_int rfl rfl (f_int2 ((hfl 28 _ rfl).trans hx))
    · exact mk_int rfl rfl (f_int2 ((hfl 29 _ rfl).trans hx))
    · exact mk_int rfl rfl (f_int2 ((hfl 30 _ rfl).trans hx))
    · exact mk_int rfl rfl (f_int3 ((hfl 31 _ rfl).trans hx))
    · exact mk_int rfl rfl (f_int3 ((hfl 32 _ rfl).trans hx))
    · exact mk_int rfl rfl (f_int3 ((hfl 33 _ rfl).trans hx))
    · exact mk_int rfl rfl (f_int3 ((hfl 34 _ rfl).trans hx))
    · exact mk_int rfl rfl (f_int3 ((hfl 35 _ rfl).trans hx))
    · exact mk_int rfl rfl (f_int2 ((hfl 36 _ rfl).trans hx))
    · exact mk_int rfl rfl (f_int2 ((hfl 37 _ rfl).trans hx))
    · exact mk_int rfl rfl (f_int2 ((hfl 38 _ rfl).trans hx))
    · exact mk_int rfl rfl (f_int2 ((hfl 39 _ rfl).trans hx))
    · exact mk_int rfl rfl (f_int3 ((hfl 40 _ rfl).trans hx))
    · exact mk_int rfl rfl (f_int3 ((hfl 41 _ rfl).trans hx))
  have none_at : ∀ i, ¬ i < 42 → cs[i]? = none := fun i hi => Array.getElem?_eq_none (by omega)
  refine ⟨?_, fun i => ?_, fun i => ?_⟩
  · apply Array.ext_getElem?
    intro i
    by_cases hi : i < 42
    · rw [(key i hi).1, Msg.cs_get _ _ hi]
    · rw [none_at i hi, Array.getElem?_eq_none (by rw [Msg.cs_size]; omega)]
  · by_cases hi : i < 42
    · exact (key i hi).2.1
    · simp only [msgOf, none_at i hi, cellZ]; decide
  · by_cases hi : i < 42
    · exact (key i hi).2.2
    · simp only [msgOf, none_at i hi, cellS]; exact Nat.zero_le _
theorem open_msgs {H : Type} {enc : TypeId × Value → H} {W : World} {a : Option Addr} {len cap fuel : Nat} {x : DataW H × List MemPlace} (h : DataW.trod enc Tryz.prog W 0 (fun _ => true) true fuel 38 [.slice a len cap] = some x) :
    ∃ Ms : Nat → Msg, MsgsIn W a len Ms := by
  rcases open_slice Tryz.underlying38 h with ⟨hcs, _⟩ | ⟨a', len', cap', m, n, D, Pl, hcs, hb, hl, hm, hmm, hx, hall⟩
  · simp at hcs
    obtain ⟨rfl, rfl, rfl⟩ := hcs
    exact ⟨fun _ => zeroM, .inl rfl⟩
  · simp at hcs
    obtain ⟨rfl, rfl, rfl⟩ := hcs
    have hlm : len ≤ m := by rw [hmm]; split <;> omega
    refine ⟨fun i => msgOf ((W.cells? 0 (a'.add (i * 42)) 42).getD []).toArray, ?_⟩
    by_cases h0 : len = 0
    · exact .inl h0
    · have each : ∀ i, i < len → ∃ cs' : List Value, W.cells? 0 (a'.add (i * 42)) 42 = some cs' ∧ cs'.length = 42 ∧ (∀ q (hq : q < 42), ∃ v, cs'[q]? = some v ∧ W.cell? ((a'.add (i * 42)).add q) = some v) ∧ (msgOf cs'.toArray).cs = cs'.toArray ∧ (msgOf cs'.toArray).ok ∧ (msgOf cs'.toArray).okS := fun i hi => by
        obtain ⟨cs', h1, h2⟩ := hall i (by omega)
        rw [cellsM] at h1
        obtain ⟨_, hlen, hcell⟩ := World.cells?_some h1
        refine ⟨cs', h1, hlen, fun q hq => ⟨_, List.getElem?_eq_getElem (by omega), (hcell q (by omega)).trans (List.getElem?_eq_getElem (by omega))⟩, open_msgL (by simpa using hlen) h2⟩
      obtain ⟨b, off, spot⟩ := a'
      have hs : spot = none := by
        obtain ⟨cs', _, _, hc, _⟩ := each 0 (by omega)
        obtain ⟨v, _, h1⟩ := hc 0 (by decide)
        cases spot with
        | none => rfl
        | some s =>
          simp [Addr.add, World.cell?] at h1
          split at h1 <;> simp at h1
      subst hs
      refine .inr ⟨b, off, rfl, fun i hi => ?_⟩
      obtain ⟨cs', e1, e2, e3, e4, e5, e6⟩ := each i hi
      simp only [e1, Option.getD_some]
      refine ⟨fun q v hv => ?_, e5, e6⟩
      rw [e4] at hv
      have hq : q < 42 := by have := (List.getElem?_eq_some_iff.1 hv).1; simp at this; omega
      obtain ⟨v', g1, g2⟩ := e3 q hq
      have : v = v' := by
        have hv' : cs'[q]? = some v := by simpa using hv
        rw [hv'] at g1
        exact Option.some.inj g1
      subst this
      rw [addr_add, addr_add] at g2
      exact g2
end Go.Proofs.YtkpoheknmcepnaaGreatDoor
