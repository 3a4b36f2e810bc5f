/-
  From a row's datum to a message.
-/
import Derived.Test.YtekkckfoikpljaaSMsg
import Derived.ProofKit
import Derived.OpenShut
import Derived.WideShapes
import Derived.Below
import Derived.Carry
namespace Go.Proofs.Ytekkckfoikpljaa
set_option linter.unusedVariables false
open Go.ChangeShapes Go.WideShapes Go.ChangeAt Go.RowKit

/-- Numbers are numbers of 64 bits. -/
def Msg.ok (M : Msg) : Prop := ∀ i, -9223372036854775808 ≤ M.z i ∧ M.z i ≤ 9223372036854775807
def Msg.okS (M : Msg) : Prop := ∀ i, (M.s i).size ≤ maxLen
def cellZ (v : Option Value) : Int := match v with | some (.int _ z) => z | _ => 0
def cellS (v : Option Value) : ByteArray := match v with | some (.string s) => s | _ => ⟨#[]⟩
def cellB (v : Option Value) : Bool := match v with | some (.bool b) => b | _ => false
def msgOf (cs : Array Value) : Msg := ⟨fun i => cellZ cs[i]?, fun i => cellS cs[i]?, fun i => cellB cs[i]?⟩
def inR (z : Int) : Prop := -9223372036854775808 ≤ z ∧ z ≤ 9223372036854775807
theorem wf_in {z : Int} (h : (Lit.int .i64 z).wf = true) : inR z := by
  exact bounds_i64 h
section
variable {H : Type} {enc : TypeId × Value → H} {W : World} {base : Nat} {sp : Nat → Bool} {held : Bool}
theorem one_at {l : List Value} {i : Nat} {v : Value} (h : (l.drop i).take 1 = [v]) : l[i]? = some v := by
  have := congrArg (·[0]?) h
  simpa [List.getElem?_take, List.getElem?_drop] using this
theorem f_int3 {n i : Nat} {l : List Value} {x : DataW H × List MemPlace} (h : DataW.trod enc Try.prog W base sp held n 3 ((l.drop i).take (Try.prog.cellsOf 3)) = some x) : ∃ z, l[i]? = some (.int .i64 z) ∧ inR z := by
  rw [show Try.prog.cellsOf 3 = 1 by kernel_rfl] at h
  obtain ⟨z, hc, _, hw⟩ := DataW.trod_int Try.underlying3 h
  exact ⟨z, one_at hc, wf_in hw⟩
theorem f_int2 {n i : Nat} {l : List Value} {x : DataW H × List MemPlace} (h : DataW.trod enc Try.prog W base sp held n 2 ((l.drop i).take (Try.prog.cellsOf 2)) = some x) : ∃ z, l[i]? = some (.int .i64 z) ∧ inR z := by
  rw [show Try.prog.cellsOf 2 = 1 by kernel_rfl] at h
  obtain ⟨z, hc, _, hw⟩ := DataW.trod_int Try.underlying2 h
  exact ⟨z, one_at hc, wf_in hw⟩
theorem f_str {n i : Nat} {l : List Value} {x : DataW H × List MemPlace} (h : DataW.trod enc Try.prog W base sp held n 9 ((l.drop i).take (Try.prog.cellsOf 9)) = some x) : ∃ s : ByteArray, l[i]? = some (.string s) ∧ s.size ≤ maxLen := by
  rw [show Try.prog.cellsOf 9 = 1 by kernel_rfl] at h
  obtain ⟨s, hc, _, hw⟩ := DataW.trod_string Try.underlying9 h
  exact ⟨s, one_at hc, hw⟩
theorem f_boo {n i : Nat} {l : List Value} {x : DataW H × List MemPlace} (h : DataW.trod enc Try.prog W base sp held n 4 ((l.drop i).take (Try.prog.cellsOf 4)) = some x) : ∃ b, l[i]? = some (.bool b) := by
  rw [show Try.prog.cellsOf 4 = 1 by kernel_rfl] at h
  obtain ⟨b, hc, _⟩ := DataW.trod_bool Try.underlying4 h
  exact ⟨b, one_at hc⟩
theorem mk_int {cs : Array Value} {i : Nat} (hs : isStr i = false) (hb : isBoo i = false) (h : ∃ z, cs.toList[i]? = some (.int .i64 z) ∧ inR z) : cs[i]? = some ((msgOf cs).cell i) ∧ inR ((msgOf cs).z i) ∧ ((msgOf cs).s i).size ≤ maxLen := by
  obtain ⟨z, h1, h2⟩ := h
  have h1' : cs[i]? = some (.int .i64 z) := by simpa using h1
  refine ⟨?_, ?_, ?_⟩
  · simp [msgOf, Msg.cell, hs, hb, h1', cellZ]
  · simpa [msgOf, h1', cellZ] using h2
  · simp only [msgOf, h1', cellS]; exact Nat.zero_le _
theorem mk_str {cs : Array Value} {i : Nat} (hs : isStr i = true) (h : ∃ s : ByteArray, cs.toList[i]? = some (.string s) ∧ s.size ≤ maxLen) : cs[i]? = some ((msgOf cs).cell i) ∧ inR ((msgOf cs).z i) ∧ ((msgOf cs).s i).size ≤ maxLen := by
  obtain ⟨s, h1, h2⟩ := h
  have h1' : cs[i]? = some (.string s) := by simpa using h1
  refine ⟨?_, ?_, ?_⟩
  · simp [msgOf, Msg.cell, hs, h1', cellS]
  · simp [msgOf, h1', cellZ, inR]
  · simpa [msgOf, h1', cellS] using h2
theorem mk_boo {cs : Array Value} {i : Nat} (hs : isStr i = false) (hb : isBoo i = true) (h : ∃ b, cs.toList[i]? = some (.bool b)) : cs[i]? = some ((msgOf cs).cell i) ∧ inR ((msgOf cs).z i) ∧ ((msgOf cs).s i).size ≤ maxLen := by
  obtain ⟨b, h1⟩ := h
  have h1' : cs[i]? = some (.bool b) := by simpa using h1
  refine ⟨?_, ?_, ?_⟩
  · simp [msgOf, Msg.cell, hs, hb, h1', cellB]
  · simp [msgOf, h1', cellZ, inR]
  · simp only [msgOf, h1', cellS]; exact Nat.zero_le _
set_option maxRecDepth 100000 in
theorem open_msg {r : Reach} {b0 : Nat} {v : Value} {d : DataW H} {p : List MemPlace} (hv : Value.okWide Try.prog W r b0 34 v) (h : DataW.Trod enc Try.prog W base sp held 34 v d p) :
    ∃ M : Msg, v = .agg M.cs ∧ M.ok ∧ M.okS := by
  obtain ⟨cs, rfl, hsz⟩ := okWide_struct Try.underlying34 hv
  rw [show Try.prog.cellsOf 34 = 42 by kernel_rfl] at hsz
  obtain ⟨fuel, hf⟩ := h
  obtain ⟨xs, n, _, _, _, hlen, hfl⟩ := DataW.trod_struct Try.underlying34 hf
  have hlen' : xs.length = 42 := hlen
  have hx : ∀ i, i < 42 → ∃ x, xs[i]? = some x := fun i hi => ⟨xs[i], List.getElem?_eq_getElem (by omega)⟩
  have hfl' : ∀ (i : Nat) (f : Field), _ := hfl
  have key : ∀ i, i < 42 → cs[i]? = some ((msgOf cs).cell i) ∧ inR ((msgOf cs).z i) ∧ ((msgOf cs).s i).size ≤ maxLen := fun i hi => by
    obtain ⟨x, hx⟩ := hx i hi
    rcases cases42 hi with rfl | rfl | rfl | rfl | rfl | rfl | rfl | rfl | rfl | rfl | rfl | rfl | rfl | rfl | rfl | rfl | rfl | rfl | rfl | rfl | rfl | rfl | rfl | rfl | rfl | rfl | rfl | rfl | rfl | rfl | rfl | rfl | rfl | rfl | rfl | rfl | rfl | rfl | rfl | rfl | rfl | rfl
    · exact mk_int rfl rfl (f_int3 ((hfl 0 _ rfl).trans hx))
    · exact mk_str rfl (f_str ((hfl 1 _ rfl).trans hx))
    · exact mk_str rfl (f_str ((hfl 2 _ rfl).trans hx))
    · exact mk_int rfl rfl (f_int3 ((hfl 3 _ rfl).trans hx))
    · exact mk_boo rfl rfl (f_boo ((hfl 4 _ rfl).trans hx))
    · exact mk_int rfl rfl (f_int2 ((hfl 5 _ rfl).trans hx))
    · exact mk_int rfl rfl (f_int2 ((hfl 6 _ rfl).trans hx))
    · exact mk_int rfl rfl (f_int3 ((hfl 7 _ rfl).trans hx))
    · exact mk_boo rfl rfl (f_boo ((hfl 8 _ rfl).trans hx))
    · exact mk_str rfl (f_str ((hfl 9 _ rfl).trans hx))
    · exact mk_int rfl rfl (f_int3 ((hfl 10 _ rfl).trans hx))
    · exact mk_int rfl rfl (f_int3 ((hfl 11 _ rfl).trans hx))
    · exact mk_int rfl rfl (f_int3 ((hfl 12 _ rfl).trans hx))
    · exact mk_boo rfl rfl (f_boo ((hfl 13 _ rfl).trans hx))
    · exact mk_int rfl rfl (f_int3 ((hfl 14 _ rfl).trans hx))
    · exact mk_int rfl rfl (f_int3 ((hfl 15 _ rfl).trans hx))
    · exact mk_int rfl rfl (f_int3 ((hfl 16 _ rfl).trans hx))
    · exact mk_int rfl rfl (f_int3 ((hfl 17 _ rfl).trans hx))
    · exact mk_str rfl (f_str ((hfl 18 _ rfl).trans hx))
    · exact mk_str rfl (f_str ((hfl 19 _ rfl).trans hx))
    · exact mk_str rfl (f_str ((hfl 20 _ rfl).trans hx))
    · exact mk_str rfl (f_str ((hfl 21 _ rfl).trans hx))
    · exact mk_str rfl (f_str ((hfl 22 _ rfl).trans hx))
    · exact mk_int rfl rfl (f_int3 ((hfl 23 _ rfl).trans hx))
    · exact mk_int rfl rfl (f_int3 ((hfl 24 _ rfl).trans hx))
    · exact mk_int rfl rfl (f_int3 ((hfl 25 _ rfl).trans hx))
    · exact mk_int rfl rfl (f_int2 ((hfl 26 _ rfl).trans hx))
    · exact mk_int rfl rfl (f_int2 ((hfl 27 _ rfl).trans hx))
    · exact mk_int rfl rfl (f_int2 ((hfl 28 _ rfl).trans hx))
    · exact mk_int rfl rfl (f_int2 ((hfl 29 _ rfl).trans hx))
    · exact mk_int rfl rfl (f_int2 ((hfl 30 _ rfl).trans hx))
    · exact mk_int rfl rfl (f_int3 ((hfl 31 _ rfl).trans hx))
    · exact mk_int rfl rfl (f_int3 ((hfl 32 _ rfl).trans hx))
    · exact mk_int rfl rfl (f_int3 ((hfl 33 _ rfl).trans hx))
    · exact mk_int rfl rfl (f_int3 ((hfl 34 _ rfl).trans hx))
    · exact mk_int rfl rfl (f_int3 ((hfl 35 _ rfl).trans hx))
    · exact mk_int rfl rfl (f_int2 ((hfl 36 _ rfl).trans hx))
    · exact mk_int rfl rfl (f_int2 ((hfl 37 _ rfl).trans hx))
    · exact mk_int rfl rfl (f_int2 ((hfl 38 _ rfl).trans hx))
    · exact mk_int rfl rfl (f_int2 ((hfl 39 _ rfl).trans hx))
    · exact mk_int rfl rfl (f_int3 ((hfl 40 _ rfl).trans hx))
    · exact mk_int rfl rfl (f_int3 ((hfl 41 _ rfl).trans hx))
  have none_at : ∀ i, ¬ i < 42 → cs[i]? = none := fun i hi => Array.getElem?_eq_none (by omega)
  refine ⟨msgOf cs, ?_, fun i => ?_, fun i => ?_⟩
  · congr 1
    apply Array.ext_getElem?
    intro i
    by_cases hi : i < 42
    · rw [(key i hi).1, Msg.cs_get _ _ hi]
    · rw [none_at i hi, Array.getElem?_eq_none (by rw [Msg.cs_size]; omega)]
  · by_cases hi : i < 42
    · exact (key i hi).2.1
    · simp only [msgOf, none_at i hi, cellZ]; decide
  · by_cases hi : i < 42
    · exact (key i hi).2.2
    · simp only [msgOf, none_at i hi, cellS]; exact Nat.zero_le _
end

end Go.Proofs.Ytekkckfoikpljaa
