import Derived.Test.YtchkpggdndnpjaaGreatDoorRows
import Derived.Test.YtchkpggdndnpjaaGreatDoorTie
import Derived.Test.YtchkpggdndnpjaaGreatDoorCards
import Derived.Test.YtchkpggdndnpjaaGreatDoorG46
import Derived.ProofKit
import Derived.LaidMore
import Derived.LaidLaws
import Derived.LaidHandle
import Derived.RowKitTokens
import Derived.Lay
import Derived.OpenShut
import Derived.ShutString
import Derived.Stop.Joined
import Derived.Stop.LaidErr
import Derived.SevenTiedAt
import Derived.ChangeOld
import Derived.Below
import Derived.Deep.DeepHandedRow
import Derived.SizedLaws
import Derived.ChangeSlices
import Derived.Test.YtchkpggdndnpjaaGreatDoorG11
import Derived.WideShapes
import Derived.Carry

namespace Go.Proofs.YtchkpggdndnpjaaGreatDoor
set_option linter.unusedVariables false
open Go.ChangeShapes Go.WideShapes Go.ChangeAt Go.RowKit Go.Deep

theorem own : ownKnob Tryz.prog.godebug = none := by kernel_rfl
theorem laidOut : laidOutB Tryz.prog = true := by kernel_rfl
/-- The list that every row of the seat bears: its plain tables, and the handle. -/
abbrev tabs : List (String × DataW Unit) := [("math/bits.deBruijn32tab", Rows.laid_math_bits_deBruijn32tab), ("math/bits.deBruijn64tab", Rows.laid_math_bits_deBruijn64tab), ("internal/strconv.uint64pow10", Rows.laid_internal_strconv_uint64pow10), ("errors.errorType", Rows.laid_errors_errorType), ("outcry/clock.monthDays", Rows.laid_outcry_clock_monthDays)]
abbrev plains : List (String × DataW Unit) := [("math/bits.deBruijn32tab", Rows.laid_math_bits_deBruijn32tab), ("math/bits.deBruijn64tab", Rows.laid_math_bits_deBruijn64tab), ("internal/strconv.uint64pow10", Rows.laid_internal_strconv_uint64pow10), ("outcry/clock.monthDays", Rows.laid_outcry_clock_monthDays)]
theorem plains_of : (tabs.filter fun x => x.2.handleName?.isNone) = plains := by kernel_rfl
theorem handle_in : (tabs.filter fun x => x.2.handleName?.isSome) = [("errors.errorType", Rows.laid_errors_errorType)] := by kernel_rfl
theorem parts_of {W : World} (h : laidMetH Tryz.prog tabs W) : laidMet Tryz.prog plains W ∧ handlesMet Tryz.prog [("errors.errorType", Rows.laid_errors_errorType)] W := by
  unfold laidMetH at h
  rw [handle_in, plains_of] at h
  exact h
theorem pow10_data : (Rows.laid_internal_strconv_uint64pow10 : DataW Unit) = Lib.tabData .u64 Lib.pow10Tab := by kernel_rfl
theorem gPow : Tryz.prog.globalNamed "internal/strconv.uint64pow10" = some 1 := by kernel_rfl
theorem tPow : (Tryz.prog.globals[1]?).map (·.type) = some 202 := by kernel_rfl
theorem mon_data : (Rows.laid_outcry_clock_monthDays : DataW Unit) = Lib.tabData .i64 monTab := by kernel_rfl
theorem gMon : Tryz.prog.globalNamed "outcry/clock.monthDays" = some 2 := by kernel_rfl
theorem tMon : (Tryz.prog.globals[2]?).map (·.type) = some 206 := by kernel_rfl
theorem pow_of {W : World} (h : laidMetH Tryz.prog tabs W) : Pow W := by
  have h2 := (parts_of h).1.tail.tail
  rw [pow10_data] at h2
  exact Lib.tabIs_of_head gPow tPow Tryz.underlying202 Tryz.underlying195 (by kernel_rfl) (by kernel_rfl) h2
theorem tab_of {W : World} (h : laidMetH Tryz.prog tabs W) : Mon W := by
  have h2 := (parts_of h).1.tail.tail.tail
  rw [mon_data] at h2
  have t := Lib.tabIs_of_head gMon tMon Tryz.underlying206 Tryz.underlying3 (by kernel_rfl) (by kernel_rfl) h2
  exact fun k hk => t.cell gMon k hk
theorem gEty : Tryz.prog.globalNamed "errors.errorType" = some 0 := by kernel_rfl
theorem rtIs : (Tryz.prog.cutTypes.find? (·.1 == "internal/reflectlite.rtype")).map (·.2) = some 142 := by kernel_rfl
theorem typesN : Tryz.prog.types.size = 271 := by kernel_rfl
theorem oneRow : ((List.range 271).filter fun t => Tryz.prog.rowNamed t [101, 114, 114, 111, 114]) = [27] := by kernel_rfl
theorem ety_of {W : World} (h : laidMetH Tryz.prog tabs W) : ETy W := by
  obtain ⟨name, u, ty, e1, e2, e3, e4, e5⟩ := (parts_of h).2 _ (List.mem_singleton.2 rfl)
  have en : name = [101, 114, 114, 111, 114] := (Option.some.inj e1).symm
  subst en
  obtain rfl := Option.some.inj (rtIs.symm.trans e2)
  have hm : ty ∈ (List.range 271).filter fun t => Tryz.prog.rowNamed t [101, 114, 114, 111, 114] := List.mem_filter.2 ⟨List.mem_range.2 (by rw [← typesN]; exact e3), e4⟩
  rw [oneRow] at hm
  obtain rfl := List.mem_singleton.1 hm
  have hh : typeHandle Tryz.prog 27 = .pointer (some ⟨8, 27, none⟩) := by kernel_rfl
  rw [hh] at e5
  unfold ETy
  simpa using World.var?_cell gEty e5 0
theorem env_of {W : World} (h : laidMetH Tryz.prog tabs W) : Env W := by
  refine ⟨tab_of h, ?_, pow_of h, ety_of h⟩
  have h0 := tab_of h 0 (by decide)
  rcases Nat.lt_or_ge 2 W.heap.size with k | k
  · exact k
  · simp [World.cell?, Array.getElem?_eq_none k] at h0
/-- What the handle's variable holds, in a world that meets the condition. -/
def etyObj : Obj := .cells #[.iface 142 (.agg #[.pointer (some ⟨8, 27, none⟩)])] 107 (0, 0)
theorem metWorld_os (os : Os) : (({ World.holding Tryz.prog os ⟨#[], #[], []⟩ with heap := (World.holding Tryz.prog os ⟨#[], #[], []⟩).heap.setIfInBounds 0 etyObj } : World).layVars Tryz.prog plains).os = os := World.layVars_os _ _ _
theorem tabs_met (os : Os) (args : Array Value) : laidMetH Tryz.prog tabs ((({ World.holding Tryz.prog os ⟨#[], #[], []⟩ with heap := (World.holding Tryz.prog os ⟨#[], #[], []⟩).heap.setIfInBounds 0 etyObj } : World).layVars Tryz.prog plains).forCall (fun _ _ => 0) ⟨#[], args, []⟩).memory := by
  have e1 : (plains.filter fun x => (plains.map (·.1)).contains x.1) = plains := List.filter_eq_self.2 fun x hx => List.contains_iff_mem.2 (List.mem_map.2 ⟨x, hx, rfl⟩)
  have e2 : (plains.filter fun x => !(plains.map (·.1)).contains x.1) = [] := List.filter_eq_nil_iff.2 fun x hx => by rw [List.contains_iff_mem.2 (List.mem_map.2 ⟨x, hx, rfl⟩)]; simp
  have h : laidMet Tryz.prog plains (({ World.holding Tryz.prog os ⟨#[], #[], []⟩ with heap := (World.holding Tryz.prog os ⟨#[], #[], []⟩).heap.setIfInBounds 0 etyObj } : World).layVars Tryz.prog plains) := laidMet_layVars (w0 := ({ World.holding Tryz.prog os ⟨#[], #[], []⟩ with heap := (World.holding Tryz.prog os ⟨#[], #[], []⟩).heap.setIfInBounds 0 etyObj } : World)) (plains.map (·.1)) [] (by rw [e1]) (by rw [e1]; kernel_rfl) (by rw [e1]; kernel_rfl) (by rw [e2]; exact LaidIn.none)
  refine laidMetH_of_parts ?_ (by kernel_rfl)
  rw [plains_of]
  exact h.of_heap (by simp [World.memory, World.forCall, Input.heap])
theorem tabs_shaped (os : Os) (args : Array Value) : ((({ World.holding Tryz.prog os ⟨#[], #[], []⟩ with heap := (World.holding Tryz.prog os ⟨#[], #[], []⟩).heap.setIfInBounds 0 etyObj } : World).layVars Tryz.prog plains).forCall (fun _ _ => 0) ⟨#[], args, []⟩).Shaped Tryz.prog :=
  World.shaped_of_ZipB (by kernel_rfl) (by kernel_rfl)
end Go.Proofs.YtchkpggdndnpjaaGreatDoor

namespace Go.Proofs.YtchkpggdndnpjaaGreatDoor
set_option linter.unusedVariables false
open Go.ChangeShapes Go.WideShapes Go.ChangeAt Go.RowKit

def cellZ (v : Option Value) : Int := match v with | some (.int _ z) => z | _ => 0
def cellS (v : Option Value) : ByteArray := match v with | some (.string s) => s | _ => ⟨#[]⟩
def cellB (v : Option Value) : Bool := match v with | some (.bool b) => b | _ => false
def msgOf (cs : Array Value) : Msg := ⟨fun i => cellZ cs[i]?, fun i => cellS cs[i]?, fun i => cellB cs[i]?⟩
def inR (z : Int) : Prop := -9223372036854775808 ≤ z ∧ z ≤ 9223372036854775807
theorem wf_in {z : Int} (h : (Lit.int .i64 z).wf = true) : inR z := by
  exact bounds_i64 h
section
variable {H : Type} {enc : TypeId × Value → H} {W : World} {base : Nat} {sp : Nat → Bool} {held : Bool}
theorem one_at {l : List Value} {i : Nat} {v : Value} (h : (l.drop i).take 1 = [v]) : l[i]? = some v := by
  have := congrArg (·[0]?) h
  simpa [List.getElem?_take, List.getElem?_drop] using this
theorem f_int3 {n i : Nat} {l : List Value} {x : DataW H × List MemPlace} (h : DataW.trod enc Tryz.prog W base sp held n 3 ((l.drop i).take (Tryz.prog.cellsOf 3)) = some x) : ∃ z, l[i]? = some (.int .i64 z) ∧ inR z := by
  rw [show Tryz.prog.cellsOf 3 = 1 by kernel_rfl] at h
  obtain ⟨z, hc, _, hw⟩ := DataW.trod_int Tryz.underlying3 h
  exact ⟨z, one_at hc, wf_in hw⟩
theorem f_int2 {n i : Nat} {l : List Value} {x : DataW H × List MemPlace} (h : DataW.trod enc Tryz.prog W base sp held n 2 ((l.drop i).take (Tryz.prog.cellsOf 2)) = some x) : ∃ z, l[i]? = some (.int .i64 z) ∧ inR z := by
  rw [show Tryz.prog.cellsOf 2 = 1 by kernel_rfl] at h
  obtain ⟨z, hc, _, hw⟩ := DataW.trod_int Tryz.underlying2 h
  exact ⟨z, one_at hc, wf_in hw⟩
theorem f_str {n i : Nat} {l : List Value} {x : DataW H × List MemPlace} (h : DataW.trod enc Tryz.prog W base sp held n 9 ((l.drop i).take (Tryz.prog.cellsOf 9)) = some x) : ∃ s : ByteArray, l[i]? = some (.string s) ∧ s.size ≤ maxLen := by
  rw [show Tryz.prog.cellsOf 9 = 1 by kernel_rfl] at h
  obtain ⟨s, hc, _, hw⟩ := DataW.trod_string Tryz.underlying9 h
  exact ⟨s, one_at hc, hw⟩
theorem f_boo {n i : Nat} {l : List Value} {x : DataW H × List MemPlace} (h : DataW.trod enc Tryz.prog W base sp held n 4 ((l.drop i).take (Tryz.prog.cellsOf 4)) = some x) : ∃ b, l[i]? = some (.bool b) := by
  rw [show Tryz.prog.cellsOf 4 = 1 by kernel_rfl] at h
  obtain ⟨b, hc, _⟩ := DataW.trod_bool Tryz.underlying4 h
  exact ⟨b, one_at hc⟩
theorem mk_int {cs : Array Value} {i : Nat} (hs : isStr i = false) (hb : isBoo i = false) (h : ∃ z, cs.toList[i]? = some (.int .i64 z) ∧ inR z) : cs[i]? = some ((msgOf cs).cell i) ∧ inR ((msgOf cs).z i) ∧ ((msgOf cs).s i).size ≤ maxLen := by
  obtain ⟨z, h1, h2⟩ := h
  have h1' : cs[i]? = some (.int .i64 z) := by simpa using h1
  refine ⟨?_, ?_, ?_⟩
  · simp [msgOf, Msg.cell, hs, hb, h1', cellZ]
  · simpa [msgOf, h1', cellZ] using h2
  · simp only [msgOf, h1', cellS]; exact Nat.zero_le _
theorem mk_str {cs : Array Value} {i : Nat} (hs : isStr i = true) (h : ∃ s : ByteArray, cs.toList[i]? = some (.string s) ∧ s.size ≤ maxLen) : cs[i]? = some ((msgOf cs).cell i) ∧ inR ((msgOf cs).z i) ∧ ((msgOf cs).s i).size ≤ maxLen := by
  obtain ⟨s, h1, h2⟩ := h
  have h1' : cs[i]? = some (.string s) := by simpa using h1
  refine ⟨?_, ?_, ?_⟩
  · simp [msgOf, Msg.cell, hs, h1', cellS]
  · simp [msgOf, h1', cellZ, inR]
  · simpa [msgOf, h1', cellS] using h2
theorem mk_boo {cs : Array Value} {i : Nat} (hs : isStr i = false) (hb : isBoo i = true) (h : ∃ b, cs.toList[i]? = some (.bool b)) : cs[i]? = some ((msgOf cs).cell i) ∧ inR ((msgOf cs).z i) ∧ ((msgOf cs).s i).size ≤ maxLen := by
  obtain ⟨b, h1⟩ := h
  have h1' : cs[i]? = some (.bool b) := by simpa using h1
  refine ⟨?_, ?_, ?_⟩
  · simp [msgOf, Msg.cell, hs, hb, h1', cellB]
  · simp [msgOf, h1', cellZ, inR]
  · simp only [msgOf, h1', cellS]; exact Nat.zero_le _
set_option maxRecDepth 100000 in
theorem open_msg {r : Reach} {b0 : Nat} {v : Value} {d : DataW H} {p : List MemPlace} (hv : Value.okWide Tryz.prog W r b0 25 v) (h : DataW.Trod enc Tryz.prog W base sp held 25 v d p) :
    ∃ M : Msg, v = .agg M.cs ∧ M.ok ∧ M.okS := by
  obtain ⟨cs, rfl, hsz⟩ := okWide_struct Tryz.underlying25 hv
  rw [show Tryz.prog.cellsOf 25 = 42 by kernel_rfl] at hsz
  obtain ⟨fuel, hf⟩ := h
  obtain ⟨xs, n, _, _, _, hlen, hfl⟩ := DataW.trod_struct Tryz.underlying25 hf
  have hlen' : xs.length = 42 := hlen
  have hx : ∀ i, i < 42 → ∃ x, xs[i]? = some x := fun i hi => ⟨xs[i], List.getElem?_eq_getElem (by omega)⟩
  have hfl' : ∀ (i : Nat) (f : Field), _ := hfl
  have key : ∀ i, i < 42 → cs[i]? = some ((msgOf cs).cell i) ∧ inR ((msgOf cs).z i) ∧ ((msgOf cs).s i).size ≤ maxLen := fun i hi => by
    obtain ⟨x, hx⟩ := hx i hi
    rcases cases42 hi with rfl | rfl | rfl | rfl | rfl | rfl | rfl | rfl | rfl | rfl | rfl | rfl | rfl | rfl | rfl | rfl | rfl | rfl | rfl | rfl | rfl | rfl | rfl | rfl | rfl | rfl | rfl | rfl | rfl | rfl | rfl | rfl | rfl | rfl | rfl | rfl | rfl | rfl | rfl | rfl | rfl | rfl
    · exact mk_int rfl rfl (f_int3 ((hfl 0 _ rfl).trans hx))
    · exact mk_str rfl (f_str ((hfl 1 _ rfl).trans hx))
    · exact mk_str rfl (f_str ((hfl 2 _ rfl).trans hx))
    · exact mk_int rfl rfl (f_int3 ((hfl 3 _ rfl).trans hx))
    · exact mk_boo rfl rfl (f_boo ((hfl 4 _ rfl).trans hx))
    · exact mk_int rfl rfl (f_int2 ((hfl 5 _ rfl).trans hx))
    · exact mk_int rfl rfl (f_int2 ((hfl 6 _ rfl).trans hx))
    · exact mk_int rfl rfl (f_int3 ((hfl 7 _ rfl).trans hx))
    · exact mk_boo rfl rfl (f_boo ((hfl 8 _ rfl).trans hx))
    · exact mk_str rfl (f_str ((hfl 9 _ rfl).trans hx))
    · exact mk_int rfl rfl (f_int3 ((hfl 10 _ rfl).trans hx))
    · exact mk_int rfl rfl (f_int3 ((hfl 11 _ rfl).trans hx))
    · exact mk_int rfl rfl (f_int3 ((hfl 12 _ rfl).trans hx))
    · exact mk_boo rfl rfl (f_boo ((hfl 13 _ rfl).trans hx))
    · exact mk_int rfl rfl (f_int3 ((hfl 14 _ rfl).trans hx))
    · exact mk_int rfl rfl (f_int3 ((hfl 15 _ rfl).trans hx))
    · exact mk_int rfl rfl (f_int3 ((hfl 16 _ rfl).trans hx))
    · exact mk_int rfl rfl (f_int3 ((hfl 17 _ rfl).trans hx))
    · exact mk_str rfl (f_str ((hfl 18 _ rfl).trans hx))
    · exact mk_str rfl (f_str ((hfl 19 _ rfl).trans hx))
    · exact mk_str rfl (f_str ((hfl 20 _ rfl).trans hx))
    · exact mk_str rfl (f_str ((hfl 21 _ rfl).trans hx))
    · exact mk_str rfl (f_str ((hfl 22 _ rfl).trans hx))
    · exact mk_int rfl rfl (f_int3 ((hfl 23 _ rfl).trans hx))
    · exact mk_int rfl rfl (f_int3 ((hfl 24 _ rfl).trans hx))
    · exact mk_int rfl rfl (f_int3 ((hfl 25 _ rfl).trans hx))
    · exact mk_int rfl rfl (f_int2 ((hfl 26 _ rfl).trans hx))
    · exact mk_int rfl rfl (f_int2 ((hfl 27 _ rfl).trans hx))
    · exact mk_int rfl rfl (f_int2 ((hfl 28 _ rfl).trans hx))
    · exact mk_int rfl rfl (f_int2 ((hfl 29 _ rfl).trans hx))
    · exact mk_int rfl rfl (f_int2 ((hfl 30 _ rfl).trans hx))
    · exact mk_int rfl rfl (f_int3 ((hfl 31 _ rfl).trans hx))
    · exact mk_int rfl rfl (f_int3 ((hfl 32 _ rfl).trans hx))
    · exact mk_int rfl rfl (f_int3 ((hfl 33 _ rfl).trans hx))
    · exact mk_int rfl rfl (f_int3 ((hfl 34 _ rfl).trans hx))
    · exact mk_int rfl rfl (f_int3 ((hfl 35 _ rfl).trans hx))
    · exact mk_int rfl rfl (f_int2 ((hfl 36 _ rfl).trans hx))
    · exact mk_int rfl rfl (f_int2 ((hfl 37 _ rfl).trans hx))
    · exact mk_int rfl rfl (f_int2 ((hfl 38 _ rfl).trans hx))
    · exact mk_int rfl rfl (f_int2 ((hfl 39 _ rfl).trans hx))
    · exact mk_int rfl rfl (f_int3 ((hfl 40 _ rfl).trans hx))
    · exact mk_int rfl rfl (f_int3 ((hfl 41 _ rfl).trans hx))
  have none_at : ∀ i, ¬ i < 42 → cs[i]? = none := fun i hi => Array.getElem?_eq_none (by omega)
  refine ⟨msgOf cs, ?_, fun i => ?_, fun i => ?_⟩
  · congr 1
    apply Array.ext_getElem?
    intro i
    by_cases hi : i < 42
    · rw [(key i hi).1, Msg.cs_get _ _ hi]
    · rw [none_at i hi, Array.getElem?_eq_none (by rw [Msg.cs_size]; omega)]
  · by_cases hi : i < 42
    · exact (key i hi).2.1
    · simp only [msgOf, none_at i hi, cellZ]; decide
  · by_cases hi : i < 42
    · exact (key i hi).2.2
    · simp only [msgOf, none_at i hi, cellS]; exact Nat.zero_le _
end

end Go.Proofs.YtchkpggdndnpjaaGreatDoor
