/-
  What all rows of the seat want: the table that the rows list, in the walks' words and in the witness.
-/
import Derived.Test.YtdlmaeieoiocdaaDoorRows
import Derived.Test.YtdlmaeieoiocdaaDoorTie
import Derived.Test.YtdlmaeieoiocdaaDoorCards
import Derived.Test.YtdlmaeieoiocdaaDoorMsgNam
import Derived.ProofKit
import Derived.LaidMore
import Derived.Lay
import Derived.OpenShut
import Derived.ShutString
import Derived.Stop.Joined
import Derived.Stop.LaidErr
import Derived.SevenTiedAt
import Derived.ChangeOld
import Derived.Below
namespace Go.Proofs.YtdlmaeieoiocdaaDoor
set_option linter.unusedVariables false
open Go.ChangeShapes Go.WideShapes Go.ChangeAt Go.RowKit

theorem own : ownKnob Tryd.prog.godebug = none := by kernel_rfl
theorem laidOut : laidOutB Tryd.prog = true := by kernel_rfl
/-- The list that every row of the seat bears. -/
abbrev tabs : List (String × DataW Unit) := [("outcry/clock.monthDays", Rows.laid_outcry_clock_monthDays), ("outcry/msg.names", Rows.laid_outcry_msg_names)]
theorem mon_data : (Rows.laid_outcry_clock_monthDays : DataW Unit) = Lib.tabData .i64 monTab := by kernel_rfl
theorem gMon : Tryd.prog.globalNamed "outcry/clock.monthDays" = some 1 := by kernel_rfl
theorem tMon : (Tryd.prog.globals[1]?).map (·.type) = some 78 := by kernel_rfl
theorem nam_data : (Rows.laid_outcry_msg_names : DataW Unit) = .agg (nameL.map fun s => .lit (.string s.data.toList)) := by kernel_rfl
theorem gNam : Tryd.prog.globalNamed "outcry/msg.names" = some 0 := by kernel_rfl
theorem tNam : (Tryd.prog.globals[0]?).map (·.type) = some 61 := by kernel_rfl
/-- An array of texts that reads as a list holds that list. -/
theorem strs_of {W : World} {fuel : Nat} {cs : List Value} {p : List MemPlace} (h : DataW.trod (fun _ => ()) Tryd.prog W 0 (fun _ => true) false fuel 61 cs = some (.agg (nameL.map fun s => .lit (.string s.data.toList)), p)) (k : Nat) (hk : k < 17) :
    cs[k]? = some (.string (nameOf k)) := by
  cases fuel with
  | zero => simp [DataW.trod] at h
  | succ fuel =>
    have hce : Tryd.prog.cellsOf 9 = 1 := by kernel_rfl
    have hct : Tryd.prog.cellsOf 61 = 17 := by kernel_rfl
    simp only [DataW.trod, Tryd.underlying61, hce, hct, Nat.mul_one] at h
    split at h
    · obtain ⟨xs, hm, hx⟩ := Option.map_eq_some_iff.1 h
      obtain ⟨b, hb, hf⟩ := Lib.mapM_at hm k k (by simp [hk])
      obtain ⟨s, hc, hs, _⟩ := DataW.trod_string Tryd.underlying9 hf
      have h1 : cs[k]? = some (.string s) := by
        have := congrArg (·[0]?) hc
        simpa [List.getElem?_take, List.getElem?_drop] using this
      have h2 : (xs.map (·.1)) = nameL.map fun s => (DataW.lit (.string s.data.toList) : DataW Unit) := by
        have := congrArg Prod.fst hx
        simpa using this
      have h3 := congrArg (·[k]?) h2
      simp only [List.getElem?_map, hb, hs, Option.map_some] at h3
      have h4 : nameL[k]? = some (nameOf k) := by
        unfold nameOf
        rw [List.getD_eq_getElem?_getD, List.getElem?_eq_getElem (by simpa [nameL] using hk)]
        rfl
      rw [h4] at h3
      simp only [Option.map_some, Option.some.injEq, DataW.lit.injEq, Lit.string.injEq] at h3
      rw [h1]
      congr 2
      revert h3
      generalize nameOf k = n
      intro h3
      cases s; cases n
      simpa using h3
    · cases h
theorem tab_of {W : World} (h : laidMetH Tryd.prog tabs W) : Mon W ∧ Nam W := by
  rw [MakeChecks.laidMetH_plain _ _ _ (by kernel_rfl)] at h
  have h2 : laidMet Tryd.prog [("outcry/clock.monthDays", Rows.laid_outcry_clock_monthDays), ("outcry/msg.names", Rows.laid_outcry_msg_names)] W := h
  rw [mon_data] at h2
  have t := Lib.tabIs_of_head gMon tMon Tryd.underlying78 Tryd.underlying3 (by kernel_rfl) (by kernel_rfl) h2
  refine ⟨fun k hk => t.cell gMon k hk, ?_⟩
  obtain ⟨ps, ⟨g', t', cs, fuel, p, q, _, _, _, _, ⟨g2, t2, cs2, fuel2, p2, q2, hg2, ht2, hv2, hd2, _, _⟩, _⟩, _⟩ := h2
  obtain rfl := Option.some.inj (gNam.symm.trans hg2)
  obtain rfl := Option.some.inj (tNam.symm.trans ht2)
  rw [nam_data] at hd2
  intro k hk
  have h3 := strs_of hd2 k hk
  have h4 := World.var?_cell gNam hv2 k
  rw [h4]
  simpa using h3
theorem tabs_met (os : Os) (args : Array Value) : laidMetH Tryd.prog tabs ((World.laidAll Tryd.prog os tabs).forCall (fun _ _ => 0) ⟨#[], args, []⟩).memory := by
  rw [MakeChecks.laidMetH_plain _ _ _ (by kernel_rfl)]
  exact laidMet_laidAll _ (by kernel_rfl) (by kernel_rfl)
theorem tabs_shaped (os : Os) (args : Array Value) : ((World.laidAll Tryd.prog os tabs).forCall (fun _ _ => 0) ⟨#[], args, []⟩).Shaped Tryd.prog :=
  World.shaped_of_ZipB (by kernel_rfl) (by kernel_rfl)
end Go.Proofs.YtdlmaeieoiocdaaDoor
