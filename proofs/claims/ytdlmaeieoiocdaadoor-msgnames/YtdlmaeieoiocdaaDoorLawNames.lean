/-
  MsgNames: the walk.
-/
import Derived.Test.YtdlmaeieoiocdaaDoorMsgShown
import Derived.Test.YtdlmaeieoiocdaaDoorMsgRefText
namespace Go.Proofs.YtdlmaeieoiocdaaDoor
set_option linter.unusedVariables false
open Go.RowKit

set_option maxRecDepth 100000 in
set_option maxHeartbeats 1000000 in
theorem MsgNames_law (s : ByteArray) (hs : s.size ≤ maxLen) (w : World) (hM : Mon w) :
    Calls Tryd.prog 7 #[.string s] w fun e w' => e = .returned (.bool true) ∧ Below w.heap.size w w' := by
  have hs' : s.size ≤ 9223372036854775807 := Nat.le_trans hs (by decide)
  have hsh := shown_any w hM
  clear hM
  go_enter Tryd.func7, Tryd.ntmps7
  go_wp2_with (go_at_call 9; fail)
  refine hsh.mono ?_
  rintro e w1 ⟨rfl, hb1⟩
  have HB : Hid (Below w.heap.size w w1) := hb1
  clear hb1 hsh
  have a1 := IsName_any s
  have a2 := IsID_any s
  have a3 := IsSymbol_any s
  have a4 := IsText_any s
  have b1 := fun w => refIsName s w hs'
  have b2 := fun w => refIsID s w hs'
  have b3 := fun w => refIsSymbol s w hs'
  have b4 := fun w => refIsText s w hs'
  generalize nmS s = p1 at *
  generalize idS s = p2 at *
  generalize syS s = p3 at *
  generalize txS s = p4 at *
  go_wp2_with (first | (go_at_call 11; refine (a1 _).mono ?_; rintro e w1 ⟨rfl, rfl⟩) | (go_at_call 18; refine (a2 _).mono ?_; rintro e w1 ⟨rfl, rfl⟩) | (go_at_call 20; refine (a3 _).mono ?_; rintro e w1 ⟨rfl, rfl⟩) | (go_at_call 22; refine (a4 _).mono ?_; rintro e w1 ⟨rfl, rfl⟩) | (go_at_call 17; refine (b1 _).mono ?_; rintro e w1 ⟨rfl, rfl⟩) | (go_at_call 19; refine (b2 _).mono ?_; rintro e w1 ⟨rfl, rfl⟩) | (go_at_call 21; refine (b3 _).mono ?_; rintro e w1 ⟨rfl, rfl⟩) | (go_at_call 23; refine (b4 _).mono ?_; rintro e w1 ⟨rfl, rfl⟩))
  go_ret
  exact ⟨rfl, HB.out⟩

end Go.Proofs.YtdlmaeieoiocdaaDoor
