/-
  bin: BinDecodes, walked.
-/
import Derived.Test.YthadnogcocmfgaaGreatDoorBSame
import Derived.Test.YthadnogcocmfgaaGreatDoorBLawOne
namespace Go.Proofs.YthadnogcocmfgaaGreatDoor
set_option linter.unusedVariables false
open Go.RowKit Go.Great Go.Lib

set_option maxRecDepth 100000 in
set_option maxHeartbeats 1000000 in
theorem BinDecodes_law (a : Option Addr) (n cap : Nat) (d : Nat → Nat) (hn : n ≤ 140737488351232) (hc : n ≤ cap) (ha : a = none → n = 0 ∧ cap = 0) (w : World) (hs : Src w a n d) (hM : Mon w) :
    Calls Tryz.prog 8 #[.slice a n cap] w fun e w' => e = .returned (.bool true) ∧ Below w.heap.size w w' := by
  obtain ⟨g, off, hag, hat⟩ := in_at hs
  have hln := inL_length d n
  generalize inL d n = l at *
  have HM : Hid (0 < w.heap.size ∧ Mon w ∧ n = l.length ∧ n ≤ 140737488351232 ∧ n ≤ cap ∧ (n = 0 ∨ a = some ⟨g, off, none⟩) ∧ At w g off l) := ⟨hM.lt, hM, hln.symm, hn, hc, hag, hat⟩
  clear hs ha hn hc hM hln hag hat
  go_enter Tryz.func8, Tryz.ntmps8
  go_wp2_with (go_at_call 9; fail)
  refine (shown_any w HM.out.2.1).mono ?_
  rintro e w2 ⟨rfl, hb2⟩
  have HB2 : Hid (Below w.heap.size w w2) := hb2
  have hSm := same_any a g off n cap l w2 HM.out.2.2.1 HM.out.2.2.2.2.1 HM.out.2.2.2.1 HM.out.2.2.2.2.2.1 (HM.out.2.2.2.2.2.2.below hb2 (Nat.le_refl _)) (HM.out.2.1.below hb2 HM.out.1)
  clear hb2
  go_wp2_with (go_at_call 19; fail)
  refine hSm.mono ?_
  rintro e w3 ⟨rfl, hb3⟩
  have HB3 : Hid (Below w.heap.size w w3) := HB2.out.trans (hb3.mono HB2.out.size)
  clear hb3 HB2 hSm
  go_wp2
  go_ret
  exact ⟨rfl, HB3.out⟩
end Go.Proofs.YthadnogcocmfgaaGreatDoor
