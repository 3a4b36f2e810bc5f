/-
  The reference: Start, Weekday.
-/
import Derived.Test.YtdlmaeieoiocdabDoorRefDays
namespace Go.Proofs.YtdlmaeieoiocdabDoor
set_option linter.unusedVariables false
open Go.RowKit Go.Lib

set_option maxRecDepth 100000 in
set_option maxHeartbeats 400000 in
theorem refStart_any (z : Int) (w : World) (h0 : -9223372036854775808 ≤ z) (h1 : z ≤ 9223372036854775807) :
    Calls Tryd.prog 80 #[.int .i64 z] w fun e w' => e = .returned (.tuple #[.int .i64 (dnV z * 86400000), .int .i64 (dtE z)]) ∧ Below w.heap.size w w' := by
  have hc := refNumber_any z w h0 h1
  cases hd : dnB z
  · have e1 : dnV z * 86400000 = 0 := by rw [dn_zero hd]; rfl
    rw [hd, dn_zero hd] at hc
    have e2 : dtE z = 21 := by unfold dtE; rw [hd]; rfl
    rw [e1, e2]
    clear e1 e2 hd
    go_enter Tryd.func80, Tryd.ntmps80
    go_wp2_with (go_at_call 88; fail)
    refine hc.mono ?_
    rintro e w1 ⟨rfl, hb1⟩
    have HB1 : Hid (Below w.heap.size w w1) := hb1
    clear hb1
    go_wp2
    go_ret2
    exact ⟨rfl, HB1.out⟩
  · obtain ⟨n, _, hn, hl⟩ := dn_range hd
    have e1 : Hid (dnV z * 86400000 = (n : Int) * 86400000) := by show _ = _; rw [hn]
    rw [hd, hn] at hc
    have e2 : dtE z = 0 := by unfold dtE; rw [hd]; rfl
    rw [e2]
    clear e2 hd hn
    go_enter Tryd.func80, Tryd.ntmps80
    go_wp2_with (go_at_call 88; fail)
    refine hc.mono ?_
    rintro e w1 ⟨rfl, hb1⟩
    have HB1 : Hid (Below w.heap.size w w1) := hb1
    clear hb1
    go_wp2
    go_ret2
    exact ⟨ret2 (vint (by have := e1.out; omega)) rfl, HB1.out⟩
end Go.Proofs.YtdlmaeieoiocdabDoor
