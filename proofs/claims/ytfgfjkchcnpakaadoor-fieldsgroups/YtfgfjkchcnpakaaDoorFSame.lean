/-
  The law's same, of two lists that are one.
-/
import Derived.Test.YtfgfjkchcnpakaaDoorFShown
namespace Go.Proofs.YtfgfjkchcnpakaaDoor
set_option linter.unusedVariables false
open Go.RowKit

set_option maxRecDepth 100000 in
set_option maxHeartbeats 400000 in
theorem same_yes (v u : Value) (fs : List Fld) (w : World) (hn : fs.length ≤ 4611686018427387904) (hv : SrcF w v fs) (hu : SrcF w u fs) :
    Calls Tryd.prog 11 #[v, u] w fun e w' => e = .returned (.bool true) ∧ ∃ q, w' = w.drewN q := by
  have HS : Hid (SrcF w v fs ∧ SrcF w u fs) := ⟨hv, hu⟩
  obtain ⟨ao, cap, rfl, hc, _⟩ := hv
  obtain ⟨ao2, cap2, rfl, hc2, _⟩ := hu
  go_enter Tryd.func11, Tryd.ntmps11
  go_wp2
  go_loopw [5] (fun i wr => ∃ k q : Nat, k ≤ fs.length ∧ i = .int .i64 k ∧ wr = w.drewN q) (fun i _ => fs.length - (intOf i).toNat)
  case atStart => exact ⟨0, 0, Nat.zero_le _, rfl, rfl⟩
  case round =>
    obtain ⟨k, q, hk, rfl, hw⟩ := hrel
    have HW : Hid (wr = w.drewN q) := hw
    by_cases hlt : k < fs.length
    · have hlt' : (k : Int) < (fs.length : Int) := by omega
      have hfk : fs[k]? = some fs[k] := List.getElem?_eq_getElem hlt
      have hb : Below w.heap.size w wr := by rw [hw]; exact below_drewN (Below.refl _ w) q
      obtain ⟨ao', cap', e1, _, h0 | ⟨b, off, e2, hcell⟩⟩ := HS.out.1.below hb
      · rw [h0] at hlt; simp at hlt
      injection e1 with e1 _ e3
      subst e1 e2 e3
      obtain ⟨ao', cap', e1, _, h0 | ⟨b2, off2, e2, hcell2⟩⟩ := HS.out.2.below hb
      · rw [h0] at hlt; simp at hlt
      injection e1 with e1 _ e3
      subst e1 e2 e3
      obtain ⟨c0, c1⟩ := hcell k _ hfk
      obtain ⟨d0, d1⟩ := hcell2 k _ hfk
      clear hcell hcell2 hfk hw hb
      generalize fs[k] = g at *
      obtain ⟨t, V⟩ := g
      generalize bs V = S at *
      go_wp2
      go_quiet (fail)
      go_wp2
      exact ⟨⟨k + 1, _, by omega, by go_num, by rw [HW.out, World.drewN_drewN]⟩, by simp [intOf]; omega⟩
    · go_wp2
      go_ret
      first | exact ⟨rfl, q, rfl⟩ | exact ⟨rfl, q, HW.out⟩
end Go.Proofs.YtfgfjkchcnpakaaDoor
