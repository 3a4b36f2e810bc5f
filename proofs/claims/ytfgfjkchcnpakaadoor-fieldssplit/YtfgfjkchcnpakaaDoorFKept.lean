/-
  The law's kept: the bytes lent are as they were; then they are written over.
-/
import Derived.Test.YtfgfjkchcnpakaaDoorFBytesL
import Derived.Test.YtfgfjkchcnpakaaDoorFFour
namespace Go.Proofs.YtfgfjkchcnpakaaDoor
set_option linter.unusedVariables false
open Go.RowKit

theorem padL_lo (l : List UInt8) (k : Nat) (h : k < l.length) : (padL l 8)[k]? = l[k]? := by
  unfold padL
  rw [List.append_assoc, List.getElem?_append_left h]
theorem padL_hi (l : List UInt8) (k : Nat) (h : l.length ≤ k) (h2 : k < l.length + 8) : (padL l 8)[k]? = some 201 := by
  unfold padL
  rw [List.getElem?_append_left (by simp; omega), List.getElem?_append_right h, List.getElem?_replicate, if_pos (by omega)]
theorem fillL_at (l : List UInt8) (c : UInt8) (k : Nat) (h : k < l.length) : (fillL l c k)[k]? = l[k]? := by
  unfold fillL
  rw [List.getElem?_append_right (by simp), List.length_replicate, Nat.sub_self, List.getElem?_drop]
  rfl
set_option maxRecDepth 100000 in
set_option maxHeartbeats 800000 in
theorem kept_any (g c B : Nat) (v : Value) (l : List UInt8) (w : World) (hn : l.length ≤ 140737488351232) (hv : SrcB w v l) (hk : ∀ k, v.ownBlock = some k → k < B ∨ l = []) (ho : OwnB w B (.slice (some ⟨g, 0, none⟩) (l.length + 8) c) (padL l 8)) :
    Calls Tryd.prog 53 #[.slice (some ⟨g, 0, none⟩) (l.length + 8) c, v] w fun e w' => e = .returned (.bool true) ∧ Below B w w' ∧ (∀ k, k ≠ g → w'.heap[k]? = w.heap[k]?) := by
  have hpl := padL_length l 8 (by omega)
  have HPL : Hid ((padL l 8).length = l.length + 8) := hpl
  have HV : Hid (SrcB w v l ∧ (∀ k, v.ownBlock = some k → k < B ∨ l = []) ∧ B ≤ g) := ⟨hv, hk, (ho.lt g rfl).1⟩
  have HO : Hid _ := ho
  have hc8 : l.length + 8 ≤ c := by
    rcases ho.2 with ⟨e, _⟩ | ⟨g', cap', cur, e, _, _, r3, _⟩
    · cases e
    · injection e with _ e2 e3; omega
  obtain ⟨ao, cap, rfl, hc, _⟩ := hv
  clear ho hk hpl
  go_enter Tryd.func53, Tryd.ntmps53
  go_wp2
  go_loopw [5, 6] (fun o i wr => ∃ k : Nat, k ≤ l.length + 8 ∧ i = .int .i64 (k : Int) ∧ o = .bool true ∧ OwnB wr B (.slice (some ⟨g, 0, none⟩) (l.length + 8) c) (fillL (padL l 8) 77 k) ∧ Below B w wr ∧ ∀ k, k ≠ g → wr.heap[k]? = w.heap[k]?) (fun _ i _ => l.length + 8 - (intOf i).toNat)
  case atStart => exact ⟨0, Nat.zero_le _, rfl, rfl, by rw [fillL_zero]; exact HO.out, Below.refl _ _, fun _ _ => rfl⟩
  case round =>
    obtain ⟨k, hkn, rfl, rfl, hof, hb, hsame⟩ := hrel
    clear HO
    by_cases hlt : k < l.length + 8
    · have hlt' : (k : Int) < (l.length : Int) + 8 := by omega
      have hfl : (fillL (padL l 8) 77 k).length = l.length + 8 := by rw [fillL_length _ _ _ (by rw [HPL.out]; omega), HPL.out]
      obtain ⟨y, hy, c0, z0⟩ := hof.cellN hfl.symm k hlt
      rw [fillL_at _ _ _ (by rw [HPL.out]; omega)] at hy
      have HX : Hid (∀ q, OwnB ((wr.drewN q).setCell ⟨g, k, none⟩ (.int .u8 77)) B (.slice (some ⟨g, 0, none⟩) (l.length + 8) c) (fillL (padL l 8) 77 (k + 1)) ∧ Below B w ((wr.drewN q).setCell ⟨g, k, none⟩ (.int .u8 77)) ∧ ∀ j, j ≠ g → ((wr.drewN q).setCell ⟨g, k, none⟩ (.int .u8 77)).heap[j]? = w.heap[j]?) := fun q => by
        have hbq : Below wr.heap.size wr (wr.drewN q) := below_drewN (Below.refl _ wr) q
        refine ⟨?_, (below_drewN hb q).setCell HV.out.2.2 _, fun j hj => by rw [Below.heap_setCell _ _ _ _ hj]; exact hsame j hj⟩
        rw [← fillL_set (padL l 8) 77 k (by rw [HPL.out]; omega)]
        exact (hof.below hbq).setN hfl.symm k 77
      have hzq : ∀ q, (wr.drewN q).frozen? ⟨g, k, none⟩ = false := fun q => z0
      by_cases hkl : k < l.length
      · have hkl' : (k : Int) < (l.length : Int) := by omega
        rw [padL_lo l k hkl] at hy
        obtain ⟨ao', cap', e1, _, h0 | ⟨b, off, e2, hr⟩⟩ := HV.out.1.of_block (w' := wr) (fun q hq => hb.block q ((HV.out.2.1 q hq).resolve_right (fun e => by rw [e] at hkl; simp at hkl)))
        · rw [h0] at hkl; simp at hkl
        injection e1 with e1 _ e3
        subst e1 e2 e3
        have d0 := hr k y hy
        clear hr hy hof hb hfl hsame
        have hyy : ((y.toNat : Int) == (y.toNat : Int)) = true := by simp
        go_wp2
        go_quiet (fail)
        go_wp2
        exact ⟨⟨k + 1, by omega, by go_num, rfl, (HX.out _).1, (HX.out _).2.1, (HX.out _).2.2⟩, by simp [intOf]; omega⟩
      · have hkl1 : decide ((k : Int) < (l.length : Int)) = false := decide_eq_false (by omega)
        have hkl2 : decide (k < l.length) = false := decide_eq_false hkl
        have hkl3 : decide ((l.length : Int) ≤ (k : Int)) = true := decide_eq_true (by omega)
        have hkl4 : decide (l.length ≤ k) = true := decide_eq_true (by omega)
        have hkl5 : (l.length : Int) ≤ (k : Int) := by omega
        rw [padL_hi l k (by omega) hlt] at hy
        injection hy with hy
        subst hy
        have c1 : wr.cell? ⟨g, k, none⟩ = some (.int .u8 201) := c0
        clear hof hb hfl c0 hsame
        go_wp2
        go_quiet (fail)
        go_wp2
        exact ⟨⟨k + 1, by omega, by go_num, rfl, (HX.out _).1, (HX.out _).2.1, (HX.out _).2.2⟩, by simp [intOf]; omega⟩
    · have HB : Hid (Below B w wr ∧ ∀ k, k ≠ g → wr.heap[k]? = w.heap[k]?) := ⟨hb, hsame⟩
      clear hof hb hsame
      go_wp2
      go_ret
      exact ⟨rfl, HB.out⟩
end Go.Proofs.YtfgfjkchcnpakaaDoor
