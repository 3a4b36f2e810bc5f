/-
  fix: the laws' pick; one byte of a row turned.
-/
import Derived.Test.YtchkpggdndnpjaaGreatDoorG46
namespace Go.Proofs.YtchkpggdndnpjaaGreatDoor
set_option linter.unusedVariables false
set_option linter.unusedSimpArgs false
open Go.RowKit Go.Great

/-- Which of n things a raw number speaks of. -/
def pickN (c : Int) (n : Nat) : Nat := (if c < 0 then (-(c + 1)) % (n : Int) else c % (n : Int)).toNat
theorem pickN_lt (c : Int) {n : Nat} (h : 0 < n) : pickN c n < n := by
  unfold pickN
  have h1 := Int.emod_lt_of_pos (-(c + 1)) (show (0 : Int) < n by omega)
  have h2 := Int.emod_nonneg (-(c + 1)) (show (n : Int) ≠ 0 by omega)
  have h3 := Int.emod_lt_of_pos c (show (0 : Int) < n by omega)
  have h4 := Int.emod_nonneg c (show (n : Int) ≠ 0 by omega)
  split <;> omega
set_option maxRecDepth 100000 in
set_option maxHeartbeats 400000 in
theorem pick_any (c x : Int) (n : Nat) (hx : x = n) (w : World) (hn : 0 < n) (hn1 : n ≤ 9223372036854775807) (h0 : -9223372036854775808 ≤ c) (h1 : c ≤ 9223372036854775807) :
    Calls Tryz.prog 15 #[.int .i64 c, .int .i64 x] w fun e w' => e = .returned (.int .i64 (pickN c n : Int)) ∧ w' = w := by
  subst hx
  have hp := pickN_lt c hn
  have hn' : ¬ (n : Int) = 0 := by omega
  by_cases hc : c < 0
  · have e : (c + 1).tmod (n : Int) = -(pickN c n : Int) := by
      have h2 := Int.emod_nonneg (-(c + 1)) (show (n : Int) ≠ 0 by omega)
      unfold pickN
      rw [if_pos hc, Int.toNat_of_nonneg h2, ← Int.tmod_eq_emod_of_nonneg (by omega), Int.neg_tmod, Int.neg_neg]
    generalize pickN c n = p at *
    go_enter Tryz.func15, Tryz.ntmps15
    go_wp2
    go_ret
    exact ⟨rfl, rfl⟩
  · have hc' : 0 ≤ c := by omega
    have e : c % (n : Int) = (pickN c n : Int) := by
      have h2 := Int.emod_nonneg c (show (n : Int) ≠ 0 by omega)
      unfold pickN
      rw [if_neg hc, Int.toNat_of_nonneg h2]
    generalize pickN c n = p at *
    go_enter Tryz.func15, Tryz.ntmps15
    go_wp2
    go_ret
    exact ⟨rfl, rfl⟩
theorem OwnB.set {w : World} {B g c : Nat} {l : List UInt8} (h : OwnB w B (.slice (some ⟨g, 0, none⟩) l.length c) l) (i : Nat) (x : UInt8) :
    OwnB (w.setCell ⟨g, i, none⟩ (.int .u8 (x.toNat : Int))) B (.slice (some ⟨g, 0, none⟩) (l.set i x).length c) (l.set i x) := by
  obtain ⟨h1, h2⟩ := h
  refine ⟨by rw [bcs_length]; simp, ?_⟩
  rcases h2 with ⟨e, _⟩ | ⟨g', cap, cur, e, r1, r2, r3, r4, r5, r6⟩
  · cases e
  · injection e with e1 _ e3
    injection e1 with e1
    injection e1 with e1
    subst e1 e3
    refine .inr ⟨g, c, cur.setIfInBounds i (.int .u8 (x.toNat : Int)), by rw [List.length_set], r1, ?_, by rw [List.length_set]; exact r3, r4, by simpa using r5, ?_⟩
    · rw [setCell_eq_setRow w g i cur 5 (0, 0) _ r2]
      exact setRow_heap w g cur _ 5 (0, 0) r2
    · rw [Array.toList_setIfInBounds, List.length_set, List.take_set, r6]
      unfold bcs
      rw [List.map_set]
theorem OwnB.cell {w : World} {B g c : Nat} {l : List UInt8} (h : OwnB w B (.slice (some ⟨g, 0, none⟩) l.length c) l) (i : Nat) (hi : i < l.length) :
    w.cell? ⟨g, i, none⟩ = some (.int .u8 (l[i].toNat : Int)) ∧ w.frozen? ⟨g, i, none⟩ = false := by
  obtain ⟨h1, h2⟩ := h
  rcases h2 with ⟨e, _⟩ | ⟨g', cap, cur, e, r1, r2, r3, r4, r5, r6⟩
  · cases e
  · injection e with e1 _ e3
    injection e1 with e1
    injection e1 with e1
    subst e1 e3
    have e1 : (bcs l)[i]? = some (.int .u8 (l[i].toNat : Int)) := by unfold bcs; rw [List.getElem?_map, List.getElem?_eq_getElem hi]; rfl
    rw [← r6, List.getElem?_take, if_pos (by omega)] at e1
    refine ⟨?_, ?_⟩
    · rw [cell_of_row w g _ cur _ _ r2]; simpa using e1
    · simp [World.frozen?, r2]
/-- The byte that a spoilt one becomes. -/
theorem spoil_byte (c : UInt8) (q : Nat) (hq : q < 255) : ∃ x : UInt8, x ≠ c ∧ IntKind.u8.wrap (IntKind.i64.wrap (IntKind.i64.wrap (IntKind.i64.wrap (c.toNat : Int) + 1) + (q : Int))) = (x.toNat : Int) := by
  have hc : c.toNat < 256 := c.toNat_lt
  refine ⟨UInt8.ofNat ((c.toNat + 1 + q) % 256), fun e => ?_, ?_⟩
  · have := congrArg UInt8.toNat e
    rw [UInt8.toNat_ofNat'] at this
    omega
  · rw [UInt8.toNat_ofNat']
    simp [IntKind.wrap, IntKind.bits, IntKind.signed]
    omega
end Go.Proofs.YtchkpggdndnpjaaGreatDoor
