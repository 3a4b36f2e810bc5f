/-
  The law's bytes: a copy with eight bytes behind it.
-/
import Derived.Test.YtfgfjkchcnpakaaDoorFLent
import Derived.Test.YtfgfjkchcnpakaaDoorFLawBack
namespace Go.Proofs.YtfgfjkchcnpakaaDoor
set_option linter.unusedVariables false
open Go.RowKit

/-- A block of bytes. -/
def BlkB (w : World) (g : Nat) (l : List UInt8) : Prop := w.heap[g]? = some (.cells (bcs l).toArray 5 (0, 0))
theorem BlkB.own {w : World} {g B : Nat} {l : List UInt8} (h : BlkB w g l) (hB : B ≤ g) (hm : l.length ≤ maxLen) : OwnB w B (.slice (some ⟨g, 0, none⟩) l.length l.length) l :=
  ⟨by rw [bcs_length]; omega, .inr ⟨g, l.length, (bcs l).toArray, rfl, hB, h, Nat.le_refl _, hm, by simp [bcs_length], by simp; rw [List.take_of_length_le (by rw [bcs_length]; omega)]⟩⟩
theorem bcs_rep (n : Nat) : bcs (List.replicate n 0) = (madeCells #[.int .u8 0] (n * 1)).toList := by
  apply List.ext_getElem?
  intro j
  by_cases hj : j < n
  · simp [bcs, madeCells, hj, Nat.mod_one]
  · rw [List.getElem?_eq_none (by simp [bcs]; omega), List.getElem?_eq_none (by simp [size_madeCells]; omega)]
theorem BlkB.made {w : World} {B n : Nat} {g : Nat} (h : w.ownsRow B 5 1 (.slice (some ⟨g, 0, none⟩) n n) n (madeCells #[.int .u8 0] (n * 1)).toList) : BlkB w g (List.replicate n 0) := by
  rcases h.2 with ⟨e, _⟩ | ⟨g', c, cur, e, _, r2, _, _, r5, r6⟩
  · cases e
  · injection e with e1 _ e3
    injection e1 with e1
    injection e1 with e1
    subst e1 e3
    unfold BlkB
    rw [r2, bcs_rep]
    have : cur.toList.take (n * 1) = cur.toList := List.take_of_length_le (by simp [r5])
    rw [this] at r6
    rw [← r6]
def padL (l : List UInt8) (k : Nat) : List UInt8 := l ++ List.replicate k 201 ++ List.replicate (8 - k) 0
theorem padL_length (l : List UInt8) (k : Nat) (h : k ≤ 8) : (padL l k).length = l.length + 8 := by simp [padL]; omega
theorem padL_set (l : List UInt8) (k : Nat) (h : k < 8) : (padL l k).set (l.length + k) 201 = padL l (k + 1) := by
  unfold padL
  have e : List.replicate (8 - k) (0 : UInt8) = 0 :: List.replicate (8 - (k + 1)) 0 := by rw [show 8 - k = (8 - (k + 1)) + 1 by omega, List.replicate_succ]
  rw [List.set_append, if_neg (by simp)]
  have el : l.length + k - (l ++ List.replicate k (201 : UInt8)).length = 0 := by simp
  rw [el, e, List.set_cons_zero, List.replicate_succ']
  simp
theorem OwnB.setN {w : World} {B g c n : Nat} {l : List UInt8} (h : OwnB w B (.slice (some ⟨g, 0, none⟩) n c) l) (hn : n = l.length) (i : Nat) (x : UInt8) : OwnB (w.setCell ⟨g, i, none⟩ (.int .u8 (x.toNat : Int))) B (.slice (some ⟨g, 0, none⟩) n c) (l.set i x) := by
  subst hn
  have h2 := h.set i x
  rw [List.length_set] at h2
  exact h2
theorem OwnB.cellN {w : World} {B g c n : Nat} {l : List UInt8} (h : OwnB w B (.slice (some ⟨g, 0, none⟩) n c) l) (hn : n = l.length) (i : Nat) (hi : i < n) : ∃ y : UInt8, l[i]? = some y ∧ w.cell? ⟨g, i, none⟩ = some (.int .u8 (y.toNat : Int)) ∧ w.frozen? ⟨g, i, none⟩ = false := by
  subst hn
  obtain ⟨a, b⟩ := h.cell i hi
  exact ⟨l[i], List.getElem?_eq_getElem hi, a, b⟩
theorem size5 : (Tryd.prog.info? 5).map (·.size) = some 1 := by kernel_rfl
set_option maxRecDepth 100000 in
set_option maxHeartbeats 800000 in
theorem bytes_any (v : Value) (l : List UInt8) (w : World) (hn : l.length ≤ 140737488351232) (hs : SrcB w v l) :
    Calls Tryd.prog 52 #[v] w fun e w' => e = .returned (.slice (some ⟨w.heap.size, 0, none⟩) (l.length + 8) (l.length + 8)) ∧ OwnB w' w.heap.size (.slice (some ⟨w.heap.size, 0, none⟩) (l.length + 8) (l.length + 8)) (padL l 8) ∧ Below w.heap.size w w' := by
  obtain ⟨i0, hi, hz0, hz1, hz2⟩ := info_parts info5
  have HS : Hid (SrcB w v l) := hs
  obtain ⟨ao, cap, rfl, hc, _⟩ := hs
  go_enter Tryd.func52, Tryd.ntmps52
  go_upto_region 2 with (at_make; refine wpList_make_full _ rfl _ _ 23 rfl w.heap.size 5 i0 (.int .u8 0) 1 Tryd.underlying23 hi hz0 hz1 _ _ _ _ (l.length + 8) rfl rfl (by omega) (by omega) (by rw [hz2]; omega) (by unfold maxLen; omega) (Nat.le_refl _) ?_; intro w1 ho1 hg1)
  have hb1 : Below w.heap.size w w1 := (Below.refl _ w).grown hg1 (Nat.le_refl _) (fun k hk => by cases hk)
  have hbk : BlkB w1 w.heap.size (List.replicate (l.length + 8) 0) := BlkB.made ho1
  have HB1 : Hid (BlkB w1 w.heap.size (List.replicate (l.length + 8) 0) ∧ Below w.heap.size w w1) := ⟨hbk, hb1⟩
  clear ho1 hg1 hb1 hbk
  have HP : Hid (0 < (bcs l).length → (some ⟨w.heap.size, 0, none⟩ : Option Addr) = some ⟨w.heap.size, 0, none⟩ ∧ ∃ ad, ao = some ad ∧ ∀ j v, (bcs l)[j]? = some v → w1.cell? (ad.add j) = some v) := fun hpos => by
    obtain ⟨ao', cap', e1, _, h0 | ⟨b, off, e2, hr⟩⟩ := HS.out.below HB1.out.2
    · rw [h0] at hpos; simp [bcs] at hpos
    · injection e1 with e1
      refine ⟨rfl, ⟨b, off, none⟩, e1.trans e2, fun j x hj => ?_⟩
      rw [addr_add]
      unfold bcs at hj
      rw [List.getElem?_map] at hj
      cases hq : l[j]? with
      | none => rw [hq] at hj; cases hj
      | some c => rw [hq] at hj; injection hj with hj; rw [← hj]; exact hr j c hq
  go_upto_region 3 with (refine wpList_copy_splice rfl _ _ 23 23 rfl 5 Tryd.underlying23 size5 (some ⟨w.heap.size, 0, none⟩) ao (l.length + 8) (l.length + 8) l.length cap rfl rfl w.heap.size 0 (bcs (List.replicate (l.length + 8) 0)) 5 HB1.out.1 (bcs l) (by rw [bcs_length]; exact (Nat.min_eq_left (by omega)).symm) HP.out (by rw [bcs_length, bcs_length, List.length_replicate]; omega) (bcs_one l) w.heap.size w HB1.out.2 (Nat.le_refl _) ?_; intro w2 hh2 hb2)
  have hk2 : BlkB w2 w.heap.size (padL l 0) := by
    unfold BlkB
    rw [hh2.out]
    have e : splice (bcs (List.replicate (l.length + 8) 0)) 0 (bcs l) = bcs (padL l 0) := by
      unfold splice padL
      rw [List.take_zero, List.nil_append, Nat.zero_add, bcs_length, List.replicate_zero, List.append_nil, bcs_app]
      congr 1
      unfold bcs
      rw [← List.map_drop, List.drop_replicate]
      congr 2
      omega
    rw [e]
  have ho2 := hk2.own (B := w.heap.size) (Nat.le_refl _) (by rw [padL_length l 0 (by omega)]; unfold maxLen; omega)
  rw [padL_length l 0 (by omega)] at ho2
  have HB2 : Hid (OwnB w2 w.heap.size (.slice (some ⟨w.heap.size, 0, none⟩) (l.length + 8) (l.length + 8)) (padL l 0) ∧ Below w.heap.size w w2) := ⟨ho2, hb2⟩
  clear hh2 hb2 hk2 ho2 HP HB1
  go_wp2
  go_loopw [4] (fun i wr => ∃ k : Nat, k ≤ 8 ∧ i = .int .i64 ((l.length + k : Nat) : Int) ∧ OwnB wr w.heap.size (.slice (some ⟨w.heap.size, 0, none⟩) (l.length + 8) (l.length + 8)) (padL l k) ∧ Below w.heap.size w wr) (fun i _ => l.length + 8 - (intOf i).toNat)
  case atStart => exact ⟨0, Nat.zero_le _, rfl, HB2.out.1, HB2.out.2⟩
  case round =>
    obtain ⟨k, hk, rfl, hbk, hbl⟩ := hrel
    clear HB2
    by_cases hlt : k < 8
    · obtain ⟨m, hm⟩ : ∃ m, l.length + k = m := ⟨_, rfl⟩
      rw [hm]
      have hlt' : (m : Int) < (l.length : Int) + 8 := by omega
      obtain ⟨y, hy, c0, z0⟩ := hbk.cellN (padL_length l k hk).symm m (by omega)
      have HB3 : Hid (OwnB (wr.setCell ⟨w.heap.size, m, none⟩ (.int .u8 201)) w.heap.size (.slice (some ⟨w.heap.size, 0, none⟩) (l.length + 8) (l.length + 8)) (padL l (k + 1)) ∧ Below w.heap.size w (wr.setCell ⟨w.heap.size, m, none⟩ (.int .u8 201))) := by
        refine ⟨?_, hbl.setCell (Nat.le_refl _) _⟩
        rw [← padL_set l k hlt, hm]
        exact hbk.setN (padL_length l k hk).symm m 201
      clear hbk hbl hy
      go_wp2
      exact ⟨⟨k + 1, by omega, by go_num, HB3.out.1, HB3.out.2⟩, by simp [intOf]; omega⟩
    · obtain rfl : k = 8 := by omega
      have HB : Hid _ := (⟨hbk, hbl⟩ : _ ∧ _)
      clear hbk hbl
      go_wp2
      go_ret
      exact ⟨rfl, HB.out.1, HB.out.2⟩
end Go.Proofs.YtfgfjkchcnpakaaDoor
