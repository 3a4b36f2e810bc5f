/-
  bin: slices.Grow, slices.Concat of two, the sum of a frame.
-/
import Derived.Test.YtkpoheknmcepnaaGreatDoorBWr
import Derived.Test.YtkpoheknmcepnaaGreatDoorBLay
import Derived.Lib.AppendZeros
import Derived.Laws.AppendOwnNone
namespace Go.Proofs.YtkpoheknmcepnaaGreatDoor
set_option linter.unusedVariables false
open Go.RowKit Go.Great Go.Lib

set_option maxRecDepth 100000 in
theorem Grow_any (n : Nat) (z : Int) (hz : z = n) (h0 : 0 < n) (hn : n ≤ 1048576) (w : World) :
    Calls Tryz.prog 74 #[.slice none 0 0, .int .i64 z] w fun e w' => ∃ v, e = .returned v ∧ w'.ownsRow w.heap.size 5 1 v 0 [] ∧ Below w.heap.size w w' := by
  subst hz
  obtain ⟨i0, hi, hz0, hz1, hz2⟩ := info_parts info5
  have hr := run_append_nil_zeros (P := Tryz.prog) w 22 3 22 5 i0 (.int .u8 0) .i64 .i64 Tryz.underlying22 Tryz.underlying3 hi hz0 n h0 (by omega) (by omega) (by rw [hz2]; omega)
  have hle := grownCap_ge w n 0 5
  have hmx : grownCap w n 0 5 ≤ maxLen := grownCap_le_maxLen w n 0 5 (by unfold maxLen; omega)
  generalize grownCap w n 0 5 = C at *
  have hf0 : ¬ (n : Int) < 0 := by omega
  have hf1 : (0 : Int) < (n : Int) := by omega
  have HO : Hid ((w.drew.alloc (.cells (Builtin.zeroCells (Value.int .u8 0).cells n ++ Builtin.zeroCells (Value.int .u8 0).cells (C - n)) 5)).ownsRow w.heap.size 5 1 (.slice (some ⟨w.heap.size, 0, none⟩) 0 C) 0 [] ∧ Below w.heap.size w (w.drew.alloc (.cells (Builtin.zeroCells (Value.int .u8 0).cells n ++ Builtin.zeroCells (Value.int .u8 0).cells (C - n)) 5))) :=
    ⟨⟨rfl, .inr ⟨w.heap.size, C, _, rfl, Nat.le_refl _, heap_alloc_new w.drew _, Nat.zero_le _, hmx, by simp [Builtin.zeroCells, Value.cells]; omega, by simp⟩⟩, (below_drewN (Below.refl _ w) 1).alloc (by exact Nat.le_refl _) _⟩
  generalize Builtin.zeroCells _ _ ++ Builtin.zeroCells _ _ = Z at *
  clear hi hz0 hz1 hz2
  go_enter Tryz.func74, Tryz.ntmps74
  go_wp2_with (at_builtin; refine wpList_append_run w rfl _ _ 22 3 rfl (.slice none 0 0) (.int .i64 n) rfl rfl _ _ hr ?_)
  go_ret
  exact ⟨_, rfl, HO.out.1, HO.out.2⟩
theorem own_mono {w : World} {base base' size n : Nat} {e : TypeId} {v : Value} {xs : List Value} (h : w.ownsRow base e size v n xs) (hb : base' ≤ base) : w.ownsRow base' e size v n xs := by
  obtain ⟨h1, h2⟩ := h
  refine ⟨h1, ?_⟩
  rcases h2 with h | ⟨g, cap, cur, rfl, r1, r2, r3, r4, r5, r6⟩
  · exact .inl h
  · exact .inr ⟨g, cap, cur, rfl, by omega, r2, r3, r4, r5, r6⟩
set_option maxRecDepth 100000 in
set_option maxHeartbeats 800000 in
theorem Concat_any (b : Nat) (a1 a2 : Addr) (c1 c2 : Nat) (l1 l2 : List UInt8) (w : World) (k0 : w.cell? ⟨b, 0, none⟩ = some (.slice (some a1) l1.length c1)) (k1 : w.cell? ⟨b, 1, none⟩ = some (.slice (some a2) l2.length c2))
    (h1 : ∀ j u, (byteCells l1)[j]? = some u → w.cell? (a1.add j) = some u) (h2 : ∀ j u, (byteCells l2)[j]? = some u → w.cell? (a2.add j) = some u) (hl1 : 0 < l1.length) (hlen : l1.length + l2.length ≤ 1048576) :
    Calls Tryz.prog 52 #[.slice (some ⟨b, 0, none⟩) 2 2] w fun e w' => ∃ v, e = .returned v ∧ w'.ownsRow w.heap.size 5 1 v (l1.length + l2.length) (byteCells (l1 ++ l2)) ∧ Below w.heap.size w w' := by
  obtain ⟨i0, hi, hz0, hz1, hz2⟩ := info_parts info5
  have HK : Hid (∀ w', Below w.heap.size w w' → w'.cell? ⟨b, 0, none⟩ = some (.slice (some a1) l1.length c1) ∧ w'.cell? ⟨b, 1, none⟩ = some (.slice (some a2) l2.length c2) ∧ (∀ j u, (byteCells l1)[j]? = some u → w'.cell? (a1.add j) = some u) ∧ ∀ j u, (byteCells l2)[j]? = some u → w'.cell? (a2.add j) = some u) := fun w' hb =>
    ⟨by rw [hb.cell (p := ⟨b, 0, none⟩) (World.block_lt_of_cell? _ _ k0)]; exact k0, by rw [hb.cell (p := ⟨b, 1, none⟩) (World.block_lt_of_cell? _ _ k1)]; exact k1,
      fun j u hu => by rw [hb.cell (World.block_lt_of_cell? _ _ (h1 j u hu))]; exact h1 j u hu, fun j u hu => by rw [hb.cell (World.block_lt_of_cell? _ _ (h2 j u hu))]; exact h2 j u hu⟩
  have HG := fun z hz => Grow_any (l1.length + l2.length) z hz (by omega) hlen w
  have b1 : Hid ((byteCells l1).length = l1.length) := bc_len l1
  have b2 : Hid ((byteCells l2).length = l2.length) := bc_len l2
  have b3 : Hid (byteCells (l1 ++ l2) = byteCells l1 ++ byteCells l2) := bc_app l1 l2
  have o1 : Hid (∀ u ∈ byteCells l1, u.oneCell' = true) := byteCells_one l1
  have o2 : Hid (∀ u ∈ byteCells l2, u.oneCell' = true) := byteCells_one l2
  generalize byteCells (l1 ++ l2) = X at *
  generalize byteCells l1 = X1 at *
  generalize byteCells l2 = X2 at *
  generalize l1.length = n1 at *
  generalize l2.length = n2 at *
  clear h1 h2
  go_enter Tryz.func52, Tryz.ntmps52
  go_wp2
  go_loop [3, 5, 11] (fun x3 x5 i => ∃ k : Nat, k ≤ 2 ∧ i = .int .i64 k ∧ x3 = .int .i64 ((if k = 0 then 0 else if k = 1 then n1 else n1 + n2 : Nat) : Int)) (fun _ _ i => 2 - (RowKit.intOf i).toNat)
  case atStart => exact ⟨0, by omega, rfl, rfl⟩
  case round =>
    obtain ⟨k, hk, rfl, rfl⟩ := hrel
    have hc : k = 0 ∨ k = 1 ∨ k = 2 := by omega
    rcases hc with rfl | rfl | rfl
    · go_wp2
      go_round
      case rel => exact ⟨1, by omega, by go_num, by go_num⟩
      case measure => simp [RowKit.intOf]
    · go_wp2
      go_round
      case rel => exact ⟨2, by omega, by go_num, by go_num⟩
      case measure => simp [RowKit.intOf]
    · go_wp2_with (go_at_call 74; fail)
      refine (HG _ (by go_num)).mono ?_
      rintro e w3 ⟨v3, rfl, ho3, hb3⟩
      obtain ⟨a3, cv3, rfl⟩ := own_form3 ho3
      have HO3 : Hid (w3.ownsRow w.heap.size 5 1 (.slice a3 0 cv3) 0 [] ∧ Below w.heap.size w w3) := ⟨ho3, hb3⟩
      clear ho3 hb3 HG k0 k1
      go_wp2
      go_loopw [6, 8, 27] (fun o x8 i wr => ∃ (k : Nat) (ao : Option Addr) (cv : Nat), k ≤ 2 ∧ i = .int .i64 k ∧ o = .slice ao (if k = 0 then 0 else if k = 1 then n1 else n1 + n2) cv ∧ Hid (wr.ownsRow w.heap.size 5 1 (.slice ao (if k = 0 then 0 else if k = 1 then n1 else n1 + n2) cv) (if k = 0 then 0 else if k = 1 then n1 else n1 + n2) (if k = 0 then [] else if k = 1 then X1 else X1 ++ X2) ∧ Below w.heap.size w wr)) (fun _ _ i _ => 2 - (RowKit.intOf i).toNat)
      case atStart => exact ⟨0, a3, cv3, by omega, rfl, rfl, HO3⟩
      case round =>
        obtain ⟨k, ao, cv, hk, rfl, rfl, HO⟩ := hrel
        have hc : k = 0 ∨ k = 1 ∨ k = 2 := by omega
        obtain ⟨q0, q1, q2, q3⟩ := HK.out wr HO.out.2
        rcases hc with rfl | rfl | rfl
        · simp only [reduceIte] at HO
          go_wp2_with (at_builtin; refine wpList_append_own _ rfl _ _ 22 rfl w.heap.size 5 i0 (.int .u8 0) 1 1 Tryz.underlying22 hi hz0 hz1 hz2 rfl (by decide) _ 0 [] rfl HO.out.1 a1 n1 c1 X1 rfl (by rw [b1.out]; omega) q2 o1.out (by unfold maxLen; omega) (by omega) (by have := HO.out.2.size; omega) ?_; intro v5 w5 hown5 hgrow5 hnil5; have HQ : Hid (w5.ownsRow w.heap.size 5 1 v5 _ _ ∧ Below w.heap.size w w5) := ⟨hown5, below_grownBy HO.out.2 hgrow5 (Nat.le_refl _) (fun q hq => (HO.out.1.lt q hq).1)⟩; obtain ⟨a5, c5, rfl⟩ := own_form3 hown5; clear hown5 hgrow5 hnil5)
          go_roundw
          case rel => exact ⟨1, a5, c5, by omega, by go_num, by simp, by simpa using HQ⟩
          case measure => simp [RowKit.intOf]
        · simp only [Nat.one_ne_zero, reduceIte] at HO
          go_wp2_with (at_builtin; refine wpList_append_own _ rfl _ _ 22 rfl w.heap.size 5 i0 (.int .u8 0) 1 1 Tryz.underlying22 hi hz0 hz1 hz2 rfl (by decide) _ n1 X1 rfl HO.out.1 a2 n2 c2 X2 rfl (by rw [b2.out]; omega) q3 o2.out (by unfold maxLen; omega) (by omega) (by have := HO.out.2.size; omega) ?_; intro v5 w5 hown5 hgrow5 hnil5; have HQ : Hid (w5.ownsRow w.heap.size 5 1 v5 _ _ ∧ Below w.heap.size w w5) := ⟨hown5, below_grownBy HO.out.2 hgrow5 (Nat.le_refl _) (fun q hq => (HO.out.1.lt q hq).1)⟩; obtain ⟨a5, c5, rfl⟩ := own_form3 hown5; clear hown5 hgrow5 hnil5)
          go_roundw
          case rel => exact ⟨2, a5, c5, by omega, by go_num, by simp, by simpa using HQ⟩
          case measure => simp [RowKit.intOf]
        · have HF : Hid (wr.ownsRow w.heap.size 5 1 (.slice ao (n1 + n2) cv) (n1 + n2) X ∧ Below w.heap.size w wr) := by
            rw [b3.out]; exact HO.out
          clear HO
          go_wp2
          go_ret
          exact ⟨_, rfl, HF.out.1, HF.out.2⟩
end Go.Proofs.YtkpoheknmcepnaaGreatDoor
