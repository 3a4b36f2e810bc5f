import Derived.Test.YtkpoheknmcepnaaGreatDoorBWr
import Derived.Test.YtkpoheknmcepnaaGreatDoorBLay
import Derived.Lib.AppendZeros
import Derived.Laws.AppendOwnNone
import Derived.Test.YtkpoheknmcepnaaGreatDoorBPl

namespace Go.Proofs.YtkpoheknmcepnaaGreatDoor
set_option linter.unusedVariables false
open Go.RowKit Go.Great Go.Lib

set_option maxRecDepth 100000 in
theorem Grow_any (n : Nat) (z : Int) (hz : z = n) (h0 : 0 < n) (hn : n ≤ 1048576) (w : World) :
    Calls Tryz.prog 74 #[.slice none 0 0, .int .i64 z] w fun e w' => ∃ v, e = .returned v ∧ w'.ownsRow w.heap.size 5 1 v 0 [] ∧ Below w.heap.size w w' := by
  subst hz
  obtain ⟨i0, hi, hz0, hz1, hz2⟩ := info_parts info5
  have hr := run_append_nil_zeros (P := Tryz.prog) w 22 3 22 5 i0 (.int .u8 0) .i64 .i64 Tryz.underlying22 Tryz.underlying3 hi hz0 n h0 (by omega) (by omega) (by rw [hz2]; omega)
  have hle := grownCap_ge w n 0 5
  have hmx : grownCap w n 0 5 ≤ maxLen := grownCap_le_maxLen w n 0 5 (by unfold maxLen; omega)
  generalize grownCap w n 0 5 = C at *
  have hf0 : ¬ (n : Int) < 0 := by omega
  have hf1 : (0 : Int) < (n : Int) := by omega
  have HO : Hid ((w.drew.alloc (.cells (Builtin.zeroCells (Value.int .u8 0).cells n ++ Builtin.zeroCells (Value.int .u8 0).cells (C - n)) 5)).ownsRow w.heap.size 5 1 (.slice (some ⟨w.heap.size, 0, none⟩) 0 C) 0 [] ∧ Below w.heap.size w (w.drew.alloc (.cells (Builtin.zeroCells (Value.int .u8 0).cells n ++ Builtin.zeroCells (Value.int .u8 0).cells (C - n)) 5))) :=
    ⟨⟨rfl, .inr ⟨w.heap.size, C, _, rfl, Nat.le_refl _, heap_alloc_new w.drew _, Nat.zero_le _, hmx, by simp [Builtin.zeroCells, Value.cells]; omega, by simp⟩⟩, (below_drewN (Below.refl _ w) 1).alloc (by exact Nat.le_refl _) _⟩
  generalize Builtin.zeroCells _ _ ++ Builtin.zeroCells _ _ = Z at *
  clear hi hz0 hz1 hz2
  go_enter Tryz.func74, Tryz.ntmps74
  go_wp2_with (at_builtin; refine wpList_append_run w rfl _ _ 22 3 rfl (.slice none 0 0) (.int .i64 n) rfl rfl _ _ hr ?_)
  go_ret
  exact ⟨_, rfl, HO.out.1, HO.out.2⟩
theorem own_mono {w : World} {base base' size n : Nat} {e : TypeId} {v : Value} {xs : List Value} (h : w.ownsRow base e size v n xs) (hb : base' ≤ base) : w.ownsRow base' e size v n xs := by
  obtain ⟨h1, h2⟩ := h
  refine ⟨h1, ?_⟩
  rcases h2 with h | ⟨g, cap, cur, rfl, r1, r2, r3, r4, r5, r6⟩
  · exact .inl h
  · exact .inr ⟨g, cap, cur, rfl, by omega, r2, r3, r4, r5, r6⟩
set_option maxRecDepth 100000 in
set_option maxHeartbeats 800000 in
theorem Concat_any (b : Nat) (a1 a2 : Addr) (c1 c2 : Nat) (l1 l2 : List UInt8) (w : World) (k0 : w.cell? ⟨b, 0, none⟩ = some (.slice (some a1) l1.length c1)) (k1 : w.cell? ⟨b, 1, none⟩ = some (.slice (some a2) l2.length c2))
    (h1 : ∀ j u, (byteCells l1)[j]? = some u → w.cell? (a1.add j) = some u) (h2 : ∀ j u, (byteCells l2)[j]? = some u → w.cell? (a2.add j) = some u) (hl1 : 0 < l1.length) (hlen : l1.length + l2.length ≤ 1048576) :
    Calls Tryz.prog 52 #[.slice (some ⟨b, 0, none⟩) 2 2] w fun e w' => ∃ v, e = .returned v ∧ w'.ownsRow w.heap.size 5 1 v (l1.length + l2.length) (byteCells (l1 ++ l2)) ∧ Below w.heap.size w w' := by
  obtain ⟨i0, hi, hz0, hz1, hz2⟩ := info_parts info5
  have HK : Hid (∀ w', Below w.heap.size w w' → w'.cell? ⟨b, 0, none⟩ = some (.slice (some a1) l1.length c1) ∧ w'.cell? ⟨b, 1, none⟩ = some (.slice (some a2) l2.length c2) ∧ (∀ j u, (byteCells l1)[j]? = some u → w'.cell? (a1.add j) = some u) ∧ ∀ j u, (byteCells l2)[j]? = some u → w'.cell? (a2.add j) = some u) := fun w' hb =>
    ⟨by rw [hb.cell (p := ⟨b, 0, none⟩) (World.block_lt_of_cell? _ _ k0)]; exact k0, by rw [hb.cell (p := ⟨b, 1, none⟩) (World.block_lt_of_cell? _ _ k1)]; exact k1,
      fun j u hu => by rw [hb.cell (World.block_lt_of_cell? _ _ (h1 j u hu))]; exact h1 j u hu, fun j u hu => by rw [hb.cell (World.block_lt_of_cell? _ _ (h2 j u hu))]; exact h2 j u hu⟩
  have HG := fun z hz => Grow_any (l1.length + l2.length) z hz (by omega) hlen w
  have b1 : Hid ((byteCells l1).length = l1.length) := bc_len l1
  have b2 : Hid ((byteCells l2).length = l2.length) := bc_len l2
  have b3 : Hid (byteCells (l1 ++ l2) = byteCells l1 ++ byteCells l2) := bc_app l1 l2
  have o1 : Hid (∀ u ∈ byteCells l1, u.oneCell' = true) := byteCells_one l1
  have o2 : Hid (∀ u ∈ byteCells l2, u.oneCell' = true) := byteCells_one l2
  generalize byteCells (l1 ++ l2) = X at *
  generalize byteCells l1 = X1 at *
  generalize byteCells l2 = X2 at *
  generalize l1.length = n1 at *
  generalize l2.length = n2 at *
  clear h1 h2
  go_enter Tryz.func52, Tryz.ntmps52
  go_wp2
  go_loop [3, 5, 11] (fun x3 x5 i => ∃ k : Nat, k ≤ 2 ∧ i = .int .i64 k ∧ x3 = .int .i64 ((if k = 0 then 0 else if k = 1 then n1 else n1 + n2 : Nat) : Int)) (fun _ _ i => 2 - (RowKit.intOf i).toNat)
  case atStart => exact ⟨0, by omega, rfl, rfl⟩
  case round =>
    obtain ⟨k, hk, rfl, rfl⟩ := hrel
    have hc : k = 0 ∨ k = 1 ∨ k = 2 := by omega
    rcases hc with rfl | rfl | rfl
    · go_wp2
      go_round
      case rel => exact ⟨1, by omega, by go_num, by go_num⟩
      case measure => simp [RowKit.intOf]
    · go_wp2
      go_round
      case rel => exact ⟨2, by omega, by go_num, by go_num⟩
      case measure => simp [RowKit.intOf]
    · go_wp2_with (go_at_call 74; fail)
      refine (HG _ (by go_num)).mono ?_
      rintro e w3 ⟨v3, rfl, ho3, hb3⟩
      obtain ⟨a3, cv3, rfl⟩ := own_form3 ho3
      have HO3 : Hid (w3.ownsRow w.heap.size 5 1 (.slice a3 0 cv3) 0 [] ∧ Below w.heap.size w w3) := ⟨ho3, hb3⟩
      clear ho3 hb3 HG k0 k1
      go_wp2
      go_loopw [6, 8, 27] (fun o x8 i wr => ∃ (k : Nat) (ao : Option Addr) (cv : Nat), k ≤ 2 ∧ i = .int .i64 k ∧ o = .slice ao (if k = 0 then 0 else if k = 1 then n1 else n1 + n2) cv ∧ Hid (wr.ownsRow w.heap.size 5 1 (.slice ao (if k = 0 then 0 else if k = 1 then n1 else n1 + n2) cv) (if k = 0 then 0 else if k = 1 then n1 else n1 + n2) (if k = 0 then [] else if k = 1 then X1 else X1 ++ X2) ∧ Below w.heap.size w wr)) (fun _ _ i _ => 2 - (RowKit.intOf i).toNat)
      case atStart => exact ⟨0, a3, cv3, by omega, rfl, rfl, HO3⟩
      case round =>
        obtain ⟨k, ao, cv, hk, rfl, rfl, HO⟩ := hrel
        have hc : k = 0 ∨ k = 1 ∨ k = 2 := by omega
        obtain ⟨q0, q1, q2, q3⟩ := HK.out wr HO.out.2
        rcases hc with rfl | rfl | rfl
        · simp only [reduceIte] at HO
          go_wp2_with (at_builtin; refine wpList_append_own _ rfl _ _ 22 rfl w.heap.size 5 i0 (.int .u8 0) 1 1 Tryz.underlying22 hi hz0 hz1 hz2 rfl (by decide) _ 0 [] rfl HO.out.1 a1 n1 c1 X1 rfl (by rw [b1.out]; omega) q2 o1.out (by unfold maxLen; omega) (by omega) (by have := HO.out.2.size; omega) ?_; intro v5 w5 hown5 hgrow5 hnil5; have HQ : Hid (w5.ownsRow w.heap.size 5 1 v5 _ _ ∧ Below w.heap.size w w5) := ⟨hown5, below_grownBy HO.out.2 hgrow5 (Nat.le_refl _) (fun q hq => (HO.out.1.lt q hq).1)⟩; obtain ⟨a5, c5, rfl⟩ := own_form3 hown5; clear hown5 hgrow5 hnil5)
          go_roundw
          case rel => exact ⟨1, a5, c5, by omega, by go_num, by simp, by simpa using HQ⟩
          case measure => simp [RowKit.intOf]
        · simp only [Nat.one_ne_zero, reduceIte] at HO
          go_wp2_with (at_builtin; refine wpList_append_own _ rfl _ _ 22 rfl w.heap.size 5 i0 (.int .u8 0) 1 1 Tryz.underlying22 hi hz0 hz1 hz2 rfl (by decide) _ n1 X1 rfl HO.out.1 a2 n2 c2 X2 rfl (by rw [b2.out]; omega) q3 o2.out (by unfold maxLen; omega) (by omega) (by have := HO.out.2.size; omega) ?_; intro v5 w5 hown5 hgrow5 hnil5; have HQ : Hid (w5.ownsRow w.heap.size 5 1 v5 _ _ ∧ Below w.heap.size w w5) := ⟨hown5, below_grownBy HO.out.2 hgrow5 (Nat.le_refl _) (fun q hq => (HO.out.1.lt q hq).1)⟩; obtain ⟨a5, c5, rfl⟩ := own_form3 hown5; clear hown5 hgrow5 hnil5)
          go_roundw
          case rel => exact ⟨2, a5, c5, by omega, by go_num, by simp, by simpa using HQ⟩
          case measure => simp [RowKit.intOf]
        · have HF : Hid (wr.ownsRow w.heap.size 5 1 (.slice ao (n1 + n2) cv) (n1 + n2) X ∧ Below w.heap.size w wr) := by
            rw [b3.out]; exact HO.out
          clear HO
          go_wp2
          go_ret
          exact ⟨_, rfl, HF.out.1, HF.out.2⟩
end Go.Proofs.YtkpoheknmcepnaaGreatDoor

namespace Go.Proofs.YtkpoheknmcepnaaGreatDoor
set_option linter.unusedVariables false
open Go.RowKit Go.Great Go.Lib

/-- Bytes that lie from off on. -/
def At (w : World) (g off : Nat) (l : List UInt8) : Prop := ∀ j c, l[j]? = some c → w.cell? ⟨g, off + j, none⟩ = some (.int .u8 (c.toNat : Int))
theorem At.below {w w' : World} {g off B : Nat} {l : List UInt8} (h : At w g off l) (hb : Below B w w') (hB : w.heap.size ≤ B) : At w' g off l := fun j c hj => by
  have := h j c hj
  rw [hb.cell (p := ⟨g, off + j, none⟩) (Nat.lt_of_lt_of_le (World.block_lt_of_cell? _ _ this) hB)]; exact this
theorem At.drop {w : World} {g off : Nat} {l : List UInt8} (h : At w g off l) (n : Nat) : At w g (off + n) (l.drop n) := fun j c hj => by
  rw [List.getElem?_drop] at hj
  have := h (n + j) c hj
  rwa [← Nat.add_assoc] at this
theorem At.take {w : World} {g off : Nat} {l : List UInt8} (h : At w g off l) (n : Nat) : At w g off (l.take n) := fun j c hj => by
  rw [List.getElem?_take] at hj
  split at hj
  · exact h j c hj
  · cases hj
theorem At.cells {w : World} {g off : Nat} {l : List UInt8} (h : At w g off l) : ∀ j u, (byteCells l)[j]? = some u → w.cell? ((⟨g, off, none⟩ : Addr).add j) = some u := fun j u hu => by
  obtain ⟨c, hc, rfl⟩ := bc_at hu
  rw [addr_add]; exact h j c hc
theorem At.row {w : World} {g off : Nat} {l : List UInt8} (h : At w g off l) : Row w g off l.length (dL l) := fun j hj => by
  obtain ⟨c, hc, e⟩ := dL_at hj
  refine ⟨?_, dL_lt l j⟩
  rw [e]; exact h j c hc
theorem OwnL.at_ {w : World} {g : Nat} {l : List UInt8} (h : OwnL w g l) : At w g 0 l := fun j c hj => by rw [Nat.zero_add]; exact h.cell hj
theorem own_at {w : World} {B n : Nat} {v : Value} {l : List UInt8} (h : w.ownsRow B 5 1 v n (byteCells l)) (hn : 0 < n) : ∃ g cap, v = .slice (some ⟨g, 0, none⟩) n cap ∧ B ≤ g ∧ n = l.length ∧ At w g 0 l := by
  obtain ⟨h1, h2⟩ := h
  rw [bc_len] at h1
  rcases h2 with ⟨rfl, h0⟩ | ⟨g, cap, cur, rfl, r1, r2, r3, r4, r5, r6⟩
  · omega
  · refine ⟨g, cap, rfl, r1, by omega, fun j c hj => ?_⟩
    have hjl : j < l.length := (List.getElem?_eq_some_iff.1 hj).1
    have e1 : (byteCells l)[j]? = some (.int .u8 (c.toNat : Int)) := by unfold byteCells; rw [List.getElem?_map, hj]; rfl
    rw [← r6, List.getElem?_take, if_pos (by omega)] at e1
    rw [Nat.zero_add, cell_of_row w g _ cur _ _ r2]; simpa using e1
set_option maxRecDepth 100000 in
set_option maxHeartbeats 800000 in
theorem sumOf_any (g off n cap : Nat) (l : List UInt8) (w : World) (hn : n = l.length) (h10 : 10 < n) (hc : n ≤ cap) (hmax : n ≤ 1048576) (ha : At w g off l) :
    Calls Tryz.prog 27 #[.slice (some ⟨g, off, none⟩) n cap] w fun e w' => e = .returned (.int .u64 (crcL (l.take 6 ++ l.drop 10) : Int)) ∧ Below w.heap.size w w' := by
  have HC : Hid (∀ w' b, Below w.heap.size w w' → w'.cell? ⟨b, 0, none⟩ = some (.slice (some ⟨g, off, none⟩) 6 cap) → w'.cell? ⟨b, 1, none⟩ = some (.slice (some ⟨g, off + 10, none⟩) (n - 10) (cap - 10)) →
      Calls Tryz.prog 52 #[.slice (some ⟨b, 0, none⟩) 2 2] w' fun e w2 => ∃ g2 c2, e = .returned (.slice (some ⟨g2, 0, none⟩) (n - 4) c2) ∧ At w2 g2 0 (l.take 6 ++ l.drop 10) ∧ Below w'.heap.size w' w2) := fun w' b hb k0 k1 => by
    have e1 : (l.take 6).length = 6 := by rw [List.length_take]; omega
    have e2 : (l.drop 10).length = n - 10 := by rw [List.length_drop]; omega
    refine (Concat_any b ⟨g, off, none⟩ ⟨g, off + 10, none⟩ cap (cap - 10) (l.take 6) (l.drop 10) w' (by rw [e1]; exact k0) (by rw [e2]; exact k1) ((ha.below hb (Nat.le_refl _)).take 6).cells ((ha.below hb (Nat.le_refl _)).drop 10).cells (by omega) (by omega)).mono ?_
    rintro e w2 ⟨v, rfl, ho, hb2⟩
    obtain ⟨g2, c2, rfl, _, hl2, hat⟩ := own_at ho (by omega)
    exact ⟨g2, c2, by rw [e1, e2, show 6 + (n - 10) = n - 4 by omega], hat, hb2⟩
  have HR : Hid (∀ w2 g2 c2, At w2 g2 0 (l.take 6 ++ l.drop 10) → Calls Tryz.prog 51 #[.slice (some ⟨g2, 0, none⟩) (n - 4) c2] w2 fun e w3 => e = .returned (.int .u32 (crcL (l.take 6 ++ l.drop 10) : Int)) ∧ w3 = w2) := fun w2 g2 c2 hat => by
    have hL : (l.take 6 ++ l.drop 10).length = n - 4 := by rw [List.length_append, List.length_take, List.length_drop]; omega
    have := Crc_any g2 0 (n - 4) c2 (dL (l.take 6 ++ l.drop 10)) w2 (by unfold maxLen; omega) (by rw [← hL]; exact hat.row)
    unfold crcL
    rw [hL]; exact this
  have hcr := crcL_lt (l.take 6 ++ l.drop 10)
  generalize crcL (l.take 6 ++ l.drop 10) = R at *
  have hx1 : (6 : Int) ≤ (cap : Int) := by omega
  have hx2 : (10 : Int) ≤ (n : Int) := by omega
  have hx3 : ¬ cap = 10 := by omega
  have hx4 : ¬ cap = 0 := by omega
  have hB1 : Below w.heap.size w w.drew := below_drewN (Below.refl _ _) 1
  generalize l.take 6 ++ l.drop 10 = L at *
  clear ha hn
  go_enter Tryz.func27, Tryz.ntmps27
  go_upto_region 1 with fail
  go_region_held3 (fun w' => True) (first | trivial) (first
    | (go_at_call 52; refine (HC.out _ w.heap.size (hB1.alloc (Nat.le_refl _) _) (World.cell?_alloc_new ..) (World.cell?_alloc_new ..)).mono ?_; rintro e w3 ⟨g3, c3, rfl, hat3, hb3⟩; have hB3 : Below w.heap.size w w3 := (hB1.alloc (Nat.le_refl _) _).trans (hb3.mono (by simp)); have HAT : Hid (At w3 g3 0 L) := hat3; clear hb3 hat3)
    | (go_at_call 51; refine (HR.out _ _ _ HAT.out).mono ?_; rintro e w4 ⟨rfl, rfl⟩))
  all_goals go_wp2
  all_goals go_ret
  all_goals exact ⟨ret_int (by rw [IntKind.wrap_u64]; omega), hB3⟩
end Go.Proofs.YtkpoheknmcepnaaGreatDoor
