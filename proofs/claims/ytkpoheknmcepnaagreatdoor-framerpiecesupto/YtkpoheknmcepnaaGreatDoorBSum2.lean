/-
  bin: the sum of a frame.
-/
import Derived.Test.YtkpoheknmcepnaaGreatDoorBSum
import Derived.Test.YtkpoheknmcepnaaGreatDoorBPl
namespace Go.Proofs.YtkpoheknmcepnaaGreatDoor
set_option linter.unusedVariables false
open Go.RowKit Go.Great Go.Lib

/-- Bytes that lie from off on. -/
def At (w : World) (g off : Nat) (l : List UInt8) : Prop := ∀ j c, l[j]? = some c → w.cell? ⟨g, off + j, none⟩ = some (.int .u8 (c.toNat : Int))
theorem At.below {w w' : World} {g off B : Nat} {l : List UInt8} (h : At w g off l) (hb : Below B w w') (hB : w.heap.size ≤ B) : At w' g off l := fun j c hj => by
  have := h j c hj
  rw [hb.cell (p := ⟨g, off + j, none⟩) (Nat.lt_of_lt_of_le (World.block_lt_of_cell? _ _ this) hB)]; exact this
theorem At.drop {w : World} {g off : Nat} {l : List UInt8} (h : At w g off l) (n : Nat) : At w g (off + n) (l.drop n) := fun j c hj => by
  rw [List.getElem?_drop] at hj
  have := h (n + j) c hj
  rwa [← Nat.add_assoc] at this
theorem At.take {w : World} {g off : Nat} {l : List UInt8} (h : At w g off l) (n : Nat) : At w g off (l.take n) := fun j c hj => by
  rw [List.getElem?_take] at hj
  split at hj
  · exact h j c hj
  · cases hj
theorem At.cells {w : World} {g off : Nat} {l : List UInt8} (h : At w g off l) : ∀ j u, (byteCells l)[j]? = some u → w.cell? ((⟨g, off, none⟩ : Addr).add j) = some u := fun j u hu => by
  obtain ⟨c, hc, rfl⟩ := bc_at hu
  rw [addr_add]; exact h j c hc
theorem At.row {w : World} {g off : Nat} {l : List UInt8} (h : At w g off l) : Row w g off l.length (dL l) := fun j hj => by
  obtain ⟨c, hc, e⟩ := dL_at hj
  refine ⟨?_, dL_lt l j⟩
  rw [e]; exact h j c hc
theorem OwnL.at_ {w : World} {g : Nat} {l : List UInt8} (h : OwnL w g l) : At w g 0 l := fun j c hj => by rw [Nat.zero_add]; exact h.cell hj
theorem own_at {w : World} {B n : Nat} {v : Value} {l : List UInt8} (h : w.ownsRow B 5 1 v n (byteCells l)) (hn : 0 < n) : ∃ g cap, v = .slice (some ⟨g, 0, none⟩) n cap ∧ B ≤ g ∧ n = l.length ∧ At w g 0 l := by
  obtain ⟨h1, h2⟩ := h
  rw [bc_len] at h1
  rcases h2 with ⟨rfl, h0⟩ | ⟨g, cap, cur, rfl, r1, r2, r3, r4, r5, r6⟩
  · omega
  · refine ⟨g, cap, rfl, r1, by omega, fun j c hj => ?_⟩
    have hjl : j < l.length := (List.getElem?_eq_some_iff.1 hj).1
    have e1 : (byteCells l)[j]? = some (.int .u8 (c.toNat : Int)) := by unfold byteCells; rw [List.getElem?_map, hj]; rfl
    rw [← r6, List.getElem?_take, if_pos (by omega)] at e1
    rw [Nat.zero_add, cell_of_row w g _ cur _ _ r2]; simpa using e1
set_option maxRecDepth 100000 in
set_option maxHeartbeats 800000 in
theorem sumOf_any (g off n cap : Nat) (l : List UInt8) (w : World) (hn : n = l.length) (h10 : 10 < n) (hc : n ≤ cap) (hmax : n ≤ 1048576) (ha : At w g off l) :
    Calls Tryz.prog 27 #[.slice (some ⟨g, off, none⟩) n cap] w fun e w' => e = .returned (.int .u64 (crcL (l.take 6 ++ l.drop 10) : Int)) ∧ Below w.heap.size w w' := by
  have HC : Hid (∀ w' b, Below w.heap.size w w' → w'.cell? ⟨b, 0, none⟩ = some (.slice (some ⟨g, off, none⟩) 6 cap) → w'.cell? ⟨b, 1, none⟩ = some (.slice (some ⟨g, off + 10, none⟩) (n - 10) (cap - 10)) →
      Calls Tryz.prog 52 #[.slice (some ⟨b, 0, none⟩) 2 2] w' fun e w2 => ∃ g2 c2, e = .returned (.slice (some ⟨g2, 0, none⟩) (n - 4) c2) ∧ At w2 g2 0 (l.take 6 ++ l.drop 10) ∧ Below w'.heap.size w' w2) := fun w' b hb k0 k1 => by
    have e1 : (l.take 6).length = 6 := by rw [List.length_take]; omega
    have e2 : (l.drop 10).length = n - 10 := by rw [List.length_drop]; omega
    refine (Concat_any b ⟨g, off, none⟩ ⟨g, off + 10, none⟩ cap (cap - 10) (l.take 6) (l.drop 10) w' (by rw [e1]; exact k0) (by rw [e2]; exact k1) ((ha.below hb (Nat.le_refl _)).take 6).cells ((ha.below hb (Nat.le_refl _)).drop 10).cells (by omega) (by omega)).mono ?_
    rintro e w2 ⟨v, rfl, ho, hb2⟩
    obtain ⟨g2, c2, rfl, _, hl2, hat⟩ := own_at ho (by omega)
    exact ⟨g2, c2, by rw [e1, e2, show 6 + (n - 10) = n - 4 by omega], hat, hb2⟩
  have HR : Hid (∀ w2 g2 c2, At w2 g2 0 (l.take 6 ++ l.drop 10) → Calls Tryz.prog 51 #[.slice (some ⟨g2, 0, none⟩) (n - 4) c2] w2 fun e w3 => e = .returned (.int .u32 (crcL (l.take 6 ++ l.drop 10) : Int)) ∧ w3 = w2) := fun w2 g2 c2 hat => by
    have hL : (l.take 6 ++ l.drop 10).length = n - 4 := by rw [List.length_append, List.length_take, List.length_drop]; omega
    have := Crc_any g2 0 (n - 4) c2 (dL (l.take 6 ++ l.drop 10)) w2 (by unfold maxLen; omega) (by rw [← hL]; exact hat.row)
    unfold crcL
    rw [hL]; exact this
  have hcr := crcL_lt (l.take 6 ++ l.drop 10)
  generalize crcL (l.take 6 ++ l.drop 10) = R at *
  have hx1 : (6 : Int) ≤ (cap : Int) := by omega
  have hx2 : (10 : Int) ≤ (n : Int) := by omega
  have hx3 : ¬ cap = 10 := by omega
  have hx4 : ¬ cap = 0 := by omega
  have hB1 : Below w.heap.size w w.drew := below_drewN (Below.refl _ _) 1
  generalize l.take 6 ++ l.drop 10 = L at *
  clear ha hn
  go_enter Tryz.func27, Tryz.ntmps27
  go_upto_region 1 with fail
  go_region_held3 (fun w' => True) (first | trivial) (first
    | (go_at_call 52; refine (HC.out _ w.heap.size (hB1.alloc (Nat.le_refl _) _) (World.cell?_alloc_new ..) (World.cell?_alloc_new ..)).mono ?_; rintro e w3 ⟨g3, c3, rfl, hat3, hb3⟩; have hB3 : Below w.heap.size w w3 := (hB1.alloc (Nat.le_refl _) _).trans (hb3.mono (by simp)); have HAT : Hid (At w3 g3 0 L) := hat3; clear hb3 hat3)
    | (go_at_call 51; refine (HR.out _ _ _ HAT.out).mono ?_; rintro e w4 ⟨rfl, rfl⟩))
  all_goals go_wp2
  all_goals go_ret
  all_goals exact ⟨ret_int (by rw [IntKind.wrap_u64]; omega), hB3⟩
end Go.Proofs.YtkpoheknmcepnaaGreatDoor
