/-
  framer: lookBinary.
-/
import Derived.Test.YtkpoheknmcepnaaGreatDoorFrLookT
import Derived.Test.YtkpoheknmcepnaaGreatDoorBSize
import Derived.Deep.RegionHeld3
namespace Go.Proofs.YtkpoheknmcepnaaGreatDoor
set_option linter.unusedVariables false
set_option linter.unusedSimpArgs false
open Go.RowKit Go.Great Go.Lib

theorem frWd_ge {j : Nat} (hj : j < 42) : 1 ≤ wd j := by
  rcases cases42 hj with rfl | rfl | rfl | rfl | rfl | rfl | rfl | rfl | rfl | rfl | rfl | rfl | rfl | rfl | rfl | rfl | rfl | rfl | rfl | rfl | rfl | rfl | rfl | rfl | rfl | rfl | rfl | rfl | rfl | rfl | rfl | rfl | rfl | rfl | rfl | rfl | rfl | rfl | rfl | rfl | rfl | rfl <;> decide
theorem frSize_cs (z : Int) : sizeN z = 0 ∨ 10 < sizeN z ∧ sizeN z ≤ 1000 := by
  cases hK : isK z
  · left; unfold sizeN; rw [js_no hK]; rfl
  · right
    have h1 := size_eq hK
    have hj := (js_yes hK).1
    have hp : 1 ≤ wS (js z) := by
      cases h : js z with
      | nil => exact absurd h hj
      | cons x t =>
        have := frWd_ge (j := x) (by have := (mem_js (z := z) (j := x)).1 (by rw [h]; simp); omega)
        show 1 ≤ wd x + wS t
        omega
    omega
/-- The size of a frame in fixed places, by its first five bytes; whether its sum is right. -/
def sizeF (b : List UInt8) : Option Nat := if sizeN (dL b 4 : Int) = 0 ∨ getN (dL (b.drop 2)) 2 ≠ sizeN (dL b 4 : Int) then none else some (sizeN (dL b 4 : Int))
def okF (b : List UInt8) : Bool := decide (getN (dL (b.drop 6)) 4 = crcL (b.take 6 ++ b.drop 10))
theorem sizeF_some {b : List UInt8} {s : Nat} (h : sizeF b = some s) : 10 < s ∧ s ≤ 1000 := by
  unfold sizeF at h
  split at h
  · cases h
  · rename_i hn
    injection h with h
    rcases frSize_cs (dL b 4 : Int) with q | q
    · exact absurd (.inl q) hn
    · omega
def binS (b : List UInt8) : Sight := (binP sizeF okF b).sight
theorem binS_steady : Steady binS := binP_steady sizeF okF fun b s h => by have := sizeF_some h; omega
theorem dL_dropTake {l : List UInt8} {k m j : Nat} (h : m + j < k) : dL ((l.take k).drop m) j = dL (l.drop m) j := by
  unfold dL
  rw [List.getD_eq_getElem?_getD, List.getD_eq_getElem?_getD, List.getElem?_drop, List.getElem?_drop, List.getElem?_take, if_pos h]
theorem sizeF_take (l : List UInt8) : sizeF (l.take 5) = sizeF l := by
  unfold sizeF
  rw [dL_take (show 4 < 5 by decide), getN_ext 2 (d := dL ((l.take 5).drop 2)) (e := dL (l.drop 2)) fun j hj => dL_dropTake (by omega)]
theorem okF_take (l : List UInt8) {s : Nat} (hs : 10 < s) : okF (l.take s) = decide (getN (dL (l.drop 6)) 4 = crcL (l.take 6 ++ (l.drop 10).take (s - 10))) := by
  unfold okF
  rw [getN_ext 4 (d := dL ((l.take s).drop 6)) (e := dL (l.drop 6)) fun j hj => dL_dropTake (by omega), List.take_take, Nat.min_eq_left (by omega), List.drop_take]
/-- What lookBinary tells, step by step. -/
theorem bin_eq (l : List UInt8) : binP sizeF okF l = match forL [79, 67] 0 l with
    | .begun n => .begun n
    | .wrong => .wrong
    | .whole _ => if l.length < 5 then .begun 5 else match sizeF l with
      | none => .wrong
      | some s => match forL [1] 5 l with
        | .begun n => .begun n
        | .wrong => .wrong
        | .whole _ => if l.length < s then .begun s else if getN (dL (l.drop 6)) 4 = crcL (l.take 6 ++ (l.drop 10).take (s - 10)) then .whole s else .wrong := by
  unfold binP Part.then
  cases forL [79, 67] 0 l with
  | begun n => rfl
  | wrong => rfl
  | whole i =>
    simp only [roomL]
    by_cases h5 : l.length < 5
    · rw [if_pos h5, if_pos h5]
    · rw [if_neg h5, if_neg h5]
      simp only [tellL, sizeF_take]
      cases hs : sizeF l with
      | none => rfl
      | some s =>
        simp only
        cases forL [1] 5 l with
        | begun n => rfl
        | wrong => rfl
        | whole k =>
          simp only
          by_cases hls : l.length < s
          · rw [if_pos hls, if_pos hls]
          · rw [if_neg hls, if_neg hls]
            simp only [okF_take l (sizeF_some hs).1]
            by_cases hc : getN (dL (l.drop 6)) 4 = crcL (l.take 6 ++ (l.drop 10).take (s - 10))
            · rw [if_pos hc]; simp [hc]
            · rw [if_neg hc]; simp [hc]
theorem LSrc.at_ {w : World} {g o : Nat} {l : List UInt8} (h : LSrc w (some ⟨g, o, none⟩) l) : At w g o l := fun j c hj => by
  obtain ⟨hlt, e⟩ := List.getElem?_eq_some_iff.1 hj
  rcases h with h | ⟨b, off, e', hr⟩
  · subst h; cases hlt
  · injection e' with e'
    injection e' with e1 e2 _
    subst e1 e2
    rw [hr j hlt, e]
theorem At.get {w : World} {g o s : Nat} {l : List UInt8} (h : At w g o l) (hs : s ≤ l.length) (n c k : Nat) (hn : n = l.length - s) (hk1 : 1 ≤ k) (hk8 : k ≤ 8) (hkn : k ≤ n) (hnc : n ≤ c) (hm : n ≤ 1048576) :
    Calls Tryz.prog 49 #[.slice (some ⟨g, o + s, none⟩) n c, .int .i64 (k : Int)] w fun e w' => e = .returned (.tuple #[.int .u64 (getN (dL (l.drop s)) k : Int), .bool true]) ∧ w' = w := by
  refine Get_yes (some ⟨g, o + s, none⟩) n c (dL (l.drop s)) k w (.inr ⟨g, o + s, rfl, ?_⟩) hk1 hk8 hkn hnc (by omega)
  have := (h.drop s).row
  rw [List.length_drop, ← hn] at this
  exact this
set_option maxRecDepth 100000 in
set_option maxHeartbeats 4000000 in
theorem lookBinary_any (W0 : World) : LookOK W0 20 binS := by
  intro g o n c l w hbel hs hn hnc hn1
  have hsg := Part.sg_sight (binP sizeF okF l)
  unfold binS
  rw [hsg.1, hsg.2, bin_eq l]
  clear hsg hbel
  have HAT : Hid (At w g o l) := hs.at_
  have HLN : Hid (l.length = n) := hn
  have hf1 := lookFor_any ⟨#[79, 67]⟩ (some ⟨g, o, none⟩) l c 0 0 rfl w hs (by decide) (by omega) (by decide)
  rw [hn] at hf1
  have e1 : (⟨#[79, 67]⟩ : ByteArray).data.toList = [79, 67] := rfl
  rw [e1] at hf1
  clear e1
  cases hfa : forL [79, 67] 0 l with
  | begun m =>
    rw [hfa] at hf1
    have hf2 : Calls Tryz.prog 47 #[.string ⟨#[79, 67]⟩, .slice (some ⟨g, o, none⟩) n c, .int .i64 0] w fun e w' => e = .returned (.tuple #[.int .i64 0, .int .i64 (m : Int)]) ∧ ∃ q, w' = w.drewN q := hf1
    clear hf1 hfa hs hn HAT HLN
    show Calls Tryz.prog _ _ _ fun e w' => e = .returned (.tuple #[.int .i64 0, .int .i64 (m : Int)]) ∧ Sm w w'
    go_enter Tryz.func20, Tryz.ntmps20
    go_wp2_with (go_at_call 47; refine hf2.mono ?_; rintro e w1 ⟨rfl, q, rfl⟩)
    go_ret2
    exact ⟨rfl, (Sm.refl w).drewN q⟩
  | wrong =>
    rw [hfa] at hf1
    have hf2 : Calls Tryz.prog 47 #[.string ⟨#[79, 67]⟩, .slice (some ⟨g, o, none⟩) n c, .int .i64 0] w fun e w' => e = .returned (.tuple #[.int .i64 2, .int .i64 0]) ∧ ∃ q, w' = w.drewN q := hf1
    clear hf1 hfa hs hn HAT HLN
    show Calls Tryz.prog _ _ _ fun e w' => e = .returned (.tuple #[.int .i64 2, .int .i64 0]) ∧ Sm w w'
    go_enter Tryz.func20, Tryz.ntmps20
    go_wp2_with (go_at_call 47; refine hf2.mono ?_; rintro e w1 ⟨rfl, q, rfl⟩)
    go_ret2
    exact ⟨rfl, (Sm.refl w).drewN q⟩
  | whole i =>
    rw [hfa] at hf1
    have hf2 : Calls Tryz.prog 47 #[.string ⟨#[79, 67]⟩, .slice (some ⟨g, o, none⟩) n c, .int .i64 0] w fun e w' => e = .returned (.tuple #[.int .i64 1, .int .i64 (i : Int)]) ∧ ∃ q, w' = w.drewN q := hf1
    clear hf1 hfa
    simp only
    rw [hn]
    by_cases h5 : n < 5
    · rw [if_pos h5]
      have h5' : (n : Int) ≤ 4 := by omega
      clear hs hn HAT HLN
      show Calls Tryz.prog _ _ _ fun e w' => e = .returned (.tuple #[.int .i64 0, .int .i64 5]) ∧ Sm w w'
      go_enter Tryz.func20, Tryz.ntmps20
      go_wp2_with (go_at_call 47; refine hf2.mono ?_; rintro e w1 ⟨rfl, q, rfl⟩)
      go_ret2
      exact ⟨rfl, (Sm.refl w).drewN q⟩
    · rw [if_neg h5]
      have h5' : ¬ (n : Int) ≤ 4 := by omega
      have hc2 : ¬ c = 2 := by omega
      have hx2 : (2 : Int) ≤ (n : Int) := by omega
      have hget := fun q => (show At (w.drewN q) g o l from HAT.out).get (s := 2) (by rw [hn]; omega) (n - 2) (c - 2) 2 (by rw [hn]) (by decide) (by decide) (by omega) (by omega) (by omega)
      obtain ⟨c4, hc4⟩ : ∃ c4, l[4]? = some c4 := ⟨_, List.getElem?_eq_getElem (by rw [hn]; omega)⟩
      have hd4 : dL l 4 = c4.toNat := by unfold dL; rw [List.getD_eq_getElem?_getD, hc4]; rfl
      have hcell4 : ∀ q, (w.drewN q).cell? ⟨g, o + 4, none⟩ = some (.int .u8 (c4.toNat : Int)) := fun q => HAT.out 4 c4 hc4
      have hgl : g < w.heap.size := World.block_lt_of_cell? _ _ (hcell4 0)
      have hsz := frSize_cs (dL l 4 : Int)
      have hL2 : getN (dL (l.drop 2)) 2 < 65536 := getN_lt _ 2 fun j _ => dL_lt _ _
      obtain ⟨S, hS⟩ : ∃ S, sizeN (dL l 4 : Int) = S := ⟨_, rfl⟩
      obtain ⟨L2, hLe⟩ : ∃ L2, getN (dL (l.drop 2)) 2 = L2 := ⟨_, rfl⟩
      have hsF : sizeF l = if S = 0 ∨ L2 ≠ S then none else some S := by unfold sizeF; rw [hS, hLe]
      rw [hsF]
      rw [hLe] at hget hL2
      have HSZ : Hid (∀ w', Calls Tryz.prog 50 #[.int .i64 (c4.toNat : Int)] w' fun e w2 => e = .returned (.int .i64 (S : Int)) ∧ Below w'.heap.size w' w2) := fun w' => by
        have := Size_any (c4.toNat : Int) w'
        rw [show sizeN (c4.toNat : Int) = S by rw [← hS, hd4]] at this
        exact this
      rw [hS] at hsz
      have hcl : (c4.toNat : Int) < 256 := by have := UInt8.toNat_lt c4; omega
      clear hsF hS hLe hd4 hc4
      generalize c4.toNat = z4 at *
      have hwS : IntKind.u64.wrap (S : Int) = (S : Int) := by rw [IntKind.wrap_u64]; omega
      by_cases hbad : S = 0 ∨ L2 ≠ S
      · rw [if_pos hbad]
        show Calls Tryz.prog _ _ _ fun e w' => e = .returned (.tuple #[.int .i64 2, .int .i64 0]) ∧ Sm w w'
        have hk : ∀ q, Calls Tryz.prog 49 #[.slice (some ⟨g, o + 2, none⟩) (n - 2) (c - 2), .int .i64 2] (w.drewN q) fun e w' => e = .returned (.tuple #[.int .u64 (L2 : Int), .bool true]) ∧ w' = w.drewN q := hget
        clear hget hs hn
        go_enter Tryz.func20, Tryz.ntmps20
        go_wp2_with (go_at_call 47; refine hf2.mono ?_; rintro e w1 ⟨rfl, q, rfl⟩; clear hf2)
        go_wp2_with (go_at_call 49; refine (hk _).mono ?_; rintro e w1 ⟨rfl, ew⟩; replace ew := ew.symm; subst ew)
        have hc4' := hcell4 q
        go_wp2_with (go_at_call 50; fail)
        refine (HSZ.out _).mono ?_
        rintro e w2 ⟨rfl, hb2⟩
        have HB2 : Hid (Sm w w2) := ((Sm.refl w).drewN q).trans (Sm.of_below hb2)
        clear hb2 hc4' hcell4 hk
        by_cases hS0 : S = 0
        · subst hS0
          go_wp2
          go_ret2
          exact ⟨rfl, HB2.out⟩
        · have hne : L2 ≠ S := by rcases hbad with q | q; exact absurd q hS0; exact q
          have hne' : ¬ (L2 : Int) = (S : Int) := by omega
          have hne2 : ((L2 : Int) == (S : Int)) = false := by simpa using hne'
          have hS0' : ¬ (S : Int) = 0 := by omega
          have hS02 : ((S : Int) == 0) = false := by simpa using hS0'
          clear hbad
          go_wp2
          go_ret2
          exact ⟨rfl, HB2.out⟩
      · rw [if_neg hbad]
        have hLS : L2 = S := by
          rcases Nat.decEq L2 S with q | q
          · exact absurd (.inr q) hbad
          · exact q
        subst hLS
        have hSz : 10 < L2 ∧ L2 ≤ 1000 := by
          rcases hsz with q | q
          · exact absurd (.inl q) hbad
          · exact q
        clear hbad hsz
        simp only
        obtain ⟨r, hr⟩ : ∃ r : Part Nat, r = (match forL [1] 5 l with
            | .begun n => .begun n
            | .wrong => .wrong
            | .whole _ => if n < L2 then .begun L2 else if getN (dL (l.drop 6)) 4 = crcL (l.take 6 ++ (l.drop 10).take (L2 - 10)) then .whole L2 else .wrong) := ⟨_, rfl⟩
        rw [← hr]
        have HRR : Hid _ := hr
        clear hr
        have HF2 : Hid (∀ w', Below w.heap.size w w' → Calls Tryz.prog 47 #[.string ⟨#[1]⟩, .slice (some ⟨g, o, none⟩) n c, .int .i64 5] w' fun e w2 => e = .returned (.tuple #[.int .i64 (forL [1] 5 l).sg, .int .i64 ((forL [1] 5 l).sz : Int)]) ∧ ∃ q, w2 = w'.drewN q) := fun w' hw' => by
          have := lookFor_any ⟨#[1]⟩ (some ⟨g, o, none⟩) l c 5 5 rfl w' (by
            rcases hs with h | ⟨b', o', e, hr⟩
            · exact .inl h
            · exact .inr ⟨b', o', e, fun j hj => by rw [hw'.cell (p := ⟨b', o' + j, none⟩) (World.block_lt_of_cell? _ _ (hr j hj))]; exact hr j hj⟩) (by decide) (by omega) (by decide)
          rw [hn] at this
          exact this
        have hk : ∀ q, Calls Tryz.prog 49 #[.slice (some ⟨g, o + 2, none⟩) (n - 2) (c - 2), .int .i64 2] (w.drewN q) fun e w' => e = .returned (.tuple #[.int .u64 (L2 : Int), .bool true]) ∧ w' = w.drewN q := hget
        have hS0' : ¬ (L2 : Int) = 0 := by omega
        have hS02 : ((L2 : Int) == 0) = false := by simpa using hS0'
        clear hget hs hn
        go_enter Tryz.func20, Tryz.ntmps20
        go_wp2_with (go_at_call 47; refine hf2.mono ?_; rintro e w1 ⟨rfl, q, rfl⟩; clear hf2)
        go_wp2_with (go_at_call 49; refine (hk _).mono ?_; rintro e w1 ⟨rfl, ew⟩; replace ew := ew.symm; subst ew)
        have hc4' := hcell4 q
        go_wp2_with (go_at_call 50; fail)
        refine (HSZ.out _).mono ?_
        rintro e w2 ⟨rfl, hb2⟩
        have HB2 : Hid (Below w.heap.size w w2) := (below_drewN (Below.refl _ w) q).trans hb2
        clear hb2 hc4' hcell4 hk
        go_wp2_with (go_at_call 47; fail)
        have hfb := HF2.out w2 HB2.out
        cases hfl : forL [1] 5 l with
        | begun m =>
          obtain rfl : r = .begun m := by rw [HRR.out, hfl]
          rw [hfl] at hfb
          have hfb2 : Calls Tryz.prog 47 #[.string ⟨#[1]⟩, .slice (some ⟨g, o, none⟩) n c, .int .i64 5] w2 fun e w3 => e = .returned (.tuple #[.int .i64 0, .int .i64 (m : Int)]) ∧ ∃ q, w3 = w2.drewN q := hfb
          clear hfb
          refine hfb2.mono ?_
          rintro e w3 ⟨rfl, q3, rfl⟩
          go_wp2
          go_ret2
          exact ⟨rfl, (Sm.of_below HB2.out).drewN q3⟩
        | wrong =>
          obtain rfl : r = .wrong := by rw [HRR.out, hfl]
          rw [hfl] at hfb
          have hfb2 : Calls Tryz.prog 47 #[.string ⟨#[1]⟩, .slice (some ⟨g, o, none⟩) n c, .int .i64 5] w2 fun e w3 => e = .returned (.tuple #[.int .i64 2, .int .i64 0]) ∧ ∃ q, w3 = w2.drewN q := hfb
          clear hfb
          refine hfb2.mono ?_
          rintro e w3 ⟨rfl, q3, rfl⟩
          go_wp2
          go_ret2
          exact ⟨rfl, (Sm.of_below HB2.out).drewN q3⟩
        | whole k =>
          rw [hfl] at hfb
          have hfb2 : Calls Tryz.prog 47 #[.string ⟨#[1]⟩, .slice (some ⟨g, o, none⟩) n c, .int .i64 5] w2 fun e w3 => e = .returned (.tuple #[.int .i64 1, .int .i64 (k : Int)]) ∧ ∃ q, w3 = w2.drewN q := hfb
          clear hfb
          have hrr : r = if n < L2 then .begun L2 else if getN (dL (l.drop 6)) 4 = crcL (l.take 6 ++ (l.drop 10).take (L2 - 10)) then .whole L2 else .wrong := by rw [HRR.out, hfl]
          refine hfb2.mono ?_
          rintro e w3 ⟨rfl, q3, rfl⟩
          have HB3 : Hid (Below w.heap.size w (w2.drewN q3)) := below_drewN HB2.out q3
          generalize w2.drewN q3 = w3 at *
          clear hfb2 HB2 hfl HF2 HSZ HRR
          by_cases hlt : n < L2
          · rw [if_pos hlt] at hrr
            subst hrr
            have hlt' : (n : Int) < (L2 : Int) := by omega
            go_wp2
            go_ret2
            exact ⟨rfl, Sm.of_below HB3.out⟩
          · rw [if_neg hlt] at hrr
            have HRR2 : Hid _ := hrr
            clear hrr
            have hlt' : ¬ (n : Int) < (L2 : Int) := by omega
            have hc6 : ¬ c = 6 := by omega
            have hx6 : (6 : Int) ≤ (n : Int) := by omega
            have hget6 := (HAT.out.below HB3.out (Nat.le_refl _)).get (s := 6) (by rw [HLN.out]; omega) (n - 6) (c - 6) 4 (by rw [HLN.out]) (by decide) (by decide) (by omega) (by omega) (by omega)
            have hk6 : Calls Tryz.prog 49 #[.slice (some ⟨g, o + 6, none⟩) (n - 6) (c - 6), .int .i64 4] w3 fun e w' => e = .returned (.tuple #[.int .u64 (getN (dL (l.drop 6)) 4 : Int), .bool true]) ∧ w' = w3 := hget6
            clear hget6
            have hG4 : getN (dL (l.drop 6)) 4 < 4294967296 := getN_lt _ 4 fun j _ => dL_lt _ _
            have hcr := crcL_lt (l.take 6 ++ (l.drop 10).take (L2 - 10))
            have e1 : (l.take 6).length = 6 := by rw [List.length_take, HLN.out]; omega
            have e2 : ((l.drop 10).take (L2 - 10)).length = L2 - 10 := by rw [List.length_take, List.length_drop, HLN.out]; omega
            have HC : Hid (∀ w' b, Below w.heap.size w w' → w'.cell? ⟨b, 0, none⟩ = some (.slice (some ⟨g, o, none⟩) 6 c) → w'.cell? ⟨b, 1, none⟩ = some (.slice (some ⟨g, o + 10, none⟩) (L2 - 10) (c - 10)) →
                Calls Tryz.prog 52 #[.slice (some ⟨b, 0, none⟩) 2 2] w' fun e w2 => ∃ g2 c2, e = .returned (.slice (some ⟨g2, 0, none⟩) (L2 - 4) c2) ∧ At w2 g2 0 (l.take 6 ++ (l.drop 10).take (L2 - 10)) ∧ Below w'.heap.size w' w2) := fun w' b hb k0 k1 => by
              refine (Concat_any b ⟨g, o, none⟩ ⟨g, o + 10, none⟩ c (c - 10) (l.take 6) ((l.drop 10).take (L2 - 10)) w' (by rw [e1]; exact k0) (by rw [e2]; exact k1) ((HAT.out.below hb (Nat.le_refl _)).take 6).cells (((HAT.out.below hb (Nat.le_refl _)).drop 10).take (L2 - 10)).cells (by omega) (by omega)).mono ?_
              rintro e w2 ⟨v, rfl, ho, hb2⟩
              obtain ⟨g2, c2, rfl, _, hl2, hat⟩ := own_at ho (by omega)
              exact ⟨g2, c2, by rw [e1, e2, show 6 + (L2 - 10) = L2 - 4 by omega], hat, hb2⟩
            have HR : Hid (∀ w2 g2 c2, At w2 g2 0 (l.take 6 ++ (l.drop 10).take (L2 - 10)) → Calls Tryz.prog 51 #[.slice (some ⟨g2, 0, none⟩) (L2 - 4) c2] w2 fun e w3 => e = .returned (.int .u32 (crcL (l.take 6 ++ (l.drop 10).take (L2 - 10)) : Int)) ∧ w3 = w2) := fun w2 g2 c2 hat => by
              have hL : (l.take 6 ++ (l.drop 10).take (L2 - 10)).length = L2 - 4 := by rw [List.length_append, e1, e2]; omega
              have := Crc_any g2 0 (L2 - 4) c2 (dL (l.take 6 ++ (l.drop 10).take (L2 - 10))) w2 (by unfold maxLen; omega) (by rw [← hL]; exact hat.row)
              unfold crcL
              rw [hL]; exact this
            clear e1 e2
            generalize crcL (l.take 6 ++ (l.drop 10).take (L2 - 10)) = R at *
            generalize l.take 6 ++ (l.drop 10).take (L2 - 10) = LL at *
            generalize getN (dL (l.drop 6)) 4 = G4 at *
            have hx1 : (6 : Int) ≤ (c : Int) := by omega
            have hx3 : ¬ c = 10 := by omega
            have hx4 : (10 : Int) ≤ (L2 : Int) := by omega
            have hx5 : (L2 : Int) ≤ (c : Int) := by omega
            have hRw : IntKind.u64.wrap (R : Int) = (R : Int) := by rw [IntKind.wrap_u64]; omega
            go_upto_region 16 with (go_at_call 49; refine hk6.mono ?_; rintro e w4 ⟨rfl, ew⟩; replace ew := ew.symm; subst ew)
            rename_i Kd hKd
            by_cases hGR : G4 = R
            · obtain rfl : r = .whole L2 := by rw [HRR2.out, if_pos hGR]
              subst hGR
              refine wp_region_held (S := fun _ => True) (by kernel_rfl) ?_
              change wpAnyH _ _ _ _ _ _ _ _ (World.drew _)
              have HB4 : Hid (Below w.heap.size w w3.drew) := below_drewN HB3.out 1
              generalize w3.drew = w4 at *
              have hS : True := trivial
              refine takeR (i := 0) (v := .int .u64 (G4 : Int)) (some 64) rfl rfl (by kernel_rfl) (by kernel_rfl) (by kernel_rfl) (fun _ _ _ h => h) (Or.inl ⟨by kernel_rfl, fun w' hSw => by kernel_rfl⟩) hS ?_
              simp only [Act.put, List.setIfInBounds_toArray, List.set_cons_zero, List.set_cons_succ]
              refine takeR (i := 1) (v := .slice (some ⟨g, o, none⟩) n c) (some 65) rfl rfl (by kernel_rfl) (by kernel_rfl) (by kernel_rfl) (fun _ _ _ h => h) (Or.inl ⟨by kernel_rfl, fun w' hSw => by kernel_rfl⟩) hS ?_
              simp only [Act.put, List.setIfInBounds_toArray, List.set_cons_zero, List.set_cons_succ]
              refine takeR (i := 2) (v := .slice (some ⟨g, o, none⟩) 6 c) (some 66) rfl rfl (by kernel_rfl) (by kernel_rfl) (by kernel_rfl) (fun _ _ _ h => h) (Or.inl ⟨by kernel_rfl, fun w' hSw => by clear hSw; go_simp⟩) hS ?_
              simp only [Act.put, List.setIfInBounds_toArray, List.set_cons_zero, List.set_cons_succ]
              refine takeR (i := 3) (v := .slice (some ⟨g, o, none⟩) n c) (some 67) rfl rfl (by kernel_rfl) (by kernel_rfl) (by kernel_rfl) (fun _ _ _ h => h) (Or.inl ⟨by kernel_rfl, fun w' hSw => by kernel_rfl⟩) hS ?_
              simp only [Act.put, List.setIfInBounds_toArray, List.set_cons_zero, List.set_cons_succ]
              refine takeR (i := 4) (v := .int .i64 (L2 : Int)) (some 68) rfl rfl (by kernel_rfl) (by kernel_rfl) (by kernel_rfl) (fun _ _ _ h => h) (Or.inl ⟨by kernel_rfl, fun w' hSw => by kernel_rfl⟩) hS ?_
              simp only [Act.put, List.setIfInBounds_toArray, List.set_cons_zero, List.set_cons_succ]
              refine takeR (i := 5) (v := .slice (some ⟨g, o + 10, none⟩) (L2 - 10) (c - 10)) (some 69) rfl rfl (by kernel_rfl) (by kernel_rfl) (by kernel_rfl) (fun _ _ _ h => h) (Or.inl ⟨by kernel_rfl, fun w' hSw => by clear hSw; go_simp⟩) hS ?_
              simp only [Act.put, List.setIfInBounds_toArray, List.set_cons_zero, List.set_cons_succ]
              refine wpAnyH_ready (rs := [6]) (by kernel_rfl) (by simp) ?_
              refine AllReadyH.cons rfl (fun K1 hK1 => ?_) AllReadyH.nil
              rw [if_pos (by kernel_rfl)]
              refine valR (d := some 70) rfl (.slice (some ⟨w4.heap.size, 0, none⟩) 2 2) (w' := w4.alloc (.cells #[.slice (some ⟨g, o, none⟩) 6 c, .slice (some ⟨g, o + 10, none⟩) (L2 - 10) (c - 10)] 22)) (by kernel_rfl) ?_
              refine hK1.out _ _ trivial (fun _ => ?_)
              clear hK1
              simp only [Act.put, List.setIfInBounds_toArray, List.set_cons_zero, List.set_cons_succ]
              have hb5 := heap_alloc_new w4 (.cells #[.slice (some ⟨g, o, none⟩) 6 c, .slice (some ⟨g, o + 10, none⟩) (L2 - 10) (c - 10)] 22)
              have HB5 : Hid (Below w.heap.size w (w4.alloc (.cells #[.slice (some ⟨g, o, none⟩) 6 c, .slice (some ⟨g, o + 10, none⟩) (L2 - 10) (c - 10)] 22))) := HB4.out.alloc HB4.out.size _
              have hcc := HC.out _ w4.heap.size HB5.out (cell_at hb5 rfl) (cell_at hb5 rfl)
              clear hb5 HB4
              generalize w4.alloc (.cells #[.slice (some ⟨g, o, none⟩) 6 c, .slice (some ⟨g, o + 10, none⟩) (L2 - 10) (c - 10)] 22) = w5 at *
              generalize w4.heap.size = g5 at *
              refine wpAnyH_ready (rs := [7]) (by kernel_rfl) (by simp) ?_
              refine AllReadyH.cons rfl (fun K1 hK1 => ?_) AllReadyH.nil
              rw [if_pos (by kernel_rfl)]
              refine callR (d := some 71) rfl 52 #[.slice (some ⟨g5, 0, none⟩) 2 2] (by kernel_rfl) hcc ?_
              rintro e w6 ⟨g6, c6, rfl, hat6, hb6⟩
              refine ⟨_, rfl, ?_⟩
              refine hK1.out _ _ trivial (fun _ => ?_)
              clear hK1
              simp only [Act.put, List.setIfInBounds_toArray, List.set_cons_zero, List.set_cons_succ]
              have HB6 : Hid (Below w.heap.size w w6) := HB5.out.trans (hb6.mono HB5.out.size)
              have hcrc := HR.out w6 g6 c6 hat6
              clear hat6 hb6 HB5 hcc
              refine wpAnyH_ready (rs := [8]) (by kernel_rfl) (by simp) ?_
              refine AllReadyH.cons rfl (fun K1 hK1 => ?_) AllReadyH.nil
              rw [if_pos (by kernel_rfl)]
              refine callR (d := some 72) rfl 51 #[.slice (some ⟨g6, 0, none⟩) (L2 - 4) c6] (by kernel_rfl) hcrc ?_
              rintro e w7 ⟨rfl, ew⟩
              replace ew := ew.symm
              subst ew
              refine ⟨_, rfl, ?_⟩
              refine hK1.out _ _ trivial (fun _ => ?_)
              clear hK1 hcrc
              simp only [Act.put, List.setIfInBounds_toArray, List.set_cons_zero, List.set_cons_succ]
              refine takeR (i := 9) (v := (.int .u64 (G4 : Int))) (some 73) rfl rfl (by kernel_rfl) (by kernel_rfl) (by kernel_rfl) (fun _ _ _ h => h) (Or.inl ⟨by kernel_rfl, fun w' hSw => by clear hSw; go_simp⟩) hS ?_
              simp only [Act.put, List.setIfInBounds_toArray, List.set_cons_zero, List.set_cons_succ]
              refine takeR (i := 10) (v := .bool false) (some 74) rfl rfl (by kernel_rfl) (by kernel_rfl) (by kernel_rfl) (fun _ _ _ h => h) (Or.inl ⟨by kernel_rfl, fun w' hSw => by clear hSw; go_simp⟩) hS ?_
              simp only [Act.put, List.setIfInBounds_toArray, List.set_cons_zero, List.set_cons_succ]
              refine wpAnyH_done (by kernel_rfl) ?_ _
              refine hKd _ _ ?_
              clear hKd
              go_wp2
              go_ret2
              exact ⟨rfl, Sm.of_below HB6.out⟩
            · obtain rfl : r = .wrong := by rw [HRR2.out, if_neg hGR]
              have hGR' : ¬ (G4 : Int) = (R : Int) := by omega
              have hGR2 : ((G4 : Int) == (R : Int)) = false := by simpa using hGR'
              refine wp_region_held (S := fun _ => True) (by kernel_rfl) ?_
              change wpAnyH _ _ _ _ _ _ _ _ (World.drew _)
              have HB4 : Hid (Below w.heap.size w w3.drew) := below_drewN HB3.out 1
              generalize w3.drew = w4 at *
              have hS : True := trivial
              refine takeR (i := 0) (v := .int .u64 (G4 : Int)) (some 64) rfl rfl (by kernel_rfl) (by kernel_rfl) (by kernel_rfl) (fun _ _ _ h => h) (Or.inl ⟨by kernel_rfl, fun w' hSw => by kernel_rfl⟩) hS ?_
              simp only [Act.put, List.setIfInBounds_toArray, List.set_cons_zero, List.set_cons_succ]
              refine takeR (i := 1) (v := .slice (some ⟨g, o, none⟩) n c) (some 65) rfl rfl (by kernel_rfl) (by kernel_rfl) (by kernel_rfl) (fun _ _ _ h => h) (Or.inl ⟨by kernel_rfl, fun w' hSw => by kernel_rfl⟩) hS ?_
              simp only [Act.put, List.setIfInBounds_toArray, List.set_cons_zero, List.set_cons_succ]
              refine takeR (i := 2) (v := .slice (some ⟨g, o, none⟩) 6 c) (some 66) rfl rfl (by kernel_rfl) (by kernel_rfl) (by kernel_rfl) (fun _ _ _ h => h) (Or.inl ⟨by kernel_rfl, fun w' hSw => by clear hSw; go_simp⟩) hS ?_
              simp only [Act.put, List.setIfInBounds_toArray, List.set_cons_zero, List.set_cons_succ]
              refine takeR (i := 3) (v := .slice (some ⟨g, o, none⟩) n c) (some 67) rfl rfl (by kernel_rfl) (by kernel_rfl) (by kernel_rfl) (fun _ _ _ h => h) (Or.inl ⟨by kernel_rfl, fun w' hSw => by kernel_rfl⟩) hS ?_
              simp only [Act.put, List.setIfInBounds_toArray, List.set_cons_zero, List.set_cons_succ]
              refine takeR (i := 4) (v := .int .i64 (L2 : Int)) (some 68) rfl rfl (by kernel_rfl) (by kernel_rfl) (by kernel_rfl) (fun _ _ _ h => h) (Or.inl ⟨by kernel_rfl, fun w' hSw => by kernel_rfl⟩) hS ?_
              simp only [Act.put, List.setIfInBounds_toArray, List.set_cons_zero, List.set_cons_succ]
              refine takeR (i := 5) (v := .slice (some ⟨g, o + 10, none⟩) (L2 - 10) (c - 10)) (some 69) rfl rfl (by kernel_rfl) (by kernel_rfl) (by kernel_rfl) (fun _ _ _ h => h) (Or.inl ⟨by kernel_rfl, fun w' hSw => by clear hSw; go_simp⟩) hS ?_
              simp only [Act.put, List.setIfInBounds_toArray, List.set_cons_zero, List.set_cons_succ]
              refine wpAnyH_ready (rs := [6]) (by kernel_rfl) (by simp) ?_
              refine AllReadyH.cons rfl (fun K1 hK1 => ?_) AllReadyH.nil
              rw [if_pos (by kernel_rfl)]
              refine valR (d := some 70) rfl (.slice (some ⟨w4.heap.size, 0, none⟩) 2 2) (w' := w4.alloc (.cells #[.slice (some ⟨g, o, none⟩) 6 c, .slice (some ⟨g, o + 10, none⟩) (L2 - 10) (c - 10)] 22)) (by kernel_rfl) ?_
              refine hK1.out _ _ trivial (fun _ => ?_)
              clear hK1
              simp only [Act.put, List.setIfInBounds_toArray, List.set_cons_zero, List.set_cons_succ]
              have hb5 := heap_alloc_new w4 (.cells #[.slice (some ⟨g, o, none⟩) 6 c, .slice (some ⟨g, o + 10, none⟩) (L2 - 10) (c - 10)] 22)
              have HB5 : Hid (Below w.heap.size w (w4.alloc (.cells #[.slice (some ⟨g, o, none⟩) 6 c, .slice (some ⟨g, o + 10, none⟩) (L2 - 10) (c - 10)] 22))) := HB4.out.alloc HB4.out.size _
              have hcc := HC.out _ w4.heap.size HB5.out (cell_at hb5 rfl) (cell_at hb5 rfl)
              clear hb5 HB4
              generalize w4.alloc (.cells #[.slice (some ⟨g, o, none⟩) 6 c, .slice (some ⟨g, o + 10, none⟩) (L2 - 10) (c - 10)] 22) = w5 at *
              generalize w4.heap.size = g5 at *
              refine wpAnyH_ready (rs := [7]) (by kernel_rfl) (by simp) ?_
              refine AllReadyH.cons rfl (fun K1 hK1 => ?_) AllReadyH.nil
              rw [if_pos (by kernel_rfl)]
              refine callR (d := some 71) rfl 52 #[.slice (some ⟨g5, 0, none⟩) 2 2] (by kernel_rfl) hcc ?_
              rintro e w6 ⟨g6, c6, rfl, hat6, hb6⟩
              refine ⟨_, rfl, ?_⟩
              refine hK1.out _ _ trivial (fun _ => ?_)
              clear hK1
              simp only [Act.put, List.setIfInBounds_toArray, List.set_cons_zero, List.set_cons_succ]
              have HB6 : Hid (Below w.heap.size w w6) := HB5.out.trans (hb6.mono HB5.out.size)
              have hcrc := HR.out w6 g6 c6 hat6
              clear hat6 hb6 HB5 hcc
              refine wpAnyH_ready (rs := [8]) (by kernel_rfl) (by simp) ?_
              refine AllReadyH.cons rfl (fun K1 hK1 => ?_) AllReadyH.nil
              rw [if_pos (by kernel_rfl)]
              refine callR (d := some 72) rfl 51 #[.slice (some ⟨g6, 0, none⟩) (L2 - 4) c6] (by kernel_rfl) hcrc ?_
              rintro e w7 ⟨rfl, ew⟩
              replace ew := ew.symm
              subst ew
              refine ⟨_, rfl, ?_⟩
              refine hK1.out _ _ trivial (fun _ => ?_)
              clear hK1 hcrc
              simp only [Act.put, List.setIfInBounds_toArray, List.set_cons_zero, List.set_cons_succ]
              refine takeR (i := 9) (v := .int .u64 (R : Int)) (some 73) rfl rfl (by kernel_rfl) (by kernel_rfl) (by kernel_rfl) (fun _ _ _ h => h) (Or.inl ⟨by kernel_rfl, fun w' hSw => by clear hSw; go_simp⟩) hS ?_
              simp only [Act.put, List.setIfInBounds_toArray, List.set_cons_zero, List.set_cons_succ]
              refine takeR (i := 10) (v := .bool true) (some 74) rfl rfl (by kernel_rfl) (by kernel_rfl) (by kernel_rfl) (fun _ _ _ h => h) (Or.inl ⟨by kernel_rfl, fun w' hSw => by clear hSw; go_simp⟩) hS ?_
              simp only [Act.put, List.setIfInBounds_toArray, List.set_cons_zero, List.set_cons_succ]
              refine wpAnyH_done (by kernel_rfl) ?_ _
              refine hKd _ _ ?_
              clear hKd
              go_wp2
              go_ret2
              exact ⟨rfl, Sm.of_below HB6.out⟩
end Go.Proofs.YtkpoheknmcepnaaGreatDoor
