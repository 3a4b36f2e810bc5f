/-
  NumSums: the walk.
-/
import Derived.Test.YtochdjdkfmdgeaaDoorShown
import Derived.Test.YtochdjdkfmdgeaaDoorLists
import Derived.Test.YtochdjdkfmdgeaaDoorUps
import Derived.Test.YtochdjdkfmdgeaaDoorStill
import Derived.OpenShut
namespace Go.Proofs.YtochdjdkfmdgeaaDoor
set_option linter.unusedVariables false
open Go.Shelf Go.RowKit Go.Sort Go.Lib

theorem Laid.drewN {W w : World} {n k : Nat} {len : Nat → Nat} {ga gi : Nat} {gb : Nat → Nat} {F : Nat → Nat → Nat} (h : Laid W w n k len ga gi gb F) (q : Nat) : Laid W (w.drewN q) n k len ga gi gb F :=
  ⟨below_drewN h.below q, h.ga_ge, h.gi_ge, h.ne, h.all.keep rfl, h.in_.keep rfl, fun i hi => ⟨(h.row i hi).1, (h.row i hi).2.1, (h.row i hi).2.2.1, (h.row i hi).2.2.2.keep rfl⟩, h.apart⟩
theorem Src.drewN {w : World} {a : Option Addr} {n : Nat} {d : Nat → Nat} (h : Src w a n d) (q : Nat) : Src (w.drewN q) a n d := h.below (below_drewN (Below.refl _ _) q)

set_option maxRecDepth 100000 in
set_option maxHeartbeats 1000000 in
theorem NumSums_law (a : Option Addr) (n cap : Nat) (len : Nat → Nat) (d : Nat → Nat → Nat) (hn : (n + 8) * 24 ≤ 140737488355328) (hlen : ∀ i, i < n → len i ≤ 140737488351232) (w : World) (hs : Src2 w a n len d) (htab : TabIs Tryd.prog w "internal/strconv.uint64pow10" .u64 pow10Tab) :
    Calls Tryd.prog 7 #[.slice a n cap] w fun e w' => e = .returned (.bool true) ∧ Below w.heap.size w w' := by
  have HLen : Hid (∀ i, i < n → len i ≤ 140737488351232) := hlen
  clear hlen
  go_enter Tryd.func7, Tryd.ntmps7
  go_wp2_with (go_at_call 9; fail)
  refine (shown_any _ htab).mono ?_
  rintro e w1 ⟨rfl, hb1⟩
  have HB1 : Hid (Below w.heap.size w w1) := hb1
  have HS1 : Hid (Src2 w1 a n len d) := hs.below hb1
  clear hs hb1 htab
  go_wp2_with (go_at_call 23; fail)
  refine (lists_any a n cap len d w1 hn HS1.out).mono ?_
  rintro e w2 ⟨ga, gi, gb, rfl, hl2⟩
  have HL2 : Hid (Laid w1 w2 n n len ga gi gb (fun i => lentD (len i) (d i))) := hl2
  clear hl2
  go_wp2_with (go_at_call 14; fail)
  refine (sum_laid (by omega) HLen.out HL2.out).mono ?_
  rintro e w3 ⟨rfl, rfl⟩
  rw [sumRows_same (d := fun i => lentD (len i) (d i)) (f := d) n (fun i hi j hj => if_pos hj)]
  have HS3 : Hid (Src2 w3 a n len d) := HS1.out.below HL2.out.below
  go_wp2_with (go_at_call 24; fail)
  refine (refSum_any a n cap len d w3 (by omega) HS3.out).mono ?_
  rintro e w3 ⟨rfl, rfl⟩
  go_wp2_with (go_at_call 14; fail)
  refine (Sum_none w3).mono ?_
  rintro e w3 ⟨rfl, rfl⟩
  go_wp2
  go_loopw [7, 8, 9] (fun i _ _ wr => ∃ k q : Nat, k ≤ n + 8 ∧ i = .int .i64 k ∧ wr = w3.drewN q) (fun i _ _ _ => n + 8 - (RowKit.intOf i).toNat)
  case atStart => exact ⟨0, 0, Nat.zero_le _, rfl, rfl⟩
  case round =>
    obtain ⟨k, q, hk, rfl, hw⟩ := hrel
    have HW : Hid (wr = w3.drewN q) := hw
    have HLr : Hid (Laid w1 wr n n len ga gi gb (fun i => lentD (len i) (d i))) := by rw [hw]; exact HL2.out.drewN q
    have HSr : Hid (Src2 wr a n len d) := HS1.out.below HLr.out.below
    clear hw
    by_cases hlt8 : k < n + 8
    · have hlt8' : (k : Int) < (n : Int) + 8 := by omega
      have ci := HLr.out.in_.cell k hlt8
      by_cases hlt : k < n
      · have hlt' : (k : Int) < (n : Int) := by omega
        have hge : decide (n ≤ k) = false := decide_eq_false (by omega)
        simp only [hlt, if_true] at ci
        have ca := HLr.out.all.cell k hlt8
        simp only [hlt, if_true] at ca
        rcases HSr.out with h0 | ⟨b, off, ea, hr⟩
        · omega
        · obtain ⟨ai, c, cl, hli, hsi⟩ := hr k hlt
          subst ea
          have HK : Hid (∀ m, Src (wr.drewN m) ai (len k) (d k) ∧ OwnA (wr.drewN m) (gb k) (len k + 8) (lentD (len k) (d k))) := fun m => ⟨hsi.drewN m, (HLr.out.row k hlt).2.2.2.keep rfl⟩
          clear hr hsi
          go_wp2
          go_quiet ((go_at_call 16; refine Calls.quiet_of (still_same (gb k) (len k) _ ai _ (d k) _ hli (HK.out _).1 (HK.out _).2)))
          go_wp2
          go_quiet (fail)
          go_wp2_with (go_at_call 15; fail)
          refine (Crc_any (gb k) 0 (len k) (len k + 8) (lentD (len k) (d k)) _ (Nat.le_trans hli (by decide)) ((HK.out _).2.row (by omega))).mono ?_
          rintro e w4 ⟨rfl, hw4⟩
          rw [crcRow_same (d := lentD (len k) (d k)) (f := d k) (len k) (fun j hj => if_pos hj)]
          have HW4 : Hid (∃ q, w4 = wr.drewN q) := ⟨_, hw4⟩
          have HK4 : Hid (∀ m, Src (w4.drewN m) ai (len k) (d k) ∧ OwnA (w4.drewN m) (gb k) (len k + 8) (lentD (len k) (d k))) := fun m => by rw [hw4, World.drewN_drewN]; exact HK.out _
          have ci4 : w4.cell? ⟨gi, k, none⟩ = some (.slice (some ⟨gb k, 0, none⟩) (len k) (len k + 8)) := by rw [hw4]; exact ci
          have ca4 : w4.cell? ⟨ga, k, none⟩ = some (.slice (some ⟨gb k, 0, none⟩) (len k + 8) (len k + 8)) := by rw [hw4]; exact ca
          have cl4 : w4.cell? ⟨b, off + k, none⟩ = some (.slice ai (len k) c) := by rw [hw4]; exact cl
          clear hw4 ci ca cl
          go_wp2
          go_quiet ((go_at_call 16; refine Calls.quiet_of (still_same (gb k) (len k) _ ai _ (d k) _ hli (HK4.out _).1 (HK4.out _).2)))
          go_wp2_with (go_at_call 25; fail)
          refine (refCrc_any ai (len k) _ (d k) _ hli (HK4.out _).1).mono ?_
          rintro e w5 ⟨rfl, hw5⟩
          have HW5 : Hid (∃ q, w5 = wr.drewN q) := by
            obtain ⟨q4, h4⟩ := HW4.out
            exact ⟨_, by rw [hw5, h4, World.drewN_drewN]⟩
          clear HW4 HK4 ci4 ca4 cl4 hw5
          go_wp2
          obtain ⟨q5, h5⟩ := HW5.out
          refine ⟨⟨k + 1, _, by omega, by go_num, by rw [h5, HW.out, World.drewN_drewN]⟩, by simp [RowKit.intOf]; omega⟩
      · simp only [hlt, if_false] at ci
        have hge : (n : Int) ≤ (k : Int) := by omega
        go_wp2
        exact ⟨⟨k + 1, q, by omega, by go_num, HW.out⟩, by simp [RowKit.intOf]; omega⟩
    · obtain rfl : k = n + 8 := by omega
      clear HL2 HS3
      have HZ : Hid (w1.heap.size ≤ wr.heap.size) := HLr.out.below.size
      obtain ⟨i1, hi1, hj0, hj1, hj2⟩ := info_parts info28
      clear HW
      obtain ⟨S, hS⟩ : ∃ S, S = wr.heap.size := ⟨_, rfl⟩
      have HSz : Hid (S = wr.heap.size) := hS
      clear hS
      go_wp2
      go_loopw [10, 11] (fun t i w' => ∃ (k : Nat) (ao : Option Addr) (cv : Nat) (tv : Nat → Value), k ≤ n ∧ i = .int .i64 k ∧ t = .slice ao k cv ∧ Up w1 S w' n k len d ga gi gb (.slice ao k cv) tv) (fun _ i _ => n - (RowKit.intOf i).toNat)
      case atStart =>
        rw [HSz.out]
        exact ⟨0, none, 0, fun _ => undef, Nat.zero_le _, rfl, rfl, by simpa using HLr.out, World.ownsRow_nil _ _ _ _, Nat.le_refl _, HZ.out, HLr.out.all.lt, HLr.out.in_.lt, fun i hi => (HLr.out.row i hi).2.2.2.lt, fun i hi => by omega⟩
      case round =>
        obtain ⟨k, ao, cv, tv, hk, rfl, rfl, hup⟩ := hrel
        have HU : Hid (Up w1 S wr n k len d ga gi gb (.slice ao k cv) tv) := hup
        clear hup HLr HSz
        by_cases hlt : k < n
        · have hlt' : (k : Int) < (n : Int) := by omega
          have hlt8' : (k : Int) < (n : Int) + 8 := by omega
          have ci := HU.out.laid.in_.cell k (by omega)
          simp only [hlt, if_true] at ci
          have hlk := HLen.out k hlt
          go_wp2_with (go_at_call 26; fail)
          have ho := (HU.out.laid.row k hlt).2.2.2
          simp only [Nat.lt_irrefl, if_false] at ho
          refine (turned_any (gb k) (len k) (lentD (len k) (d k)) wr hlk ho).mono ?_
          rintro e w7 ⟨v, rfl, hv7, ho7, ha7⟩
          have HT : Hid (w7.ownsRow wr.heap.size 5 1 v (len k) (bytesUp (lentD (len k) (d k)) (len k)) ∧ OwnA w7 (gb k) (len k + 8) (upD (lentD (len k) (d k)) (len k)) ∧ Apart (gb k) wr w7) := ⟨hv7, ho7, ha7⟩
          have hown7 : Hid (w7.ownsRow S 28 1 (.slice ao k cv) k ((List.range k).map tv)) := ownsRow_of_block HU.out.own fun g hg => by
            obtain ⟨t1, t2, _⟩ := ownsRow_type HU.out.own g hg
            exact ha7.block g t2 (by have := HU.out.gb_lt k hlt; omega)
          have hB : Hid (S ≤ w7.heap.size) := Nat.le_trans HU.out.size ha7.size
          obtain ⟨av, cw, rfl⟩ : ∃ av cw, v = .slice av (len k) cw := by
            rcases hv7.2 with ⟨h1, h2⟩ | ⟨g', cap', cur', h1, _⟩
            · exact ⟨none, 0, by rw [h1, h2]⟩
            · exact ⟨_, _, h1⟩
          clear hv7 ho7 ha7 ho ci
          go_wp2_with (at_builtin; (refine wpList_append_own _ rfl _ _ 41 rfl S 28 i1 (.slice none 0 0) 1 24 Tryd.underlying41 hi1 hj0 hj1 hj2 rfl (by decide) _ k ((List.range k).map tv) rfl (hown7.out.alloc _) ⟨w7.heap.size, 0, none⟩ 1 1 [.slice av (len k) cw] rfl rfl (cell_one_new _ _ _) (fun x hx => by simp at hx; subst hx; rfl) (by unfold maxLen; omega) (by omega) (by have := hB.out; simp; omega) ?_); intro t' w8 hown' hgrow8 hnil8)
          have hg8 : (w7.alloc (.cells #[.slice av (len k) cw] 28)).grownBy w8 (Value.slice ao k cv).ownBlock := hgrow8
          obtain ⟨a8, c8, rfl⟩ : ∃ a8 c8, t' = .slice a8 (k + 1) c8 := by
            rcases hown'.2 with ⟨_, h⟩ | ⟨g3, cap3, _, h, _⟩
            · omega
            · exact ⟨_, _, h⟩
          have hR := HU.out.step hlt HT.out.1 HT.out.2.1 HT.out.2.2 hown' hg8
          go_roundw
          case rel =>
            first
              | exact ⟨k + 1, a8, c8, tvAt tv k (.slice av (len k) cw), by omega, by go_num, rfl, hR⟩
              | ((repeat apply Exists.intro); exact ⟨⟨k + 1, a8, c8, tvAt tv k (.slice av (len k) cw), by omega, by go_num, rfl, hR⟩, rfl⟩)
          case measure => simp [RowKit.intOf]; omega
        · obtain rfl : n = k := by omega
          have HS2 : Hid (Src2 wr ao n len (fun i j => (lentD (len i) (d i) j + 1) % 256)) := src2_of_up HLen.out HU.out
          obtain ⟨w9, hw9⟩ : ∃ w9, w9 = wr := ⟨_, rfl⟩
          have HLd : Hid (Laid w1 w9 n n len ga gi gb (fun i => if i < n then upD (lentD (len i) (d i)) (len i) else lentD (len i) (d i))) := by rw [hw9]; exact HU.out.laid
          have HS9 : Hid (Src2 w9 ao n len (fun i j => (lentD (len i) (d i) j + 1) % 256)) := by rw [hw9]; exact HS2.out
          have HW9 : Hid (wr = w9) := hw9.symm
          clear HS2 hw9 HU
          go_wp2
          go_loopw [12] (fun i w' => ∃ k q : Nat, k ≤ n ∧ i = .int .i64 k ∧ w' = w9.drewN q) (fun i _ => n - (RowKit.intOf i).toNat)
          case atStart => exact ⟨0, 0, Nat.zero_le _, rfl, HW9.out⟩
          case round =>
            obtain ⟨k, q, hk, rfl, hw⟩ := hrel
            have HW : Hid (wr = w9.drewN q) := hw
            have HLr : Hid (Laid w1 wr n n len ga gi gb (fun i => if i < n then upD (lentD (len i) (d i)) (len i) else lentD (len i) (d i))) := by rw [hw]; exact HLd.out.drewN q
            have HSr : Hid (Src2 wr ao n len (fun i j => (lentD (len i) (d i) j + 1) % 256)) := by rw [hw]; exact HS9.out.below (below_drewN (Below.refl _ _) q)
            clear hw HW9
            by_cases hlt : k < n
            · have hlt' : (k : Int) < (n : Int) := by omega
              have hlt8' : (k : Int) < (n : Int) + 8 := by omega
              have ci := HLr.out.in_.cell k (by omega)
              simp only [hlt, if_true] at ci
              rcases HSr.out with h0 | ⟨b, off, ea, hr⟩
              · omega
              · obtain ⟨ai, c, cl, hli, hsi⟩ := hr k hlt
                subst ea
                have ho := (HLr.out.row k hlt).2.2.2
                simp only [hlt, if_true] at ho
                have HK : Hid (∀ m, Src (wr.drewN m) ai (len k) (fun j => (lentD (len k) (d k) j + 1) % 256) ∧ OwnA (wr.drewN m) (gb k) (len k + 8) (upD (lentD (len k) (d k)) (len k))) := fun m => ⟨hsi.drewN m, ho.keep rfl⟩
                have hcr := crcRow_same (d := upD (lentD (len k) (d k)) (len k)) (f := fun j => (lentD (len k) (d k) j + 1) % 256) (len k) (fun j hj => if_pos hj)
                clear hr hsi ho
                go_wp2
                go_quiet ((first | (go_at_call 15; refine Calls.quiet_of_same (Crc_any (gb k) 0 (len k) (len k + 8) (upD (lentD (len k) (d k)) (len k)) _ (Nat.le_trans hli (by decide)) ((HK.out _).2.row (by omega)))) | (go_at_call 25; refine Calls.quiet_of_same (refCrc_any ai (len k) _ (fun j => (lentD (len k) (d k) j + 1) % 256) _ hli (HK.out _).1))))
                go_wp2
                exact ⟨⟨k + 1, _, by omega, by go_num, by rw [HW.out, World.drewN_drewN]⟩, by simp [RowKit.intOf]; omega⟩
            · obtain rfl : n = k := by omega
              go_wp2_with (go_at_call 14; fail)
              refine (sum_laid (by omega) HLen.out HLr.out).mono ?_
              rintro e w10 ⟨rfl, rfl⟩
              rw [sumRows_same (d := fun i => if i < n then upD (lentD (len i) (d i)) (len i) else lentD (len i) (d i)) (f := fun i j => (lentD (len i) (d i) j + 1) % 256) n (fun i hi j hj => by simp only [hi, if_true]; exact if_pos hj)]
              go_wp2_with (go_at_call 24; fail)
              refine (refSum_any ao n _ len (fun i j => (lentD (len i) (d i) j + 1) % 256) _ (by omega) HSr.out).mono ?_
              rintro e w11 ⟨rfl, rfl⟩
              have HBl := HB1.out.trans (HLr.out.below.mono HB1.out.size)
              have HBh : Hid _ := HBl
              clear HBl
              go_wp2
              go_ret
              exact ⟨rfl, HBh.out⟩
end Go.Proofs.YtochdjdkfmdgeaaDoor
