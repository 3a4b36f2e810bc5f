/-
  fix: FixSpoilt's walk.
-/
import Derived.Test.YtchkpggdndnpjaaGreatDoorFxPick
import Derived.Deep.RegionLaw
import Derived.Deep.DeepCutAuto
namespace Go.Proofs.YtchkpggdndnpjaaGreatDoor
set_option linter.unusedVariables false
set_option linter.unusedSimpArgs false
open Go.RowKit Go.Great

set_option maxRecDepth 100000 in
set_option maxHeartbeats 4000000 in
theorem FixSpoilt_law (M : Msg) (at_ by_ : Int) (w : World) (hz : M.ok) (a0 : -9223372036854775808 ≤ at_) (a1 : at_ ≤ 9223372036854775807) (b0 : -9223372036854775808 ≤ by_) (b1 : by_ ≤ 9223372036854775807) (he : Env w) :
    Calls Tryz.prog 6 #[.agg M.cs, .int .i64 at_, .int .i64 by_] w fun e w' => e = .returned (.bool true) ∧ Below w.heap.size w w' := by
  have HE : Hid (Env w ∧ M.ok) := ⟨he, hz⟩
  have HO1 : Hid (LM w (w.alloc (.cells M.cs 25)) w.heap.size M) := ⟨heap_alloc_new w _, (Below.refl _ w).alloc (Nat.le_refl _) _⟩
  clear he hz
  go_enter Tryz.func6, Tryz.ntmps6
  go_upto_region 1 with fail
  generalize w.alloc (.cells M.cs 25) = w1 at *
  generalize hcs : M.cs = CS at *
  have Hcs : Hid (M.cs = CS) := hcs
  clear hcs
  go_wp2_with (go_at_call 9; fail)
  refine (shown_any _ (HE.out.1.below HO1.out.below).mon (HE.out.1.below HO1.out.below).pow (HE.out.1.below HO1.out.below).ety).mono ?_
  rintro e w2 ⟨rfl, hb2⟩
  have HO2 : Hid (LM w w2 w.heap.size M) := HO1.out.low hb2
  clear hb2 HO1
  go_upto_region 2 with fail
  refine wp_region_lit ?_
  refine wpList_loadM HO2.out.msg (.tmp 3) rfl rfl rfl ?_
  simp only [Act.put, List.setIfInBounds_toArray, List.set_cons_zero, List.set_cons_succ]
  rw [Hcs.out]
  have HE3 := HE.out.1.below HO2.out.below
  by_cases hv : valE M = 0
  · obtain ⟨b, hj, hl, hEn⟩ := Encode_ok M w2 HE3.mon HE3.pow HE.out.2 hv
    rw [Hcs.out] at hEn
    go_wp2_with (go_at_call 13; fail)
    refine hEn.mono ?_
    rintro e w4 ⟨v, rfl, ho4, hb4⟩
    have hsp : splitL b = .ok (encF M) := join_split hj
    have hpos : 0 < b.length := by
      cases b with
      | nil => exact absurd hsp (by intro h; cases h)
      | cons c r => exact Nat.succ_pos _
    obtain ⟨g, cv, rfl⟩ : ∃ g c, v = .slice (some ⟨g, 0, none⟩) b.length c := by
      rcases ho4.2 with ⟨-, h0⟩ | ⟨g, c, cur, h, -⟩
      · omega
      · exact ⟨g, c, h⟩
    have HB4 : Hid (LM w w4 w.heap.size M ∧ OwnB w4 w2.heap.size (.slice (some ⟨g, 0, none⟩) b.length cv) b) := ⟨HO2.out.low hb4, ho4⟩
    have hk := pickN_lt at_ hpos
    obtain ⟨k, hkk⟩ : ∃ k, k = pickN at_ b.length := ⟨_, rfl⟩
    have HPK : Hid (∀ W, Calls Tryz.prog 15 #[.int .i64 at_, .int .i64 (b.length : Int)] W fun e w' => e = .returned (.int .i64 (k : Int)) ∧ w' = W) := fun W => by rw [hkk]; exact pick_any at_ _ b.length rfl W hpos (by omega) a0 a1
    rw [← hkk] at hk
    have hq := pickN_lt by_ (n := 255) (by decide)
    obtain ⟨q, hqq⟩ : ∃ q, q = pickN by_ 255 := ⟨_, rfl⟩
    have HPQ : Hid (∀ W, Calls Tryz.prog 15 #[.int .i64 by_, .int .i64 255] W fun e w' => e = .returned (.int .i64 (q : Int)) ∧ w' = W) := fun W => by rw [hqq]; exact pick_any by_ _ 255 rfl W (by decide) (by decide) b0 b1
    rw [← hqq] at hq
    clear hkk hqq a0 a1 b0 b1
    obtain ⟨x, hx, hxe⟩ := spoil_byte b[k] q hq
    obtain ⟨y, hy⟩ := turned_bad hsp k x hk hx
    have HY : Hid (splitL (b.set k x) = .error y ∧ b.length ≤ 1024) := ⟨hy, hl⟩
    obtain ⟨c4, z4⟩ := ho4.cell k hk
    have hgB := (ho4.lt g rfl).1
    have HK : Hid (Below w.heap.size w (w4.setCell ⟨g, k, none⟩ (.int .u8 (x.toNat : Int))).drew ∧ SrcB (w4.setCell ⟨g, k, none⟩ (.int .u8 (x.toNat : Int))).drew (.slice (some ⟨g, 0, none⟩) b.length cv) (b.set k x)) := by
      have hd : Below (w4.setCell ⟨g, k, none⟩ (.int .u8 (x.toNat : Int))).heap.size (w4.setCell ⟨g, k, none⟩ (.int .u8 (x.toNat : Int))) (w4.setCell ⟨g, k, none⟩ (.int .u8 (x.toNat : Int))).drew := below_drewN (Below.refl _ _) 1
      have hb := HB4.out.1.below.setCell (Nat.le_trans HO2.out.below.size hgB) (p := ⟨g, k, none⟩) (.int .u8 (x.toNat : Int))
      have h := (HB4.out.2.set k x).src
      rw [List.length_set] at h
      exact ⟨hb.trans (hd.mono hb.size), h.below hd⟩
    clear hsp hj hEn hb4 hy hx HB4 hgB HO2 hv ho4
    obtain ⟨n, hn⟩ : ∃ n, n = b.length := ⟨_, rfl⟩
    rw [← hn] at HPK HK hk HY ⊢
    have hkI : (k : Int) < (n : Int) := by omega
    have hnI : (n : Int) ≤ 1024 := by omega
    generalize b[k] = c at *
    have HN : Hid (n = b.length) := hn
    clear hl hn hpos
    go_wp2_with (go_at_call 15; fail)
    refine (HPK.out w4).mono ?_
    rintro e w5 ⟨rfl, rfl⟩
    clear HPK
    go_upto_region 6 with fail
    go_cut [8] (fun v wx => v = .slice (some ⟨g, 0, none⟩) n cv ∧ Below w.heap.size w wx ∧ SrcB wx (.slice (some ⟨g, 0, none⟩) n cv) (b.set k x))
    case first =>
      go_region_law (first
        | (rw [if_pos (by kernel_rfl)]; refine callR (d := some 42) rfl 15 #[.int .i64 by_, .int .i64 255] (by kernel_rfl) (HPQ.out _) ?_; rintro e w5 ⟨rfl, rfl⟩; refine ⟨_, rfl, ?_⟩))
      all_goals
        go_wp2_with fail
        go_meet
        exact ⟨rfl, HK.out⟩
    case rest =>
      obtain ⟨rfl, hBc, hSc⟩ := hcut
      have HC : Hid (Below w.heap.size w wc ∧ SrcB wc (.slice (some ⟨g, 0, none⟩) n cv) (b.set k x)) := ⟨hBc, hSc⟩
      clear hBc hSc HK HPQ c4 z4 hxe hk hkI hnI hq
      have hlen : (b.set k x).length ≤ 9223372036854775807 := by rw [List.length_set, ← HN.out]; have := HY.out.2; omega
      have HD := Decode_bad HY.out.1 hlen (.slice (some ⟨g, 0, none⟩) n cv) wc HC.out.2 (HE.out.1.below HC.out.1)
      go_upto_region 7 with fail
      rename_i K7 hK7
      refine wp_region_lit ?_
      refine wpList_runTo rfl (some 47) rfl (.slice (some ⟨g, 0, none⟩) n cv) wc (by kernel_rfl) ?_
      refine wpList_callF rfl (some 48) rfl 10 #[.slice (some ⟨g, 0, none⟩) n cv] (by kernel_rfl) HD ?_
      rintro e w6 ⟨gf, rfl, hb6⟩
      refine ⟨_, rfl, ?_⟩
      refine wpList_runTo rfl (some 46) rfl (.tuple #[.agg zeroM.cs, .iface 56 (.pointer (some ⟨gf, 0, none⟩))]) w6 (by kernel_rfl) ?_
      refine wpList_runTo rfl (some 49) rfl (.agg zeroM.cs) w6 (by kernel_rfl) ?_
      refine wpList_runTo rfl (some 50) rfl (.iface 56 (.pointer (some ⟨gf, 0, none⟩))) w6 (by kernel_rfl) ?_
      refine wpList_runTo rfl (some 11) rfl (.pointer (some ⟨w6.heap.size, 0, none⟩)) (w6.alloc (.cells zeroM.cs 25)) (by kernel_rfl) ?_
      simp only [Act.put, List.setIfInBounds_toArray, List.set_cons_zero, List.set_cons_succ]
      refine wpList_store_row rfl 25 (.tmp 11) (.tmp 49) rfl w6.heap.size zeroM.cs (by rfl) (by rfl) 25 _ (heap_alloc_new w6 _) (by rw [Msg.cs_size]; kernel_rfl) (by simp only [Msg.cs_size]) (Msg.cs_one _) ?_
      refine wpList_runTo rfl (some 12) rfl (.iface 56 (.pointer (some ⟨gf, 0, none⟩))) ((w6.alloc (.cells zeroM.cs 25)).setRow w6.heap.size zeroM.cs) (by kernel_rfl) ?_
      refine wpList_nil ?_
      refine hK7 _ _ ?_
      clear hK7
      simp only [Act.put, List.setIfInBounds_toArray, List.set_cons_zero, List.set_cons_succ]
      have HO7 : Hid (LM w ((w6.alloc (.cells zeroM.cs 25)).setRow w6.heap.size zeroM.cs) w6.heap.size zeroM ∧ SrcB ((w6.alloc (.cells zeroM.cs 25)).setRow w6.heap.size zeroM.cs) (.slice (some ⟨g, 0, none⟩) n cv) (b.set k x)) := ⟨⟨put_own, (HC.out.1.trans (hb6.mono HC.out.1.size)).trans (put_below.mono (Nat.le_trans HC.out.1.size hb6.size))⟩, (HC.out.2.below hb6).below put_below⟩
      clear hb6 HD HC
      generalize (w6.alloc (.cells zeroM.cs 25)).setRow w6.heap.size zeroM.cs = w7 at *
      generalize w6.heap.size = g6 at *
      have HW := Why_bad HY.out.1 hlen (.slice (some ⟨g, 0, none⟩) n cv) w7 HO7.out.2 (HE.out.1.below HO7.out.1.below)
      go_upto_region 8 with fail
      rename_i K8 hK8
      refine wp_region_lit ?_
      refine wpList_runTo rfl (some 52) rfl (.slice (some ⟨g, 0, none⟩) n cv) w7 (by kernel_rfl) ?_
      refine wpList_callF rfl (some 53) rfl 18 #[.slice (some ⟨g, 0, none⟩) n cv] (by kernel_rfl) HW ?_
      rintro e w8 ⟨rfl, hb8⟩
      refine ⟨_, rfl, ?_⟩
      refine wpList_runTo rfl (some 51) rfl (.tuple #[.int .i64 (-1), .int .i64 0, .agg zeroM.cs]) w8 (by kernel_rfl) ?_
      refine wpList_runTo rfl (some 54) rfl (.int .i64 (-1)) w8 (by kernel_rfl) ?_
      refine wpList_runTo rfl (some 55) rfl (.int .i64 0) w8 (by kernel_rfl) ?_
      refine wpList_runTo rfl (some 56) rfl (.agg zeroM.cs) w8 (by kernel_rfl) ?_
      refine wpList_runTo rfl (some 15) rfl (.pointer (some ⟨w8.heap.size, 0, none⟩)) (w8.alloc (.cells zeroM.cs 25)) (by kernel_rfl) ?_
      refine wpList_runTo rfl (some 13) rfl (.int .i64 (-1)) (w8.alloc (.cells zeroM.cs 25)) (by kernel_rfl) ?_
      refine wpList_runTo rfl (some 14) rfl (.int .i64 0) (w8.alloc (.cells zeroM.cs 25)) (by kernel_rfl) ?_
      simp only [Act.put, List.setIfInBounds_toArray, List.set_cons_zero, List.set_cons_succ]
      refine wpList_store_row rfl 25 (.tmp 15) (.tmp 56) rfl w8.heap.size zeroM.cs (by rfl) (by rfl) 25 _ (heap_alloc_new w8 _) (by rw [Msg.cs_size]; kernel_rfl) (by simp only [Msg.cs_size]) (Msg.cs_one _) ?_
      refine wpList_nil ?_
      refine hK8 _ _ ?_
      clear hK8
      simp only [Act.put, List.setIfInBounds_toArray, List.set_cons_zero, List.set_cons_succ]
      have HO9 : Hid (LM w ((w8.alloc (.cells zeroM.cs 25)).setRow w8.heap.size zeroM.cs) g6 zeroM ∧ OwnM ((w8.alloc (.cells zeroM.cs 25)).setRow w8.heap.size zeroM.cs) w8.heap.size zeroM) := ⟨(HO7.out.1.low hb8).low put_below, put_own⟩
      clear hb8 HW HO7
      generalize (w8.alloc (.cells zeroM.cs 25)).setRow w8.heap.size zeroM.cs = w9 at *
      generalize w8.heap.size = g8 at *
      go_upto_region 9 with fail
      rename_i K9 hK9
      refine wp_region_lit ?_
      refine wpList_runTo rfl (some 57) rfl (.iface 56 (.pointer (some ⟨gf, 0, none⟩))) w9 (by kernel_rfl) ?_
      refine wpList_runTo rfl (some 58) rfl (.bool true) w9 (by kernel_rfl) ?_
      refine wpList_runTo rfl (some 59) rfl (.bool true) w9 (by kernel_rfl) ?_
      simp only [Act.put, List.setIfInBounds_toArray, List.set_cons_zero, List.set_cons_succ]
      refine wpList_loadG HO9.out.1.msg (.tmp 11) (by kernel_rfl) rfl rfl ?_
      refine wpList_runToG (by kernel_rfl) (some 61) rfl (.agg zeroM.cs) w9 (by kernel_rfl) ?_
      simp only [Act.put, List.setIfInBounds_toArray, List.set_cons_zero, List.set_cons_succ]
      refine wpList_runToG (by kernel_rfl) (some 62) rfl (.bool true) w9 (by exact eqM_run (.tmp 60) (.tmp 61) rfl rfl rfl _) ?_
      simp only [Act.put, List.setIfInBounds_toArray, List.set_cons_zero, List.set_cons_succ]
      refine wpList_runTo rfl (some 63) rfl (.bool true) w9 (by kernel_rfl) ?_
      refine wpList_runTo rfl (some 64) rfl (.bool true) w9 (by kernel_rfl) ?_
      refine wpList_runToG (by kernel_rfl) (some 65) rfl (.int .i64 (-1)) w9 (by kernel_rfl) ?_
      simp only [Act.put, List.setIfInBounds_toArray, List.set_cons_zero, List.set_cons_succ]
      refine wpList_runToG (by kernel_rfl) (some 66) rfl (.bool true) w9 (by kernel_rfl) ?_
      simp only [Act.put, List.setIfInBounds_toArray, List.set_cons_zero, List.set_cons_succ]
      refine wpList_runTo rfl (some 67) rfl (.bool true) w9 (by kernel_rfl) ?_
      refine wpList_runTo rfl (some 68) rfl (.bool true) w9 (by kernel_rfl) ?_
      refine wpList_runToG (by kernel_rfl) (some 69) rfl (.int .i64 0) w9 (by kernel_rfl) ?_
      simp only [Act.put, List.setIfInBounds_toArray, List.set_cons_zero, List.set_cons_succ]
      refine wpList_runToG (by kernel_rfl) (some 70) rfl (.bool true) w9 (by kernel_rfl) ?_
      simp only [Act.put, List.setIfInBounds_toArray, List.set_cons_zero, List.set_cons_succ]
      refine wpList_runTo rfl (some 71) rfl (.bool true) w9 (by kernel_rfl) ?_
      refine wpList_runTo rfl (some 72) rfl (.bool true) w9 (by kernel_rfl) ?_
      simp only [Act.put, List.setIfInBounds_toArray, List.set_cons_zero, List.set_cons_succ]
      refine wpList_loadG HO9.out.2 (.tmp 15) (by kernel_rfl) rfl rfl ?_
      refine wpList_runToG (by kernel_rfl) (some 74) rfl (.agg zeroM.cs) w9 (by kernel_rfl) ?_
      simp only [Act.put, List.setIfInBounds_toArray, List.set_cons_zero, List.set_cons_succ]
      refine wpList_runToG (by kernel_rfl) (some 75) rfl (.bool true) w9 (by exact eqM_run (.tmp 73) (.tmp 74) rfl rfl rfl _) ?_
      simp only [Act.put, List.setIfInBounds_toArray, List.set_cons_zero, List.set_cons_succ]
      refine wpList_runTo rfl (some 76) rfl (.bool true) w9 (by kernel_rfl) ?_
      refine wpList_runTo rfl (some 6) rfl (.bool true) w9 (by kernel_rfl) ?_
      refine wpList_nil ?_
      refine hK9 _ _ ?_
      clear hK9
      simp only [Act.put, List.setIfInBounds_toArray, List.set_cons_zero, List.set_cons_succ]
      go_wp2
      go_ret
      exact ⟨rfl, HO9.out.1.below⟩
  · have hEn := Encode_no M w2 HE3.mon HE.out.2 hv
    rw [Hcs.out] at hEn
    have hv1 : (valE M != 0) = true := by simpa using hv
    clear HE3
    generalize valE M = E at *
    generalize valN M = N at *
    clear hv
    go_wp2_with (go_at_call 13; fail)
    refine hEn.mono ?_
    clear hEn
    rintro e w4 ⟨rfl, hb4⟩
    have HO4 : Hid (LM w w4 w.heap.size M) := HO2.out.low hb4
    clear hb4 HO2
    go_wp2
    go_ret
    exact ⟨rfl, HO4.out.below⟩
end Go.Proofs.YtchkpggdndnpjaaGreatDoor
