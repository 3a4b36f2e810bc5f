/-
  RiskApart: the walk.
-/
import Derived.Test.YtgioknkfppaaaaaGAp1
import Derived.Test.YtgioknkfppaaaaaGShown
namespace Go.Proofs.Ytgioknkfppaaaaa
set_option linter.unusedVariables false
set_option linter.unusedSimpArgs false
open Go.RowKit Go.Great Go.Maps

set_option maxRecDepth 100000 in
set_option maxHeartbeats 8000000 in
theorem RiskApart_law (a b : Lim) (a2 : Option Addr) (len2 cap2 : Nat) (t : Nat → Opp) (hn2 : len2 ≤ maxLen) (w : World) (hs : SrcO w a2 len2 t) :
    Calls Try.prog 5 #[.agg a.cs, .agg b.cs, .slice a2 len2 cap2] w fun e w' => e = .returned (.bool true) ∧ Below w.heap.size w w' := by
  have HS : Hid (SrcO w a2 len2 t) := hs
  have hn2' : len2 ≤ 9223372036854775807 := by unfold maxLen at hn2; omega
  have HEa : Hid (a.cs = #[.string a.nm, .int .i64 a.od, .int .i64 a.op, .int .i64 a.po, .int .i64 a.bu, .int .i64 a.pe]) := rfl
  have HEb : Hid (b.cs = #[.string b.nm, .int .i64 b.od, .int .i64 b.op, .int .i64 b.po, .int .i64 b.bu, .int .i64 b.pe]) := rfl
  rw [HEa.out, HEb.out]
  clear hs hn2 HEa HEb
  have HW0 : Hid (∀ c d : Array Value, Below w.heap.size w ((w.alloc (.cells c 30)).alloc (.cells d 30)) ∧ Blk ((w.alloc (.cells c 30)).alloc (.cells d 30)) w.heap.size 30 c ∧ Blk ((w.alloc (.cells c 30)).alloc (.cells d 30)) (w.heap.size + 1) 30 d) := fun c d => ⟨((Below.refl _ w).alloc (Nat.le_refl _) _).alloc (by simp) _, (Blk.new w 30 c).alloc _, Blk.new' _ _ _ (by simp)⟩
  go_enter Try.func5, Try.ntmps5
  go_wp2_with (go_at_call 7; fail)
  have HW1 := HW0.out #[.string a.nm, .int .i64 a.od, .int .i64 a.op, .int .i64 a.po, .int .i64 a.bu, .int .i64 a.pe] #[.string b.nm, .int .i64 b.od, .int .i64 b.op, .int .i64 b.po, .int .i64 b.bu, .int .i64 b.pe]
  generalize ((w.alloc (.cells #[.string a.nm, .int .i64 a.od, .int .i64 a.op, .int .i64 a.po, .int .i64 a.bu, .int .i64 a.pe] 30)).alloc (.cells #[.string b.nm, .int .i64 b.od, .int .i64 b.op, .int .i64 b.po, .int .i64 b.bu, .int .i64 b.pe] 30)) = V0 at *
  refine (shown_any _).mono ?_
  rintro e V1 ⟨rfl, hb1⟩
  have hv1 : Below w.heap.size w V1 := below_step HW1.1 hb1
  have ka := HW1.2.1.below hb1 HW1.2.1.lt
  have kb := HW1.2.2.below hb1 HW1.2.2.lt
  have HV2 : Hid (Below w.heap.size w ((V1.setCell ⟨w.heap.size, 0, none⟩ (.string ⟨#[65]⟩)).setCell ⟨w.heap.size + 1, 0, none⟩ (.string ⟨#[66]⟩)) ∧ Blk ((V1.setCell ⟨w.heap.size, 0, none⟩ (.string ⟨#[65]⟩)).setCell ⟨w.heap.size + 1, 0, none⟩ (.string ⟨#[66]⟩)) w.heap.size 30 #[.string ⟨#[65]⟩, .int .i64 a.od, .int .i64 a.op, .int .i64 a.po, .int .i64 a.bu, .int .i64 a.pe] ∧ Blk ((V1.setCell ⟨w.heap.size, 0, none⟩ (.string ⟨#[65]⟩)).setCell ⟨w.heap.size + 1, 0, none⟩ (.string ⟨#[66]⟩)) (w.heap.size + 1) 30 #[.string ⟨#[66]⟩, .int .i64 b.od, .int .i64 b.op, .int .i64 b.po, .int .i64 b.bu, .int .i64 b.pe]) := ⟨below_set (below_set hv1 (Nat.le_refl _) 0 _) (Nat.le_succ _) 0 _, (ka.set 0 (.string ⟨#[65]⟩)).other (by omega) 0 _, (kb.other (h := w.heap.size) (by omega) 0 (.string ⟨#[65]⟩)).set 0 (.string ⟨#[66]⟩)⟩
  have x0 := ka.cell 0
  have y0 := kb.cell 0
  have x1 := ka.frozen 0
  have y1 := kb.frozen 0
  have hlt0 := ka.lt
  have hlt1 := kb.lt
  simp only [List.getElem?_toArray, List.getElem?_cons_succ, List.getElem?_cons_zero] at x0 y0
  clear HW0 HW1 hb1 hv1 ka kb
  go_upto_region 4 with fail
  generalize ((V1.setCell ⟨w.heap.size, 0, none⟩ (.string ⟨#[65]⟩)).setCell ⟨w.heap.size + 1, 0, none⟩ (.string ⟨#[66]⟩)) = V2 at *
  clear x0 y0 x1 y1 hlt0 hlt1
  have HLT : Hid (w.heap.size < V2.heap.size ∧ w.heap.size + 1 < V2.heap.size) := ⟨HV2.out.2.1.lt, HV2.out.2.2.lt⟩
  have HCA : Hid (∀ V', Below V2.heap.size V2 V' → V'.cell? ⟨w.heap.size, 0, none⟩ = some (.string ⟨#[65]⟩) ∧ V'.cell? ⟨w.heap.size, 1, none⟩ = some (.int .i64 a.od) ∧ V'.cell? ⟨w.heap.size, 2, none⟩ = some (.int .i64 a.op) ∧ V'.cell? ⟨w.heap.size, 3, none⟩ = some (.int .i64 a.po) ∧ V'.cell? ⟨w.heap.size, 4, none⟩ = some (.int .i64 a.bu) ∧ V'.cell? ⟨w.heap.size, 5, none⟩ = some (.int .i64 a.pe)) := fun V' hb => by
    have b1 := HV2.out.2.1.below hb HV2.out.2.1.lt
    exact ⟨b1.cell 0, b1.cell 1, b1.cell 2, b1.cell 3, b1.cell 4, b1.cell 5⟩
  obtain ⟨c0, c1, c2, c3, c4, c5⟩ := HCA.out V2 (Below.refl _ _)
  have d0 := HV2.out.2.2.cell 0
  have d1 := HV2.out.2.2.cell 1
  have d2 := HV2.out.2.2.cell 2
  have d3 := HV2.out.2.2.cell 3
  have d4 := HV2.out.2.2.cell 4
  have d5 := HV2.out.2.2.cell 5
  simp only [List.getElem?_toArray, List.getElem?_cons_succ, List.getElem?_cons_zero] at d0 d1 d2 d3 d4 d5
  have HB2 : Hid (Below w.heap.size w V2) := HV2.out.1
  clear HV2
  have HLtwo : Hid (LimsAt (V2.alloc (.cells #[.string ⟨#[65]⟩, .int .i64 a.od, .int .i64 a.op, .int .i64 a.po, .int .i64 a.bu, .int .i64 a.pe, .string ⟨#[66]⟩, .int .i64 b.od, .int .i64 b.op, .int .i64 b.po, .int .i64 b.bu, .int .i64 b.pe] 30)) V2.heap.size 0 [⟨sA, a.od, a.op, a.po, a.bu, a.pe⟩, ⟨sB, b.od, b.op, b.po, b.bu, b.pe⟩] ∧ Below V2.heap.size V2 (V2.alloc (.cells #[.string ⟨#[65]⟩, .int .i64 a.od, .int .i64 a.op, .int .i64 a.po, .int .i64 a.bu, .int .i64 a.pe, .string ⟨#[66]⟩, .int .i64 b.od, .int .i64 b.op, .int .i64 b.po, .int .i64 b.bu, .int .i64 b.pe] 30))) := ⟨lims_two (Blk.new _ _ _), (Below.refl _ V2).alloc (Nat.le_refl _) _⟩
  have HLone : Hid (∀ V : World, LimsAt (V.alloc (.cells #[.string ⟨#[65]⟩, .int .i64 a.od, .int .i64 a.op, .int .i64 a.po, .int .i64 a.bu, .int .i64 a.pe] 30)) V.heap.size 0 [⟨sA, a.od, a.op, a.po, a.bu, a.pe⟩] ∧ Below V.heap.size V (V.alloc (.cells #[.string ⟨#[65]⟩, .int .i64 a.od, .int .i64 a.op, .int .i64 a.po, .int .i64 a.bu, .int .i64 a.pe] 30))) := fun V => ⟨lims_one (Blk.new _ _ _), (Below.refl _ V).alloc (Nat.le_refl _) _⟩
  cases hla : Lim.ok ⟨sA, a.od, a.op, a.po, a.bu, a.pe⟩
  · have hN1 := New_bad V2.heap.size 0 2 [⟨sA, a.od, a.op, a.po, a.bu, a.pe⟩, ⟨sB, b.od, b.op, b.po, b.bu, b.pe⟩] _ HLtwo.out.1 (by show 2 ≤ 16; decide) 0 (by show 0 < 2; decide) ⟨by show 0 ≤ 16; decide, fun x hx => (by simp at hx), (by simp)⟩ (fun x hx => by simp at hx; rw [← hx]; exact hla)
    have HN2 : Hid (∀ V : World, Calls Try.prog 9 #[.slice (some ⟨V.heap.size, 0, none⟩) 1 1] (V.alloc (.cells #[.string ⟨#[65]⟩, .int .i64 a.od, .int .i64 a.op, .int .i64 a.po, .int .i64 a.bu, .int .i64 a.pe] 30)) fun e w' => e = .returned (.tuple #[.pointer none, .int .i64 1]) ∧ Below (V.alloc (.cells #[.string ⟨#[65]⟩, .int .i64 a.od, .int .i64 a.op, .int .i64 a.po, .int .i64 a.bu, .int .i64 a.pe] 30)).heap.size (V.alloc (.cells #[.string ⟨#[65]⟩, .int .i64 a.od, .int .i64 a.op, .int .i64 a.po, .int .i64 a.bu, .int .i64 a.pe] 30)) w') := fun V => New_bad V.heap.size 0 1 [⟨sA, a.od, a.op, a.po, a.bu, a.pe⟩] _ (HLone.out V).1 (by show 1 ≤ 16; decide) 0 (by show 0 < 1; decide) ⟨by show 0 ≤ 16; decide, fun x hx => (by simp at hx), (by simp)⟩ (fun x hx => by simp at hx; rw [← hx]; exact hla)
    clear hla
    go_wp2_with (go_at_call 9; fail)
    refine hN1.mono ?_
    rintro e V3 ⟨rfl, hb3⟩
    have HB3 : Hid (Below V2.heap.size V2 V3) := below_step HLtwo.out.2 hb3
    clear hb3 hN1 c0 c1 c2 c3 c4 c5 d0 d1 d2 d3 d4 d5
    obtain ⟨c0, c1, c2, c3, c4, c5⟩ := HCA.out V3 HB3.out
    go_wp2_with (go_at_call 9; fail)
    refine (HN2.out V3).mono ?_
    rintro e V4 ⟨rfl, hb4⟩
    have HB4 : Hid (Below w.heap.size w V4) := below_step HB2.out (below_step HB3.out (below_step (HLone.out V3).2 hb4))
    clear hb4 c0 c1 c2 c3 c4 c5
    go_wp2
    go_ret
    exact ⟨rfl, HB4.out⟩
  have HN2 : Hid (∀ V : World, Calls Try.prog 9 #[.slice (some ⟨V.heap.size, 0, none⟩) 1 1] (V.alloc (.cells #[.string ⟨#[65]⟩, .int .i64 a.od, .int .i64 a.op, .int .i64 a.po, .int .i64 a.bu, .int .i64 a.pe] 30)) fun e w' => ∃ G, e = .returned (.tuple #[.pointer (some ⟨G.g, 0, none⟩), .int .i64 0]) ∧ GdAt w' G ∧ Fresh (V.alloc (.cells #[.string ⟨#[65]⟩, .int .i64 a.od, .int .i64 a.op, .int .i64 a.po, .int .i64 a.bu, .int .i64 a.pe] 30)).heap.size [⟨sA, a.od, a.op, a.po, a.bu, a.pe⟩] G ∧ Below (V.alloc (.cells #[.string ⟨#[65]⟩, .int .i64 a.od, .int .i64 a.op, .int .i64 a.po, .int .i64 a.bu, .int .i64 a.pe] 30)).heap.size (V.alloc (.cells #[.string ⟨#[65]⟩, .int .i64 a.od, .int .i64 a.op, .int .i64 a.po, .int .i64 a.bu, .int .i64 a.pe] 30)) w') := fun V => New_yes V.heap.size 0 1 [⟨sA, a.od, a.op, a.po, a.bu, a.pe⟩] _ (HLone.out V).1 (ok_one hla)
  cases hlb : Lim.ok ⟨sB, b.od, b.op, b.po, b.bu, b.pe⟩
  · have hN1 := New_bad V2.heap.size 0 2 [⟨sA, a.od, a.op, a.po, a.bu, a.pe⟩, ⟨sB, b.od, b.op, b.po, b.bu, b.pe⟩] _ HLtwo.out.1 (by show 2 ≤ 16; decide) 1 (by show 1 < 2; decide) (ok_one hla) (fun x hx => by simp at hx; rw [← hx]; exact hlb)
    clear hla hlb
    go_wp2_with (go_at_call 9; fail)
    refine hN1.mono ?_
    rintro e V3 ⟨rfl, hb3⟩
    have HB3 : Hid (Below V2.heap.size V2 V3) := below_step HLtwo.out.2 hb3
    clear hb3 hN1 c0 c1 c2 c3 c4 c5 d0 d1 d2 d3 d4 d5
    obtain ⟨c0, c1, c2, c3, c4, c5⟩ := HCA.out V3 HB3.out
    go_wp2_with (go_at_call 9; fail)
    refine (HN2.out V3).mono ?_
    rintro e V4 ⟨G, rfl, _, _, hb4⟩
    have HB4 : Hid (Below w.heap.size w V4) := below_step HB2.out (below_step HB3.out (below_step (HLone.out V3).2 hb4))
    clear hb4 c0 c1 c2 c3 c4 c5
    go_wp2
    go_ret
    exact ⟨rfl, HB4.out⟩
  have hN1 := New_yes V2.heap.size 0 2 [⟨sA, a.od, a.op, a.po, a.bu, a.pe⟩, ⟨sB, b.od, b.op, b.po, b.bu, b.pe⟩] _ HLtwo.out.1 (ok_two hla hlb rfl rfl)
  clear hla hlb
  go_wp2_with (go_at_call 9; fail)
  refine hN1.mono ?_
  rintro e V3 ⟨Gb, rfl, gb3, fb3, hb3⟩
  have HB3 : Hid (Below V2.heap.size V2 V3) := below_step HLtwo.out.2 hb3
  have HGB : Hid (GdAt V3 Gb ∧ Fresh (V2.alloc (.cells #[.string ⟨#[65]⟩, .int .i64 a.od, .int .i64 a.op, .int .i64 a.po, .int .i64 a.bu, .int .i64 a.pe, .string ⟨#[66]⟩, .int .i64 b.od, .int .i64 b.op, .int .i64 b.po, .int .i64 b.bu, .int .i64 b.pe] 30)).heap.size [⟨sA, a.od, a.op, a.po, a.bu, a.pe⟩, ⟨sB, b.od, b.op, b.po, b.bu, b.pe⟩] Gb) := ⟨gb3, fb3⟩
  clear hb3 gb3 fb3 hN1 c0 c1 c2 c3 c4 c5 d0 d1 d2 d3 d4 d5
  obtain ⟨c0, c1, c2, c3, c4, c5⟩ := HCA.out V3 HB3.out
  go_wp2_with (go_at_call 9; fail)
  refine (HN2.out V3).mono ?_
  rintro e V4 ⟨Ga, rfl, ga4, fa4, hb4⟩
  have HAP : Hid (AP w V4 Gb.g Ga.g Gb Ga 0) := by
    have b34 : Below V3.heap.size V3 V4 := below_step (HLone.out V3).2 hb4
    obtain ⟨r1, r2, r3⟩ := rel_start rfl rfl HGB.out.2 fa4 HGB.out.1.apart
    have hz : (V3.alloc (.cells #[.string ⟨#[65]⟩, .int .i64 a.od, .int .i64 a.op, .int .i64 a.po, .int .i64 a.bu, .int .i64 a.pe] 30)).heap.size = V3.heap.size + 1 := by simp
    have hz2 : V2.heap.size ≤ (V2.alloc (.cells #[.string ⟨#[65]⟩, .int .i64 a.od, .int .i64 a.op, .int .i64 a.po, .int .i64 a.bu, .int .i64 a.pe, .string ⟨#[66]⟩, .int .i64 b.od, .int .i64 b.op, .int .i64 b.po, .int .i64 b.bu, .int .i64 b.pe] 30)).heap.size := by simp
    have hz3 := HB2.out.size
    have hz4 := HB3.out.size
    refine ⟨HGB.out.1.below b34, ga4, rfl, rfl, r1, r2, r3, fun q h1 h2 => ?_, fun q h1 => ?_, fun q h1 => ?_, below_step HB2.out (below_step HB3.out b34)⟩
    · have := HGB.out.1.lt h1
      have := fa4.own h2
      omega
    · have := HGB.out.2.own h1
      omega
    · have := fa4.own h1
      omega
  clear hb4 ga4 fa4 HGB HN2 HLone HLtwo HB2 HB3 HCA HLT c0 c1 c2 c3 c4 c5
  go_wp2
  go_loopw [12] (fun i wr => ∃ (k : Nat) (Gb' Ga' : Gd), k ≤ len2 ∧ k ≤ 10000 ∧ i = .int .i64 k ∧ Hid (AP w wr Gb.g Ga.g Gb' Ga' k)) (fun i _ => len2 - (intOf i).toNat)
  case atStart => exact ⟨0, Gb, Ga, by omega, by omega, rfl, HAP⟩
  case round =>
    obtain ⟨k, Hb, Ha, hk, hk4, rfl, HR⟩ := hrel
    by_cases hlt : k < len2 ∧ k < 10000
    · obtain ⟨hl1, hl2⟩ := hlt
      have hl1' : (k : Int) < (len2 : Int) := by omega
      have hl2' : (k : Int) < 10000 := by omega
      rcases HS.out.below HR.out.bel with h0 | ⟨gb, goff, rfl, hcell⟩
      · omega
      obtain ⟨hsrc, hin⟩ := hcell k hl1
      have HSrc : Hid (wr.rangeAt gb (goff + k * 29) (t k).cs.toList) := hsrc
      have HIn : Hid ((t k).inn) := hin
      clear hcell hin hsrc
      generalize t k = p at *
      go_upto_region 13 with fail
      refine wp_region_lit ?_
      refine wpList_runTo rfl (some 59) rfl (.slice (some ⟨gb, goff, none⟩) len2 cap2) wr (by kernel_rfl) ?_
      refine wpList_runTo rfl (some 60) rfl (.int .i64 (k : Int)) wr (by kernel_rfl) ?_
      refine wpList_runTo rfl (some 61) rfl (.pointer (some ⟨gb, goff + k * 29, none⟩)) wr (ixO_run (g := gb) (o := goff) (n := len2) (c := cap2) (.tmp 59) (.tmp 60) rfl (by kernel_rfl) (by kernel_rfl) hl1 wr) ?_
      refine wpList_runTo rfl (some 62) rfl (.agg p.cs) wr (ldO_run HSrc.out (.tmp 61) rfl (by kernel_rfl)) ?_
      refine wpList_runTo rfl (some 13) rfl (.pointer (some ⟨wr.heap.size, 0, none⟩)) (wr.alloc (.cells zO.cs 50)) (by kernel_rfl) ?_
      refine wpList_store_row rfl 50 (.tmp 13) (.tmp 62) rfl wr.heap.size p.cs (by kernel_rfl) (by kernel_rfl) 50 _ (heap_alloc_new wr _) (by rw [Opp.cs_size]; kernel_rfl) (by rw [Opp.cs_size, Opp.cs_size]) (Opp.cs_one _) ?_
      rw [World.setRow_alloc_new]
      refine wpList_nil ?_
      simp only [Act.put, List.setIfInBounds_toArray, List.set_cons_zero, List.set_cons_succ]
      have HX : Hid (AP w (wr.alloc (.cells p.cs 50)) Gb.g Ga.g Hb Ha k ∧ Blk (wr.alloc (.cells p.cs 50)) wr.heap.size 50 p.cs ∧ w.heap.size ≤ wr.heap.size) := ⟨HR.out.below ((Below.refl _ wr).alloc (Nat.le_refl _) _), Blk.new _ _ _, HR.out.bel.size⟩
      clear HSrc HR
      generalize (wr.alloc (.cells p.cs 50)) = X at *
      generalize wr.heap.size = ob at *
      have c1 : X.cell? ⟨ob, 1, none⟩ = some (.int .i64 p.h) := HX.out.2.1.cell 1
      generalize hPCe : p.cs = PC at *
      have HPE : Hid (p.cs = PC) := hPCe
      clear hPCe
      go_upto_region 14 with fail
      go_cut [14] from 63 to 66 (fun x14 wx => ∃ tb : Bool, x14 = .bool tb ∧ wx = X)
      case first =>
        go_wp2
        go_meet
        exact ⟨_, rfl, rfl⟩
      case rest =>
        obtain ⟨tb, rfl, rfl⟩ := hcut
        have hpk := fun w => pick_any p.o.id 1000 1000 rfl w (by omega) (by omega) HIn.out.id.1 HIn.out.id.2
        have hz := pickN_lt p.o.id (show 0 < 1000 by omega)
        generalize pickN p.o.id 1000 = z at *
        have c8 : wc.cell? ⟨ob, 8, none⟩ = some (.int .i64 p.o.id) := (HX.out.2.1.cell 8).trans (by rw [← HPE.out]; rfl)
        have c10 : wc.cell? ⟨ob, 10, none⟩ = some (.string p.o.ac) := (HX.out.2.1.cell 10).trans (by rw [← HPE.out]; rfl)
        have c26 : wc.cell? ⟨ob, 26, none⟩ = some (.string p.ac) := (HX.out.2.1.cell 26).trans (by rw [← HPE.out]; rfl)
        have f8 := HX.out.2.1.frozen 8
        have f10 := HX.out.2.1.frozen 10
        have f26 := HX.out.2.1.frozen 26
        have hlt := HX.out.2.1.lt
        cases tb
        · go_upto_region 23 with (go_at_call 8; refine (hpk _).mono ?_; rintro e w1 ⟨rfl, ew⟩; replace ew := ew.symm; subst ew)
          have HX2 := (show Hid (_ ∧ _) from HX.out.1.mkB (HPE.out ▸ HX.out.2.1) HX.out.2.2 (2 * (z : Int) + 1))
          generalize hX2 : (((wc.setCell ⟨ob, 10, none⟩ (.string ⟨#[66]⟩)).setCell ⟨ob, 26, none⟩ (.string ⟨#[66]⟩)).setCell ⟨ob, 8, none⟩ (.int .i64 (2 * (z : Int) + 1))) = X2 at HX2 ⊢
          clear hX2 HX c8 c10 c26 f8 f10 f26 hlt c1
          have HA : Hid (Unit → Calls Try.prog 16 #[.pointer (some ⟨Gb.g, 0, none⟩), .agg (pM false p (2 * (z : Int) + 1)).cs] X2 fun e w' => e = .returned (.agg #[.int .i64 (anT Hb (pM false p (2 * (z : Int) + 1))).1, .int .i64 (anT Hb (pM false p (2 * (z : Int) + 1))).2.1, .int .i64 (anT Hb (pM false p (2 * (z : Int) + 1))).2.2]) ∧ GdAt w' (anG Hb (pM false p (2 * (z : Int) + 1))) ∧ Fr X2 w' Hb.own ∧ ∀ b, (anG Hb (pM false p (2 * (z : Int) + 1))).own b ↔ Hb.own b) := fun _ => by
            have hh := answer_any Hb (pM false p (2 * (z : Int) + 1)) X2 HX2.out.1.gb (pM_ok _ HIn.out (by omega)) (HX2.out.1.lb.lt hk4).1 (HX2.out.1.lb.lt hk4).2
            rw [HX2.out.1.eb] at hh
            exact hh
          generalize hP : pM false p (2 * (z : Int) + 1) = P2 at HX2 HA
          have HP : Hid (pM false p (2 * (z : Int) + 1) = P2) := hP
          clear hP
          refine wp_region_lit ?_
          refine wpList_runTo rfl (some 89) rfl (.pointer (some ⟨Gb.g, 0, none⟩)) X2 (by kernel_rfl) ?_
          refine wpList_runTo rfl (some 90) rfl (.agg P2.cs) X2 (ldB_run HX2.out.2 (.tmp 13) rfl (by kernel_rfl)) ?_
          refine wpList_callW rfl (some 91) rfl 16 #[.pointer (some ⟨Gb.g, 0, none⟩), .agg P2.cs] (by kernel_rfl) (HA.out ()) ?_
          rintro e Y ⟨rfl, hgY, hfY, hoY⟩
          refine ⟨_, rfl, ?_⟩
          refine wpList_runTo rfl (some 15) rfl (.pointer (some ⟨Y.heap.size, 0, none⟩)) (Y.alloc (.cells #[.int .i64 0, .int .i64 0, .int .i64 0] 52)) (by kernel_rfl) ?_
          refine wpList_store_row rfl 52 (.tmp 15) (.tmp 91) rfl Y.heap.size #[.int .i64 (anT Hb P2).1, .int .i64 (anT Hb P2).2.1, .int .i64 (anT Hb P2).2.2] (by kernel_rfl) (by kernel_rfl) 52 _ (heap_alloc_new Y _) (by kernel_rfl) rfl (by kernel_rfl) ?_
          rw [World.setRow_alloc_new]
          refine wpList_nil ?_
          simp only [Act.put, List.setIfInBounds_toArray, List.set_cons_zero, List.set_cons_succ]
          clear HA
          have HY : Hid (AP w (Y.alloc (.cells #[.int .i64 (anT Hb P2).1, .int .i64 (anT Hb P2).2.1, .int .i64 (anT Hb P2).2.2] 52)) Gb.g Ga.g (anG Hb P2) Ha (k + 1)) :=
            (HX2.out.1.stepB hgY hfY hoY (step_other HX2.out.1.rel P2 (by rw [← HP.out]; rfl) (by rw [← HP.out]; rfl) (by rw [← HP.out]; show (2 * (z : Int) + 1) % 2 = 1; omega))).below ((Below.refl _ Y).alloc (Nat.le_refl _) _)
          clear HX2 HP hgY hfY hoY
          generalize (Y.alloc (.cells #[.int .i64 (anT Hb P2).1, .int .i64 (anT Hb P2).2.1, .int .i64 (anT Hb P2).2.2] 52)) = Y2 at *
          go_upto_region 24 with fail
          go_quiet (fail)
          go_wp2
          exact ⟨⟨k + 1, _, _, by omega, by omega, rfl, HY.out.below (below_drewN (Below.refl _ _) _)⟩, by simp [intOf]; omega⟩
        · go_upto_region 23 with (go_at_call 8; refine (hpk _).mono ?_; rintro e w1 ⟨rfl, ew⟩; replace ew := ew.symm; subst ew)
          have HX2 := (show Hid (_ ∧ _) from HX.out.1.mkA (HPE.out ▸ HX.out.2.1) HX.out.2.2 (2 * (z : Int) + 1) (2 * (z : Int) + 1 + 1))
          generalize hX2 : ((((((wc.setCell ⟨ob, 10, none⟩ (.string ⟨#[66]⟩)).setCell ⟨ob, 26, none⟩ (.string ⟨#[66]⟩)).setCell ⟨ob, 10, none⟩ (.string ⟨#[65]⟩)).setCell ⟨ob, 26, none⟩ (.string ⟨#[65]⟩)).setCell ⟨ob, 8, none⟩ (.int .i64 (2 * (z : Int) + 1))).setCell ⟨ob, 8, none⟩ (.int .i64 (2 * (z : Int) + 1 + 1))) = X2 at HX2 ⊢
          clear hX2 HX c8 c10 c26 f8 f10 f26 hlt c1
          have HA : Hid (Unit → Calls Try.prog 16 #[.pointer (some ⟨Gb.g, 0, none⟩), .agg (pM true p (2 * (z : Int) + 1 + 1)).cs] X2 fun e w' => e = .returned (.agg #[.int .i64 (anT Hb (pM true p (2 * (z : Int) + 1 + 1))).1, .int .i64 (anT Hb (pM true p (2 * (z : Int) + 1 + 1))).2.1, .int .i64 (anT Hb (pM true p (2 * (z : Int) + 1 + 1))).2.2]) ∧ GdAt w' (anG Hb (pM true p (2 * (z : Int) + 1 + 1))) ∧ Fr X2 w' Hb.own ∧ ∀ b, (anG Hb (pM true p (2 * (z : Int) + 1 + 1))).own b ↔ Hb.own b) := fun _ => by
            have hh := answer_any Hb (pM true p (2 * (z : Int) + 1 + 1)) X2 HX2.out.1.gb (pM_ok _ HIn.out (by omega)) (HX2.out.1.lb.lt hk4).1 (HX2.out.1.lb.lt hk4).2
            rw [HX2.out.1.eb] at hh
            exact hh
          generalize hP : pM true p (2 * (z : Int) + 1 + 1) = P2 at HX2 HA
          have HP : Hid (pM true p (2 * (z : Int) + 1 + 1) = P2) := hP
          clear hP
          refine wp_region_lit ?_
          refine wpList_runTo rfl (some 89) rfl (.pointer (some ⟨Gb.g, 0, none⟩)) X2 (by kernel_rfl) ?_
          refine wpList_runTo rfl (some 90) rfl (.agg P2.cs) X2 (ldB_run HX2.out.2 (.tmp 13) rfl (by kernel_rfl)) ?_
          refine wpList_callW rfl (some 91) rfl 16 #[.pointer (some ⟨Gb.g, 0, none⟩), .agg P2.cs] (by kernel_rfl) (HA.out ()) ?_
          rintro e Y ⟨rfl, hgY, hfY, hoY⟩
          refine ⟨_, rfl, ?_⟩
          refine wpList_runTo rfl (some 15) rfl (.pointer (some ⟨Y.heap.size, 0, none⟩)) (Y.alloc (.cells #[.int .i64 0, .int .i64 0, .int .i64 0] 52)) (by kernel_rfl) ?_
          refine wpList_store_row rfl 52 (.tmp 15) (.tmp 91) rfl Y.heap.size #[.int .i64 (anT Hb P2).1, .int .i64 (anT Hb P2).2.1, .int .i64 (anT Hb P2).2.2] (by kernel_rfl) (by kernel_rfl) 52 _ (heap_alloc_new Y _) (by kernel_rfl) rfl (by kernel_rfl) ?_
          rw [World.setRow_alloc_new]
          refine wpList_nil ?_
          simp only [Act.put, List.setIfInBounds_toArray, List.set_cons_zero, List.set_cons_succ]
          clear HA
          go_upto_region 24 with fail
          obtain ⟨hte, hre⟩ := step_mine HX2.out.1.rel P2 (by rw [← HP.out]; rfl) (by rw [← HP.out]; rfl) (by rw [← HP.out]; show (2 * (z : Int) + 1 + 1) % 2 = 0; omega)
          have HA2 : Hid (∀ Z : World, GdAt Z Ha → Calls Try.prog 16 #[.pointer (some ⟨Ga.g, 0, none⟩), .agg P2.cs] Z fun e w' => e = .returned (.agg #[.int .i64 (anT Hb P2).1, .int .i64 (anT Hb P2).2.1, .int .i64 (anT Hb P2).2.2]) ∧ GdAt w' (anG Ha P2) ∧ Fr Z w' Ha.own ∧ ∀ b, (anG Ha P2).own b ↔ Ha.own b) := fun Z hZ => by
            have hh := answer_any Ha P2 Z hZ (HP.out ▸ pM_ok true HIn.out (by omega)) (HX2.out.1.la.lt hk4).1 (HX2.out.1.la.lt hk4).2
            rw [HX2.out.1.ea, ← hte] at hh
            exact hh
          have HRel : Hid (RelX (anG Hb P2) (anG Ha P2)) := hre
          clear hte hre HP
          generalize (anT Hb P2).1 = t1 at *
          generalize (anT Hb P2).2.1 = t2 at *
          generalize (anT Hb P2).2.2 = t3 at *
          refine wp_region_held (S := fun w' => Blk w' Y.heap.size 52 #[.int .i64 t1, .int .i64 t2, .int .i64 t3] ∧ Blk w' ob 50 P2.cs) (by kernel_rfl) ?_
          change wpAnyH _ _ _ _ _ _ _ _ (World.drew _)
          have HM : Hid (_ ∧ _) := HX2.out.1.midA (tv := #[.int .i64 t1, .int .i64 t2, .int .i64 t3]) HX2.out.2 hfY
          have HB1 : Hid (GdAt Y (anG Hb P2) ∧ Fr X2 Y Hb.own ∧ ∀ b, (anG Hb P2).own b ↔ Hb.own b) := ⟨hgY, hfY, hoY⟩
          clear hgY hfY hoY
          generalize (Y.alloc (.cells #[.int .i64 t1, .int .i64 t2, .int .i64 t3] 52)).drew = Z at *
          have hS : Blk Z Y.heap.size 52 #[.int .i64 t1, .int .i64 t2, .int .i64 t3] ∧ Blk Z ob 50 P2.cs := ⟨HM.out.1, HM.out.2.1⟩
          refine takeR (i := 0) (v := .bool true) (some 92) rfl rfl (by kernel_rfl) (by kernel_rfl) (by kernel_rfl) (fun _ _ _ h => h) (Or.inl ⟨by kernel_rfl, fun w' hSw => by kernel_rfl⟩) hS ?_
          simp only [Act.put, List.setIfInBounds_toArray, List.set_cons_zero, List.set_cons_succ]
          refine takeR (i := 1) (v := .bool true) (some 93) rfl rfl (by kernel_rfl) (by kernel_rfl) (by kernel_rfl) (fun _ _ _ h => h) (Or.inl ⟨by kernel_rfl, fun w' hSw => by kernel_rfl⟩) hS ?_
          simp only [Act.put, List.setIfInBounds_toArray, List.set_cons_zero, List.set_cons_succ]
          refine takeR (i := 2) (v := .agg #[.int .i64 t1, .int .i64 t2, .int .i64 t3]) (some 94) rfl rfl (by kernel_rfl) (by kernel_rfl) (by kernel_rfl) (fun _ _ _ h => h) (Or.inl ⟨by kernel_rfl, fun w' hSw => by exact ldT_run hSw.1 (.tmp 15) rfl (by kernel_rfl)⟩) hS ?_
          simp only [Act.put, List.setIfInBounds_toArray, List.set_cons_zero, List.set_cons_succ]
          refine takeR (i := 3) (v := .pointer (some ⟨Ga.g, 0, none⟩)) (some 95) rfl rfl (by kernel_rfl) (by kernel_rfl) (by kernel_rfl) (fun _ _ _ h => h) (Or.inl ⟨by kernel_rfl, fun w' hSw => by kernel_rfl⟩) hS ?_
          simp only [Act.put, List.setIfInBounds_toArray, List.set_cons_zero, List.set_cons_succ]
          refine takeR (i := 4) (v := .agg P2.cs) (some 96) rfl rfl (by kernel_rfl) (by kernel_rfl) (by kernel_rfl) (fun _ _ _ h => h) (Or.inl ⟨by kernel_rfl, fun w' hSw => by exact ldB_run hSw.2 (.tmp 13) rfl (by kernel_rfl)⟩) hS ?_
          simp only [Act.put, List.setIfInBounds_toArray, List.set_cons_zero, List.set_cons_succ]
          refine wpAnyH_ready (rs := [5]) (by kernel_rfl) (by simp) ?_
          refine AllReadyH.cons rfl (fun K1 hK1 => ?_) AllReadyH.nil
          rw [if_pos (by kernel_rfl)]
          refine callR (d := some 97) rfl 16 #[.pointer (some ⟨Ga.g, 0, none⟩), .agg P2.cs] (by kernel_rfl) (HA2.out Z HM.out.2.2.1) ?_
          rintro e U ⟨rfl, hgU, hfU, hoU⟩
          refine ⟨_, rfl, ?_⟩
          have hS2 := HM.out.2.2.1.keepS hfU hS
          refine hK1.out _ _ hS2 (fun _ => ?_)
          clear hK1
          refine takeR (i := 6) (v := .bool false) (some 98) rfl rfl (by kernel_rfl) (by kernel_rfl) (by kernel_rfl) (fun _ _ _ h => h) (Or.inl ⟨by kernel_rfl, fun w' hSw => by exact neT_run (t1 := t1) (t2 := t2) (t3 := t3) (.tmp 94) (.tmp 97) rfl (by kernel_rfl) (by kernel_rfl) _⟩) hS2 ?_
          simp only [Act.put, List.setIfInBounds_toArray, List.set_cons_zero, List.set_cons_succ]
          refine takeR (i := 7) (v := .bool false) (some 99) rfl rfl (by kernel_rfl) (by kernel_rfl) (by kernel_rfl) (fun _ _ _ h => h) (Or.inl ⟨by kernel_rfl, fun w' hSw => by kernel_rfl⟩) hS2 ?_
          simp only [Act.put, List.setIfInBounds_toArray, List.set_cons_zero, List.set_cons_succ]
          refine wpAnyH_done (by kernel_rfl) ?_ _
          have HY : Hid (AP w U Gb.g Ga.g (anG Hb P2) (anG Ha P2) (k + 1)) := HX2.out.1.stepA HB1.out.1 HB1.out.2.1 HB1.out.2.2 HM.out.2.2.2 hgU hfU hoU HRel.out
          clear HX2 HB1 HM hgU hfU hoU HRel hS hS2 HA2
          go_wp2
          exact ⟨⟨k + 1, _, _, by omega, by omega, rfl, HY⟩, by simp [intOf]; omega⟩
    · have HBel : Hid (Below w.heap.size w wr) := HR.out.bel
      clear HR
      rcases (by omega : (¬ (k : Int) < (len2 : Int)) ∨ ((k : Int) < (len2 : Int) ∧ ¬ (k : Int) < 10000)) with hx | ⟨hx, hy⟩
      all_goals clear hlt
      all_goals go_wp2
      all_goals go_ret
      all_goals exact ⟨rfl, HBel.out⟩
end Go.Proofs.Ytgioknkfppaaaaa
