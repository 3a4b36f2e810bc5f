/-
  fix: FixOrder's walk.
-/
import Derived.Test.YtchkpggdndnpjaaGreatDoorG48
import Derived.Test.YtchkpggdndnpjaaGreatDoorFxPick
namespace Go.Proofs.YtchkpggdndnpjaaGreatDoor
set_option linter.unusedVariables false
set_option linter.unusedSimpArgs false
open Go.RowKit Go.Great

theorem filterMap_ge {α β : Type} (g : α → Option β) (p : α → Bool) (h : ∀ t, p t = true → (g t).isSome = true) : ∀ l : List α, (l.filter p).length ≤ (l.filterMap g).length
  | [] => Nat.le_refl _
  | t :: l => by
    have ih := filterMap_ge g p h l
    cases hp : p t with
    | true =>
      obtain ⟨y, hy⟩ := Option.isSome_iff_exists.1 (h t hp)
      rw [List.filter_cons_of_pos hp, List.filterMap_cons_some hy]
      exact Nat.succ_le_succ ih
    | false =>
      rw [List.filter_cons_of_neg (by simp [hp])]
      cases hg : g t with
      | none => rw [List.filterMap_cons_none hg]; exact ih
      | some y => rw [List.filterMap_cons_some hg]; exact Nat.le_succ_of_le ih
theorem three_tab : ((List.range 17).all fun k => decide (3 ≤ ((slts ((k + 1 : Nat) : Int)).filter (·.2.1)).length)) = true := by kernel_rfl
theorem enc_three {M : Msg} (h : Vld M) : 3 ≤ (encF M).length := by
  obtain ⟨k, hk, e⟩ := h.kind
  have h1 := of_decide_eq_true (List.all_eq_true.1 three_tab k (List.mem_range.2 hk))
  rw [← e] at h1
  refine Nat.le_trans h1 (filterMap_ge _ _ (fun t ht => ?_) _)
  unfold fldF
  simp [ht]
theorem enc_small {M : Msg} (h : Vld M) : (encF M).length ≤ 1024 ∧ (bodyB (encF M)).length ≤ 1024 := by
  obtain ⟨b, hj, -⟩ := enc_join h
  have := split_small (join_split hj)
  exact ⟨this.1, this.2.1⟩
theorem Shf.body {fs L : List Fld} (h : Shf fs L) : (bodyB L).length = (bodyB fs).length := (h.perm.flatMap_right fldL).length_eq
/-- Numbers that came in. -/
def IntsIn (w : World) (a : Option Addr) (n : Nat) : Prop := ∀ k, k < n → ∃ z : Int, -9223372036854775808 ≤ z ∧ z ≤ 9223372036854775807 ∧ ∃ gc oc, a = some ⟨gc, oc, none⟩ ∧ w.cell? ⟨gc, oc + k, none⟩ = some (.int .i64 z)
theorem IntsIn.below {w w' : World} {a : Option Addr} {n : Nat} (h : IntsIn w a n) (hb : Below w.heap.size w w') : IntsIn w' a n := fun k hk => by
  obtain ⟨z, h1, h2, gc, oc, e, hc⟩ := h k hk
  exact ⟨z, h1, h2, gc, oc, e, (hb.cell (p := ⟨gc, oc + k, none⟩) (World.block_lt_of_cell? _ _ hc)).trans hc⟩
/-- Where the loop stands. -/
structure OI (w wr : World) (g2 : Nat) (M : Msg) (v : Value) (L : List Fld) : Prop where
  lm : LM w wr g2 M
  src : SrcF wr v L
  shf : Shf (encF M) L
theorem OI.low {w wr w' : World} {g2 : Nat} {M : Msg} {v : Value} {L : List Fld} (h : OI w wr g2 M v L) (hb : Below wr.heap.size wr w') : OI w w' g2 M v L := ⟨h.lm.low hb, h.src.below hb, h.shf⟩
set_option maxRecDepth 100000 in
set_option maxHeartbeats 4000000 in
theorem FixOrder_law (M : Msg) (a1 : Option Addr) (n1 c1 : Nat) (w : World) (hz : M.ok) (hin : IntsIn w a1 n1) (hn1 : n1 ≤ 9223372036854775807) (he : Env w) :
    Calls Tryz.prog 4 #[.agg M.cs, .slice a1 n1 c1] w fun e w' => e = .returned (.bool true) ∧ Below w.heap.size w w' := by
  have HE : Hid (Env w ∧ M.ok ∧ IntsIn w a1 n1) := ⟨he, hz, hin⟩
  have HO1 : Hid (LM w (w.alloc (.cells M.cs 25)) w.heap.size M) := ⟨heap_alloc_new w _, (Below.refl _ w).alloc (Nat.le_refl _) _⟩
  clear he hz hin
  go_enter Tryz.func4, Tryz.ntmps4
  go_upto_region 1 with fail
  generalize w.alloc (.cells M.cs 25) = w1 at *
  generalize hcs : M.cs = CS at *
  have Hcs : Hid (M.cs = CS) := hcs
  clear hcs
  go_wp2_with (go_at_call 9; fail)
  refine (shown_any _ (HE.out.1.below HO1.out.below).mon (HE.out.1.below HO1.out.below).pow (HE.out.1.below HO1.out.below).ety).mono ?_
  rintro e w2 ⟨rfl, hb2⟩
  have HO2 : Hid (LM w w2 w.heap.size M) := HO1.out.low hb2
  clear hb2 HO1
  generalize hg2 : w.heap.size = g2 at HO2 ⊢
  go_upto_region 2 with fail
  refine wp_region_lit ?_
  refine wpList_loadM HO2.out.msg (.tmp 2) rfl rfl rfl ?_
  simp only [Act.put, List.setIfInBounds_toArray, List.set_cons_zero, List.set_cons_succ]
  rw [Hcs.out]
  have HE3 := HE.out.1.below HO2.out.below
  by_cases hv : valE M = 0
  · obtain ⟨b, hj, hl, hEn⟩ := Encode_ok M w2 HE3.mon HE3.pow HE.out.2.1 hv
    rw [Hcs.out] at hEn
    have HV : Hid (Vld M) := vld_of hv
    go_wp2_with (go_at_call 13; fail)
    refine hEn.mono ?_
    clear hEn
    rintro e w4 ⟨v, rfl, ho4, hb4⟩
    have HO4 : Hid (LM w w4 g2 M) := HO2.out.low hb4
    have HSp := Split_any v b w4 (by omega) ho4.src (HE.out.1.below HO4.out.below).pow
    rw [join_split hj] at HSp
    clear hb4 ho4 HO2 hv HE3 hj hl
    go_wp2_with (go_at_call 14; fail)
    refine HSp.mono ?_
    clear HSp
    rintro e w5 ⟨hb5, u, rfl, ho5⟩
    have HO5 : Hid (OI w w5 g2 M u (encF M)) := ⟨HO4.out.low hb5, ho5.src, Shf.refl' HV.out⟩
    clear hb5 HO4
    obtain ⟨au, cu, rfl⟩ := ho5.form
    clear ho5
    obtain ⟨n, hn⟩ : ∃ n, n = (encF M).length := ⟨_, rfl⟩
    have hn3 : 3 ≤ n := by rw [hn]; exact enc_three HV.out
    have hnB : n ≤ 1024 := by rw [hn]; exact (enc_small HV.out).1
    rw [← hn] at HO5 ⊢
    have HNn : Hid (n = (encF M).length) := hn
    clear hn
    have hn3' : ¬ (n : Int) < 3 := by omega
    have HPK : Hid (∀ (c : Int) W, -9223372036854775808 ≤ c → c ≤ 9223372036854775807 → Calls Tryz.prog 15 #[.int .i64 c, .int .i64 ((n : Int) - 1)] W fun e w' => e = .returned (.int .i64 (pickN c (n - 1) : Int)) ∧ w' = W) := fun c W h0 h1 => pick_any c _ (n - 1) (by omega) W (by omega) (by omega) h0 h1
    go_wp2
    go_loopw [8, 10, 11, 12] (fun x8 x10 x11 x12 wr => ∃ (k : Nat) (au : Option Addr) (cu : Nat) (L : List Fld), k ≤ 40 ∧ x10 = .int .i64 (k : Int) ∧ x8 = .slice au n cu ∧ Hid (OI w wr g2 M (.slice au n cu) L)) (fun _ x10 _ _ _ => 40 - (intOf x10).toNat)
    case atStart => exact ⟨0, au, cu, encF M, by omega, rfl, rfl, HO5⟩
    case round =>
      clear HO5
      obtain ⟨k, au, cu, L, hk40, rfl, rfl, HI⟩ := hrel
      by_cases h1 : k < n1
      · have h1' : (k : Int) < (n1 : Int) := by omega
        by_cases h2 : k < 40
        · have h2' : (k : Int) < 40 := by omega
          obtain ⟨z, z0, z1, gc, oc, rfl, hc⟩ := (HE.out.2.2.below HI.out.lm.below) k h1
          have hdv : -9223372036854775808 ≤ z.tdiv 64 ∧ z.tdiv 64 ≤ 9223372036854775807 := by
            rcases Int.le_total 0 z with hz | hz
            · rw [Int.tdiv_eq_ediv_of_nonneg hz]; omega
            · have e : z.tdiv 64 = -((-z).tdiv 64) := by rw [Int.neg_tdiv, Int.neg_neg]
              rw [e, Int.tdiv_eq_ediv_of_nonneg (by omega)]; omega
          have HP1 := HPK.out z wr z0 z1
          have HP2 := HPK.out (z.tdiv 64) wr hdv.1 hdv.2
          have hq1 := pickN_lt z (n := n - 1) (by omega)
          have hq2 := pickN_lt (z.tdiv 64) (n := n - 1) (by omega)
          generalize pickN z (n - 1) = q1 at *
          generalize pickN (z.tdiv 64) (n - 1) = q2 at *
          have hLn : L.length = n := by rw [HI.out.shf.perm.length_eq, ← HNn.out]
          have hsh := HI.out.shf.mv (i := 1 + q1) (j := 1 + q2) (by omega) (by omega) (by omega)
          have HT := turned_any (.slice au n cu) L (1 + q1) (1 + q2) wr HI.out.src (by omega) (by omega) (by omega) (by omega) (by omega)
          rw [show ((1 + q1 : Nat) : Int) = 1 + (q1 : Int) by omega, show ((1 + q2 : Nat) : Int) = 1 + (q2 : Int) by omega] at HT
          have HSH : Hid (Shf (encF M) (mvL L (1 + q1) (1 + q2))) := hsh
          clear hsh hLn hdv
          go_wp2_with (go_at_call 15; fail)
          refine HP1.mono ?_
          rintro e w6 ⟨rfl, ew⟩
          replace ew := ew.symm
          subst ew
          go_wp2_with (go_at_call 15; fail)
          refine HP2.mono ?_
          rintro e w6 ⟨rfl, ew⟩
          replace ew := ew.symm
          subst ew
          go_wp2_with (go_at_call 16; fail)
          refine HT.mono ?_
          rintro e w6 ⟨u, rfl, ho6, hb6⟩
          have HI6 : Hid (OI w w6 g2 M u (mvL L (1 + q1) (1 + q2))) := ⟨HI.out.lm.low hb6, ho6.src, HSH.out⟩
          obtain ⟨au', cu', rfl⟩ := ho6.form
          rw [show (mvL L (1 + q1) (1 + q2)).length = n by rw [HSH.out.perm.length_eq, ← HNn.out]] at HI6 ⊢
          clear ho6 hb6 HT HP1 HP2 HI HSH hc
          go_wp2
          exact ⟨⟨k + 1, au', cu', _, by omega, by go_num, rfl, HI6⟩, by simp [intOf]; omega⟩
        · have h2' : ¬ (k : Int) < 40 := by omega
          clear HPK
          obtain ⟨c, hj, hlc, hd, hcA⟩ := shf_dec HV.out HI.out.shf
          have hpm := HI.out.shf.perm
          have HEr := HE.out.1.below HI.out.lm.below
          have HJ := Join_any (.slice au n cu) L wr HI.out.src HEr.pow (fun f hf => enc_okT HV.out f (hpm.mem_iff.1 hf)) (by rw [HI.out.shf.body]; have := (enc_small HV.out).2; omega) (by rw [hpm.length_eq]; have := (enc_small HV.out).1; omega)
          rw [hj] at HJ
          clear hpm HEr hj
          go_wp2_with (go_at_call 17; fail)
          refine HJ.mono ?_
          clear HJ
          rintro e w6 ⟨hb6, v6, rfl, ho6⟩
          have HO6 : Hid (LM w w6 g2 M) := HI.out.lm.low hb6
          have HEs := HE.out.1.below HO6.out.below
          have HD := Decode_any v6 c w6 (by omega) ho6.src HEs.mon HEs.pow HEs.ety
          rw [hd] at HD
          have HD2 : Calls Tryz.prog 10 #[v6] w6 fun x w' => x = .returned (.tuple #[.agg M.cs, .nilIface]) ∧ Below w6.heap.size w6 w' := HD.mono fun x w' h => by
            obtain ⟨hb, hx⟩ := h
            have hx2 : x = .returned (.tuple #[.agg (rdM (encF M)).cs, .nilIface]) := hx
            rw [hcA] at hx2
            exact ⟨hx2, hb⟩
          obtain ⟨av, cv, rfl⟩ : ∃ a c', v6 = .slice a c.length c' := by obtain ⟨a, c', h, -⟩ := ho6.src; exact ⟨a, c', h⟩
          clear HD ho6 hb6 hd hcA HI HEs
          generalize c.length = m at *
          go_upto_region 15 with fail
          rename_i K15 hK15
          refine wp_region_lit ?_
          refine wpList_runTo rfl (some 81) rfl (.slice av m cv) w6 (by kernel_rfl) ?_
          refine wpList_callF rfl (some 82) rfl 10 #[.slice av m cv] (by kernel_rfl) HD2 ?_
          rintro e w7 ⟨rfl, hb7⟩
          refine ⟨_, rfl, ?_⟩
          refine wpList_runTo rfl (some 80) rfl (.tuple #[.agg M.cs, .nilIface]) w7 (by kernel_rfl) ?_
          refine wpList_runTo rfl (some 83) rfl (.agg M.cs) w7 (by kernel_rfl) ?_
          refine wpList_runTo rfl (some 84) rfl (.nilIface) w7 (by kernel_rfl) ?_
          refine wpList_runTo rfl (some 15) rfl (.pointer (some ⟨w7.heap.size, 0, none⟩)) (w7.alloc (.cells zeroM.cs 25)) (by kernel_rfl) ?_
          simp only [Act.put, List.setIfInBounds_toArray, List.set_cons_zero, List.set_cons_succ]
          refine wpList_store_row rfl 25 (.tmp 15) (.tmp 83) rfl w7.heap.size M.cs (by rfl) (by rfl) 25 _ (heap_alloc_new w7 _) (by rw [Msg.cs_size]; kernel_rfl) (by simp only [Msg.cs_size]) (Msg.cs_one _) ?_
          refine wpList_runTo rfl (some 16) rfl (.nilIface) ((w7.alloc (.cells zeroM.cs 25)).setRow w7.heap.size M.cs) (by kernel_rfl) ?_
          refine wpList_nil ?_
          refine hK15 _ _ ?_
          clear hK15
          simp only [Act.put, List.setIfInBounds_toArray, List.set_cons_zero, List.set_cons_succ]
          have HO8 : Hid (LM w ((w7.alloc (.cells zeroM.cs 25)).setRow w7.heap.size M.cs) g2 M ∧ OwnM ((w7.alloc (.cells zeroM.cs 25)).setRow w7.heap.size M.cs) w7.heap.size M) := ⟨(HO6.out.low hb7).low put_below, put_own⟩
          clear hb7 HD2 HO6
          generalize (w7.alloc (.cells zeroM.cs 25)).setRow w7.heap.size M.cs = w8 at *
          generalize w7.heap.size = g15 at *
          go_upto_region 16 with fail
          rename_i K16 hK16
          refine wp_region_lit ?_
          refine wpList_runTo rfl (some 85) rfl (.int .i64 0) w8 (by kernel_rfl) ?_
          refine wpList_runTo rfl (some 86) rfl (.bool true) w8 (by kernel_rfl) ?_
          refine wpList_runTo rfl (some 87) rfl (.bool true) w8 (by kernel_rfl) ?_
          refine wpList_runToG (by kernel_rfl) (some 88) rfl (.nilIface) w8 (by kernel_rfl) ?_
          simp only [Act.put, List.setIfInBounds_toArray, List.set_cons_zero, List.set_cons_succ]
          refine wpList_runToG (by kernel_rfl) (some 89) rfl (.bool true) w8 (by kernel_rfl) ?_
          simp only [Act.put, List.setIfInBounds_toArray, List.set_cons_zero, List.set_cons_succ]
          refine wpList_runTo rfl (some 90) rfl (.bool true) w8 (by kernel_rfl) ?_
          refine wpList_runTo rfl (some 91) rfl (.bool true) w8 (by kernel_rfl) ?_
          simp only [Act.put, List.setIfInBounds_toArray, List.set_cons_zero, List.set_cons_succ]
          refine wpList_loadG HO8.out.2 (.tmp 15) (by kernel_rfl) rfl rfl ?_
          simp only [Act.put, List.setIfInBounds_toArray, List.set_cons_zero, List.set_cons_succ]
          refine wpList_loadG HO8.out.1.msg (.tmp 2) (by kernel_rfl) rfl rfl ?_
          refine wpList_runToG (by kernel_rfl) (some 94) rfl (.bool true) w8 (by exact eqM_run (.tmp 92) (.tmp 93) rfl rfl rfl _) ?_
          simp only [Act.put, List.setIfInBounds_toArray, List.set_cons_zero, List.set_cons_succ]
          refine wpList_runTo rfl (some 95) rfl (.bool true) w8 (by kernel_rfl) ?_
          refine wpList_runTo rfl (some 4) rfl (.bool true) w8 (by kernel_rfl) ?_
          refine wpList_nil ?_
          refine hK16 _ _ ?_
          clear hK16
          simp only [Act.put, List.setIfInBounds_toArray, List.set_cons_zero, List.set_cons_succ]
          go_wp2
          go_ret
          exact ⟨rfl, HO8.out.1.below⟩
      · have h1' : ¬ (k : Int) < (n1 : Int) := by omega
        clear HPK
        obtain ⟨c, hj, hlc, hd, hcA⟩ := shf_dec HV.out HI.out.shf
        have hpm := HI.out.shf.perm
        have HEr := HE.out.1.below HI.out.lm.below
        have HJ := Join_any (.slice au n cu) L wr HI.out.src HEr.pow (fun f hf => enc_okT HV.out f (hpm.mem_iff.1 hf)) (by rw [HI.out.shf.body]; have := (enc_small HV.out).2; omega) (by rw [hpm.length_eq]; have := (enc_small HV.out).1; omega)
        rw [hj] at HJ
        clear hpm HEr hj
        go_wp2_with (go_at_call 17; fail)
        refine HJ.mono ?_
        clear HJ
        rintro e w6 ⟨hb6, v6, rfl, ho6⟩
        have HO6 : Hid (LM w w6 g2 M) := HI.out.lm.low hb6
        have HEs := HE.out.1.below HO6.out.below
        have HD := Decode_any v6 c w6 (by omega) ho6.src HEs.mon HEs.pow HEs.ety
        rw [hd] at HD
        have HD2 : Calls Tryz.prog 10 #[v6] w6 fun x w' => x = .returned (.tuple #[.agg M.cs, .nilIface]) ∧ Below w6.heap.size w6 w' := HD.mono fun x w' h => by
          obtain ⟨hb, hx⟩ := h
          have hx2 : x = .returned (.tuple #[.agg (rdM (encF M)).cs, .nilIface]) := hx
          rw [hcA] at hx2
          exact ⟨hx2, hb⟩
        obtain ⟨av, cv, rfl⟩ : ∃ a c', v6 = .slice a c.length c' := by obtain ⟨a, c', h, -⟩ := ho6.src; exact ⟨a, c', h⟩
        clear HD ho6 hb6 hd hcA HI HEs
        generalize c.length = m at *
        go_upto_region 15 with fail
        rename_i K15 hK15
        refine wp_region_lit ?_
        refine wpList_runTo rfl (some 81) rfl (.slice av m cv) w6 (by kernel_rfl) ?_
        refine wpList_callF rfl (some 82) rfl 10 #[.slice av m cv] (by kernel_rfl) HD2 ?_
        rintro e w7 ⟨rfl, hb7⟩
        refine ⟨_, rfl, ?_⟩
        refine wpList_runTo rfl (some 80) rfl (.tuple #[.agg M.cs, .nilIface]) w7 (by kernel_rfl) ?_
        refine wpList_runTo rfl (some 83) rfl (.agg M.cs) w7 (by kernel_rfl) ?_
        refine wpList_runTo rfl (some 84) rfl (.nilIface) w7 (by kernel_rfl) ?_
        refine wpList_runTo rfl (some 15) rfl (.pointer (some ⟨w7.heap.size, 0, none⟩)) (w7.alloc (.cells zeroM.cs 25)) (by kernel_rfl) ?_
        simp only [Act.put, List.setIfInBounds_toArray, List.set_cons_zero, List.set_cons_succ]
        refine wpList_store_row rfl 25 (.tmp 15) (.tmp 83) rfl w7.heap.size M.cs (by rfl) (by rfl) 25 _ (heap_alloc_new w7 _) (by rw [Msg.cs_size]; kernel_rfl) (by simp only [Msg.cs_size]) (Msg.cs_one _) ?_
        refine wpList_runTo rfl (some 16) rfl (.nilIface) ((w7.alloc (.cells zeroM.cs 25)).setRow w7.heap.size M.cs) (by kernel_rfl) ?_
        refine wpList_nil ?_
        refine hK15 _ _ ?_
        clear hK15
        simp only [Act.put, List.setIfInBounds_toArray, List.set_cons_zero, List.set_cons_succ]
        have HO8 : Hid (LM w ((w7.alloc (.cells zeroM.cs 25)).setRow w7.heap.size M.cs) g2 M ∧ OwnM ((w7.alloc (.cells zeroM.cs 25)).setRow w7.heap.size M.cs) w7.heap.size M) := ⟨(HO6.out.low hb7).low put_below, put_own⟩
        clear hb7 HD2 HO6
        generalize (w7.alloc (.cells zeroM.cs 25)).setRow w7.heap.size M.cs = w8 at *
        generalize w7.heap.size = g15 at *
        go_upto_region 16 with fail
        rename_i K16 hK16
        refine wp_region_lit ?_
        refine wpList_runTo rfl (some 85) rfl (.int .i64 0) w8 (by kernel_rfl) ?_
        refine wpList_runTo rfl (some 86) rfl (.bool true) w8 (by kernel_rfl) ?_
        refine wpList_runTo rfl (some 87) rfl (.bool true) w8 (by kernel_rfl) ?_
        refine wpList_runToG (by kernel_rfl) (some 88) rfl (.nilIface) w8 (by kernel_rfl) ?_
        simp only [Act.put, List.setIfInBounds_toArray, List.set_cons_zero, List.set_cons_succ]
        refine wpList_runToG (by kernel_rfl) (some 89) rfl (.bool true) w8 (by kernel_rfl) ?_
        simp only [Act.put, List.setIfInBounds_toArray, List.set_cons_zero, List.set_cons_succ]
        refine wpList_runTo rfl (some 90) rfl (.bool true) w8 (by kernel_rfl) ?_
        refine wpList_runTo rfl (some 91) rfl (.bool true) w8 (by kernel_rfl) ?_
        simp only [Act.put, List.setIfInBounds_toArray, List.set_cons_zero, List.set_cons_succ]
        refine wpList_loadG HO8.out.2 (.tmp 15) (by kernel_rfl) rfl rfl ?_
        simp only [Act.put, List.setIfInBounds_toArray, List.set_cons_zero, List.set_cons_succ]
        refine wpList_loadG HO8.out.1.msg (.tmp 2) (by kernel_rfl) rfl rfl ?_
        refine wpList_runToG (by kernel_rfl) (some 94) rfl (.bool true) w8 (by exact eqM_run (.tmp 92) (.tmp 93) rfl rfl rfl _) ?_
        simp only [Act.put, List.setIfInBounds_toArray, List.set_cons_zero, List.set_cons_succ]
        refine wpList_runTo rfl (some 95) rfl (.bool true) w8 (by kernel_rfl) ?_
        refine wpList_runTo rfl (some 4) rfl (.bool true) w8 (by kernel_rfl) ?_
        refine wpList_nil ?_
        refine hK16 _ _ ?_
        clear hK16
        simp only [Act.put, List.setIfInBounds_toArray, List.set_cons_zero, List.set_cons_succ]
        go_wp2
        go_ret
        exact ⟨rfl, HO8.out.1.below⟩
  · have hEn := Encode_no M w2 HE3.mon HE.out.2.1 hv
    rw [Hcs.out] at hEn
    have hv1 : (valE M != 0) = true := by simpa using hv
    clear HE3
    generalize valE M = E at *
    generalize valN M = N at *
    clear hv
    go_wp2_with (go_at_call 13; fail)
    refine hEn.mono ?_
    clear hEn
    rintro e w4 ⟨rfl, hb4⟩
    have HO4 : Hid (LM w w4 g2 M) := HO2.out.low hb4
    clear hb4 HO2
    go_wp2
    go_ret
    exact ⟨rfl, HO4.out.below⟩
end Go.Proofs.YtchkpggdndnpjaaGreatDoor
