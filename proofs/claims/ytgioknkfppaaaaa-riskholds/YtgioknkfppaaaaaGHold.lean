/-
  RiskHolds: the walk.
-/
import Derived.Test.YtgioknkfppaaaaaGHold2
import Derived.Test.YtgioknkfppaaaaaGAp1
namespace Go.Proofs.Ytgioknkfppaaaaa
set_option linter.unusedVariables false
set_option linter.unusedSimpArgs false
open Go.RowKit Go.Great Go.Maps

set_option maxRecDepth 100000 in
set_option maxHeartbeats 16000000 in
theorem RiskHolds_law (a0 : Int) (h00 : -9223372036854775808 ≤ a0) (h01 : a0 ≤ 9223372036854775807) (a1 : Int) (h10 : -9223372036854775808 ≤ a1) (h11 : a1 ≤ 9223372036854775807) (a2 : Option Addr) (len2 cap2 : Nat) (t : Nat → Dd) (hn2 : len2 ≤ maxLen) (w : World) (hs : SrcD w a2 len2 t) :
    Calls Try.prog 4 #[.int .i64 a0, .int .i64 a1, .slice a2 len2 cap2] w fun e w' => e = .returned (.bool true) ∧ Below w.heap.size w w' := by
  have hp1 := pick_any a0 5000 5000 rfl
  have hp2 := pick_any a1 200 200 rfl
  have q1 := pickN_lt a0 (show 0 < 5000 by omega)
  have q2 := pickN_lt a1 (show 0 < 200 by omega)
  have hc1 := fun w => hp1 w (by omega) (by omega) h00 h01
  have hc2 := fun w => hp2 w (by omega) (by omega) h10 h11
  clear hp1 hp2 h00 h01 h10 h11
  generalize pickN a0 5000 = x at *
  generalize pickN a1 200 = y at *
  obtain ⟨i0, hi, hz0, hz1, hz2⟩ := info_parts info35
  have HI : Hid (Try.prog.info? 35 = some i0 ∧ i0.zero = some _ ∧ i0.size = 15 ∧ i0.bytes = 144) := ⟨hi, hz0, hz1, hz2⟩
  clear hi hz0 hz1 hz2
  have HS : Hid (SrcD w a2 len2 t) := hs
  have hn2' : len2 ≤ 9223372036854775807 := by unfold maxLen at hn2; omega
  clear hs hn2
  obtain ⟨op, hop⟩ : ∃ b : Int, b = 1 + (x : Int) := ⟨_, rfl⟩
  obtain ⟨po, hpo⟩ : ∃ p : Int, p = 1 + (y : Int) := ⟨_, rfl⟩
  have HNw : Hid (∀ W W1, Below w.heap.size w W → W1.heap.size = W.heap.size + 1 → Below W.heap.size W W1 → Blk W1 W.heap.size 30 (limH op po).cs → Calls Try.prog 9 #[.slice (some ⟨W.heap.size + 1, 0, none⟩) 1 1] (W1.alloc (.cells #[.string ⟨#[65]⟩, .int .i64 0, .int .i64 (1 + (x : Int)), .int .i64 (1 + (y : Int)), .int .i64 0, .int .i64 0] 30)) fun e w' => ∃ g ma mo bb mm, e = .returned (.tuple #[.pointer (some ⟨g, 0, none⟩), .int .i64 0]) ∧ HL w w' g ma mo W.heap.size op po ((limH op po).ac bb mm) [] [] (.slice none 0 0) 0 0) := fun W W1 hW hsz hb1 hbk => by
    have hok : Lim.ok (limH op po) = true := by
      unfold Lim.ok isaB limH
      simp only [Bool.and_eq_true, wiB_iff]
      exact ⟨⟨⟨by omega, by omega⟩, by omega⟩, ⟨by decide, by omega⟩, by omega⟩
    refine (New_one (limH op po) hok rfl _ (W.heap.size + 1) 1 (by unfold limH Lim.cs limV; rw [hop, hpo]; exact Blk.new' _ _ _ hsz.symm)).mono fun e w' ⟨g, ma, mo, bb, mm, h1, h2⟩ => ?_
    have hb2 : Below w.heap.size w W1 := below_step hW hb1
    have hb3 : Below w.heap.size w (W1.alloc (.cells #[.string ⟨#[65]⟩, .int .i64 0, .int .i64 (1 + (x : Int)), .int .i64 (1 + (y : Int)), .int .i64 0, .int .i64 0] 30)) := below_step hb2 ((Below.refl _ W1).alloc (Nat.le_refl _) _)
    refine ⟨g, ma, mo, bb, mm, h1, h2.rebase hb3, rfl, rfl, rfl, ⟨rfl, Nat.zero_le _, fun p hp => (List.not_mem_nil hp).elim⟩, HM.start (by omega) (by omega), RowAt.none0 _ _ _, fun q h => (by cases h), ?_, Nat.le_refl _⟩
    exact (hbk.alloc _).below h2.bel (by simp; omega)
  go_enter Try.func4, Try.ntmps4
  go_wp2_with (go_at_call 7; fail)
  refine (shown_any _).mono ?_
  rintro e W0 ⟨rfl, hb0⟩
  have HB0 : Hid (Below w.heap.size w W0) := hb0
  clear hb0
  go_wp2_with (go_at_call 8; fail)
  refine (hc1 _).mono ?_
  rintro e W1 ⟨rfl, rfl⟩
  go_wp2_with (go_at_call 8; fail)
  refine (hc2 _).mono ?_
  rintro e W1 ⟨rfl, rfl⟩
  go_wp2_with (go_at_call 9; fail)
  refine (HNw.out W1 (W1.alloc (.cells #[.string ⟨#[65]⟩, .int .i64 0, .int .i64 (1 + (x : Int)), .int .i64 (1 + (y : Int)), .int .i64 0, .int .i64 0] 30)) HB0.out (by simp) ((Below.refl _ W1).alloc (Nat.le_refl _) _) (by unfold limH Lim.cs limV; rw [hop, hpo]; exact Blk.new _ _ _)).mono ?_
  rintro e W2 ⟨g, ma, mo, bb, mm, rfl, hl0⟩
  have HH0 : Hid (HL w W2 g ma mo W1.heap.size op po ((limH op po).ac bb mm) [] [] (.slice none 0 0) 0 0) := hl0
  have hopb : 1 ≤ op ∧ op ≤ 5000 := by omega
  have hpob : 1 ≤ po ∧ po ≤ 200 := by omega
  clear hl0 HNw HB0 hop hpo hc1 hc2
  go_wp2
  generalize W1.heap.size = ab at *
  go_loopw [11, 12, 13] (fun lv hv i wr => ∃ (k : Nat) (a : Ac) (O : List Oo) (l : List Od) (has : Int), k ≤ len2 ∧ k ≤ 300 ∧ i = .int .i64 k ∧ hv = .int .i64 has ∧ Hid (HL w wr g ma mo ab op po a O l lv has k)) (fun _ _ i _ => len2 - (intOf i).toNat)
  case atStart => exact ⟨0, _, _, _, 0, by omega, by omega, rfl, rfl, HH0⟩
  case round =>
    obtain ⟨k, a, O, l, has, hk, hk3, rfl, rfl, HR⟩ := hrel
    obtain ⟨ao, cap, rfl, hcap⟩ := HR.out.row.form
    clear hcap
    by_cases hlt : k < len2 ∧ k < 300
    · obtain ⟨hl1, hl2⟩ := hlt
      have hl1' : (k : Int) < (len2 : Int) := by omega
      have hl2' : (k : Int) < 300 := by omega
      rcases HS.out.below HR.out.on.bel with h0 | ⟨gb, goff, rfl, hcell⟩
      · omega
      obtain ⟨⟨d0, d1, d2, d3, d4⟩, j0, j1, j2, j3, j4⟩ := hcell k hl1
      clear hcell
      have HJ : Hid (i64B (t k).k ∧ i64B (t k).s ∧ i64B (t k).p ∧ i64B (t k).q ∧ i64B (t k).w) := ⟨j0, j1, j2, j3, j4⟩
      clear j0 j1 j2 j3 j4
      generalize t k = D at *
      obtain ⟨Dk, Ds, Dp, Dq, Dw⟩ := D
      simp only at d0 d1 d2 d3 d4 HJ
      have hlen := HR.out.len
      go_upto_region 12 with fail
      have HW : Hid (HL w (wr.alloc (.cells #[.int .i64 Dk, .int .i64 Ds, .int .i64 Dp, .int .i64 Dq, .int .i64 Dw] 41)) g ma mo ab op po a O l (.slice ao l.length cap) has k ∧ Blk (wr.alloc (.cells #[.int .i64 Dk, .int .i64 Ds, .int .i64 Dp, .int .i64 Dq, .int .i64 Dw] 41)) wr.heap.size 41 #[.int .i64 Dk, .int .i64 Ds, .int .i64 Dp, .int .i64 Dq, .int .i64 Dw]) := ⟨HR.out.below ((Below.refl _ wr).alloc (Nat.le_refl _) _), Blk.new _ _ _⟩
      clear d0 d1 d2 d3 d4 HR
      generalize (wr.alloc (.cells #[.int .i64 Dk, .int .i64 Ds, .int .i64 Dp, .int .i64 Dq, .int .i64 Dw] 41)) = X at *
      generalize wr.heap.size = db at *
      have d0 := HW.out.2.cell 0
      simp only [List.getElem?_toArray, List.getElem?_cons_succ, List.getElem?_cons_zero] at d0
      have hpk := fun w => pick_any Dk 4 4 rfl w (by omega) (by omega) HJ.out.1.1 HJ.out.1.2
      have hkq := pickN_lt Dk (show 0 < 4 by omega)
      generalize pickN Dk 4 = kq at *
      go_cut [74] from 66 to 74 (fun x74 wx => ∃ tb : Bool, x74 = .bool tb ∧ Hid (tb = false → 0 < l.length ∧ 2 ≤ kq) ∧ wx = X)
      case first =>
        by_cases hl0 : l.length = 0
        · have hl0' : (l.length : Int) = 0 := by omega
          go_wp2
          go_meet
          exact ⟨true, rfl, fun h => (by cases h), rfl⟩
        · have hl0' : ¬ (l.length : Int) = 0 := by omega
          go_wp2_with (go_at_call 8; fail)
          refine (hpk _).mono ?_
          rintro e w1 ⟨rfl, rfl⟩
          go_wp2
          go_meet
          exact ⟨_, rfl, fun h => by simp at h; omega, rfl⟩
      case rest =>
        obtain ⟨tb, rfl, HTB, rfl⟩ := hcut
        go_upto_if 74 with fail
        go_cut [11, 12, 15, 16, 17, 18, 19, 20, 21, 22] from 75 to 189 (fun x11 x12 _ _ _ _ _ _ _ _ wx => ∃ (a' : Ac) (O' : List Oo) (l' : List Od) (has' : Int), x12 = .int .i64 has' ∧ Hid (HL w wx g ma mo ab op po a' O' l' x11 has' (k + 1)))
        case first =>
          cases tb
          · obtain ⟨hl0, hk2⟩ := HTB.out rfl
            clear HTB
            obtain ⟨lg, lo, capv, _, hv, _, hcl, _⟩ := HW.out.1.row.more hl0
            injection hv with hv1 _ hv3
            subst hv1 hv3
            have HJs := HJ.out
            have hpw := fun w => pick_any Dw (l.length : Int) l.length rfl w hl0 (by omega) HJs.2.2.2.2.1 HJs.2.2.2.2.2
            have hkk := pickN_lt Dw hl0
            generalize pickN Dw l.length = kk at *
            obtain ⟨l1, x, l2, hsp, hl1⟩ := split_at hkk
            have HX : Hid (Od.ok k x) := HW.out.1.hm.each x (by rw [hsp]; exact List.mem_append_right _ List.mem_cons_self)
            have HSp : Hid (l = l1 ++ x :: l2 ∧ l1.length = kk ∧ kk < l.length ∧ l.length ≤ k) := ⟨hsp, hl1, hkk, hlen⟩
            have hc9 : wc.cell? ⟨lg, lo + kk * 15 + 9, none⟩ = some (.int .i64 x.q) := by
              have := HW.out.1.row.cell rfl (j := kk * 15 + 9) (u := .int .i64 x.q) (by rw [hsp, ← hl1]; exact flat_get l1 l2 x (by decide))
              rwa [← Nat.add_assoc] at this
            have hc4 : wc.cell? ⟨lg, lo + kk * 15 + 4, none⟩ = some (.int .i64 x.sd) := by
              have := HW.out.1.row.cell rfl (j := kk * 15 + 4) (u := .int .i64 x.sd) (by rw [hsp, ← hl1]; exact flat_get l1 l2 x (by decide))
              rwa [← Nat.add_assoc] at this
            clear hsp hl1
            have d4 := HW.out.2.cell 4
            have d3 := HW.out.2.cell 3
            simp only [List.getElem?_toArray, List.getElem?_cons_succ, List.getElem?_cons_zero] at d3 d4
            have hkk' : (kk : Int) < (l.length : Int) := by omega
            have hxq0 := HX.out.q0
            have hxq1 := HX.out.q1
            have hxsd := HX.out.sd
            have hpq := fun w => pick_any Dq x.q x.q.toNat (by omega) w (by omega) (by omega) HJs.2.2.2.1.1 HJs.2.2.2.1.2
            have hzq := pickN_lt Dq (show 0 < x.q.toNat by omega)
            have hzq' : (pickN Dq x.q.toNat : Int) < x.q := by omega
            generalize pickN Dq x.q.toNat = zq at *
            clear HJs hzq
            have HN : Hid (l.length ≤ k) := hlen
            generalize hN : l.length = N at *
            go_wp2_with (go_at_call 8; fail)
            refine (hpw _).mono ?_
            rintro e w1 ⟨rfl, ew⟩
            replace ew := ew.symm
            subst ew
            clear hpw
            go_upto_region 23 with fail
            go_quiet ((go_at_call 8; refine Calls.quiet_of_same (hpq _)))
            clear hpq
            have HD : Hid (∀ n, HL w (wc.drewN n) g ma mo ab op po a O l (.slice (some ⟨lg, lo, none⟩) N cap) has k) := fun n => HW.out.1.below (below_drewN (Below.refl _ wc) n)
            go_wp2_with (go_at_call 8; fail)
            refine (hpk _).mono ?_
            rintro e w2 ⟨rfl, ew⟩
            replace ew := ew.symm
            subst ew
            go_upto_if 127 with fail
            have HQ : Hid (HL w (wc.drewN nq) g ma mo ab op po a O l (.slice (some ⟨lg, lo, none⟩) N cap) has k) := HD.out nq
            have k9 : (wc.drewN nq).cell? ⟨lg, lo + kk * 15 + 9, none⟩ = some (.int .i64 x.q) := hc9
            have k4 : (wc.drewN nq).cell? ⟨lg, lo + kk * 15 + 4, none⟩ = some (.int .i64 x.sd) := hc4
            have hasb : -1000 ≤ has ∧ has ≤ 1000 := by have := HQ.out.ends; exact ⟨by omega, by omega⟩
            clear hc9 hc4 d0 d3 d4 HD HW
            generalize wc.drewN nq = Y at *
            go_cut [12, 19, 20, 21] from 124 to 149 (fun x12 x19 x20 x21 wx => ∃ (a' : Ac) (has' d : Int) (tr : Bool), x12 = .int .i64 has' ∧ x19 = .int .i64 d ∧ 1 ≤ d ∧ d ≤ x.q ∧ Hid (has' = has + trN x d tr ∧ HT w wx g ma mo ab op po a' O l l (.slice (some ⟨lg, lo, none⟩) N cap) has has' k))
            case first =>
              by_cases hkq2 : kq = 2
              · have hkq2' : (kq : Int) = 2 := by omega
                go_wp2
                go_meet
                exact ⟨a, has, x.q, false, rfl, rfl, by omega, by omega, by simp [trN], HQ.out.mid⟩
              · have hkq2' : ¬ (kq : Int) = 2 := by omega
                rcases hxsd with hs | hs
                · have hs2 : ¬ x.sd = 2 := by omega
                  have HS1 : Hid (¬ x.sd = 2) := hs2
                  clear hs
                  go_wp2_with (go_at_call 13; fail)
                  refine (HQ.out.traded (1 + (zq : Int)) (by omega) (by omega) hpob.2).mono ?_
                  rintro e w5 ⟨rfl, ht, _⟩
                  have HT5 : Hid (HT w w5 g ma mo ab op po { a with pos := mvL a sX (1 + (zq : Int)) } O l l (.slice (some ⟨lg, lo, none⟩) N cap) has (has + (1 + (zq : Int))) k) := ht
                  clear ht
                  go_wp2
                  go_meet
                  exact ⟨_, has + (1 + (zq : Int)), 1 + (zq : Int), true, rfl, rfl, by omega, by omega, by simp [trN, HS1.out], HT5.out⟩
                · have HS1 : Hid (x.sd = 2) := hs
                  have hw1 : wrap64 (-(1 + (zq : Int))) = -(1 + (zq : Int)) := by unfold wrap64; omega
                  go_wp2_with (go_at_call 13; fail)
                  refine (HQ.out.traded (-(1 + (zq : Int))) (by omega) (by omega) hpob.2).mono ?_
                  rintro e w5 ⟨rfl, ht, _⟩
                  have HT5 : Hid (HT w w5 g ma mo ab op po { a with pos := mvL a sX (-(1 + (zq : Int))) } O l l (.slice (some ⟨lg, lo, none⟩) N cap) has (has + (-(1 + (zq : Int)))) k) := ht
                  clear ht
                  go_wp2
                  go_meet
                  exact ⟨_, has + (-(1 + (zq : Int))), 1 + (zq : Int), true, by first | rfl | (congr 1), rfl, by omega, by omega, by simp [trN, HS1.out], HT5.out⟩
            case rest =>
              obtain ⟨a', has', d, tr, rfl, rfl, hd0, hd1, HT6⟩ := hcut
              clear HQ k9 k4
              have k9 : wc.cell? ⟨lg, lo + kk * 15 + 9, none⟩ = some (.int .i64 x.q) := by
                have := HT6.out.2.row.cell (show _ = Value.slice (some ⟨lg, lo, none⟩) l.length cap by rw [hN]) (j := kk * 15 + 9) (u := .int .i64 x.q) (by rw [HSp.out.1, ← HSp.out.2.1]; exact flat_get l1 l2 x (by decide))
                rwa [← Nat.add_assoc] at this
              have f9 : wc.frozen? ⟨lg, lo + kk * 15 + 9, none⟩ = false := HT6.out.2.row.frozen (show _ = Value.slice (some ⟨lg, lo, none⟩) l.length cap by rw [hN]) _
              go_upto_region 35 with fail
              have HV : Hid (HT w (wc.setCell ⟨lg, lo + kk * 15 + 9, none⟩ (.int .i64 (x.q - d))) g ma mo ab op po a' O (l1 ++ x :: l2) (l1 ++ { x with q := x.q - d } :: l2) (.slice (some ⟨lg, lo, none⟩) N cap) has has' k) := by
                have h0 := HT6.out.2
                rw [HSp.out.1] at h0
                exact h0.write (x.q - d) (by rw [HSp.out.2.1])
              have HF : Hid (has' = has + trN x d tr) := HT6.out.1
              have HSN : Hid (N = (l1 ++ { x with q := x.q - d } :: l2).length ∧ l1.length = kk) := ⟨by rw [← hN, HSp.out.1]; simp, HSp.out.2.1⟩
              clear k9 f9 HT6
              generalize wc.setCell ⟨lg, lo + kk * 15 + 9, none⟩ (.int .i64 (x.q - d)) = Y2 at *
              have v9 : Y2.cell? ⟨lg, lo + kk * 15 + 9, none⟩ = some (.int .i64 (x.q - d)) := by
                have := HV.out.row.cell (show _ = Value.slice (some ⟨lg, lo, none⟩) _ cap by rw [← HSN.out.1]) (j := kk * 15 + 9) (u := .int .i64 (x.q - d)) (by rw [← HSN.out.2]; exact flat_get l1 l2 _ (by decide))
                rwa [← Nat.add_assoc] at this
              have v0 : Y2.cell? ⟨lg, lo + kk * 15, none⟩ = some (.int .i64 x.id) := by
                have := HV.out.row.cell (show _ = Value.slice (some ⟨lg, lo, none⟩) _ cap by rw [← HSN.out.1]) (j := kk * 15 + 0) (u := .int .i64 x.id) (by rw [← HSN.out.2]; exact flat_get l1 l2 _ (by decide))
                rwa [← Nat.add_assoc] at this
              have hN3 : N ≤ 1000 := by have := HN.out; omega
              have hkN : kk < N := hkk
              by_cases hz : x.q - d = 0
              · have hdx : d = x.q := by omega
                go_wp2_with (go_at_call 14; fail)
                refine (HV.out.dones (by omega)).mono ?_
                rintro e w7 ⟨rfl, hon7, hr7, hb7⟩
                have hbd : Below w7.heap.size w7 w7.drew := ⟨rfl, rfl, rfl, Nat.le_refl _, fun _ _ => rfl⟩
                have hrz : RowAt w7.drew 35 15 (.slice (some ⟨lg, lo, none⟩) N cap) N (flatL odC (l1 ++ { x with q := x.q - d } :: l2)) := by
                  have := hr7.fr (Fr.of_below hbd (fun _ => False)) fun _ _ => id
                  rwa [← HSN.out.1] at this
                obtain ⟨v8, w8, hrun, hrow8, hfr8, hown8⟩ := run_append_del (x := { x with q := x.q - d }) 39 HSN.out.1 hrz (cap - (kk + 1)) hN3
                have hl2 : l2.length = N - (kk + 1) := by have h1 := HSN.out.1; have h2 := HSN.out.2; simp at h1; omega
                rw [hl2, HSN.out.2] at hrun
                have HFin : Hid (HL w w8 g ma mo ab op po a' (doO O x.id) (l1 ++ l2) v8 (has + trN x x.q tr) (k + 1)) := by
                  have h0 := HV.out
                  rw [HF.out, hdx] at h0
                  rw [hdx] at hrz
                  exact h0.goneF (hon7.below hbd) (by rw [hdx] at HSN; rw [← HSN.out.1]; exact hrz) (hb7.below hbd hb7.lt) hrow8 hfr8 hown8
                obtain ⟨ad, hAd⟩ : ∃ ad : Option Addr, (if cap = kk + 1 then some ⟨lg, lo, none⟩ else some ⟨lg, lo + (kk + 1) * 15, none⟩) = ad := ⟨_, rfl⟩
                have HAd : Hid ((if cap = kk + 1 then some (⟨lg, lo, none⟩ : Addr) else some ⟨lg, lo + (kk + 1) * 15, none⟩) = ad) := hAd
                rw [hAd] at hrun
                clear hAd
                have HRun : Hid ((Builtin.append_ #[39, 39] 39 #[.slice (some ⟨lg, lo, none⟩) kk cap, .slice ad (N - (kk + 1)) (cap - (kk + 1))]).run Try.prog w7.drew = .ok v8 w8) := hrun
                have HF2 : Hid (has' = has + trN x x.q tr) := by rw [← hdx]; exact HF.out
                clear hrun hrow8 hfr8 hown8 hrz hon7 hr7 hb7 HV HF v9 v0
                go_upto_region 37 with fail
                refine wp_region_held (S := fun _ => True) (by kernel_rfl) ?_
                change wpAnyH _ _ _ _ _ _ _ _ (World.drew _)
                have hS : True := trivial
                generalize w7.drew = Z at *
                refine takeR (i := 0) (v := .slice (some ⟨lg, lo, none⟩) N cap) (some 174) rfl rfl (by kernel_rfl) (by kernel_rfl) (by kernel_rfl) (fun _ _ _ h => h) (Or.inl ⟨by kernel_rfl, fun w' hSw => by kernel_rfl⟩) hS ?_
                simp only [Act.put, List.setIfInBounds_toArray, List.set_cons_zero, List.set_cons_succ]
                refine takeR (i := 1) (v := .int .i64 (kk : Int)) (some 175) rfl rfl (by kernel_rfl) (by kernel_rfl) (by kernel_rfl) (fun _ _ _ h => h) (Or.inl ⟨by kernel_rfl, fun w' hSw => by kernel_rfl⟩) hS ?_
                simp only [Act.put, List.setIfInBounds_toArray, List.set_cons_zero, List.set_cons_succ]
                refine takeR (i := 2) (v := .slice (some ⟨lg, lo, none⟩) kk cap) (some 176) rfl rfl (by kernel_rfl) (by kernel_rfl) (by kernel_rfl) (fun _ _ _ h => h) (Or.inl ⟨by kernel_rfl, fun w' hSw => by exact run_cut_to (n := N) (.tmp 174) (.tmp 175) rfl (by kernel_rfl) (by kernel_rfl) (by omega) _⟩) hS ?_
                simp only [Act.put, List.setIfInBounds_toArray, List.set_cons_zero, List.set_cons_succ]
                refine takeR (i := 3) (v := .slice (some ⟨lg, lo, none⟩) N cap) (some 177) rfl rfl (by kernel_rfl) (by kernel_rfl) (by kernel_rfl) (fun _ _ _ h => h) (Or.inl ⟨by kernel_rfl, fun w' hSw => by kernel_rfl⟩) hS ?_
                simp only [Act.put, List.setIfInBounds_toArray, List.set_cons_zero, List.set_cons_succ]
                refine takeR (i := 4) (v := .int .i64 (kk : Int)) (some 178) rfl rfl (by kernel_rfl) (by kernel_rfl) (by kernel_rfl) (fun _ _ _ h => h) (Or.inl ⟨by kernel_rfl, fun w' hSw => by kernel_rfl⟩) hS ?_
                simp only [Act.put, List.setIfInBounds_toArray, List.set_cons_zero, List.set_cons_succ]
                refine takeR (i := 5) (v := .int .i64 ((kk : Int) + 1)) (some 179) rfl rfl (by kernel_rfl) (by kernel_rfl) (by kernel_rfl) (fun _ _ _ h => h) (Or.inl ⟨by kernel_rfl, fun w' hSw => by exact addR_run (.tmp 178) (.const (.int .i64 1)) rfl (by kernel_rfl) rfl (by omega) (by omega) _⟩) hS ?_
                simp only [Act.put, List.setIfInBounds_toArray, List.set_cons_zero, List.set_cons_succ]
                refine takeR (i := 6) (v := .slice ad (N - (kk + 1)) (cap - (kk + 1))) (some 180) rfl rfl (by kernel_rfl) (by kernel_rfl) (by kernel_rfl) (fun _ _ _ h => h) (Or.inl ⟨by kernel_rfl, fun w' hSw => by rw [← HAd.out]; exact run_cut_from (.tmp 177) (.tmp 179) rfl (by kernel_rfl) (by kernel_rfl) (by omega) _⟩) hS ?_
                simp only [Act.put, List.setIfInBounds_toArray, List.set_cons_zero, List.set_cons_succ]
                refine wpAnyH_ready (rs := [7]) (by kernel_rfl) (by simp) ?_
                refine AllReadyH.cons rfl (fun K1 hK1 => ?_) AllReadyH.nil
                rw [if_pos (by kernel_rfl)]
                refine valR (d := some 181) rfl v8 (w' := w8) (exec_append (t := 39) (.tmp 176) (.tmp 180) rfl (by kernel_rfl) (by kernel_rfl) HRun.out) ?_
                refine hK1.out _ _ trivial (fun _ => ?_)
                clear hK1
                simp only [Act.put, List.setIfInBounds_toArray, List.set_cons_zero, List.set_cons_succ]
                refine takeR (i := 8) (v := v8) (some 11) rfl rfl (by kernel_rfl) (by kernel_rfl) (by kernel_rfl) (fun _ _ _ h => h) (Or.inl ⟨by kernel_rfl, fun w' hSw => by kernel_rfl⟩) hS ?_
                simp only [Act.put, List.setIfInBounds_toArray, List.set_cons_zero, List.set_cons_succ]
                refine wpAnyH_done (by kernel_rfl) ?_ _
                go_wp2
                go_meet
                exact ⟨_, _, _, _, by rw [HF2.out], HFin.out⟩
              · have HRg : Hid (Y2.rangeAt lg (lo + kk * 15) (Od.o { x with q := x.q - d }).cs.toList) := by
                  have h0 := HV.out.row
                  rw [← HSN.out.1] at h0
                  have := row_range h0
                  rwa [HSN.out.2] at this
                go_upto_region 38 with fail
                refine wp_region_lit ?_
                refine wpList_runTo rfl (some 182) rfl (.pointer (some ⟨g, 0, none⟩)) Y2 (by kernel_rfl) ?_
                simp only [Act.put, List.setIfInBounds_toArray, List.set_cons_zero, List.set_cons_succ]
                refine wpList_runTo rfl (some 183) rfl (.slice (some ⟨lg, lo, none⟩) N cap) Y2 (by kernel_rfl) ?_
                simp only [Act.put, List.setIfInBounds_toArray, List.set_cons_zero, List.set_cons_succ]
                refine wpList_runTo rfl (some 184) rfl (.int .i64 (kk : Int)) Y2 (by kernel_rfl) ?_
                simp only [Act.put, List.setIfInBounds_toArray, List.set_cons_zero, List.set_cons_succ]
                refine wpList_runTo rfl (some 185) rfl (.pointer (some ⟨lg, lo + kk * 15, none⟩)) Y2 (by exact ixR_run (n := N) (c := cap) (.tmp 183) (.tmp 184) rfl (by kernel_rfl) (by kernel_rfl) hkN Y2) ?_
                simp only [Act.put, List.setIfInBounds_toArray, List.set_cons_zero, List.set_cons_succ]
                refine wpList_runTo rfl (some 186) rfl (.agg (Od.o { x with q := x.q - d }).cs) Y2 (by exact ldR_run HRg.out (.tmp 185) rfl (by kernel_rfl)) ?_
                simp only [Act.put, List.setIfInBounds_toArray, List.set_cons_zero, List.set_cons_succ]
                refine wpList_callW rfl (some 187) rfl 12 #[.pointer (some ⟨g, 0, none⟩), .agg (Od.o { x with q := x.q - d }).cs, .int .i64 0] (by kernel_rfl) (HV.out.opens (by omega) (q := x.q - d) (by omega) (by omega)) ?_
                rintro e w7 ⟨rfl, hon7, hr7, hb7⟩
                refine ⟨_, rfl, ?_⟩
                simp only [Act.put, List.setIfInBounds_toArray, List.set_cons_zero, List.set_cons_succ]
                refine wpList_runTo rfl (some 22) rfl (.int .i64 0) w7 (by kernel_rfl) ?_
                refine wpList_nil ?_
                simp only [Act.put, List.setIfInBounds_toArray, List.set_cons_zero, List.set_cons_succ]
                have HFin : Hid (HL w w7 g ma mo ab op po a' (Od.oo { x with q := x.q - d } :: doO O x.id) (l1 ++ { x with q := x.q - d } :: l2) (.slice (some ⟨lg, lo, none⟩) N cap) (has + trN x d tr) (k + 1)) := by
                  have h0 := HV.out
                  rw [HF.out] at h0
                  exact h0.less hd0 (by omega) hon7 hr7 hb7
                clear hon7 hr7 hb7 HV HRg v9 v0
                go_wp2
                go_meet
                exact ⟨_, _, _, _, by rw [HF.out], HFin.out⟩
          · clear HTB
            go_upto_region 13 with fail
            have HJs := HJ.out
            have hp2 := fun w => pick_any Ds 2 2 rfl w (by omega) (by omega) HJs.2.1.1 HJs.2.1.2
            have hp3 := fun w => pick_any Dp 50 50 rfl w (by omega) (by omega) HJs.2.2.1.1 HJs.2.2.1.2
            have hp4 := fun w => pick_any Dq 60 60 rfl w (by omega) (by omega) HJs.2.2.2.1.1 HJs.2.2.2.1.2
            have hq2 := pickN_lt Ds (show 0 < 2 by omega)
            have hq3 := pickN_lt Dp (show 0 < 50 by omega)
            have hq4 := pickN_lt Dq (show 0 < 60 by omega)
            generalize pickN Ds 2 = zs at *
            generalize pickN Dp 50 = zp at *
            generalize pickN Dq 60 = zq at *
            clear HJs
            have HK13 : Hid (∀ w', Below wc.heap.size wc w' → w'.cell? ⟨db, 1, none⟩ = some (.int .i64 Ds) ∧ w'.cell? ⟨db, 2, none⟩ = some (.int .i64 Dp) ∧ w'.cell? ⟨db, 3, none⟩ = some (.int .i64 Dq)) := fun w' hb => by
              have b1 := HW.out.2.below hb HW.out.2.lt
              exact ⟨b1.cell 1, b1.cell 2, b1.cell 3⟩
            have hBx : Below wc.heap.size wc wc.drew := ⟨rfl, rfl, rfl, Nat.le_refl _, fun _ _ => rfl⟩
            have HOrd : Hid (∀ (i1 s1 p1 q1 : Int) (w : World), Calls Try.prog 11 #[.int .i64 i1, .int .i64 s1, .int .i64 p1, .int .i64 q1] w fun e w' => e = .returned (.agg #[.int .i64 i1, .string ⟨#[]⟩, .string sA, .string sX, .int .i64 s1, .int .i64 1, .int .i64 0, .int .i64 p1, .int .i64 0, .int .i64 q1, .int .i64 0, .int .i64 0, .int .i64 0, .int .i64 0, .int .i64 0]) ∧ Below w.heap.size w w') := fun i1 s1 p1 q1 w => order_any i1 s1 p1 q1 w
            go_cut [15] from 75 to 89 (fun x15 wx => ∃ ob : Nat, x15 = .pointer (some ⟨ob, 0, none⟩) ∧ Hid (HL w wx g ma mo ab op po a O l (.slice ao l.length cap) has k ∧ Blk wx ob 35 (Od.o ⟨(k : Int) + 1, 1 + (zs : Int), 1 + (zp : Int), 1 + (zq : Int)⟩).cs))
            case first =>
              have HFin : Hid (∀ (y : World) (nb : Nat) (cs : Array Value), Below wc.heap.size wc y → Blk y nb 35 cs → wc.heap.size ≤ nb → Below wc.heap.size wc (y.setRow nb #[.int .i64 ((k : Int) + 1), .string ⟨#[]⟩, .string sA, .string sX, .int .i64 (1 + (zs : Int)), .int .i64 1, .int .i64 0, .int .i64 (1 + (zp : Int)), .int .i64 0, .int .i64 (1 + (zq : Int)), .int .i64 0, .int .i64 0, .int .i64 0, .int .i64 0, .int .i64 0]) ∧ Hid (HL w (y.setRow nb #[.int .i64 ((k : Int) + 1), .string ⟨#[]⟩, .string sA, .string sX, .int .i64 (1 + (zs : Int)), .int .i64 1, .int .i64 0, .int .i64 (1 + (zp : Int)), .int .i64 0, .int .i64 (1 + (zq : Int)), .int .i64 0, .int .i64 0, .int .i64 0, .int .i64 0, .int .i64 0]) g ma mo ab op po a O l (.slice ao l.length cap) has k ∧ Blk (y.setRow nb #[.int .i64 ((k : Int) + 1), .string ⟨#[]⟩, .string sA, .string sX, .int .i64 (1 + (zs : Int)), .int .i64 1, .int .i64 0, .int .i64 (1 + (zp : Int)), .int .i64 0, .int .i64 (1 + (zq : Int)), .int .i64 0, .int .i64 0, .int .i64 0, .int .i64 0, .int .i64 0]) nb 35 (Od.o ⟨(k : Int) + 1, 1 + (zs : Int), 1 + (zp : Int), 1 + (zq : Int)⟩).cs)) := fun y nb cs hb hk hn => by
                have b2 : Below wc.heap.size wc (y.setRow nb #[.int .i64 ((k : Int) + 1), .string ⟨#[]⟩, .string sA, .string sX, .int .i64 (1 + (zs : Int)), .int .i64 1, .int .i64 0, .int .i64 (1 + (zp : Int)), .int .i64 0, .int .i64 (1 + (zq : Int)), .int .i64 0, .int .i64 0, .int .i64 0, .int .i64 0, .int .i64 0]) := below_setRow hb hn _
                exact ⟨b2, HW.out.1.below b2, setRow_heap _ _ _ _ _ _ hk⟩
              refine wp_region_held (S := fun w' => w'.cell? ⟨db, 1, none⟩ = some (.int .i64 Ds) ∧ w'.cell? ⟨db, 2, none⟩ = some (.int .i64 Dp) ∧ w'.cell? ⟨db, 3, none⟩ = some (.int .i64 Dq)) (by kernel_rfl) ?_
              change wpAnyH _ _ _ _ _ _ _ _ (World.drew _)
              have hS := HK13.out _ hBx
              generalize wc.drew = Z at *
              refine takeR (i := 0) (v := .int .i64 (k : Int)) (some 75) rfl rfl (by kernel_rfl) (by kernel_rfl) (by kernel_rfl) (fun _ _ _ h => h) (Or.inl ⟨by kernel_rfl, fun w' hSw => by kernel_rfl⟩) hS ?_
              simp only [Act.put, List.setIfInBounds_toArray, List.set_cons_zero, List.set_cons_succ]
              refine takeR (i := 1) (v := .int .i64 ((k : Int) + 1)) (some 76) rfl rfl (by kernel_rfl) (by kernel_rfl) (by kernel_rfl) (fun _ _ _ h => h) (Or.inl ⟨by kernel_rfl, fun w' hSw => by exact addR_run (.tmp 75) (.const (.int .i64 1)) rfl (by kernel_rfl) rfl (by omega) (by omega) _⟩) hS ?_
              simp only [Act.put, List.setIfInBounds_toArray, List.set_cons_zero, List.set_cons_succ]
              refine takeR (i := 2) (v := .pointer (some ⟨db, 1, none⟩)) (some 77) rfl rfl (by kernel_rfl) (by kernel_rfl) (by kernel_rfl) (fun _ _ _ h => h) (Or.inl ⟨by kernel_rfl, fun w' hSw => by kernel_rfl⟩) hS ?_
              simp only [Act.put, List.setIfInBounds_toArray, List.set_cons_zero, List.set_cons_succ]
              refine takeR (i := 3) (v := .int .i64 Ds) (some 78) rfl rfl (by kernel_rfl) (by kernel_rfl) (by kernel_rfl) (fun _ _ _ h => h) (Or.inl ⟨by kernel_rfl, fun w' hSw => by have q := hSw.1; clear hSw; go_simp⟩) hS ?_
              simp only [Act.put, List.setIfInBounds_toArray, List.set_cons_zero, List.set_cons_succ]
              refine takeR (i := 6) (v := .pointer (some ⟨db, 2, none⟩)) (some 81) rfl rfl (by kernel_rfl) (by kernel_rfl) (by kernel_rfl) (fun _ _ _ h => h) (Or.inl ⟨by kernel_rfl, fun w' hSw => by kernel_rfl⟩) hS ?_
              simp only [Act.put, List.setIfInBounds_toArray, List.set_cons_zero, List.set_cons_succ]
              refine takeR (i := 7) (v := .int .i64 Dp) (some 82) rfl rfl (by kernel_rfl) (by kernel_rfl) (by kernel_rfl) (fun _ _ _ h => h) (Or.inl ⟨by kernel_rfl, fun w' hSw => by have q := hSw.2.1; clear hSw; go_simp⟩) hS ?_
              simp only [Act.put, List.setIfInBounds_toArray, List.set_cons_zero, List.set_cons_succ]
              refine takeR (i := 10) (v := .pointer (some ⟨db, 3, none⟩)) (some 85) rfl rfl (by kernel_rfl) (by kernel_rfl) (by kernel_rfl) (fun _ _ _ h => h) (Or.inl ⟨by kernel_rfl, fun w' hSw => by kernel_rfl⟩) hS ?_
              simp only [Act.put, List.setIfInBounds_toArray, List.set_cons_zero, List.set_cons_succ]
              refine takeR (i := 11) (v := .int .i64 Dq) (some 86) rfl rfl (by kernel_rfl) (by kernel_rfl) (by kernel_rfl) (fun _ _ _ h => h) (Or.inl ⟨by kernel_rfl, fun w' hSw => by have q := hSw.2.2; clear hSw; go_simp⟩) hS ?_
              simp only [Act.put, List.setIfInBounds_toArray, List.set_cons_zero, List.set_cons_succ]
              refine wpAnyH_ready (rs := [4, 15]) (by kernel_rfl) (by simp) ?_
              refine AllReadyH.cons rfl (fun K1 hK1 => ?_) (AllReadyH.cons rfl (fun K1 hK1 => ?_) AllReadyH.nil)
              · rw [if_pos (by kernel_rfl)]
                refine callR (d := some 79) rfl 8 #[.int .i64 Ds, .int .i64 2] (by kernel_rfl) (hp2 Z) ?_
                rintro e w7 ⟨rfl, ew⟩
                replace ew := ew.symm
                subst ew
                refine ⟨_, rfl, ?_⟩
                refine hK1.out _ _ hS (fun _ => ?_)
                clear hK1
                simp only [Act.put, List.setIfInBounds_toArray, List.set_cons_zero, List.set_cons_succ]
                refine takeR (i := 5) (v := .int .i64 (1 + (zs : Int))) (some 80) rfl rfl (by kernel_rfl) (by kernel_rfl) (by kernel_rfl) (fun _ _ _ h => h) (Or.inl ⟨by kernel_rfl, fun w' hSw => by exact addR_run (.const (.int .i64 1)) (.tmp 79) rfl rfl (by kernel_rfl) (by omega) (by omega) _⟩) hS ?_
                simp only [Act.put, List.setIfInBounds_toArray, List.set_cons_zero, List.set_cons_succ]
                refine wpAnyH_ready (rs := [8, 15]) (by kernel_rfl) (by simp) ?_
                refine AllReadyH.cons rfl (fun K1 hK1 => ?_) (AllReadyH.cons rfl (fun K1 hK1 => ?_) AllReadyH.nil)
                · rw [if_pos (by kernel_rfl)]
                  refine callR (d := some 83) rfl 8 #[.int .i64 Dp, .int .i64 50] (by kernel_rfl) (hp3 Z) ?_
                  rintro e w7 ⟨rfl, ew⟩
                  replace ew := ew.symm
                  subst ew
                  refine ⟨_, rfl, ?_⟩
                  refine hK1.out _ _ hS (fun _ => ?_)
                  clear hK1
                  simp only [Act.put, List.setIfInBounds_toArray, List.set_cons_zero, List.set_cons_succ]
                  refine takeR (i := 9) (v := .int .i64 (1 + (zp : Int))) (some 84) rfl rfl (by kernel_rfl) (by kernel_rfl) (by kernel_rfl) (fun _ _ _ h => h) (Or.inl ⟨by kernel_rfl, fun w' hSw => by exact addR_run (.const (.int .i64 1)) (.tmp 83) rfl rfl (by kernel_rfl) (by omega) (by omega) _⟩) hS ?_
                  simp only [Act.put, List.setIfInBounds_toArray, List.set_cons_zero, List.set_cons_succ]
                  refine wpAnyH_ready (rs := [12, 15]) (by kernel_rfl) (by simp) ?_
                  refine AllReadyH.cons rfl (fun K1 hK1 => ?_) (AllReadyH.cons rfl (fun K1 hK1 => ?_) AllReadyH.nil)
                  · rw [if_pos (by kernel_rfl)]
                    refine callR (d := some 87) rfl 8 #[.int .i64 Dq, .int .i64 60] (by kernel_rfl) (hp4 Z) ?_
                    rintro e w7 ⟨rfl, ew⟩
                    replace ew := ew.symm
                    subst ew
                    refine ⟨_, rfl, ?_⟩
                    refine hK1.out _ _ hS (fun _ => ?_)
                    clear hK1
                    simp only [Act.put, List.setIfInBounds_toArray, List.set_cons_zero, List.set_cons_succ]
                    refine takeR (i := 13) (v := .int .i64 (1 + (zq : Int))) (some 88) rfl rfl (by kernel_rfl) (by kernel_rfl) (by kernel_rfl) (fun _ _ _ h => h) (Or.inl ⟨by kernel_rfl, fun w' hSw => by exact addR_run (.const (.int .i64 1)) (.tmp 87) rfl rfl (by kernel_rfl) (by omega) (by omega) _⟩) hS ?_
                    simp only [Act.put, List.setIfInBounds_toArray, List.set_cons_zero, List.set_cons_succ]
                    refine wpAnyH_ready (rs := [14, 15]) (by kernel_rfl) (by simp) ?_
                    refine AllReadyH.cons rfl (fun K1 hK1 => ?_) (AllReadyH.cons rfl (fun K1 hK1 => ?_) AllReadyH.nil)
                    · rw [if_pos (by kernel_rfl)]
                      refine callR (d := some 89) rfl 11 #[.int .i64 ((k : Int) + 1), .int .i64 (1 + (zs : Int)), .int .i64 (1 + (zp : Int)), .int .i64 (1 + (zq : Int))] (by kernel_rfl) (HOrd.out _ _ _ _ _) ?_
                      rintro e y4 ⟨rfl, hb4⟩
                      have hB4 : Below wc.heap.size wc y4 := below_step hBx hb4
                      have hS4 := HK13.out _ hB4
                      refine ⟨_, rfl, ?_⟩
                      refine hK1.out _ _ hS4 (fun _ => ?_)
                      clear hK1
                      simp only [Act.put, List.setIfInBounds_toArray, List.set_cons_zero, List.set_cons_succ]
                      refine wpAnyH_ready (rs := [15]) (by kernel_rfl) (by simp) ?_
                      refine AllReadyH.cons rfl (fun K1 hK1 => ?_) AllReadyH.nil
                      rw [if_pos (by kernel_rfl)]
                      refine valR (d := some 15) rfl (.pointer (some ⟨y4.heap.size, 0, none⟩)) (w' := y4.alloc (.cells #[.int .i64 0, .string ⟨#[]⟩, .string ⟨#[]⟩, .string ⟨#[]⟩, .int .i64 0, .int .i64 0, .int .i64 0, .int .i64 0, .int .i64 0, .int .i64 0, .int .i64 0, .int .i64 0, .int .i64 0, .int .i64 0, .int .i64 0] 35)) (by kernel_rfl) ?_
                      have hB5 : Below wc.heap.size wc (y4.alloc (.cells #[.int .i64 0, .string ⟨#[]⟩, .string ⟨#[]⟩, .string ⟨#[]⟩, .int .i64 0, .int .i64 0, .int .i64 0, .int .i64 0, .int .i64 0, .int .i64 0, .int .i64 0, .int .i64 0, .int .i64 0, .int .i64 0, .int .i64 0] 35)) := below_step hB4 ((Below.refl _ y4).alloc (Nat.le_refl _) _)
                      have hK5 : Blk (y4.alloc (.cells #[.int .i64 0, .string ⟨#[]⟩, .string ⟨#[]⟩, .string ⟨#[]⟩, .int .i64 0, .int .i64 0, .int .i64 0, .int .i64 0, .int .i64 0, .int .i64 0, .int .i64 0, .int .i64 0, .int .i64 0, .int .i64 0, .int .i64 0] 35)) y4.heap.size 35 #[.int .i64 0, .string ⟨#[]⟩, .string ⟨#[]⟩, .string ⟨#[]⟩, .int .i64 0, .int .i64 0, .int .i64 0, .int .i64 0, .int .i64 0, .int .i64 0, .int .i64 0, .int .i64 0, .int .i64 0, .int .i64 0, .int .i64 0] := Blk.new _ _ _
                      have hL5 : wc.heap.size ≤ y4.heap.size := hB4.size
                      have hS5 := HK13.out _ hB5
                      refine hK1.out _ _ hS5 (fun _ => ?_)
                      clear hK1
                      simp only [Act.put, List.setIfInBounds_toArray, List.set_cons_zero, List.set_cons_succ]
                      generalize y4.alloc (.cells #[.int .i64 0, .string ⟨#[]⟩, .string ⟨#[]⟩, .string ⟨#[]⟩, .int .i64 0, .int .i64 0, .int .i64 0, .int .i64 0, .int .i64 0, .int .i64 0, .int .i64 0, .int .i64 0, .int .i64 0, .int .i64 0, .int .i64 0] 35) = y5 at *
                      generalize y4.heap.size = nb5 at hK5 hL5 ⊢
                      refine wpAnyH_ready (rs := [16]) (by kernel_rfl) (by simp) ?_
                      refine AllReadyH.cons rfl (fun K1 hK1 => ?_) AllReadyH.nil
                      rw [if_pos (by kernel_rfl)]
                      refine wp_store_row 35 (.tmp 15) (.tmp 89) rfl nb5 #[.int .i64 ((k : Int) + 1), .string ⟨#[]⟩, .string sA, .string sX, .int .i64 (1 + (zs : Int)), .int .i64 1, .int .i64 0, .int .i64 (1 + (zp : Int)), .int .i64 0, .int .i64 (1 + (zq : Int)), .int .i64 0, .int .i64 0, .int .i64 0, .int .i64 0, .int .i64 0] (by kernel_rfl) (by kernel_rfl) 35 _ hK5 (by kernel_rfl) rfl (by kernel_rfl) ?_
                      have hF := HFin.out y5 nb5 _ hB5 hK5 (by exact hL5)
                      refine hK1.out _ _ (HK13.out _ hF.1) (fun _ => ?_)
                      clear hK1
                      simp only [Act.put, List.setIfInBounds_toArray, List.set_cons_zero, List.set_cons_succ]
                      refine wpAnyH_done (by kernel_rfl) ?_ _
                      go_wp2
                      go_meet
                      exact ⟨nb5, rfl, hF.2⟩
                    · rw [if_pos (by kernel_rfl)]
                      refine valR (d := some 15) rfl (.pointer (some ⟨Z.heap.size, 0, none⟩)) (w' := Z.alloc (.cells #[.int .i64 0, .string ⟨#[]⟩, .string ⟨#[]⟩, .string ⟨#[]⟩, .int .i64 0, .int .i64 0, .int .i64 0, .int .i64 0, .int .i64 0, .int .i64 0, .int .i64 0, .int .i64 0, .int .i64 0, .int .i64 0, .int .i64 0] 35)) (by kernel_rfl) ?_
                      have hB6 : Below wc.heap.size wc (Z.alloc (.cells #[.int .i64 0, .string ⟨#[]⟩, .string ⟨#[]⟩, .string ⟨#[]⟩, .int .i64 0, .int .i64 0, .int .i64 0, .int .i64 0, .int .i64 0, .int .i64 0, .int .i64 0, .int .i64 0, .int .i64 0, .int .i64 0, .int .i64 0] 35)) := below_step hBx ((Below.refl _ Z).alloc (Nat.le_refl _) _)
                      have hK6 : Blk (Z.alloc (.cells #[.int .i64 0, .string ⟨#[]⟩, .string ⟨#[]⟩, .string ⟨#[]⟩, .int .i64 0, .int .i64 0, .int .i64 0, .int .i64 0, .int .i64 0, .int .i64 0, .int .i64 0, .int .i64 0, .int .i64 0, .int .i64 0, .int .i64 0] 35)) Z.heap.size 35 #[.int .i64 0, .string ⟨#[]⟩, .string ⟨#[]⟩, .string ⟨#[]⟩, .int .i64 0, .int .i64 0, .int .i64 0, .int .i64 0, .int .i64 0, .int .i64 0, .int .i64 0, .int .i64 0, .int .i64 0, .int .i64 0, .int .i64 0] := Blk.new _ _ _
                      have hL6 : wc.heap.size ≤ Z.heap.size := hBx.size
                      have hS6 := HK13.out _ hB6
                      refine hK1.out _ _ hS6 (fun _ => ?_)
                      clear hK1
                      simp only [Act.put, List.setIfInBounds_toArray, List.set_cons_zero, List.set_cons_succ]
                      generalize Z.alloc (.cells #[.int .i64 0, .string ⟨#[]⟩, .string ⟨#[]⟩, .string ⟨#[]⟩, .int .i64 0, .int .i64 0, .int .i64 0, .int .i64 0, .int .i64 0, .int .i64 0, .int .i64 0, .int .i64 0, .int .i64 0, .int .i64 0, .int .i64 0] 35) = y6 at *
                      generalize Z.heap.size = nb6 at hK6 hL6 ⊢
                      refine wpAnyH_ready (rs := [14]) (by kernel_rfl) (by simp) ?_
                      refine AllReadyH.cons rfl (fun K1 hK1 => ?_) AllReadyH.nil
                      rw [if_pos (by kernel_rfl)]
                      refine callR (d := some 89) rfl 11 #[.int .i64 ((k : Int) + 1), .int .i64 (1 + (zs : Int)), .int .i64 (1 + (zp : Int)), .int .i64 (1 + (zq : Int))] (by kernel_rfl) (HOrd.out _ _ _ _ _) ?_
                      rintro e y7 ⟨rfl, hb7⟩
                      have hB7 : Below wc.heap.size wc y7 := below_step hB6 hb7
                      have hK7 := hK6.below hb7 hK6.lt
                      have hS7 := HK13.out _ hB7
                      refine ⟨_, rfl, ?_⟩
                      refine hK1.out _ _ hS7 (fun _ => ?_)
                      clear hK1
                      simp only [Act.put, List.setIfInBounds_toArray, List.set_cons_zero, List.set_cons_succ]
                      refine wpAnyH_ready (rs := [16]) (by kernel_rfl) (by simp) ?_
                      refine AllReadyH.cons rfl (fun K1 hK1 => ?_) AllReadyH.nil
                      rw [if_pos (by kernel_rfl)]
                      refine wp_store_row 35 (.tmp 15) (.tmp 89) rfl nb6 #[.int .i64 ((k : Int) + 1), .string ⟨#[]⟩, .string sA, .string sX, .int .i64 (1 + (zs : Int)), .int .i64 1, .int .i64 0, .int .i64 (1 + (zp : Int)), .int .i64 0, .int .i64 (1 + (zq : Int)), .int .i64 0, .int .i64 0, .int .i64 0, .int .i64 0, .int .i64 0] (by kernel_rfl) (by kernel_rfl) 35 _ hK7 (by kernel_rfl) rfl (by kernel_rfl) ?_
                      have hF := HFin.out y7 nb6 _ hB7 hK7 (by exact hL6)
                      refine hK1.out _ _ (HK13.out _ hF.1) (fun _ => ?_)
                      clear hK1
                      simp only [Act.put, List.setIfInBounds_toArray, List.set_cons_zero, List.set_cons_succ]
                      refine wpAnyH_done (by kernel_rfl) ?_ _
                      go_wp2
                      go_meet
                      exact ⟨nb6, rfl, hF.2⟩
                  · rw [if_pos (by kernel_rfl)]
                    refine valR (d := some 15) rfl (.pointer (some ⟨Z.heap.size, 0, none⟩)) (w' := Z.alloc (.cells #[.int .i64 0, .string ⟨#[]⟩, .string ⟨#[]⟩, .string ⟨#[]⟩, .int .i64 0, .int .i64 0, .int .i64 0, .int .i64 0, .int .i64 0, .int .i64 0, .int .i64 0, .int .i64 0, .int .i64 0, .int .i64 0, .int .i64 0] 35)) (by kernel_rfl) ?_
                    have hB8 : Below wc.heap.size wc (Z.alloc (.cells #[.int .i64 0, .string ⟨#[]⟩, .string ⟨#[]⟩, .string ⟨#[]⟩, .int .i64 0, .int .i64 0, .int .i64 0, .int .i64 0, .int .i64 0, .int .i64 0, .int .i64 0, .int .i64 0, .int .i64 0, .int .i64 0, .int .i64 0] 35)) := below_step hBx ((Below.refl _ Z).alloc (Nat.le_refl _) _)
                    have hK8 : Blk (Z.alloc (.cells #[.int .i64 0, .string ⟨#[]⟩, .string ⟨#[]⟩, .string ⟨#[]⟩, .int .i64 0, .int .i64 0, .int .i64 0, .int .i64 0, .int .i64 0, .int .i64 0, .int .i64 0, .int .i64 0, .int .i64 0, .int .i64 0, .int .i64 0] 35)) Z.heap.size 35 #[.int .i64 0, .string ⟨#[]⟩, .string ⟨#[]⟩, .string ⟨#[]⟩, .int .i64 0, .int .i64 0, .int .i64 0, .int .i64 0, .int .i64 0, .int .i64 0, .int .i64 0, .int .i64 0, .int .i64 0, .int .i64 0, .int .i64 0] := Blk.new _ _ _
                    have hL8 : wc.heap.size ≤ Z.heap.size := hBx.size
                    have hS8 := HK13.out _ hB8
                    refine hK1.out _ _ hS8 (fun _ => ?_)
                    clear hK1
                    simp only [Act.put, List.setIfInBounds_toArray, List.set_cons_zero, List.set_cons_succ]
                    generalize Z.alloc (.cells #[.int .i64 0, .string ⟨#[]⟩, .string ⟨#[]⟩, .string ⟨#[]⟩, .int .i64 0, .int .i64 0, .int .i64 0, .int .i64 0, .int .i64 0, .int .i64 0, .int .i64 0, .int .i64 0, .int .i64 0, .int .i64 0, .int .i64 0] 35) = y8 at *
                    generalize Z.heap.size = nb8 at hK8 hL8 ⊢
                    refine wpAnyH_ready (rs := [12]) (by kernel_rfl) (by simp) ?_
                    refine AllReadyH.cons rfl (fun K1 hK1 => ?_) AllReadyH.nil
                    rw [if_pos (by kernel_rfl)]
                    refine callR (d := some 87) rfl 8 #[.int .i64 Dq, .int .i64 60] (by kernel_rfl) (hp4 y8) ?_
                    rintro e w7 ⟨rfl, ew⟩
                    replace ew := ew.symm
                    subst ew
                    refine ⟨_, rfl, ?_⟩
                    refine hK1.out _ _ hS8 (fun _ => ?_)
                    clear hK1
                    simp only [Act.put, List.setIfInBounds_toArray, List.set_cons_zero, List.set_cons_succ]
                    refine takeR (i := 13) (v := .int .i64 (1 + (zq : Int))) (some 88) rfl rfl (by kernel_rfl) (by kernel_rfl) (by kernel_rfl) (fun _ _ _ h => h) (Or.inl ⟨by kernel_rfl, fun w' hSw => by exact addR_run (.const (.int .i64 1)) (.tmp 87) rfl rfl (by kernel_rfl) (by omega) (by omega) _⟩) hS8 ?_
                    simp only [Act.put, List.setIfInBounds_toArray, List.set_cons_zero, List.set_cons_succ]
                    refine wpAnyH_ready (rs := [14]) (by kernel_rfl) (by simp) ?_
                    refine AllReadyH.cons rfl (fun K1 hK1 => ?_) AllReadyH.nil
                    rw [if_pos (by kernel_rfl)]
                    refine callR (d := some 89) rfl 11 #[.int .i64 ((k : Int) + 1), .int .i64 (1 + (zs : Int)), .int .i64 (1 + (zp : Int)), .int .i64 (1 + (zq : Int))] (by kernel_rfl) (HOrd.out _ _ _ _ _) ?_
                    rintro e y10 ⟨rfl, hb10⟩
                    have hB10 : Below wc.heap.size wc y10 := below_step hB8 hb10
                    have hK10 := hK8.below hb10 hK8.lt
                    have hS10 := HK13.out _ hB10
                    refine ⟨_, rfl, ?_⟩
                    refine hK1.out _ _ hS10 (fun _ => ?_)
                    clear hK1
                    simp only [Act.put, List.setIfInBounds_toArray, List.set_cons_zero, List.set_cons_succ]
                    refine wpAnyH_ready (rs := [16]) (by kernel_rfl) (by simp) ?_
                    refine AllReadyH.cons rfl (fun K1 hK1 => ?_) AllReadyH.nil
                    rw [if_pos (by kernel_rfl)]
                    refine wp_store_row 35 (.tmp 15) (.tmp 89) rfl nb8 #[.int .i64 ((k : Int) + 1), .string ⟨#[]⟩, .string sA, .string sX, .int .i64 (1 + (zs : Int)), .int .i64 1, .int .i64 0, .int .i64 (1 + (zp : Int)), .int .i64 0, .int .i64 (1 + (zq : Int)), .int .i64 0, .int .i64 0, .int .i64 0, .int .i64 0, .int .i64 0] (by kernel_rfl) (by kernel_rfl) 35 _ hK10 (by kernel_rfl) rfl (by kernel_rfl) ?_
                    have hF := HFin.out y10 nb8 _ hB10 hK10 (by exact hL8)
                    refine hK1.out _ _ (HK13.out _ hF.1) (fun _ => ?_)
                    clear hK1
                    simp only [Act.put, List.setIfInBounds_toArray, List.set_cons_zero, List.set_cons_succ]
                    refine wpAnyH_done (by kernel_rfl) ?_ _
                    go_wp2
                    go_meet
                    exact ⟨nb8, rfl, hF.2⟩
                · rw [if_pos (by kernel_rfl)]
                  refine valR (d := some 15) rfl (.pointer (some ⟨Z.heap.size, 0, none⟩)) (w' := Z.alloc (.cells #[.int .i64 0, .string ⟨#[]⟩, .string ⟨#[]⟩, .string ⟨#[]⟩, .int .i64 0, .int .i64 0, .int .i64 0, .int .i64 0, .int .i64 0, .int .i64 0, .int .i64 0, .int .i64 0, .int .i64 0, .int .i64 0, .int .i64 0] 35)) (by kernel_rfl) ?_
                  have hB11 : Below wc.heap.size wc (Z.alloc (.cells #[.int .i64 0, .string ⟨#[]⟩, .string ⟨#[]⟩, .string ⟨#[]⟩, .int .i64 0, .int .i64 0, .int .i64 0, .int .i64 0, .int .i64 0, .int .i64 0, .int .i64 0, .int .i64 0, .int .i64 0, .int .i64 0, .int .i64 0] 35)) := below_step hBx ((Below.refl _ Z).alloc (Nat.le_refl _) _)
                  have hK11 : Blk (Z.alloc (.cells #[.int .i64 0, .string ⟨#[]⟩, .string ⟨#[]⟩, .string ⟨#[]⟩, .int .i64 0, .int .i64 0, .int .i64 0, .int .i64 0, .int .i64 0, .int .i64 0, .int .i64 0, .int .i64 0, .int .i64 0, .int .i64 0, .int .i64 0] 35)) Z.heap.size 35 #[.int .i64 0, .string ⟨#[]⟩, .string ⟨#[]⟩, .string ⟨#[]⟩, .int .i64 0, .int .i64 0, .int .i64 0, .int .i64 0, .int .i64 0, .int .i64 0, .int .i64 0, .int .i64 0, .int .i64 0, .int .i64 0, .int .i64 0] := Blk.new _ _ _
                  have hL11 : wc.heap.size ≤ Z.heap.size := hBx.size
                  have hS11 := HK13.out _ hB11
                  refine hK1.out _ _ hS11 (fun _ => ?_)
                  clear hK1
                  simp only [Act.put, List.setIfInBounds_toArray, List.set_cons_zero, List.set_cons_succ]
                  generalize Z.alloc (.cells #[.int .i64 0, .string ⟨#[]⟩, .string ⟨#[]⟩, .string ⟨#[]⟩, .int .i64 0, .int .i64 0, .int .i64 0, .int .i64 0, .int .i64 0, .int .i64 0, .int .i64 0, .int .i64 0, .int .i64 0, .int .i64 0, .int .i64 0] 35) = y11 at *
                  generalize Z.heap.size = nb11 at hK11 hL11 ⊢
                  refine wpAnyH_ready (rs := [8]) (by kernel_rfl) (by simp) ?_
                  refine AllReadyH.cons rfl (fun K1 hK1 => ?_) AllReadyH.nil
                  rw [if_pos (by kernel_rfl)]
                  refine callR (d := some 83) rfl 8 #[.int .i64 Dp, .int .i64 50] (by kernel_rfl) (hp3 y11) ?_
                  rintro e w7 ⟨rfl, ew⟩
                  replace ew := ew.symm
                  subst ew
                  refine ⟨_, rfl, ?_⟩
                  refine hK1.out _ _ hS11 (fun _ => ?_)
                  clear hK1
                  simp only [Act.put, List.setIfInBounds_toArray, List.set_cons_zero, List.set_cons_succ]
                  refine takeR (i := 9) (v := .int .i64 (1 + (zp : Int))) (some 84) rfl rfl (by kernel_rfl) (by kernel_rfl) (by kernel_rfl) (fun _ _ _ h => h) (Or.inl ⟨by kernel_rfl, fun w' hSw => by exact addR_run (.const (.int .i64 1)) (.tmp 83) rfl rfl (by kernel_rfl) (by omega) (by omega) _⟩) hS11 ?_
                  simp only [Act.put, List.setIfInBounds_toArray, List.set_cons_zero, List.set_cons_succ]
                  refine wpAnyH_ready (rs := [12]) (by kernel_rfl) (by simp) ?_
                  refine AllReadyH.cons rfl (fun K1 hK1 => ?_) AllReadyH.nil
                  rw [if_pos (by kernel_rfl)]
                  refine callR (d := some 87) rfl 8 #[.int .i64 Dq, .int .i64 60] (by kernel_rfl) (hp4 y11) ?_
                  rintro e w7 ⟨rfl, ew⟩
                  replace ew := ew.symm
                  subst ew
                  refine ⟨_, rfl, ?_⟩
                  refine hK1.out _ _ hS11 (fun _ => ?_)
                  clear hK1
                  simp only [Act.put, List.setIfInBounds_toArray, List.set_cons_zero, List.set_cons_succ]
                  refine takeR (i := 13) (v := .int .i64 (1 + (zq : Int))) (some 88) rfl rfl (by kernel_rfl) (by kernel_rfl) (by kernel_rfl) (fun _ _ _ h => h) (Or.inl ⟨by kernel_rfl, fun w' hSw => by exact addR_run (.const (.int .i64 1)) (.tmp 87) rfl rfl (by kernel_rfl) (by omega) (by omega) _⟩) hS11 ?_
                  simp only [Act.put, List.setIfInBounds_toArray, List.set_cons_zero, List.set_cons_succ]
                  refine wpAnyH_ready (rs := [14]) (by kernel_rfl) (by simp) ?_
                  refine AllReadyH.cons rfl (fun K1 hK1 => ?_) AllReadyH.nil
                  rw [if_pos (by kernel_rfl)]
                  refine callR (d := some 89) rfl 11 #[.int .i64 ((k : Int) + 1), .int .i64 (1 + (zs : Int)), .int .i64 (1 + (zp : Int)), .int .i64 (1 + (zq : Int))] (by kernel_rfl) (HOrd.out _ _ _ _ _) ?_
                  rintro e y14 ⟨rfl, hb14⟩
                  have hB14 : Below wc.heap.size wc y14 := below_step hB11 hb14
                  have hK14 := hK11.below hb14 hK11.lt
                  have hS14 := HK13.out _ hB14
                  refine ⟨_, rfl, ?_⟩
                  refine hK1.out _ _ hS14 (fun _ => ?_)
                  clear hK1
                  simp only [Act.put, List.setIfInBounds_toArray, List.set_cons_zero, List.set_cons_succ]
                  refine wpAnyH_ready (rs := [16]) (by kernel_rfl) (by simp) ?_
                  refine AllReadyH.cons rfl (fun K1 hK1 => ?_) AllReadyH.nil
                  rw [if_pos (by kernel_rfl)]
                  refine wp_store_row 35 (.tmp 15) (.tmp 89) rfl nb11 #[.int .i64 ((k : Int) + 1), .string ⟨#[]⟩, .string sA, .string sX, .int .i64 (1 + (zs : Int)), .int .i64 1, .int .i64 0, .int .i64 (1 + (zp : Int)), .int .i64 0, .int .i64 (1 + (zq : Int)), .int .i64 0, .int .i64 0, .int .i64 0, .int .i64 0, .int .i64 0] (by kernel_rfl) (by kernel_rfl) 35 _ hK14 (by kernel_rfl) rfl (by kernel_rfl) ?_
                  have hF := HFin.out y14 nb11 _ hB14 hK14 (by exact hL11)
                  refine hK1.out _ _ (HK13.out _ hF.1) (fun _ => ?_)
                  clear hK1
                  simp only [Act.put, List.setIfInBounds_toArray, List.set_cons_zero, List.set_cons_succ]
                  refine wpAnyH_done (by kernel_rfl) ?_ _
                  go_wp2
                  go_meet
                  exact ⟨nb11, rfl, hF.2⟩
              · rw [if_pos (by kernel_rfl)]
                refine valR (d := some 15) rfl (.pointer (some ⟨Z.heap.size, 0, none⟩)) (w' := Z.alloc (.cells #[.int .i64 0, .string ⟨#[]⟩, .string ⟨#[]⟩, .string ⟨#[]⟩, .int .i64 0, .int .i64 0, .int .i64 0, .int .i64 0, .int .i64 0, .int .i64 0, .int .i64 0, .int .i64 0, .int .i64 0, .int .i64 0, .int .i64 0] 35)) (by kernel_rfl) ?_
                have hB15 : Below wc.heap.size wc (Z.alloc (.cells #[.int .i64 0, .string ⟨#[]⟩, .string ⟨#[]⟩, .string ⟨#[]⟩, .int .i64 0, .int .i64 0, .int .i64 0, .int .i64 0, .int .i64 0, .int .i64 0, .int .i64 0, .int .i64 0, .int .i64 0, .int .i64 0, .int .i64 0] 35)) := below_step hBx ((Below.refl _ Z).alloc (Nat.le_refl _) _)
                have hK15 : Blk (Z.alloc (.cells #[.int .i64 0, .string ⟨#[]⟩, .string ⟨#[]⟩, .string ⟨#[]⟩, .int .i64 0, .int .i64 0, .int .i64 0, .int .i64 0, .int .i64 0, .int .i64 0, .int .i64 0, .int .i64 0, .int .i64 0, .int .i64 0, .int .i64 0] 35)) Z.heap.size 35 #[.int .i64 0, .string ⟨#[]⟩, .string ⟨#[]⟩, .string ⟨#[]⟩, .int .i64 0, .int .i64 0, .int .i64 0, .int .i64 0, .int .i64 0, .int .i64 0, .int .i64 0, .int .i64 0, .int .i64 0, .int .i64 0, .int .i64 0] := Blk.new _ _ _
                have hL15 : wc.heap.size ≤ Z.heap.size := hBx.size
                have hS15 := HK13.out _ hB15
                refine hK1.out _ _ hS15 (fun _ => ?_)
                clear hK1
                simp only [Act.put, List.setIfInBounds_toArray, List.set_cons_zero, List.set_cons_succ]
                generalize Z.alloc (.cells #[.int .i64 0, .string ⟨#[]⟩, .string ⟨#[]⟩, .string ⟨#[]⟩, .int .i64 0, .int .i64 0, .int .i64 0, .int .i64 0, .int .i64 0, .int .i64 0, .int .i64 0, .int .i64 0, .int .i64 0, .int .i64 0, .int .i64 0] 35) = y15 at *
                generalize Z.heap.size = nb15 at hK15 hL15 ⊢
                refine wpAnyH_ready (rs := [4]) (by kernel_rfl) (by simp) ?_
                refine AllReadyH.cons rfl (fun K1 hK1 => ?_) AllReadyH.nil
                rw [if_pos (by kernel_rfl)]
                refine callR (d := some 79) rfl 8 #[.int .i64 Ds, .int .i64 2] (by kernel_rfl) (hp2 y15) ?_
                rintro e w7 ⟨rfl, ew⟩
                replace ew := ew.symm
                subst ew
                refine ⟨_, rfl, ?_⟩
                refine hK1.out _ _ hS15 (fun _ => ?_)
                clear hK1
                simp only [Act.put, List.setIfInBounds_toArray, List.set_cons_zero, List.set_cons_succ]
                refine takeR (i := 5) (v := .int .i64 (1 + (zs : Int))) (some 80) rfl rfl (by kernel_rfl) (by kernel_rfl) (by kernel_rfl) (fun _ _ _ h => h) (Or.inl ⟨by kernel_rfl, fun w' hSw => by exact addR_run (.const (.int .i64 1)) (.tmp 79) rfl rfl (by kernel_rfl) (by omega) (by omega) _⟩) hS15 ?_
                simp only [Act.put, List.setIfInBounds_toArray, List.set_cons_zero, List.set_cons_succ]
                refine wpAnyH_ready (rs := [8]) (by kernel_rfl) (by simp) ?_
                refine AllReadyH.cons rfl (fun K1 hK1 => ?_) AllReadyH.nil
                rw [if_pos (by kernel_rfl)]
                refine callR (d := some 83) rfl 8 #[.int .i64 Dp, .int .i64 50] (by kernel_rfl) (hp3 y15) ?_
                rintro e w7 ⟨rfl, ew⟩
                replace ew := ew.symm
                subst ew
                refine ⟨_, rfl, ?_⟩
                refine hK1.out _ _ hS15 (fun _ => ?_)
                clear hK1
                simp only [Act.put, List.setIfInBounds_toArray, List.set_cons_zero, List.set_cons_succ]
                refine takeR (i := 9) (v := .int .i64 (1 + (zp : Int))) (some 84) rfl rfl (by kernel_rfl) (by kernel_rfl) (by kernel_rfl) (fun _ _ _ h => h) (Or.inl ⟨by kernel_rfl, fun w' hSw => by exact addR_run (.const (.int .i64 1)) (.tmp 83) rfl rfl (by kernel_rfl) (by omega) (by omega) _⟩) hS15 ?_
                simp only [Act.put, List.setIfInBounds_toArray, List.set_cons_zero, List.set_cons_succ]
                refine wpAnyH_ready (rs := [12]) (by kernel_rfl) (by simp) ?_
                refine AllReadyH.cons rfl (fun K1 hK1 => ?_) AllReadyH.nil
                rw [if_pos (by kernel_rfl)]
                refine callR (d := some 87) rfl 8 #[.int .i64 Dq, .int .i64 60] (by kernel_rfl) (hp4 y15) ?_
                rintro e w7 ⟨rfl, ew⟩
                replace ew := ew.symm
                subst ew
                refine ⟨_, rfl, ?_⟩
                refine hK1.out _ _ hS15 (fun _ => ?_)
                clear hK1
                simp only [Act.put, List.setIfInBounds_toArray, List.set_cons_zero, List.set_cons_succ]
                refine takeR (i := 13) (v := .int .i64 (1 + (zq : Int))) (some 88) rfl rfl (by kernel_rfl) (by kernel_rfl) (by kernel_rfl) (fun _ _ _ h => h) (Or.inl ⟨by kernel_rfl, fun w' hSw => by exact addR_run (.const (.int .i64 1)) (.tmp 87) rfl rfl (by kernel_rfl) (by omega) (by omega) _⟩) hS15 ?_
                simp only [Act.put, List.setIfInBounds_toArray, List.set_cons_zero, List.set_cons_succ]
                refine wpAnyH_ready (rs := [14]) (by kernel_rfl) (by simp) ?_
                refine AllReadyH.cons rfl (fun K1 hK1 => ?_) AllReadyH.nil
                rw [if_pos (by kernel_rfl)]
                refine callR (d := some 89) rfl 11 #[.int .i64 ((k : Int) + 1), .int .i64 (1 + (zs : Int)), .int .i64 (1 + (zp : Int)), .int .i64 (1 + (zq : Int))] (by kernel_rfl) (HOrd.out _ _ _ _ _) ?_
                rintro e y19 ⟨rfl, hb19⟩
                have hB19 : Below wc.heap.size wc y19 := below_step hB15 hb19
                have hK19 := hK15.below hb19 hK15.lt
                have hS19 := HK13.out _ hB19
                refine ⟨_, rfl, ?_⟩
                refine hK1.out _ _ hS19 (fun _ => ?_)
                clear hK1
                simp only [Act.put, List.setIfInBounds_toArray, List.set_cons_zero, List.set_cons_succ]
                refine wpAnyH_ready (rs := [16]) (by kernel_rfl) (by simp) ?_
                refine AllReadyH.cons rfl (fun K1 hK1 => ?_) AllReadyH.nil
                rw [if_pos (by kernel_rfl)]
                refine wp_store_row 35 (.tmp 15) (.tmp 89) rfl nb15 #[.int .i64 ((k : Int) + 1), .string ⟨#[]⟩, .string sA, .string sX, .int .i64 (1 + (zs : Int)), .int .i64 1, .int .i64 0, .int .i64 (1 + (zp : Int)), .int .i64 0, .int .i64 (1 + (zq : Int)), .int .i64 0, .int .i64 0, .int .i64 0, .int .i64 0, .int .i64 0] (by kernel_rfl) (by kernel_rfl) 35 _ hK19 (by kernel_rfl) rfl (by kernel_rfl) ?_
                have hF := HFin.out y19 nb15 _ hB19 hK19 (by exact hL15)
                refine hK1.out _ _ (HK13.out _ hF.1) (fun _ => ?_)
                clear hK1
                simp only [Act.put, List.setIfInBounds_toArray, List.set_cons_zero, List.set_cons_succ]
                refine wpAnyH_done (by kernel_rfl) ?_ _
                go_wp2
                go_meet
                exact ⟨nb15, rfl, hF.2⟩
            case rest =>
              obtain ⟨ob, rfl, HW2⟩ := hcut
              have HXo : Hid (Od.ok (k + 1) ⟨(k : Int) + 1, 1 + (zs : Int), 1 + (zp : Int), 1 + (zq : Int)⟩) := ⟨by show 1 ≤ (k : Int) + 1; omega, by show (k : Int) + 1 ≤ ((k + 1 : Nat) : Int); omega, by show 1 + (zs : Int) = 1 ∨ 1 + (zs : Int) = 2; omega, by show 1 ≤ 1 + (zp : Int); omega, by show 1 + (zp : Int) ≤ 50; omega, by show 1 ≤ 1 + (zq : Int); omega, by show 1 + (zq : Int) ≤ 60; omega⟩
              generalize hX : (⟨(k : Int) + 1, 1 + (zs : Int), 1 + (zp : Int), 1 + (zq : Int)⟩ : Od) = x at HW2 HXo
              have HXi : Hid (x.id = (k : Int) + 1) := by rw [← hX]; exact rfl
              clear hX
              go_upto_region 14 with fail
              refine wp_region_lit ?_
              refine wpList_runTo rfl (some 90) rfl (.pointer (some ⟨g, 0, none⟩)) wc (by kernel_rfl) ?_
              refine wpList_runTo rfl (some 91) rfl (.agg x.o.cs) wc (ldOr_run HW2.out.2 (.tmp 15) rfl (by kernel_rfl)) ?_
              refine wpList_callW rfl (some 92) rfl 10 #[.pointer (some ⟨g, 0, none⟩), .agg x.o.cs, .int .i64 0, .int .i64 0] (by kernel_rfl) (HW2.out.1.check x HXo.out) ?_
              rintro e w3 ⟨rfl, hl3, hf3⟩
              refine ⟨_, rfl, ?_⟩
              have HB3 : Hid (Blk w3 ob 35 x.o.cs) := HW2.out.1.on.keepB hf3 HW2.out.2 (by decide) (by decide)
              have HL3 : Hid (HL w w3 g ma mo ab op po { a with due := tkD a 0 } O l (.slice ao l.length cap) has k) := hl3
              clear hl3 hf3 HW2
              cases hab : abB a O x.o (valI x.o 0)
              · simp only [Bool.false_eq_true, if_false]
                refine wpList_runTo rfl (some 16) rfl (.int .i64 0) w3 (by kernel_rfl) ?_
                refine wpList_nil ?_
                simp only [Act.put, List.setIfInBounds_toArray, List.set_cons_zero, List.set_cons_succ]
                have HAb : Hid (abB a O x.o (valI x.o 0) = false) := hab
                clear hab
                go_upto_region 18 with fail
                refine wp_region_lit ?_
                refine wpList_runTo rfl (some 101) rfl (.pointer (some ⟨g, 0, none⟩)) w3 (by kernel_rfl) ?_
                refine wpList_runTo rfl (some 102) rfl (.agg x.o.cs) w3 (ldOr_run HB3.out (.tmp 15) rfl (by kernel_rfl)) ?_
                refine wpList_callW rfl (some 103) rfl 12 #[.pointer (some ⟨g, 0, none⟩), .agg x.o.cs, .int .i64 0] (by kernel_rfl) (HL3.out.opens x HXo.out (by omega)) ?_
                rintro e w4 ⟨rfl, hon4, hf4, hr4, hb4⟩
                refine ⟨_, rfl, ?_⟩
                refine wpList_runTo rfl (some 17) rfl (.int .i64 0) w4 (by kernel_rfl) ?_
                refine wpList_nil ?_
                simp only [Act.put, List.setIfInBounds_toArray, List.set_cons_zero, List.set_cons_succ]
                have HB4 : Hid (Blk w4 ob 35 x.o.cs) := HL3.out.on.keepB hf4 HB3.out (by decide) (by decide)
                have HO4 : Hid (On w.heap.size w w4 g ma mo { a with due := tkD a 0 } (x.oo :: doO O x.id) ∧ RowAt w4 35 15 (.slice ao l.length cap) l.length (flatL odC l) ∧ Blk w4 ab 30 (limH op po).cs) := ⟨hon4, hr4, hb4⟩
                clear hon4 hf4 hr4 hb4 HB3
                go_upto_region 21 with fail
                refine wp_region_lit ?_
                refine wpList_runTo rfl (some 106) rfl (.slice ao l.length cap) w4 (by kernel_rfl) ?_
                refine wpList_runTo rfl (some 107) rfl (.agg x.o.cs) w4 (ldOr_run HB4.out (.tmp 15) rfl (by kernel_rfl)) ?_
                refine wpList_runTo rfl (some 108) rfl (.slice (some ⟨w4.heap.size, 0, none⟩) 1 1) (w4.alloc (.cells x.o.cs 35)) (by kernel_rfl) ?_
                simp only [Act.put, List.setIfInBounds_toArray, List.set_cons_zero, List.set_cons_succ]
                have hrA : RowAt (w4.alloc (.cells x.o.cs 35)) 35 15 (.slice ao l.length cap) l.length (flatL odC l) := HO4.out.2.1.fr (Fr.alloc w4 _ (fun _ => False)) fun _ _ => id
                refine wpList_append_row _ rfl (.tmp 106) (.tmp 108) 39 rfl 35 i0 _ 15 144 Try.underlying39 HI.out.1 HI.out.2.1 HI.out.2.2.1 HI.out.2.2.2 (by rfl) (.slice ao l.length cap) l.length (flatL odC l) (by kernel_rfl) hrA ⟨w4.heap.size, 0, none⟩ 1 1 (odC x) (by kernel_rfl) (by rfl) (fun j u hj => by rw [Addr.add_mid, Nat.zero_add, (Blk.new w4 35 x.o.cs).cell, ← Array.getElem?_toList]; exact hj) (odC_one x) (.inl (by decide)) (by unfold maxLen; omega) (by omega) ?_
                intro v5 w5 hrow hfr hnew
                refine wpList_runTo rfl (some 11) rfl v5 w5 (by kernel_rfl) ?_
                refine wpList_nil ?_
                simp only [Act.put, List.setIfInBounds_toArray, List.set_cons_zero, List.set_cons_succ]
                have HF : Hid (HL w w5 g ma mo ab op po { a with due := tkD a 0 } (x.oo :: doO O x.id) (l ++ [x]) v5 has (k + 1)) := HL3.out.appended hopb.1 hopb.2 hpob.1 hpob.2 HXi.out HXo.out HAb.out HO4.out.1 HO4.out.2.1 HO4.out.2.2 hrow hfr hnew
                clear hrow hfr hnew hrA HO4 HB4 HL3
                go_wp2
                go_meet
                exact ⟨_, _, _, _, rfl, HF⟩
              · simp only [if_true]
                refine wpList_runTo rfl (some 16) rfl (.int .i64 150) w3 (by kernel_rfl) ?_
                refine wpList_nil ?_
                simp only [Act.put, List.setIfInBounds_toArray, List.set_cons_zero, List.set_cons_succ]
                clear hab
                go_wp2
                go_meet
                exact ⟨_, _, _, _, rfl, HL3.out.same⟩
        case rest =>
          obtain ⟨a', O', l', has', rfl, HE⟩ := hcut
          obtain ⟨ao', cap', hv', _⟩ := HE.out.row.form
          subst hv'
          have hlen' := HE.out.len
          have HM' : Hid (sumL l' ≤ op ∧ has' ≤ po ∧ -has' ≤ po ∧ 0 ≤ sumL l') := ⟨HE.out.ends.1, HE.out.ends.2.1, HE.out.ends.2.2, sumL_nonneg HE.out.hm.each⟩
          have HB' : Hid (-1000 ≤ has' ∧ has' ≤ 1000) := by have := HE.out.ends; exact ⟨by omega, by omega⟩
          have HT' : Hid (∀ j, 0 ≤ sumL (l'.take j) ∧ sumL (l'.take j) ≤ sumL l') := fun j => sumL_take_le HE.out.hm.each j
          have HN' : Hid (sumL (l'.take l'.length) = sumL l') := by rw [List.take_length]; rfl
          clear HW HTB HS
          generalize hN' : l'.length = N' at *
          generalize wc = WE at *
          go_wp2
          go_loopw [23, 24] (fun s i wr => ∃ j : Nat, j ≤ N' ∧ i = .int .i64 j ∧ s = .int .i64 (sumL (l'.take j)) ∧ ∃ n, wr = WE.drewN n) (fun _ i _ => N' - (intOf i).toNat)
          case atStart => exact ⟨0, by omega, rfl, rfl, 0, rfl⟩
          case round =>
            obtain ⟨j, hj, rfl, rfl, n0, rfl⟩ := hrel
            by_cases hjl : j < N'
            · obtain ⟨lg', lo', cap2', _, hv2, _⟩ := HE.out.row.more (by omega)
              injection hv2 with e1 _ e2
              subst e1 e2
              have hjl' : (j : Int) < (N' : Int) := by omega
              obtain ⟨x, hx⟩ : ∃ x, l'[j]? = some x := ⟨l'[j]'(by omega), List.getElem?_eq_getElem (by omega)⟩
              have HX : Hid (Od.ok (k + 1) x) := HE.out.hm.each x (List.mem_of_getElem? hx)
              have HC : Hid (WE.cell? ⟨lg', lo' + j * 15 + 7, none⟩ = some (.int .i64 x.pr) ∧ WE.cell? ⟨lg', lo' + j * 15 + 9, none⟩ = some (.int .i64 x.q)) := by
                have h7 := HE.out.row.cell (show _ = Value.slice (some ⟨lg', lo', none⟩) l'.length cap' by rw [hN']) (j := j * 15 + 7) (u := .int .i64 x.pr) (flatL_get odC_len hx (by decide))
                have h9 := HE.out.row.cell (show _ = Value.slice (some ⟨lg', lo', none⟩) l'.length cap' by rw [hN']) (j := j * 15 + 9) (u := .int .i64 x.q) (flatL_get odC_len hx (by decide))
                rw [← Nat.add_assoc] at h7 h9
                exact ⟨h7, h9⟩
              have HS1 : Hid (sumL (l'.take (j + 1)) = sumL (l'.take j) + x.pr * x.q) := sumL_take hx
              have HBd : Hid (0 ≤ sumL (l'.take j) ∧ sumL (l'.take j) ≤ 5000) := by
                have h1 := HT'.out j
                have h2 := HM'.out
                exact ⟨by omega, by omega⟩
              clear hx hN' HN' HT' HM' HB'
              generalize sumL (l'.take j) = s0 at *
              go_upto_region 45 with fail
              obtain ⟨hc7, hc9⟩ := HC.out
              have hb0 := HBd.out
              have hmm := mul_small HX.out
              rw [Int.mul_comm] at hmm
              have hw1 : IntKind.i64.wrap (x.pr * x.q) = x.pr * x.q := by rw [IntKind.wrap_i64]; omega
              have hw2 : IntKind.i64.wrap (s0 + x.pr * x.q) = s0 + x.pr * x.q := by rw [IntKind.wrap_i64]; omega
              have hw1' : wrap64 (x.pr * x.q) = x.pr * x.q := by unfold wrap64; omega
              have hw2' : wrap64 (s0 + x.pr * x.q) = s0 + x.pr * x.q := by unfold wrap64; omega

              go_quiet (fail)
              go_wp2
              exact ⟨⟨j + 1, by omega, by go_num, by rw [HS1.out], _, rfl⟩, by simp [intOf]; omega⟩
            · have hjN : j = N' := by omega
              have hstop : ¬ (j : Int) < (N' : Int) := by omega
              have HLk : Hid (HL w (WE.drewN n0) g ma mo ab op po a' O' l' (.slice ao' N' cap') has' (k + 1)) := HE.out.below (below_drewN (Below.refl _ WE) n0)
              have hsm : sumL (l'.take j) = sumL l' := by rw [hjN]; exact HN'.out
              rw [hsm]
              clear hsm
              go_wp2_with (go_at_call 15; fail)
              refine (HLk.out.looks hopb.2).mono ?_
              rintro e w6 ⟨rfl, hb6⟩
              have HL6 : Hid (HL w w6 g ma mo ab op po a' O' l' (.slice ao' N' cap') has' (k + 1)) := HLk.out.below hb6
              have a2 : w6.cell? ⟨ab, 2, none⟩ = some (.int .i64 op) := HL6.out.blk.cell 2
              have a3 : w6.cell? ⟨ab, 3, none⟩ = some (.int .i64 po) := HL6.out.blk.cell 3
              have hm1 := HM'.out
              have hm2 := HB'.out
              generalize sumL l' = S at *
              have hwn : wrap64 (-has') = -has' := by unfold wrap64; omega
              clear hb6 HLk
              go_wp2
              exact ⟨⟨k + 1, a', O', l', has', by omega, by omega, by go_num, rfl, HL6⟩, by simp [intOf]; omega⟩
    · have HR2 : Hid (Below w.heap.size w wr) := HR.out.on.bel
      clear HR
      rcases (by omega : (¬ (k : Int) < (len2 : Int)) ∨ ((k : Int) < (len2 : Int) ∧ ¬ (k : Int) < 300)) with hx | ⟨hx, hy⟩
      all_goals (clear hlt)
      · go_wp2
        go_ret
        exact ⟨rfl, HR2.out⟩
      · go_wp2
        go_ret
        exact ⟨rfl, HR2.out⟩
end Go.Proofs.Ytgioknkfppaaaaa
