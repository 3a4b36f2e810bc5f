/-
  LedgerDays: the walk.
-/
import Derived.Test.YtidhahooebepfaaJDay2
import Derived.WalkLawsBesides
namespace Go.Proofs.Ytidhahooebepfaa
set_option linter.unusedVariables false
set_option linter.unusedSimpArgs false
open Go.RowKit Go.Great Go.Maps

set_option maxRecDepth 100000 in
set_option maxHeartbeats 16000000 in
theorem LedgerDays_law (a0 : Option Addr) (len0 cap0 : Nat) (t : Nat → Dd) (hn : len0 ≤ maxLen) (w : World) (hs : SrcD w a0 len0 t) :
    Calls Try.prog 5 #[.slice a0 len0 cap0] w fun e w' => e = .returned (.bool true) ∧ Below w.heap.size w w' := by
  have HS : Hid (SrcD w a0 len0 t) := hs
  have hn' : len0 ≤ 9223372036854775807 := by unfold maxLen at hn; omega
  clear hs hn
  go_enter Try.func5, Try.ntmps5
  go_wp2_with (go_at_call 8; fail)
  refine (shown_any _).mono ?_
  rintro e w0 ⟨rfl, hb0⟩
  have HB0 : Hid (Below w.heap.size w w0) := hb0
  clear hb0
  go_wp2_with (go_at_call 9; fail)
  refine (New_any _).mono ?_
  rintro e w1 ⟨G0, rfl, hnw⟩
  have HM0 : Hid (DI w w1 G0 0 (.slice none 0 0) [] ∧ G0.bs.length = 0) := ⟨⟨GI.start HB0.out hnw.out DS.start, RowAt.none0 _ _ _, fun q hq => (by cases hq), Nat.le_refl _⟩, by rw [hnw.out.bs]; rfl⟩
  clear hnw HB0
  obtain ⟨g, hg⟩ : ∃ g, G0.g = g := ⟨_, rfl⟩
  have HG : Hid (G0.g = g) := hg
  rw [hg]
  clear hg
  go_wp2
  go_loopw [5, 6, 7] (fun n y x wr => ∃ (i m : Nat) (G : Lg) (D : List Bk) (v : Value), v = y ∧ i ≤ len0 ∧ i ≤ 200 ∧ x = .int .i64 i ∧ n = .int .i64 m ∧ Hid (G.g = g ∧ G.bs.length = m ∧ DI w wr G i v D)) (fun _ _ x _ => len0 - (intOf x).toNat)
  case atStart => exact ⟨0, 0, G0, [], _, rfl, by omega, by omega, rfl, rfl, HG.out, HM0.out.2, HM0.out.1⟩
  case round =>
    clear HM0 HG
    obtain ⟨i, m, G, D, v, hv, hi, hi3, rfl, rfl, HR⟩ := hrel
    subst hv
    by_cases hlt : i < len0 ∧ i < 200
    · as_aux_lemma =>
      obtain ⟨hl1, hl2⟩ := hlt
      have hl1' : (i : Int) < (len0 : Int) := by omega
      have hl2' : (i : Int) < 200 := by omega
      rcases HS.out.below HR.out.2.2.gi.lv.bel with h0 | ⟨gb, goff, rfl, hcell⟩
      · omega
      obtain ⟨⟨d0, d1, d2, d3, d4, d5, d6⟩, hok⟩ := hcell i hl1
      clear hcell
      have hpk := fun w => pick_any (t i).k 7 7 rfl w (by omega) (by omega) hok.1.1 hok.1.2
      have HDo : Hid (pickN (t i).k 7 < 6 → Calls Try.prog 14 #[.pointer (some ⟨g, 0, none⟩), .agg (t i).cs, .int .i64 (m : Int)] wr fun e w' => ∃ n : Nat, e = .returned (.tuple #[.int .i64 (n : Int), .bool true]) ∧ Hid (∃ G', G'.g = g ∧ G'.bs.length = n ∧ DI w w' G' (i + 1) v D)) := fun hk => by
        have hh := does_day (t i) hok HR.out.2.2 hl2 hk
        rw [HR.out.1, HR.out.2.1] at hh
        exact hh
      clear hok
      generalize t i = Dx at *
      obtain ⟨Dk, Ds, Db, De, Dp, Dq, Df⟩ := Dx
      simp only [Dd.cs] at d0 d1 d2 d3 d4 d5 d6 HDo hpk
      generalize pickN Dk 7 = zk at *
      go_wp2_with (go_at_call 11; fail)
      refine (hpk _).mono ?_
      rintro e w1 ⟨rfl, ew⟩
      replace ew := ew.symm
      subst ew
      clear hpk
      by_cases hk6 : zk < 6
      · have hk6' : (zk : Int) < 6 := by omega
        have hdo := HDo.out hk6
        clear HDo HR
        go_wp2_with (go_at_call 14; fail)
        refine hdo.mono ?_
        rintro e w2 ⟨n, rfl, hx⟩
        obtain ⟨G', hg', hn1, hc'⟩ := hx.out
        have HC : Hid (G'.g = g ∧ G'.bs.length = n ∧ DI w w2 G' (i + 1) v D) := ⟨hg', hn1, hc'⟩
        clear hx hg' hn1 hc' hdo d0 d1 d2 d3 d4 d5 d6
        go_wp2
        exact ⟨⟨i + 1, n, G', D, v, rfl, by omega, by omega, by go_num, rfl, HC⟩, by simp [intOf]; omega⟩
      · have hk6' : ¬ (zk : Int) < 6 := by omega
        clear HDo d0 d1 d2 d3 d4 d5 d6
        have hnt := Net_any G wr HR.out.2.2.gi.lv.at' (by have := HR.out.2.2.gi.bd.lt; omega)
        rw [HR.out.1] at hnt
        go_wp2_with (go_at_call 18; fail)
        refine hnt.mono ?_
        rintro e W1 ⟨vn, net, rfl, HN1⟩
        clear hnt
        have hcl := Close_any G W1 (HR.out.2.2.gi.lv.at'.below HN1.out.bel) (by have := HR.out.2.2.gi.bd.lt; omega)
        rw [HR.out.1] at hcl
        go_wp2_with (go_at_call 19; fail)
        refine hcl.mono ?_
        rintro e W2 ⟨vd, day, nm, rfl, hx⟩
        obtain ⟨hdt, hde⟩ := DT.mk' HR.out.2.2 (by omega) HN1.out hx.out
        subst hde
        have HT : Hid (DT w W2 (G.closed nm) (i + 1) v D vn vd day ∧ (G.closed nm).g = g ∧ (G.closed nm).bs.length = m) := ⟨hdt, HR.out.1, HR.out.2.1⟩
        clear hcl hx hdt HN1 HR
        have hnt := Net_any (G.closed nm) W2 HT.out.1.gi.lv.at' (Nat.zero_le _)
        rw [HT.out.2.1] at hnt
        generalize hG2 : G.closed nm = G2 at *
        have HT0 : Hid (G2.T = []) := by rw [← hG2]; rfl
        clear hG2
        go_wp2_with (go_at_call 18; fail)
        refine hnt.mono ?_
        rintro e W3 ⟨ve, emp, rfl, HN1⟩
        obtain ⟨eo, ec, hve, _⟩ := HN1.out.row.form
        have he0 : emp.length = 0 := by rw [HN1.out.perm.length_eq, HT0.out]; rfl
        rw [he0] at hve
        subst hve
        have HT3 : Hid (DT w W3 G2 (i + 1) v D vn vd day ∧ G2.g = g ∧ G2.bs.length = m) := ⟨HT.out.1.below HN1.out.bel, HT.out.2⟩
        clear hnt HN1 he0 HT HT0
        obtain ⟨no, nc, hvn, _⟩ := HT3.out.1.nt.form
        obtain ⟨dO, dc, hvd, _⟩ := HT3.out.1.dy.form
        subst hvn hvd
        have hdl : day.length ≤ 1000000 := by have := HT3.out.1.dl; omega
        generalize hNn : day.length = N at *
        have HNn : Hid (day.length = N) := hNn
        clear hNn
        go_wp2
        go_loopw [13] (fun x wr => ∃ j : Nat, j ≤ N ∧ x = .int .i64 j ∧ Hid (DT w wr G2 (i + 1) v D (.slice no N nc) (.slice dO N dc) day)) (fun x _ => N - (intOf x).toNat)
        case atStart => exact ⟨0, by omega, rfl, HT3.out.1⟩
        case round => as_aux_lemma =>
          obtain ⟨j, hj, rfl, HJ⟩ := hrel
          have HE : Hid (G2.g = g ∧ G2.bs.length = m) := HT3.out.2
          clear HT3
          by_cases hjl : j < N
          · as_aux_lemma =>
            have hjl' : (j : Int) < (N : Int) := by omega
            obtain ⟨lg, lo, cap2, _, hv2, _⟩ := HJ.out.nt.more (by have h1 := HNn.out; omega)
            injection hv2 with e1 e0 e2
            clear e0
            subst e1 e2
            obtain ⟨kg, ko, cap3, _, hv3, _⟩ := HJ.out.dy.more (by have h1 := HNn.out; omega)
            injection hv3 with e1 e0 e2
            clear e0
            subst e1 e2
            obtain ⟨x, hx⟩ : ∃ x, day[j]? = some x := ⟨day[j]'(by have h1 := HNn.out; omega), List.getElem?_eq_getElem (by have h1 := HNn.out; omega)⟩
            obtain ⟨n0, n1, n2, n3, n4⟩ := bk_cells HJ.out.nt HNn.out hx
            obtain ⟨m0, m1, m2, m3, m4⟩ := bk_cells HJ.out.dy HNn.out hx
            have HF : Hid (∀ q, DT w (wr.drewN q) G2 (i + 1) v D (.slice (some ⟨lg, lo, none⟩) N nc) (.slice (some ⟨kg, ko, none⟩) N dc) day) := fun q => HJ.out.below (below_drewN (Below.refl _ wr) q)
            clear hx HJ
            obtain ⟨x0, x1, x2, x3, x4⟩ := x
            simp only at n0 n1 n2 n3 n4 m0 m1 m2 m3 m4
            have s0 : (x0.toList == x0.toList) = true := str_self _
            have s1 : (x1.toList == x1.toList) = true := str_self _
            go_upto_region 23 with fail
            go_quiet (fail)
            go_wp2
            exact ⟨⟨j + 1, by omega, by go_num, HF.out _⟩, by simp [intOf]; omega⟩
          · as_aux_lemma =>
            have hjN : ¬ (j : Int) < (N : Int) := by omega
            go_upto_region 25 with fail
            obtain ⟨v', W4, hr, hdi⟩ := HJ.out.append (by omega) 39
            have HF : Hid (DI w W4 G2 (i + 1) v' (D ++ day)) := hdi
            clear hdi HJ
            refine wp_region_lit ?_
            refine wpList_runTo rfl (some 91) rfl (v) wr (by kernel_rfl) ?_
            simp only [Act.put, List.setIfInBounds_toArray, List.set_cons_zero, List.set_cons_succ]
            refine wpList_runTo rfl (some 92) rfl (.slice dO N dc) wr (by kernel_rfl) ?_
            simp only [Act.put, List.setIfInBounds_toArray, List.set_cons_zero, List.set_cons_succ]
            refine wpList_plain rfl fun K11 hK11 => ?_
            refine valR (d := some 93) rfl v' (exec_append (v1 := v) (v2 := .slice dO N dc) (.tmp 91) (.tmp 92) rfl (by kernel_rfl) (by kernel_rfl) hr) ?_
            refine hK11 _ _ ?_
            simp only [Act.put, List.setIfInBounds_toArray, List.set_cons_zero, List.set_cons_succ]
            refine wpList_runTo rfl (some 6) rfl (v') W4 (by kernel_rfl) ?_
            simp only [Act.put, List.setIfInBounds_toArray, List.set_cons_zero, List.set_cons_succ]
            refine wpList_nil ?_
            clear hK11 hr
            go_wp2
            exact ⟨⟨i + 1, m, G2, D ++ day, v', rfl, by omega, by omega, by go_num, rfl, HE.out.1, HE.out.2, HF.out⟩, by simp [intOf]; omega⟩
    --REST
    · as_aux_lemma =>
      clear HS
      have hor : (i < len0 ∧ i = 200) ∨ ¬ i < len0 := by omega
      have hnt := Net_any G wr HR.out.2.2.gi.lv.at' (by have := HR.out.2.2.gi.bd.lt; omega)
      rw [HR.out.1] at hnt
      clear hlt
      rcases hor with ⟨hl1, hi2⟩ | hl1
      · as_aux_lemma =>
        have hl1' : (i : Int) < (len0 : Int) := by omega
        have hl1'' : ¬ (i : Int) < 200 := by omega
        go_upto_region 26 with fail
        rename_i K26 hK26
        refine wp_region_lit ?_
        refine wpList_runTo rfl (some 94) rfl (v) wr (by kernel_rfl) ?_
        simp only [Act.put, List.setIfInBounds_toArray, List.set_cons_zero, List.set_cons_succ]
        refine wpList_runTo rfl (some 95) rfl (.pointer (some ⟨g, 0, none⟩)) wr (by kernel_rfl) ?_
        simp only [Act.put, List.setIfInBounds_toArray, List.set_cons_zero, List.set_cons_succ]
        refine wpList_callW rfl (some 96) rfl 18 #[.pointer (some ⟨g, 0, none⟩)] (by kernel_rfl) hnt ?_
        rintro e W1 ⟨vn, net, rfl, HN1⟩
        refine ⟨_, rfl, ?_⟩
        obtain ⟨v', W2, hr, hfi⟩ := HR.out.2.2.last (by omega) HN1.out 39
        have HFI : Hid (FI w W2 G v' (D ++ net) ∧ G.g = g) := ⟨hfi, HR.out.1⟩
        clear hfi HN1 HR hnt
        simp only [Act.put, List.setIfInBounds_toArray, List.set_cons_zero, List.set_cons_succ]
        refine wpList_plain rfl fun K11 hK11 => ?_
        refine valR (d := some 97) rfl v' (exec_append (v1 := v) (v2 := vn) (.tmp 94) (.tmp 96) rfl (by kernel_rfl) (by kernel_rfl) hr) ?_
        refine hK11 _ _ ?_
        simp only [Act.put, List.setIfInBounds_toArray, List.set_cons_zero, List.set_cons_succ]
        refine wpList_runTo rfl (some 6) rfl (v') W2 (by kernel_rfl) ?_
        simp only [Act.put, List.setIfInBounds_toArray, List.set_cons_zero, List.set_cons_succ]
        refine wpList_nil ?_
        refine hK26 _ _ ?_
        clear hK26 hK11 hr
        generalize D ++ net = E at *
        have HCs : Hid (∀ (W : World) (j : Nat), FI w W G v' E → j < 5 → Calls Try.prog 15 #[.pointer (some ⟨g, 0, none⟩), .string (accOf j)] W fun e w' => e = .returned (.tuple #[.int .i64 (tot G.O (accOf j)).1, .int .i64 (tot G.O (accOf j)).2]) ∧ FI w w' G v' E) := fun W j h hj => by
          have hh := Cash_any G (accOf j) W h.lv.at' (accOf_sz j)
          rw [HFI.out.2] at hh
          exact hh.mono fun e w' ⟨h1, h2⟩ => ⟨h1, h.below h2⟩
        have HBs : Hid (∀ (W : World) (j s : Nat), FI w W G v' E → Calls Try.prog 13 #[.pointer (some ⟨g, 0, none⟩), .string (accOf j), .string (syOf s)] W fun e w' => e = .returned (.tuple #[.int .i64 (amt G.A (accOf j) (syOf s)).q, .int .i64 (amt G.A (accOf j) (syOf s)).c]) ∧ FI w w' G v' E) := fun W j s h => by
          have hh := Balance_any G (accOf j) (syOf s) W h.lv.at' (accOf_sz j) (syOf_sz s)
          rw [HFI.out.2] at hh
          exact hh.mono fun e w' ⟨h1, h2⟩ => ⟨h1, h.below h2⟩
        have HAcs : Hid (∀ (W : World) (j : Nat), FI w W G v' E → j < 5 → Calls Try.prog 16 #[.int .i64 (j : Int)] W fun e w' => e = .returned (.string (accOf j)) ∧ Below W.heap.size W w') := fun W j h hj => by
          have hh := account_any (j : Int) W (by omega) (by omega)
          rw [pickN_small hj] at hh
          exact hh
        have HSys : Hid (∀ (W : World) (s : Nat), FI w W G v' E → s < 3 → Calls Try.prog 17 #[.int .i64 (s : Int)] W fun e w' => e = .returned (.string (syOf s)) ∧ Below W.heap.size W w') := fun W j h hj => by
          have hh := symbol_any (j : Int) W (by omega) (by omega)
          rw [pickN_small hj] at hh
          exact hh
        have HF0 : Hid (FI w W2 G v' E) := HFI.out.1
        clear HFI
        obtain ⟨ao, cap, hv, _⟩ := HF0.out.row.form
        subst hv
        have hEl := HF0.out.el
        generalize hNn : E.length = N at *
        have HNn : Hid (E.length = N) := hNn
        clear hNn
        go_wp2
        go_loopw [14] (fun x wr => ∃ a : Nat, a ≤ 5 ∧ x = .int .i64 a ∧ Hid (FI w wr G (.slice ao N cap) E)) (fun x _ => 5 - (intOf x).toNat)
        case atStart => exact ⟨0, by omega, rfl, HF0⟩
        case round => as_aux_lemma =>
          clear HF0
          obtain ⟨a, ha, rfl, HA⟩ := hrel
          by_cases hal : a < 5
          · have hal' : (a : Int) < 5 := by omega
            go_wp2
            go_loopw [15, 16] (fun f x wr => ∃ s : Nat, s ≤ 3 ∧ x = .int .i64 s ∧ f = .int .i64 (wrap64 (symS (fun y => selB Am.f (accOf a) y E) s)) ∧ Hid (FI w wr G (.slice ao N cap) E)) (fun _ x _ => 3 - (intOf x).toNat)
            case atStart => exact ⟨0, by omega, rfl, by rw [show wrap64 (symS (fun y => selB Am.f (accOf a) y E) 0) = 0 from by show wrap64 0 = 0; unfold wrap64; omega], HA⟩
            case round => as_aux_lemma =>
              clear HA
              obtain ⟨s, hs, rfl, rfl, HA⟩ := hrel
              by_cases hsl : s < 3
              · as_aux_lemma =>
                have hsl' : (s : Int) < 3 := by omega
                have HAc : Hid (∀ (W : World), FI w W G (.slice ao N cap) E → Calls Try.prog 16 #[.int .i64 (a : Int)] W fun e w' => e = .returned (.string (accOf a)) ∧ Below W.heap.size W w') := fun W h => HAcs.out W a h hal
                have HSy : Hid (∀ (W : World), FI w W G (.slice ao N cap) E → Calls Try.prog 17 #[.int .i64 (s : Int)] W fun e w' => e = .returned (.string (syOf s)) ∧ Below W.heap.size W w') := fun W h => HSys.out W s h hsl
                have HBl : Hid (∀ (W : World), FI w W G (.slice ao N cap) E → Calls Try.prog 13 #[.pointer (some ⟨g, 0, none⟩), .string (accOf a), .string (syOf s)] W fun e w' => e = .returned (.tuple #[.int .i64 (amt G.A (accOf a) (syOf s)).q, .int .i64 (amt G.A (accOf a) (syOf s)).c]) ∧ FI w w' G (.slice ao N cap) E) := fun W h => HBs.out W a s h
                have HSm : Hid (symS (fun y => selB Am.f (accOf a) y E) (s + 1) = symS (fun y => selB Am.f (accOf a) y E) s + selB Am.f (accOf a) (syOf s) E) := rfl
                have HQ : Hid ((amt G.A (accOf a) (syOf s)).q = selB Am.q (accOf a) (syOf s) E ∧ (amt G.A (accOf a) (syOf s)).c = selB Am.c (accOf a) (syOf s) E) := ⟨HA.out.q _ _, HA.out.c _ _⟩
                have HW : Hid (wrap64 (amt G.A (accOf a) (syOf s)).q = (amt G.A (accOf a) (syOf s)).q ∧ wrap64 (amt G.A (accOf a) (syOf s)).c = (amt G.A (accOf a) (syOf s)).c) := by
                  have hq := HA.out.bq (accOf a) (syOf s)
                  constructor <;> (unfold wrap64; omega)
                clear HAcs HSys HCs HBs
                obtain ⟨F1, hF1⟩ : ∃ F1, F1 = symS (fun y => selB Am.f (accOf a) y E) (s + 1) := ⟨_, rfl⟩
                rw [← hF1] at HSm
                have HF1 : Hid (F1 = symS (fun y => selB Am.f (accOf a) y E) (s + 1)) := hF1
                clear hF1
                generalize symS (fun y => selB Am.f (accOf a) y E) s = F0 at *
                generalize amt G.A (accOf a) (syOf s) = am at *
                generalize hac : accOf a = ac at *
                have HAC : Hid (accOf a = ac) := hac
                clear hac
                generalize syOf s = sy at *
                go_wp2_with (go_at_call 16; fail)
                refine (HAc.out _ HA.out).mono ?_
                rintro e w3 ⟨rfl, hb3⟩
                have HA3 : Hid (FI w w3 G (.slice ao N cap) E) := HA.out.below hb3
                clear hb3 HA
                go_wp2_with (go_at_call 17; fail)
                refine (HSy.out _ HA3.out).mono ?_
                rintro e w4 ⟨rfl, hb4⟩
                have HA4 : Hid (FI w w4 G (.slice ao N cap) E) := HA3.out.below hb4
                clear hb4 HA3
                go_wp2_with (go_at_call 13; fail)
                refine (HBl.out _ HA4.out).mono ?_
                rintro e w5 ⟨rfl, hb5⟩
                have HA5 : Hid (FI w w5 G (.slice ao N cap) E) := hb5
                clear hb5 HA4 HBl
                go_wp2
                go_loopw [15, 17, 18, 19] (fun f q c x wr => ∃ k : Nat, k ≤ N ∧ x = .int .i64 k ∧ f = .int .i64 (wrap64 (F0 + selB Am.f ac sy (E.take k))) ∧ q = .int .i64 (wrap64 (am.q - selB Am.q ac sy (E.take k))) ∧ c = .int .i64 (wrap64 (am.c - selB Am.c ac sy (E.take k))) ∧ Hid (FI w wr G (.slice ao N cap) E)) (fun _ _ _ x _ => N - (intOf x).toNat)
                case atStart =>
                  have e0 : ∀ g, selB g ac sy (E.take 0) = 0 := fun g => rfl
                  exact ⟨0, by omega, rfl, by rw [e0, Int.add_zero], by rw [e0, Int.sub_zero, HW.out.1], by rw [e0, Int.sub_zero, HW.out.2], HA5⟩
                case round => as_aux_lemma =>
                  clear HA5 HW
                  obtain ⟨k, hk, rfl, rfl, rfl, rfl, HK⟩ := hrel
                  by_cases hkl : k < N
                  · have hkl' : (k : Int) < (N : Int) := by omega
                    obtain ⟨lg, lo, cap2, _, hv2, _⟩ := HK.out.row.more (by have h1 := HNn.out; omega)
                    injection hv2 with e1 e0 e2
                    clear e0
                    subst e1 e2
                    obtain ⟨x, hx⟩ : ∃ x, E[k]? = some x := ⟨E[k]'(by have h1 := HNn.out; omega), List.getElem?_eq_getElem (by have h1 := HNn.out; omega)⟩
                    obtain ⟨n0, n1, _, _, _⟩ := bk_cells HK.out.row HNn.out hx
                    have sf := selB_snoc Am.f ac sy hx
                    have sq := selB_snoc Am.q ac sy hx
                    have sc := selB_snoc Am.c ac sy hx
                    have HX : Hid (E[k]? = some x) := hx
                    clear hx
                    obtain ⟨xa, xs, xq, xc, xf⟩ := x
                    simp only [Bk.am] at n0 n1 sf sq sc
                    have HE3 : Hid (wrap64 (am.q - selB Am.q ac sy (E.take (k + 1))) = wrap64 (wrap64 (am.q - selB Am.q ac sy (E.take k)) - (if ac = xa ∧ sy = xs then xq else 0)) ∧ wrap64 (am.c - selB Am.c ac sy (E.take (k + 1))) = wrap64 (wrap64 (am.c - selB Am.c ac sy (E.take k)) - (if ac = xa ∧ sy = xs then xc else 0)) ∧ wrap64 (F0 + selB Am.f ac sy (E.take (k + 1))) = wrap64 (wrap64 (F0 + selB Am.f ac sy (E.take k)) + (if ac = xa ∧ sy = xs then xf else 0))) := by
                      rw [sf, sq, sc, wrap_sub, wrap_sub, wrap_wrap, Int.sub_sub, Int.sub_sub, Int.add_assoc]
                      exact ⟨rfl, rfl, rfl⟩
                    clear sf sq sc
                    have HWW : Hid (∀ z : Int, wrap64 (wrap64 z - 0) = wrap64 z ∧ wrap64 (wrap64 z + 0) = wrap64 z) := fun z => ⟨by rw [wrap_sub, Int.sub_zero], by rw [wrap_wrap, Int.add_zero]⟩
                    by_cases h1 : xa = ac
                    · have b1 : (xa.toList == ac.toList) = true := by rw [h1]; exact str_self _
                      by_cases h2 : xs = sy
                      · as_aux_lemma =>
                        have b2 : (xs.toList == sy.toList) = true := by rw [h2]; exact str_self _
                        have HE : Hid (wrap64 (wrap64 (am.q - selB Am.q ac sy (E.take k)) - xq) = wrap64 (am.q - selB Am.q ac sy (E.take (k + 1))) ∧ wrap64 (wrap64 (am.c - selB Am.c ac sy (E.take k)) - xc) = wrap64 (am.c - selB Am.c ac sy (E.take (k + 1))) ∧ wrap64 (wrap64 (F0 + selB Am.f ac sy (E.take k)) + xf) = wrap64 (F0 + selB Am.f ac sy (E.take (k + 1)))) := by
                          rw [HE3.out.1, HE3.out.2.1, HE3.out.2.2]
                          rw [if_pos ⟨h1.symm, h2.symm⟩, if_pos ⟨h1.symm, h2.symm⟩, if_pos ⟨h1.symm, h2.symm⟩]
                          exact ⟨rfl, rfl, rfl⟩
                        clear HE3 h1 h2 HWW HQ HSm
                        have HE3 : Hid (wrap64 (am.q - selB Am.q ac sy (E.take (k + 1))) = wrap64 (am.q - selB Am.q ac sy (E.take (k + 1))) ∧ wrap64 (am.c - selB Am.c ac sy (E.take (k + 1))) = wrap64 (am.c - selB Am.c ac sy (E.take (k + 1))) ∧ wrap64 (F0 + selB Am.f ac sy (E.take (k + 1))) = wrap64 (F0 + selB Am.f ac sy (E.take (k + 1)))) := ⟨rfl, rfl, rfl⟩
                        obtain ⟨A', hA'⟩ : ∃ A', wrap64 (am.q - selB Am.q ac sy (E.take (k + 1))) = A' := ⟨_, rfl⟩
                        obtain ⟨B', hB'⟩ : ∃ A', wrap64 (am.c - selB Am.c ac sy (E.take (k + 1))) = A' := ⟨_, rfl⟩
                        obtain ⟨F', hF'⟩ : ∃ A', wrap64 (F0 + selB Am.f ac sy (E.take (k + 1))) = A' := ⟨_, rfl⟩
                        rw [hA', hB', hF'] at HE
                        clear HE3
                        have HE3 : Hid (wrap64 (am.q - selB Am.q ac sy (E.take (k + 1))) = A' ∧ wrap64 (am.c - selB Am.c ac sy (E.take (k + 1))) = B' ∧ wrap64 (F0 + selB Am.f ac sy (E.take (k + 1))) = F') := ⟨hA', hB', hF'⟩
                        clear hA' hB' hF'
                        generalize wrap64 (am.q - selB Am.q ac sy (E.take k)) = A at *
                        generalize wrap64 (am.c - selB Am.c ac sy (E.take k)) = B at *
                        generalize wrap64 (F0 + selB Am.f ac sy (E.take k)) = F at *
                        go_upto_region 38 with fail
                        rename_i K3 hK3
                        refine wp_region_held (S := fun w' => w'.cell? ⟨lg, lo + k * 5, none⟩ = some (.string xa) ∧ w'.cell? ⟨lg, lo + k * 5 + 1, none⟩ = some (.string xs)) (by kernel_rfl) ?_
                        change wpAnyH _ _ _ _ _ _ _ _ (World.drew _)
                        have hbd := below_drew wr
                        have HX0 : Hid (FI w wr.drew G (.slice (some ⟨lg, lo, none⟩) N cap) E) := HK.out.below hbd
                        have hS : wr.drew.cell? ⟨lg, lo + k * 5, none⟩ = some (.string xa) ∧ wr.drew.cell? ⟨lg, lo + k * 5 + 1, none⟩ = some (.string xs) := ⟨n0, n1⟩
                        clear HK hbd n0 n1
                        generalize wr.drew = Z at *
                        refine takeR (i := 0) (v := .slice (some ⟨lg, lo, none⟩) N cap) (some 121) rfl rfl (by kernel_rfl) (by kernel_rfl) (by kernel_rfl) (fun _ _ _ h => h) (Or.inl ⟨by kernel_rfl, fun w' hSw => by kernel_rfl⟩) hS ?_
                        simp only [Act.put, List.setIfInBounds_toArray, List.set_cons_zero, List.set_cons_succ]
                        refine takeR (i := 1) (v := .int .i64 (k : Int)) (some 122) rfl rfl (by kernel_rfl) (by kernel_rfl) (by kernel_rfl) (fun _ _ _ h => h) (Or.inl ⟨by kernel_rfl, fun w' hSw => by kernel_rfl⟩) hS ?_
                        simp only [Act.put, List.setIfInBounds_toArray, List.set_cons_zero, List.set_cons_succ]
                        refine takeR (i := 2) (v := .pointer (some ⟨lg, lo + k * 5, none⟩)) (some 123) rfl rfl (by kernel_rfl) (by kernel_rfl) (by kernel_rfl) (fun _ _ _ h => h) (Or.inl ⟨by kernel_rfl, fun w' hSw => by exact ixB_run (g := lg) (o := lo) (n := N) (c := cap) (i := k) (.tmp 121) (.tmp 122) rfl (by kernel_rfl) (by kernel_rfl) hkl _⟩) hS ?_
                        simp only [Act.put, List.setIfInBounds_toArray, List.set_cons_zero, List.set_cons_succ]
                        refine takeR (i := 3) (v := .pointer (some ⟨lg, lo + k * 5, none⟩)) (some 124) rfl rfl (by kernel_rfl) (by kernel_rfl) (by kernel_rfl) (fun _ _ _ h => h) (Or.inl ⟨by kernel_rfl, fun w' hSw => by kernel_rfl⟩) hS ?_
                        simp only [Act.put, List.setIfInBounds_toArray, List.set_cons_zero, List.set_cons_succ]
                        refine takeR (i := 4) (v := .string xa) (some 125) rfl rfl (by kernel_rfl) (by kernel_rfl) (by kernel_rfl) (fun _ _ _ h => h) (Or.inl ⟨by kernel_rfl, fun w' hSw => by exact ldS_run hSw.1 (.tmp 124) rfl (by kernel_rfl)⟩) hS ?_
                        simp only [Act.put, List.setIfInBounds_toArray, List.set_cons_zero, List.set_cons_succ]
                        refine takeR (i := 5) (v := .int .i64 (a : Int)) (some 126) rfl rfl (by kernel_rfl) (by kernel_rfl) (by kernel_rfl) (fun _ _ _ h => h) (Or.inl ⟨by kernel_rfl, fun w' hSw => by kernel_rfl⟩) hS ?_
                        simp only [Act.put, List.setIfInBounds_toArray, List.set_cons_zero, List.set_cons_succ]
                        refine wpAnyH_ready (rs := [6]) (by kernel_rfl) (by simp) ?_
                        refine AllReadyH.cons rfl (fun K1 hK1 => ?_) AllReadyH.nil
                        rw [if_pos (by kernel_rfl)]
                        refine callR (d := some 127) rfl 16 #[.int .i64 (a : Int)] (by kernel_rfl) (HAc.out Z HX0.out) ?_
                        rintro e Y1 ⟨rfl, hb⟩
                        refine ⟨_, rfl, ?_⟩
                        have hS1 : Y1.cell? ⟨lg, lo + k * 5, none⟩ = some (.string xa) ∧ Y1.cell? ⟨lg, lo + k * 5 + 1, none⟩ = some (.string xs) := ⟨(hb.cell (p := ⟨lg, _, none⟩) (World.block_lt_of_cell? _ _ hS.1)).trans hS.1, (hb.cell (p := ⟨lg, _, none⟩) (World.block_lt_of_cell? _ _ hS.2)).trans hS.2⟩
                        have HX1 : Hid (FI w Y1 G (.slice (some ⟨lg, lo, none⟩) N cap) E) := HX0.out.below hb
                        clear hb
                        refine hK1.out _ _ hS1 (fun _ => ?_)
                        clear hK1
                        simp only [Act.put, List.setIfInBounds_toArray, List.set_cons_zero, List.set_cons_succ]
                        refine takeR (i := 7) (v := .bool true) (some 128) rfl rfl (by kernel_rfl) (by kernel_rfl) (by kernel_rfl) (fun _ _ _ h => h) (Or.inl ⟨by kernel_rfl, fun w' hSw => by exact eqS_run (.tmp 125) (.tmp 127) rfl (by kernel_rfl) (by kernel_rfl) b1 _⟩) hS1 ?_
                        simp only [Act.put, List.setIfInBounds_toArray, List.set_cons_zero, List.set_cons_succ]
                        refine takeR (i := 8) (v := .bool true) (some 129) rfl rfl (by kernel_rfl) (by kernel_rfl) (by kernel_rfl) (fun _ _ _ h => h) (Or.inl ⟨by kernel_rfl, fun w' hSw => by kernel_rfl⟩) hS1 ?_
                        simp only [Act.put, List.setIfInBounds_toArray, List.set_cons_zero, List.set_cons_succ]
                        refine takeR (i := 9) (v := .slice (some ⟨lg, lo, none⟩) N cap) (some 130) rfl rfl (by kernel_rfl) (by kernel_rfl) (by kernel_rfl) (fun _ _ _ h => h) (Or.inl ⟨by kernel_rfl, fun w' hSw => by kernel_rfl⟩) hS1 ?_
                        simp only [Act.put, List.setIfInBounds_toArray, List.set_cons_zero, List.set_cons_succ]
                        refine takeR (i := 10) (v := .int .i64 (k : Int)) (some 131) rfl rfl (by kernel_rfl) (by kernel_rfl) (by kernel_rfl) (fun _ _ _ h => h) (Or.inl ⟨by kernel_rfl, fun w' hSw => by kernel_rfl⟩) hS1 ?_
                        simp only [Act.put, List.setIfInBounds_toArray, List.set_cons_zero, List.set_cons_succ]
                        refine takeR (i := 11) (v := .pointer (some ⟨lg, lo + k * 5, none⟩)) (some 132) rfl rfl (by kernel_rfl) (by kernel_rfl) (by kernel_rfl) (fun _ _ _ h => h) (Or.inl ⟨by kernel_rfl, fun w' hSw => by exact ixB_run (g := lg) (o := lo) (n := N) (c := cap) (i := k) (.tmp 130) (.tmp 131) rfl (by kernel_rfl) (by kernel_rfl) hkl _⟩) hS1 ?_
                        simp only [Act.put, List.setIfInBounds_toArray, List.set_cons_zero, List.set_cons_succ]
                        refine takeR (i := 12) (v := .pointer (some ⟨lg, lo + k * 5 + 1, none⟩)) (some 133) rfl rfl (by kernel_rfl) (by kernel_rfl) (by kernel_rfl) (fun _ _ _ h => h) (Or.inl ⟨by kernel_rfl, fun w' hSw => by kernel_rfl⟩) hS1 ?_
                        simp only [Act.put, List.setIfInBounds_toArray, List.set_cons_zero, List.set_cons_succ]
                        refine takeR (i := 13) (v := .string xs) (some 134) rfl rfl (by kernel_rfl) (by kernel_rfl) (by kernel_rfl) (fun _ _ _ h => h) (Or.inl ⟨by kernel_rfl, fun w' hSw => by exact ldS_run hSw.2 (.tmp 133) rfl (by kernel_rfl)⟩) hS1 ?_
                        simp only [Act.put, List.setIfInBounds_toArray, List.set_cons_zero, List.set_cons_succ]
                        refine takeR (i := 14) (v := .int .i64 (s : Int)) (some 135) rfl rfl (by kernel_rfl) (by kernel_rfl) (by kernel_rfl) (fun _ _ _ h => h) (Or.inl ⟨by kernel_rfl, fun w' hSw => by kernel_rfl⟩) hS1 ?_
                        simp only [Act.put, List.setIfInBounds_toArray, List.set_cons_zero, List.set_cons_succ]
                        refine wpAnyH_ready (rs := [15]) (by kernel_rfl) (by simp) ?_
                        refine AllReadyH.cons rfl (fun K1 hK1 => ?_) AllReadyH.nil
                        rw [if_pos (by kernel_rfl)]
                        refine callR (d := some 136) rfl 17 #[.int .i64 (s : Int)] (by kernel_rfl) (HSy.out Y1 HX1.out) ?_
                        rintro e Y2 ⟨rfl, hb⟩
                        refine ⟨_, rfl, ?_⟩
                        have hS2 : Y2.cell? ⟨lg, lo + k * 5, none⟩ = some (.string xa) ∧ Y2.cell? ⟨lg, lo + k * 5 + 1, none⟩ = some (.string xs) := ⟨(hb.cell (p := ⟨lg, _, none⟩) (World.block_lt_of_cell? _ _ hS1.1)).trans hS1.1, (hb.cell (p := ⟨lg, _, none⟩) (World.block_lt_of_cell? _ _ hS1.2)).trans hS1.2⟩
                        have HX2 : Hid (FI w Y2 G (.slice (some ⟨lg, lo, none⟩) N cap) E) := HX1.out.below hb
                        clear hb
                        refine hK1.out _ _ hS2 (fun _ => ?_)
                        clear hK1
                        simp only [Act.put, List.setIfInBounds_toArray, List.set_cons_zero, List.set_cons_succ]
                        refine takeR (i := 16) (v := .bool true) (some 137) rfl rfl (by kernel_rfl) (by kernel_rfl) (by kernel_rfl) (fun _ _ _ h => h) (Or.inl ⟨by kernel_rfl, fun w' hSw => by exact eqS_run (.tmp 134) (.tmp 136) rfl (by kernel_rfl) (by kernel_rfl) b2 _⟩) hS2 ?_
                        simp only [Act.put, List.setIfInBounds_toArray, List.set_cons_zero, List.set_cons_succ]
                        refine takeR (i := 17) (v := .bool true) (some 138) rfl rfl (by kernel_rfl) (by kernel_rfl) (by kernel_rfl) (fun _ _ _ h => h) (Or.inl ⟨by kernel_rfl, fun w' hSw => by kernel_rfl⟩) hS2 ?_
                        simp only [Act.put, List.setIfInBounds_toArray, List.set_cons_zero, List.set_cons_succ]
                        refine wpAnyH_done (by kernel_rfl) ?_ _
                        refine hK3 _ _ ?_
                        clear hK3
                        have HF : Hid (FI w Y2 G (.slice (some ⟨lg, lo, none⟩) N cap) E) := HX2
                        obtain ⟨_, _, n2, n3, n4⟩ := bk_cells HX2.out.row HNn.out HX.out
                        simp only at n2 n3 n4
                        clear hS hS1 hS2 HX0 HX1 HX2 HX HAc HSy
                        go_upto_region 39 with fail
                        rename_i K39 hK39
                        refine wp_region_lit ?_
                        refine wpList_runTo rfl (some 139) rfl (.int .i64 A) Y2 (by kernel_rfl) ?_
                        simp only [Act.put, List.setIfInBounds_toArray, List.set_cons_zero, List.set_cons_succ]
                        refine wpList_runTo rfl (some 140) rfl (.slice (some ⟨lg, lo, none⟩) N cap) Y2 (by kernel_rfl) ?_
                        simp only [Act.put, List.setIfInBounds_toArray, List.set_cons_zero, List.set_cons_succ]
                        refine wpList_runTo rfl (some 141) rfl (.int .i64 (k : Int)) Y2 (by kernel_rfl) ?_
                        simp only [Act.put, List.setIfInBounds_toArray, List.set_cons_zero, List.set_cons_succ]
                        refine wpList_runTo rfl (some 142) rfl (.pointer (some ⟨lg, lo + k * 5, none⟩)) Y2 (by exact ixB_run (g := lg) (o := lo) (n := N) (c := cap) (i := k) (.tmp 140) (.tmp 141) rfl (by kernel_rfl) (by kernel_rfl) hkl _) ?_
                        simp only [Act.put, List.setIfInBounds_toArray, List.set_cons_zero, List.set_cons_succ]
                        refine wpList_runTo rfl (some 143) rfl (.pointer (some ⟨lg, lo + k * 5 + 2, none⟩)) Y2 (by kernel_rfl) ?_
                        simp only [Act.put, List.setIfInBounds_toArray, List.set_cons_zero, List.set_cons_succ]
                        refine wpList_runTo rfl (some 144) rfl (.int .i64 xq) Y2 (by go_simp) ?_
                        simp only [Act.put, List.setIfInBounds_toArray, List.set_cons_zero, List.set_cons_succ]
                        refine wpList_runTo rfl (some 145) rfl (.int .i64 A') Y2 (by exact subW_run (.tmp 139) (.tmp 144) rfl (by kernel_rfl) (by kernel_rfl) HE.out.1 _) ?_
                        simp only [Act.put, List.setIfInBounds_toArray, List.set_cons_zero, List.set_cons_succ]
                        refine wpList_runTo rfl (some 17) rfl (.int .i64 A') Y2 (by kernel_rfl) ?_
                        simp only [Act.put, List.setIfInBounds_toArray, List.set_cons_zero, List.set_cons_succ]
                        refine wpList_nil ?_
                        refine hK39 _ _ ?_
                        clear hK39
                        go_upto_region 40 with fail
                        rename_i K40 hK40
                        refine wp_region_lit ?_
                        refine wpList_runTo rfl (some 146) rfl (.int .i64 B) Y2 (by kernel_rfl) ?_
                        simp only [Act.put, List.setIfInBounds_toArray, List.set_cons_zero, List.set_cons_succ]
                        refine wpList_runTo rfl (some 147) rfl (.slice (some ⟨lg, lo, none⟩) N cap) Y2 (by kernel_rfl) ?_
                        simp only [Act.put, List.setIfInBounds_toArray, List.set_cons_zero, List.set_cons_succ]
                        refine wpList_runTo rfl (some 148) rfl (.int .i64 (k : Int)) Y2 (by kernel_rfl) ?_
                        simp only [Act.put, List.setIfInBounds_toArray, List.set_cons_zero, List.set_cons_succ]
                        refine wpList_runTo rfl (some 149) rfl (.pointer (some ⟨lg, lo + k * 5, none⟩)) Y2 (by exact ixB_run (g := lg) (o := lo) (n := N) (c := cap) (i := k) (.tmp 147) (.tmp 148) rfl (by kernel_rfl) (by kernel_rfl) hkl _) ?_
                        simp only [Act.put, List.setIfInBounds_toArray, List.set_cons_zero, List.set_cons_succ]
                        refine wpList_runTo rfl (some 150) rfl (.pointer (some ⟨lg, lo + k * 5 + 3, none⟩)) Y2 (by kernel_rfl) ?_
                        simp only [Act.put, List.setIfInBounds_toArray, List.set_cons_zero, List.set_cons_succ]
                        refine wpList_runTo rfl (some 151) rfl (.int .i64 xc) Y2 (by go_simp) ?_
                        simp only [Act.put, List.setIfInBounds_toArray, List.set_cons_zero, List.set_cons_succ]
                        refine wpList_runTo rfl (some 152) rfl (.int .i64 B') Y2 (by exact subW_run (.tmp 146) (.tmp 151) rfl (by kernel_rfl) (by kernel_rfl) HE.out.2.1 _) ?_
                        simp only [Act.put, List.setIfInBounds_toArray, List.set_cons_zero, List.set_cons_succ]
                        refine wpList_runTo rfl (some 18) rfl (.int .i64 B') Y2 (by kernel_rfl) ?_
                        simp only [Act.put, List.setIfInBounds_toArray, List.set_cons_zero, List.set_cons_succ]
                        refine wpList_nil ?_
                        refine hK40 _ _ ?_
                        clear hK40
                        go_upto_region 41 with fail
                        refine wp_region_lit ?_
                        refine wpList_runTo rfl (some 153) rfl (.int .i64 F) Y2 (by kernel_rfl) ?_
                        simp only [Act.put, List.setIfInBounds_toArray, List.set_cons_zero, List.set_cons_succ]
                        refine wpList_runTo rfl (some 154) rfl (.slice (some ⟨lg, lo, none⟩) N cap) Y2 (by kernel_rfl) ?_
                        simp only [Act.put, List.setIfInBounds_toArray, List.set_cons_zero, List.set_cons_succ]
                        refine wpList_runTo rfl (some 155) rfl (.int .i64 (k : Int)) Y2 (by kernel_rfl) ?_
                        simp only [Act.put, List.setIfInBounds_toArray, List.set_cons_zero, List.set_cons_succ]
                        refine wpList_runTo rfl (some 156) rfl (.pointer (some ⟨lg, lo + k * 5, none⟩)) Y2 (by exact ixB_run (g := lg) (o := lo) (n := N) (c := cap) (i := k) (.tmp 154) (.tmp 155) rfl (by kernel_rfl) (by kernel_rfl) hkl _) ?_
                        simp only [Act.put, List.setIfInBounds_toArray, List.set_cons_zero, List.set_cons_succ]
                        refine wpList_runTo rfl (some 157) rfl (.pointer (some ⟨lg, lo + k * 5 + 4, none⟩)) Y2 (by kernel_rfl) ?_
                        simp only [Act.put, List.setIfInBounds_toArray, List.set_cons_zero, List.set_cons_succ]
                        refine wpList_runTo rfl (some 158) rfl (.int .i64 xf) Y2 (by go_simp) ?_
                        simp only [Act.put, List.setIfInBounds_toArray, List.set_cons_zero, List.set_cons_succ]
                        refine wpList_runTo rfl (some 159) rfl (.int .i64 F') Y2 (by exact addW_run (.tmp 153) (.tmp 158) rfl (by kernel_rfl) (by kernel_rfl) HE.out.2.2 _) ?_
                        simp only [Act.put, List.setIfInBounds_toArray, List.set_cons_zero, List.set_cons_succ]
                        refine wpList_runTo rfl (some 15) rfl (.int .i64 F') Y2 (by kernel_rfl) ?_
                        simp only [Act.put, List.setIfInBounds_toArray, List.set_cons_zero, List.set_cons_succ]
                        refine wpList_nil ?_
                        go_wp2
                        exact ⟨⟨k + 1, by omega, by go_num, by rw [HE3.out.2.2], by rw [HE3.out.1], by rw [HE3.out.2.1], HF⟩, by simp [intOf]; omega⟩
                      · as_aux_lemma =>
                        have b2 : (xs.toList == sy.toList) = false := by rw [str_dec, decide_eq_false_iff_not]; exact h2
                        have HE : Hid (wrap64 (am.q - selB Am.q ac sy (E.take k)) = wrap64 (am.q - selB Am.q ac sy (E.take (k + 1))) ∧ wrap64 (am.c - selB Am.c ac sy (E.take k)) = wrap64 (am.c - selB Am.c ac sy (E.take (k + 1))) ∧ wrap64 (F0 + selB Am.f ac sy (E.take k)) = wrap64 (F0 + selB Am.f ac sy (E.take (k + 1)))) := by
                          rw [HE3.out.1, HE3.out.2.1, HE3.out.2.2]
                          rw [if_neg (fun e => h2 e.2.symm), if_neg (fun e => h2 e.2.symm), if_neg (fun e => h2 e.2.symm), (HWW.out _).1, (HWW.out _).1, (HWW.out _).2]
                          exact ⟨rfl, rfl, rfl⟩
                        clear HE3 h1 h2 HWW HQ HSm
                        go_upto_region 38 with fail
                        rename_i K3 hK3
                        refine wp_region_held (S := fun w' => w'.cell? ⟨lg, lo + k * 5, none⟩ = some (.string xa) ∧ w'.cell? ⟨lg, lo + k * 5 + 1, none⟩ = some (.string xs)) (by kernel_rfl) ?_
                        change wpAnyH _ _ _ _ _ _ _ _ (World.drew _)
                        have hbd := below_drew wr
                        have HX0 : Hid (FI w wr.drew G (.slice (some ⟨lg, lo, none⟩) N cap) E) := HK.out.below hbd
                        have hS : wr.drew.cell? ⟨lg, lo + k * 5, none⟩ = some (.string xa) ∧ wr.drew.cell? ⟨lg, lo + k * 5 + 1, none⟩ = some (.string xs) := ⟨n0, n1⟩
                        clear HK hbd n0 n1
                        generalize wr.drew = Z at *
                        refine takeR (i := 0) (v := .slice (some ⟨lg, lo, none⟩) N cap) (some 121) rfl rfl (by kernel_rfl) (by kernel_rfl) (by kernel_rfl) (fun _ _ _ h => h) (Or.inl ⟨by kernel_rfl, fun w' hSw => by kernel_rfl⟩) hS ?_
                        simp only [Act.put, List.setIfInBounds_toArray, List.set_cons_zero, List.set_cons_succ]
                        refine takeR (i := 1) (v := .int .i64 (k : Int)) (some 122) rfl rfl (by kernel_rfl) (by kernel_rfl) (by kernel_rfl) (fun _ _ _ h => h) (Or.inl ⟨by kernel_rfl, fun w' hSw => by kernel_rfl⟩) hS ?_
                        simp only [Act.put, List.setIfInBounds_toArray, List.set_cons_zero, List.set_cons_succ]
                        refine takeR (i := 2) (v := .pointer (some ⟨lg, lo + k * 5, none⟩)) (some 123) rfl rfl (by kernel_rfl) (by kernel_rfl) (by kernel_rfl) (fun _ _ _ h => h) (Or.inl ⟨by kernel_rfl, fun w' hSw => by exact ixB_run (g := lg) (o := lo) (n := N) (c := cap) (i := k) (.tmp 121) (.tmp 122) rfl (by kernel_rfl) (by kernel_rfl) hkl _⟩) hS ?_
                        simp only [Act.put, List.setIfInBounds_toArray, List.set_cons_zero, List.set_cons_succ]
                        refine takeR (i := 3) (v := .pointer (some ⟨lg, lo + k * 5, none⟩)) (some 124) rfl rfl (by kernel_rfl) (by kernel_rfl) (by kernel_rfl) (fun _ _ _ h => h) (Or.inl ⟨by kernel_rfl, fun w' hSw => by kernel_rfl⟩) hS ?_
                        simp only [Act.put, List.setIfInBounds_toArray, List.set_cons_zero, List.set_cons_succ]
                        refine takeR (i := 4) (v := .string xa) (some 125) rfl rfl (by kernel_rfl) (by kernel_rfl) (by kernel_rfl) (fun _ _ _ h => h) (Or.inl ⟨by kernel_rfl, fun w' hSw => by exact ldS_run hSw.1 (.tmp 124) rfl (by kernel_rfl)⟩) hS ?_
                        simp only [Act.put, List.setIfInBounds_toArray, List.set_cons_zero, List.set_cons_succ]
                        refine takeR (i := 5) (v := .int .i64 (a : Int)) (some 126) rfl rfl (by kernel_rfl) (by kernel_rfl) (by kernel_rfl) (fun _ _ _ h => h) (Or.inl ⟨by kernel_rfl, fun w' hSw => by kernel_rfl⟩) hS ?_
                        simp only [Act.put, List.setIfInBounds_toArray, List.set_cons_zero, List.set_cons_succ]
                        refine wpAnyH_ready (rs := [6]) (by kernel_rfl) (by simp) ?_
                        refine AllReadyH.cons rfl (fun K1 hK1 => ?_) AllReadyH.nil
                        rw [if_pos (by kernel_rfl)]
                        refine callR (d := some 127) rfl 16 #[.int .i64 (a : Int)] (by kernel_rfl) (HAc.out Z HX0.out) ?_
                        rintro e Y1 ⟨rfl, hb⟩
                        refine ⟨_, rfl, ?_⟩
                        have hS1 : Y1.cell? ⟨lg, lo + k * 5, none⟩ = some (.string xa) ∧ Y1.cell? ⟨lg, lo + k * 5 + 1, none⟩ = some (.string xs) := ⟨(hb.cell (p := ⟨lg, _, none⟩) (World.block_lt_of_cell? _ _ hS.1)).trans hS.1, (hb.cell (p := ⟨lg, _, none⟩) (World.block_lt_of_cell? _ _ hS.2)).trans hS.2⟩
                        have HX1 : Hid (FI w Y1 G (.slice (some ⟨lg, lo, none⟩) N cap) E) := HX0.out.below hb
                        clear hb
                        refine hK1.out _ _ hS1 (fun _ => ?_)
                        clear hK1
                        simp only [Act.put, List.setIfInBounds_toArray, List.set_cons_zero, List.set_cons_succ]
                        refine takeR (i := 7) (v := .bool true) (some 128) rfl rfl (by kernel_rfl) (by kernel_rfl) (by kernel_rfl) (fun _ _ _ h => h) (Or.inl ⟨by kernel_rfl, fun w' hSw => by exact eqS_run (.tmp 125) (.tmp 127) rfl (by kernel_rfl) (by kernel_rfl) b1 _⟩) hS1 ?_
                        simp only [Act.put, List.setIfInBounds_toArray, List.set_cons_zero, List.set_cons_succ]
                        refine takeR (i := 8) (v := .bool true) (some 129) rfl rfl (by kernel_rfl) (by kernel_rfl) (by kernel_rfl) (fun _ _ _ h => h) (Or.inl ⟨by kernel_rfl, fun w' hSw => by kernel_rfl⟩) hS1 ?_
                        simp only [Act.put, List.setIfInBounds_toArray, List.set_cons_zero, List.set_cons_succ]
                        refine takeR (i := 9) (v := .slice (some ⟨lg, lo, none⟩) N cap) (some 130) rfl rfl (by kernel_rfl) (by kernel_rfl) (by kernel_rfl) (fun _ _ _ h => h) (Or.inl ⟨by kernel_rfl, fun w' hSw => by kernel_rfl⟩) hS1 ?_
                        simp only [Act.put, List.setIfInBounds_toArray, List.set_cons_zero, List.set_cons_succ]
                        refine takeR (i := 10) (v := .int .i64 (k : Int)) (some 131) rfl rfl (by kernel_rfl) (by kernel_rfl) (by kernel_rfl) (fun _ _ _ h => h) (Or.inl ⟨by kernel_rfl, fun w' hSw => by kernel_rfl⟩) hS1 ?_
                        simp only [Act.put, List.setIfInBounds_toArray, List.set_cons_zero, List.set_cons_succ]
                        refine takeR (i := 11) (v := .pointer (some ⟨lg, lo + k * 5, none⟩)) (some 132) rfl rfl (by kernel_rfl) (by kernel_rfl) (by kernel_rfl) (fun _ _ _ h => h) (Or.inl ⟨by kernel_rfl, fun w' hSw => by exact ixB_run (g := lg) (o := lo) (n := N) (c := cap) (i := k) (.tmp 130) (.tmp 131) rfl (by kernel_rfl) (by kernel_rfl) hkl _⟩) hS1 ?_
                        simp only [Act.put, List.setIfInBounds_toArray, List.set_cons_zero, List.set_cons_succ]
                        refine takeR (i := 12) (v := .pointer (some ⟨lg, lo + k * 5 + 1, none⟩)) (some 133) rfl rfl (by kernel_rfl) (by kernel_rfl) (by kernel_rfl) (fun _ _ _ h => h) (Or.inl ⟨by kernel_rfl, fun w' hSw => by kernel_rfl⟩) hS1 ?_
                        simp only [Act.put, List.setIfInBounds_toArray, List.set_cons_zero, List.set_cons_succ]
                        refine takeR (i := 13) (v := .string xs) (some 134) rfl rfl (by kernel_rfl) (by kernel_rfl) (by kernel_rfl) (fun _ _ _ h => h) (Or.inl ⟨by kernel_rfl, fun w' hSw => by exact ldS_run hSw.2 (.tmp 133) rfl (by kernel_rfl)⟩) hS1 ?_
                        simp only [Act.put, List.setIfInBounds_toArray, List.set_cons_zero, List.set_cons_succ]
                        refine takeR (i := 14) (v := .int .i64 (s : Int)) (some 135) rfl rfl (by kernel_rfl) (by kernel_rfl) (by kernel_rfl) (fun _ _ _ h => h) (Or.inl ⟨by kernel_rfl, fun w' hSw => by kernel_rfl⟩) hS1 ?_
                        simp only [Act.put, List.setIfInBounds_toArray, List.set_cons_zero, List.set_cons_succ]
                        refine wpAnyH_ready (rs := [15]) (by kernel_rfl) (by simp) ?_
                        refine AllReadyH.cons rfl (fun K1 hK1 => ?_) AllReadyH.nil
                        rw [if_pos (by kernel_rfl)]
                        refine callR (d := some 136) rfl 17 #[.int .i64 (s : Int)] (by kernel_rfl) (HSy.out Y1 HX1.out) ?_
                        rintro e Y2 ⟨rfl, hb⟩
                        refine ⟨_, rfl, ?_⟩
                        have hS2 : Y2.cell? ⟨lg, lo + k * 5, none⟩ = some (.string xa) ∧ Y2.cell? ⟨lg, lo + k * 5 + 1, none⟩ = some (.string xs) := ⟨(hb.cell (p := ⟨lg, _, none⟩) (World.block_lt_of_cell? _ _ hS1.1)).trans hS1.1, (hb.cell (p := ⟨lg, _, none⟩) (World.block_lt_of_cell? _ _ hS1.2)).trans hS1.2⟩
                        have HX2 : Hid (FI w Y2 G (.slice (some ⟨lg, lo, none⟩) N cap) E) := HX1.out.below hb
                        clear hb
                        refine hK1.out _ _ hS2 (fun _ => ?_)
                        clear hK1
                        simp only [Act.put, List.setIfInBounds_toArray, List.set_cons_zero, List.set_cons_succ]
                        refine takeR (i := 16) (v := .bool false) (some 137) rfl rfl (by kernel_rfl) (by kernel_rfl) (by kernel_rfl) (fun _ _ _ h => h) (Or.inl ⟨by kernel_rfl, fun w' hSw => by exact eqS_run (.tmp 134) (.tmp 136) rfl (by kernel_rfl) (by kernel_rfl) b2 _⟩) hS2 ?_
                        simp only [Act.put, List.setIfInBounds_toArray, List.set_cons_zero, List.set_cons_succ]
                        refine takeR (i := 17) (v := .bool false) (some 138) rfl rfl (by kernel_rfl) (by kernel_rfl) (by kernel_rfl) (fun _ _ _ h => h) (Or.inl ⟨by kernel_rfl, fun w' hSw => by kernel_rfl⟩) hS2 ?_
                        simp only [Act.put, List.setIfInBounds_toArray, List.set_cons_zero, List.set_cons_succ]
                        refine wpAnyH_done (by kernel_rfl) ?_ _
                        refine hK3 _ _ ?_
                        clear hK3
                        have HF : Hid (FI w Y2 G (.slice (some ⟨lg, lo, none⟩) N cap) E) := HX2
                        clear hS hS1 hS2
                        go_wp2
                        exact ⟨⟨k + 1, by omega, by go_num, by rw [← HE.out.2.2], by rw [← HE.out.1], by rw [← HE.out.2.1], HF⟩, by simp [intOf]; omega⟩
                    · as_aux_lemma =>
                      have b1 : (xa.toList == ac.toList) = false := by rw [str_dec, decide_eq_false_iff_not]; exact h1
                      have HE : Hid (wrap64 (am.q - selB Am.q ac sy (E.take k)) = wrap64 (am.q - selB Am.q ac sy (E.take (k + 1))) ∧ wrap64 (am.c - selB Am.c ac sy (E.take k)) = wrap64 (am.c - selB Am.c ac sy (E.take (k + 1))) ∧ wrap64 (F0 + selB Am.f ac sy (E.take k)) = wrap64 (F0 + selB Am.f ac sy (E.take (k + 1)))) := by
                        rw [HE3.out.1, HE3.out.2.1, HE3.out.2.2]
                        rw [if_neg (fun e => h1 e.1.symm), if_neg (fun e => h1 e.1.symm), if_neg (fun e => h1 e.1.symm), (HWW.out _).1, (HWW.out _).1, (HWW.out _).2]
                        exact ⟨rfl, rfl, rfl⟩
                      clear HE3 h1 HWW HQ HSm
                      go_upto_region 38 with fail
                      rename_i K3 hK3
                      refine wp_region_held (S := fun w' => w'.cell? ⟨lg, lo + k * 5, none⟩ = some (.string xa) ∧ w'.cell? ⟨lg, lo + k * 5 + 1, none⟩ = some (.string xs)) (by kernel_rfl) ?_
                      change wpAnyH _ _ _ _ _ _ _ _ (World.drew _)
                      have hbd := below_drew wr
                      have HX0 : Hid (FI w wr.drew G (.slice (some ⟨lg, lo, none⟩) N cap) E) := HK.out.below hbd
                      have hS : wr.drew.cell? ⟨lg, lo + k * 5, none⟩ = some (.string xa) ∧ wr.drew.cell? ⟨lg, lo + k * 5 + 1, none⟩ = some (.string xs) := ⟨n0, n1⟩
                      clear HK hbd n0 n1
                      generalize wr.drew = Z at *
                      refine takeR (i := 0) (v := .slice (some ⟨lg, lo, none⟩) N cap) (some 121) rfl rfl (by kernel_rfl) (by kernel_rfl) (by kernel_rfl) (fun _ _ _ h => h) (Or.inl ⟨by kernel_rfl, fun w' hSw => by kernel_rfl⟩) hS ?_
                      simp only [Act.put, List.setIfInBounds_toArray, List.set_cons_zero, List.set_cons_succ]
                      refine takeR (i := 1) (v := .int .i64 (k : Int)) (some 122) rfl rfl (by kernel_rfl) (by kernel_rfl) (by kernel_rfl) (fun _ _ _ h => h) (Or.inl ⟨by kernel_rfl, fun w' hSw => by kernel_rfl⟩) hS ?_
                      simp only [Act.put, List.setIfInBounds_toArray, List.set_cons_zero, List.set_cons_succ]
                      refine takeR (i := 2) (v := .pointer (some ⟨lg, lo + k * 5, none⟩)) (some 123) rfl rfl (by kernel_rfl) (by kernel_rfl) (by kernel_rfl) (fun _ _ _ h => h) (Or.inl ⟨by kernel_rfl, fun w' hSw => by exact ixB_run (g := lg) (o := lo) (n := N) (c := cap) (i := k) (.tmp 121) (.tmp 122) rfl (by kernel_rfl) (by kernel_rfl) hkl _⟩) hS ?_
                      simp only [Act.put, List.setIfInBounds_toArray, List.set_cons_zero, List.set_cons_succ]
                      refine takeR (i := 3) (v := .pointer (some ⟨lg, lo + k * 5, none⟩)) (some 124) rfl rfl (by kernel_rfl) (by kernel_rfl) (by kernel_rfl) (fun _ _ _ h => h) (Or.inl ⟨by kernel_rfl, fun w' hSw => by kernel_rfl⟩) hS ?_
                      simp only [Act.put, List.setIfInBounds_toArray, List.set_cons_zero, List.set_cons_succ]
                      refine takeR (i := 4) (v := .string xa) (some 125) rfl rfl (by kernel_rfl) (by kernel_rfl) (by kernel_rfl) (fun _ _ _ h => h) (Or.inl ⟨by kernel_rfl, fun w' hSw => by exact ldS_run hSw.1 (.tmp 124) rfl (by kernel_rfl)⟩) hS ?_
                      simp only [Act.put, List.setIfInBounds_toArray, List.set_cons_zero, List.set_cons_succ]
                      refine takeR (i := 5) (v := .int .i64 (a : Int)) (some 126) rfl rfl (by kernel_rfl) (by kernel_rfl) (by kernel_rfl) (fun _ _ _ h => h) (Or.inl ⟨by kernel_rfl, fun w' hSw => by kernel_rfl⟩) hS ?_
                      simp only [Act.put, List.setIfInBounds_toArray, List.set_cons_zero, List.set_cons_succ]
                      refine wpAnyH_ready (rs := [6]) (by kernel_rfl) (by simp) ?_
                      refine AllReadyH.cons rfl (fun K1 hK1 => ?_) AllReadyH.nil
                      rw [if_pos (by kernel_rfl)]
                      refine callR (d := some 127) rfl 16 #[.int .i64 (a : Int)] (by kernel_rfl) (HAc.out Z HX0.out) ?_
                      rintro e Y1 ⟨rfl, hb⟩
                      refine ⟨_, rfl, ?_⟩
                      have hS1 : Y1.cell? ⟨lg, lo + k * 5, none⟩ = some (.string xa) ∧ Y1.cell? ⟨lg, lo + k * 5 + 1, none⟩ = some (.string xs) := ⟨(hb.cell (p := ⟨lg, _, none⟩) (World.block_lt_of_cell? _ _ hS.1)).trans hS.1, (hb.cell (p := ⟨lg, _, none⟩) (World.block_lt_of_cell? _ _ hS.2)).trans hS.2⟩
                      have HX1 : Hid (FI w Y1 G (.slice (some ⟨lg, lo, none⟩) N cap) E) := HX0.out.below hb
                      clear hb
                      refine hK1.out _ _ hS1 (fun _ => ?_)
                      clear hK1
                      simp only [Act.put, List.setIfInBounds_toArray, List.set_cons_zero, List.set_cons_succ]
                      refine takeR (i := 7) (v := .bool false) (some 128) rfl rfl (by kernel_rfl) (by kernel_rfl) (by kernel_rfl) (fun _ _ _ h => h) (Or.inl ⟨by kernel_rfl, fun w' hSw => by exact eqS_run (.tmp 125) (.tmp 127) rfl (by kernel_rfl) (by kernel_rfl) b1 _⟩) hS1 ?_
                      simp only [Act.put, List.setIfInBounds_toArray, List.set_cons_zero, List.set_cons_succ]
                      refine takeR (i := 8) (v := .bool false) (some 129) rfl rfl (by kernel_rfl) (by kernel_rfl) (by kernel_rfl) (fun _ _ _ h => h) (Or.inl ⟨by kernel_rfl, fun w' hSw => by kernel_rfl⟩) hS1 ?_
                      simp only [Act.put, List.setIfInBounds_toArray, List.set_cons_zero, List.set_cons_succ]
                      refine takeR (i := 9) (v := undef) (some 130) rfl rfl (by kernel_rfl) (by kernel_rfl) (by kernel_rfl) (fun _ _ _ h => h) (Or.inr ⟨by kernel_rfl, rfl⟩) hS1 ?_
                      simp only [Act.put, List.setIfInBounds_toArray, List.set_cons_zero, List.set_cons_succ]
                      refine takeR (i := 10) (v := undef) (some 131) rfl rfl (by kernel_rfl) (by kernel_rfl) (by kernel_rfl) (fun _ _ _ h => h) (Or.inr ⟨by kernel_rfl, rfl⟩) hS1 ?_
                      simp only [Act.put, List.setIfInBounds_toArray, List.set_cons_zero, List.set_cons_succ]
                      refine takeR (i := 11) (v := undef) (some 132) rfl rfl (by kernel_rfl) (by kernel_rfl) (by kernel_rfl) (fun _ _ _ h => h) (Or.inr ⟨by kernel_rfl, rfl⟩) hS1 ?_
                      simp only [Act.put, List.setIfInBounds_toArray, List.set_cons_zero, List.set_cons_succ]
                      refine takeR (i := 12) (v := undef) (some 133) rfl rfl (by kernel_rfl) (by kernel_rfl) (by kernel_rfl) (fun _ _ _ h => h) (Or.inr ⟨by kernel_rfl, rfl⟩) hS1 ?_
                      simp only [Act.put, List.setIfInBounds_toArray, List.set_cons_zero, List.set_cons_succ]
                      refine takeR (i := 13) (v := undef) (some 134) rfl rfl (by kernel_rfl) (by kernel_rfl) (by kernel_rfl) (fun _ _ _ h => h) (Or.inr ⟨by kernel_rfl, rfl⟩) hS1 ?_
                      simp only [Act.put, List.setIfInBounds_toArray, List.set_cons_zero, List.set_cons_succ]
                      refine takeR (i := 14) (v := undef) (some 135) rfl rfl (by kernel_rfl) (by kernel_rfl) (by kernel_rfl) (fun _ _ _ h => h) (Or.inr ⟨by kernel_rfl, rfl⟩) hS1 ?_
                      simp only [Act.put, List.setIfInBounds_toArray, List.set_cons_zero, List.set_cons_succ]
                      refine takeR (i := 15) (v := undef) (some 136) rfl rfl (by kernel_rfl) (by kernel_rfl) (by kernel_rfl) (fun _ _ _ h => h) (Or.inr ⟨by kernel_rfl, rfl⟩) hS1 ?_
                      simp only [Act.put, List.setIfInBounds_toArray, List.set_cons_zero, List.set_cons_succ]
                      refine takeR (i := 16) (v := undef) (some 137) rfl rfl (by kernel_rfl) (by kernel_rfl) (by kernel_rfl) (fun _ _ _ h => h) (Or.inr ⟨by kernel_rfl, rfl⟩) hS1 ?_
                      simp only [Act.put, List.setIfInBounds_toArray, List.set_cons_zero, List.set_cons_succ]
                      refine takeR (i := 17) (v := .bool false) (some 138) rfl rfl (by kernel_rfl) (by kernel_rfl) (by kernel_rfl) (fun _ _ _ h => h) (Or.inl ⟨by kernel_rfl, fun w' hSw => by kernel_rfl⟩) hS1 ?_
                      simp only [Act.put, List.setIfInBounds_toArray, List.set_cons_zero, List.set_cons_succ]
                      refine wpAnyH_done (by kernel_rfl) ?_ _
                      refine hK3 _ _ ?_
                      clear hK3
                      have HF : Hid (FI w Y1 G (.slice (some ⟨lg, lo, none⟩) N cap) E) := HX1
                      clear hS hS1
                      go_wp2
                      exact ⟨⟨k + 1, by omega, by go_num, by rw [← HE.out.2.2], by rw [← HE.out.1], by rw [← HE.out.2.1], HF⟩, by simp [intOf]; omega⟩
                  · as_aux_lemma =>
                    have hkN : ¬ (k : Int) < (N : Int) := by omega
                    have e0 : E.take k = E := by rw [show k = E.length by have := HNn.out; omega, List.take_length]
                    have z0 : wrap64 0 = 0 := by unfold wrap64; omega
                    have z1 : wrap64 (am.q - selB Am.q ac sy (E.take k)) = 0 := by rw [e0, HQ.out.1, Int.sub_self, z0]
                    have z2 : wrap64 (am.c - selB Am.c ac sy (E.take k)) = 0 := by rw [e0, HQ.out.2, Int.sub_self, z0]
                    have z3 : wrap64 (F0 + selB Am.f ac sy (E.take k)) = wrap64 F1 := by rw [e0, ← HSm.out]
                    rw [z1, z2, z3]
                    clear z0 z1 z2 z3 e0 HQ HSm HAc HSy
                    go_wp2
                    exact ⟨⟨s + 1, by omega, by go_num, by rw [← HF1.out], HK⟩, by simp [intOf]; omega⟩
              · as_aux_lemma =>
                have hs3 : s = 3 := by omega
                subst hs3
                have hb := HA.out.b (accOf a)
                have ho := HA.out.o (accOf a)
                have hcs := fun W h => HCs.out W a h hal
                have hac := HAcs.out wr a HA.out hal
                rw [symS_three, ← ho]
                have hw : wrap64 (tot G.O (accOf a)).2 = (tot G.O (accOf a)).2 := by unfold wrap64; omega
                rw [hw]
                clear hw ho hb HCs HBs HAcs HSys
                generalize (tot G.O (accOf a)).1 = c1 at *
                generalize (tot G.O (accOf a)).2 = c2 at *
                generalize accOf a = ac at *
                go_wp2_with (go_at_call 16; fail)
                refine hac.mono ?_
                rintro e w3 ⟨rfl, hb3⟩
                have HA3 : Hid (FI w w3 G (.slice ao N cap) E) := HA.out.below hb3
                clear hb3 HA hac
                go_wp2_with (go_at_call 15; fail)
                refine (hcs _ HA3.out).mono ?_
                rintro e w4 ⟨rfl, hc4⟩
                have HA4 : Hid (FI w w4 G (.slice ao N cap) E) := hc4
                clear hc4 HA3 hcs
                go_wp2
                exact ⟨⟨a + 1, by omega, by go_num, HA4⟩, by simp [intOf]; omega⟩
          · as_aux_lemma =>
            have ha5 : a = 5 := by omega
            subst ha5
            have HF : Hid (Below w.heap.size w wr) := HA.out.lv.bel
            clear HA HCs HBs HAcs HSys
            go_wp2
            go_ret
            exact ⟨rfl, HF.out⟩
      · as_aux_lemma =>
        have hl1' : ¬ (i : Int) < (len0 : Int) := by omega
        go_upto_region 26 with fail
        rename_i K26 hK26
        refine wp_region_lit ?_
        refine wpList_runTo rfl (some 94) rfl (v) wr (by kernel_rfl) ?_
        simp only [Act.put, List.setIfInBounds_toArray, List.set_cons_zero, List.set_cons_succ]
        refine wpList_runTo rfl (some 95) rfl (.pointer (some ⟨g, 0, none⟩)) wr (by kernel_rfl) ?_
        simp only [Act.put, List.setIfInBounds_toArray, List.set_cons_zero, List.set_cons_succ]
        refine wpList_callW rfl (some 96) rfl 18 #[.pointer (some ⟨g, 0, none⟩)] (by kernel_rfl) hnt ?_
        rintro e W1 ⟨vn, net, rfl, HN1⟩
        refine ⟨_, rfl, ?_⟩
        obtain ⟨v', W2, hr, hfi⟩ := HR.out.2.2.last (by omega) HN1.out 39
        have HFI : Hid (FI w W2 G v' (D ++ net) ∧ G.g = g) := ⟨hfi, HR.out.1⟩
        clear hfi HN1 HR hnt
        simp only [Act.put, List.setIfInBounds_toArray, List.set_cons_zero, List.set_cons_succ]
        refine wpList_plain rfl fun K11 hK11 => ?_
        refine valR (d := some 97) rfl v' (exec_append (v1 := v) (v2 := vn) (.tmp 94) (.tmp 96) rfl (by kernel_rfl) (by kernel_rfl) hr) ?_
        refine hK11 _ _ ?_
        simp only [Act.put, List.setIfInBounds_toArray, List.set_cons_zero, List.set_cons_succ]
        refine wpList_runTo rfl (some 6) rfl (v') W2 (by kernel_rfl) ?_
        simp only [Act.put, List.setIfInBounds_toArray, List.set_cons_zero, List.set_cons_succ]
        refine wpList_nil ?_
        refine hK26 _ _ ?_
        clear hK26 hK11 hr
        generalize D ++ net = E at *
        have HCs : Hid (∀ (W : World) (j : Nat), FI w W G v' E → j < 5 → Calls Try.prog 15 #[.pointer (some ⟨g, 0, none⟩), .string (accOf j)] W fun e w' => e = .returned (.tuple #[.int .i64 (tot G.O (accOf j)).1, .int .i64 (tot G.O (accOf j)).2]) ∧ FI w w' G v' E) := fun W j h hj => by
          have hh := Cash_any G (accOf j) W h.lv.at' (accOf_sz j)
          rw [HFI.out.2] at hh
          exact hh.mono fun e w' ⟨h1, h2⟩ => ⟨h1, h.below h2⟩
        have HBs : Hid (∀ (W : World) (j s : Nat), FI w W G v' E → Calls Try.prog 13 #[.pointer (some ⟨g, 0, none⟩), .string (accOf j), .string (syOf s)] W fun e w' => e = .returned (.tuple #[.int .i64 (amt G.A (accOf j) (syOf s)).q, .int .i64 (amt G.A (accOf j) (syOf s)).c]) ∧ FI w w' G v' E) := fun W j s h => by
          have hh := Balance_any G (accOf j) (syOf s) W h.lv.at' (accOf_sz j) (syOf_sz s)
          rw [HFI.out.2] at hh
          exact hh.mono fun e w' ⟨h1, h2⟩ => ⟨h1, h.below h2⟩
        have HAcs : Hid (∀ (W : World) (j : Nat), FI w W G v' E → j < 5 → Calls Try.prog 16 #[.int .i64 (j : Int)] W fun e w' => e = .returned (.string (accOf j)) ∧ Below W.heap.size W w') := fun W j h hj => by
          have hh := account_any (j : Int) W (by omega) (by omega)
          rw [pickN_small hj] at hh
          exact hh
        have HSys : Hid (∀ (W : World) (s : Nat), FI w W G v' E → s < 3 → Calls Try.prog 17 #[.int .i64 (s : Int)] W fun e w' => e = .returned (.string (syOf s)) ∧ Below W.heap.size W w') := fun W j h hj => by
          have hh := symbol_any (j : Int) W (by omega) (by omega)
          rw [pickN_small hj] at hh
          exact hh
        have HF0 : Hid (FI w W2 G v' E) := HFI.out.1
        clear HFI
        obtain ⟨ao, cap, hv, _⟩ := HF0.out.row.form
        subst hv
        have hEl := HF0.out.el
        generalize hNn : E.length = N at *
        have HNn : Hid (E.length = N) := hNn
        clear hNn
        go_wp2
        go_loopw [14] (fun x wr => ∃ a : Nat, a ≤ 5 ∧ x = .int .i64 a ∧ Hid (FI w wr G (.slice ao N cap) E)) (fun x _ => 5 - (intOf x).toNat)
        case atStart => exact ⟨0, by omega, rfl, HF0⟩
        case round => as_aux_lemma =>
          clear HF0
          obtain ⟨a, ha, rfl, HA⟩ := hrel
          by_cases hal : a < 5
          · have hal' : (a : Int) < 5 := by omega
            go_wp2
            go_loopw [15, 16] (fun f x wr => ∃ s : Nat, s ≤ 3 ∧ x = .int .i64 s ∧ f = .int .i64 (wrap64 (symS (fun y => selB Am.f (accOf a) y E) s)) ∧ Hid (FI w wr G (.slice ao N cap) E)) (fun _ x _ => 3 - (intOf x).toNat)
            case atStart => exact ⟨0, by omega, rfl, by rw [show wrap64 (symS (fun y => selB Am.f (accOf a) y E) 0) = 0 from by show wrap64 0 = 0; unfold wrap64; omega], HA⟩
            case round => as_aux_lemma =>
              clear HA
              obtain ⟨s, hs, rfl, rfl, HA⟩ := hrel
              by_cases hsl : s < 3
              · as_aux_lemma =>
                have hsl' : (s : Int) < 3 := by omega
                have HAc : Hid (∀ (W : World), FI w W G (.slice ao N cap) E → Calls Try.prog 16 #[.int .i64 (a : Int)] W fun e w' => e = .returned (.string (accOf a)) ∧ Below W.heap.size W w') := fun W h => HAcs.out W a h hal
                have HSy : Hid (∀ (W : World), FI w W G (.slice ao N cap) E → Calls Try.prog 17 #[.int .i64 (s : Int)] W fun e w' => e = .returned (.string (syOf s)) ∧ Below W.heap.size W w') := fun W h => HSys.out W s h hsl
                have HBl : Hid (∀ (W : World), FI w W G (.slice ao N cap) E → Calls Try.prog 13 #[.pointer (some ⟨g, 0, none⟩), .string (accOf a), .string (syOf s)] W fun e w' => e = .returned (.tuple #[.int .i64 (amt G.A (accOf a) (syOf s)).q, .int .i64 (amt G.A (accOf a) (syOf s)).c]) ∧ FI w w' G (.slice ao N cap) E) := fun W h => HBs.out W a s h
                have HSm : Hid (symS (fun y => selB Am.f (accOf a) y E) (s + 1) = symS (fun y => selB Am.f (accOf a) y E) s + selB Am.f (accOf a) (syOf s) E) := rfl
                have HQ : Hid ((amt G.A (accOf a) (syOf s)).q = selB Am.q (accOf a) (syOf s) E ∧ (amt G.A (accOf a) (syOf s)).c = selB Am.c (accOf a) (syOf s) E) := ⟨HA.out.q _ _, HA.out.c _ _⟩
                have HW : Hid (wrap64 (amt G.A (accOf a) (syOf s)).q = (amt G.A (accOf a) (syOf s)).q ∧ wrap64 (amt G.A (accOf a) (syOf s)).c = (amt G.A (accOf a) (syOf s)).c) := by
                  have hq := HA.out.bq (accOf a) (syOf s)
                  constructor <;> (unfold wrap64; omega)
                clear HAcs HSys HCs HBs
                obtain ⟨F1, hF1⟩ : ∃ F1, F1 = symS (fun y => selB Am.f (accOf a) y E) (s + 1) := ⟨_, rfl⟩
                rw [← hF1] at HSm
                have HF1 : Hid (F1 = symS (fun y => selB Am.f (accOf a) y E) (s + 1)) := hF1
                clear hF1
                generalize symS (fun y => selB Am.f (accOf a) y E) s = F0 at *
                generalize amt G.A (accOf a) (syOf s) = am at *
                generalize hac : accOf a = ac at *
                have HAC : Hid (accOf a = ac) := hac
                clear hac
                generalize syOf s = sy at *
                go_wp2_with (go_at_call 16; fail)
                refine (HAc.out _ HA.out).mono ?_
                rintro e w3 ⟨rfl, hb3⟩
                have HA3 : Hid (FI w w3 G (.slice ao N cap) E) := HA.out.below hb3
                clear hb3 HA
                go_wp2_with (go_at_call 17; fail)
                refine (HSy.out _ HA3.out).mono ?_
                rintro e w4 ⟨rfl, hb4⟩
                have HA4 : Hid (FI w w4 G (.slice ao N cap) E) := HA3.out.below hb4
                clear hb4 HA3
                go_wp2_with (go_at_call 13; fail)
                refine (HBl.out _ HA4.out).mono ?_
                rintro e w5 ⟨rfl, hb5⟩
                have HA5 : Hid (FI w w5 G (.slice ao N cap) E) := hb5
                clear hb5 HA4 HBl
                go_wp2
                go_loopw [15, 17, 18, 19] (fun f q c x wr => ∃ k : Nat, k ≤ N ∧ x = .int .i64 k ∧ f = .int .i64 (wrap64 (F0 + selB Am.f ac sy (E.take k))) ∧ q = .int .i64 (wrap64 (am.q - selB Am.q ac sy (E.take k))) ∧ c = .int .i64 (wrap64 (am.c - selB Am.c ac sy (E.take k))) ∧ Hid (FI w wr G (.slice ao N cap) E)) (fun _ _ _ x _ => N - (intOf x).toNat)
                case atStart =>
                  have e0 : ∀ g, selB g ac sy (E.take 0) = 0 := fun g => rfl
                  exact ⟨0, by omega, rfl, by rw [e0, Int.add_zero], by rw [e0, Int.sub_zero, HW.out.1], by rw [e0, Int.sub_zero, HW.out.2], HA5⟩
                case round => as_aux_lemma =>
                  clear HA5 HW
                  obtain ⟨k, hk, rfl, rfl, rfl, rfl, HK⟩ := hrel
                  by_cases hkl : k < N
                  · have hkl' : (k : Int) < (N : Int) := by omega
                    obtain ⟨lg, lo, cap2, _, hv2, _⟩ := HK.out.row.more (by have h1 := HNn.out; omega)
                    injection hv2 with e1 e0 e2
                    clear e0
                    subst e1 e2
                    obtain ⟨x, hx⟩ : ∃ x, E[k]? = some x := ⟨E[k]'(by have h1 := HNn.out; omega), List.getElem?_eq_getElem (by have h1 := HNn.out; omega)⟩
                    obtain ⟨n0, n1, _, _, _⟩ := bk_cells HK.out.row HNn.out hx
                    have sf := selB_snoc Am.f ac sy hx
                    have sq := selB_snoc Am.q ac sy hx
                    have sc := selB_snoc Am.c ac sy hx
                    have HX : Hid (E[k]? = some x) := hx
                    clear hx
                    obtain ⟨xa, xs, xq, xc, xf⟩ := x
                    simp only [Bk.am] at n0 n1 sf sq sc
                    have HE3 : Hid (wrap64 (am.q - selB Am.q ac sy (E.take (k + 1))) = wrap64 (wrap64 (am.q - selB Am.q ac sy (E.take k)) - (if ac = xa ∧ sy = xs then xq else 0)) ∧ wrap64 (am.c - selB Am.c ac sy (E.take (k + 1))) = wrap64 (wrap64 (am.c - selB Am.c ac sy (E.take k)) - (if ac = xa ∧ sy = xs then xc else 0)) ∧ wrap64 (F0 + selB Am.f ac sy (E.take (k + 1))) = wrap64 (wrap64 (F0 + selB Am.f ac sy (E.take k)) + (if ac = xa ∧ sy = xs then xf else 0))) := by
                      rw [sf, sq, sc, wrap_sub, wrap_sub, wrap_wrap, Int.sub_sub, Int.sub_sub, Int.add_assoc]
                      exact ⟨rfl, rfl, rfl⟩
                    clear sf sq sc
                    have HWW : Hid (∀ z : Int, wrap64 (wrap64 z - 0) = wrap64 z ∧ wrap64 (wrap64 z + 0) = wrap64 z) := fun z => ⟨by rw [wrap_sub, Int.sub_zero], by rw [wrap_wrap, Int.add_zero]⟩
                    by_cases h1 : xa = ac
                    · have b1 : (xa.toList == ac.toList) = true := by rw [h1]; exact str_self _
                      by_cases h2 : xs = sy
                      · as_aux_lemma =>
                        have b2 : (xs.toList == sy.toList) = true := by rw [h2]; exact str_self _
                        have HE : Hid (wrap64 (wrap64 (am.q - selB Am.q ac sy (E.take k)) - xq) = wrap64 (am.q - selB Am.q ac sy (E.take (k + 1))) ∧ wrap64 (wrap64 (am.c - selB Am.c ac sy (E.take k)) - xc) = wrap64 (am.c - selB Am.c ac sy (E.take (k + 1))) ∧ wrap64 (wrap64 (F0 + selB Am.f ac sy (E.take k)) + xf) = wrap64 (F0 + selB Am.f ac sy (E.take (k + 1)))) := by
                          rw [HE3.out.1, HE3.out.2.1, HE3.out.2.2]
                          rw [if_pos ⟨h1.symm, h2.symm⟩, if_pos ⟨h1.symm, h2.symm⟩, if_pos ⟨h1.symm, h2.symm⟩]
                          exact ⟨rfl, rfl, rfl⟩
                        clear HE3 h1 h2 HWW HQ HSm
                        have HE3 : Hid (wrap64 (am.q - selB Am.q ac sy (E.take (k + 1))) = wrap64 (am.q - selB Am.q ac sy (E.take (k + 1))) ∧ wrap64 (am.c - selB Am.c ac sy (E.take (k + 1))) = wrap64 (am.c - selB Am.c ac sy (E.take (k + 1))) ∧ wrap64 (F0 + selB Am.f ac sy (E.take (k + 1))) = wrap64 (F0 + selB Am.f ac sy (E.take (k + 1)))) := ⟨rfl, rfl, rfl⟩
                        obtain ⟨A', hA'⟩ : ∃ A', wrap64 (am.q - selB Am.q ac sy (E.take (k + 1))) = A' := ⟨_, rfl⟩
                        obtain ⟨B', hB'⟩ : ∃ A', wrap64 (am.c - selB Am.c ac sy (E.take (k + 1))) = A' := ⟨_, rfl⟩
                        obtain ⟨F', hF'⟩ : ∃ A', wrap64 (F0 + selB Am.f ac sy (E.take (k + 1))) = A' := ⟨_, rfl⟩
                        rw [hA', hB', hF'] at HE
                        clear HE3
                        have HE3 : Hid (wrap64 (am.q - selB Am.q ac sy (E.take (k + 1))) = A' ∧ wrap64 (am.c - selB Am.c ac sy (E.take (k + 1))) = B' ∧ wrap64 (F0 + selB Am.f ac sy (E.take (k + 1))) = F') := ⟨hA', hB', hF'⟩
                        clear hA' hB' hF'
                        generalize wrap64 (am.q - selB Am.q ac sy (E.take k)) = A at *
                        generalize wrap64 (am.c - selB Am.c ac sy (E.take k)) = B at *
                        generalize wrap64 (F0 + selB Am.f ac sy (E.take k)) = F at *
                        go_upto_region 38 with fail
                        rename_i K3 hK3
                        refine wp_region_held (S := fun w' => w'.cell? ⟨lg, lo + k * 5, none⟩ = some (.string xa) ∧ w'.cell? ⟨lg, lo + k * 5 + 1, none⟩ = some (.string xs)) (by kernel_rfl) ?_
                        change wpAnyH _ _ _ _ _ _ _ _ (World.drew _)
                        have hbd := below_drew wr
                        have HX0 : Hid (FI w wr.drew G (.slice (some ⟨lg, lo, none⟩) N cap) E) := HK.out.below hbd
                        have hS : wr.drew.cell? ⟨lg, lo + k * 5, none⟩ = some (.string xa) ∧ wr.drew.cell? ⟨lg, lo + k * 5 + 1, none⟩ = some (.string xs) := ⟨n0, n1⟩
                        clear HK hbd n0 n1
                        generalize wr.drew = Z at *
                        refine takeR (i := 0) (v := .slice (some ⟨lg, lo, none⟩) N cap) (some 121) rfl rfl (by kernel_rfl) (by kernel_rfl) (by kernel_rfl) (fun _ _ _ h => h) (Or.inl ⟨by kernel_rfl, fun w' hSw => by kernel_rfl⟩) hS ?_
                        simp only [Act.put, List.setIfInBounds_toArray, List.set_cons_zero, List.set_cons_succ]
                        refine takeR (i := 1) (v := .int .i64 (k : Int)) (some 122) rfl rfl (by kernel_rfl) (by kernel_rfl) (by kernel_rfl) (fun _ _ _ h => h) (Or.inl ⟨by kernel_rfl, fun w' hSw => by kernel_rfl⟩) hS ?_
                        simp only [Act.put, List.setIfInBounds_toArray, List.set_cons_zero, List.set_cons_succ]
                        refine takeR (i := 2) (v := .pointer (some ⟨lg, lo + k * 5, none⟩)) (some 123) rfl rfl (by kernel_rfl) (by kernel_rfl) (by kernel_rfl) (fun _ _ _ h => h) (Or.inl ⟨by kernel_rfl, fun w' hSw => by exact ixB_run (g := lg) (o := lo) (n := N) (c := cap) (i := k) (.tmp 121) (.tmp 122) rfl (by kernel_rfl) (by kernel_rfl) hkl _⟩) hS ?_
                        simp only [Act.put, List.setIfInBounds_toArray, List.set_cons_zero, List.set_cons_succ]
                        refine takeR (i := 3) (v := .pointer (some ⟨lg, lo + k * 5, none⟩)) (some 124) rfl rfl (by kernel_rfl) (by kernel_rfl) (by kernel_rfl) (fun _ _ _ h => h) (Or.inl ⟨by kernel_rfl, fun w' hSw => by kernel_rfl⟩) hS ?_
                        simp only [Act.put, List.setIfInBounds_toArray, List.set_cons_zero, List.set_cons_succ]
                        refine takeR (i := 4) (v := .string xa) (some 125) rfl rfl (by kernel_rfl) (by kernel_rfl) (by kernel_rfl) (fun _ _ _ h => h) (Or.inl ⟨by kernel_rfl, fun w' hSw => by exact ldS_run hSw.1 (.tmp 124) rfl (by kernel_rfl)⟩) hS ?_
                        simp only [Act.put, List.setIfInBounds_toArray, List.set_cons_zero, List.set_cons_succ]
                        refine takeR (i := 5) (v := .int .i64 (a : Int)) (some 126) rfl rfl (by kernel_rfl) (by kernel_rfl) (by kernel_rfl) (fun _ _ _ h => h) (Or.inl ⟨by kernel_rfl, fun w' hSw => by kernel_rfl⟩) hS ?_
                        simp only [Act.put, List.setIfInBounds_toArray, List.set_cons_zero, List.set_cons_succ]
                        refine wpAnyH_ready (rs := [6]) (by kernel_rfl) (by simp) ?_
                        refine AllReadyH.cons rfl (fun K1 hK1 => ?_) AllReadyH.nil
                        rw [if_pos (by kernel_rfl)]
                        refine callR (d := some 127) rfl 16 #[.int .i64 (a : Int)] (by kernel_rfl) (HAc.out Z HX0.out) ?_
                        rintro e Y1 ⟨rfl, hb⟩
                        refine ⟨_, rfl, ?_⟩
                        have hS1 : Y1.cell? ⟨lg, lo + k * 5, none⟩ = some (.string xa) ∧ Y1.cell? ⟨lg, lo + k * 5 + 1, none⟩ = some (.string xs) := ⟨(hb.cell (p := ⟨lg, _, none⟩) (World.block_lt_of_cell? _ _ hS.1)).trans hS.1, (hb.cell (p := ⟨lg, _, none⟩) (World.block_lt_of_cell? _ _ hS.2)).trans hS.2⟩
                        have HX1 : Hid (FI w Y1 G (.slice (some ⟨lg, lo, none⟩) N cap) E) := HX0.out.below hb
                        clear hb
                        refine hK1.out _ _ hS1 (fun _ => ?_)
                        clear hK1
                        simp only [Act.put, List.setIfInBounds_toArray, List.set_cons_zero, List.set_cons_succ]
                        refine takeR (i := 7) (v := .bool true) (some 128) rfl rfl (by kernel_rfl) (by kernel_rfl) (by kernel_rfl) (fun _ _ _ h => h) (Or.inl ⟨by kernel_rfl, fun w' hSw => by exact eqS_run (.tmp 125) (.tmp 127) rfl (by kernel_rfl) (by kernel_rfl) b1 _⟩) hS1 ?_
                        simp only [Act.put, List.setIfInBounds_toArray, List.set_cons_zero, List.set_cons_succ]
                        refine takeR (i := 8) (v := .bool true) (some 129) rfl rfl (by kernel_rfl) (by kernel_rfl) (by kernel_rfl) (fun _ _ _ h => h) (Or.inl ⟨by kernel_rfl, fun w' hSw => by kernel_rfl⟩) hS1 ?_
                        simp only [Act.put, List.setIfInBounds_toArray, List.set_cons_zero, List.set_cons_succ]
                        refine takeR (i := 9) (v := .slice (some ⟨lg, lo, none⟩) N cap) (some 130) rfl rfl (by kernel_rfl) (by kernel_rfl) (by kernel_rfl) (fun _ _ _ h => h) (Or.inl ⟨by kernel_rfl, fun w' hSw => by kernel_rfl⟩) hS1 ?_
                        simp only [Act.put, List.setIfInBounds_toArray, List.set_cons_zero, List.set_cons_succ]
                        refine takeR (i := 10) (v := .int .i64 (k : Int)) (some 131) rfl rfl (by kernel_rfl) (by kernel_rfl) (by kernel_rfl) (fun _ _ _ h => h) (Or.inl ⟨by kernel_rfl, fun w' hSw => by kernel_rfl⟩) hS1 ?_
                        simp only [Act.put, List.setIfInBounds_toArray, List.set_cons_zero, List.set_cons_succ]
                        refine takeR (i := 11) (v := .pointer (some ⟨lg, lo + k * 5, none⟩)) (some 132) rfl rfl (by kernel_rfl) (by kernel_rfl) (by kernel_rfl) (fun _ _ _ h => h) (Or.inl ⟨by kernel_rfl, fun w' hSw => by exact ixB_run (g := lg) (o := lo) (n := N) (c := cap) (i := k) (.tmp 130) (.tmp 131) rfl (by kernel_rfl) (by kernel_rfl) hkl _⟩) hS1 ?_
                        simp only [Act.put, List.setIfInBounds_toArray, List.set_cons_zero, List.set_cons_succ]
                        refine takeR (i := 12) (v := .pointer (some ⟨lg, lo + k * 5 + 1, none⟩)) (some 133) rfl rfl (by kernel_rfl) (by kernel_rfl) (by kernel_rfl) (fun _ _ _ h => h) (Or.inl ⟨by kernel_rfl, fun w' hSw => by kernel_rfl⟩) hS1 ?_
                        simp only [Act.put, List.setIfInBounds_toArray, List.set_cons_zero, List.set_cons_succ]
                        refine takeR (i := 13) (v := .string xs) (some 134) rfl rfl (by kernel_rfl) (by kernel_rfl) (by kernel_rfl) (fun _ _ _ h => h) (Or.inl ⟨by kernel_rfl, fun w' hSw => by exact ldS_run hSw.2 (.tmp 133) rfl (by kernel_rfl)⟩) hS1 ?_
                        simp only [Act.put, List.setIfInBounds_toArray, List.set_cons_zero, List.set_cons_succ]
                        refine takeR (i := 14) (v := .int .i64 (s : Int)) (some 135) rfl rfl (by kernel_rfl) (by kernel_rfl) (by kernel_rfl) (fun _ _ _ h => h) (Or.inl ⟨by kernel_rfl, fun w' hSw => by kernel_rfl⟩) hS1 ?_
                        simp only [Act.put, List.setIfInBounds_toArray, List.set_cons_zero, List.set_cons_succ]
                        refine wpAnyH_ready (rs := [15]) (by kernel_rfl) (by simp) ?_
                        refine AllReadyH.cons rfl (fun K1 hK1 => ?_) AllReadyH.nil
                        rw [if_pos (by kernel_rfl)]
                        refine callR (d := some 136) rfl 17 #[.int .i64 (s : Int)] (by kernel_rfl) (HSy.out Y1 HX1.out) ?_
                        rintro e Y2 ⟨rfl, hb⟩
                        refine ⟨_, rfl, ?_⟩
                        have hS2 : Y2.cell? ⟨lg, lo + k * 5, none⟩ = some (.string xa) ∧ Y2.cell? ⟨lg, lo + k * 5 + 1, none⟩ = some (.string xs) := ⟨(hb.cell (p := ⟨lg, _, none⟩) (World.block_lt_of_cell? _ _ hS1.1)).trans hS1.1, (hb.cell (p := ⟨lg, _, none⟩) (World.block_lt_of_cell? _ _ hS1.2)).trans hS1.2⟩
                        have HX2 : Hid (FI w Y2 G (.slice (some ⟨lg, lo, none⟩) N cap) E) := HX1.out.below hb
                        clear hb
                        refine hK1.out _ _ hS2 (fun _ => ?_)
                        clear hK1
                        simp only [Act.put, List.setIfInBounds_toArray, List.set_cons_zero, List.set_cons_succ]
                        refine takeR (i := 16) (v := .bool true) (some 137) rfl rfl (by kernel_rfl) (by kernel_rfl) (by kernel_rfl) (fun _ _ _ h => h) (Or.inl ⟨by kernel_rfl, fun w' hSw => by exact eqS_run (.tmp 134) (.tmp 136) rfl (by kernel_rfl) (by kernel_rfl) b2 _⟩) hS2 ?_
                        simp only [Act.put, List.setIfInBounds_toArray, List.set_cons_zero, List.set_cons_succ]
                        refine takeR (i := 17) (v := .bool true) (some 138) rfl rfl (by kernel_rfl) (by kernel_rfl) (by kernel_rfl) (fun _ _ _ h => h) (Or.inl ⟨by kernel_rfl, fun w' hSw => by kernel_rfl⟩) hS2 ?_
                        simp only [Act.put, List.setIfInBounds_toArray, List.set_cons_zero, List.set_cons_succ]
                        refine wpAnyH_done (by kernel_rfl) ?_ _
                        refine hK3 _ _ ?_
                        clear hK3
                        have HF : Hid (FI w Y2 G (.slice (some ⟨lg, lo, none⟩) N cap) E) := HX2
                        obtain ⟨_, _, n2, n3, n4⟩ := bk_cells HX2.out.row HNn.out HX.out
                        simp only at n2 n3 n4
                        clear hS hS1 hS2 HX0 HX1 HX2 HX HAc HSy
                        go_upto_region 39 with fail
                        rename_i K39 hK39
                        refine wp_region_lit ?_
                        refine wpList_runTo rfl (some 139) rfl (.int .i64 A) Y2 (by kernel_rfl) ?_
                        simp only [Act.put, List.setIfInBounds_toArray, List.set_cons_zero, List.set_cons_succ]
                        refine wpList_runTo rfl (some 140) rfl (.slice (some ⟨lg, lo, none⟩) N cap) Y2 (by kernel_rfl) ?_
                        simp only [Act.put, List.setIfInBounds_toArray, List.set_cons_zero, List.set_cons_succ]
                        refine wpList_runTo rfl (some 141) rfl (.int .i64 (k : Int)) Y2 (by kernel_rfl) ?_
                        simp only [Act.put, List.setIfInBounds_toArray, List.set_cons_zero, List.set_cons_succ]
                        refine wpList_runTo rfl (some 142) rfl (.pointer (some ⟨lg, lo + k * 5, none⟩)) Y2 (by exact ixB_run (g := lg) (o := lo) (n := N) (c := cap) (i := k) (.tmp 140) (.tmp 141) rfl (by kernel_rfl) (by kernel_rfl) hkl _) ?_
                        simp only [Act.put, List.setIfInBounds_toArray, List.set_cons_zero, List.set_cons_succ]
                        refine wpList_runTo rfl (some 143) rfl (.pointer (some ⟨lg, lo + k * 5 + 2, none⟩)) Y2 (by kernel_rfl) ?_
                        simp only [Act.put, List.setIfInBounds_toArray, List.set_cons_zero, List.set_cons_succ]
                        refine wpList_runTo rfl (some 144) rfl (.int .i64 xq) Y2 (by go_simp) ?_
                        simp only [Act.put, List.setIfInBounds_toArray, List.set_cons_zero, List.set_cons_succ]
                        refine wpList_runTo rfl (some 145) rfl (.int .i64 A') Y2 (by exact subW_run (.tmp 139) (.tmp 144) rfl (by kernel_rfl) (by kernel_rfl) HE.out.1 _) ?_
                        simp only [Act.put, List.setIfInBounds_toArray, List.set_cons_zero, List.set_cons_succ]
                        refine wpList_runTo rfl (some 17) rfl (.int .i64 A') Y2 (by kernel_rfl) ?_
                        simp only [Act.put, List.setIfInBounds_toArray, List.set_cons_zero, List.set_cons_succ]
                        refine wpList_nil ?_
                        refine hK39 _ _ ?_
                        clear hK39
                        go_upto_region 40 with fail
                        rename_i K40 hK40
                        refine wp_region_lit ?_
                        refine wpList_runTo rfl (some 146) rfl (.int .i64 B) Y2 (by kernel_rfl) ?_
                        simp only [Act.put, List.setIfInBounds_toArray, List.set_cons_zero, List.set_cons_succ]
                        refine wpList_runTo rfl (some 147) rfl (.slice (some ⟨lg, lo, none⟩) N cap) Y2 (by kernel_rfl) ?_
                        simp only [Act.put, List.setIfInBounds_toArray, List.set_cons_zero, List.set_cons_succ]
                        refine wpList_runTo rfl (some 148) rfl (.int .i64 (k : Int)) Y2 (by kernel_rfl) ?_
                        simp only [Act.put, List.setIfInBounds_toArray, List.set_cons_zero, List.set_cons_succ]
                        refine wpList_runTo rfl (some 149) rfl (.pointer (some ⟨lg, lo + k * 5, none⟩)) Y2 (by exact ixB_run (g := lg) (o := lo) (n := N) (c := cap) (i := k) (.tmp 147) (.tmp 148) rfl (by kernel_rfl) (by kernel_rfl) hkl _) ?_
                        simp only [Act.put, List.setIfInBounds_toArray, List.set_cons_zero, List.set_cons_succ]
                        refine wpList_runTo rfl (some 150) rfl (.pointer (some ⟨lg, lo + k * 5 + 3, none⟩)) Y2 (by kernel_rfl) ?_
                        simp only [Act.put, List.setIfInBounds_toArray, List.set_cons_zero, List.set_cons_succ]
                        refine wpList_runTo rfl (some 151) rfl (.int .i64 xc) Y2 (by go_simp) ?_
                        simp only [Act.put, List.setIfInBounds_toArray, List.set_cons_zero, List.set_cons_succ]
                        refine wpList_runTo rfl (some 152) rfl (.int .i64 B') Y2 (by exact subW_run (.tmp 146) (.tmp 151) rfl (by kernel_rfl) (by kernel_rfl) HE.out.2.1 _) ?_
                        simp only [Act.put, List.setIfInBounds_toArray, List.set_cons_zero, List.set_cons_succ]
                        refine wpList_runTo rfl (some 18) rfl (.int .i64 B') Y2 (by kernel_rfl) ?_
                        simp only [Act.put, List.setIfInBounds_toArray, List.set_cons_zero, List.set_cons_succ]
                        refine wpList_nil ?_
                        refine hK40 _ _ ?_
                        clear hK40
                        go_upto_region 41 with fail
                        refine wp_region_lit ?_
                        refine wpList_runTo rfl (some 153) rfl (.int .i64 F) Y2 (by kernel_rfl) ?_
                        simp only [Act.put, List.setIfInBounds_toArray, List.set_cons_zero, List.set_cons_succ]
                        refine wpList_runTo rfl (some 154) rfl (.slice (some ⟨lg, lo, none⟩) N cap) Y2 (by kernel_rfl) ?_
                        simp only [Act.put, List.setIfInBounds_toArray, List.set_cons_zero, List.set_cons_succ]
                        refine wpList_runTo rfl (some 155) rfl (.int .i64 (k : Int)) Y2 (by kernel_rfl) ?_
                        simp only [Act.put, List.setIfInBounds_toArray, List.set_cons_zero, List.set_cons_succ]
                        refine wpList_runTo rfl (some 156) rfl (.pointer (some ⟨lg, lo + k * 5, none⟩)) Y2 (by exact ixB_run (g := lg) (o := lo) (n := N) (c := cap) (i := k) (.tmp 154) (.tmp 155) rfl (by kernel_rfl) (by kernel_rfl) hkl _) ?_
                        simp only [Act.put, List.setIfInBounds_toArray, List.set_cons_zero, List.set_cons_succ]
                        refine wpList_runTo rfl (some 157) rfl (.pointer (some ⟨lg, lo + k * 5 + 4, none⟩)) Y2 (by kernel_rfl) ?_
                        simp only [Act.put, List.setIfInBounds_toArray, List.set_cons_zero, List.set_cons_succ]
                        refine wpList_runTo rfl (some 158) rfl (.int .i64 xf) Y2 (by go_simp) ?_
                        simp only [Act.put, List.setIfInBounds_toArray, List.set_cons_zero, List.set_cons_succ]
                        refine wpList_runTo rfl (some 159) rfl (.int .i64 F') Y2 (by exact addW_run (.tmp 153) (.tmp 158) rfl (by kernel_rfl) (by kernel_rfl) HE.out.2.2 _) ?_
                        simp only [Act.put, List.setIfInBounds_toArray, List.set_cons_zero, List.set_cons_succ]
                        refine wpList_runTo rfl (some 15) rfl (.int .i64 F') Y2 (by kernel_rfl) ?_
                        simp only [Act.put, List.setIfInBounds_toArray, List.set_cons_zero, List.set_cons_succ]
                        refine wpList_nil ?_
                        go_wp2
                        exact ⟨⟨k + 1, by omega, by go_num, by rw [HE3.out.2.2], by rw [HE3.out.1], by rw [HE3.out.2.1], HF⟩, by simp [intOf]; omega⟩
                      · as_aux_lemma =>
                        have b2 : (xs.toList == sy.toList) = false := by rw [str_dec, decide_eq_false_iff_not]; exact h2
                        have HE : Hid (wrap64 (am.q - selB Am.q ac sy (E.take k)) = wrap64 (am.q - selB Am.q ac sy (E.take (k + 1))) ∧ wrap64 (am.c - selB Am.c ac sy (E.take k)) = wrap64 (am.c - selB Am.c ac sy (E.take (k + 1))) ∧ wrap64 (F0 + selB Am.f ac sy (E.take k)) = wrap64 (F0 + selB Am.f ac sy (E.take (k + 1)))) := by
                          rw [HE3.out.1, HE3.out.2.1, HE3.out.2.2]
                          rw [if_neg (fun e => h2 e.2.symm), if_neg (fun e => h2 e.2.symm), if_neg (fun e => h2 e.2.symm), (HWW.out _).1, (HWW.out _).1, (HWW.out _).2]
                          exact ⟨rfl, rfl, rfl⟩
                        clear HE3 h1 h2 HWW HQ HSm
                        go_upto_region 38 with fail
                        rename_i K3 hK3
                        refine wp_region_held (S := fun w' => w'.cell? ⟨lg, lo + k * 5, none⟩ = some (.string xa) ∧ w'.cell? ⟨lg, lo + k * 5 + 1, none⟩ = some (.string xs)) (by kernel_rfl) ?_
                        change wpAnyH _ _ _ _ _ _ _ _ (World.drew _)
                        have hbd := below_drew wr
                        have HX0 : Hid (FI w wr.drew G (.slice (some ⟨lg, lo, none⟩) N cap) E) := HK.out.below hbd
                        have hS : wr.drew.cell? ⟨lg, lo + k * 5, none⟩ = some (.string xa) ∧ wr.drew.cell? ⟨lg, lo + k * 5 + 1, none⟩ = some (.string xs) := ⟨n0, n1⟩
                        clear HK hbd n0 n1
                        generalize wr.drew = Z at *
                        refine takeR (i := 0) (v := .slice (some ⟨lg, lo, none⟩) N cap) (some 121) rfl rfl (by kernel_rfl) (by kernel_rfl) (by kernel_rfl) (fun _ _ _ h => h) (Or.inl ⟨by kernel_rfl, fun w' hSw => by kernel_rfl⟩) hS ?_
                        simp only [Act.put, List.setIfInBounds_toArray, List.set_cons_zero, List.set_cons_succ]
                        refine takeR (i := 1) (v := .int .i64 (k : Int)) (some 122) rfl rfl (by kernel_rfl) (by kernel_rfl) (by kernel_rfl) (fun _ _ _ h => h) (Or.inl ⟨by kernel_rfl, fun w' hSw => by kernel_rfl⟩) hS ?_
                        simp only [Act.put, List.setIfInBounds_toArray, List.set_cons_zero, List.set_cons_succ]
                        refine takeR (i := 2) (v := .pointer (some ⟨lg, lo + k * 5, none⟩)) (some 123) rfl rfl (by kernel_rfl) (by kernel_rfl) (by kernel_rfl) (fun _ _ _ h => h) (Or.inl ⟨by kernel_rfl, fun w' hSw => by exact ixB_run (g := lg) (o := lo) (n := N) (c := cap) (i := k) (.tmp 121) (.tmp 122) rfl (by kernel_rfl) (by kernel_rfl) hkl _⟩) hS ?_
                        simp only [Act.put, List.setIfInBounds_toArray, List.set_cons_zero, List.set_cons_succ]
                        refine takeR (i := 3) (v := .pointer (some ⟨lg, lo + k * 5, none⟩)) (some 124) rfl rfl (by kernel_rfl) (by kernel_rfl) (by kernel_rfl) (fun _ _ _ h => h) (Or.inl ⟨by kernel_rfl, fun w' hSw => by kernel_rfl⟩) hS ?_
                        simp only [Act.put, List.setIfInBounds_toArray, List.set_cons_zero, List.set_cons_succ]
                        refine takeR (i := 4) (v := .string xa) (some 125) rfl rfl (by kernel_rfl) (by kernel_rfl) (by kernel_rfl) (fun _ _ _ h => h) (Or.inl ⟨by kernel_rfl, fun w' hSw => by exact ldS_run hSw.1 (.tmp 124) rfl (by kernel_rfl)⟩) hS ?_
                        simp only [Act.put, List.setIfInBounds_toArray, List.set_cons_zero, List.set_cons_succ]
                        refine takeR (i := 5) (v := .int .i64 (a : Int)) (some 126) rfl rfl (by kernel_rfl) (by kernel_rfl) (by kernel_rfl) (fun _ _ _ h => h) (Or.inl ⟨by kernel_rfl, fun w' hSw => by kernel_rfl⟩) hS ?_
                        simp only [Act.put, List.setIfInBounds_toArray, List.set_cons_zero, List.set_cons_succ]
                        refine wpAnyH_ready (rs := [6]) (by kernel_rfl) (by simp) ?_
                        refine AllReadyH.cons rfl (fun K1 hK1 => ?_) AllReadyH.nil
                        rw [if_pos (by kernel_rfl)]
                        refine callR (d := some 127) rfl 16 #[.int .i64 (a : Int)] (by kernel_rfl) (HAc.out Z HX0.out) ?_
                        rintro e Y1 ⟨rfl, hb⟩
                        refine ⟨_, rfl, ?_⟩
                        have hS1 : Y1.cell? ⟨lg, lo + k * 5, none⟩ = some (.string xa) ∧ Y1.cell? ⟨lg, lo + k * 5 + 1, none⟩ = some (.string xs) := ⟨(hb.cell (p := ⟨lg, _, none⟩) (World.block_lt_of_cell? _ _ hS.1)).trans hS.1, (hb.cell (p := ⟨lg, _, none⟩) (World.block_lt_of_cell? _ _ hS.2)).trans hS.2⟩
                        have HX1 : Hid (FI w Y1 G (.slice (some ⟨lg, lo, none⟩) N cap) E) := HX0.out.below hb
                        clear hb
                        refine hK1.out _ _ hS1 (fun _ => ?_)
                        clear hK1
                        simp only [Act.put, List.setIfInBounds_toArray, List.set_cons_zero, List.set_cons_succ]
                        refine takeR (i := 7) (v := .bool true) (some 128) rfl rfl (by kernel_rfl) (by kernel_rfl) (by kernel_rfl) (fun _ _ _ h => h) (Or.inl ⟨by kernel_rfl, fun w' hSw => by exact eqS_run (.tmp 125) (.tmp 127) rfl (by kernel_rfl) (by kernel_rfl) b1 _⟩) hS1 ?_
                        simp only [Act.put, List.setIfInBounds_toArray, List.set_cons_zero, List.set_cons_succ]
                        refine takeR (i := 8) (v := .bool true) (some 129) rfl rfl (by kernel_rfl) (by kernel_rfl) (by kernel_rfl) (fun _ _ _ h => h) (Or.inl ⟨by kernel_rfl, fun w' hSw => by kernel_rfl⟩) hS1 ?_
                        simp only [Act.put, List.setIfInBounds_toArray, List.set_cons_zero, List.set_cons_succ]
                        refine takeR (i := 9) (v := .slice (some ⟨lg, lo, none⟩) N cap) (some 130) rfl rfl (by kernel_rfl) (by kernel_rfl) (by kernel_rfl) (fun _ _ _ h => h) (Or.inl ⟨by kernel_rfl, fun w' hSw => by kernel_rfl⟩) hS1 ?_
                        simp only [Act.put, List.setIfInBounds_toArray, List.set_cons_zero, List.set_cons_succ]
                        refine takeR (i := 10) (v := .int .i64 (k : Int)) (some 131) rfl rfl (by kernel_rfl) (by kernel_rfl) (by kernel_rfl) (fun _ _ _ h => h) (Or.inl ⟨by kernel_rfl, fun w' hSw => by kernel_rfl⟩) hS1 ?_
                        simp only [Act.put, List.setIfInBounds_toArray, List.set_cons_zero, List.set_cons_succ]
                        refine takeR (i := 11) (v := .pointer (some ⟨lg, lo + k * 5, none⟩)) (some 132) rfl rfl (by kernel_rfl) (by kernel_rfl) (by kernel_rfl) (fun _ _ _ h => h) (Or.inl ⟨by kernel_rfl, fun w' hSw => by exact ixB_run (g := lg) (o := lo) (n := N) (c := cap) (i := k) (.tmp 130) (.tmp 131) rfl (by kernel_rfl) (by kernel_rfl) hkl _⟩) hS1 ?_
                        simp only [Act.put, List.setIfInBounds_toArray, List.set_cons_zero, List.set_cons_succ]
                        refine takeR (i := 12) (v := .pointer (some ⟨lg, lo + k * 5 + 1, none⟩)) (some 133) rfl rfl (by kernel_rfl) (by kernel_rfl) (by kernel_rfl) (fun _ _ _ h => h) (Or.inl ⟨by kernel_rfl, fun w' hSw => by kernel_rfl⟩) hS1 ?_
                        simp only [Act.put, List.setIfInBounds_toArray, List.set_cons_zero, List.set_cons_succ]
                        refine takeR (i := 13) (v := .string xs) (some 134) rfl rfl (by kernel_rfl) (by kernel_rfl) (by kernel_rfl) (fun _ _ _ h => h) (Or.inl ⟨by kernel_rfl, fun w' hSw => by exact ldS_run hSw.2 (.tmp 133) rfl (by kernel_rfl)⟩) hS1 ?_
                        simp only [Act.put, List.setIfInBounds_toArray, List.set_cons_zero, List.set_cons_succ]
                        refine takeR (i := 14) (v := .int .i64 (s : Int)) (some 135) rfl rfl (by kernel_rfl) (by kernel_rfl) (by kernel_rfl) (fun _ _ _ h => h) (Or.inl ⟨by kernel_rfl, fun w' hSw => by kernel_rfl⟩) hS1 ?_
                        simp only [Act.put, List.setIfInBounds_toArray, List.set_cons_zero, List.set_cons_succ]
                        refine wpAnyH_ready (rs := [15]) (by kernel_rfl) (by simp) ?_
                        refine AllReadyH.cons rfl (fun K1 hK1 => ?_) AllReadyH.nil
                        rw [if_pos (by kernel_rfl)]
                        refine callR (d := some 136) rfl 17 #[.int .i64 (s : Int)] (by kernel_rfl) (HSy.out Y1 HX1.out) ?_
                        rintro e Y2 ⟨rfl, hb⟩
                        refine ⟨_, rfl, ?_⟩
                        have hS2 : Y2.cell? ⟨lg, lo + k * 5, none⟩ = some (.string xa) ∧ Y2.cell? ⟨lg, lo + k * 5 + 1, none⟩ = some (.string xs) := ⟨(hb.cell (p := ⟨lg, _, none⟩) (World.block_lt_of_cell? _ _ hS1.1)).trans hS1.1, (hb.cell (p := ⟨lg, _, none⟩) (World.block_lt_of_cell? _ _ hS1.2)).trans hS1.2⟩
                        have HX2 : Hid (FI w Y2 G (.slice (some ⟨lg, lo, none⟩) N cap) E) := HX1.out.below hb
                        clear hb
                        refine hK1.out _ _ hS2 (fun _ => ?_)
                        clear hK1
                        simp only [Act.put, List.setIfInBounds_toArray, List.set_cons_zero, List.set_cons_succ]
                        refine takeR (i := 16) (v := .bool false) (some 137) rfl rfl (by kernel_rfl) (by kernel_rfl) (by kernel_rfl) (fun _ _ _ h => h) (Or.inl ⟨by kernel_rfl, fun w' hSw => by exact eqS_run (.tmp 134) (.tmp 136) rfl (by kernel_rfl) (by kernel_rfl) b2 _⟩) hS2 ?_
                        simp only [Act.put, List.setIfInBounds_toArray, List.set_cons_zero, List.set_cons_succ]
                        refine takeR (i := 17) (v := .bool false) (some 138) rfl rfl (by kernel_rfl) (by kernel_rfl) (by kernel_rfl) (fun _ _ _ h => h) (Or.inl ⟨by kernel_rfl, fun w' hSw => by kernel_rfl⟩) hS2 ?_
                        simp only [Act.put, List.setIfInBounds_toArray, List.set_cons_zero, List.set_cons_succ]
                        refine wpAnyH_done (by kernel_rfl) ?_ _
                        refine hK3 _ _ ?_
                        clear hK3
                        have HF : Hid (FI w Y2 G (.slice (some ⟨lg, lo, none⟩) N cap) E) := HX2
                        clear hS hS1 hS2
                        go_wp2
                        exact ⟨⟨k + 1, by omega, by go_num, by rw [← HE.out.2.2], by rw [← HE.out.1], by rw [← HE.out.2.1], HF⟩, by simp [intOf]; omega⟩
                    · as_aux_lemma =>
                      have b1 : (xa.toList == ac.toList) = false := by rw [str_dec, decide_eq_false_iff_not]; exact h1
                      have HE : Hid (wrap64 (am.q - selB Am.q ac sy (E.take k)) = wrap64 (am.q - selB Am.q ac sy (E.take (k + 1))) ∧ wrap64 (am.c - selB Am.c ac sy (E.take k)) = wrap64 (am.c - selB Am.c ac sy (E.take (k + 1))) ∧ wrap64 (F0 + selB Am.f ac sy (E.take k)) = wrap64 (F0 + selB Am.f ac sy (E.take (k + 1)))) := by
                        rw [HE3.out.1, HE3.out.2.1, HE3.out.2.2]
                        rw [if_neg (fun e => h1 e.1.symm), if_neg (fun e => h1 e.1.symm), if_neg (fun e => h1 e.1.symm), (HWW.out _).1, (HWW.out _).1, (HWW.out _).2]
                        exact ⟨rfl, rfl, rfl⟩
                      clear HE3 h1 HWW HQ HSm
                      go_upto_region 38 with fail
                      rename_i K3 hK3
                      refine wp_region_held (S := fun w' => w'.cell? ⟨lg, lo + k * 5, none⟩ = some (.string xa) ∧ w'.cell? ⟨lg, lo + k * 5 + 1, none⟩ = some (.string xs)) (by kernel_rfl) ?_
                      change wpAnyH _ _ _ _ _ _ _ _ (World.drew _)
                      have hbd := below_drew wr
                      have HX0 : Hid (FI w wr.drew G (.slice (some ⟨lg, lo, none⟩) N cap) E) := HK.out.below hbd
                      have hS : wr.drew.cell? ⟨lg, lo + k * 5, none⟩ = some (.string xa) ∧ wr.drew.cell? ⟨lg, lo + k * 5 + 1, none⟩ = some (.string xs) := ⟨n0, n1⟩
                      clear HK hbd n0 n1
                      generalize wr.drew = Z at *
                      refine takeR (i := 0) (v := .slice (some ⟨lg, lo, none⟩) N cap) (some 121) rfl rfl (by kernel_rfl) (by kernel_rfl) (by kernel_rfl) (fun _ _ _ h => h) (Or.inl ⟨by kernel_rfl, fun w' hSw => by kernel_rfl⟩) hS ?_
                      simp only [Act.put, List.setIfInBounds_toArray, List.set_cons_zero, List.set_cons_succ]
                      refine takeR (i := 1) (v := .int .i64 (k : Int)) (some 122) rfl rfl (by kernel_rfl) (by kernel_rfl) (by kernel_rfl) (fun _ _ _ h => h) (Or.inl ⟨by kernel_rfl, fun w' hSw => by kernel_rfl⟩) hS ?_
                      simp only [Act.put, List.setIfInBounds_toArray, List.set_cons_zero, List.set_cons_succ]
                      refine takeR (i := 2) (v := .pointer (some ⟨lg, lo + k * 5, none⟩)) (some 123) rfl rfl (by kernel_rfl) (by kernel_rfl) (by kernel_rfl) (fun _ _ _ h => h) (Or.inl ⟨by kernel_rfl, fun w' hSw => by exact ixB_run (g := lg) (o := lo) (n := N) (c := cap) (i := k) (.tmp 121) (.tmp 122) rfl (by kernel_rfl) (by kernel_rfl) hkl _⟩) hS ?_
                      simp only [Act.put, List.setIfInBounds_toArray, List.set_cons_zero, List.set_cons_succ]
                      refine takeR (i := 3) (v := .pointer (some ⟨lg, lo + k * 5, none⟩)) (some 124) rfl rfl (by kernel_rfl) (by kernel_rfl) (by kernel_rfl) (fun _ _ _ h => h) (Or.inl ⟨by kernel_rfl, fun w' hSw => by kernel_rfl⟩) hS ?_
                      simp only [Act.put, List.setIfInBounds_toArray, List.set_cons_zero, List.set_cons_succ]
                      refine takeR (i := 4) (v := .string xa) (some 125) rfl rfl (by kernel_rfl) (by kernel_rfl) (by kernel_rfl) (fun _ _ _ h => h) (Or.inl ⟨by kernel_rfl, fun w' hSw => by exact ldS_run hSw.1 (.tmp 124) rfl (by kernel_rfl)⟩) hS ?_
                      simp only [Act.put, List.setIfInBounds_toArray, List.set_cons_zero, List.set_cons_succ]
                      refine takeR (i := 5) (v := .int .i64 (a : Int)) (some 126) rfl rfl (by kernel_rfl) (by kernel_rfl) (by kernel_rfl) (fun _ _ _ h => h) (Or.inl ⟨by kernel_rfl, fun w' hSw => by kernel_rfl⟩) hS ?_
                      simp only [Act.put, List.setIfInBounds_toArray, List.set_cons_zero, List.set_cons_succ]
                      refine wpAnyH_ready (rs := [6]) (by kernel_rfl) (by simp) ?_
                      refine AllReadyH.cons rfl (fun K1 hK1 => ?_) AllReadyH.nil
                      rw [if_pos (by kernel_rfl)]
                      refine callR (d := some 127) rfl 16 #[.int .i64 (a : Int)] (by kernel_rfl) (HAc.out Z HX0.out) ?_
                      rintro e Y1 ⟨rfl, hb⟩
                      refine ⟨_, rfl, ?_⟩
                      have hS1 : Y1.cell? ⟨lg, lo + k * 5, none⟩ = some (.string xa) ∧ Y1.cell? ⟨lg, lo + k * 5 + 1, none⟩ = some (.string xs) := ⟨(hb.cell (p := ⟨lg, _, none⟩) (World.block_lt_of_cell? _ _ hS.1)).trans hS.1, (hb.cell (p := ⟨lg, _, none⟩) (World.block_lt_of_cell? _ _ hS.2)).trans hS.2⟩
                      have HX1 : Hid (FI w Y1 G (.slice (some ⟨lg, lo, none⟩) N cap) E) := HX0.out.below hb
                      clear hb
                      refine hK1.out _ _ hS1 (fun _ => ?_)
                      clear hK1
                      simp only [Act.put, List.setIfInBounds_toArray, List.set_cons_zero, List.set_cons_succ]
                      refine takeR (i := 7) (v := .bool false) (some 128) rfl rfl (by kernel_rfl) (by kernel_rfl) (by kernel_rfl) (fun _ _ _ h => h) (Or.inl ⟨by kernel_rfl, fun w' hSw => by exact eqS_run (.tmp 125) (.tmp 127) rfl (by kernel_rfl) (by kernel_rfl) b1 _⟩) hS1 ?_
                      simp only [Act.put, List.setIfInBounds_toArray, List.set_cons_zero, List.set_cons_succ]
                      refine takeR (i := 8) (v := .bool false) (some 129) rfl rfl (by kernel_rfl) (by kernel_rfl) (by kernel_rfl) (fun _ _ _ h => h) (Or.inl ⟨by kernel_rfl, fun w' hSw => by kernel_rfl⟩) hS1 ?_
                      simp only [Act.put, List.setIfInBounds_toArray, List.set_cons_zero, List.set_cons_succ]
                      refine takeR (i := 9) (v := undef) (some 130) rfl rfl (by kernel_rfl) (by kernel_rfl) (by kernel_rfl) (fun _ _ _ h => h) (Or.inr ⟨by kernel_rfl, rfl⟩) hS1 ?_
                      simp only [Act.put, List.setIfInBounds_toArray, List.set_cons_zero, List.set_cons_succ]
                      refine takeR (i := 10) (v := undef) (some 131) rfl rfl (by kernel_rfl) (by kernel_rfl) (by kernel_rfl) (fun _ _ _ h => h) (Or.inr ⟨by kernel_rfl, rfl⟩) hS1 ?_
                      simp only [Act.put, List.setIfInBounds_toArray, List.set_cons_zero, List.set_cons_succ]
                      refine takeR (i := 11) (v := undef) (some 132) rfl rfl (by kernel_rfl) (by kernel_rfl) (by kernel_rfl) (fun _ _ _ h => h) (Or.inr ⟨by kernel_rfl, rfl⟩) hS1 ?_
                      simp only [Act.put, List.setIfInBounds_toArray, List.set_cons_zero, List.set_cons_succ]
                      refine takeR (i := 12) (v := undef) (some 133) rfl rfl (by kernel_rfl) (by kernel_rfl) (by kernel_rfl) (fun _ _ _ h => h) (Or.inr ⟨by kernel_rfl, rfl⟩) hS1 ?_
                      simp only [Act.put, List.setIfInBounds_toArray, List.set_cons_zero, List.set_cons_succ]
                      refine takeR (i := 13) (v := undef) (some 134) rfl rfl (by kernel_rfl) (by kernel_rfl) (by kernel_rfl) (fun _ _ _ h => h) (Or.inr ⟨by kernel_rfl, rfl⟩) hS1 ?_
                      simp only [Act.put, List.setIfInBounds_toArray, List.set_cons_zero, List.set_cons_succ]
                      refine takeR (i := 14) (v := undef) (some 135) rfl rfl (by kernel_rfl) (by kernel_rfl) (by kernel_rfl) (fun _ _ _ h => h) (Or.inr ⟨by kernel_rfl, rfl⟩) hS1 ?_
                      simp only [Act.put, List.setIfInBounds_toArray, List.set_cons_zero, List.set_cons_succ]
                      refine takeR (i := 15) (v := undef) (some 136) rfl rfl (by kernel_rfl) (by kernel_rfl) (by kernel_rfl) (fun _ _ _ h => h) (Or.inr ⟨by kernel_rfl, rfl⟩) hS1 ?_
                      simp only [Act.put, List.setIfInBounds_toArray, List.set_cons_zero, List.set_cons_succ]
                      refine takeR (i := 16) (v := undef) (some 137) rfl rfl (by kernel_rfl) (by kernel_rfl) (by kernel_rfl) (fun _ _ _ h => h) (Or.inr ⟨by kernel_rfl, rfl⟩) hS1 ?_
                      simp only [Act.put, List.setIfInBounds_toArray, List.set_cons_zero, List.set_cons_succ]
                      refine takeR (i := 17) (v := .bool false) (some 138) rfl rfl (by kernel_rfl) (by kernel_rfl) (by kernel_rfl) (fun _ _ _ h => h) (Or.inl ⟨by kernel_rfl, fun w' hSw => by kernel_rfl⟩) hS1 ?_
                      simp only [Act.put, List.setIfInBounds_toArray, List.set_cons_zero, List.set_cons_succ]
                      refine wpAnyH_done (by kernel_rfl) ?_ _
                      refine hK3 _ _ ?_
                      clear hK3
                      have HF : Hid (FI w Y1 G (.slice (some ⟨lg, lo, none⟩) N cap) E) := HX1
                      clear hS hS1
                      go_wp2
                      exact ⟨⟨k + 1, by omega, by go_num, by rw [← HE.out.2.2], by rw [← HE.out.1], by rw [← HE.out.2.1], HF⟩, by simp [intOf]; omega⟩
                  · as_aux_lemma =>
                    have hkN : ¬ (k : Int) < (N : Int) := by omega
                    have e0 : E.take k = E := by rw [show k = E.length by have := HNn.out; omega, List.take_length]
                    have z0 : wrap64 0 = 0 := by unfold wrap64; omega
                    have z1 : wrap64 (am.q - selB Am.q ac sy (E.take k)) = 0 := by rw [e0, HQ.out.1, Int.sub_self, z0]
                    have z2 : wrap64 (am.c - selB Am.c ac sy (E.take k)) = 0 := by rw [e0, HQ.out.2, Int.sub_self, z0]
                    have z3 : wrap64 (F0 + selB Am.f ac sy (E.take k)) = wrap64 F1 := by rw [e0, ← HSm.out]
                    rw [z1, z2, z3]
                    clear z0 z1 z2 z3 e0 HQ HSm HAc HSy
                    go_wp2
                    exact ⟨⟨s + 1, by omega, by go_num, by rw [← HF1.out], HK⟩, by simp [intOf]; omega⟩
              · as_aux_lemma =>
                have hs3 : s = 3 := by omega
                subst hs3
                have hb := HA.out.b (accOf a)
                have ho := HA.out.o (accOf a)
                have hcs := fun W h => HCs.out W a h hal
                have hac := HAcs.out wr a HA.out hal
                rw [symS_three, ← ho]
                have hw : wrap64 (tot G.O (accOf a)).2 = (tot G.O (accOf a)).2 := by unfold wrap64; omega
                rw [hw]
                clear hw ho hb HCs HBs HAcs HSys
                generalize (tot G.O (accOf a)).1 = c1 at *
                generalize (tot G.O (accOf a)).2 = c2 at *
                generalize accOf a = ac at *
                go_wp2_with (go_at_call 16; fail)
                refine hac.mono ?_
                rintro e w3 ⟨rfl, hb3⟩
                have HA3 : Hid (FI w w3 G (.slice ao N cap) E) := HA.out.below hb3
                clear hb3 HA hac
                go_wp2_with (go_at_call 15; fail)
                refine (hcs _ HA3.out).mono ?_
                rintro e w4 ⟨rfl, hc4⟩
                have HA4 : Hid (FI w w4 G (.slice ao N cap) E) := hc4
                clear hc4 HA3 hcs
                go_wp2
                exact ⟨⟨a + 1, by omega, by go_num, HA4⟩, by simp [intOf]; omega⟩
          · as_aux_lemma =>
            have ha5 : a = 5 := by omega
            subst ha5
            have HF : Hid (Below w.heap.size w wr) := HA.out.lv.bel
            clear HA HCs HBs HAcs HSys
            go_wp2
            go_ret
            exact ⟨rfl, HF.out⟩
end Go.Proofs.Ytidhahooebepfaa
