/-
  LedgerConserves: the walk.
-/
import Derived.Test.YtidhahooebepfaaJCon4
import Derived.WalkLawsBesides
namespace Go.Proofs.Ytidhahooebepfaa
set_option linter.unusedVariables false
set_option linter.unusedSimpArgs false
open Go.RowKit Go.Great Go.Maps

set_option maxRecDepth 100000 in
set_option maxHeartbeats 16000000 in
theorem LedgerConserves_law (a0 : Option Addr) (len0 cap0 : Nat) (t : Nat → Dd) (hn : len0 ≤ maxLen) (w : World) (hs : SrcD w a0 len0 t) :
    Calls Try.prog 4 #[.slice a0 len0 cap0] w fun e w' => e = .returned (.bool true) ∧ Below w.heap.size w w' := by
  have HS : Hid (SrcD w a0 len0 t) := hs
  have hn' : len0 ≤ 9223372036854775807 := by unfold maxLen at hn; omega
  clear hs hn
  go_enter Try.func4, Try.ntmps4
  go_wp2_with (go_at_call 8; fail)
  refine (shown_any _).mono ?_
  rintro e w0 ⟨rfl, hb0⟩
  have HB0 : Hid (Below w.heap.size w w0) := hb0
  clear hb0
  go_wp2_with (go_at_call 9; fail)
  refine (New_any _).mono ?_
  rintro e w1 ⟨G0, rfl, hnw⟩
  have HM0 : Hid (CI w w1 G0 0 ∧ G0.bs.length = 0) := ⟨CI.start HB0.out hnw.out, by rw [hnw.out.bs]; rfl⟩
  clear hnw HB0
  obtain ⟨g, hg⟩ : ∃ g, G0.g = g := ⟨_, rfl⟩
  have HG : Hid (G0.g = g) := hg
  rw [hg]
  clear hg
  go_wp2
  go_loopw [5, 6] (fun n x wr => ∃ (i m : Nat) (G : Lg), i ≤ len0 ∧ i ≤ 300 ∧ x = .int .i64 i ∧ n = .int .i64 m ∧ Hid (G.g = g ∧ G.bs.length = m ∧ CI w wr G i)) (fun _ x _ => len0 - (intOf x).toNat)
  case atStart => exact ⟨0, 0, G0, by omega, by omega, rfl, rfl, HG.out, HM0.out.2, HM0.out.1⟩
  case round =>
    clear HM0 HG
    obtain ⟨i, m, G, hi, hi3, rfl, rfl, HR⟩ := hrel
    by_cases hlt : i < len0 ∧ i < 300
    · obtain ⟨hl1, hl2⟩ := hlt
      have hl1' : (i : Int) < (len0 : Int) := by omega
      have hl2' : (i : Int) < 300 := by omega
      rcases HS.out.below HR.out.2.2.lv.bel with h0 | ⟨gb, goff, rfl, hcell⟩
      · omega
      obtain ⟨⟨d0, d1, d2, d3, d4, d5, d6⟩, hok⟩ := hcell i hl1
      clear hcell
      have hdo := does_any (t i) hok HR.out.2.2 hl2
      rw [HR.out.1, HR.out.2.1] at hdo
      clear hok HR
      generalize t i = D at *
      obtain ⟨Dk, Ds, Db, De, Dp, Dq, Df⟩ := D
      simp only [Dd.cs] at d0 d1 d2 d3 d4 d5 d6 hdo
      go_wp2_with (go_at_call 14; fail)
      refine hdo.mono ?_
      rintro e w2 ⟨n, rfl, hx⟩
      obtain ⟨G', hg', hn1, hc'⟩ := hx.out
      have HC : Hid (G'.g = g ∧ G'.bs.length = n ∧ CI w w2 G' (i + 1)) := ⟨hg', hn1, hc'⟩
      clear hx hg' hn1 hc' hdo d0 d1 d2 d3 d4 d5 d6
      have HCs : Hid (∀ (W : World) (j : Nat), CI w W G' (i + 1) → j < 5 → Calls Try.prog 15 #[.pointer (some ⟨g, 0, none⟩), .string (accOf j)] W fun e w' => e = .returned (.tuple #[.int .i64 (tot G'.O (accOf j)).1, .int .i64 (tot G'.O (accOf j)).2]) ∧ CI w w' G' (i + 1)) := fun W j h hj => by
        have hh := Cash_any G' (accOf j) W h.lv.at' (accOf_sz j)
        rw [HC.out.1] at hh
        exact hh.mono fun e w' ⟨h1, h2⟩ => ⟨h1, h.below h2⟩
      have HBs : Hid (∀ (W : World) (j s : Nat), CI w W G' (i + 1) → j < 5 → Calls Try.prog 13 #[.pointer (some ⟨g, 0, none⟩), .string (accOf j), .string (syOf s)] W fun e w' => e = .returned (.tuple #[.int .i64 (amt G'.A (accOf j) (syOf s)).q, .int .i64 (amt G'.A (accOf j) (syOf s)).c]) ∧ CI w w' G' (i + 1)) := fun W j s h hj => by
        have hh := Balance_any G' (accOf j) (syOf s) W h.lv.at' (accOf_sz j) (syOf_sz s)
        rw [HC.out.1] at hh
        exact hh.mono fun e w' ⟨h1, h2⟩ => ⟨h1, h.below h2⟩
      have HAc : Hid (∀ (W : World) (j : Nat), CI w W G' (i + 1) → j < 5 → Calls Try.prog 16 #[.int .i64 (j : Int)] W fun e w' => e = .returned (.string (accOf j)) ∧ CI w w' G' (i + 1)) := fun W j h hj => by
        have hh := account_any (j : Int) W (by omega) (by omega)
        rw [pickN_small hj] at hh
        exact hh.mono fun e w' ⟨h1, h2⟩ => ⟨h1, h.below h2⟩
      have HSy : Hid (∀ (W : World) (s : Nat), CI w W G' (i + 1) → s < 3 → Calls Try.prog 17 #[.int .i64 (s : Int)] W fun e w' => e = .returned (.string (syOf s)) ∧ CI w w' G' (i + 1)) := fun W j h hj => by
        have hh := symbol_any (j : Int) W (by omega) (by omega)
        rw [pickN_small hj] at hh
        exact hh.mono fun e w' ⟨h1, h2⟩ => ⟨h1, h.below h2⟩
      have HI1 : Hid (i + 1 ≤ 300) := hl2
      go_wp2
      go_loopw [9, 10, 11] (fun a b x wr => ∃ j : Nat, j ≤ 5 ∧ x = .int .i64 j ∧ a = .int .i64 (part (fun x => (tot G'.O x).1) j) ∧ b = .int .i64 (part (fun x => (tot G'.O x).2) j) ∧ Hid (CI w wr G' (i + 1))) (fun _ _ x _ => 5 - (intOf x).toNat)
      case atStart => exact ⟨0, by omega, rfl, rfl, rfl, HC.out.2.2⟩
      case round => as_aux_lemma =>
        obtain ⟨j, hj, rfl, rfl, rfl, HJ⟩ := hrel
        by_cases hjl : j < 5
        · have hjl' : (j : Int) < 5 := by omega
          obtain ⟨⟨b1, b2⟩, ⟨b3, b4⟩, ⟨b5, b6⟩, b7, b8⟩ := HJ.out.cash HI1.out hjl
          have HP : Hid (part (fun x => (tot G'.O x).1) (j + 1) = part (fun x => (tot G'.O x).1) j + (tot G'.O (accOf j)).1 ∧ part (fun x => (tot G'.O x).2) (j + 1) = part (fun x => (tot G'.O x).2) j + (tot G'.O (accOf j)).2) := ⟨rfl, rfl⟩
          have hcs := fun W h => HCs.out W j h hjl
          generalize part (fun x => (tot G'.O x).1) j = P1 at *
          generalize part (fun x => (tot G'.O x).2) j = P2 at *
          generalize (tot G'.O (accOf j)).1 = c1 at *
          generalize (tot G'.O (accOf j)).2 = c2 at *
          go_wp2_with (go_at_call 16; fail)
          refine (HAc.out _ j HJ.out hjl).mono ?_
          rintro e w3 ⟨rfl, hc3⟩
          have HJ3 : Hid (CI w w3 G' (i + 1)) := hc3
          clear hc3
          go_wp2_with (go_at_call 15; fail)
          refine (hcs _ HJ3.out).mono ?_
          rintro e w4 ⟨rfl, hc4⟩
          have HJ4 : Hid (CI w w4 G' (i + 1)) := hc4
          clear hc4 HJ3 HJ
          go_wp2
          exact ⟨⟨j + 1, by omega, by go_num, by rw [HP.out.1], by rw [HP.out.2], HJ4⟩, by simp [intOf]; omega⟩
        · have hj5 : j = 5 := by omega
          subst hj5
          rw [part_five, part_five, HJ.out.zs.o1, HJ.out.zs.o2]
          go_wp2
          go_loopw [14] (fun x wr => ∃ s : Nat, s ≤ 3 ∧ x = .int .i64 s ∧ Hid (CI w wr G' (i + 1))) (fun x _ => 3 - (intOf x).toNat)
          case atStart => exact ⟨0, by omega, rfl, HJ⟩
          case round => as_aux_lemma =>
            clear HJ
            obtain ⟨s, hs, rfl, HJ⟩ := hrel
            by_cases hsl : s < 3
            · have hsl' : (s : Int) < 3 := by omega
              go_wp2
              go_loopw [15, 16, 17] (fun a b x wr => ∃ j : Nat, j ≤ 5 ∧ x = .int .i64 j ∧ a = .int .i64 (part (fun x => (amt G'.A x (syOf s)).q) j) ∧ b = .int .i64 (part (fun x => (amt G'.A x (syOf s)).c) j) ∧ Hid (CI w wr G' (i + 1))) (fun _ _ x _ => 5 - (intOf x).toNat)
              case atStart => exact ⟨0, by omega, rfl, rfl, rfl, HJ⟩
              case round => as_aux_lemma =>
                clear HJ
                obtain ⟨j, hj, rfl, rfl, rfl, HJ⟩ := hrel
                by_cases hjl : j < 5
                · have hjl' : (j : Int) < 5 := by omega
                  obtain ⟨⟨b1, b2⟩, ⟨b3, b4⟩, ⟨b5, b6⟩, b7, b8⟩ := HJ.out.bal HI1.out hjl (syOf s)
                  have HP : Hid (part (fun x => (amt G'.A x (syOf s)).q) (j + 1) = part (fun x => (amt G'.A x (syOf s)).q) j + (amt G'.A (accOf j) (syOf s)).q ∧ part (fun x => (amt G'.A x (syOf s)).c) (j + 1) = part (fun x => (amt G'.A x (syOf s)).c) j + (amt G'.A (accOf j) (syOf s)).c) := ⟨rfl, rfl⟩
                  have hcs := fun W h => HBs.out W j s h hjl
                  generalize part (fun x => (amt G'.A x (syOf s)).q) j = P1 at *
                  generalize part (fun x => (amt G'.A x (syOf s)).c) j = P2 at *
                  generalize (amt G'.A (accOf j) (syOf s)).q = c1 at *
                  generalize (amt G'.A (accOf j) (syOf s)).c = c2 at *
                  go_wp2_with (go_at_call 16; fail)
                  refine (HAc.out _ j HJ.out hjl).mono ?_
                  rintro e w3 ⟨rfl, hc3⟩
                  have HJ3 : Hid (CI w w3 G' (i + 1)) := hc3
                  clear hc3
                  go_wp2_with (go_at_call 17; fail)
                  refine (HSy.out _ s HJ3.out hsl).mono ?_
                  rintro e w5 ⟨rfl, hc5⟩
                  have HJ5 : Hid (CI w w5 G' (i + 1)) := hc5
                  clear hc5 HJ3
                  go_wp2_with (go_at_call 13; fail)
                  refine (hcs _ HJ5.out).mono ?_
                  rintro e w4 ⟨rfl, hc4⟩
                  have HJ4 : Hid (CI w w4 G' (i + 1)) := hc4
                  clear hc4 HJ5 HJ
                  go_wp2
                  refine ⟨⟨_, _, _, _, _, _, _, _, _, _, _, _, _, _, _, _, _, _, _, _, _, _, _, _, ⟨j + 1, by omega, ?_, ?_, ?_, HJ4⟩, rfl⟩, ?_⟩
                  · go_num
                  · rw [HP.out.1]
                  · rw [HP.out.2]
                  · simp [intOf]; omega
                · have hj5 : j = 5 := by omega
                  subst hj5
                  rw [part_five, part_five, HJ.out.zs.a1, HJ.out.zs.a2]
                  go_wp2
                  exact ⟨⟨s + 1, by omega, by go_num, HJ⟩, by simp [intOf]; omega⟩
            · have hstop : ¬ (s : Int) < 3 := by omega
              clear HCs HBs HAc HSy
              have hnt := Net_any G' wr HJ.out.lv.at' (by have h1 := HJ.out.bd.lt; have h2 := HI1.out; omega)
              rw [HC.out.1] at hnt
              go_wp2_with (go_at_call 18; fail)
              refine hnt.mono ?_
              rintro e W1 ⟨v, net, rfl, hx⟩
              have HN0 : Hid (NL w (W1.alloc (.cells (sumC 0 0 0) 42)) G' (i + 1) net v W1.heap.size (sumC 0 0 0)) := NL.start HJ.out hx.out
              have HT : Hid (net.Perm G'.T ∧ net.Pairwise (fun a b => ¬ ltB b a) ∧ net.length ≤ 100000) := ⟨hx.out.perm, hx.out.sorted, by rw [hx.out.perm.length_eq]; have h1 := HJ.out.bd.lt; have h2 := HI1.out; omega⟩
              obtain ⟨ao, cap, hv, _⟩ := hx.out.row.form
              subst hv
              clear hx hnt HJ
              have hnl := HT.out.2.2
              generalize hNn : net.length = N at *
              have HNn : Hid (net.length = N) := hNn
              clear hNn
              go_upto_region 38 with fail
              rw [show (#[.string ⟨#[]⟩, .string ⟨#[]⟩, .int .i64 0, .int .i64 0, .int .i64 0] : Array Value) = sumC 0 0 0 from rfl]
              generalize W1.alloc (.cells (sumC 0 0 0) 42) = W2 at *
              generalize W1.heap.size = sb at *
              go_wp2
              go_loopw [22] (fun x wr => ∃ j : Nat, j ≤ N ∧ x = .int .i64 j ∧ Hid (NL w wr G' (i + 1) net (.slice ao N cap) sb (sumC (wrap64 (sumB (fun b => b.am.q) (net.take j))) (wrap64 (sumB (fun b => b.am.c) (net.take j))) (wrap64 (sumB (fun b => b.am.f) (net.take j)))))) (fun x _ => N - (intOf x).toNat)
              case atStart =>
                have ez : wrap64 0 = 0 := by unfold wrap64; omega
                refine ⟨0, by omega, rfl, ?_⟩
                show Hid (NL w _ G' (i + 1) net (.slice ao N cap) sb (sumC (wrap64 0) (wrap64 0) (wrap64 0)))
                rw [ez]
                exact HN0
              case round => as_aux_lemma =>
                clear HN0
                obtain ⟨j, hj, rfl, HN⟩ := hrel
                by_cases hjl : j < N
                · have hjl' : (j : Int) < (N : Int) := by omega
                  obtain ⟨lg, lo, cap2, _, hv2, _⟩ := HN.out.row.more (by have h1 := HNn.out; omega)
                  injection hv2 with e1 e0 e2
                  clear e0
                  subst e1 e2
                  obtain ⟨x, hx⟩ : ∃ x, net[j]? = some x := ⟨net[j]'(by have h1 := HNn.out; omega), List.getElem?_eq_getElem (by have h1 := HNn.out; omega)⟩
                  have HX : Hid (net[j]? = some x) := hx
                  have HA : Hid (wrap64 (wrap64 (sumB (fun b => b.am.q) (net.take j)) + x.q) = wrap64 (sumB (fun b => b.am.q) (net.take (j + 1)))) := by
                    rw [sumB_snoc _ hx]; exact wrap_wrap _ _
                  have HB : Hid (wrap64 (wrap64 (sumB (fun b => b.am.c) (net.take j)) + x.c) = wrap64 (sumB (fun b => b.am.c) (net.take (j + 1)))) := by
                    rw [sumB_snoc _ hx]; exact wrap_wrap _ _
                  have HC3 : Hid (wrap64 (wrap64 (sumB (fun b => b.am.f) (net.take j)) + x.f) = wrap64 (sumB (fun b => b.am.f) (net.take (j + 1)))) := by
                    rw [sumB_snoc _ hx]; exact wrap_wrap _ _
                  clear hx
                  generalize wrap64 (sumB (fun b => b.am.q) (net.take j)) = A at *
                  generalize wrap64 (sumB (fun b => b.am.c) (net.take j)) = B at *
                  generalize wrap64 (sumB (fun b => b.am.f) (net.take j)) = C at *
                  obtain ⟨A', hA'⟩ : ∃ A', A' = wrap64 (sumB (fun b => b.am.q) (net.take (j + 1))) := ⟨_, rfl⟩
                  obtain ⟨B', hB'⟩ : ∃ A', A' = wrap64 (sumB (fun b => b.am.c) (net.take (j + 1))) := ⟨_, rfl⟩
                  obtain ⟨C', hC'⟩ : ∃ A', A' = wrap64 (sumB (fun b => b.am.f) (net.take (j + 1))) := ⟨_, rfl⟩
                  rw [← hA'] at HA
                  rw [← hB'] at HB
                  rw [← hC'] at HC3
                  have HC : Hid _ := HC3
                  have HE : Hid (A' = wrap64 (sumB (fun b => b.am.q) (net.take (j + 1))) ∧ B' = wrap64 (sumB (fun b => b.am.c) (net.take (j + 1))) ∧ C' = wrap64 (sumB (fun b => b.am.f) (net.take (j + 1)))) := ⟨hA', hB', hC'⟩
                  clear hA' hB' hC' HC3
                  go_upto_region 41 with fail
                  rename_i KK hKK
                  have hbd := below_drew wr
                  have HZ : Hid (NL w wr.drew G' (i + 1) net (.slice (some ⟨lg, lo, none⟩) N cap) sb (sumC A B C)) := HN.out.below hbd
                  clear HN hbd
                  refine wp_region_late (fun w' => w'.cell? ⟨sb, 2, none⟩ = some (.int .i64 A) ∧ w'.cell? ⟨lg, lo + j * 5 + 2, none⟩ = some (.int .i64 x.q)) 9 (by kernel_rfl) ?_
                  intro hCl
                  generalize wr.drew = Z at *
                  change wpAnyL _ _ _ _ _ _ 10 _ _ _
                  have hS : Z.cell? ⟨sb, 2, none⟩ = some (.int .i64 A) ∧ Z.cell? ⟨lg, lo + j * 5 + 2, none⟩ = some (.int .i64 x.q) := ⟨HZ.out.blk.cell 2, by have hq := HZ.out.row.cell (show _ = Value.slice (some ⟨lg, lo, none⟩) net.length cap by rw [HNn.out]) (j := j * 5 + 2) (u := .int .i64 x.q) (flatL_get Bk.cl_len HX.out (by decide)); rwa [← Nat.add_assoc] at hq⟩
                  refine takeL (i := 0) (v := .pointer (some ⟨sb, 2, none⟩)) 9 (some 114) rfl rfl (by kernel_rfl) (by kernel_rfl) (by kernel_rfl) (by kernel_rfl) hCl (fun _ _ _ h => h) (Or.inl ⟨by kernel_rfl, fun w' hSw => by kernel_rfl⟩) hS ?_
                  clear hCl
                  intro hCl
                  simp only [Act.put, List.setIfInBounds_toArray, List.set_cons_zero, List.set_cons_succ]
                  refine takeL (i := 1) (v := .int .i64 A) 9 (some 115) rfl rfl (by kernel_rfl) (by kernel_rfl) (by kernel_rfl) (by kernel_rfl) hCl (fun _ _ _ h => h) (Or.inl ⟨by kernel_rfl, fun w' hSw => by have q0 := hSw.1; clear hSw; go_simp⟩) hS ?_
                  clear hCl
                  intro hCl
                  simp only [Act.put, List.setIfInBounds_toArray, List.set_cons_zero, List.set_cons_succ]
                  refine takeL (i := 2) (v := .slice (some ⟨lg, lo, none⟩) N cap) 9 (some 116) rfl rfl (by kernel_rfl) (by kernel_rfl) (by kernel_rfl) (by kernel_rfl) hCl (fun _ _ _ h => h) (Or.inl ⟨by kernel_rfl, fun w' hSw => by kernel_rfl⟩) hS ?_
                  clear hCl
                  intro hCl
                  simp only [Act.put, List.setIfInBounds_toArray, List.set_cons_zero, List.set_cons_succ]
                  refine takeL (i := 3) (v := .int .i64 (j : Int)) 9 (some 117) rfl rfl (by kernel_rfl) (by kernel_rfl) (by kernel_rfl) (by kernel_rfl) hCl (fun _ _ _ h => h) (Or.inl ⟨by kernel_rfl, fun w' hSw => by kernel_rfl⟩) hS ?_
                  clear hCl
                  intro hCl
                  simp only [Act.put, List.setIfInBounds_toArray, List.set_cons_zero, List.set_cons_succ]
                  refine takeL (i := 4) (v := .pointer (some ⟨lg, lo + j * 5, none⟩)) 9 (some 118) rfl rfl (by kernel_rfl) (by kernel_rfl) (by kernel_rfl) (by kernel_rfl) hCl (fun _ _ _ h => h) (Or.inl ⟨by kernel_rfl, fun w' hSw => by exact ixB_run (g := lg) (o := lo) (n := N) (c := cap) (i := j) (.tmp 116) (.tmp 117) rfl (by kernel_rfl) (by kernel_rfl) hjl _⟩) hS ?_
                  clear hCl
                  intro hCl
                  simp only [Act.put, List.setIfInBounds_toArray, List.set_cons_zero, List.set_cons_succ]
                  refine takeL (i := 5) (v := .pointer (some ⟨lg, lo + j * 5 + 2, none⟩)) 9 (some 119) rfl rfl (by kernel_rfl) (by kernel_rfl) (by kernel_rfl) (by kernel_rfl) hCl (fun _ _ _ h => h) (Or.inl ⟨by kernel_rfl, fun w' hSw => by kernel_rfl⟩) hS ?_
                  clear hCl
                  intro hCl
                  simp only [Act.put, List.setIfInBounds_toArray, List.set_cons_zero, List.set_cons_succ]
                  refine takeL (i := 6) (v := .int .i64 x.q) 9 (some 120) rfl rfl (by kernel_rfl) (by kernel_rfl) (by kernel_rfl) (by kernel_rfl) hCl (fun _ _ _ h => h) (Or.inl ⟨by kernel_rfl, fun w' hSw => by have q0 := hSw.2; clear hSw; go_simp⟩) hS ?_
                  clear hCl
                  intro hCl
                  simp only [Act.put, List.setIfInBounds_toArray, List.set_cons_zero, List.set_cons_succ]
                  refine takeL (i := 7) (v := .int .i64 A') 9 (some 121) rfl rfl (by kernel_rfl) (by kernel_rfl) (by kernel_rfl) (by kernel_rfl) hCl (fun _ _ _ h => h) (Or.inl ⟨by kernel_rfl, fun w' hSw => by exact addW_run (.tmp 115) (.tmp 120) rfl (by kernel_rfl) (by kernel_rfl) HA.out _⟩) hS ?_
                  clear hCl
                  intro hCl
                  simp only [Act.put, List.setIfInBounds_toArray, List.set_cons_zero, List.set_cons_succ]
                  refine takeL (i := 8) (v := .pointer (some ⟨sb, 2, none⟩)) 9 (some 122) rfl rfl (by kernel_rfl) (by kernel_rfl) (by kernel_rfl) (by kernel_rfl) hCl (fun _ _ _ h => h) (Or.inl ⟨by kernel_rfl, fun w' hSw => by kernel_rfl⟩) hS ?_
                  clear hCl
                  intro hCl
                  simp only [Act.put, List.setIfInBounds_toArray, List.set_cons_zero, List.set_cons_succ]
                  refine oneL (i := 9) rfl (by kernel_rfl) hCl (by kernel_rfl) (fun K1 hK1 => ?_)
                  refine skipR (d := none) rfl (w' := Z.setCell ⟨sb, 2, none⟩ (.int .i64 A')) (by have q0 := hS.1; have q1 := HZ.out.blk.frozen 2; clear hS; go_simp) ?_
                  refine hK1.out _ _ (fun h => absurd rfl h) ?_
                  clear hK1 hCl hS
                  intro hCl
                  simp only [Act.put, List.setIfInBounds_toArray, List.set_cons_zero, List.set_cons_succ]
                  refine doneL (by kernel_rfl) ?_
                  clear hCl
                  refine hKK _ _ ?_
                  clear hKK
                  have HN : Hid (NL w (Z.setCell ⟨sb, 2, none⟩ (.int .i64 A')) G' (i + 1) net (.slice (some ⟨lg, lo, none⟩) N cap) sb (sumC A' B C)) := HZ.out.set 2 (.int .i64 A')
                  clear HZ
                  generalize Z.setCell ⟨sb, 2, none⟩ (.int .i64 A') = Y1 at *
                  go_upto_region 42 with fail
                  rename_i KK hKK
                  have hbd := below_drew Y1
                  have HZ : Hid (NL w Y1.drew G' (i + 1) net (.slice (some ⟨lg, lo, none⟩) N cap) sb (sumC A' B C)) := HN.out.below hbd
                  clear HN hbd
                  refine wp_region_late (fun w' => w'.cell? ⟨sb, 3, none⟩ = some (.int .i64 B) ∧ w'.cell? ⟨lg, lo + j * 5 + 3, none⟩ = some (.int .i64 x.c)) 9 (by kernel_rfl) ?_
                  intro hCl
                  generalize Y1.drew = Z at *
                  change wpAnyL _ _ _ _ _ _ 10 _ _ _
                  have hS : Z.cell? ⟨sb, 3, none⟩ = some (.int .i64 B) ∧ Z.cell? ⟨lg, lo + j * 5 + 3, none⟩ = some (.int .i64 x.c) := ⟨HZ.out.blk.cell 3, by have hq := HZ.out.row.cell (show _ = Value.slice (some ⟨lg, lo, none⟩) net.length cap by rw [HNn.out]) (j := j * 5 + 3) (u := .int .i64 x.c) (flatL_get Bk.cl_len HX.out (by decide)); rwa [← Nat.add_assoc] at hq⟩
                  refine takeL (i := 0) (v := .pointer (some ⟨sb, 3, none⟩)) 9 (some 123) rfl rfl (by kernel_rfl) (by kernel_rfl) (by kernel_rfl) (by kernel_rfl) hCl (fun _ _ _ h => h) (Or.inl ⟨by kernel_rfl, fun w' hSw => by kernel_rfl⟩) hS ?_
                  clear hCl
                  intro hCl
                  simp only [Act.put, List.setIfInBounds_toArray, List.set_cons_zero, List.set_cons_succ]
                  refine takeL (i := 1) (v := .int .i64 B) 9 (some 124) rfl rfl (by kernel_rfl) (by kernel_rfl) (by kernel_rfl) (by kernel_rfl) hCl (fun _ _ _ h => h) (Or.inl ⟨by kernel_rfl, fun w' hSw => by have q0 := hSw.1; clear hSw; go_simp⟩) hS ?_
                  clear hCl
                  intro hCl
                  simp only [Act.put, List.setIfInBounds_toArray, List.set_cons_zero, List.set_cons_succ]
                  refine takeL (i := 2) (v := .slice (some ⟨lg, lo, none⟩) N cap) 9 (some 125) rfl rfl (by kernel_rfl) (by kernel_rfl) (by kernel_rfl) (by kernel_rfl) hCl (fun _ _ _ h => h) (Or.inl ⟨by kernel_rfl, fun w' hSw => by kernel_rfl⟩) hS ?_
                  clear hCl
                  intro hCl
                  simp only [Act.put, List.setIfInBounds_toArray, List.set_cons_zero, List.set_cons_succ]
                  refine takeL (i := 3) (v := .int .i64 (j : Int)) 9 (some 126) rfl rfl (by kernel_rfl) (by kernel_rfl) (by kernel_rfl) (by kernel_rfl) hCl (fun _ _ _ h => h) (Or.inl ⟨by kernel_rfl, fun w' hSw => by kernel_rfl⟩) hS ?_
                  clear hCl
                  intro hCl
                  simp only [Act.put, List.setIfInBounds_toArray, List.set_cons_zero, List.set_cons_succ]
                  refine takeL (i := 4) (v := .pointer (some ⟨lg, lo + j * 5, none⟩)) 9 (some 127) rfl rfl (by kernel_rfl) (by kernel_rfl) (by kernel_rfl) (by kernel_rfl) hCl (fun _ _ _ h => h) (Or.inl ⟨by kernel_rfl, fun w' hSw => by exact ixB_run (g := lg) (o := lo) (n := N) (c := cap) (i := j) (.tmp 125) (.tmp 126) rfl (by kernel_rfl) (by kernel_rfl) hjl _⟩) hS ?_
                  clear hCl
                  intro hCl
                  simp only [Act.put, List.setIfInBounds_toArray, List.set_cons_zero, List.set_cons_succ]
                  refine takeL (i := 5) (v := .pointer (some ⟨lg, lo + j * 5 + 3, none⟩)) 9 (some 128) rfl rfl (by kernel_rfl) (by kernel_rfl) (by kernel_rfl) (by kernel_rfl) hCl (fun _ _ _ h => h) (Or.inl ⟨by kernel_rfl, fun w' hSw => by kernel_rfl⟩) hS ?_
                  clear hCl
                  intro hCl
                  simp only [Act.put, List.setIfInBounds_toArray, List.set_cons_zero, List.set_cons_succ]
                  refine takeL (i := 6) (v := .int .i64 x.c) 9 (some 129) rfl rfl (by kernel_rfl) (by kernel_rfl) (by kernel_rfl) (by kernel_rfl) hCl (fun _ _ _ h => h) (Or.inl ⟨by kernel_rfl, fun w' hSw => by have q0 := hSw.2; clear hSw; go_simp⟩) hS ?_
                  clear hCl
                  intro hCl
                  simp only [Act.put, List.setIfInBounds_toArray, List.set_cons_zero, List.set_cons_succ]
                  refine takeL (i := 7) (v := .int .i64 B') 9 (some 130) rfl rfl (by kernel_rfl) (by kernel_rfl) (by kernel_rfl) (by kernel_rfl) hCl (fun _ _ _ h => h) (Or.inl ⟨by kernel_rfl, fun w' hSw => by exact addW_run (.tmp 124) (.tmp 129) rfl (by kernel_rfl) (by kernel_rfl) HB.out _⟩) hS ?_
                  clear hCl
                  intro hCl
                  simp only [Act.put, List.setIfInBounds_toArray, List.set_cons_zero, List.set_cons_succ]
                  refine takeL (i := 8) (v := .pointer (some ⟨sb, 3, none⟩)) 9 (some 131) rfl rfl (by kernel_rfl) (by kernel_rfl) (by kernel_rfl) (by kernel_rfl) hCl (fun _ _ _ h => h) (Or.inl ⟨by kernel_rfl, fun w' hSw => by kernel_rfl⟩) hS ?_
                  clear hCl
                  intro hCl
                  simp only [Act.put, List.setIfInBounds_toArray, List.set_cons_zero, List.set_cons_succ]
                  refine oneL (i := 9) rfl (by kernel_rfl) hCl (by kernel_rfl) (fun K1 hK1 => ?_)
                  refine skipR (d := none) rfl (w' := Z.setCell ⟨sb, 3, none⟩ (.int .i64 B')) (by have q0 := hS.1; have q1 := HZ.out.blk.frozen 3; clear hS; go_simp) ?_
                  refine hK1.out _ _ (fun h => absurd rfl h) ?_
                  clear hK1 hCl hS
                  intro hCl
                  simp only [Act.put, List.setIfInBounds_toArray, List.set_cons_zero, List.set_cons_succ]
                  refine doneL (by kernel_rfl) ?_
                  clear hCl
                  refine hKK _ _ ?_
                  clear hKK
                  have HN : Hid (NL w (Z.setCell ⟨sb, 3, none⟩ (.int .i64 B')) G' (i + 1) net (.slice (some ⟨lg, lo, none⟩) N cap) sb (sumC A' B' C)) := HZ.out.set 3 (.int .i64 B')
                  clear HZ
                  generalize Z.setCell ⟨sb, 3, none⟩ (.int .i64 B') = Y2 at *
                  go_upto_region 43 with fail
                  rename_i KK hKK
                  have hbd := below_drew Y2
                  have HZ : Hid (NL w Y2.drew G' (i + 1) net (.slice (some ⟨lg, lo, none⟩) N cap) sb (sumC A' B' C)) := HN.out.below hbd
                  clear HN hbd
                  refine wp_region_late (fun w' => w'.cell? ⟨sb, 4, none⟩ = some (.int .i64 C) ∧ w'.cell? ⟨lg, lo + j * 5 + 4, none⟩ = some (.int .i64 x.f)) 9 (by kernel_rfl) ?_
                  intro hCl
                  generalize Y2.drew = Z at *
                  change wpAnyL _ _ _ _ _ _ 10 _ _ _
                  have hS : Z.cell? ⟨sb, 4, none⟩ = some (.int .i64 C) ∧ Z.cell? ⟨lg, lo + j * 5 + 4, none⟩ = some (.int .i64 x.f) := ⟨HZ.out.blk.cell 4, by have hq := HZ.out.row.cell (show _ = Value.slice (some ⟨lg, lo, none⟩) net.length cap by rw [HNn.out]) (j := j * 5 + 4) (u := .int .i64 x.f) (flatL_get Bk.cl_len HX.out (by decide)); rwa [← Nat.add_assoc] at hq⟩
                  refine takeL (i := 0) (v := .pointer (some ⟨sb, 4, none⟩)) 9 (some 132) rfl rfl (by kernel_rfl) (by kernel_rfl) (by kernel_rfl) (by kernel_rfl) hCl (fun _ _ _ h => h) (Or.inl ⟨by kernel_rfl, fun w' hSw => by kernel_rfl⟩) hS ?_
                  clear hCl
                  intro hCl
                  simp only [Act.put, List.setIfInBounds_toArray, List.set_cons_zero, List.set_cons_succ]
                  refine takeL (i := 1) (v := .int .i64 C) 9 (some 133) rfl rfl (by kernel_rfl) (by kernel_rfl) (by kernel_rfl) (by kernel_rfl) hCl (fun _ _ _ h => h) (Or.inl ⟨by kernel_rfl, fun w' hSw => by have q0 := hSw.1; clear hSw; go_simp⟩) hS ?_
                  clear hCl
                  intro hCl
                  simp only [Act.put, List.setIfInBounds_toArray, List.set_cons_zero, List.set_cons_succ]
                  refine takeL (i := 2) (v := .slice (some ⟨lg, lo, none⟩) N cap) 9 (some 134) rfl rfl (by kernel_rfl) (by kernel_rfl) (by kernel_rfl) (by kernel_rfl) hCl (fun _ _ _ h => h) (Or.inl ⟨by kernel_rfl, fun w' hSw => by kernel_rfl⟩) hS ?_
                  clear hCl
                  intro hCl
                  simp only [Act.put, List.setIfInBounds_toArray, List.set_cons_zero, List.set_cons_succ]
                  refine takeL (i := 3) (v := .int .i64 (j : Int)) 9 (some 135) rfl rfl (by kernel_rfl) (by kernel_rfl) (by kernel_rfl) (by kernel_rfl) hCl (fun _ _ _ h => h) (Or.inl ⟨by kernel_rfl, fun w' hSw => by kernel_rfl⟩) hS ?_
                  clear hCl
                  intro hCl
                  simp only [Act.put, List.setIfInBounds_toArray, List.set_cons_zero, List.set_cons_succ]
                  refine takeL (i := 4) (v := .pointer (some ⟨lg, lo + j * 5, none⟩)) 9 (some 136) rfl rfl (by kernel_rfl) (by kernel_rfl) (by kernel_rfl) (by kernel_rfl) hCl (fun _ _ _ h => h) (Or.inl ⟨by kernel_rfl, fun w' hSw => by exact ixB_run (g := lg) (o := lo) (n := N) (c := cap) (i := j) (.tmp 134) (.tmp 135) rfl (by kernel_rfl) (by kernel_rfl) hjl _⟩) hS ?_
                  clear hCl
                  intro hCl
                  simp only [Act.put, List.setIfInBounds_toArray, List.set_cons_zero, List.set_cons_succ]
                  refine takeL (i := 5) (v := .pointer (some ⟨lg, lo + j * 5 + 4, none⟩)) 9 (some 137) rfl rfl (by kernel_rfl) (by kernel_rfl) (by kernel_rfl) (by kernel_rfl) hCl (fun _ _ _ h => h) (Or.inl ⟨by kernel_rfl, fun w' hSw => by kernel_rfl⟩) hS ?_
                  clear hCl
                  intro hCl
                  simp only [Act.put, List.setIfInBounds_toArray, List.set_cons_zero, List.set_cons_succ]
                  refine takeL (i := 6) (v := .int .i64 x.f) 9 (some 138) rfl rfl (by kernel_rfl) (by kernel_rfl) (by kernel_rfl) (by kernel_rfl) hCl (fun _ _ _ h => h) (Or.inl ⟨by kernel_rfl, fun w' hSw => by have q0 := hSw.2; clear hSw; go_simp⟩) hS ?_
                  clear hCl
                  intro hCl
                  simp only [Act.put, List.setIfInBounds_toArray, List.set_cons_zero, List.set_cons_succ]
                  refine takeL (i := 7) (v := .int .i64 C') 9 (some 139) rfl rfl (by kernel_rfl) (by kernel_rfl) (by kernel_rfl) (by kernel_rfl) hCl (fun _ _ _ h => h) (Or.inl ⟨by kernel_rfl, fun w' hSw => by exact addW_run (.tmp 133) (.tmp 138) rfl (by kernel_rfl) (by kernel_rfl) HC.out _⟩) hS ?_
                  clear hCl
                  intro hCl
                  simp only [Act.put, List.setIfInBounds_toArray, List.set_cons_zero, List.set_cons_succ]
                  refine takeL (i := 8) (v := .pointer (some ⟨sb, 4, none⟩)) 9 (some 140) rfl rfl (by kernel_rfl) (by kernel_rfl) (by kernel_rfl) (by kernel_rfl) hCl (fun _ _ _ h => h) (Or.inl ⟨by kernel_rfl, fun w' hSw => by kernel_rfl⟩) hS ?_
                  clear hCl
                  intro hCl
                  simp only [Act.put, List.setIfInBounds_toArray, List.set_cons_zero, List.set_cons_succ]
                  refine oneL (i := 9) rfl (by kernel_rfl) hCl (by kernel_rfl) (fun K1 hK1 => ?_)
                  refine skipR (d := none) rfl (w' := Z.setCell ⟨sb, 4, none⟩ (.int .i64 C')) (by have q0 := hS.1; have q1 := HZ.out.blk.frozen 4; clear hS; go_simp) ?_
                  refine hK1.out _ _ (fun h => absurd rfl h) ?_
                  clear hK1 hCl hS
                  intro hCl
                  simp only [Act.put, List.setIfInBounds_toArray, List.set_cons_zero, List.set_cons_succ]
                  refine doneL (by kernel_rfl) ?_
                  clear hCl
                  refine hKK _ _ ?_
                  clear hKK
                  have HN : Hid (NL w (Z.setCell ⟨sb, 4, none⟩ (.int .i64 C')) G' (i + 1) net (.slice (some ⟨lg, lo, none⟩) N cap) sb (sumC A' B' C')) := HZ.out.set 4 (.int .i64 C')
                  clear HZ
                  generalize Z.setCell ⟨sb, 4, none⟩ (.int .i64 C') = Y3 at *
                  have hc2 : Y3.cell? ⟨lg, lo + j * 5 + 2, none⟩ = some (.int .i64 x.q) := by have hq := HN.out.row.cell (show _ = Value.slice (some ⟨lg, lo, none⟩) net.length cap by rw [HNn.out]) (j := j * 5 + 2) (u := .int .i64 x.q) (flatL_get Bk.cl_len HX.out (by decide)); rwa [← Nat.add_assoc] at hq
                  have hc3 : Y3.cell? ⟨lg, lo + j * 5 + 3, none⟩ = some (.int .i64 x.c) := by have hq := HN.out.row.cell (show _ = Value.slice (some ⟨lg, lo, none⟩) net.length cap by rw [HNn.out]) (j := j * 5 + 3) (u := .int .i64 x.c) (flatL_get Bk.cl_len HX.out (by decide)); rwa [← Nat.add_assoc] at hq
                  have hc4 : Y3.cell? ⟨lg, lo + j * 5 + 4, none⟩ = some (.int .i64 x.f) := by have hq := HN.out.row.cell (show _ = Value.slice (some ⟨lg, lo, none⟩) net.length cap by rw [HNn.out]) (j := j * 5 + 4) (u := .int .i64 x.f) (flatL_get Bk.cl_len HX.out (by decide)); rwa [← Nat.add_assoc] at hq
                  have hnz : ¬ (x.q = 0 ∧ x.c = 0 ∧ x.f = 0) := HN.out.ci.zs.nz x (HT.out.1.mem_iff.1 (List.mem_of_getElem? HX.out))
                  have hz3 : ¬ x.q = 0 ∨ (x.q = 0 ∧ ¬ x.c = 0) ∨ (x.q = 0 ∧ x.c = 0 ∧ ¬ x.f = 0) := by
                    by_cases z1 : x.q = 0
                    · by_cases z2 : x.c = 0
                      · exact .inr (.inr ⟨z1, z2, fun z => hnz ⟨z1, z2, z⟩⟩)
                      · exact .inr (.inl ⟨z1, z2⟩)
                    · exact .inl z1
                  clear hnz
                  go_upto_region 44 with fail
                  have HFin : Hid (∃ j' : Nat, j' ≤ N ∧ j' = j + 1 ∧ ∀ q, NL w (Y3.drewN q) G' (i + 1) net (.slice (some ⟨lg, lo, none⟩) N cap) sb (sumC (wrap64 (sumB (fun b => b.am.q) (net.take j'))) (wrap64 (sumB (fun b => b.am.c) (net.take j'))) (wrap64 (sumB (fun b => b.am.f) (net.take j'))))) := ⟨j + 1, by omega, rfl, fun q => by rw [← HE.out.1, ← HE.out.2.1, ← HE.out.2.2]; exact HN.out.below (below_drewN (Below.refl _ Y3) q)⟩
                  have HFin0 : Hid (NL w Y3 G' (i + 1) net (.slice (some ⟨lg, lo, none⟩) N cap) sb (sumC (wrap64 (sumB (fun b => b.am.q) (net.take (j + 1)))) (wrap64 (sumB (fun b => b.am.c) (net.take (j + 1)))) (wrap64 (sumB (fun b => b.am.f) (net.take (j + 1)))))) := by rw [← HE.out.1, ← HE.out.2.1, ← HE.out.2.2]; exact HN.out
                  have hord : j = 0 ∨ ∃ k y, j = k + 1 ∧ net[k]? = some y ∧ ltB y x := by
                    cases hjk : j with
                    | zero => exact .inl rfl
                    | succ k =>
                      obtain ⟨y, hy⟩ : ∃ y, net[k]? = some y := ⟨net[k]'(by have h1 := HNn.out; omega), List.getElem?_eq_getElem (by have h1 := HNn.out; omega)⟩
                      exact .inr ⟨k, y, rfl, hy, net_lt HT.out.1 HN.out.ci.zs.dk HT.out.2.1 hy (hjk ▸ HX.out)⟩
                  have HO : Hid (j = 0 ∨ ∃ k y, j = k + 1 ∧ net[k]? = some y ∧ ltB y x) := hord
                  clear hord
                  rcases hz3 with z1 | ⟨z1, z2⟩ | ⟨z1, z2, z3⟩
                  · as_aux_lemma =>
                    go_upto_region 46 with fail
                    clear hc2 hc3 hc4
                    rcases HO.out with hj0 | ⟨k, y, hjk, hy, hlt⟩
                    · as_aux_lemma =>
                      have hj0' : (j : Int) = 0 := by omega
                      have hj0n : j = 0 := hj0
                      have hj0f : decide ((j : Int) > 0) = false := by simp; omega
                      have hj0g : decide ((0 : Int) < (j : Int)) = false := by simp; omega
                      have hj0h : decide (0 < j) = false := by simp; omega
                      clear hj0 hj0' hj0n
                      go_quiet (fail)
                      go_wp2
                      exact ⟨⟨j + 1, by omega, by go_num, (by obtain ⟨_, _, rfl, h9⟩ := HFin.out; exact h9 _)⟩, by simp [intOf]; omega⟩
                    · have hjp : (0 : Int) < (j : Int) := by omega
                      have hk : k = j - 1 := by omega
                      subst hk
                      have hj1 : 1 ≤ j := by omega
                      have hkN : (j : Int) - 1 < (N : Int) := by omega
                      have hkN' : j - 1 < N := by omega
                      have hjd : decide ((j : Int) > 0) = true := by simp; omega
                      have hjn : 0 < j := by omega
                      have hjm : decide (0 < j) = true := by simp; omega
                      have hji : decide ((0 : Int) < (j : Int)) = true := by simp; omega
                      have y0 : Y3.cell? ⟨lg, lo + (j - 1) * 5, none⟩ = some (.string y.ac) := by have hq := HN.out.row.cell (show _ = Value.slice (some ⟨lg, lo, none⟩) net.length cap by rw [HNn.out]) (j := (j - 1) * 5 + 0) (u := .string y.ac) (flatL_get Bk.cl_len hy (by decide)); exact hq
                      have y1 : Y3.cell? ⟨lg, lo + (j - 1) * 5 + 1, none⟩ = some (.string y.sy) := by have hq := HN.out.row.cell (show _ = Value.slice (some ⟨lg, lo, none⟩) net.length cap by rw [HNn.out]) (j := (j - 1) * 5 + 1) (u := .string y.sy) (flatL_get Bk.cl_len hy (by decide)); rwa [← Nat.add_assoc] at hq
                      have x0 : Y3.cell? ⟨lg, lo + j * 5, none⟩ = some (.string x.ac) := by have hq := HN.out.row.cell (show _ = Value.slice (some ⟨lg, lo, none⟩) net.length cap by rw [HNn.out]) (j := j * 5 + 0) (u := .string x.ac) (flatL_get Bk.cl_len HX.out (by decide)); exact hq
                      have x1 : Y3.cell? ⟨lg, lo + j * 5 + 1, none⟩ = some (.string x.sy) := by have hq := HN.out.row.cell (show _ = Value.slice (some ⟨lg, lo, none⟩) net.length cap by rw [HNn.out]) (j := j * 5 + 1) (u := .string x.sy) (flatL_get Bk.cl_len HX.out (by decide)); rwa [← Nat.add_assoc] at hq
                      have HFin2 := HFin
                      clear hy hjk HN HX HE HT HO HFin0 HC HA HB
                      rcases hlt with hlt | ⟨he, hlt⟩
                      · as_aux_lemma =>
                        have hb1 : Op.bytesLess y.ac.toList x.ac.toList = true := hlt
                        have hb0 : (!Op.bytesLess y.ac.toList x.ac.toList && !(y.ac.toList == x.ac.toList)) = false := by rw [hb1]; rfl
                        have hb2 : (y.ac.toList == x.ac.toList) = false := by rw [str_dec, decide_eq_false_iff_not]; intro e; rw [e, ltS_irr] at hlt; cases hlt
                        clear hlt
                        generalize y.ac = s1 at *
                        generalize x.ac = s2 at *
                        go_quiet (fail)
                        go_wp2
                        exact ⟨⟨j + 1, by omega, by go_num, (by obtain ⟨_, _, rfl, h9⟩ := HFin2.out; exact h9 _)⟩, by simp [intOf]; omega⟩
                      · as_aux_lemma =>
                        rw [he] at y0
                        have hb1 : Op.bytesLess x.ac.toList x.ac.toList = false := bl_irr _
                        have hb2 : (x.ac.toList == x.ac.toList) = true := str_self _
                        have hb0 : (!Op.bytesLess x.ac.toList x.ac.toList && !(x.ac.toList == x.ac.toList)) = false := by rw [hb1, hb2]; rfl
                        have hb3 : Op.bytesLess y.sy.toList x.sy.toList = true := hlt
                        have hb4 : (!Op.bytesLess y.sy.toList x.sy.toList) = false := by rw [hb3]; rfl
                        clear hlt he
                        generalize y.sy = s1 at *
                        generalize x.ac = s2 at *
                        generalize x.sy = s3 at *
                        go_quiet (fail)
                        go_wp2
                        exact ⟨⟨j + 1, by omega, by go_num, (by obtain ⟨_, _, rfl, h9⟩ := HFin2.out; exact h9 _)⟩, by simp [intOf]; omega⟩
                  · as_aux_lemma =>
                    rw [z1] at hc2
                    go_upto_region 46 with fail
                    clear hc2 hc3 hc4
                    rcases HO.out with hj0 | ⟨k, y, hjk, hy, hlt⟩
                    · as_aux_lemma =>
                      have hj0' : (j : Int) = 0 := by omega
                      have hj0n : j = 0 := hj0
                      have hj0f : decide ((j : Int) > 0) = false := by simp; omega
                      have hj0g : decide ((0 : Int) < (j : Int)) = false := by simp; omega
                      have hj0h : decide (0 < j) = false := by simp; omega
                      clear hj0 hj0' hj0n
                      go_quiet (fail)
                      go_wp2
                      exact ⟨⟨j + 1, by omega, by go_num, (by obtain ⟨_, _, rfl, h9⟩ := HFin.out; exact h9 _)⟩, by simp [intOf]; omega⟩
                    · have hjp : (0 : Int) < (j : Int) := by omega
                      have hk : k = j - 1 := by omega
                      subst hk
                      have hj1 : 1 ≤ j := by omega
                      have hkN : (j : Int) - 1 < (N : Int) := by omega
                      have hkN' : j - 1 < N := by omega
                      have hjd : decide ((j : Int) > 0) = true := by simp; omega
                      have hjn : 0 < j := by omega
                      have hjm : decide (0 < j) = true := by simp; omega
                      have hji : decide ((0 : Int) < (j : Int)) = true := by simp; omega
                      have y0 : Y3.cell? ⟨lg, lo + (j - 1) * 5, none⟩ = some (.string y.ac) := by have hq := HN.out.row.cell (show _ = Value.slice (some ⟨lg, lo, none⟩) net.length cap by rw [HNn.out]) (j := (j - 1) * 5 + 0) (u := .string y.ac) (flatL_get Bk.cl_len hy (by decide)); exact hq
                      have y1 : Y3.cell? ⟨lg, lo + (j - 1) * 5 + 1, none⟩ = some (.string y.sy) := by have hq := HN.out.row.cell (show _ = Value.slice (some ⟨lg, lo, none⟩) net.length cap by rw [HNn.out]) (j := (j - 1) * 5 + 1) (u := .string y.sy) (flatL_get Bk.cl_len hy (by decide)); rwa [← Nat.add_assoc] at hq
                      have x0 : Y3.cell? ⟨lg, lo + j * 5, none⟩ = some (.string x.ac) := by have hq := HN.out.row.cell (show _ = Value.slice (some ⟨lg, lo, none⟩) net.length cap by rw [HNn.out]) (j := j * 5 + 0) (u := .string x.ac) (flatL_get Bk.cl_len HX.out (by decide)); exact hq
                      have x1 : Y3.cell? ⟨lg, lo + j * 5 + 1, none⟩ = some (.string x.sy) := by have hq := HN.out.row.cell (show _ = Value.slice (some ⟨lg, lo, none⟩) net.length cap by rw [HNn.out]) (j := j * 5 + 1) (u := .string x.sy) (flatL_get Bk.cl_len HX.out (by decide)); rwa [← Nat.add_assoc] at hq
                      have HFin2 := HFin
                      clear hy hjk HN HX HE HT HO HFin0 HC HA HB
                      rcases hlt with hlt | ⟨he, hlt⟩
                      · as_aux_lemma =>
                        have hb1 : Op.bytesLess y.ac.toList x.ac.toList = true := hlt
                        have hb0 : (!Op.bytesLess y.ac.toList x.ac.toList && !(y.ac.toList == x.ac.toList)) = false := by rw [hb1]; rfl
                        have hb2 : (y.ac.toList == x.ac.toList) = false := by rw [str_dec, decide_eq_false_iff_not]; intro e; rw [e, ltS_irr] at hlt; cases hlt
                        clear hlt
                        generalize y.ac = s1 at *
                        generalize x.ac = s2 at *
                        go_quiet (fail)
                        go_wp2
                        exact ⟨⟨j + 1, by omega, by go_num, (by obtain ⟨_, _, rfl, h9⟩ := HFin2.out; exact h9 _)⟩, by simp [intOf]; omega⟩
                      · as_aux_lemma =>
                        rw [he] at y0
                        have hb1 : Op.bytesLess x.ac.toList x.ac.toList = false := bl_irr _
                        have hb2 : (x.ac.toList == x.ac.toList) = true := str_self _
                        have hb0 : (!Op.bytesLess x.ac.toList x.ac.toList && !(x.ac.toList == x.ac.toList)) = false := by rw [hb1, hb2]; rfl
                        have hb3 : Op.bytesLess y.sy.toList x.sy.toList = true := hlt
                        have hb4 : (!Op.bytesLess y.sy.toList x.sy.toList) = false := by rw [hb3]; rfl
                        clear hlt he
                        generalize y.sy = s1 at *
                        generalize x.ac = s2 at *
                        generalize x.sy = s3 at *
                        go_quiet (fail)
                        go_wp2
                        exact ⟨⟨j + 1, by omega, by go_num, (by obtain ⟨_, _, rfl, h9⟩ := HFin2.out; exact h9 _)⟩, by simp [intOf]; omega⟩
                  · as_aux_lemma =>
                    rw [z1] at hc2
                    rw [z2] at hc3
                    go_upto_region 46 with fail
                    clear hc2 hc3 hc4
                    rcases HO.out with hj0 | ⟨k, y, hjk, hy, hlt⟩
                    · as_aux_lemma =>
                      have hj0' : (j : Int) = 0 := by omega
                      have hj0n : j = 0 := hj0
                      have hj0f : decide ((j : Int) > 0) = false := by simp; omega
                      have hj0g : decide ((0 : Int) < (j : Int)) = false := by simp; omega
                      have hj0h : decide (0 < j) = false := by simp; omega
                      clear hj0 hj0' hj0n
                      go_quiet (fail)
                      go_wp2
                      exact ⟨⟨j + 1, by omega, by go_num, (by obtain ⟨_, _, rfl, h9⟩ := HFin.out; exact h9 _)⟩, by simp [intOf]; omega⟩
                    · have hjp : (0 : Int) < (j : Int) := by omega
                      have hk : k = j - 1 := by omega
                      subst hk
                      have hj1 : 1 ≤ j := by omega
                      have hkN : (j : Int) - 1 < (N : Int) := by omega
                      have hkN' : j - 1 < N := by omega
                      have hjd : decide ((j : Int) > 0) = true := by simp; omega
                      have hjn : 0 < j := by omega
                      have hjm : decide (0 < j) = true := by simp; omega
                      have hji : decide ((0 : Int) < (j : Int)) = true := by simp; omega
                      have y0 : Y3.cell? ⟨lg, lo + (j - 1) * 5, none⟩ = some (.string y.ac) := by have hq := HN.out.row.cell (show _ = Value.slice (some ⟨lg, lo, none⟩) net.length cap by rw [HNn.out]) (j := (j - 1) * 5 + 0) (u := .string y.ac) (flatL_get Bk.cl_len hy (by decide)); exact hq
                      have y1 : Y3.cell? ⟨lg, lo + (j - 1) * 5 + 1, none⟩ = some (.string y.sy) := by have hq := HN.out.row.cell (show _ = Value.slice (some ⟨lg, lo, none⟩) net.length cap by rw [HNn.out]) (j := (j - 1) * 5 + 1) (u := .string y.sy) (flatL_get Bk.cl_len hy (by decide)); rwa [← Nat.add_assoc] at hq
                      have x0 : Y3.cell? ⟨lg, lo + j * 5, none⟩ = some (.string x.ac) := by have hq := HN.out.row.cell (show _ = Value.slice (some ⟨lg, lo, none⟩) net.length cap by rw [HNn.out]) (j := j * 5 + 0) (u := .string x.ac) (flatL_get Bk.cl_len HX.out (by decide)); exact hq
                      have x1 : Y3.cell? ⟨lg, lo + j * 5 + 1, none⟩ = some (.string x.sy) := by have hq := HN.out.row.cell (show _ = Value.slice (some ⟨lg, lo, none⟩) net.length cap by rw [HNn.out]) (j := j * 5 + 1) (u := .string x.sy) (flatL_get Bk.cl_len HX.out (by decide)); rwa [← Nat.add_assoc] at hq
                      have HFin2 := HFin
                      clear hy hjk HN HX HE HT HO HFin0 HC HA HB
                      rcases hlt with hlt | ⟨he, hlt⟩
                      · as_aux_lemma =>
                        have hb1 : Op.bytesLess y.ac.toList x.ac.toList = true := hlt
                        have hb0 : (!Op.bytesLess y.ac.toList x.ac.toList && !(y.ac.toList == x.ac.toList)) = false := by rw [hb1]; rfl
                        have hb2 : (y.ac.toList == x.ac.toList) = false := by rw [str_dec, decide_eq_false_iff_not]; intro e; rw [e, ltS_irr] at hlt; cases hlt
                        clear hlt
                        generalize y.ac = s1 at *
                        generalize x.ac = s2 at *
                        go_quiet (fail)
                        go_wp2
                        exact ⟨⟨j + 1, by omega, by go_num, (by obtain ⟨_, _, rfl, h9⟩ := HFin2.out; exact h9 _)⟩, by simp [intOf]; omega⟩
                      · as_aux_lemma =>
                        rw [he] at y0
                        have hb1 : Op.bytesLess x.ac.toList x.ac.toList = false := bl_irr _
                        have hb2 : (x.ac.toList == x.ac.toList) = true := str_self _
                        have hb0 : (!Op.bytesLess x.ac.toList x.ac.toList && !(x.ac.toList == x.ac.toList)) = false := by rw [hb1, hb2]; rfl
                        have hb3 : Op.bytesLess y.sy.toList x.sy.toList = true := hlt
                        have hb4 : (!Op.bytesLess y.sy.toList x.sy.toList) = false := by rw [hb3]; rfl
                        clear hlt he
                        generalize y.sy = s1 at *
                        generalize x.ac = s2 at *
                        generalize x.sy = s3 at *
                        go_quiet (fail)
                        go_wp2
                        exact ⟨⟨j + 1, by omega, by go_num, (by obtain ⟨_, _, rfl, h9⟩ := HFin2.out; exact h9 _)⟩, by simp [intOf]; omega⟩
                · have hjN : j = N := by omega
                  have hstop2 : ¬ (j : Int) < (N : Int) := by omega
                  have HF : Hid (∃ G, G.g = g ∧ G.bs.length = n ∧ CI w wr G (i + 1)) := ⟨G', HC.out.1, HC.out.2.1, HN.out.ci⟩
                  have h0 : net.take j = net := by rw [hjN, ← HNn.out, List.take_length]
                  have s1 : wr.cell? ⟨sb, 2, none⟩ = some (.int .i64 0) := by
                    have hq : wr.cell? ⟨sb, 2, none⟩ = some (.int .i64 (wrap64 (sumB (fun b => b.am.q) (net.take j)))) := HN.out.blk.cell 2
                    rw [h0, sumB_perm HT.out.1, HN.out.ci.zs.t1, show wrap64 0 = 0 by unfold wrap64; omega] at hq
                    exact hq
                  have s2 : wr.cell? ⟨sb, 3, none⟩ = some (.int .i64 0) := by
                    have hq : wr.cell? ⟨sb, 3, none⟩ = some (.int .i64 (wrap64 (sumB (fun b => b.am.c) (net.take j)))) := HN.out.blk.cell 3
                    rw [h0, sumB_perm HT.out.1, HN.out.ci.zs.t2, show wrap64 0 = 0 by unfold wrap64; omega] at hq
                    exact hq
                  have s3 : wr.cell? ⟨sb, 4, none⟩ = some (.int .i64 0) := by
                    have hq : wr.cell? ⟨sb, 4, none⟩ = some (.int .i64 (wrap64 (sumB (fun b => b.am.f) (net.take j)))) := HN.out.blk.cell 4
                    rw [h0, sumB_perm HT.out.1, HN.out.ci.zs.t3, show wrap64 0 = 0 by unfold wrap64; omega] at hq
                    exact hq
                  clear HN h0 HT HC
                  go_wp2
                  obtain ⟨G2, e1, e2, e3⟩ := HF.out
                  exact ⟨⟨i + 1, n, G2, by omega, by omega, by go_num, rfl, e1, e2, e3⟩, by simp [intOf]; omega⟩

    · have HF : Hid (Below w.heap.size w wr) := HR.out.2.2.lv.bel
      clear HR
      by_cases hl1 : i < len0
      · have hi300 : i = 300 := by omega
        subst hi300
        have hl1' : ((300 : Nat) : Int) < (len0 : Int) := by omega
        have hl1'' : (300 : Int) < (len0 : Int) := by omega
        go_wp2
        go_ret
        exact ⟨rfl, HF.out⟩
      · have hl1' : ¬ (i : Int) < (len0 : Int) := by omega
        go_wp2
        go_ret
        exact ⟨rfl, HF.out⟩

end Go.Proofs.Ytidhahooebepfaa
