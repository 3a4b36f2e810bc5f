/-
  RiskRate: the walk.
-/
import Derived.Test.YtgioknkfppaaaaaGRateM
namespace Go.Proofs.Ytgioknkfppaaaaa
set_option linter.unusedVariables false
set_option linter.unusedSimpArgs false
open Go.RowKit Go.Great Go.Maps

theorem info2 : (Try.prog.info? 2).map (fun i => (i.zero, i.size, i.bytes)) = some (some (.int .i64 0), 1, 8) := by kernel_rfl
theorem info_parts {T : TypeId} {z : Value} {s b : Nat} (h : (Try.prog.info? T).map (fun i => (i.zero, i.size, i.bytes)) = some (some z, s, b)) : ∃ i, Try.prog.info? T = some i ∧ i.zero = some z ∧ i.size = s ∧ i.bytes = b := by
  cases hq : Try.prog.info? T with
  | none => simp [hq] at h
  | some i => simp [hq] at h; exact ⟨i, rfl, h.1, h.2.1, h.2.2⟩
def tsV (ts : List Int) : List Value := ts.map (.int .i64 ·)
theorem tsV_get {ts : List Int} {i : Nat} (h : i < ts.length) : (tsV ts)[i]? = some (.int .i64 (ts.getD i 0)) := by
  unfold tsV
  rw [List.getElem?_map, List.getElem?_eq_getElem h, List.getD_eq_getElem?_getD, List.getElem?_eq_getElem h]; rfl
theorem ab_none (a : Ac) (O : List Oo) (o : Ord) (v : Int) (h1 : a.od = 0) (h2 : a.op = 0) (h3 : a.po = 0) : abB a O o v = false := by
  unfold abB; rw [h1, h2, h3]; rfl
/-- Where the first loop stands. -/
structure RL (w W : World) (g ma mo bb mm : Nat) (b p : Int) (ts : List Int) (D now : Int) (lv : Value) (k : Nat) : Prop where
  on : On w.heap.size w W g ma mo { (Lim.ac ⟨sA, 0, 0, 0, b, p⟩ bb mm) with due := D } []
  rs : RS b p ts D now
  row : RowAt W 2 1 lv ts.length (tsV ts)
  low : ∀ q, lv.ownBlock = some q → w.heap.size ≤ q
  len : ts.length ≤ k
  nw : now ≤ (k : Int) * 3000
set_option maxRecDepth 100000 in
set_option maxHeartbeats 4000000 in
theorem RiskRate_law (a0 : Int) (h00 : -9223372036854775808 ≤ a0) (h01 : a0 ≤ 9223372036854775807) (a1 : Int) (h10 : -9223372036854775808 ≤ a1) (h11 : a1 ≤ 9223372036854775807) (a2 : Option Addr) (len2 cap2 : Nat) (d : Nat → Int) (hn2 : len2 ≤ maxLen) (w : World) (hs : SrcI w a2 len2 d) :
    Calls Try.prog 3 #[.int .i64 a0, .int .i64 a1, .slice a2 len2 cap2] w fun e w' => e = .returned (.bool true) ∧ Below w.heap.size w w' := by
  have hp1 := pick_any a0 20 20 rfl
  have hp2 := pick_any a1 1000 1000 rfl
  have q1 := pickN_lt a0 (show 0 < 20 by omega)
  have q2 := pickN_lt a1 (show 0 < 1000 by omega)
  have hc1 := fun w => hp1 w (by omega) (by omega) h00 h01
  have hc2 := fun w => hp2 w (by omega) (by omega) h10 h11
  clear hp1 hp2 h00 h01 h10 h11
  generalize pickN a0 20 = x at *
  generalize pickN a1 1000 = y at *
  obtain ⟨i0, hi, hz0, hz1, hz2⟩ := info_parts info2
  have HI : Hid (Try.prog.info? 2 = some i0 ∧ i0.zero = some (.int .i64 0) ∧ i0.size = 1 ∧ i0.bytes = 8) := ⟨hi, hz0, hz1, hz2⟩
  clear hi hz0 hz1 hz2
  have HS : Hid (SrcI w a2 len2 d) := hs
  have HN2 : Hid (len2 ≤ maxLen) := hn2
  have hn2' : len2 ≤ 9223372036854775807 := by unfold maxLen at hn2; omega
  clear hs hn2
  obtain ⟨b, hb⟩ : ∃ b : Int, b = 1 + (x : Int) := ⟨_, rfl⟩
  obtain ⟨p, hp⟩ : ∃ p : Int, p = 1 + (y : Int) := ⟨_, rfl⟩
  have HNw : Hid (∀ W, Below w.heap.size w W → Calls Try.prog 9 #[.slice (some ⟨W.heap.size, 0, none⟩) 1 1] (W.alloc (.cells #[.string ⟨#[65]⟩, .int .i64 0, .int .i64 0, .int .i64 0, .int .i64 (1 + (x : Int)), .int .i64 (1 + (y : Int))] 30)) fun e w' => ∃ g ma mo bb mm, e = .returned (.tuple #[.pointer (some ⟨g, 0, none⟩), .int .i64 0]) ∧ On w.heap.size w w' g ma mo (Lim.ac ⟨sA, 0, 0, 0, b, p⟩ bb mm) []) := fun W hW => by
    have hok : Lim.ok ⟨sA, 0, 0, 0, b, p⟩ = true := by
      unfold Lim.ok isaB
      simp only [Bool.and_eq_true, wiB_iff]
      exact ⟨⟨⟨by omega, by omega⟩, by omega⟩, ⟨by decide, by omega⟩, by omega⟩
    refine (New_one ⟨sA, 0, 0, 0, b, p⟩ hok rfl _ W.heap.size 1 (by rw [hb, hp]; exact Blk.new _ _ _)).mono fun e w' ⟨g, ma, mo, bb, mm, h1, h2⟩ => ⟨g, ma, mo, bb, mm, h1, h2.rebase (below_step hW ((Below.refl _ W).alloc (Nat.le_refl _) _))⟩
  go_enter Try.func3, Try.ntmps3
  go_wp2_with (go_at_call 7; fail)
  refine (shown_any _).mono ?_
  rintro e W0 ⟨rfl, hb0⟩
  have HB0 : Hid (Below w.heap.size w W0) := hb0
  clear hb0
  go_wp2_with (go_at_call 8; fail)
  refine (hc1 _).mono ?_
  rintro e W1 ⟨rfl, rfl⟩
  go_wp2_with (go_at_call 8; fail)
  refine (hc2 _).mono ?_
  rintro e W1 ⟨rfl, rfl⟩
  go_wp2_with (go_at_call 9; fail)
  refine (HNw.out _ HB0.out).mono ?_
  rintro e W2 ⟨g, ma, mo, bb, mm, rfl, on0⟩
  have HON : Hid (On w.heap.size w W2 g ma mo (Lim.ac ⟨sA, 0, 0, 0, b, p⟩ bb mm) []) := on0
  clear on0 HNw HB0
  go_wp2
  rw [← hb, ← hp]
  have hbb : 1 ≤ b ∧ b ≤ 20 := by omega
  have hpb : 1 ≤ p ∧ p ≤ 1000 := by omega
  have HP : Hid (p = 1 + (y : Int) ∧ y < 1000) := ⟨hp, q2⟩
  clear hb hp hc1 hc2 q1 q2
  go_loopw [12, 13, 14] (fun now lv i wr => ∃ (ts : List Int) (D nw : Int) (k : Nat), k ≤ len2 ∧ k ≤ 400 ∧ i = .int .i64 k ∧ now = .int .i64 nw ∧ Hid (RL w wr g ma mo bb mm b p ts D nw lv k)) (fun _ _ i _ => len2 - (intOf i).toNat)
  case atStart => exact ⟨[], 0, 0, 0, by omega, by omega, rfl, rfl, HON.out, RS.start hbb.1 hpb.1, RowAt.none0 _ _ _, fun q h => (by cases h), Nat.zero_le _, by show (0 : Int) ≤ 0 * 3000; decide⟩
  case round =>
    obtain ⟨ts, D, nw, k, hk, hk4, rfl, rfl, HR⟩ := hrel
    obtain ⟨ao, cap, rfl, hcap⟩ := HR.out.row.form
    have HCap : Hid (ts.length ≤ cap) := hcap
    clear hcap
    by_cases hlt : k < len2 ∧ k < 400
    · obtain ⟨hl1, hl2⟩ := hlt
      have hl1' : (k : Int) < (len2 : Int) := by omega
      have hl2' : (k : Int) < 400 := by omega
      rcases HS.out.below HR.out.on.bel with h0 | ⟨gb, goff, rfl, hcell⟩
      · omega
      obtain ⟨hc, d0, d1⟩ := hcell k hl1
      clear hcell
      have hpk := fun w => pick_any (d k) (3 * p) (3 * (1 + y)) (by have := HP.out.1; omega) w (by omega) (by have := HP.out.2; omega) d0 d1
      have hz := pickN_lt (d k) (show 0 < 3 * (1 + y) by omega)
      have hz3 : pickN (d k) (3 * (1 + y)) < 3000 := by have := HP.out.2; omega
      clear hz d0 d1
      generalize pickN (d k) (3 * (1 + y)) = z at *
      have hn0 := HR.out.rs.n0
      have hn1 := HR.out.nw
      go_wp2_with (go_at_call 8; fail)
      refine (hpk _).mono ?_
      rintro e W3 ⟨rfl, rfl⟩
      go_wp2_with (go_at_call 11; fail)
      refine (order_any _ _ _ _ _).mono ?_
      rintro e W4 ⟨rfl, hb4⟩
      have HO4 : Hid (On w.heap.size w W4 g ma mo { (Lim.ac ⟨sA, 0, 0, 0, b, p⟩ bb mm) with due := D } [] ∧ RowAt W4 2 1 (.slice ao ts.length cap) ts.length (tsV ts)) := ⟨HR.out.on.below hb4, HR.out.row.fr (Fr.of_below hb4 (fun _ => False)) fun _ _ => id⟩
      clear hb4
      have hck := Check_onF HO4.out.1 1 1 1 1 (nw + (z : Int)) (by omega) (by omega) (by omega) (by omega)
      rw [ab_none _ _ _ _ rfl rfl rfl] at hck
      simp only [Bool.false_eq_true, if_false] at hck
      have HT : Hid (tkB { (Lim.ac ⟨sA, 0, 0, 0, b, p⟩ bb mm) with due := D } (nw + (z : Int)) = (((b == 0) || (p == 0)) || !decide (nw + (z : Int) + (b - 1) * p < D))) := rfl
      have HTD : Hid (tkD { (Lim.ac ⟨sA, 0, 0, 0, b, p⟩ bb mm) with due := D } (nw + (z : Int)) = if b = 0 ∨ p = 0 ∨ nw + (z : Int) + (b - 1) * p < D then D else max D (nw + (z : Int)) + p) := rfl
      generalize htk : tkB { (Lim.ac ⟨sA, 0, 0, 0, b, p⟩ bb mm) with due := D } (nw + (z : Int)) = tk at *
      have HRS : Hid (RS b p ts D (nw + (z : Int))) := HR.out.rs.pass (by omega)
      have HLow : Hid ((∀ q, (Value.slice ao ts.length cap).ownBlock = some q → w.heap.size ≤ q) ∧ ts.length ≤ k ∧ nw + (z : Int) ≤ ((k : Int) + 1) * 3000) := ⟨HR.out.low, HR.out.len, by omega⟩
      clear htk
      cases tk
      · -- refused
        have hc : nw + (z : Int) + (b - 1) * p < D := by
          have := HT.out
          have e1 : (b == 0) = false := by simp; omega
          have e2 : (p == 0) = false := by simp; omega
          rw [e1, e2] at this
          simpa using this.symm
        rw [show (if b = 0 ∨ p = 0 ∨ nw + (z : Int) + (b - 1) * p < D then D else max D (nw + (z : Int)) + p) = D from if_pos (.inr (.inr hc))] at HTD
        rw [HTD.out] at hck
        obtain ⟨hr1, hr2⟩ := HRS.out.refused hc
        clear hc HT HTD
        simp only [if_true] at hck
        go_wp2_with (go_at_call 10; fail)
        refine hck.mono ?_
        rintro e W5 ⟨rfl, on5, hf5⟩
        have HO5 : Hid (On w.heap.size w W5 g ma mo { (Lim.ac ⟨sA, 0, 0, 0, b, p⟩ bb mm) with due := D } [] ∧ RowAt W5 2 1 (.slice ao ts.length cap) ts.length (tsV ts)) := ⟨on5, HO4.out.2.fr hf5 fun q hq => HO4.out.1.ne_row HO4.out.2 (by decide) (by decide) q hq⟩
        clear on5 hf5 hck HO4
        obtain ⟨jn, hjn⟩ : ∃ j : Nat, (ts.length : Int) - b = (j : Int) := ⟨((ts.length : Int) - b).toNat, by omega⟩
        have htl : ts.length ≤ 400 := by have := HLow.out.2.1; omega
        have hjl : jn < ts.length := by omega
        have hjw : wrap64 (jn : Int) = (jn : Int) := by unfold wrap64; omega
        have hjl' : (jn : Int) < (ts.length : Int) := by omega
        have hd := hr2 jn hjn.symm
        obtain ⟨tg, toff, tcap, _, hts, _⟩ := HO5.out.2.more (by omega)
        injection hts with ha1 _ hc1
        subst ha1 hc1
        have hcl := HO5.out.2.cell rfl (tsV_get hjl)
        have hm0 := bp_ge hbb.1 hpb.1
        have hm1 : b * p ≤ 20 * 1000 := Int.mul_le_mul hbb.2 hpb.2 (by omega) (by omega)
        have hle := HRS.out.le jn hjl
        clear hr2
        generalize hQ : b * p = Q at *
        have hr1' : ¬ (ts.length : Int) < b := by omega
        generalize ts.getD jn 0 = tj at *
        have HRL : Hid (RL w W5 g ma mo bb mm b p ts D (nw + (z : Int)) (.slice (some ⟨tg, toff, none⟩) ts.length cap) (k + 1)) := ⟨HO5.out.1, HRS.out, HO5.out.2, HLow.out.1, by have := HLow.out.2.1; omega, by have := HLow.out.2.2; omega⟩
        clear HR HO5 HRS HLow
        go_wp2
        exact ⟨⟨ts, D, nw + (z : Int), k + 1, by omega, by omega, by go_num, rfl, HRL⟩, by simp [intOf]; omega⟩
      · -- let
        have hc : ¬ nw + (z : Int) + (b - 1) * p < D := by
          have := HT.out
          have e1 : (b == 0) = false := by simp; omega
          have e2 : (p == 0) = false := by simp; omega
          rw [e1, e2] at this
          simpa using this.symm
        rw [show (if b = 0 ∨ p = 0 ∨ nw + (z : Int) + (b - 1) * p < D then D else max D (nw + (z : Int)) + p) = max D (nw + (z : Int)) + p from if_neg (by omega)] at HTD
        rw [HTD.out] at hck
        have HRS2 : Hid (RS b p (ts ++ [nw + (z : Int)]) (max D (nw + (z : Int)) + p) (nw + (z : Int))) := HRS.out.more hc
        clear hc HT HTD HRS
        simp only [Bool.true_eq_false, if_false] at hck
        go_wp2_with (go_at_call 10; fail)
        refine hck.mono ?_
        rintro e W5 ⟨rfl, on5, hf5⟩
        generalize max D (nw + (z : Int)) + p = D' at *
        have HO5 : Hid (On w.heap.size w W5 g ma mo { (Lim.ac ⟨sA, 0, 0, 0, b, p⟩ bb mm) with due := D' } [] ∧ RowAt W5 2 1 (.slice ao ts.length cap) ts.length (tsV ts)) := ⟨on5, HO4.out.2.fr hf5 fun q hq => HO4.out.1.ne_row HO4.out.2 (by decide) (by decide) q hq⟩
        clear on5 hf5 hck HO4
        generalize hnz : nw + (z : Int) = nz at *
        have HNZ : Hid (nw + (z : Int) = nz) := hnz
        have HO6 : Hid (On w.heap.size w (W5.alloc (.cells #[.int .i64 nz] 2)) g ma mo { (Lim.ac ⟨sA, 0, 0, 0, b, p⟩ bb mm) with due := D' } [] ∧ RowAt (W5.alloc (.cells #[.int .i64 nz] 2)) 2 1 (.slice ao ts.length cap) ts.length (tsV ts) ∧ Blk (W5.alloc (.cells #[.int .i64 nz] 2)) W5.heap.size 2 #[.int .i64 nz] ∧ w.heap.size ≤ W5.heap.size) := ⟨HO5.out.1.below ((Below.refl _ W5).alloc (Nat.le_refl _) _), HO5.out.2.fr (Fr.alloc W5 _ (fun _ => False)) fun _ _ => id, Blk.new _ _ _, HO5.out.1.bel.size⟩
        have htl := HLow.out.2.1
        go_wp2_with (at_builtin; refine wpList_append_row _ rfl _ _ 32 rfl 2 i0 _ 1 8 Try.underlying32 HI.out.1 HI.out.2.1 HI.out.2.2.1 HI.out.2.2.2 (by rfl) (.slice ao ts.length cap) ts.length (tsV ts) rfl HO6.out.2.1 ⟨W5.heap.size, 0, none⟩ 1 1 [.int .i64 nz] rfl rfl (fun j u hj => by rw [Addr.add_mid, cell_of_row _ _ _ _ _ _ HO6.out.2.2.1, Nat.zero_add]; simpa using hj) (fun u hu => by rw [List.mem_singleton.1 hu]; rfl) (.inl (by decide)) (by unfold maxLen; omega) (by omega) ?_; intro v' w7 hrow hfr hnew)
        have HRL : Hid (RL w w7 g ma mo bb mm b p (ts ++ [nz]) D' nz v' (k + 1)) := by
          refine ⟨HO6.out.1.keepR hfr (fun q hq => HO6.out.1.ne_row HO6.out.2.1 (by decide) (by decide) q hq) (fun q hq => HLow.out.1 q hq), HRS2.out, ?_, ?_, by rw [List.length_append]; have := HLow.out.2.1; show ts.length + 1 ≤ k + 1; omega, by have := HLow.out.2.2; rw [← HNZ.out]; omega⟩
          · have : tsV (ts ++ [nz]) = tsV ts ++ [.int .i64 nz] := by unfold tsV; rw [List.map_append]; rfl
            rw [this, List.length_append]
            exact hrow
          · intro q hq
            rcases hnew with h | ⟨h, _⟩
            · exact HLow.out.1 q (h ▸ hq)
            · rw [h] at hq
              injection hq with hq
              have h1 := HO6.out.2.2.2
              simp at hq
              omega
        clear hrow hfr hnew HO6 HO5 HR HLow HRS2
        go_wp2
        exact ⟨⟨ts ++ [nz], D', nz, k + 1, by omega, by omega, by go_num, rfl, HRL⟩, by simp [intOf]; omega⟩
    · have hd : k = len2 ∨ k = 400 := by omega
      have HNW : Hid (nw ≤ (k : Int) * 3000) := HR.out.nw
      have HRL : Hid (RS b p ts D nw ∧ RowAt wr 2 1 (.slice ao ts.length cap) ts.length (tsV ts) ∧ Below w.heap.size w wr ∧ ts.length ≤ 400) := ⟨HR.out.rs, HR.out.row, HR.out.on.bel, by have := HR.out.len; omega⟩
      clear HR
      have hnwb : nw ≤ 1200000 := by have := HNW.out; omega
      have hstop : ¬ ((k : Int) < (len2 : Int) ∧ (k : Int) < 400) := by omega
      have htl := HRL.out.2.2.2
      rcases (by omega : (¬ (k : Int) < (len2 : Int)) ∨ ((k : Int) < (len2 : Int) ∧ ¬ (k : Int) < 400)) with hx | ⟨hx, hy⟩
      all_goals (clear hstop hd hlt)
      · go_wp2
        generalize wr = WE at *
        go_loopw [16] (fun i wr => ∃ j : Nat, j ≤ ts.length ∧ i = .int .i64 j ∧ ∃ n, wr = WE.drewN n) (fun i _ => ts.length - (intOf i).toNat)
        case atStart => exact ⟨0, by omega, rfl, 0, rfl⟩
        case round =>
          obtain ⟨j, hj, rfl, n0, rfl⟩ := hrel
          by_cases hjl : j < ts.length
          · have hjl' : (j : Int) < (ts.length : Int) := by omega
            obtain ⟨tg, toff, tcap, _, hts, _⟩ := HRL.out.2.1.more (by omega)
            injection hts with ha1 _ hc1
            subst ha1 hc1
            have hcj := HRL.out.2.1.cell rfl (tsV_get hjl)
            have HJ : Hid (0 ≤ ts.getD j 0 ∧ ts.getD j 0 ≤ nw) := HRL.out.1.le j hjl
            have hjj := HJ.out
            generalize htj : ts.getD j 0 = tj at *
            have HTJ : Hid (ts.getD j 0 = tj) := htj
            clear htj
            go_wp2
            go_loopw [17] (fun i wr => ∃ q : Nat, j ≤ q ∧ q ≤ ts.length ∧ i = .int .i64 q ∧ ∃ n, wr = WE.drewN n) (fun i _ => ts.length - (intOf i).toNat)
            case atStart => exact ⟨j, by omega, by omega, rfl, n0, rfl⟩
            case round =>
              obtain ⟨q, hjq, hq, rfl, n1, rfl⟩ := hrel
              by_cases hql : q < ts.length
              · have hql' : (q : Int) < (ts.length : Int) := by omega
                have hcq := HRL.out.2.1.cell rfl (tsV_get hql)
                have hqq := HRL.out.1.le q hql
                obtain ⟨hm0, hm1⟩ := HRL.out.1.most hjq hql
                rw [HTJ.out] at hm0 hm1
                generalize ts.getD q 0 = tq at *
                have hdv : (tq - tj).tdiv p = (tq - tj) / p := Int.tdiv_eq_ediv_of_nonneg hm0
                have hd0 : 0 ≤ (tq - tj) / p := Int.ediv_nonneg hm0 (by omega)
                have hd1 : (tq - tj) / p ≤ tq - tj := Int.ediv_le_self _ hm0
                generalize (tq - tj) / p = Q at *
                have hp0 : (p == 0) = false := by simp; omega
                have hfin : ¬ (b + Q + 1 < (q : Int) - j + 1) := by omega
                have hQ1 : Q ≤ 1200000 := by omega
                have hw1 : wrap64 Q = Q := by unfold wrap64; omega
                have hw2 : wrap64 (b + Q) = b + Q := by unfold wrap64; omega
                have hw3 : wrap64 (b + Q + 1) = b + Q + 1 := by unfold wrap64; omega
                have HRest : Hid (j ≤ q ∧ q < ts.length) := ⟨hjq, hql⟩
                clear hm1 hm0 hd1
                go_upto_region 26 with fail
                go_quiet (fail)
                go_wp2
                exact ⟨⟨q + 1, by omega, by omega, by go_num, _, rfl⟩, by simp [intOf]; omega⟩
              · obtain rfl : q = ts.length := by omega
                go_wp2
                exact ⟨⟨j + 1, by omega, by go_num, _, rfl⟩, by simp [intOf]; omega⟩
          · obtain rfl : j = ts.length := by omega
            go_wp2
            go_ret
            exact ⟨rfl, below_drewN HRL.out.2.2.1 _⟩
      · go_wp2
        generalize wr = WE at *
        go_loopw [16] (fun i wr => ∃ j : Nat, j ≤ ts.length ∧ i = .int .i64 j ∧ ∃ n, wr = WE.drewN n) (fun i _ => ts.length - (intOf i).toNat)
        case atStart => exact ⟨0, by omega, rfl, 0, rfl⟩
        case round =>
          obtain ⟨j, hj, rfl, n0, rfl⟩ := hrel
          by_cases hjl : j < ts.length
          · have hjl' : (j : Int) < (ts.length : Int) := by omega
            obtain ⟨tg, toff, tcap, _, hts, _⟩ := HRL.out.2.1.more (by omega)
            injection hts with ha1 _ hc1
            subst ha1 hc1
            have hcj := HRL.out.2.1.cell rfl (tsV_get hjl)
            have HJ : Hid (0 ≤ ts.getD j 0 ∧ ts.getD j 0 ≤ nw) := HRL.out.1.le j hjl
            have hjj := HJ.out
            generalize htj : ts.getD j 0 = tj at *
            have HTJ : Hid (ts.getD j 0 = tj) := htj
            clear htj
            go_wp2
            go_loopw [17] (fun i wr => ∃ q : Nat, j ≤ q ∧ q ≤ ts.length ∧ i = .int .i64 q ∧ ∃ n, wr = WE.drewN n) (fun i _ => ts.length - (intOf i).toNat)
            case atStart => exact ⟨j, by omega, by omega, rfl, n0, rfl⟩
            case round =>
              obtain ⟨q, hjq, hq, rfl, n1, rfl⟩ := hrel
              by_cases hql : q < ts.length
              · have hql' : (q : Int) < (ts.length : Int) := by omega
                have hcq := HRL.out.2.1.cell rfl (tsV_get hql)
                have hqq := HRL.out.1.le q hql
                obtain ⟨hm0, hm1⟩ := HRL.out.1.most hjq hql
                rw [HTJ.out] at hm0 hm1
                generalize ts.getD q 0 = tq at *
                have hdv : (tq - tj).tdiv p = (tq - tj) / p := Int.tdiv_eq_ediv_of_nonneg hm0
                have hd0 : 0 ≤ (tq - tj) / p := Int.ediv_nonneg hm0 (by omega)
                have hd1 : (tq - tj) / p ≤ tq - tj := Int.ediv_le_self _ hm0
                generalize (tq - tj) / p = Q at *
                have hp0 : (p == 0) = false := by simp; omega
                have hfin : ¬ (b + Q + 1 < (q : Int) - j + 1) := by omega
                have hQ1 : Q ≤ 1200000 := by omega
                have hw1 : wrap64 Q = Q := by unfold wrap64; omega
                have hw2 : wrap64 (b + Q) = b + Q := by unfold wrap64; omega
                have hw3 : wrap64 (b + Q + 1) = b + Q + 1 := by unfold wrap64; omega
                have HRest : Hid (j ≤ q ∧ q < ts.length) := ⟨hjq, hql⟩
                clear hm1 hm0 hd1
                go_upto_region 26 with fail
                go_quiet (fail)
                go_wp2
                exact ⟨⟨q + 1, by omega, by omega, by go_num, _, rfl⟩, by simp [intOf]; omega⟩
              · obtain rfl : q = ts.length := by omega
                go_wp2
                exact ⟨⟨j + 1, by omega, by go_num, _, rfl⟩, by simp [intOf]; omega⟩
          · obtain rfl : j = ts.length := by omega
            go_wp2
            go_ret
            exact ⟨rfl, below_drewN HRL.out.2.2.1 _⟩
end Go.Proofs.Ytgioknkfppaaaaa
