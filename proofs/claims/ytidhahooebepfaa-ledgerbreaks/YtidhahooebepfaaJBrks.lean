/-
  LedgerBreaks: the walk.
-/
import Derived.Test.YtidhahooebepfaaJBrk1
import Derived.Test.YtidhahooebepfaaJDay2
import Derived.WalkLawsBesides
namespace Go.Proofs.Ytidhahooebepfaa
set_option linter.unusedVariables false
set_option linter.unusedSimpArgs false
open Go.RowKit Go.Great Go.Maps

/-- Truths that came in. -/
def SrcT (w : World) (a : Option Addr) (n : Nat) (f : Nat → Bool) : Prop := n = 0 ∨ ∃ b off, a = some ⟨b, off, none⟩ ∧ ∀ j, j < n → w.cell? ⟨b, off + j, none⟩ = some (.bool (f j))
theorem SrcT.below {w w' : World} {a : Option Addr} {n : Nat} {f : Nat → Bool} (h : SrcT w a n f) (hb : Below w.heap.size w w') : SrcT w' a n f := by
  rcases h with h | ⟨b, off, e, h⟩
  · exact .inl h
  · exact .inr ⟨b, off, e, fun j hj => (hb.cell (World.block_lt_of_cell? _ _ (h j hj))).trans (h j hj)⟩
/-- Where the first loop stands. -/
structure BLp (w W : World) (G H : Lg) (g h i : Nat) (v : Value) (gs : List Nat) : Prop where
  bi : BI w W G H (2 * i) v gs gs
  eg : G.g = g
  eh : H.g = h
  bl : G.bs.length = i
  fl : ∀ k, k < i → G.bs[k]? = some false
  nd : gs.Nodup
  gl : gs.length ≤ i
theorem BLp.start {w w0 w1 w2 : World} {G H : Lg} (hb : Below w.heap.size w w0) (ha : Nw w0 w1 G) (hh : Nw w1 w2 H) : BLp w w2 G H G.g H.g 0 (.slice none 0 0) [] := by
  have h1 : GI mB ZT w w1 G 0 := GI.start hb ha ⟨List.Pairwise.nil, fun b hb => by cases hb⟩
  refine ⟨⟨h1.below hh.bel, GI.start h1.lv.bel hh ⟨List.Pairwise.nil, fun b hb => by cases hb⟩, fun q hq ho => ?_, ?_, fun k hk => (by cases hk), GoneAt.start _, fun q hq => (by cases hq), by rw [ha.ts, ha.bs]; rfl⟩, rfl, rfl, by rw [ha.bs]; rfl, fun k hk => (by omega), List.Pairwise.nil, Nat.le_refl _⟩
  · have := h1.lv.at'.lt hq
    have := hh.low q ho
    omega
  · rw [ha.T, hh.T]
    exact ⟨fun ac sy => rfl, fun ac sy => rfl, fun ac sy => rfl⟩
theorem BLp.next1 {w W W' : World} {G H G' H' : Lg} {g h i : Nat} {v v' : Value} {gs gs' : List Nat} (hl : BLp w W G H g h i v gs) (hg : G'.g = G.g) (hh : H'.g = H.g) (hb : G'.bs = G.bs ++ [false]) (hx : BI w W' G' H' (2 * (i + 1)) v' gs' gs') (hgs : gs' = gs ∨ gs' = i :: gs) : BLp w W' G' H' g h (i + 1) v' gs' := by
  refine ⟨hx, hg.trans hl.eg, hh.trans hl.eh, by rw [hb, List.length_append, hl.bl]; rfl, fun k hk => ?_, ?_, ?_⟩
  · rw [hb]
    by_cases h1 : k < i
    · rw [List.getElem?_append_left (by rw [hl.bl]; exact h1)]; exact hl.fl k h1
    · have : k = i := by omega
      subst this
      rw [List.getElem?_append_right (by rw [hl.bl]; exact Nat.le_refl _), hl.bl, Nat.sub_self]; rfl
  · rcases hgs with rfl | rfl
    · exact hl.nd
    · refine List.nodup_cons.2 ⟨fun hm => ?_, hl.nd⟩
      have := hl.bi.lt i hm
      rw [hl.bi.eq, hl.bl] at this
      omega
  · rcases hgs with rfl | rfl
    · exact Nat.le_succ_of_le hl.gl
    · exact Nat.succ_le_succ hl.gl
theorem BI.same {w W : World} {G H : Lg} {i : Nat} {v : Value} {gs left : List Nat} (h : BI w W G H i v gs left) : BI w W G H (i + 1) v gs left := ⟨h.a.same (by decide), h.b.same (by decide), h.ap, h.rel, h.lt, h.at', h.low, h.eq⟩
theorem BLp.bp {w W : World} {G H : Lg} {g h i : Nat} {v : Value} {gs : List Nat} (hl : BLp w W G H g h i v gs) : BP w W G H (2 * i) v gs (gs.drop 0) := ⟨hl.bi, hl.nd, fun k hk => hl.fl k (by have := hl.bi.lt k hk; rw [hl.bi.eq, hl.bl] at this; exact this)⟩
theorem GoneAt.cell {w : World} {g off n cap : Nat} {gs : List Nat} (h : GoneAt w (.slice (some ⟨g, off, none⟩) n cap) gs) {j k : Nat} (hj : gs[j]? = some k) : w.cell? ⟨g, off + j, none⟩ = some (.int .i64 ((k : Int) + 1)) := by
  obtain ⟨ao, c, e, _, h⟩ := h
  rcases h with h | ⟨g', o', e1, _, h⟩
  · rw [h] at hj; cases hj
  · injection e with e e2 e3
    rw [e1] at e
    injection e with e
    injection e with e4 e5 _
    subst e4 e5
    exact h j k hj
theorem GoneAt.form {w : World} {v : Value} {gs : List Nat} (h : GoneAt w v gs) : ∃ ao cap, v = .slice ao gs.length cap := by
  obtain ⟨ao, cap, e, _⟩ := h
  exact ⟨ao, cap, e⟩
theorem GoneAt.some {w : World} {ao : Option Addr} {n cap : Nat} {gs : List Nat} (h : GoneAt w (.slice ao n cap) gs) (hn : gs ≠ []) : ∃ g off, ao = Option.some ⟨g, off, none⟩ := by
  obtain ⟨a, c, e, _, h⟩ := h
  rcases h with h | ⟨g', o', e1, _, h⟩
  · exact absurd h hn
  · injection e with e _ _
    exact ⟨g', o', e.trans e1⟩
set_option maxRecDepth 100000 in
set_option maxHeartbeats 16000000 in
theorem LedgerBreaks_law (a0 : Option Addr) (len0 cap0 : Nat) (t : Nat → Dd) (hn : len0 ≤ maxLen) (a1 : Option Addr) (len1 cap1 : Nat) (f : Nat → Bool) (hm : len1 ≤ maxLen) (w : World) (hs : SrcD w a0 len0 t) (hs1 : SrcT w a1 len1 f) :
    Calls Try.prog 6 #[.slice a0 len0 cap0, .slice a1 len1 cap1] w fun e w' => e = .returned (.bool true) ∧ Below w.heap.size w w' := by
  have HS : Hid (SrcD w a0 len0 t) := hs
  have HS1 : Hid (SrcT w a1 len1 f) := hs1
  have hn' : len0 ≤ 9223372036854775807 := by unfold maxLen at hn; omega
  have hm' : len1 ≤ 9223372036854775807 := by unfold maxLen at hm; omega
  clear hs hn hm hs1
  go_enter Try.func6, Try.ntmps6
  go_wp2_with (go_at_call 8; fail)
  refine (shown_any _).mono ?_
  rintro e w0 ⟨rfl, hb0⟩
  have HB0 : Hid (Below w.heap.size w w0) := hb0
  clear hb0
  go_wp2_with (go_at_call 9; fail)
  refine (New_any _).mono ?_
  rintro e w1 ⟨G0, rfl, hnw⟩
  have HN0 : Hid (Nw w0 w1 G0) := hnw.out
  clear hnw
  go_wp2_with (go_at_call 9; fail)
  refine (New_any _).mono ?_
  rintro e w2 ⟨H0, rfl, hnw⟩
  have HM0 : Hid (BLp w w2 G0 H0 G0.g H0.g 0 (.slice none 0 0) []) := BLp.start HB0.out HN0.out hnw.out
  clear hnw HB0 HN0
  generalize G0.g = g at *
  generalize H0.g = h at *
  go_wp2
  go_loopw [8, 9, 10] (fun n y x wr => ∃ (i : Nat) (G H : Lg) (gs : List Nat) (v : Value), v = y ∧ i ≤ len0 ∧ i ≤ 200 ∧ x = .int .i64 i ∧ n = .int .i64 i ∧ Hid (BLp w wr G H g h i v gs)) (fun _ _ x _ => len0 - (intOf x).toNat)
  case atStart => exact ⟨0, G0, H0, [], _, rfl, by omega, by omega, rfl, rfl, HM0⟩
  case round =>
    clear HM0
    obtain ⟨i, G, H, gs, v, hv, hi, hi3, rfl, rfl, HR⟩ := hrel
    subst hv
    by_cases hlt : i < len0 ∧ i < 200
    · as_aux_lemma =>
      obtain ⟨hl1, hl2⟩ := hlt
      have hl1' : (i : Int) < (len0 : Int) := by omega
      have hl2' : (i : Int) < 200 := by omega
      rcases HS.out.below HR.out.bi.a.lv.bel with h0 | ⟨gb, goff, rfl, hcell⟩
      · omega
      obtain ⟨⟨d0, d1, d2, d3, d4, d5, d6⟩, hok⟩ := hcell i hl1
      clear hcell
      have hpk := fun w => pick_any (t i).p 1000 1000 rfl w (by omega) (by omega) hok.2.2.2.2.1.1 hok.2.2.2.2.1.2
      have hpl := pickN_lt (t i).p (show 0 < 1000 by omega)
      have HOK : Hid (Dd.ok ⟨0, (t i).s, (t i).b, (t i).e, (pickN (t i).p 1000 : Int), (t i).q, (t i).f⟩) := ⟨(show i64B 0 from ⟨by decide, by decide⟩), hok.2.1, hok.2.2.1, hok.2.2.2.1, (show i64B (pickN (t i).p 1000 : Int) from ⟨by omega, by omega⟩), hok.2.2.2.2.2.1, hok.2.2.2.2.2.2⟩
      clear hok
      generalize t i = Dx at *
      obtain ⟨Dk, Ds, Db, De, Dp, Dq, Df⟩ := Dx
      simp only at d0 d1 d2 d3 d4 d5 d6 hpk HOK hpl
      generalize pickN Dp 1000 = zp at *
      go_wp2_with (go_at_call 11; fail)
      refine (hpk _).mono ?_
      rintro e w1 ⟨rfl, ew⟩
      replace ew := ew.symm
      subst ew
      clear hpk d0 d1 d2 d3 d4 d5 d6
      have HB : Hid (BLp w (wr.alloc (.cells (Dd.cs ⟨0, Ds, Db, De, (zp : Int), Dq, Df⟩) 36)) G H g h i v gs ∧ Blk (wr.alloc (.cells (Dd.cs ⟨0, Ds, Db, De, (zp : Int), Dq, Df⟩) 36)) wr.heap.size 36 (Dd.cs ⟨0, Ds, Db, De, (zp : Int), Dq, Df⟩) ∧ ¬ G.own wr.heap.size ∧ ¬ H.own wr.heap.size ∧ w.heap.size ≤ wr.heap.size) := ⟨⟨HR.out.bi.below ((Below.refl _ wr).alloc (Nat.le_refl _) _), HR.out.eg, HR.out.eh, HR.out.bl, HR.out.fl, HR.out.nd, HR.out.gl⟩, Blk.new _ _ _, fun ho => by have := HR.out.bi.a.lv.at'.lt ho; omega, fun ho => by have := HR.out.bi.b.lv.at'.lt ho; omega, HR.out.bi.a.lv.bel.size⟩
      clear HR
      have hd1 := does_first (⟨0, Ds, Db, De, (zp : Int), Dq, Df⟩ : Dd) HOK.out rfl ⟨zp, rfl, hpl⟩ HB.out.1.bi (by omega) (by rw [HB.out.1.bl]; omega) HB.out.2.1 ⟨HB.out.2.2.1, HB.out.2.2.2.1⟩
      rw [HB.out.1.eg, HB.out.1.bl] at hd1
      simp only [Dd.cs] at HB hd1
      go_upto_region 14 with fail
      generalize wr.alloc (.cells #[.int .i64 0, .int .i64 Ds, .int .i64 Db, .int .i64 De, .int .i64 (zp : Int), .int .i64 Dq, .int .i64 Df] 36) = W0 at *
      generalize wr.heap.size = ob at *
      have c0 : W0.cell? ⟨ob, 0, none⟩ = some (.int .i64 0) := HB.out.2.1.cell 0
      have c1 : W0.cell? ⟨ob, 1, none⟩ = some (.int .i64 Ds) := HB.out.2.1.cell 1
      have c2 : W0.cell? ⟨ob, 2, none⟩ = some (.int .i64 Db) := HB.out.2.1.cell 2
      have c3 : W0.cell? ⟨ob, 3, none⟩ = some (.int .i64 De) := HB.out.2.1.cell 3
      have c4 : W0.cell? ⟨ob, 4, none⟩ = some (.int .i64 (zp : Int)) := HB.out.2.1.cell 4
      have c5 : W0.cell? ⟨ob, 5, none⟩ = some (.int .i64 Dq) := HB.out.2.1.cell 5
      have c6 : W0.cell? ⟨ob, 6, none⟩ = some (.int .i64 Df) := HB.out.2.1.cell 6
      go_wp2_with (go_at_call 14; fail)
      refine hd1.mono ?_
      rintro e w2 ⟨rfl, hx⟩
      obtain ⟨G', hg', hbs', hbm', hbk', hno'⟩ := hx.out
      have HM : Hid (BM w w2 G' H (2 * i + 1) v gs (trOf ⟨0, Ds, Db, De, (zp : Int), Dq, Df⟩)) := hbm'
      have HE : Hid (G'.g = G.g ∧ G'.bs = G.bs ++ [false]) := ⟨hg'.trans HB.out.1.eg.symm, hbs'⟩
      have HL : Hid (BLp w W0 G H g h i v gs) := HB.out.1
      have HBk : Hid (Blk w2 ob 36 #[.int .i64 0, .int .i64 Ds, .int .i64 Db, .int .i64 De, .int .i64 (zp : Int), .int .i64 Dq, .int .i64 Df]) := hbk'
      clear hx hg' hbs' hbm' hbk' hno' hd1 HB c0 c1 c2 c3 c4 c5 c6
      have HD2 : Hid (Calls Try.prog 14 #[.pointer (some ⟨h, 0, none⟩), .agg #[.int .i64 0, .int .i64 Ds, .int .i64 Db, .int .i64 De, .int .i64 (zp : Int), .int .i64 Dq, .int .i64 Df], .int .i64 0] w2 fun e w' => e = .returned (.tuple #[.int .i64 1, .bool true]) ∧ Hid (∃ H', H'.g = h ∧ BI w w' G' H' (2 * i + 1 + 1) v gs gs)) := by
        have hh := does_second (⟨0, Ds, Db, De, (zp : Int), Dq, Df⟩ : Dd) HOK.out rfl ⟨zp, rfl, hpl⟩ HM.out (by omega)
        rw [HL.out.eh] at hh
        exact hh
      have hor : (i < len1 ∧ f i = true) ∨ (i < len1 ∧ f i = false) ∨ ¬ i < len1 := by
        by_cases h1 : i < len1
        · cases hf : f i
          · exact .inr (.inl ⟨h1, rfl⟩)
          · exact .inl ⟨h1, rfl⟩
        · exact .inr (.inr h1)
      rcases hor with ⟨hb1, hf⟩ | hor
      · as_aux_lemma =>
        rcases HS1.out.below HM.out.a.lv.bel with h0 | ⟨tb, toff, rfl, htc⟩
        · omega
        have htc' := htc i hb1
        rw [hf] at htc'
        clear htc hf HD2 HBk
        have hb1' : (i : Int) < (len1 : Int) := by omega
        go_upto_region 19 with fail
        rename_i K19 hK19
        obtain ⟨k, hk, _, _⟩ := HM.out.rel2
        have hki : k = i := by
          have h1 := HM.out.eq
          rw [HE.out.2, List.length_append, HL.out.bl] at h1
          simp only [List.length_cons, List.length_nil] at h1
          omega
        subst hki
        have hbl := (Below.refl _ w2).alloc (Nat.le_refl _) (.cells #[.int .i64 ((k : Int) + 1)] 3)
        obtain ⟨v', W4, hr, hbi⟩ := (HM.out.below hbl).gone hk (by have := HL.out.gl; omega) 45 (ob := w2.heap.size) ⟨3, Blk.new _ _ _⟩ HM.out.a.lv.bel.size ⟨fun ho => (by have := HM.out.a.lv.at'.lt ho; omega), fun ho => (by have := HM.out.b.lv.at'.lt ho; omega)⟩
        have HF : Hid (BLp w W4 G' H g h (k + 1) v' (k :: gs)) := HL.out.next1 HE.out.1 rfl HE.out.2 hbi.same (.inr rfl)
        clear hbi hbl HM HL HE hk htc'
        refine wp_region_lit ?_
        refine wpList_runTo rfl (some 78) rfl (.int .i64 ((k : Int) + 1)) w2 (by kernel_rfl) ?_
        simp only [Act.put, List.setIfInBounds_toArray, List.set_cons_zero, List.set_cons_succ]
        refine wpList_runTo rfl (some 79) rfl (.slice (some ⟨w2.heap.size, 0, none⟩) 1 1) (w2.alloc (.cells #[.int .i64 ((k : Int) + 1)] 3)) (by kernel_rfl) ?_
        simp only [Act.put, List.setIfInBounds_toArray, List.set_cons_zero, List.set_cons_succ]
        refine wpList_runTo rfl (some 80) rfl (v) (w2.alloc (.cells #[.int .i64 ((k : Int) + 1)] 3)) (by kernel_rfl) ?_
        simp only [Act.put, List.setIfInBounds_toArray, List.set_cons_zero, List.set_cons_succ]
        refine wpList_plain rfl fun K11 hK11 => ?_
        refine valR (d := some 81) rfl v' (exec_append (v1 := .slice (some ⟨w2.heap.size, 0, none⟩) 1 1) (v2 := v) (.tmp 79) (.tmp 80) rfl (by kernel_rfl) (by kernel_rfl) hr) ?_
        refine hK11 _ _ ?_
        simp only [Act.put, List.setIfInBounds_toArray, List.set_cons_zero, List.set_cons_succ]
        refine wpList_runTo rfl (some 9) rfl (v') W4 (by kernel_rfl) ?_
        simp only [Act.put, List.setIfInBounds_toArray, List.set_cons_zero, List.set_cons_succ]
        refine wpList_nil ?_
        refine hK19 _ _ ?_
        clear hK19 hK11 hr
        go_wp2
        exact ⟨⟨k + 1, G', H, k :: gs, v', rfl, by omega, by omega, by go_num, by go_num, HF⟩, by simp [intOf]; omega⟩
      · have c0 : w2.cell? ⟨ob, 0, none⟩ = some (.int .i64 0) := HBk.out.cell 0
        have c1 : w2.cell? ⟨ob, 1, none⟩ = some (.int .i64 Ds) := HBk.out.cell 1
        have c2 : w2.cell? ⟨ob, 2, none⟩ = some (.int .i64 Db) := HBk.out.cell 2
        have c3 : w2.cell? ⟨ob, 3, none⟩ = some (.int .i64 De) := HBk.out.cell 3
        have c4 : w2.cell? ⟨ob, 4, none⟩ = some (.int .i64 (zp : Int)) := HBk.out.cell 4
        have c5 : w2.cell? ⟨ob, 5, none⟩ = some (.int .i64 Dq) := HBk.out.cell 5
        have c6 : w2.cell? ⟨ob, 6, none⟩ = some (.int .i64 Df) := HBk.out.cell 6
        have hd2 := HD2.out
        clear HBk HD2
        rcases hor with ⟨hb1, hf⟩ | hb1
        · as_aux_lemma =>
          rcases HS1.out.below HM.out.a.lv.bel with h0 | ⟨tb, toff, rfl, htc⟩
          · omega
          have htc' := htc i hb1
          rw [hf] at htc'
          clear htc hf HM
          have hb1' : (i : Int) < (len1 : Int) := by omega
          go_wp2_with (go_at_call 14; fail)
          refine hd2.mono ?_
          rintro e w3 ⟨rfl, hx⟩
          obtain ⟨H', hh', hbi'⟩ := hx.out
          have HF : Hid (BLp w w3 G' H' g h (i + 1) v gs) := HL.out.next1 HE.out.1 (hh'.trans HL.out.eh.symm) HE.out.2 hbi' (.inl rfl)
          clear hx hh' hbi' hd2 HL HE c0 c1 c2 c3 c4 c5 c6
          go_wp2
          exact ⟨⟨i + 1, G', H', gs, v, rfl, by omega, by omega, by go_num, by go_num, HF⟩, by simp [intOf]; omega⟩
        · as_aux_lemma =>
          have hb1' : ¬ (i : Int) < (len1 : Int) := by omega
          clear HM
          go_wp2_with (go_at_call 14; fail)
          refine hd2.mono ?_
          rintro e w3 ⟨rfl, hx⟩
          obtain ⟨H', hh', hbi'⟩ := hx.out
          have HF : Hid (BLp w w3 G' H' g h (i + 1) v gs) := HL.out.next1 HE.out.1 (hh'.trans HL.out.eh.symm) HE.out.2 hbi' (.inl rfl)
          clear hx hh' hbi' hd2 HL HE c0 c1 c2 c3 c4 c5 c6
          go_wp2
          exact ⟨⟨i + 1, G', H', gs, v, rfl, by omega, by omega, by go_num, by go_num, HF⟩, by simp [intOf]; omega⟩
    · as_aux_lemma =>
      clear HS HS1
      have hor : (i < len0 ∧ i = 200) ∨ ¬ i < len0 := by omega
      clear hlt
      rcases hor with ⟨hl1, hi2⟩ | hl1
      · as_aux_lemma =>
        have hl1' : (i : Int) < (len0 : Int) := by omega
        have hl1'' : ¬ (i : Int) < 200 := by omega
        obtain ⟨ao, cap, hv⟩ := HR.out.bi.at'.form
        subst hv
        have HP : Hid (G.g = g ∧ H.g = h ∧ BP w wr G H (2 * i) (.slice ao gs.length cap) gs (gs.drop 0)) := ⟨HR.out.eg, HR.out.eh, HR.out.bp⟩
        have hgl := HR.out.gl
        clear HR
        generalize hNn : gs.length = N at *
        have HNn : Hid (gs.length = N) := hNn
        clear hNn
        go_wp2
        go_loopw [14] (fun x wr => ∃ (j : Nat) (G : Lg), j ≤ N ∧ x = .int .i64 j ∧ Hid (G.g = g ∧ H.g = h ∧ BP w wr G H (2 * i + j) (.slice ao N cap) gs (gs.drop j))) (fun x _ => N - (intOf x).toNat)
        case atStart => exact ⟨0, G, by omega, rfl, HP⟩
        case round => as_aux_lemma =>
          clear HP
          obtain ⟨j, G, hj, rfl, HJ⟩ := hrel
          by_cases hjl : j < N
          · as_aux_lemma =>
            have hjl' : (j : Int) < (N : Int) := by omega
            have hjg : j < gs.length := by have := HNn.out; omega
            obtain ⟨k, hk⟩ : ∃ k, gs[j]? = some k := ⟨gs[j]'hjg, List.getElem?_eq_getElem hjg⟩
            have HK : Hid (gs[j]? = some k) := hk
            have hdrop : gs.drop j = k :: gs.drop (j + 1) := by
              obtain ⟨h1, h2⟩ := List.getElem?_eq_some_iff.1 hk
              rw [List.drop_eq_getElem_cons h1, h2]
            clear hk
            obtain ⟨lg, lo, rfl⟩ := HJ.out.2.2.bi.at'.some (by intro e; rw [e] at hjg; simp at hjg)
            have c0 := HJ.out.2.2.bi.at'.cell HK.out
            have hbk := (show BP w wr G H (2 * i + j) (.slice (some ⟨lg, lo, none⟩) N cap) gs (k :: gs.drop (j + 1)) from hdrop ▸ HJ.out.2.2).back (by omega)
            rw [HJ.out.1] at hbk
            have HEg : Hid (G.g = g ∧ H.g = h) := ⟨HJ.out.1, HJ.out.2.1⟩
            clear HJ hdrop hjg
            go_wp2_with (go_at_call 12; fail)
            refine hbk.mono ?_
            rintro e w2 ⟨rfl, hx⟩
            obtain ⟨G', hg', hbp', htr', hln'⟩ := hx.out
            have HF : Hid (G'.g = g ∧ H.g = h ∧ BP w w2 G' H (2 * i + (j + 1)) (.slice (some ⟨lg, lo, none⟩) N cap) gs (gs.drop (j + 1))) := ⟨hg', HEg.out.2, hbp'⟩
            have c1 := hbp'.bi.at'.cell HK.out
            have hgo := Break_gone k hbp'.bi.a.lv.at' htr' hln'
            rw [hg'] at hgo
            clear hx hg' hbp' htr' hln' hbk c0
            go_wp2_with (go_at_call 12; fail)
            refine hgo.mono ?_
            rintro e w3 ⟨rfl, ew⟩
            replace ew := ew.symm
            subst ew
            clear hgo c1
            go_wp2
            exact ⟨⟨j + 1, G', by omega, by go_num, HF⟩, by simp [intOf]; omega⟩
          · as_aux_lemma =>
            have hjN : ¬ (j : Int) < (N : Int) := by omega
            have hlast : gs.drop j = [] := List.drop_eq_nil_of_le (by have := HNn.out; omega)
            have HB : Hid (G.g = g ∧ H.g = h ∧ BI w wr G H (2 * i + j) (.slice ao N cap) gs []) := ⟨HJ.out.1, HJ.out.2.1, hlast ▸ HJ.out.2.2.bi⟩
            clear HJ hlast
            have hn1 := Net_any G wr HB.out.2.2.a.lv.at' (by have := HB.out.2.2.a.bd.lt; omega)
            rw [HB.out.1] at hn1
            go_wp2_with (go_at_call 18; fail)
            refine hn1.mono ?_
            rintro e W1 ⟨va, na, rfl, HN1⟩
            clear hn1
            have hn2 := Net_any H W1 (HB.out.2.2.b.lv.at'.below HN1.out.bel) (by have := HB.out.2.2.b.bd.lt; omega)
            rw [HB.out.2.1] at hn2
            go_wp2_with (go_at_call 18; fail)
            refine hn2.mono ?_
            rintro e W2 ⟨vb, nb, rfl, HN2⟩
            have he : na = nb := net_eq (T := H.T) (HN1.out.perm.trans (HB.out.2.2.rel.perm HB.out.2.2.a.zs HB.out.2.2.b.zs)) HN2.out.perm HB.out.2.2.b.zs.1 HN1.out.sorted HN2.out.sorted
            subst he
            have HT : Hid (Below w.heap.size w W2 ∧ RowAt W2 42 5 va na.length (flatL Bk.cl na) ∧ RowAt W2 42 5 vb na.length (flatL Bk.cl na)) := ⟨below_step (below_step HB.out.2.2.a.lv.bel HN1.out.bel) HN2.out.bel, HN1.out.row.fr (Fr.of_below HN2.out.bel (fun _ => False)) fun _ _ => id, HN2.out.row⟩
            have hnl : na.length ≤ 1000000 := by rw [HN2.out.perm.length_eq]; have := HB.out.2.2.b.bd.lt; omega
            clear hn2 HN1 HN2 HB
            obtain ⟨no, nc, hva, _⟩ := HT.out.2.1.form
            obtain ⟨mo, mc, hvb, _⟩ := HT.out.2.2.form
            subst hva hvb
            generalize hMn : na.length = M at *
            have HMn : Hid (na.length = M) := hMn
            clear hMn
            go_wp2
            go_loopw [19] (fun x wr => ∃ k : Nat, k ≤ M ∧ x = .int .i64 k ∧ Hid (Below w.heap.size w wr ∧ RowAt wr 42 5 (.slice no M nc) na.length (flatL Bk.cl na) ∧ RowAt wr 42 5 (.slice mo M mc) na.length (flatL Bk.cl na))) (fun x _ => M - (intOf x).toNat)
            case atStart => exact ⟨0, by omega, rfl, by rw [HMn.out]; exact HT⟩
            case round => as_aux_lemma =>
              clear HT
              obtain ⟨k, hk, rfl, HK⟩ := hrel
              by_cases hkl : k < M
              · as_aux_lemma =>
                have hkl' : (k : Int) < (M : Int) := by omega
                obtain ⟨lg, lo, cap2, _, hv2, _⟩ := HK.out.2.1.more (by have h1 := HMn.out; omega)
                injection hv2 with e1 e0 e2
                clear e0
                subst e1 e2
                obtain ⟨kg, ko, cap3, _, hv3, _⟩ := HK.out.2.2.more (by have h1 := HMn.out; omega)
                injection hv3 with e1 e0 e2
                clear e0
                subst e1 e2
                obtain ⟨x, hx⟩ : ∃ x, na[k]? = some x := ⟨na[k]'(by have h1 := HMn.out; omega), List.getElem?_eq_getElem (by have h1 := HMn.out; omega)⟩
                obtain ⟨n0, n1, n2, n3, n4⟩ := bk_cells HK.out.2.1 HMn.out hx
                obtain ⟨m0, m1, m2, m3, m4⟩ := bk_cells HK.out.2.2 HMn.out hx
                have HF : Hid (∀ q, Below w.heap.size w (wr.drewN q) ∧ RowAt (wr.drewN q) 42 5 (.slice (some ⟨lg, lo, none⟩) M nc) na.length (flatL Bk.cl na) ∧ RowAt (wr.drewN q) 42 5 (.slice (some ⟨kg, ko, none⟩) M mc) na.length (flatL Bk.cl na)) := fun q => ⟨below_drewN HK.out.1 q, HK.out.2.1.fr (Fr.of_below (below_drewN (Below.refl _ wr) q) (fun _ => False)) fun _ _ => id, HK.out.2.2.fr (Fr.of_below (below_drewN (Below.refl _ wr) q) (fun _ => False)) fun _ _ => id⟩
                clear hx HK
                obtain ⟨x0, x1, x2, x3, x4⟩ := x
                simp only at n0 n1 n2 n3 n4 m0 m1 m2 m3 m4
                have s0 : (x0.toList == x0.toList) = true := str_self _
                have s1 : (x1.toList == x1.toList) = true := str_self _
                go_upto_region 37 with fail
                go_quiet (fail)
                go_wp2
                exact ⟨⟨k + 1, by omega, by go_num, HF.out _⟩, by simp [intOf]; omega⟩
              · as_aux_lemma =>
                have hkM : ¬ (k : Int) < (M : Int) := by omega
                have HF : Hid (Below w.heap.size w wr) := HK.out.1
                clear HK
                go_wp2
                go_ret
                exact ⟨rfl, HF.out⟩
      · as_aux_lemma =>
        have hl1' : ¬ (i : Int) < (len0 : Int) := by omega
        obtain ⟨ao, cap, hv⟩ := HR.out.bi.at'.form
        subst hv
        have HP : Hid (G.g = g ∧ H.g = h ∧ BP w wr G H (2 * i) (.slice ao gs.length cap) gs (gs.drop 0)) := ⟨HR.out.eg, HR.out.eh, HR.out.bp⟩
        have hgl := HR.out.gl
        clear HR
        generalize hNn : gs.length = N at *
        have HNn : Hid (gs.length = N) := hNn
        clear hNn
        go_wp2
        go_loopw [14] (fun x wr => ∃ (j : Nat) (G : Lg), j ≤ N ∧ x = .int .i64 j ∧ Hid (G.g = g ∧ H.g = h ∧ BP w wr G H (2 * i + j) (.slice ao N cap) gs (gs.drop j))) (fun x _ => N - (intOf x).toNat)
        case atStart => exact ⟨0, G, by omega, rfl, HP⟩
        case round => as_aux_lemma =>
          clear HP
          obtain ⟨j, G, hj, rfl, HJ⟩ := hrel
          by_cases hjl : j < N
          · as_aux_lemma =>
            have hjl' : (j : Int) < (N : Int) := by omega
            have hjg : j < gs.length := by have := HNn.out; omega
            obtain ⟨k, hk⟩ : ∃ k, gs[j]? = some k := ⟨gs[j]'hjg, List.getElem?_eq_getElem hjg⟩
            have HK : Hid (gs[j]? = some k) := hk
            have hdrop : gs.drop j = k :: gs.drop (j + 1) := by
              obtain ⟨h1, h2⟩ := List.getElem?_eq_some_iff.1 hk
              rw [List.drop_eq_getElem_cons h1, h2]
            clear hk
            obtain ⟨lg, lo, rfl⟩ := HJ.out.2.2.bi.at'.some (by intro e; rw [e] at hjg; simp at hjg)
            have c0 := HJ.out.2.2.bi.at'.cell HK.out
            have hbk := (show BP w wr G H (2 * i + j) (.slice (some ⟨lg, lo, none⟩) N cap) gs (k :: gs.drop (j + 1)) from hdrop ▸ HJ.out.2.2).back (by omega)
            rw [HJ.out.1] at hbk
            have HEg : Hid (G.g = g ∧ H.g = h) := ⟨HJ.out.1, HJ.out.2.1⟩
            clear HJ hdrop hjg
            go_wp2_with (go_at_call 12; fail)
            refine hbk.mono ?_
            rintro e w2 ⟨rfl, hx⟩
            obtain ⟨G', hg', hbp', htr', hln'⟩ := hx.out
            have HF : Hid (G'.g = g ∧ H.g = h ∧ BP w w2 G' H (2 * i + (j + 1)) (.slice (some ⟨lg, lo, none⟩) N cap) gs (gs.drop (j + 1))) := ⟨hg', HEg.out.2, hbp'⟩
            have c1 := hbp'.bi.at'.cell HK.out
            have hgo := Break_gone k hbp'.bi.a.lv.at' htr' hln'
            rw [hg'] at hgo
            clear hx hg' hbp' htr' hln' hbk c0
            go_wp2_with (go_at_call 12; fail)
            refine hgo.mono ?_
            rintro e w3 ⟨rfl, ew⟩
            replace ew := ew.symm
            subst ew
            clear hgo c1
            go_wp2
            exact ⟨⟨j + 1, G', by omega, by go_num, HF⟩, by simp [intOf]; omega⟩
          · as_aux_lemma =>
            have hjN : ¬ (j : Int) < (N : Int) := by omega
            have hlast : gs.drop j = [] := List.drop_eq_nil_of_le (by have := HNn.out; omega)
            have HB : Hid (G.g = g ∧ H.g = h ∧ BI w wr G H (2 * i + j) (.slice ao N cap) gs []) := ⟨HJ.out.1, HJ.out.2.1, hlast ▸ HJ.out.2.2.bi⟩
            clear HJ hlast
            have hn1 := Net_any G wr HB.out.2.2.a.lv.at' (by have := HB.out.2.2.a.bd.lt; omega)
            rw [HB.out.1] at hn1
            go_wp2_with (go_at_call 18; fail)
            refine hn1.mono ?_
            rintro e W1 ⟨va, na, rfl, HN1⟩
            clear hn1
            have hn2 := Net_any H W1 (HB.out.2.2.b.lv.at'.below HN1.out.bel) (by have := HB.out.2.2.b.bd.lt; omega)
            rw [HB.out.2.1] at hn2
            go_wp2_with (go_at_call 18; fail)
            refine hn2.mono ?_
            rintro e W2 ⟨vb, nb, rfl, HN2⟩
            have he : na = nb := net_eq (T := H.T) (HN1.out.perm.trans (HB.out.2.2.rel.perm HB.out.2.2.a.zs HB.out.2.2.b.zs)) HN2.out.perm HB.out.2.2.b.zs.1 HN1.out.sorted HN2.out.sorted
            subst he
            have HT : Hid (Below w.heap.size w W2 ∧ RowAt W2 42 5 va na.length (flatL Bk.cl na) ∧ RowAt W2 42 5 vb na.length (flatL Bk.cl na)) := ⟨below_step (below_step HB.out.2.2.a.lv.bel HN1.out.bel) HN2.out.bel, HN1.out.row.fr (Fr.of_below HN2.out.bel (fun _ => False)) fun _ _ => id, HN2.out.row⟩
            have hnl : na.length ≤ 1000000 := by rw [HN2.out.perm.length_eq]; have := HB.out.2.2.b.bd.lt; omega
            clear hn2 HN1 HN2 HB
            obtain ⟨no, nc, hva, _⟩ := HT.out.2.1.form
            obtain ⟨mo, mc, hvb, _⟩ := HT.out.2.2.form
            subst hva hvb
            generalize hMn : na.length = M at *
            have HMn : Hid (na.length = M) := hMn
            clear hMn
            go_wp2
            go_loopw [19] (fun x wr => ∃ k : Nat, k ≤ M ∧ x = .int .i64 k ∧ Hid (Below w.heap.size w wr ∧ RowAt wr 42 5 (.slice no M nc) na.length (flatL Bk.cl na) ∧ RowAt wr 42 5 (.slice mo M mc) na.length (flatL Bk.cl na))) (fun x _ => M - (intOf x).toNat)
            case atStart => exact ⟨0, by omega, rfl, by rw [HMn.out]; exact HT⟩
            case round => as_aux_lemma =>
              clear HT
              obtain ⟨k, hk, rfl, HK⟩ := hrel
              by_cases hkl : k < M
              · as_aux_lemma =>
                have hkl' : (k : Int) < (M : Int) := by omega
                obtain ⟨lg, lo, cap2, _, hv2, _⟩ := HK.out.2.1.more (by have h1 := HMn.out; omega)
                injection hv2 with e1 e0 e2
                clear e0
                subst e1 e2
                obtain ⟨kg, ko, cap3, _, hv3, _⟩ := HK.out.2.2.more (by have h1 := HMn.out; omega)
                injection hv3 with e1 e0 e2
                clear e0
                subst e1 e2
                obtain ⟨x, hx⟩ : ∃ x, na[k]? = some x := ⟨na[k]'(by have h1 := HMn.out; omega), List.getElem?_eq_getElem (by have h1 := HMn.out; omega)⟩
                obtain ⟨n0, n1, n2, n3, n4⟩ := bk_cells HK.out.2.1 HMn.out hx
                obtain ⟨m0, m1, m2, m3, m4⟩ := bk_cells HK.out.2.2 HMn.out hx
                have HF : Hid (∀ q, Below w.heap.size w (wr.drewN q) ∧ RowAt (wr.drewN q) 42 5 (.slice (some ⟨lg, lo, none⟩) M nc) na.length (flatL Bk.cl na) ∧ RowAt (wr.drewN q) 42 5 (.slice (some ⟨kg, ko, none⟩) M mc) na.length (flatL Bk.cl na)) := fun q => ⟨below_drewN HK.out.1 q, HK.out.2.1.fr (Fr.of_below (below_drewN (Below.refl _ wr) q) (fun _ => False)) fun _ _ => id, HK.out.2.2.fr (Fr.of_below (below_drewN (Below.refl _ wr) q) (fun _ => False)) fun _ _ => id⟩
                clear hx HK
                obtain ⟨x0, x1, x2, x3, x4⟩ := x
                simp only at n0 n1 n2 n3 n4 m0 m1 m2 m3 m4
                have s0 : (x0.toList == x0.toList) = true := str_self _
                have s1 : (x1.toList == x1.toList) = true := str_self _
                go_upto_region 37 with fail
                go_quiet (fail)
                go_wp2
                exact ⟨⟨k + 1, by omega, by go_num, HF.out _⟩, by simp [intOf]; omega⟩
              · as_aux_lemma =>
                have hkM : ¬ (k : Int) < (M : Int) := by omega
                have HF : Hid (Below w.heap.size w wr) := HK.out.1
                clear HK
                go_wp2
                go_ret
                exact ⟨rfl, HF.out⟩
end Go.Proofs.Ytidhahooebepfaa
