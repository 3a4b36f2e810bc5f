/-
  fix: FixMisses' walk.
-/
import Derived.Test.YtchkpggdndnpjaaGreatDoorG48
import Derived.Test.YtchkpggdndnpjaaGreatDoorFxPick
import Derived.Test.YtchkpggdndnpjaaGreatDoorG49
namespace Go.Proofs.YtchkpggdndnpjaaGreatDoor
set_option linter.unusedVariables false
set_option linter.unusedSimpArgs false
open Go.RowKit Go.Great

theorem wpList_appG {w : World} {ops : Array Oper} {rest : List Oper} {o : Oper} {a : Act} {Q : Exit → Act → World → Prop} (hgd : o.guard = none) (s x : Operand) (ho : o.op = .call { callee := .builtin .append, args := #[s, x], argTypes := #[39, 39] })
    (B : Nat) (v : Value) (L : List Fld) (hs : a.eval s = v) (hown : OwnF w B v L) (ad : Addr) (n cap : Nat) (P : List Fld) (hn : n = P.length) (hx : a.eval x = .slice (some ad) n cap)
    (hc : ∀ j u, (fcs P)[j]? = some u → w.cell? (ad.add j) = some u) (hb : L.length + P.length ≤ 4096) (hB : B ≤ w.heap.size) (d : Option Tmp) (hd : o.dst = d) (N : Nat) (hN : N = L.length + P.length)
    (h : ∀ av c w', OwnF w' B (.slice av N c) (L ++ P) → w.grownBy w' v.ownBlock → Below B w w' → wpList Tryz.prog ops Q rest (a.put d (.slice av N c)) w') : wpList Tryz.prog ops Q (o :: rest) a w := by
  subst hd hn hs hN
  obtain ⟨i0, hi, hz0, hz1, hz2⟩ := info_parts infoF
  refine wpList_append_own _ hgd s x 39 ho B 51 i0 (.agg #[.int .i64 0, .string ⟨#[]⟩]) 2 24 Tryz.underlying39 hi hz0 hz1 hz2 rfl (by decide) _ L.length (fcs L) rfl hown ad P.length cap (fcs P) hx (fcs_length P) hc (fcs_one _) (by unfold maxLen; omega) (by omega) hB ?_
  intro v' w' hown' hgrow' hnil'
  have ho' : OwnF w' B v' (L ++ P) := by
    unfold OwnF
    rw [fcs_app, List.length_append]
    exact hown'
  obtain ⟨a', c', e⟩ := ho'.form
  rw [List.length_append] at e
  subst e
  exact h a' c' w' ho' hgrow' (below_grownBy (Below.refl _ _) hgrow' hB (fun q hq => (hown.lt q hq).1))
theorem wpList_skipG {P : Program} {ops : Array Oper} {rest : List Oper} {o : Oper} {a : Act} {w : World} {Q : Exit → Act → World → Prop} (hw : Region.wanted o (yielded ops a.tmps) = false)
    (h : wpList P ops Q rest (a.put o.dst undef) w) : wpList P ops Q (o :: rest) a w :=
  wpList_step fun K hK => by rw [if_neg (by rw [hw]; exact Bool.false_ne_true)]; exact hK _ _ h
/-- Where the law stands: the message, the field that is left out. -/
structure MS (w wr : World) (g2 gx : Nat) (M : Msg) (xt : Int) (xv : ByteArray) : Prop where
  lm : LM w wr g2 M
  fld : wr.heap[gx]? = some (.cells #[.int .i64 xt, .string xv] 51 (0, 0))
theorem MS.low {w wr w' : World} {g2 gx : Nat} {M : Msg} {xt : Int} {xv : ByteArray} (h : MS w wr g2 gx M xt xv) (hb : Below wr.heap.size wr w') : MS w w' g2 gx M xt xv := ⟨h.lm.low hb, (hb.block gx (Array.getElem?_eq_some_iff.1 h.fld).1).trans h.fld⟩
set_option maxRecDepth 100000 in
set_option maxHeartbeats 4000000 in
theorem FixMisses_law (M : Msg) (c : Int) (w : World) (hz : M.ok) (hc0 : -9223372036854775808 ≤ c) (hc1 : c ≤ 9223372036854775807) (he : Env w) :
    Calls Tryz.prog 7 #[.agg M.cs, .int .i64 c] w fun e w' => e = .returned (.bool true) ∧ Below w.heap.size w w' := by
  have HE : Hid (Env w ∧ M.ok) := ⟨he, hz⟩
  have HO1 : Hid (LM w (w.alloc (.cells M.cs 25)) w.heap.size M) := ⟨heap_alloc_new w _, (Below.refl _ w).alloc (Nat.le_refl _) _⟩
  clear he hz
  go_enter Tryz.func7, Tryz.ntmps7
  go_upto_region 1 with fail
  generalize w.alloc (.cells M.cs 25) = w1 at *
  generalize hcs : M.cs = CS at *
  have Hcs : Hid (M.cs = CS) := hcs
  clear hcs
  go_wp2_with (go_at_call 9; fail)
  refine (shown_any _ (HE.out.1.below HO1.out.below).mon (HE.out.1.below HO1.out.below).pow (HE.out.1.below HO1.out.below).ety).mono ?_
  rintro e w2 ⟨rfl, hb2⟩
  have HO2 : Hid (LM w w2 w.heap.size M) := HO1.out.low hb2
  clear hb2 HO1
  have HG2 : Hid (w.heap.size < w2.heap.size) := HO2.out.msg.lt
  generalize hg2 : w.heap.size = g2 at HO2 HG2 ⊢
  have Hg2 : Hid (w.heap.size = g2) := hg2
  clear hg2
  go_upto_region 2 with fail
  refine wp_region_lit ?_
  refine wpList_loadM HO2.out.msg (.tmp 2) rfl rfl rfl ?_
  simp only [Act.put, List.setIfInBounds_toArray, List.set_cons_zero, List.set_cons_succ]
  rw [Hcs.out]
  have HE3 := HE.out.1.below HO2.out.below
  by_cases hv : valE M = 0
  · obtain ⟨b, hj, hl, hEn⟩ := Encode_ok M w2 HE3.mon HE3.pow HE.out.2 hv
    rw [Hcs.out] at hEn
    have HV : Hid (Vld M) := vld_of hv
    go_wp2_with (go_at_call 13; fail)
    refine hEn.mono ?_
    clear hEn
    rintro e w4 ⟨v, rfl, ho4, hb4⟩
    have HO4 : Hid (LM w w4 g2 M) := HO2.out.low hb4
    have HSp := Split_any v b w4 (by omega) ho4.src (HE.out.1.below HO4.out.below).pow
    rw [join_split hj] at HSp
    have HG4 : Hid (g2 < w4.heap.size) := Nat.lt_of_lt_of_le HG2.out hb4.size
    clear hb4 ho4 HO2 hv HE3 hj hl HG2
    go_wp2_with (go_at_call 14; fail)
    refine HSp.mono ?_
    clear HSp
    rintro e w5 ⟨hb5, u, rfl, ho5⟩
    have HO5 : Hid (LM w w5 g2 M) := HO4.out.low hb5
    obtain ⟨n, hn⟩ : ∃ n, n = (encF M).length := ⟨_, rfl⟩
    have hn3 : 3 ≤ n := by rw [hn]; exact enc_three HV.out
    have hnB : n ≤ 1024 := by rw [hn]; exact (enc_small HV.out).1
    obtain ⟨gl, off, cl, e, hoff, hgl, hcl⟩ : ∃ gl off cl, u = .slice (some ⟨gl, off, none⟩) n cl ∧ off = 0 ∧ w4.heap.size ≤ gl ∧ n ≤ cl := by
      rcases ho5.2 with ⟨_, h0⟩ | ⟨g, cap, cur, e, hb, _, hc, _⟩
      · omega
      · exact ⟨g, 0, cap, by rw [e, hn], rfl, hb, by rw [hn]; exact hc⟩
    subst e
    have HOW : Hid (OwnF w5 w4.heap.size (.slice (some ⟨gl, off, none⟩) n cl) (encF M) ∧ off = 0 ∧ g2 < w4.heap.size ∧ w4.heap.size ≤ gl ∧ gl < w5.heap.size ∧ w4.heap.size ≤ w5.heap.size) := ⟨ho5, hoff, HG4.out, hgl, (ho5.lt gl rfl).2, hb5.size⟩
    generalize w4.heap.size = B4 at *
    have HNn : Hid (n = (encF M).length) := hn
    clear hb5 HO4 ho5 hoff HG4 hgl hn
    have hn3' : ¬ (n : Int) < 3 := by omega
    have HP := pick_any c ((n : Int) - 1) (n - 1) (by omega) w5 (by omega) (by omega) hc0 hc1
    have hq := pickN_lt c (n := n - 1) (by omega)
    generalize pickN c (n - 1) = q at *
    clear hc0 hc1
    go_wp2_with (go_at_call 15; fail)
    refine HP.mono ?_
    clear HP
    rintro e w6 ⟨rfl, ew⟩
    replace ew := ew.symm
    subst ew
    go_upto_region 9 with fail
    obtain ⟨k, hk⟩ : ∃ k, k = 1 + q := ⟨_, rfl⟩
    rw [show (1 : Int) + (q : Int) = (k : Int) by omega]
    have hkn : k < n := by omega
    have hk1 : 1 ≤ k := by omega
    clear hk hq
    obtain ⟨x, hx⟩ : ∃ x, (encF M)[k]? = some x := ⟨_, List.getElem?_eq_getElem (by rw [← HNn.out]; exact hkn)⟩
    have HX : Hid ((encF M)[k]? = some x ∧ 1 ≤ k) := ⟨hx, hk1⟩
    obtain ⟨cc, hjc, hlc, hHas, hdc⟩ := miss_less HV.out hk1 hx
    obtain ⟨dd, hjd, hld, hdd, hrd, htd⟩ := miss_more HV.out hk1 hx
    have HC : Hid (joinL ((encF M).eraseIdx k) = .ok cc ∧ cc.length ≤ 1024 ∧ (hasN (M.z 0) x.1 = 2 → dcL cc = .error (50, n - 1) ∧ whR cc = 1 ∧ whT cc = x.1) ∧ ((∃ e a, dcL cc = .error (e, a)) ∨ ∃ A, dcL cc = .ok A ∧ A.cs ≠ M.cs)) := by
      refine ⟨hjc, hlc, ?_, hdc⟩
      rw [List.length_eraseIdx, if_pos (by rw [← HNn.out]; exact hkn), ← HNn.out] at hHas
      exact hHas
    have HDd : Hid (joinL (encF M ++ [x]) = .ok dd ∧ dd.length ≤ 1024 ∧ dcL dd = .error (51, n) ∧ whR dd = 13 ∧ whT dd = x.1) := by
      rw [← HNn.out] at hdd
      exact ⟨hjd, hld, hdd, hrd, htd⟩
    clear hjc hlc hHas hdc hjd hld hdd hrd htd
    have hcl5 := HOW.out.1.src.cells
    obtain ⟨q0, q1⟩ := fcs_at (encF M) k x hx
    have c0 := hcl5 _ _ q0
    have c1 := hcl5 _ _ q1
    rw [addr_add] at c0 c1
    rw [← Nat.add_assoc] at c1
    clear hcl5 q0 q1 hx
    have hkI : (k : Int) < (n : Int) := by omega
    generalize hxt : x.1 = xt at *
    generalize hxv : bs x.2 = xv at *
    go_upto_region 11 with fail
    have hb6 : Below w5.heap.size w5 (w5.alloc (.cells #[.int .i64 xt, .string xv] 51)) := (Below.refl _ w5).alloc (Nat.le_refl _) _
    have HS6 : Hid (MS w (w5.alloc (.cells #[.int .i64 xt, .string xv] 51)) g2 w5.heap.size M xt xv ∧ OwnF (w5.alloc (.cells #[.int .i64 xt, .string xv] 51)) B4 (.slice (some ⟨gl, off, none⟩) n cl) (encF M) ∧ w5.heap.size < (w5.alloc (.cells #[.int .i64 xt, .string xv] 51)).heap.size) := ⟨⟨HO5.out.low hb6, heap_alloc_new w5 _⟩, HOW.out.1.below hb6, by simp⟩
    have HQ : Hid (off = 0 ∧ g2 < B4 ∧ B4 ≤ gl ∧ gl < w5.heap.size) := ⟨HOW.out.2.1, HOW.out.2.2.1, HOW.out.2.2.2.1, HOW.out.2.2.2.2.1⟩
    generalize w5.alloc (.cells #[.int .i64 xt, .string xv] 51) = w6 at *
    clear hb6 HOW c0 c1 HO5
    generalize w5.heap.size = gx at *
    have HC3 : Hid (∀ j u, (fcs ((encF M).take k))[j]? = some u → w6.cell? ((⟨gl, off, none⟩ : Addr).add j) = some u) := by
      have h := HS6.out.2.1.src.cut 0 k (Nat.zero_le _) (by rw [← HNn.out]; omega) cl (by omega)
      rw [Nat.zero_mul, Nat.add_zero, Nat.sub_zero, List.drop_zero] at h
      exact h.cells
    have HL3 : Hid (k = ((encF M).take k).length) := by show k = _; rw [List.length_take, ← HNn.out]; omega
    go_upto_region 12 with (at_builtin; refine wpList_appF rfl _ _ rfl w6.heap.size _ [] rfl (OwnF.nil _ _) ⟨gl, off, none⟩ k cl ((encF M).take k) HL3.out rfl HC3.out (by rw [← HL3.out]; simp; omega) (Nat.le_refl _) _ rfl k (by rw [← HL3.out]; simp) ?_; intro a7 c7 w7 ho7 hb7)
    have HS7 : Hid (MS w w7 g2 gx M xt xv ∧ OwnF w7 B4 (.slice (some ⟨gl, off, none⟩) n cl) (encF M) ∧ OwnF w7 w6.heap.size (.slice a7 k c7) ((encF M).take k) ∧ w6.heap.size ≤ w7.heap.size ∧ gx < w6.heap.size) := ⟨HS6.out.1.low hb7, HS6.out.2.1.below hb7, ho7, hb7.size, HS6.out.2.2⟩
    clear ho7 hb7 HS6 HC3
    generalize w6.heap.size = B6 at *
    obtain ⟨o4, hif4, hc4⟩ : ∃ o4, (if cl = k + 1 then some (⟨gl, off, none⟩ : Addr) else some ⟨gl, off + (k + 1) * 2, none⟩) = some ⟨gl, o4, none⟩ ∧ ∀ j u, (fcs ((encF M).drop (k + 1)))[j]? = some u → w7.cell? ((⟨gl, o4, none⟩ : Addr).add j) = some u := by
      by_cases hc : cl = k + 1
      · refine ⟨off, by rw [if_pos hc], fun j u h => ?_⟩
        rw [List.drop_eq_nil_of_le (by have := HNn.out; omega)] at h
        simp [fcs] at h
      · refine ⟨off + (k + 1) * 2, by rw [if_neg hc], ?_⟩
        have h := HS7.out.2.1.src.cut (k + 1) n (by omega) (by have := HNn.out; omega) (cl - (k + 1)) (by omega)
        rw [List.take_of_length_le (by have := HNn.out; omega)] at h
        exact h.cells
    have HC4 : Hid (∀ j u, (fcs ((encF M).drop (k + 1)))[j]? = some u → w7.cell? ((⟨gl, o4, none⟩ : Addr).add j) = some u) := hc4
    have HL4 : Hid (n - (k + 1) = ((encF M).drop (k + 1)).length) := by show _ = _; rw [List.length_drop, ← HNn.out]
    clear hc4
    go_upto_region 13 with (at_builtin; refine wpList_appF rfl _ _ rfl B6 _ ((encF M).take k) rfl HS7.out.2.2.1 ⟨gl, o4, none⟩ (n - (k + 1)) (cl - (k + 1)) ((encF M).drop (k + 1)) HL4.out rfl HC4.out (by rw [← HL3.out, ← HL4.out]; omega) HS7.out.2.2.2.1 _ rfl (n - 1) (by rw [← HL3.out, ← HL4.out]; omega) ?_; intro a8 c8 w8 ho8 hb8)
    rw [← List.eraseIdx_eq_take_drop_succ] at ho8
    have HS8 : Hid (MS w w8 g2 gx M xt xv ∧ OwnF w8 B4 (.slice (some ⟨gl, off, none⟩) n cl) (encF M) ∧ OwnF w8 B6 (.slice a8 (n - 1) c8) ((encF M).eraseIdx k) ∧ gx < w8.heap.size) := by
      have hgB : gx < B6 := HS7.out.2.2.2.2
      have hglB : gl < B6 := Nat.lt_trans HQ.out.2.2.2 hgB
      refine ⟨⟨⟨(hb8.block g2 (by have := HQ.out; omega)).trans HS7.out.1.lm.msg, HS7.out.1.lm.below.trans (hb8.mono ?_)⟩, (hb8.block gx hgB).trans HS7.out.1.fld⟩, ?_, ho8, Nat.lt_of_lt_of_le (Nat.lt_of_lt_of_le hgB HS7.out.2.2.2.1) hb8.size⟩
      · have := HQ.out; have := Hg2.out; omega
      · obtain ⟨h1, h2⟩ := HS7.out.2.1
        refine ⟨h1, ?_⟩
        rcases h2 with h2 | ⟨g, cap, cur, e, hb, hg, rest⟩
        · exact .inl h2
        · injection e with e0 e1 e2
          injection e0 with e0
          injection e0 with e0 e00
          exact .inr ⟨g, cap, cur, by rw [e0, e00, e1, e2], hb, (hb8.block g (by omega)).trans hg, rest⟩
    clear ho8 hb8 HS7 HC4 hif4 HL3 HL4
    have HEr := HE.out.1.below HS8.out.1.lm.below
    have HJ := Join_any (.slice a8 (n - 1) c8) ((encF M).eraseIdx k) w8 HS8.out.2.2.1.src HEr.pow (fun f hf => enc_okT HV.out f (List.mem_of_mem_eraseIdx hf)) (by have := (enc_small HV.out).2; have := body_erase (encF M) k; omega) (by have := HNn.out; rw [List.length_eraseIdx]; split <;> omega)
    rw [HC.out.1] at HJ
    clear HEr
    go_wp2_with (go_at_call 17; fail)
    refine HJ.mono ?_
    clear HJ
    rintro e w9 ⟨hb9, v9, rfl, ho9⟩
    have HS9 : Hid (MS w w9 g2 gx M xt xv ∧ OwnF w9 B4 (.slice (some ⟨gl, off, none⟩) n cl) (encF M) ∧ OwnB w9 w8.heap.size v9 cc ∧ gx < w8.heap.size) := ⟨HS8.out.1.low hb9, HS8.out.2.1.below hb9, ho9, HS8.out.2.2.2⟩
    obtain ⟨av, cv, rfl⟩ := ho9.form
    clear ho9 hb9 HS8
    generalize w8.heap.size = B8 at *
    obtain ⟨m, hm⟩ : ∃ m, m = cc.length := ⟨_, rfl⟩
    rw [← hm] at HS9 ⊢
    have Hm : Hid (m = cc.length) := hm
    clear hm
    have d0 : w9.cell? ⟨gx, 0, none⟩ = some (.int .i64 xt) := cell_of_row _ _ _ _ _ _ HS9.out.1.fld
    have d1 : w9.cell? ⟨gx, 1, none⟩ = some (.string xv) := cell_of_row _ _ _ _ _ _ HS9.out.1.fld
    have hba : Below w9.heap.size w9 (w9.alloc (.cells #[.int .i64 xt, .string xv] 51)) := (Below.refl _ w9).alloc (Nat.le_refl _) _
    have HC7 : Hid (∀ k u, (fcs [x])[k]? = some u → (w9.alloc (.cells #[.int .i64 xt, .string xv] 51)).cell? ((⟨w9.heap.size, 0, none⟩ : Addr).add k) = some u) := fun k u hk => by
      rw [addr_add, Nat.zero_add, cell_of_row _ _ _ _ _ _ (heap_alloc_new w9 _), ← hxt, ← hxv]
      have e : fcs [x] = [.int .i64 x.1, .string (bs x.2)] := rfl
      rw [e] at hk
      simpa using hk
    have HO7 : Hid (OwnF (w9.alloc (.cells #[.int .i64 xt, .string xv] 51)) B4 (.slice (some ⟨gl, off, none⟩) n cl) (encF M) ∧ B4 ≤ (w9.alloc (.cells #[.int .i64 xt, .string xv] 51)).heap.size) := ⟨HS9.out.2.1.below hba, by have := (HS9.out.2.1.lt gl rfl).2; have := HQ.out; have := hba.size; omega⟩
    go_upto_region 15 with (at_builtin; refine wpList_appG rfl _ _ rfl B4 _ (encF M) rfl HO7.out.1 ⟨w9.heap.size, 0, none⟩ 1 1 [x] rfl rfl HC7.out (by rw [← HNn.out]; simp; omega) HO7.out.2 _ rfl (n + 1) (by rw [← HNn.out]; rfl) ?_; intro a10 c10 w10 ho10 hg10 hb10)
    have HS10 : Hid (MS w w10 g2 gx M xt xv ∧ OwnF w10 B4 (.slice a10 (n + 1) c10) (encF M ++ [x]) ∧ SrcB w10 (.slice av m cv) cc) := by
      have hgl : gl < gx := HQ.out.2.2.2
      have h9 := HS9.out.1.low hba
      have hx9 : gx < (w9.alloc (.cells #[.int .i64 xt, .string xv] 51)).heap.size := (Array.getElem?_eq_some_iff.1 h9.fld).1
      refine ⟨⟨⟨?_, ?_⟩, ?_⟩, ho10, ?_⟩
      · exact (hg10.block g2 h9.lm.msg.lt (fun e => by injection e with e'; have e2 : g2 = gl := e'; have := HQ.out; omega)).trans h9.lm.msg
      · exact h9.lm.below.trans (hb10.mono (by have := HQ.out; have := Hg2.out; omega))
      · exact (hg10.block gx hx9 (fun e => by injection e with e'; have e2 : gx = gl := e'; omega)).trans h9.fld
      · have ho := HS9.out.2.2.1.below hba
        refine OwnB.src (B := B8) ?_
        unfold OwnB at ho ⊢
        refine ho.kept hg10 ?_
        rcases ho.2 with ⟨e, _⟩ | ⟨g, cap, cur, e, hb, _⟩
        · left; rw [e]; rfl
        · right
          rw [e]
          have := HS9.out.2.2.2
          intro q
          injection q with q'
          have q2 : g = gl := q'
          omega
    clear ho10 hg10 hb10 HO7 HC7 hba d0 d1 HS9 HQ
    have HEr := HE.out.1.below HS10.out.1.lm.below
    have HJ := Join_any (.slice a10 (n + 1) c10) (encF M ++ [x]) w10 HS10.out.2.1.src HEr.pow (fun f hf => enc_okT HV.out f (by rcases List.mem_append.1 hf with q | q; exact q; rw [List.mem_singleton.1 q]; exact List.mem_of_getElem? HX.out.1)) (by
      rw [body_app, List.length_append]
      have h1 := enc_len HV.out
      have h2 := fld_len HV.out (List.mem_of_getElem? HX.out.1)
      simp only [bodyB, List.flatMap_cons, List.flatMap_nil, List.append_nil] at h1 ⊢
      omega) (by rw [List.length_append, ← HNn.out]; simp; omega)
    rw [HDd.out.1] at HJ
    clear HEr
    go_wp2_with (go_at_call 17; fail)
    refine HJ.mono ?_
    clear HJ
    rintro e w11 ⟨hb11, v11, rfl, ho11⟩
    have HS11 : Hid (MS w w11 g2 gx M xt xv ∧ SrcB w11 (.slice av m cv) cc ∧ SrcB w11 v11 dd) := ⟨HS10.out.1.low hb11, HS10.out.2.2.below hb11, ho11.src⟩
    obtain ⟨ad, cd, rfl⟩ := ho11.form
    clear ho11 hb11 HS10
    obtain ⟨p, hp⟩ : ∃ p, p = dd.length := ⟨_, rfl⟩
    rw [← hp] at HS11 ⊢
    have HPd : Hid (p = dd.length) := hp
    clear hp
    have HEs := HE.out.1.below HS11.out.1.lm.below
    have HD := Decode_any (.slice ad p cd) dd w11 (by have := HDd.out.2.1; omega) HS11.out.2.2 HEs.mon HEs.pow HEs.ety
    rw [HDd.out.2.2.1] at HD
    clear HEs
    go_upto_region 18 with fail
    rename_i K18 hK18
    refine wp_region_lit ?_
    refine wpList_runTo rfl (some 96) rfl (.slice ad p cd) w11 (by kernel_rfl) ?_
    refine wpList_callF rfl (some 97) rfl 10 #[.slice ad p cd] (by kernel_rfl) HD ?_
    clear HD
    rintro e w12 ⟨hb12, gf, -, rfl, hf⟩
    refine ⟨_, rfl, ?_⟩
    refine wpList_runTo rfl (some 95) rfl (.tuple #[.agg zeroM.cs, .iface 56 (.pointer (some ⟨gf, 0, none⟩))]) w12 (by kernel_rfl) ?_
    refine wpList_runTo rfl (some 98) rfl (.agg zeroM.cs) w12 (by kernel_rfl) ?_
    refine wpList_runTo rfl (some 99) rfl (.iface 56 (.pointer (some ⟨gf, 0, none⟩))) w12 (by kernel_rfl) ?_
    refine wpList_runTo rfl (some 18) rfl (.pointer (some ⟨w12.heap.size, 0, none⟩)) (w12.alloc (.cells zeroM.cs 25)) (by kernel_rfl) ?_
    simp only [Act.put, List.setIfInBounds_toArray, List.set_cons_zero, List.set_cons_succ]
    refine wpList_store_row rfl 25 (.tmp 18) (.tmp 98) rfl w12.heap.size zeroM.cs (by rfl) (by rfl) 25 _ (heap_alloc_new w12 _) (by rw [Msg.cs_size]; kernel_rfl) (by simp only [Msg.cs_size]) (Msg.cs_one _) ?_
    refine wpList_runTo rfl (some 19) rfl (.iface 56 (.pointer (some ⟨gf, 0, none⟩))) ((w12.alloc (.cells zeroM.cs 25)).setRow w12.heap.size zeroM.cs) (by kernel_rfl) ?_
    refine wpList_nil ?_
    refine hK18 _ _ ?_
    clear hK18
    simp only [Act.put, List.setIfInBounds_toArray, List.set_cons_zero, List.set_cons_succ]
    have HS13 : Hid (MS w ((w12.alloc (.cells zeroM.cs 25)).setRow w12.heap.size zeroM.cs) g2 gx M xt xv ∧ SrcB ((w12.alloc (.cells zeroM.cs 25)).setRow w12.heap.size zeroM.cs) (.slice av m cv) cc ∧ SrcB ((w12.alloc (.cells zeroM.cs 25)).setRow w12.heap.size zeroM.cs) (.slice ad p cd) dd ∧ FaultAt ((w12.alloc (.cells zeroM.cs 25)).setRow w12.heap.size zeroM.cs) gf 51 n) := ⟨(HS11.out.1.low hb12).low put_below, (HS11.out.2.1.below hb12).below put_below, (HS11.out.2.2.below hb12).below put_below, hf.below put_below (Array.getElem?_eq_some_iff.1 hf).1⟩
    clear hb12 HS11 hf
    generalize (w12.alloc (.cells zeroM.cs 25)).setRow w12.heap.size zeroM.cs = w13 at *
    generalize w12.heap.size = g12 at *
    have HFa := lawFault_at gf 51 n w13 HS13.out.2.2.2 (by decide)
    go_wp2_with (go_at_call 11; fail)
    refine HFa.mono ?_
    clear HFa
    rintro e w14 ⟨rfl, dr, rfl⟩
    have hdr : Below w13.heap.size w13 (w13.drewN dr) := below_drewN (Below.refl _ w13) dr
    have HS14 : Hid (MS w (w13.drewN dr) g2 gx M xt xv ∧ SrcB (w13.drewN dr) (.slice av m cv) cc ∧ SrcB (w13.drewN dr) (.slice ad p cd) dd) := ⟨HS13.out.1.low hdr, HS13.out.2.1.below hdr, HS13.out.2.2.1.below hdr⟩
    clear HS13 hdr
    generalize w13.drewN dr = w14 at *
    have HEs := HE.out.1.below HS14.out.1.lm.below
    have HW := Why_any (.slice ad p cd) dd w14 (by have := HDd.out.2.1; omega) HS14.out.2.2 HEs.mon HEs.pow HEs.ety
    rw [HDd.out.2.2.2.1, HDd.out.2.2.2.2] at HW
    clear HEs
    generalize whM dd = WM at *
    go_upto_region 22 with fail
    rename_i K22 hK22
    refine wp_region_lit ?_
    refine wpList_runTo rfl (some 119) rfl (.slice ad p cd) w14 (by kernel_rfl) ?_
    refine wpList_callF rfl (some 120) rfl 18 #[.slice ad p cd] (by kernel_rfl) HW ?_
    clear HW
    rintro e w15 ⟨rfl, hb15⟩
    refine ⟨_, rfl, ?_⟩
    refine wpList_runTo rfl (some 118) rfl (.tuple #[.int .i64 13, .int .i64 xt, .agg WM.cs]) w15 (by kernel_rfl) ?_
    refine wpList_runTo rfl (some 121) rfl (.int .i64 13) w15 (by kernel_rfl) ?_
    refine wpList_runTo rfl (some 122) rfl (.int .i64 xt) w15 (by kernel_rfl) ?_
    refine wpList_runTo rfl (some 123) rfl (.agg WM.cs) w15 (by kernel_rfl) ?_
    refine wpList_runTo rfl (some 25) rfl (.pointer (some ⟨w15.heap.size, 0, none⟩)) (w15.alloc (.cells zeroM.cs 25)) (by kernel_rfl) ?_
    refine wpList_runTo rfl (some 23) rfl (.int .i64 13) (w15.alloc (.cells zeroM.cs 25)) (by kernel_rfl) ?_
    refine wpList_runTo rfl (some 24) rfl (.int .i64 xt) (w15.alloc (.cells zeroM.cs 25)) (by kernel_rfl) ?_
    simp only [Act.put, List.setIfInBounds_toArray, List.set_cons_zero, List.set_cons_succ]
    refine wpList_store_row rfl 25 (.tmp 25) (.tmp 123) rfl w15.heap.size WM.cs (by rfl) (by rfl) 25 _ (heap_alloc_new w15 _) (by rw [Msg.cs_size]; kernel_rfl) (by simp only [Msg.cs_size]) (Msg.cs_one _) ?_
    refine wpList_nil ?_
    refine hK22 _ _ ?_
    clear hK22
    simp only [Act.put, List.setIfInBounds_toArray, List.set_cons_zero, List.set_cons_succ]
    have HS16 : Hid (MS w ((w15.alloc (.cells zeroM.cs 25)).setRow w15.heap.size WM.cs) g2 gx M xt xv ∧ SrcB ((w15.alloc (.cells zeroM.cs 25)).setRow w15.heap.size WM.cs) (.slice av m cv) cc) := ⟨(HS14.out.1.low hb15).low put_below, (HS14.out.2.1.below hb15).below put_below⟩
    clear hb15 HS14
    generalize (w15.alloc (.cells zeroM.cs 25)).setRow w15.heap.size WM.cs = w16 at *
    generalize w15.heap.size = g15 at *
    have d0 : w16.cell? ⟨gx, 0, none⟩ = some (.int .i64 xt) := cell_of_row _ _ _ _ _ _ HS16.out.1.fld
    have m0 : w16.cell? ⟨g2, 0, none⟩ = some (.int .i64 (M.z 0)) := HS16.out.1.lm.msg.cell 0 (by decide)
    have HH := Has_any (M.z 0) xt w16
    have HHz : Hid (hasN (M.z 0) xt = 2 → dcL cc = .error (50, n - 1) ∧ whR cc = 1 ∧ whT cc = xt) := HC.out.2.2.1
    have HHd : Hid (cc.length ≤ 1024 ∧ ((∃ e a, dcL cc = .error (e, a)) ∨ ∃ A, dcL cc = .ok A ∧ A.cs ≠ M.cs)) := ⟨HC.out.2.1, HC.out.2.2.2⟩
    clear HC HDd
    generalize hasN (M.z 0) xt = hh at *
    go_wp2_with (go_at_call 19; fail)
    refine HH.mono ?_
    clear HH
    rintro e w17 ⟨rfl, hb17⟩
    have HS17 : Hid (MS w w17 g2 gx M xt xv ∧ SrcB w17 (.slice av m cv) cc) := ⟨HS16.out.1.low hb17, HS16.out.2.below hb17⟩
    clear hb17 HS16 d0 m0
    have HEs := HE.out.1.below HS17.out.1.lm.below
    have HD := Decode_any (.slice av m cv) cc w17 (by have := HHd.out.1; omega) HS17.out.2 HEs.mon HEs.pow HEs.ety
    clear HEs
    go_upto_region 26 with fail
    rename_i K26 hK26
    refine wp_region_lit ?_
    refine wpList_runTo rfl (some 138) rfl (.slice av m cv) w17 (by kernel_rfl) ?_
    refine wpList_callF rfl (some 139) rfl 10 #[.slice av m cv] (by kernel_rfl) HD ?_
    clear HD
    rintro e w18 hD
    obtain ⟨A, ev, hxe, HF⟩ : ∃ A ev, e = .returned (.tuple #[.agg (Msg.cs A), ev]) ∧ Hid (Below w17.heap.size w17 w18 ∧ ((ev = .nilIface ∧ A.cs ≠ M.cs ∧ hh ≠ 2) ∨ (A = zeroM ∧ ∃ g e a, ev = .iface 56 (.pointer (some ⟨g, 0, none⟩)) ∧ FaultAt w18 g e a ∧ (hh = 2 → e = 50 ∧ a = n - 1)))) := by
      obtain ⟨hb, h⟩ := hD
      revert h
      cases hd : dcL cc with
      | ok A =>
        rintro rfl
        refine ⟨A, _, rfl, hb, .inl ⟨rfl, ?_, fun q => ?_⟩⟩
        · rcases HHd.out.2 with ⟨e, a, h⟩ | ⟨A', h, hne⟩
          · rw [hd] at h; cases h
          · rw [hd] at h; injection h with h; rw [h]; exact hne
        · have := (HHz.out q).1; rw [hd] at this; cases this
      | error y =>
        obtain ⟨e1, a1⟩ := y
        rintro ⟨g, -, rfl, hf⟩
        refine ⟨zeroM, _, rfl, hb, .inr ⟨rfl, g, e1, a1, rfl, hf, fun q => ?_⟩⟩
        have := (HHz.out q).1
        rw [hd] at this
        injection this with this
        injection this with q1 q2
        exact ⟨q1, q2⟩
    subst hxe
    clear hD
    refine ⟨_, rfl, ?_⟩
    refine wpList_runTo rfl (some 137) rfl (.tuple #[.agg A.cs, ev]) w18 (by kernel_rfl) ?_
    refine wpList_runTo rfl (some 140) rfl (.agg A.cs) w18 (by kernel_rfl) ?_
    refine wpList_runTo rfl (some 141) rfl (ev) w18 (by kernel_rfl) ?_
    refine wpList_runTo rfl (some 27) rfl (.pointer (some ⟨w18.heap.size, 0, none⟩)) (w18.alloc (.cells zeroM.cs 25)) (by kernel_rfl) ?_
    simp only [Act.put, List.setIfInBounds_toArray, List.set_cons_zero, List.set_cons_succ]
    refine wpList_store_row rfl 25 (.tmp 27) (.tmp 140) rfl w18.heap.size A.cs (by rfl) (by rfl) 25 _ (heap_alloc_new w18 _) (by rw [Msg.cs_size]; kernel_rfl) (by simp only [Msg.cs_size]) (Msg.cs_one _) ?_
    refine wpList_runTo rfl (some 28) rfl (ev) ((w18.alloc (.cells zeroM.cs 25)).setRow w18.heap.size A.cs) (by kernel_rfl) ?_
    refine wpList_nil ?_
    refine hK26 _ _ ?_
    clear hK26
    simp only [Act.put, List.setIfInBounds_toArray, List.set_cons_zero, List.set_cons_succ]
    have HS19 : Hid (MS w ((w18.alloc (.cells zeroM.cs 25)).setRow w18.heap.size A.cs) g2 gx M xt xv ∧ SrcB ((w18.alloc (.cells zeroM.cs 25)).setRow w18.heap.size A.cs) (.slice av m cv) cc ∧ OwnM ((w18.alloc (.cells zeroM.cs 25)).setRow w18.heap.size A.cs) w18.heap.size A) := ⟨(HS17.out.1.low HF.out.1).low put_below, (HS17.out.2.below HF.out.1).below put_below, put_own⟩
    have HF2 : Hid ((ev = .nilIface ∧ A.cs ≠ M.cs ∧ hh ≠ 2) ∨ (∃ g e a, ev = .iface 56 (.pointer (some ⟨g, 0, none⟩)) ∧ FaultAt ((w18.alloc (.cells zeroM.cs 25)).setRow w18.heap.size A.cs) g e a ∧ (hh = 2 → e = 50 ∧ a = n - 1))) := by
      rcases HF.out.2 with h | ⟨-, g, e, a, h1, h2, h3⟩
      · exact .inl h
      · exact .inr ⟨g, e, a, h1, h2.below put_below (Array.getElem?_eq_some_iff.1 h2).1, h3⟩
    clear HF HS17
    generalize (w18.alloc (.cells zeroM.cs 25)).setRow w18.heap.size A.cs = w19 at *
    generalize w18.heap.size = g18 at *
    have d0 : w19.cell? ⟨gx, 0, none⟩ = some (.int .i64 xt) := cell_of_row _ _ _ _ _ _ HS19.out.1.fld
    have d1 : w19.cell? ⟨gx, 1, none⟩ = some (.string xv) := cell_of_row _ _ _ _ _ _ HS19.out.1.fld
    by_cases h2 : hh = 2
    · obtain ⟨gf, rfl, hf⟩ : ∃ gf, ev = .iface 56 (.pointer (some ⟨gf, 0, none⟩)) ∧ FaultAt w19 gf 50 (n - 1) := by
        rcases HF2.out with h | ⟨g, e, a, h1, h3, h4⟩
        · exact absurd h2 h.2.2
        · obtain ⟨rfl, rfl⟩ := h4 h2; exact ⟨g, h1, h3⟩
      have HFa := lawFault_at gf 50 (n - 1) w19 hf (by decide)
      have HHq : Hid (whR cc = 1 ∧ whT cc = xt) := (HHz.out h2).2
      clear HF2 HHz hf d0 d1
      subst h2
      go_wp2_with (go_at_call 11; fail)
      refine HFa.mono ?_
      clear HFa
      rintro e w20 ⟨rfl, dr, rfl⟩
      have hdr : Below w19.heap.size w19 (w19.drewN dr) := below_drewN (Below.refl _ w19) dr
      have HS20 : Hid (MS w (w19.drewN dr) g2 gx M xt xv ∧ SrcB (w19.drewN dr) (.slice av m cv) cc) := ⟨HS19.out.1.low hdr, HS19.out.2.1.below hdr⟩
      clear HS19 hdr
      generalize w19.drewN dr = w20 at *
      have HEs := HE.out.1.below HS20.out.1.lm.below
      have HW := Why_any (.slice av m cv) cc w20 (by have := HHd.out.1; omega) HS20.out.2 HEs.mon HEs.pow HEs.ety
      rw [HHq.out.1, HHq.out.2] at HW
      clear HEs
      generalize (whM cc).cs = WC at *
      go_wp2_with (go_at_call 18; fail)
      refine HW.mono ?_
      clear HW
      rintro e w21 ⟨rfl, hb21⟩
      have HS21 : Hid (MS w w21 g2 gx M xt xv) := HS20.out.1.low hb21
      clear HS20 hb21
      have d0 : w21.cell? ⟨gx, 0, none⟩ = some (.int .i64 xt) := cell_of_row _ _ _ _ _ _ HS21.out.fld
      go_wp2
      go_ret
      exact ⟨rfl, HS21.out.lm.below⟩
    · have h2' : (hh == 2) = false := by simpa using h2
      rcases HF2.out with ⟨rfl, hne, -⟩ | ⟨g, e1, a1, rfl, -, -⟩
      · clear HF2 HHz HHd
        go_upto_region 31 with fail
        rename_i K31 hK31
        refine wp_region_lit ?_
        refine wpList_runTo rfl (some 177) rfl (.nilIface) w19 (by kernel_rfl) ?_
        refine wpList_runTo rfl (some 178) rfl (.bool false) w19 (by kernel_rfl) ?_
        refine wpList_runTo rfl (some 179) rfl (.bool false) w19 (by kernel_rfl) ?_
        simp only [Act.put, List.setIfInBounds_toArray, List.set_cons_zero, List.set_cons_succ]
        refine wpList_loadG HS19.out.2.2 (.tmp 27) (by kernel_rfl) rfl rfl ?_
        simp only [Act.put, List.setIfInBounds_toArray, List.set_cons_zero, List.set_cons_succ]
        refine wpList_loadG HS19.out.1.lm.msg (.tmp 2) (by kernel_rfl) rfl rfl ?_
        refine wpList_runToG (by kernel_rfl) (some 182) rfl (.bool true) w19 (by exact neM_run hne (.tmp 180) (.tmp 181) rfl rfl rfl _) ?_
        simp only [Act.put, List.setIfInBounds_toArray, List.set_cons_zero, List.set_cons_succ]
        refine wpList_runTo rfl (some 183) rfl (.bool true) w19 (by kernel_rfl) ?_
        refine wpList_runTo rfl (some 184) rfl (.bool true) w19 (by kernel_rfl) ?_
        refine wpList_skipG (by kernel_rfl) ?_
        simp only [Act.put, List.setIfInBounds_toArray, List.set_cons_zero, List.set_cons_succ]
        refine wpList_skipG (by kernel_rfl) ?_
        simp only [Act.put, List.setIfInBounds_toArray, List.set_cons_zero, List.set_cons_succ]
        refine wpList_skipG (by kernel_rfl) ?_
        simp only [Act.put, List.setIfInBounds_toArray, List.set_cons_zero, List.set_cons_succ]
        refine wpList_runTo rfl (some 188) rfl (.bool true) w19 (by kernel_rfl) ?_
        refine wpList_runTo rfl (some 4) rfl (.bool true) w19 (by kernel_rfl) ?_
        refine wpList_nil ?_
        refine hK31 _ _ ?_
        clear hK31
        simp only [Act.put, List.setIfInBounds_toArray, List.set_cons_zero, List.set_cons_succ]
        go_wp2
        go_ret
        exact ⟨rfl, HS19.out.1.lm.below⟩
      · clear HF2 HHz HHd
        go_upto_region 31 with fail
        rename_i K31 hK31
        refine wp_region_lit ?_
        refine wpList_runTo rfl (some 177) rfl (.iface 56 (.pointer (some ⟨g, 0, none⟩))) w19 (by kernel_rfl) ?_
        refine wpList_runTo rfl (some 178) rfl (.bool true) w19 (by kernel_rfl) ?_
        refine wpList_runTo rfl (some 179) rfl (.bool true) w19 (by kernel_rfl) ?_
        refine wpList_skipG (by kernel_rfl) ?_
        simp only [Act.put, List.setIfInBounds_toArray, List.set_cons_zero, List.set_cons_succ]
        refine wpList_skipG (by kernel_rfl) ?_
        simp only [Act.put, List.setIfInBounds_toArray, List.set_cons_zero, List.set_cons_succ]
        refine wpList_skipG (by kernel_rfl) ?_
        simp only [Act.put, List.setIfInBounds_toArray, List.set_cons_zero, List.set_cons_succ]
        refine wpList_runTo rfl (some 183) rfl (.bool true) w19 (by kernel_rfl) ?_
        refine wpList_runTo rfl (some 184) rfl (.bool true) w19 (by kernel_rfl) ?_
        refine wpList_skipG (by kernel_rfl) ?_
        simp only [Act.put, List.setIfInBounds_toArray, List.set_cons_zero, List.set_cons_succ]
        refine wpList_skipG (by kernel_rfl) ?_
        simp only [Act.put, List.setIfInBounds_toArray, List.set_cons_zero, List.set_cons_succ]
        refine wpList_skipG (by kernel_rfl) ?_
        simp only [Act.put, List.setIfInBounds_toArray, List.set_cons_zero, List.set_cons_succ]
        refine wpList_runTo rfl (some 188) rfl (.bool true) w19 (by kernel_rfl) ?_
        refine wpList_runTo rfl (some 4) rfl (.bool true) w19 (by kernel_rfl) ?_
        refine wpList_nil ?_
        refine hK31 _ _ ?_
        clear hK31
        simp only [Act.put, List.setIfInBounds_toArray, List.set_cons_zero, List.set_cons_succ]
        go_wp2
        go_ret
        exact ⟨rfl, HS19.out.1.lm.below⟩
  · have hEn := Encode_no M w2 HE3.mon HE.out.2 hv
    rw [Hcs.out] at hEn
    have hv1 : (valE M != 0) = true := by simpa using hv
    clear HE3
    generalize valE M = E at *
    generalize valN M = N at *
    clear hv
    go_wp2_with (go_at_call 13; fail)
    refine hEn.mono ?_
    clear hEn
    rintro e w4 ⟨rfl, hb4⟩
    have HO4 : Hid (LM w w4 g2 M) := HO2.out.low hb4
    clear hb4 HO2
    go_wp2
    go_ret
    exact ⟨rfl, HO4.out.below⟩
end Go.Proofs.YtchkpggdndnpjaaGreatDoor
