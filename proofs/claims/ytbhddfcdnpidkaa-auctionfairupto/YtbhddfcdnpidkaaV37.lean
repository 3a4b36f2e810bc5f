/-
  auction: the law of AuctionFair.
-/
import Derived.Test.YtbhddfcdnpidkaaV36
namespace Go.Proofs.Ytbhddfcdnpidkaa
set_option linter.unusedVariables false
set_option linter.unusedSimpArgs false
open Go.RowKit Go.Great
attribute [local irreducible] wpList

theorem lenO_run {op : Oper} {a : Act} {v : Value} {ao : Option Addr} {n c : Nat} (hv : v = .slice ao n c) (x : Operand) (ho : op.op = .call { callee := .builtin .len, args := #[x], argTypes := #[24] }) (hx : a.eval x = v) (w : World) : (execOp a.eval op).run Try.prog w = .ok (.value (.int .i64 (n : Int))) w := by
  subst hv
  unfold execOp
  simp only [ho, resolve, invoke, builtin, Sem.run_bind, Sem.run_pure, Result.andThen_ok, List.map_toArray, List.map_cons, List.map_nil, hx]
  go_simp
theorem remN_run {op : Oper} {a : Act} {p q r : Int} (x y : Operand) (ho : op.op = .binOp .rem 3 x y 3) (hx : a.eval x = .int .i64 p) (hy : a.eval y = .int .i64 q) (hq : 0 < q) (hr : Int.tmod p q = r) (hb : -9223372036854775808 ≤ r ∧ r ≤ 9223372036854775807) (w : World) : (execOp a.eval op).run Try.prog w = .ok (.value (.int .i64 r)) w := by
  have hn0 : ¬ q = 0 := by omega
  have hn1 : ¬ q = -1 := by omega
  have hnb : (q == 0) = false := by simp [hn0]
  have hnc : (q == -1) = false := by simp [hn1]
  have e3 : IntKind.i64.wrap r = r := by rw [IntKind.wrap_i64]; omega
  unfold execOp
  simp only [ho, hx, hy]
  go_simp
  try simp [hn0, hn1, hnb, hnc, hr, e3]
set_option maxRecDepth 100000 in
set_option maxHeartbeats 8000000 in
theorem AuctionFair_law {w : World} {b s : List Rw} {a a' : Option Addr} {c c' : Nat} (hb : PrAt w a b) (hbo : ∀ r ∈ b, r.ok) (hbl : b.length ≤ 2000000) (hs : PrAt w a' s) (hso : ∀ r ∈ s, r.ok) (hsl : s.length ≤ 2000000) (z : Int) (hz : -9223372036854775808 ≤ z ∧ z ≤ 9223372036854775807) (u : Int) (HU : -9223372036854775808 ≤ u ∧ u ≤ 9223372036854775807) :
    Calls Try.prog 4 #[.slice a b.length c, .slice a' s.length c', .int .i64 z, .int .i64 u] w fun e w' => e = .returned (.bool true) ∧ Hid (Below w.heap.size w w') := by
  obtain ⟨nb, hnb⟩ : ∃ nb, nb = b.length := ⟨_, rfl⟩
  obtain ⟨ns, hns⟩ : ∃ ns, ns = s.length := ⟨_, rfl⟩
  rw [← hnb] at hbl ⊢
  rw [← hns] at hsl ⊢
  have HN : Hid (nb = b.length ∧ ns = s.length) := ⟨hnb, hns⟩
  have HBO : Hid ((∀ r ∈ b, r.ok) ∧ ∀ r ∈ s, r.ok) := ⟨hbo, hso⟩
  have hsh := shown_any w
  have HZ := hz
  have HR : Hid (PrAt w a b ∧ PrAt w a' s) := ⟨hb, hs⟩
  clear hb hbo hs hso hnb hns hz
  go_enter Try.func4, Try.ntmps4
  go_upto_region 1 with fail
  rename_i K hK
  refine wp_region_lit ?_
  refine wpList_callW rfl (some 23) rfl 6 #[] (by kernel_rfl) hsh ?_
  clear hsh
  rintro e w1 ⟨rfl, H1⟩
  refine ⟨_, rfl, ?_⟩
  simp only [Act.put, List.setIfInBounds_toArray, List.set_cons_zero, List.set_cons_succ]
  refine wpList_runTo rfl (some 9) rfl (.bool true) w1 (by kernel_rfl) ?_
  simp only [Act.put, List.setIfInBounds_toArray, List.set_cons_zero, List.set_cons_succ]
  refine wpList_nil ?_
  refine hK _ _ ?_
  clear hK
  have ho1 := orders_at (w := w1) (a := a) (c := c) (n := nb) 1 HN.out.1 (HR.out.1.fr (Fr.of_below H1.out (fun _ => False)) fun _ _ => id) HBO.out.1 hbl (by omega)
  go_upto_region 2 with fail
  rename_i K hK
  refine wp_region_lit ?_
  refine wpList_runTo rfl (some 24) rfl (.slice a nb c) w1 (by kernel_rfl) ?_
  simp only [Act.put, List.setIfInBounds_toArray, List.set_cons_zero, List.set_cons_succ]
  refine wpList_callW rfl (some 25) rfl 7 #[.slice a nb c, .int .i64 1] (by kernel_rfl) ho1 ?_
  clear ho1
  rintro e w2 ⟨v8, rfl, H2⟩
  refine ⟨_, rfl, ?_⟩
  simp only [Act.put, List.setIfInBounds_toArray, List.set_cons_zero, List.set_cons_succ]
  refine wpList_runTo rfl (some 10) rfl (v8) w2 (by kernel_rfl) ?_
  simp only [Act.put, List.setIfInBounds_toArray, List.set_cons_zero, List.set_cons_succ]
  refine wpList_nil ?_
  refine hK _ _ ?_
  clear hK
  have hb2 : Below w.heap.size w w2 := below_step H1.out H2.out.bel
  have ho2 := orders_at (w := w2) (a := a') (c := c') (n := ns) (1 + (nb : Int)) HN.out.2 (HR.out.2.fr (Fr.of_below hb2 (fun _ => False)) fun _ _ => id) HBO.out.2 hsl (by omega)
  have HB2 : Hid (Below w.heap.size w w2) := hb2
  clear hb2 H1
  go_upto_region 3 with fail
  rename_i K hK
  refine wp_region_lit ?_
  refine wpList_runTo rfl (some 26) rfl (.slice a' ns c') w2 (by kernel_rfl) ?_
  simp only [Act.put, List.setIfInBounds_toArray, List.set_cons_zero, List.set_cons_succ]
  refine wpList_runTo rfl (some 27) rfl (.slice a nb c) w2 (by kernel_rfl) ?_
  simp only [Act.put, List.setIfInBounds_toArray, List.set_cons_zero, List.set_cons_succ]
  refine wpList_runTo rfl (some 28) rfl (.int .i64 (nb : Int)) w2 (by exact lenR_run (v := .slice a nb c) (ao := a) (c := c) rfl (.tmp 27) rfl (by kernel_rfl) _) ?_
  simp only [Act.put, List.setIfInBounds_toArray, List.set_cons_zero, List.set_cons_succ]
  refine wpList_runTo rfl (some 29) rfl (.int .i64 (1 + (nb : Int))) w2 (by exact addN_run (.const (.int .i64 1)) (.tmp 28) rfl (by kernel_rfl) (by kernel_rfl) (by omega) _) ?_
  simp only [Act.put, List.setIfInBounds_toArray, List.set_cons_zero, List.set_cons_succ]
  refine wpList_callW rfl (some 30) rfl 7 #[.slice a' ns c', .int .i64 (1 + (nb : Int))] (by kernel_rfl) ho2 ?_
  clear ho2
  rintro e w3 ⟨v9, rfl, H3⟩
  refine ⟨_, rfl, ?_⟩
  simp only [Act.put, List.setIfInBounds_toArray, List.set_cons_zero, List.set_cons_succ]
  refine wpList_runTo rfl (some 11) rfl (v9) w3 (by kernel_rfl) ?_
  simp only [Act.put, List.setIfInBounds_toArray, List.set_cons_zero, List.set_cons_succ]
  refine wpList_nil ?_
  refine hK _ _ ?_
  clear hK
  have H2' := H2.out.below H3.out.bel
  have HD : Hid (DD (odsL 1 b) ∧ DD (odsL (1 + (nb : Int)) s)) := ⟨DD.of _ _ (by rw [← HN.out.1]; exact hbl), DD.of _ _ (by rw [← HN.out.2]; exact hsl)⟩
  have H3' := H3.out
  clear H2 H3
  generalize odsL 1 b = D at *
  generalize odsL (1 + (nb : Int)) s = E at *
  obtain ⟨av, cv, ev, _⟩ := H2'.row.form
  obtain ⟨az, cs, es, _⟩ := H3'.row.form
  subst ev es
  have H4 : Hid (Below w.heap.size w w3 ∧ RowAt w3 42 15 (.slice av D.length cv) D.length (flatL (fun o => o.cs.toList) D) ∧ RowAt w3 42 15 (.slice az E.length cs) E.length (flatL (fun o => o.cs.toList) E)) := ⟨below_step HB2.out H3'.bel, H2'.row, H3'.row⟩
  clear H2' H3' HB2 HR HN HBO
  obtain ⟨rf, hrf⟩ : ∃ rf, rf = pk z 40 := ⟨_, rfl⟩
  have hpk := pick_any z 40 HZ (by omega) w3
  rw [← hrf] at hpk
  have hrb : 0 ≤ rf ∧ rf < 40 := by rw [hrf]; exact pk_bd z (by omega)
  clear hrf
  go_upto_region 4 with fail
  rename_i K hK
  refine wp_region_lit ?_
  refine wpList_runTo rfl (some 31) rfl (.int .i64 z) w3 (by kernel_rfl) ?_
  simp only [Act.put, List.setIfInBounds_toArray, List.set_cons_zero, List.set_cons_succ]
  refine wpList_callW rfl (some 32) rfl 8 #[.int .i64 z, .int .i64 40] (by kernel_rfl) hpk ?_
  clear hpk
  rintro e w4 ⟨rfl, ew⟩
  replace ew := ew.symm
  subst ew
  refine ⟨_, rfl, ?_⟩
  simp only [Act.put, List.setIfInBounds_toArray, List.set_cons_zero, List.set_cons_succ]
  refine wpList_runTo rfl (some 12) rfl (.int .i64 rf) w3 (by kernel_rfl) ?_
  simp only [Act.put, List.setIfInBounds_toArray, List.set_cons_zero, List.set_cons_succ]
  refine wpList_nil ?_
  refine hK _ _ ?_
  clear hK
  have hcp := Price_any H4.out.2.1 HD.out.1.ok (by have := HD.out.1.len; omega) H4.out.2.2 HD.out.2.ok (by have := HD.out.2.len; omega) rf
  go_upto_region 5 with fail
  rename_i K hK
  refine wp_region_lit ?_
  refine wpList_runTo rfl (some 33) rfl (.slice av D.length cv) w3 (by kernel_rfl) ?_
  simp only [Act.put, List.setIfInBounds_toArray, List.set_cons_zero, List.set_cons_succ]
  refine wpList_runTo rfl (some 34) rfl (.slice az E.length cs) w3 (by kernel_rfl) ?_
  simp only [Act.put, List.setIfInBounds_toArray, List.set_cons_zero, List.set_cons_succ]
  refine wpList_runTo rfl (some 35) rfl (.int .i64 rf) w3 (by kernel_rfl) ?_
  simp only [Act.put, List.setIfInBounds_toArray, List.set_cons_zero, List.set_cons_succ]
  refine wpList_callW rfl (some 36) rfl 9 #[.slice av D.length cv, .slice az E.length cs, .int .i64 rf] (by kernel_rfl) hcp ?_
  clear hcp
  rintro e w5 ⟨r, rfl, H5⟩
  refine ⟨_, rfl, ?_⟩
  simp only [Act.put, List.setIfInBounds_toArray, List.set_cons_zero, List.set_cons_succ]
  have HA : Hid (Ans D E rf r ∧ ((0 ≤ r.qty ∧ r.qty ≤ 9223372036854775807) ∧ 0 ≤ r.price ∧ r.price ≤ 1000000000) ∧ ∃ B S, Rws D E B S ∧ r = resOf (refN rf) (ptsOf B S (cndL (gat (refN rf) B S 2)))) := by
    obtain ⟨B, S, h1, h2⟩ := H5.out.2
    have hl := h1.lens
    have hd1 := HD.out.1.len
    have hd2 := HD.out.2.len
    refine ⟨?_, res_bd h1 (by omega) (by omega) (refN_bd rf) h2, B, S, h1, h2⟩
    show Ans D E rf r
    rw [h2]
    exact ans_of HD.out.1.gd HD.out.2.gd h1 hrb
  refine wpList_runTo rfl (some 13) rfl (.pointer (some ⟨w5.heap.size, 0, none⟩)) (w5.alloc (.cells #[.int .i64 0, .int .i64 0, .int .i64 0, .int .i64 0] 28)) (by kernel_rfl) ?_
  simp only [Act.put, List.setIfInBounds_toArray, List.set_cons_zero, List.set_cons_succ]
  refine wpList_plain rfl fun K1 hK1 => ?_
  refine wp_store_row 28 (.tmp 13) (.tmp 36) rfl w5.heap.size r.cs (by kernel_rfl) (by kernel_rfl) 28 #[.int .i64 0, .int .i64 0, .int .i64 0, .int .i64 0] (heap_alloc_new w5 _) infoRs rfl (by simp [Rs.cs, Value.oneCell']) ?_
  rw [World.setRow_alloc_new]
  refine hK1 _ _ ?_
  clear hK1
  refine wpList_nil ?_
  refine hK _ _ ?_
  clear hK
  have HM : Hid (Below w.heap.size w (w5.alloc (.cells r.cs 28)) ∧ RowAt (w5.alloc (.cells r.cs 28)) 42 15 (.slice av D.length cv) D.length (flatL (fun o => o.cs.toList) D) ∧ RowAt (w5.alloc (.cells r.cs 28)) 42 15 (.slice az E.length cs) E.length (flatL (fun o => o.cs.toList) E) ∧ Blk (w5.alloc (.cells r.cs 28)) w5.heap.size 28 r.cs) := by
    have hx := below_step H5.out.1 ((Below.refl _ w5).alloc (Nat.le_refl _) (.cells r.cs 28))
    exact ⟨below_step H4.out.1 hx, H4.out.2.1.fr (Fr.of_below hx (fun _ => False)) fun _ _ => id, H4.out.2.2.fr (Fr.of_below hx (fun _ => False)) fun _ _ => id, Blk.new _ _ _⟩
  clear H4 H5
  generalize w5.alloc (.cells r.cs 28) = w6 at *
  generalize w5.heap.size = g at *
  have hcf := Fills_any HM.out.2.1 HD.out.1.ok (by have := HD.out.1.len; omega) HM.out.2.2.1 HD.out.2.ok (by have := HD.out.2.len; omega) r HA.out.2.1.1.2
  go_upto_region 6 with fail
  rename_i K hK
  refine wp_region_lit ?_
  refine wpList_runTo rfl (some 37) rfl (.slice av D.length cv) w6 (by kernel_rfl) ?_
  simp only [Act.put, List.setIfInBounds_toArray, List.set_cons_zero, List.set_cons_succ]
  refine wpList_runTo rfl (some 38) rfl (.slice az E.length cs) w6 (by kernel_rfl) ?_
  simp only [Act.put, List.setIfInBounds_toArray, List.set_cons_zero, List.set_cons_succ]
  refine wpList_runTo rfl (some 39) rfl (.agg r.cs) w6 (by exact ldA_run (blk_range HM.out.2.2.2) Try.underlying28 rfl infoRs (.tmp 13) rfl (by kernel_rfl)) ?_
  simp only [Act.put, List.setIfInBounds_toArray, List.set_cons_zero, List.set_cons_succ]
  refine wpList_callW rfl (some 40) rfl 14 #[.slice av D.length cv, .slice az E.length cs, .agg r.cs] (by kernel_rfl) hcf ?_
  rintro e w7 ⟨v14, rfl, H7⟩
  refine ⟨_, rfl, ?_⟩
  simp only [Act.put, List.setIfInBounds_toArray, List.set_cons_zero, List.set_cons_succ]
  clear hcf
  refine wpList_runTo rfl (some 14) rfl (v14) w7 (by kernel_rfl) ?_
  simp only [Act.put, List.setIfInBounds_toArray, List.set_cons_zero, List.set_cons_succ]
  refine wpList_nil ?_
  refine hK _ _ ?_
  clear hK
  obtain ⟨F, hFR, hFV⟩ := H7.out
  clear H7
  obtain ⟨af, cf, ef, _⟩ := hFR.row.form
  subst ef
  have HF : Hid (FairA D E r F ∧ FV D E r F ∧ F.length ≤ 4000000) := ⟨fair_of HD.out.1.gd HD.out.2.gd HD.out.1.nd HD.out.2.nd HA.out.1 HA.out.2.1.1.1 HA.out.2.1.2.2 hFV, hFV, by have := fills_len hFV; have := HD.out.1.len; have := HD.out.2.len; omega⟩
  have HAF : Hid (AF w w7 D E F av az af cv cs cf g r) := ⟨below_step HM.out.1 hFR.bel, HM.out.2.1.fr (Fr.of_below hFR.bel (fun _ => False)) fun _ _ => id, HM.out.2.2.1.fr (Fr.of_below hFR.bel (fun _ => False)) fun _ _ => id, hFR.row, HM.out.2.2.2.below hFR.bel HM.out.2.2.2.lt⟩
  clear hFR hFV HM
  have hFl := HF.out.2.2
  have hDl := HD.out.1.len
  have hEl := HD.out.2.len
  go_upto_region 9 with fail
  go_loopw [15, 16] (fun x15 x16 wr => ∃ (i : Nat) (t : Int), i ≤ F.length ∧ x15 = .int .i64 t ∧ x16 = .int .i64 (i : Int) ∧ Hid (t = totF (F.take i) ∧ AF w wr D E F av az af cv cs cf g r)) (fun _ x16 _ => F.length - (RowKit.intOf x16).toNat)
  case atStart => exact ⟨0, 0, Nat.zero_le _, rfl, rfl, rfl, HAF.out⟩
  case round => as_aux_lemma =>
    obtain ⟨i, t, hi, rfl, rfl, HT⟩ := hrel
    generalize wr = W at *
    clear HAF
    by_cases hlt : i < F.length
    · have hlt' : (i : Int) < (F.length : Int) := by omega
      obtain ⟨f, hf⟩ : ∃ f, F[i]? = some f := ⟨_, List.getElem?_eq_getElem hlt⟩
      obtain ⟨gf, of, c', cur, ea, _⟩ := HT.out.2.rf.more (by omega)
      injection ea with ea1 _ ea2
      subst ea1 ea2
      have HQ : Hid (∀ (w' : World), Below W.heap.size W w' → w'.cell? ⟨gf, of + i * 5 + 2, none⟩ = some (.int .i64 0) ∧ w'.cell? ⟨gf, of + i * 5 + 3, none⟩ = some (.int .i64 f.p) ∧ w'.cell? ⟨gf, of + i * 5 + 4, none⟩ = some (.int .i64 f.q) ∧ w'.cell? ⟨g, 0, none⟩ = some (.int .i64 r.price)) := fun w' h => by
        have hr := (HT.out.2.below h).rf
        exact ⟨fl_cell hr hf (j := 2) (by decide) rfl, fl_cell hr hf (j := 3) (by decide) rfl, fl_cell hr hf (j := 4) (by decide) rfl, (HT.out.2.below h).blk.cell 0⟩
      obtain ⟨e1, e2, e3⟩ := HF.out.1.each f (List.mem_of_getElem? hf)
      have htb := totF_bd (take_q (k := i) fun f hf => ⟨(HF.out.1.each f hf).1, (HF.out.1.each f hf).2.1⟩)
      have hlen : (F.take i).length ≤ 4000000 := by have := HF.out.2.2; rw [List.length_take]; omega
      rw [← HT.out.1] at htb
      have HT2 : Hid (t + f.q = totF (F.take (i + 1))) := by
        show _ = _
        rw [totF_take hf, ← HT.out.1]
      obtain ⟨fq, hfq⟩ : ∃ x, x = f.q := ⟨_, rfl⟩
      obtain ⟨fp, hfp⟩ : ∃ x, x = f.p := ⟨_, rfl⟩
      rw [← hfq] at e1 e2 HQ HT2
      rw [← hfp] at e3 HQ
      clear hf hfq hfp
      have q4 := (HQ.out W (Below.refl _ W)).2.2.1
      go_upto_region 11 with fail
      rename_i K hK
      refine wp_region_lit ?_
      refine wpList_runTo rfl (some 47) rfl (.int .i64 t) W (by kernel_rfl) ?_
      simp only [Act.put, List.setIfInBounds_toArray, List.set_cons_zero, List.set_cons_succ]
      refine wpList_runTo rfl (some 48) rfl (.slice (some ⟨gf, of, none⟩) F.length cf) W (by kernel_rfl) ?_
      simp only [Act.put, List.setIfInBounds_toArray, List.set_cons_zero, List.set_cons_succ]
      refine wpList_runTo rfl (some 49) rfl (.int .i64 (i : Int)) W (by kernel_rfl) ?_
      simp only [Act.put, List.setIfInBounds_toArray, List.set_cons_zero, List.set_cons_succ]
      refine wpList_runTo rfl (some 50) rfl (.pointer (some ⟨gf, of + i * 5, none⟩)) W (by exact ixFl_run (n := F.length) (c := cf) (.tmp 48) (.tmp 49) rfl (by kernel_rfl) (by kernel_rfl) hlt _) ?_
      simp only [Act.put, List.setIfInBounds_toArray, List.set_cons_zero, List.set_cons_succ]
      refine wpList_runTo rfl (some 51) rfl (.pointer (some ⟨gf, of + i * 5 + 4, none⟩)) W (by kernel_rfl) ?_
      simp only [Act.put, List.setIfInBounds_toArray, List.set_cons_zero, List.set_cons_succ]
      refine wpList_runTo rfl (some 52) rfl (.int .i64 fq) W (by exact ldN_run (.inl rfl) (.tmp 51) rfl (by kernel_rfl) q4) ?_
      simp only [Act.put, List.setIfInBounds_toArray, List.set_cons_zero, List.set_cons_succ]
      refine wpList_runTo rfl (some 53) rfl (.int .i64 (t + fq)) W (by exact addW_run (.tmp 47) (.tmp 52) rfl (by kernel_rfl) (by kernel_rfl) (by omega) _) ?_
      simp only [Act.put, List.setIfInBounds_toArray, List.set_cons_zero, List.set_cons_succ]
      refine wpList_runTo rfl (some 15) rfl (.int .i64 (t + fq)) W (by kernel_rfl) ?_
      simp only [Act.put, List.setIfInBounds_toArray, List.set_cons_zero, List.set_cons_succ]
      refine wpList_nil ?_
      refine hK _ _ ?_
      clear hK
      clear q4
      go_upto_region 12 with fail
      rename_i K hK
      refine wp_region_held (S := fun w' => Below W.heap.size W w') (by kernel_rfl) ?_
      change wpAnyH _ _ _ _ _ _ _ _ (World.drew _)
      have hS0 : Below W.heap.size W W.drew := (Below.refl _ W).drew
      generalize W.drew = Z0 at *
      refine takeR (i := 0) (v := .slice (some ⟨gf, of, none⟩) F.length cf) (some 54) rfl rfl (by kernel_rfl) (by kernel_rfl) (by kernel_rfl) (fun _ _ _ h => h) (Or.inl ⟨by kernel_rfl, fun w' hSw => by kernel_rfl⟩) hS0 ?_
      simp only [Act.put, List.setIfInBounds_toArray, List.set_cons_zero, List.set_cons_succ]
      refine takeR (i := 1) (v := .int .i64 (i : Int)) (some 55) rfl rfl (by kernel_rfl) (by kernel_rfl) (by kernel_rfl) (fun _ _ _ h => h) (Or.inl ⟨by kernel_rfl, fun w' hSw => by kernel_rfl⟩) hS0 ?_
      simp only [Act.put, List.setIfInBounds_toArray, List.set_cons_zero, List.set_cons_succ]
      refine takeR (i := 2) (v := .pointer (some ⟨gf, of + i * 5, none⟩)) (some 56) rfl rfl (by kernel_rfl) (by kernel_rfl) (by kernel_rfl) (fun _ _ _ h => h) (Or.inl ⟨by kernel_rfl, fun w' hSw => by exact ixFl_run (n := F.length) (c := cf) (.tmp 54) (.tmp 55) rfl (by kernel_rfl) (by kernel_rfl) hlt _⟩) hS0 ?_
      simp only [Act.put, List.setIfInBounds_toArray, List.set_cons_zero, List.set_cons_succ]
      refine takeR (i := 3) (v := .pointer (some ⟨gf, of + i * 5 + 4, none⟩)) (some 57) rfl rfl (by kernel_rfl) (by kernel_rfl) (by kernel_rfl) (fun _ _ _ h => h) (Or.inl ⟨by kernel_rfl, fun w' hSw => by kernel_rfl⟩) hS0 ?_
      simp only [Act.put, List.setIfInBounds_toArray, List.set_cons_zero, List.set_cons_succ]
      refine takeR (i := 4) (v := .int .i64 fq) (some 58) rfl rfl (by kernel_rfl) (by kernel_rfl) (by kernel_rfl) (fun _ _ _ h => h) (Or.inl ⟨by kernel_rfl, fun w' hSw => by exact ldN_run (.inl rfl) (.tmp 57) rfl (by kernel_rfl) (HQ.out _ hSw).2.2.1⟩) hS0 ?_
      simp only [Act.put, List.setIfInBounds_toArray, List.set_cons_zero, List.set_cons_succ]
      refine takeR (i := 5) (v := .bool false) (some 59) rfl rfl (by kernel_rfl) (by kernel_rfl) (by kernel_rfl) (fun _ _ _ h => h) (Or.inl ⟨by kernel_rfl, fun w' hSw => by exact lt1_run (p := fq) (.tmp 58) rfl (by kernel_rfl) (decide_eq_false (by omega)) _⟩) hS0 ?_
      simp only [Act.put, List.setIfInBounds_toArray, List.set_cons_zero, List.set_cons_succ]
      refine takeR (i := 6) (v := .bool false) (some 60) rfl rfl (by kernel_rfl) (by kernel_rfl) (by kernel_rfl) (fun _ _ _ h => h) (Or.inl ⟨by kernel_rfl, fun w' hSw => by kernel_rfl⟩) hS0 ?_
      simp only [Act.put, List.setIfInBounds_toArray, List.set_cons_zero, List.set_cons_succ]
      refine takeR (i := 7) (v := .slice (some ⟨gf, of, none⟩) F.length cf) (some 61) rfl rfl (by kernel_rfl) (by kernel_rfl) (by kernel_rfl) (fun _ _ _ h => h) (Or.inl ⟨by kernel_rfl, fun w' hSw => by kernel_rfl⟩) hS0 ?_
      simp only [Act.put, List.setIfInBounds_toArray, List.set_cons_zero, List.set_cons_succ]
      refine takeR (i := 8) (v := .int .i64 (i : Int)) (some 62) rfl rfl (by kernel_rfl) (by kernel_rfl) (by kernel_rfl) (fun _ _ _ h => h) (Or.inl ⟨by kernel_rfl, fun w' hSw => by kernel_rfl⟩) hS0 ?_
      simp only [Act.put, List.setIfInBounds_toArray, List.set_cons_zero, List.set_cons_succ]
      refine takeR (i := 9) (v := .pointer (some ⟨gf, of + i * 5, none⟩)) (some 63) rfl rfl (by kernel_rfl) (by kernel_rfl) (by kernel_rfl) (fun _ _ _ h => h) (Or.inl ⟨by kernel_rfl, fun w' hSw => by exact ixFl_run (n := F.length) (c := cf) (.tmp 61) (.tmp 62) rfl (by kernel_rfl) (by kernel_rfl) hlt _⟩) hS0 ?_
      simp only [Act.put, List.setIfInBounds_toArray, List.set_cons_zero, List.set_cons_succ]
      refine takeR (i := 10) (v := .pointer (some ⟨gf, of + i * 5 + 3, none⟩)) (some 64) rfl rfl (by kernel_rfl) (by kernel_rfl) (by kernel_rfl) (fun _ _ _ h => h) (Or.inl ⟨by kernel_rfl, fun w' hSw => by kernel_rfl⟩) hS0 ?_
      simp only [Act.put, List.setIfInBounds_toArray, List.set_cons_zero, List.set_cons_succ]
      refine takeR (i := 11) (v := .int .i64 fp) (some 65) rfl rfl (by kernel_rfl) (by kernel_rfl) (by kernel_rfl) (fun _ _ _ h => h) (Or.inl ⟨by kernel_rfl, fun w' hSw => by exact ldN_run (.inl rfl) (.tmp 64) rfl (by kernel_rfl) (HQ.out _ hSw).2.1⟩) hS0 ?_
      simp only [Act.put, List.setIfInBounds_toArray, List.set_cons_zero, List.set_cons_succ]
      refine takeR (i := 12) (v := .pointer (some ⟨g, 0, none⟩)) (some 66) rfl rfl (by kernel_rfl) (by kernel_rfl) (by kernel_rfl) (fun _ _ _ h => h) (Or.inl ⟨by kernel_rfl, fun w' hSw => by kernel_rfl⟩) hS0 ?_
      simp only [Act.put, List.setIfInBounds_toArray, List.set_cons_zero, List.set_cons_succ]
      refine takeR (i := 13) (v := .int .i64 r.price) (some 67) rfl rfl (by kernel_rfl) (by kernel_rfl) (by kernel_rfl) (fun _ _ _ h => h) (Or.inl ⟨by kernel_rfl, fun w' hSw => by exact ldN_run (.inl rfl) (.tmp 66) rfl (by kernel_rfl) (HQ.out _ hSw).2.2.2⟩) hS0 ?_
      simp only [Act.put, List.setIfInBounds_toArray, List.set_cons_zero, List.set_cons_succ]
      refine takeR (i := 14) (v := .bool false) (some 68) rfl rfl (by kernel_rfl) (by kernel_rfl) (by kernel_rfl) (fun _ _ _ h => h) (Or.inl ⟨by kernel_rfl, fun w' hSw => by exact neV_run (.inl rfl) (p := fp) (q := r.price) (.tmp 65) (.tmp 67) rfl (by kernel_rfl) (by kernel_rfl) (decide_eq_false (fun h => h e3)) _⟩) hS0 ?_
      simp only [Act.put, List.setIfInBounds_toArray, List.set_cons_zero, List.set_cons_succ]
      refine takeR (i := 15) (v := .bool false) (some 69) rfl rfl (by kernel_rfl) (by kernel_rfl) (by kernel_rfl) (fun _ _ _ h => h) (Or.inl ⟨by kernel_rfl, fun w' hSw => by exact pickN_run (c := false) (.tmp 60) (.tmp 68) rfl (by kernel_rfl) (by kernel_rfl) _⟩) hS0 ?_
      simp only [Act.put, List.setIfInBounds_toArray, List.set_cons_zero, List.set_cons_succ]
      refine takeR (i := 16) (v := .bool false) (some 70) rfl rfl (by kernel_rfl) (by kernel_rfl) (by kernel_rfl) (fun _ _ _ h => h) (Or.inl ⟨by kernel_rfl, fun w' hSw => by kernel_rfl⟩) hS0 ?_
      simp only [Act.put, List.setIfInBounds_toArray, List.set_cons_zero, List.set_cons_succ]
      refine takeR (i := 17) (v := .slice (some ⟨gf, of, none⟩) F.length cf) (some 71) rfl rfl (by kernel_rfl) (by kernel_rfl) (by kernel_rfl) (fun _ _ _ h => h) (Or.inl ⟨by kernel_rfl, fun w' hSw => by kernel_rfl⟩) hS0 ?_
      simp only [Act.put, List.setIfInBounds_toArray, List.set_cons_zero, List.set_cons_succ]
      refine takeR (i := 18) (v := .int .i64 (i : Int)) (some 72) rfl rfl (by kernel_rfl) (by kernel_rfl) (by kernel_rfl) (fun _ _ _ h => h) (Or.inl ⟨by kernel_rfl, fun w' hSw => by kernel_rfl⟩) hS0 ?_
      simp only [Act.put, List.setIfInBounds_toArray, List.set_cons_zero, List.set_cons_succ]
      refine takeR (i := 19) (v := .pointer (some ⟨gf, of + i * 5, none⟩)) (some 73) rfl rfl (by kernel_rfl) (by kernel_rfl) (by kernel_rfl) (fun _ _ _ h => h) (Or.inl ⟨by kernel_rfl, fun w' hSw => by exact ixFl_run (n := F.length) (c := cf) (.tmp 71) (.tmp 72) rfl (by kernel_rfl) (by kernel_rfl) hlt _⟩) hS0 ?_
      simp only [Act.put, List.setIfInBounds_toArray, List.set_cons_zero, List.set_cons_succ]
      refine takeR (i := 20) (v := .pointer (some ⟨gf, of + i * 5 + 2, none⟩)) (some 74) rfl rfl (by kernel_rfl) (by kernel_rfl) (by kernel_rfl) (fun _ _ _ h => h) (Or.inl ⟨by kernel_rfl, fun w' hSw => by kernel_rfl⟩) hS0 ?_
      simp only [Act.put, List.setIfInBounds_toArray, List.set_cons_zero, List.set_cons_succ]
      refine takeR (i := 21) (v := .int .i64 0) (some 75) rfl rfl (by kernel_rfl) (by kernel_rfl) (by kernel_rfl) (fun _ _ _ h => h) (Or.inl ⟨by kernel_rfl, fun w' hSw => by exact ldN_run (.inr rfl) (.tmp 74) rfl (by kernel_rfl) (HQ.out _ hSw).1⟩) hS0 ?_
      simp only [Act.put, List.setIfInBounds_toArray, List.set_cons_zero, List.set_cons_succ]
      refine takeR (i := 22) (v := .bool false) (some 76) rfl rfl (by kernel_rfl) (by kernel_rfl) (by kernel_rfl) (fun _ _ _ h => h) (Or.inl ⟨by kernel_rfl, fun w' hSw => by exact neV_run (.inr rfl) (p := 0) (q := 0) (.tmp 75) (.const (.int .i64 0)) rfl (by kernel_rfl) (by kernel_rfl) (decide_eq_false (fun h => h rfl)) _⟩) hS0 ?_
      simp only [Act.put, List.setIfInBounds_toArray, List.set_cons_zero, List.set_cons_succ]
      refine takeR (i := 23) (v := .bool false) (some 77) rfl rfl (by kernel_rfl) (by kernel_rfl) (by kernel_rfl) (fun _ _ _ h => h) (Or.inl ⟨by kernel_rfl, fun w' hSw => by exact pickN_run (c := false) (.tmp 70) (.tmp 76) rfl (by kernel_rfl) (by kernel_rfl) _⟩) hS0 ?_
      simp only [Act.put, List.setIfInBounds_toArray, List.set_cons_zero, List.set_cons_succ]
      refine wpAnyH_done (by kernel_rfl) ?_ _
      have HN2 : Hid (t + fq = totF (F.take (i + 1)) ∧ AF w Z0 D E F av az (some ⟨gf, of, none⟩) cv cs cf g r) := ⟨HT2.out, HT.out.2.below hS0⟩
      clear hS0 HQ HT HT2
      generalize Z0 = w9 at *
      refine hK _ _ ?_
      clear hK
      go_wp2
      exact ⟨⟨i + 1, _, by omega, rfl, by go_num, HN2.out⟩, by simp [RowKit.intOf]; omega⟩
    · have hin : i = F.length := by omega
      have hlt' : ¬ (i : Int) < (F.length : Int) := by omega
      have htt : t = r.qty := by
        rw [HT.out.1, hin, List.take_length]
        exact HF.out.1.tot
      subst htt
      have HAF : Hid (AF w W D E F av az af cv cs cf g r) := HT.out.2
      clear HT
      go_upto_region 14 with fail
      rename_i K hK
      refine wp_region_lit ?_
      refine wpList_runTo rfl (some 78) rfl (.slice av D.length cv) W (by kernel_rfl) ?_
      simp only [Act.put, List.setIfInBounds_toArray, List.set_cons_zero, List.set_cons_succ]
      refine wpList_runTo rfl (some 79) rfl (.slice af F.length cf) W (by kernel_rfl) ?_
      simp only [Act.put, List.setIfInBounds_toArray, List.set_cons_zero, List.set_cons_succ]
      refine wpList_runTo rfl (some 80) rfl (.pointer (some ⟨g, 0, none⟩)) W (by kernel_rfl) ?_
      simp only [Act.put, List.setIfInBounds_toArray, List.set_cons_zero, List.set_cons_succ]
      refine wpList_runTo rfl (some 81) rfl (.int .i64 r.price) W (by exact ldN_run (.inl rfl) (.tmp 80) rfl (by kernel_rfl) (HAF.out.blk.cell 0)) ?_
      simp only [Act.put, List.setIfInBounds_toArray, List.set_cons_zero, List.set_cons_succ]
      refine wpList_callW rfl (some 82) rfl 15 #[.slice av D.length cv, .slice af F.length cf, .int .i64 r.price, .bool true] (by kernel_rfl) (fairL_any true r.price HAF.out.rb HD.out.1.ok (by have := HD.out.1.len; omega) HAF.out.rf (fun f hf => ⟨(HF.out.1.each f hf).1, (HF.out.1.each f hf).2.1⟩) (by have := HF.out.2.2; omega) HF.out.1.one) ?_
      rintro e w8 ⟨rfl, hb⟩
      refine ⟨_, rfl, ?_⟩
      simp only [Act.put, List.setIfInBounds_toArray, List.set_cons_zero, List.set_cons_succ]
      refine wpList_runTo rfl (some 17) rfl (.bool true) w8 (by kernel_rfl) ?_
      simp only [Act.put, List.setIfInBounds_toArray, List.set_cons_zero, List.set_cons_succ]
      refine wpList_nil ?_
      refine hK _ _ ?_
      clear hK
      replace HAF : Hid (AF w w8 D E F av az af cv cs cf g r) := HAF.out.below hb.out
      clear hb
      go_upto_region 15 with fail
      rename_i K hK
      refine wp_region_lit ?_
      refine wpList_runTo rfl (some 83) rfl (.slice az E.length cs) w8 (by kernel_rfl) ?_
      simp only [Act.put, List.setIfInBounds_toArray, List.set_cons_zero, List.set_cons_succ]
      refine wpList_runTo rfl (some 84) rfl (.slice af F.length cf) w8 (by kernel_rfl) ?_
      simp only [Act.put, List.setIfInBounds_toArray, List.set_cons_zero, List.set_cons_succ]
      refine wpList_runTo rfl (some 85) rfl (.pointer (some ⟨g, 0, none⟩)) w8 (by kernel_rfl) ?_
      simp only [Act.put, List.setIfInBounds_toArray, List.set_cons_zero, List.set_cons_succ]
      refine wpList_runTo rfl (some 86) rfl (.int .i64 r.price) w8 (by exact ldN_run (.inl rfl) (.tmp 85) rfl (by kernel_rfl) (HAF.out.blk.cell 0)) ?_
      simp only [Act.put, List.setIfInBounds_toArray, List.set_cons_zero, List.set_cons_succ]
      refine wpList_callW rfl (some 87) rfl 15 #[.slice az E.length cs, .slice af F.length cf, .int .i64 r.price, .bool false] (by kernel_rfl) (fairL_any false r.price HAF.out.rs HD.out.2.ok (by have := HD.out.2.len; omega) HAF.out.rf (fun f hf => ⟨(HF.out.1.each f hf).1, (HF.out.1.each f hf).2.1⟩) (by have := HF.out.2.2; omega) HF.out.1.two) ?_
      rintro e w9 ⟨rfl, hb⟩
      refine ⟨_, rfl, ?_⟩
      simp only [Act.put, List.setIfInBounds_toArray, List.set_cons_zero, List.set_cons_succ]
      refine wpList_runTo rfl (some 18) rfl (.bool true) w9 (by kernel_rfl) ?_
      simp only [Act.put, List.setIfInBounds_toArray, List.set_cons_zero, List.set_cons_succ]
      refine wpList_nil ?_
      refine hK _ _ ?_
      clear hK
      replace HAF : Hid (AF w w9 D E F av az af cv cs cf g r) := HAF.out.below hb.out
      clear hb
      go_upto_region 16 with fail
      rename_i K hK
      refine wp_region_lit ?_
      refine wpList_runTo rfl (some 88) rfl (.bool true) w9 (by kernel_rfl) ?_
      simp only [Act.put, List.setIfInBounds_toArray, List.set_cons_zero, List.set_cons_succ]
      refine wpList_runTo rfl (some 89) rfl (.bool false) w9 (by exact not_run (c := true) (.tmp 88) rfl (by kernel_rfl) _) ?_
      simp only [Act.put, List.setIfInBounds_toArray, List.set_cons_zero, List.set_cons_succ]
      refine wpList_runTo rfl (some 90) rfl (.bool false) w9 (by kernel_rfl) ?_
      simp only [Act.put, List.setIfInBounds_toArray, List.set_cons_zero, List.set_cons_succ]
      refine wpList_runToG (by kernel_rfl) (some 91) rfl (.int .i64 r.qty) w9 (by kernel_rfl) ?_
      simp only [Act.put, List.setIfInBounds_toArray, List.set_cons_zero, List.set_cons_succ]
      refine wpList_runToG (by kernel_rfl) (some 92) rfl (.pointer (some ⟨g, 1, none⟩)) w9 (by kernel_rfl) ?_
      simp only [Act.put, List.setIfInBounds_toArray, List.set_cons_zero, List.set_cons_succ]
      refine wpList_runToG (by kernel_rfl) (some 93) rfl (.int .i64 r.qty) w9 (by exact ldN_run (.inl rfl) (.tmp 92) rfl (by kernel_rfl) (HAF.out.blk.cell 1)) ?_
      simp only [Act.put, List.setIfInBounds_toArray, List.set_cons_zero, List.set_cons_succ]
      refine wpList_runToG (by kernel_rfl) (some 94) rfl (.bool false) w9 (by exact neV_run (.inl rfl) (p := r.qty) (q := r.qty) (.tmp 91) (.tmp 93) rfl (by kernel_rfl) (by kernel_rfl) (decide_eq_false (fun h => h rfl)) _) ?_
      simp only [Act.put, List.setIfInBounds_toArray, List.set_cons_zero, List.set_cons_succ]
      refine wpList_runTo rfl (some 95) rfl (.bool false) w9 (by exact pickN_run (c := false) (.tmp 90) (.tmp 94) rfl (by kernel_rfl) (by kernel_rfl) _) ?_
      simp only [Act.put, List.setIfInBounds_toArray, List.set_cons_zero, List.set_cons_succ]
      refine wpList_runTo rfl (some 96) rfl (.bool false) w9 (by kernel_rfl) ?_
      simp only [Act.put, List.setIfInBounds_toArray, List.set_cons_zero, List.set_cons_succ]
      refine wpList_runToG (by kernel_rfl) (some 97) rfl (.bool true) w9 (by kernel_rfl) ?_
      simp only [Act.put, List.setIfInBounds_toArray, List.set_cons_zero, List.set_cons_succ]
      refine wpList_runToG (by kernel_rfl) (some 98) rfl (.bool false) w9 (by exact not_run (c := true) (.tmp 97) rfl (by kernel_rfl) _) ?_
      simp only [Act.put, List.setIfInBounds_toArray, List.set_cons_zero, List.set_cons_succ]
      refine wpList_runTo rfl (some 99) rfl (.bool false) w9 (by exact pickN_run (c := false) (.tmp 96) (.tmp 98) rfl (by kernel_rfl) (by kernel_rfl) _) ?_
      simp only [Act.put, List.setIfInBounds_toArray, List.set_cons_zero, List.set_cons_succ]
      refine wpList_runTo rfl (some 100) rfl (.bool false) w9 (by kernel_rfl) ?_
      simp only [Act.put, List.setIfInBounds_toArray, List.set_cons_zero, List.set_cons_succ]
      refine wpList_runToG (by kernel_rfl) (some 101) rfl (.bool true) w9 (by kernel_rfl) ?_
      simp only [Act.put, List.setIfInBounds_toArray, List.set_cons_zero, List.set_cons_succ]
      refine wpList_runToG (by kernel_rfl) (some 102) rfl (.bool false) w9 (by exact not_run (c := true) (.tmp 101) rfl (by kernel_rfl) _) ?_
      simp only [Act.put, List.setIfInBounds_toArray, List.set_cons_zero, List.set_cons_succ]
      refine wpList_runTo rfl (some 103) rfl (.bool false) w9 (by exact pickN_run (c := false) (.tmp 100) (.tmp 102) rfl (by kernel_rfl) (by kernel_rfl) _) ?_
      simp only [Act.put, List.setIfInBounds_toArray, List.set_cons_zero, List.set_cons_succ]
      refine wpList_nil ?_
      refine hK _ _ ?_
      clear hK
      obtain ⟨i0, hi0, hz0, hz1, hz2⟩ := info_parts infoOd
      have HI : Hid (Try.prog.info? 42 = some i0 ∧ i0.zero = some (.agg #[.int .i64 0, .string ⟨#[]⟩, .string ⟨#[]⟩, .string ⟨#[]⟩, .int .i64 0, .int .i64 0, .int .i64 0, .int .i64 0, .int .i64 0, .int .i64 0, .int .i64 0, .int .i64 0, .int .i64 0, .int .i64 0, .int .i64 0]) ∧ i0.size = 15 ∧ i0.bytes = 144) := ⟨hi0, hz0, hz1, hz2⟩
      clear hi0 hz0 hz1 hz2
      go_upto_region 20 with fail
      go_loopw [19, 20] (fun x19 x20 wr => ∃ (m : Nat) (v : Value) (y : Int), m ≤ D.length ∧ y = (m : Int) - 1 ∧ v = x19 ∧ x20 = .int .i64 y ∧ Hid (OO w9 wr v (revT D (D.length - m)))) (fun _ x20 _ => (RowKit.intOf x20 + 1).toNat)
      case atStart => exact ⟨D.length, .slice none 0 0, _, Nat.le_refl _, rfl, rfl, by go_num, by
        show OO w9 _ _ _
        rw [Nat.sub_self, revT_zero]
        exact ⟨RowAt.none0 _ _ _, Below.refl _ _, fun q hq => by cases hq⟩⟩
      case round => as_aux_lemma =>
        obtain ⟨m, v, y, hm, hy, rfl, rfl, HO⟩ := hrel
        generalize wr = W2 at *
        by_cases hm0 : 0 < m
        · obtain ⟨j, rfl⟩ : ∃ j, m = j + 1 := ⟨m - 1, by omega⟩
          obtain rfl : y = (j : Int) := by omega
          clear hy hm0
          have hj0 : (0 : Int) ≤ (j : Int) := by omega
          have hlt : j < D.length := by omega
          obtain ⟨o, ho⟩ : ∃ o, D[j]? = some o := ⟨_, List.getElem?_eq_getElem hlt⟩
          have HOD : Hid (o.cs = odC o.id o.ty o.pr o.qt ∧ revT D (D.length - j) = revT D (D.length - (j + 1)) ++ [o] ∧ (revT D (D.length - (j + 1))).length ≤ 2000000) := by
            have hd := HD.out.1.len
            refine ⟨by have := HD.out.1.odc o (List.mem_of_getElem? ho); unfold OdC at this; exact congrArg Od.cs this, ?_, by rw [revT_len (by omega)]; omega⟩
            rw [show D.length - j = D.length - (j + 1) + 1 by omega]
            exact revT_succ (by omega) (by rw [show D.length - 1 - (D.length - (j + 1)) = j by omega]; exact ho)
          have HAW := HAF.out.below HO.out.bel
          obtain ⟨gd, od, c', cur, ea, _⟩ := HAW.rb.more (by omega)
          injection ea with ea1 _ ea2
          subst ea1 ea2
          have hrg := row_rangeO HAW.rb HD.out.1.ok ho
          rw [HOD.out.1] at hrg
          clear ho HAW
          go_upto_region 22 with fail
          refine wp_region_lit ?_
          refine wpList_runTo rfl (some 111) rfl (v) W2 (by kernel_rfl) ?_
          simp only [Act.put, List.setIfInBounds_toArray, List.set_cons_zero, List.set_cons_succ]
          refine wpList_runTo rfl (some 112) rfl (.slice (some ⟨gd, od, none⟩) D.length cv) W2 (by kernel_rfl) ?_
          simp only [Act.put, List.setIfInBounds_toArray, List.set_cons_zero, List.set_cons_succ]
          refine wpList_runTo rfl (some 113) rfl (.int .i64 (j : Int)) W2 (by kernel_rfl) ?_
          simp only [Act.put, List.setIfInBounds_toArray, List.set_cons_zero, List.set_cons_succ]
          refine wpList_runTo rfl (some 114) rfl (.pointer (some ⟨gd, od + j * 15, none⟩)) W2 (by exact ixOr_run (n := D.length) (c := cv) (.tmp 112) (.tmp 113) rfl (by kernel_rfl) (by kernel_rfl) hlt _) ?_
          simp only [Act.put, List.setIfInBounds_toArray, List.set_cons_zero, List.set_cons_succ]
          refine wpList_runTo rfl (some 115) rfl (.agg (odC o.id o.ty o.pr o.qt)) W2 (by exact ldA_run hrg Try.underlying42 rfl infoO (.tmp 114) rfl (by kernel_rfl)) ?_
          simp only [Act.put, List.setIfInBounds_toArray, List.set_cons_zero, List.set_cons_succ]
          refine wpList_runTo rfl (some 116) rfl (.slice (some ⟨W2.heap.size, 0, none⟩) 1 1) (W2.alloc (.cells (odC o.id o.ty o.pr o.qt) 42)) (by exact buildOs_run (.tmp 115) rfl (by kernel_rfl) _) ?_
          simp only [Act.put, List.setIfInBounds_toArray, List.set_cons_zero, List.set_cons_succ]
          have hrA : RowAt (W2.alloc (.cells (odC o.id o.ty o.pr o.qt) 42)) 42 15 v (revT D (D.length - (j + 1))).length (flatL (fun o => o.cs.toList) (revT D (D.length - (j + 1)))) := HO.out.row.fr (Fr.alloc W2 _ (fun _ => False)) fun _ _ => id
          refine wpList_append_row _ rfl (.tmp 111) (.tmp 116) 24 rfl 42 i0 _ 15 144 Try.underlying24 HI.out.1 HI.out.2.1 HI.out.2.2.1 HI.out.2.2.2 (by rfl) v (revT D (D.length - (j + 1))).length (flatL (fun o => o.cs.toList) (revT D (D.length - (j + 1)))) (by kernel_rfl) hrA ⟨W2.heap.size, 0, none⟩ 1 1 (odC o.id o.ty o.pr o.qt).toList (by kernel_rfl) (by rfl) (fun j u hj => by rw [Addr.add_mid, Nat.zero_add, (Blk.new W2 42 (odC o.id o.ty o.pr o.qt)).cell]; simpa using hj) (fun u hu => by simp [odC] at hu; rcases hu with rfl | rfl | rfl | rfl | rfl | rfl | rfl | rfl | rfl | rfl | rfl | rfl | rfl | rfl | rfl <;> rfl) (Or.inl (by omega)) (by have := HOD.out.2.2; unfold maxLen; omega) (by have := HOD.out.2.2; omega) ?_
          intro v5 w5 hrow hfr hnew
          have HX : Hid (OO w9 w5 v5 (revT D (D.length - j))) := by
            show OO w9 w5 v5 (revT D (D.length - j))
            rw [HOD.out.2.1]
            refine (HO.out.below ((Below.refl _ W2).alloc (Nat.le_refl _) _)).app (p := o) ?_ hfr hnew
            rw [HOD.out.1]
            exact hrow
          clear hrow hfr hnew hrA HO HOD hrg
          simp only [Act.put, List.setIfInBounds_toArray, List.set_cons_zero, List.set_cons_succ]
          refine wpList_runTo rfl (some 19) rfl (v5) w5 (by kernel_rfl) ?_
          simp only [Act.put, List.setIfInBounds_toArray, List.set_cons_zero, List.set_cons_succ]
          refine wpList_nil ?_
          go_wp2
          exact ⟨⟨j, _, _, by omega, rfl, rfl, by go_num, HX.out⟩, by simp [RowKit.intOf]⟩
        · have hm1 : m = 0 := by omega
          subst hm1
          have hneg : ¬ (0 : Int) ≤ y := by omega
          have HB1 : Hid (OO w9 W2 v D.reverse) := by
            have h := HO.out
            rw [Nat.sub_zero, revT_all] at h
            exact h
          clear HO
          have HAG : Hid (AF w W2 D E F av az af cv cs cf g r) := HAF.out.below HB1.out.bel
          clear hy
          generalize v = v19 at *
          obtain ⟨k0, hk0⟩ : ∃ k0 : Nat, 0 < E.length → pk u E.length = (k0 : Int) ∧ k0 < E.length := by
            by_cases h : 0 < E.length
            · have hb := pk_bd u (n := (E.length : Int)) (by omega)
              exact ⟨(pk u E.length).toNat, fun _ => ⟨by omega, by omega⟩⟩
            · exact ⟨0, fun h' => absurd h' h⟩
          have HK0 : Hid (0 < E.length → pk u E.length = (k0 : Int) ∧ k0 < E.length) := hk0
          clear hk0
          go_upto_region 25 with fail
          go_loopw [21, 22] (fun x21 x22 wr => ∃ (i : Nat) (v : Value), i ≤ E.length ∧ v = x21 ∧ x22 = .int .i64 (i : Int) ∧ Hid (OO W2 wr v ((rotL E k0).take i))) (fun _ x22 _ => E.length - (RowKit.intOf x22).toNat)
          case atStart => exact ⟨0, .slice none 0 0, Nat.zero_le _, rfl, rfl, RowAt.none0 _ _ _, Below.refl _ _, fun q hq => by cases hq⟩
          case round => as_aux_lemma =>
            obtain ⟨i, v, hi, rfl, rfl, HO⟩ := hrel
            generalize wr = W3 at *
            by_cases hlt : i < E.length
            · have hlt' : (i : Int) < (E.length : Int) := by omega
              obtain ⟨hkp, hk0⟩ := HK0.out (by omega)
              obtain ⟨j, hj⟩ : ∃ j, j = (i + k0) % E.length := ⟨_, rfl⟩
              have hjl : j < E.length := by rw [hj]; exact Nat.mod_lt _ (by omega)
              have hjr : Int.tmod ((i : Int) + (k0 : Int)) (E.length : Int) = (j : Int) := by
                rw [hj, Int.tmod_eq_emod_of_nonneg (by omega)]
                simp
              obtain ⟨o, ho⟩ : ∃ o, E[j]? = some o := ⟨_, List.getElem?_eq_getElem hjl⟩
              have hel := HD.out.2.len
              have HOD : Hid (o.cs = odC o.id o.ty o.pr o.qt ∧ (rotL E k0).take (i + 1) = (rotL E k0).take i ++ [o] ∧ ((rotL E k0).take i).length ≤ 2000000) := by
                refine ⟨by have := HD.out.2.odc o (List.mem_of_getElem? ho); unfold OdC at this; exact congrArg Od.cs this, ?_, by rw [List.length_take]; omega⟩
                rw [List.take_add_one, rotL_get hk0 hlt, ← hj, ho]
                rfl
              have HAW := HAG.out.below HO.out.bel
              obtain ⟨gd, od, c', cur, ea, _⟩ := HAW.rs.more (by omega)
              injection ea with ea1 _ ea2
              subst ea1 ea2
              have hrg := row_rangeO HAW.rs HD.out.2.ok ho
              rw [HOD.out.1] at hrg
              have hpk := pickW_any u (E.length : Int) HU (by omega) W3
              rw [hkp] at hpk
              clear ho HAW hj
              go_upto_region 27 with fail
              refine wp_region_lit ?_
              refine wpList_runTo rfl (some 124) rfl (v) W3 (by kernel_rfl) ?_
              simp only [Act.put, List.setIfInBounds_toArray, List.set_cons_zero, List.set_cons_succ]
              refine wpList_runTo rfl (some 125) rfl (.slice (some ⟨gd, od, none⟩) E.length cs) W3 (by kernel_rfl) ?_
              simp only [Act.put, List.setIfInBounds_toArray, List.set_cons_zero, List.set_cons_succ]
              refine wpList_runTo rfl (some 126) rfl (.int .i64 (i : Int)) W3 (by kernel_rfl) ?_
              simp only [Act.put, List.setIfInBounds_toArray, List.set_cons_zero, List.set_cons_succ]
              refine wpList_runTo rfl (some 127) rfl (.int .i64 u) W3 (by kernel_rfl) ?_
              simp only [Act.put, List.setIfInBounds_toArray, List.set_cons_zero, List.set_cons_succ]
              refine wpList_runTo rfl (some 128) rfl (.slice (some ⟨gd, od, none⟩) E.length cs) W3 (by kernel_rfl) ?_
              simp only [Act.put, List.setIfInBounds_toArray, List.set_cons_zero, List.set_cons_succ]
              refine wpList_runTo rfl (some 129) rfl (.int .i64 (E.length : Int)) W3 (by exact lenO_run (v := .slice (some ⟨gd, od, none⟩) E.length cs) (ao := some ⟨gd, od, none⟩) (c := cs) rfl (.tmp 128) rfl (by kernel_rfl) _) ?_
              simp only [Act.put, List.setIfInBounds_toArray, List.set_cons_zero, List.set_cons_succ]
              refine wpList_callW rfl (some 130) rfl 8 #[.int .i64 u, .int .i64 (E.length : Int)] (by kernel_rfl) hpk ?_
              rintro e w' ⟨rfl, ew⟩
              refine ⟨_, rfl, ?_⟩
              simp only [Act.put, List.setIfInBounds_toArray, List.set_cons_zero, List.set_cons_succ]
              replace ew := ew.symm
              subst ew
              clear hpk
              refine wpList_runTo rfl (some 131) rfl (.int .i64 ((i : Int) + (k0 : Int))) W3 (by exact addN_run (.tmp 126) (.tmp 130) rfl (by kernel_rfl) (by kernel_rfl) (by omega) _) ?_
              simp only [Act.put, List.setIfInBounds_toArray, List.set_cons_zero, List.set_cons_succ]
              refine wpList_runTo rfl (some 132) rfl (.slice (some ⟨gd, od, none⟩) E.length cs) W3 (by kernel_rfl) ?_
              simp only [Act.put, List.setIfInBounds_toArray, List.set_cons_zero, List.set_cons_succ]
              refine wpList_runTo rfl (some 133) rfl (.int .i64 (E.length : Int)) W3 (by exact lenO_run (v := .slice (some ⟨gd, od, none⟩) E.length cs) (ao := some ⟨gd, od, none⟩) (c := cs) rfl (.tmp 132) rfl (by kernel_rfl) _) ?_
              simp only [Act.put, List.setIfInBounds_toArray, List.set_cons_zero, List.set_cons_succ]
              refine wpList_runTo rfl (some 134) rfl (.int .i64 (j : Int)) W3 (by exact remN_run (p := (i : Int) + (k0 : Int)) (q := (E.length : Int)) (.tmp 131) (.tmp 133) rfl (by kernel_rfl) (by kernel_rfl) (by omega) hjr (by omega) _) ?_
              simp only [Act.put, List.setIfInBounds_toArray, List.set_cons_zero, List.set_cons_succ]
              refine wpList_runTo rfl (some 135) rfl (.pointer (some ⟨gd, od + j * 15, none⟩)) W3 (by exact ixOr_run (n := E.length) (c := cs) (.tmp 125) (.tmp 134) rfl (by kernel_rfl) (by kernel_rfl) hjl _) ?_
              simp only [Act.put, List.setIfInBounds_toArray, List.set_cons_zero, List.set_cons_succ]
              refine wpList_runTo rfl (some 136) rfl (.agg (odC o.id o.ty o.pr o.qt)) W3 (by exact ldA_run hrg Try.underlying42 rfl infoO (.tmp 135) rfl (by kernel_rfl)) ?_
              simp only [Act.put, List.setIfInBounds_toArray, List.set_cons_zero, List.set_cons_succ]
              refine wpList_runTo rfl (some 137) rfl (.slice (some ⟨W3.heap.size, 0, none⟩) 1 1) (W3.alloc (.cells (odC o.id o.ty o.pr o.qt) 42)) (by exact buildOs_run (.tmp 136) rfl (by kernel_rfl) _) ?_
              simp only [Act.put, List.setIfInBounds_toArray, List.set_cons_zero, List.set_cons_succ]
              have hrA : RowAt (W3.alloc (.cells (odC o.id o.ty o.pr o.qt) 42)) 42 15 v ((rotL E k0).take i).length (flatL (fun o => o.cs.toList) ((rotL E k0).take i)) := HO.out.row.fr (Fr.alloc W3 _ (fun _ => False)) fun _ _ => id
              refine wpList_append_row _ rfl (.tmp 124) (.tmp 137) 24 rfl 42 i0 _ 15 144 Try.underlying24 HI.out.1 HI.out.2.1 HI.out.2.2.1 HI.out.2.2.2 (by rfl) v ((rotL E k0).take i).length (flatL (fun o => o.cs.toList) ((rotL E k0).take i)) (by kernel_rfl) hrA ⟨W3.heap.size, 0, none⟩ 1 1 (odC o.id o.ty o.pr o.qt).toList (by kernel_rfl) (by rfl) (fun j u hj => by rw [Addr.add_mid, Nat.zero_add, (Blk.new W3 42 (odC o.id o.ty o.pr o.qt)).cell]; simpa using hj) (fun u hu => by simp [odC] at hu; rcases hu with rfl | rfl | rfl | rfl | rfl | rfl | rfl | rfl | rfl | rfl | rfl | rfl | rfl | rfl | rfl <;> rfl) (Or.inl (by omega)) (by have := HOD.out.2.2; unfold maxLen; omega) (by have := HOD.out.2.2; omega) ?_
              intro v5 w5 hrow hfr hnew
              have HX : Hid (OO W2 w5 v5 ((rotL E k0).take (i + 1))) := by
                show OO W2 w5 v5 ((rotL E k0).take (i + 1))
                rw [HOD.out.2.1]
                refine (HO.out.below ((Below.refl _ W3).alloc (Nat.le_refl _) _)).app (p := o) ?_ hfr hnew
                rw [HOD.out.1]
                exact hrow
              clear hrow hfr hnew hrA HO HOD hrg
              simp only [Act.put, List.setIfInBounds_toArray, List.set_cons_zero, List.set_cons_succ]
              refine wpList_runTo rfl (some 21) rfl (v5) w5 (by kernel_rfl) ?_
              simp only [Act.put, List.setIfInBounds_toArray, List.set_cons_zero, List.set_cons_succ]
              refine wpList_nil ?_
              go_wp2
              exact ⟨⟨i + 1, _, by omega, rfl, by go_num, HX.out⟩, by simp [RowKit.intOf]; omega⟩
            · have hin : i = E.length := by omega
              have hlt' : ¬ (i : Int) < (E.length : Int) := by omega
              obtain ⟨ER, hER⟩ : ∃ ER, ER = (rotL E k0).take i := ⟨_, rfl⟩
              have HE2 : Hid (OO W2 W3 v ER ∧ ER.Perm E) := by
                refine ⟨by rw [hER]; exact HO.out, ?_⟩
                by_cases h0 : 0 < E.length
                · have := (HK0.out h0).2
                  rw [hER, hin, List.take_of_length_le (by rw [rotL_len (by omega)]; exact Nat.le_refl _)]
                  exact rotL_perm E k0
                · have : E = [] := List.eq_nil_of_length_eq_zero (by omega)
                  rw [hER, hin, this]
                  simp
              clear HO hER
              generalize v = v21 at *
              have HAH : Hid (AF w W3 D E F av az af cv cs cf g r) := HAG.out.below HE2.out.1.bel
              have HB2 : Hid (RowAt W3 42 15 v19 D.reverse.length (flatL (fun o => o.cs.toList) D.reverse) ∧ RowAt W3 42 15 v21 ER.length (flatL (fun o => o.cs.toList) ER) ∧ D.reverse.Perm D ∧ ER.Perm E ∧ (∀ o ∈ D.reverse, o.ok) ∧ (∀ o ∈ ER, o.ok) ∧ D.reverse.length ≤ 2000000 ∧ ER.length ≤ 2000000) := ⟨HB1.out.row.fr (Fr.of_below HE2.out.1.bel (fun _ => False)) fun _ _ => id, HE2.out.1.row, List.reverse_perm D, HE2.out.2, fun o ho => HD.out.1.ok o (List.mem_reverse.1 ho), fun o ho => HD.out.2.ok o (HE2.out.2.mem_iff.1 ho), by rw [List.length_reverse]; exact HD.out.1.len, by rw [HE2.out.2.length_eq]; exact HD.out.2.len⟩
              clear HE2 HB1 HAG HAF
              generalize D.reverse = DR at *
              obtain ⟨a9, c9, ev9, _⟩ := HB2.out.1.form
              obtain ⟨a1, c1, ev1, _⟩ := HB2.out.2.1.form
              subst ev9 ev1
              go_upto_region 28 with fail
              rename_i K hK
              refine wp_region_held (S := fun w' => Below W3.heap.size W3 w') (by kernel_rfl) ?_
              change wpAnyH _ _ _ _ _ _ _ _ (World.drew _)
              have hS0 : Below W3.heap.size W3 W3.drew := (Below.refl _ W3).drew
              generalize W3.drew = Z0 at *
              refine takeR (i := 0) (v := .slice a9 DR.length c9) (some 139) rfl rfl (by kernel_rfl) (by kernel_rfl) (by kernel_rfl) (fun _ _ _ h => h) (Or.inl ⟨by kernel_rfl, fun w' hSw => by kernel_rfl⟩) hS0 ?_
              simp only [Act.put, List.setIfInBounds_toArray, List.set_cons_zero, List.set_cons_succ]
              refine takeR (i := 1) (v := .slice a1 ER.length c1) (some 140) rfl rfl (by kernel_rfl) (by kernel_rfl) (by kernel_rfl) (fun _ _ _ h => h) (Or.inl ⟨by kernel_rfl, fun w' hSw => by kernel_rfl⟩) hS0 ?_
              simp only [Act.put, List.setIfInBounds_toArray, List.set_cons_zero, List.set_cons_succ]
              refine takeR (i := 2) (v := .int .i64 rf) (some 141) rfl rfl (by kernel_rfl) (by kernel_rfl) (by kernel_rfl) (fun _ _ _ h => h) (Or.inl ⟨by kernel_rfl, fun w' hSw => by kernel_rfl⟩) hS0 ?_
              simp only [Act.put, List.setIfInBounds_toArray, List.set_cons_zero, List.set_cons_succ]
              refine takeR (i := 4) (v := .agg r.cs) (some 143) rfl rfl (by kernel_rfl) (by kernel_rfl) (by kernel_rfl) (fun _ _ _ h => h) (Or.inl ⟨by kernel_rfl, fun w' hSw => by exact ldA_run (blk_range (HAH.out.below hSw).blk) Try.underlying28 rfl infoRs (.tmp 13) rfl (by kernel_rfl)⟩) hS0 ?_
              simp only [Act.put, List.setIfInBounds_toArray, List.set_cons_zero, List.set_cons_succ]
              have hcp := Price_any (w := Z0) (HB2.out.1.fr (Fr.of_below hS0 (fun _ => False)) fun _ _ => id) HB2.out.2.2.2.2.1 (by have := HB2.out.2.2.2.2.2.2.1; omega) (HB2.out.2.1.fr (Fr.of_below hS0 (fun _ => False)) fun _ _ => id) HB2.out.2.2.2.2.2.1 (by have := HB2.out.2.2.2.2.2.2.2; omega) rf
              refine wpAnyH_ready (rs := [3]) (by kernel_rfl) (by simp) ?_
              refine AllReadyH.cons rfl (fun K1 hK1 => ?_) AllReadyH.nil
              rw [if_pos (by kernel_rfl)]
              refine callR (d := some 142) rfl 9 #[.slice a9 DR.length c9, .slice a1 ER.length c1, .int .i64 rf] (by kernel_rfl) hcp ?_
              clear hcp
              rintro e Z1 ⟨r2, rfl, H2⟩
              refine ⟨_, rfl, ?_⟩
              have hS1 : Below W3.heap.size W3 Z1 := below_step hS0 H2.out.1
              have hr2 : r = r2 := by
                obtain ⟨B', S', k1, k2⟩ := H2.out.2
                obtain ⟨B, S, k3, k4⟩ := HA.out.2.2
                rw [k2, k4]
                exact (res_one HB2.out.2.2.1 HB2.out.2.2.2.1 k3 k1).symm
              subst hr2
              clear H2
              refine hK1.out _ _ hS1 (fun hzz => ?_)
              clear hK1 hzz
              simp only [Act.put, List.setIfInBounds_toArray, List.set_cons_zero, List.set_cons_succ]
              refine takeR (i := 5) (v := .bool true) (some 144) rfl rfl (by kernel_rfl) (by kernel_rfl) (by kernel_rfl) (fun _ _ _ h => h) (Or.inl ⟨by kernel_rfl, fun w' hSw => by exact eqRs_run r (.tmp 142) (.tmp 143) rfl (by kernel_rfl) (by kernel_rfl) _⟩) hS1 ?_
              simp only [Act.put, List.setIfInBounds_toArray, List.set_cons_zero, List.set_cons_succ]
              refine takeR (i := 6) (v := .bool true) (some 145) rfl rfl (by kernel_rfl) (by kernel_rfl) (by kernel_rfl) (fun _ _ _ h => h) (Or.inl ⟨by kernel_rfl, fun w' hSw => by kernel_rfl⟩) hS1 ?_
              simp only [Act.put, List.setIfInBounds_toArray, List.set_cons_zero, List.set_cons_succ]
              refine takeR (i := 7) (v := .slice a9 DR.length c9) (some 146) rfl rfl (by kernel_rfl) (by kernel_rfl) (by kernel_rfl) (fun _ _ _ h => h) (Or.inl ⟨by kernel_rfl, fun w' hSw => by kernel_rfl⟩) hS1 ?_
              simp only [Act.put, List.setIfInBounds_toArray, List.set_cons_zero, List.set_cons_succ]
              refine takeR (i := 8) (v := .slice a1 ER.length c1) (some 147) rfl rfl (by kernel_rfl) (by kernel_rfl) (by kernel_rfl) (fun _ _ _ h => h) (Or.inl ⟨by kernel_rfl, fun w' hSw => by kernel_rfl⟩) hS1 ?_
              simp only [Act.put, List.setIfInBounds_toArray, List.set_cons_zero, List.set_cons_succ]
              refine takeR (i := 9) (v := .agg r.cs) (some 148) rfl rfl (by kernel_rfl) (by kernel_rfl) (by kernel_rfl) (fun _ _ _ h => h) (Or.inl ⟨by kernel_rfl, fun w' hSw => by exact ldA_run (blk_range (HAH.out.below hSw).blk) Try.underlying28 rfl infoRs (.tmp 13) rfl (by kernel_rfl)⟩) hS1 ?_
              simp only [Act.put, List.setIfInBounds_toArray, List.set_cons_zero, List.set_cons_succ]
              refine takeR (i := 11) (v := .slice af F.length cf) (some 150) rfl rfl (by kernel_rfl) (by kernel_rfl) (by kernel_rfl) (fun _ _ _ h => h) (Or.inl ⟨by kernel_rfl, fun w' hSw => by kernel_rfl⟩) hS1 ?_
              simp only [Act.put, List.setIfInBounds_toArray, List.set_cons_zero, List.set_cons_succ]
              have hcf := Fills_any (w := Z1) (HB2.out.1.fr (Fr.of_below hS1 (fun _ => False)) fun _ _ => id) HB2.out.2.2.2.2.1 (by have := HB2.out.2.2.2.2.2.2.1; omega) (HB2.out.2.1.fr (Fr.of_below hS1 (fun _ => False)) fun _ _ => id) HB2.out.2.2.2.2.2.1 (by have := HB2.out.2.2.2.2.2.2.2; omega) r HA.out.2.1.1.2
              refine wpAnyH_ready (rs := [10]) (by kernel_rfl) (by simp) ?_
              refine AllReadyH.cons rfl (fun K1 hK1 => ?_) AllReadyH.nil
              rw [if_pos (by kernel_rfl)]
              refine callR (d := some 149) rfl 14 #[.slice a9 DR.length c9, .slice a1 ER.length c1, .agg r.cs] (by kernel_rfl) hcf ?_
              clear hcf
              rintro e Z2 ⟨v149, rfl, H3⟩
              refine ⟨_, rfl, ?_⟩
              obtain ⟨F2, hF2, hV2⟩ := H3.out
              have hFF : F = F2 := (FV_one HD.out.1.gd HD.out.2.gd HD.out.1.nd HD.out.2.nd HB2.out.2.2.1 HB2.out.2.2.2.1 HF.out.2.1 hV2).symm
              subst hFF
              have hS2 : Below W3.heap.size W3 Z2 := below_step hS1 hF2.bel
              obtain ⟨a2, c2, ev2, _⟩ := hF2.row.form
              subst ev2
              refine hK1.out _ _ hS2 (fun hzz => ?_)
              clear hK1 hzz H3 hV2
              simp only [Act.put, List.setIfInBounds_toArray, List.set_cons_zero, List.set_cons_succ]
              have hfl := fillsL_any (w := Z2) hF2.row (HAH.out.below hS2).rf (by omega)
              refine wpAnyH_ready (rs := [12]) (by kernel_rfl) (by simp) ?_
              refine AllReadyH.cons rfl (fun K1 hK1 => ?_) AllReadyH.nil
              rw [if_pos (by kernel_rfl)]
              refine callR (d := some 151) rfl 16 #[.slice a2 F.length c2, .slice af F.length cf] (by kernel_rfl) hfl ?_
              clear hfl
              rintro e Z3 ⟨rfl, hb3⟩
              refine ⟨_, rfl, ?_⟩
              have hS3 : Below W3.heap.size W3 Z3 := below_step hS2 hb3
              refine hK1.out _ _ hS3 (fun hzz => ?_)
              clear hK1 hzz
              simp only [Act.put, List.setIfInBounds_toArray, List.set_cons_zero, List.set_cons_succ]
              refine takeR (i := 13) (v := .bool true) (some 152) rfl rfl (by kernel_rfl) (by kernel_rfl) (by kernel_rfl) (fun _ _ _ h => h) (Or.inl ⟨by kernel_rfl, fun w' hSw => by exact pick_run (c := true) (.tmp 145) (.tmp 151) rfl (by kernel_rfl) (by kernel_rfl) _⟩) hS3 ?_
              simp only [Act.put, List.setIfInBounds_toArray, List.set_cons_zero, List.set_cons_succ]
              refine takeR (i := 14) (v := .bool true) (some 8) rfl rfl (by kernel_rfl) (by kernel_rfl) (by kernel_rfl) (fun _ _ _ h => h) (Or.inl ⟨by kernel_rfl, fun w' hSw => by kernel_rfl⟩) hS3 ?_
              simp only [Act.put, List.setIfInBounds_toArray, List.set_cons_zero, List.set_cons_succ]
              refine wpAnyH_done (by kernel_rfl) ?_ _
              have HFin : Hid (Below w.heap.size w Z3) := below_step HAH.out.bel hS3
              clear hS0 hS1 hS2 hS3 hb3 hF2 HB2 HAH HA HF HD
              generalize Z3 = w10 at *
              refine hK _ _ ?_
              clear hK
              go_wp2
              go_ret
              exact ⟨rfl, HFin⟩
end Go.Proofs.Ytbhddfcdnpidkaa
