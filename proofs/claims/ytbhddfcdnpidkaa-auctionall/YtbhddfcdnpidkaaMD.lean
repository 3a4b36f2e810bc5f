import Derived.Test.YtbhddfcdnpidkaaMC

namespace Go.Proofs.Ytbhddfcdnpidkaa
set_option linter.unusedVariables false
set_option linter.unusedSimpArgs false
open Go.RowKit Go.Great
attribute [local irreducible] wpList

/-- An order as it may come in. -/
def oC (i : Int) (s t u : ByteArray) (a b c d e f g h j k m : Int) : Array Value := #[.int .i64 i, .string s, .string t, .string u, .int .i64 a, .int .i64 b, .int .i64 c, .int .i64 d, .int .i64 e, .int .i64 f, .int .i64 g, .int .i64 h, .int .i64 j, .int .i64 k, .int .i64 m]
def OdT (o : Od) : Prop := ∃ i s t u a b c d e f g h j k m, o = ⟨oC i s t u a b c d e f g h j k m, i, b, d, f⟩
theorem OdT.ok {o : Od} (h : OdT o) : o.ok := by
  obtain ⟨i, s, t, u, a, b, c, d, e, f, g, h, j, k, m, rfl⟩ := h
  exact ⟨rfl, by simp [oC, Value.oneCell'], rfl, rfl, rfl, rfl⟩
def cntB (o : Od) : Bool := decide (1 ≤ o.qt ∧ o.qt ≤ 1000000 ∧ (o.ty = 2 ∨ (1 ≤ o.pr ∧ o.pr ≤ 1000000000)))
def wnC (o : Od) : Wn := ⟨o.id, decide (o.ty = 2), if o.ty = 2 then 0 else o.pr, o.qt⟩
theorem wnO_cnt (o : Od) : wnO o = if cntB o = true then some (wnC o) else none := by
  unfold wnO cntB wnC
  by_cases h1 : o.qt < 1 ∨ 1000000 < o.qt
  · rw [if_pos h1, if_neg (by simp; omega)]
  · rw [if_neg h1]
    by_cases h2 : o.ty = 2
    · rw [if_pos h2, if_pos (by simp [h2]; omega), if_pos h2, decide_eq_true h2]
    · rw [if_neg h2]
      by_cases h3 : 1 ≤ o.pr ∧ o.pr ≤ 1000000000
      · rw [if_pos h3, if_pos (by simp [h2]; omega), if_neg h2, decide_eq_false h2]
      · rw [if_neg h3, if_neg (by simp [h2]; omega)]
theorem wns_cnt : ∀ l : List Od, wns l = (l.filter cntB).map wnC
  | [] => rfl
  | o :: l => by
    have ih := wns_cnt l
    unfold wns at *
    rw [List.filterMap_cons, wnO_cnt, List.filter_cons]
    cases e : cntB o with
    | true => simp [ih]
    | false => simp [ih]
set_option maxRecDepth 100000 in
theorem refIsPrice_any (w : World) (p : Int) : Calls Try.prog 38 #[.int .i64 p] w fun e w' => e = .returned (.bool (decide (1 ≤ p ∧ p ≤ 1000000000))) ∧ w' = w := by
  by_cases h1 : 1 ≤ p
  · by_cases h2 : p ≤ 1000000000
    · go_enter Try.func38, Try.ntmps38
      go_wp2
      go_ret
      exact ⟨by simp [h1, h2], rfl⟩
    · go_enter Try.func38, Try.ntmps38
      go_wp2
      go_ret
      exact ⟨by simp [h2], rfl⟩
  · go_enter Try.func38, Try.ntmps38
    go_wp2
    go_ret
    exact ⟨by simp; omega, rfl⟩
theorem buildOt_run {op : Oper} {a : Act} {o : Od} (ho' : OdT o) (x : Operand) (ho : op.op = .buildSlice 24 1 #[(0, x)]) (hx : a.eval x = .agg o.cs) (w : World) : (execOp a.eval op).run Try.prog w = .ok (.value (.slice (some ⟨w.heap.size, 0, none⟩) 1 1)) (w.alloc (.cells o.cs 42)) := by
  obtain ⟨i, s, t, u, a', b, c, d, e, f, g, h, j, k, m, rfl⟩ := ho'
  unfold oC at *
  dsimp only at *
  unfold execOp
  simp only [ho, List.map_toArray, List.map_cons, List.map_nil, hx]
  kernel_rfl
theorem filter_take {l : List Od} {i : Nat} {o : Od} (h : l[i]? = some o) : (l.take (i + 1)).filter cntB = (l.take i).filter cntB ++ (if cntB o = true then [o] else []) := by
  rw [List.take_add_one, h, List.filter_append]
  cases e : cntB o <;> simp [e]
theorem filter_len (l : List Od) (i : Nat) : ((l.take i).filter cntB).length ≤ i := Nat.le_trans (List.length_filter_le _ _) (by rw [List.length_take]; omega)
set_option maxRecDepth 100000 in
set_option maxHeartbeats 2000000 in
theorem refCounted_any {w : World} {l : List Od} {a : Option Addr} {c : Nat} (hr : RowIn w 42 15 (.slice a l.length c) l.length (flatL (fun o => o.cs.toList) l)) (hok : ∀ o ∈ l, OdT o) (hl : l.length ≤ 977343669105) :
    Calls Try.prog 37 #[.slice a l.length c] w fun e w' => ∃ v, e = .returned v ∧ Hid (OO w w' v (l.filter cntB)) := by
  obtain ⟨n, hn⟩ : ∃ n, n = l.length := ⟨_, rfl⟩
  have HR : Hid (RowIn w 42 15 (.slice a n c) n (flatL (fun o => o.cs.toList) l) ∧ (∀ o ∈ l, OdT o) ∧ n = l.length ∧ n ≤ 977343669105) := ⟨by rw [hn]; exact hr, hok, hn, by omega⟩
  obtain ⟨i0, hi0, hz0, hz1, hz2⟩ := info_parts infoOd
  have HI : Hid (Try.prog.info? 42 = some i0 ∧ i0.zero = some (.agg #[.int .i64 0, .string ⟨#[]⟩, .string ⟨#[]⟩, .string ⟨#[]⟩, .int .i64 0, .int .i64 0, .int .i64 0, .int .i64 0, .int .i64 0, .int .i64 0, .int .i64 0, .int .i64 0, .int .i64 0, .int .i64 0, .int .i64 0]) ∧ i0.size = 15 ∧ i0.bytes = 144) := ⟨hi0, hz0, hz1, hz2⟩
  rw [← hn] at hl ⊢
  clear hr hok hn hi0 hz0 hz1 hz2
  go_enter Try.func37, Try.ntmps37
  go_upto_region 3 with fail
  go_loopw [3, 4] (fun x3 x4 wr => ∃ (i : Nat) (v : Value), v = x3 ∧ i ≤ n ∧ x4 = .int .i64 (i : Int) ∧ Hid (OO w wr v ((l.take i).filter cntB))) (fun _ x4 _ => n - (RowKit.intOf x4).toNat)
  case atStart => exact ⟨0, .slice none 0 0, rfl, Nat.zero_le _, rfl, RowAt.none0 _ _ _, Below.refl _ _, fun q hq => by cases hq⟩
  case round => as_aux_lemma =>
    obtain ⟨i, v, rfl, hi, rfl, HO⟩ := hrel
    generalize wr = W at *
    by_cases hlt : i < n
    · have hlt' : (i : Int) < (n : Int) := by omega
      obtain ⟨o, ho⟩ : ∃ o, l[i]? = some o := ⟨_, List.getElem?_eq_getElem (by rw [← HR.out.2.2.1]; exact hlt)⟩
      have hrow : RowIn W 42 15 (.slice a n c) n (flatL (fun o => o.cs.toList) l) := HR.out.1.fr (Fr.of_below HO.out.bel (fun _ => False)) fun _ _ => id
      obtain ⟨g, of, c', cur, ea, _⟩ := hrow.more (by omega)
      injection ea with ea1 _ ea2
      subst ea1 ea2
      have hot := HR.out.2.1 o (List.mem_of_getElem? ho)
      have hoks : ∀ o ∈ l, o.ok := fun o ho => (HR.out.2.1 o ho).ok
      have q5 := od_cellI hrow hoks ho (j := 5) (by decide) hot.ok.c5
      have q7 := od_cellI hrow hoks ho (j := 7) (by decide) hot.ok.c7
      have q9 := od_cellI hrow hoks ho (j := 9) (by decide) hot.ok.c9
      have hrg := row_rangeOI hrow hoks ho
      obtain ⟨ty, hty⟩ : ∃ x, x = o.ty := ⟨_, rfl⟩
      obtain ⟨pr, hpr⟩ : ∃ x, x = o.pr := ⟨_, rfl⟩
      obtain ⟨qt, hqt⟩ : ∃ x, x = o.qt := ⟨_, rfl⟩
      obtain ⟨ct, hct⟩ : ∃ x, x = cntB o := ⟨_, rfl⟩
      obtain ⟨pb, hpb⟩ : ∃ x, x = decide (1 ≤ pr ∧ pr ≤ 1000000000) := ⟨_, rfl⟩
      have hcb : ct = decide (1 ≤ qt ∧ qt ≤ 1000000 ∧ (ty = 2 ∨ pb = true)) := by
        rw [hct, hqt, hty, hpb, hpr]; unfold cntB; simp
      rw [← hty] at q5
      rw [← hpr] at q7
      rw [← hqt] at q9
      have hip := refIsPrice_any W pr
      rw [← hpb] at hip
      have HL : Hid (((l.take (i + 1)).filter cntB = (l.take i).filter cntB ++ (if ct = true then [o] else [])) ∧ OdT o ∧ ((l.take i).filter cntB).length ≤ i ∧ o.cs.size = 15) := ⟨by rw [hct]; exact filter_take ho, hot, filter_len l i, hot.ok.sz⟩
      clear ho hrow hot hoks hty hpr hqt hct hpb
      go_upto_region 5 with fail
      rename_i K hK
      refine wp_region_lit ?_
      refine wpList_runTo rfl (some 12) rfl (.slice (some ⟨g, of, none⟩) n c) W (by kernel_rfl) ?_
      simp only [Act.put, List.setIfInBounds_toArray, List.set_cons_zero, List.set_cons_succ]
      refine wpList_runTo rfl (some 13) rfl (.int .i64 (i : Int)) W (by kernel_rfl) ?_
      simp only [Act.put, List.setIfInBounds_toArray, List.set_cons_zero, List.set_cons_succ]
      refine wpList_runTo rfl (some 14) rfl (.pointer (some ⟨g, of + i * 15, none⟩)) W (by exact ixOr_run (n := n) (c := c) (.tmp 12) (.tmp 13) rfl (by kernel_rfl) (by kernel_rfl) hlt _) ?_
      simp only [Act.put, List.setIfInBounds_toArray, List.set_cons_zero, List.set_cons_succ]
      refine wpList_runTo rfl (some 15) rfl (.pointer (some ⟨g, of + i * 15 + 7, none⟩)) W (by kernel_rfl) ?_
      simp only [Act.put, List.setIfInBounds_toArray, List.set_cons_zero, List.set_cons_succ]
      refine wpList_runTo rfl (some 16) rfl (.int .i64 pr) W (by exact ldN_run (.inl rfl) (.tmp 15) rfl (by kernel_rfl) q7) ?_
      simp only [Act.put, List.setIfInBounds_toArray, List.set_cons_zero, List.set_cons_succ]
      refine wpList_callW rfl (some 17) rfl 38 #[.int .i64 pr] (by kernel_rfl) hip ?_
      clear hip q7
      rintro e w' ⟨rfl, ew⟩
      replace ew := ew.symm
      subst ew
      refine ⟨_, rfl, ?_⟩
      simp only [Act.put, List.setIfInBounds_toArray, List.set_cons_zero, List.set_cons_succ]
      refine wpList_runTo rfl (some 5) rfl (.bool pb) W (by kernel_rfl) ?_
      simp only [Act.put, List.setIfInBounds_toArray, List.set_cons_zero, List.set_cons_succ]
      refine wpList_nil ?_
      refine hK _ _ ?_
      clear hK
      go_upto_region 6 with fail
      go_cut [42] (fun x42 wx => x42 = .bool ct ∧ wx = W)
      case first => as_aux_lemma =>
        clear hrg HL HO HI HR
        by_cases h1 : 1 ≤ qt
        · by_cases h2 : qt ≤ 1000000
          · by_cases h3 : ty = 2
            · have e3 : (ty == 2) = true := by simp [h3]
              have ec : ct = true := by rw [hcb]; simp [h1, h2, h3]
              subst ec
              clear hcb h3
              go_wp2_with fail
              go_meet
              exact ⟨rfl, rfl⟩
            · have e3 : (ty == 2) = false := by simp [h3]
              have ec : pb = ct := by rw [hcb]; simp [h1, h2, h3]
              subst ec
              clear hcb h3
              go_wp2_with fail
              go_meet
              exact ⟨rfl, rfl⟩
          · have ec : ct = false := by rw [hcb]; simp [h2]
            subst ec
            clear hcb
            go_wp2_with fail
            go_meet
            exact ⟨rfl, rfl⟩
        · have ec : ct = false := by rw [hcb]; simp [h1]
          subst ec
          clear hcb
          go_wp2_with fail
          go_meet
          exact ⟨rfl, rfl⟩
      case rest => as_aux_lemma =>
        obtain ⟨rfl, ew⟩ := hcut
        replace ew := ew.symm
        subst ew
        clear q5 q9 hcb
        cases ct with
        | false =>
          have HN : Hid (OO w W v ((l.take (i + 1)).filter cntB)) := by
            show OO w W v ((l.take (i + 1)).filter cntB)
            rw [HL.out.1]
            simpa using HO.out
          clear HL HO hrg
          go_wp2
          exact ⟨⟨i + 1, _, rfl, by omega, by go_num, HN.out⟩, by simp [RowKit.intOf]; omega⟩
        | true =>
          go_upto_region 7 with fail
          refine wp_region_lit ?_
          refine wpList_runTo rfl (some 43) rfl (v) W (by kernel_rfl) ?_
          simp only [Act.put, List.setIfInBounds_toArray, List.set_cons_zero, List.set_cons_succ]
          refine wpList_runTo rfl (some 44) rfl (.slice (some ⟨g, of, none⟩) n c) W (by kernel_rfl) ?_
          simp only [Act.put, List.setIfInBounds_toArray, List.set_cons_zero, List.set_cons_succ]
          refine wpList_runTo rfl (some 45) rfl (.int .i64 (i : Int)) W (by kernel_rfl) ?_
          simp only [Act.put, List.setIfInBounds_toArray, List.set_cons_zero, List.set_cons_succ]
          refine wpList_runTo rfl (some 46) rfl (.pointer (some ⟨g, of + i * 15, none⟩)) W (by exact ixOr_run (n := n) (c := c) (.tmp 44) (.tmp 45) rfl (by kernel_rfl) (by kernel_rfl) hlt _) ?_
          simp only [Act.put, List.setIfInBounds_toArray, List.set_cons_zero, List.set_cons_succ]
          refine wpList_runTo rfl (some 47) rfl (.agg o.cs) W (by exact ldA_run hrg Try.underlying42 rfl (by rw [HL.out.2.2.2]; exact infoO) (.tmp 46) rfl (by kernel_rfl)) ?_
          simp only [Act.put, List.setIfInBounds_toArray, List.set_cons_zero, List.set_cons_succ]
          refine wpList_runTo rfl (some 48) rfl (.slice (some ⟨W.heap.size, 0, none⟩) 1 1) (W.alloc (.cells o.cs 42)) (by exact buildOt_run HL.out.2.1 (.tmp 47) rfl (by kernel_rfl) _) ?_
          simp only [Act.put, List.setIfInBounds_toArray, List.set_cons_zero, List.set_cons_succ]
          have hrA : RowAt (W.alloc (.cells o.cs 42)) 42 15 v ((l.take i).filter cntB).length (flatL (fun o => o.cs.toList) ((l.take i).filter cntB)) := HO.out.row.fr (Fr.alloc W _ (fun _ => False)) fun _ _ => id
          refine wpList_append_row _ rfl (.tmp 43) (.tmp 48) 24 rfl 42 i0 _ 15 144 Try.underlying24 HI.out.1 HI.out.2.1 HI.out.2.2.1 HI.out.2.2.2 (by rfl) v ((l.take i).filter cntB).length (flatL (fun o => o.cs.toList) ((l.take i).filter cntB)) (by kernel_rfl) hrA ⟨W.heap.size, 0, none⟩ 1 1 o.cs.toList (by kernel_rfl) (by rw [Array.length_toList, HL.out.2.2.2]) (fun j u hj => by rw [Addr.add_mid, Nat.zero_add, (Blk.new W 42 o.cs).cell, ← Array.getElem?_toList]; exact hj) (fun u hu => by have := HL.out.2.1.ok.one; rw [Array.all_eq_true'] at this; exact this u (Array.mem_def.2 hu)) (Or.inl (by omega)) (by have := HL.out.2.2.1; unfold maxLen; omega) (by have := HL.out.2.2.1; omega) ?_
          intro v5 w5 hrow hfr hnew
          have HX : Hid (OO w w5 v5 ((l.take (i + 1)).filter cntB)) := by
            show OO w w5 v5 ((l.take (i + 1)).filter cntB)
            rw [HL.out.1, if_pos rfl]
            exact (HO.out.below ((Below.refl _ W).alloc (Nat.le_refl _) _)).app (p := o) hrow hfr hnew
          clear hrow hfr hnew hrA HO HL hrg
          simp only [Act.put, List.setIfInBounds_toArray, List.set_cons_zero, List.set_cons_succ]
          refine wpList_runTo rfl (some 3) rfl (v5) w5 (by kernel_rfl) ?_
          simp only [Act.put, List.setIfInBounds_toArray, List.set_cons_zero, List.set_cons_succ]
          refine wpList_nil ?_
          go_wp2
          exact ⟨⟨i + 1, _, rfl, by omega, by go_num, HX.out⟩, by simp [RowKit.intOf]; omega⟩
    · have hlt' : ¬ (i : Int) < (n : Int) := by omega
      have HF : Hid (OO w W v (l.filter cntB)) := by
        have h := HO.out
        have e : l.take i = l := List.take_of_length_le (by have := HR.out.2.2.1; omega)
        rw [e] at h
        exact h
      clear HO
      go_wp2
      go_ret
      exact ⟨_, rfl, HF⟩
end Go.Proofs.Ytbhddfcdnpidkaa

namespace Go.Proofs.Ytbhddfcdnpidkaa
set_option linter.unusedVariables false
set_option linter.unusedSimpArgs false
open Go.RowKit Go.Great
attribute [local irreducible] wpList

theorem refLesser_any (w : World) (a b : Int) : Calls Try.prog 40 #[.int .i64 a, .int .i64 b] w fun e w' => e = .returned (.int .i64 (if a < b then a else b)) ∧ w' = w := by
  by_cases h : a < b
  · go_enter Try.func40, Try.ntmps40
    go_wp2
    go_ret
    exact ⟨by simp [h], rfl⟩
  · go_enter Try.func40, Try.ntmps40
    go_wp2
    go_ret
    exact ⟨by simp [h], rfl⟩
theorem refFar_any (w : World) (a b : Int) (h1 : 0 ≤ a ∧ a ≤ 5000000000000000000) (h2 : 0 ≤ b ∧ b ≤ 5000000000000000000) : Calls Try.prog 41 #[.int .i64 a, .int .i64 b] w fun e w' => e = .returned (.int .i64 (if a < b then b - a else a - b)) ∧ w' = w := by
  have e1 : IntKind.i64.wrap (a - b) = a - b := by rw [IntKind.wrap_i64]; omega
  have e2 : IntKind.i64.wrap (b - a) = b - a := by rw [IntKind.wrap_i64]; omega
  by_cases h : a < b
  · go_enter Try.func41, Try.ntmps41
    go_wp2
    go_ret
    exact ⟨by simp_all, rfl⟩
  · go_enter Try.func41, Try.ntmps41
    go_wp2
    go_ret
    exact ⟨by simp_all, rfl⟩
theorem sumC_take {f : Wn → Bool} : ∀ {l : List Od} {i : Nat} {o : Od}, l[i]? = some o → sumW f ((l.take (i + 1)).map wnC) = sumW f ((l.take i).map wnC) + (if f (wnC o) = true then o.qt else 0)
  | [], _, _, h => by simp at h
  | a :: l, 0, o, h => by
    simp only [List.getElem?_cons_zero, Option.some.injEq] at h
    subst h
    simp [sumW, wnC]
    try (split <;> rfl)
  | a :: l, i + 1, o, h => by
    simp only [List.getElem?_cons_succ] at h
    have := sumC_take (f := f) h
    simp only [List.take_succ_cons, List.map_cons, sumW] at *
    omega
theorem cnt_q {o : Od} (h : cntB o = true) : 1 ≤ o.qt ∧ o.qt ≤ 1000000 ∧ (o.ty = 2 ∨ (1 ≤ o.pr ∧ o.pr ≤ 1000000000)) := of_decide_eq_true h
theorem sumC_bd {f : Wn → Bool} : ∀ {l : List Od}, (∀ o ∈ l, cntB o = true) → 0 ≤ sumW f (l.map wnC) ∧ sumW f (l.map wnC) ≤ l.length * 1000000
  | [], _ => by simp [sumW]
  | o :: l, h => by
    have := sumC_bd (f := f) (l := l) fun x hx => h x (List.mem_cons_of_mem _ hx)
    have := cnt_q (h o List.mem_cons_self)
    simp only [List.map_cons, sumW, List.length_cons, wnC]
    split <;> omega
theorem sumC_bt {f : Wn → Bool} {l : List Od} (i : Nat) (h : ∀ o ∈ l, cntB o = true) (hl : l.length ≤ 2000000000000) : 0 ≤ sumW f ((l.take i).map wnC) ∧ sumW f ((l.take i).map wnC) ≤ 2000000000000000000 := by
  have := sumC_bd (f := f) (l := l.take i) fun o ho => h o ((List.take_prefix i l).subset ho)
  have : (l.take i).length ≤ l.length := (List.take_prefix i l).length_le
  omega
set_option maxRecDepth 100000 in
set_option maxHeartbeats 4000000 in
theorem refSums_any {w : World} {b s : List Od} {a a' : Option Addr} {c c' : Nat} (hb : RowAt w 42 15 (.slice a b.length c) b.length (flatL (fun o => o.cs.toList) b)) (hbo : ∀ o ∈ b, o.ok) (hbc : ∀ o ∈ b, cntB o = true) (hbl : b.length ≤ 2000000000000) (hs : RowAt w 42 15 (.slice a' s.length c') s.length (flatL (fun o => o.cs.toList) s)) (hso : ∀ o ∈ s, o.ok) (hsc : ∀ o ∈ s, cntB o = true) (hsl : s.length ≤ 2000000000000) (p : Int) :
    Calls Try.prog 39 #[.slice a b.length c, .slice a' s.length c', .int .i64 p] w fun e w' => e = .returned (.tuple #[.int .i64 (bo (b.map wnC) p), .int .i64 (so (s.map wnC) p)]) ∧ w' = w := by
  obtain ⟨nb, hnb⟩ : ∃ nb, nb = b.length := ⟨_, rfl⟩
  obtain ⟨ns, hns⟩ : ∃ ns, ns = s.length := ⟨_, rfl⟩
  have HR : Hid ((RowAt w 42 15 (.slice a nb c) nb (flatL (fun o => o.cs.toList) b) ∧ (∀ o ∈ b, o.ok) ∧ (∀ o ∈ b, cntB o = true) ∧ nb = b.length) ∧ RowAt w 42 15 (.slice a' ns c') ns (flatL (fun o => o.cs.toList) s) ∧ (∀ o ∈ s, o.ok) ∧ (∀ o ∈ s, cntB o = true) ∧ ns = s.length) := ⟨⟨by rw [hnb]; exact hb, hbo, hbc, hnb⟩, by rw [hns]; exact hs, hso, hsc, hns⟩
  rw [← hnb] at hbl ⊢
  rw [← hns] at hsl ⊢
  obtain ⟨X, hX⟩ : ∃ X, X = bo (b.map wnC) p := ⟨_, rfl⟩
  obtain ⟨Y, hY⟩ : ∃ Y, Y = so (s.map wnC) p := ⟨_, rfl⟩
  have HXY : Hid (X = bo (b.map wnC) p ∧ Y = so (s.map wnC) p) := ⟨hX, hY⟩
  rw [← hX, ← hY]
  clear hb hbo hbc hs hso hsc hnb hns hX hY
  go_enter Try.func39, Try.ntmps39
  go_upto_region 4 with fail
  go_loopw [8, 10] (fun x8 x10 wr => ∃ (i : Nat) (S : Int), i ≤ nb ∧ x8 = .int .i64 S ∧ x10 = .int .i64 (i : Int) ∧ wr = w ∧ Hid (S = sumW (atB p) ((b.take i).map wnC))) (fun _ x10 _ => nb - (RowKit.intOf x10).toNat)
  case atStart => exact ⟨0, 0, Nat.zero_le _, rfl, rfl, rfl, rfl⟩
  case round => as_aux_lemma =>
    obtain ⟨i, S, hi, rfl, rfl, hw, HS⟩ := hrel
    subst hw
    by_cases hlt : i < nb
    · have hlt' : (i : Int) < (nb : Int) := by omega
      obtain ⟨o, ho⟩ : ∃ o, b[i]? = some o := ⟨_, List.getElem?_eq_getElem (by rw [← HR.out.1.2.2.2]; exact hlt)⟩
      obtain ⟨g, of, c1, cur, ea, _⟩ := HR.out.1.1.more (by omega)
      injection ea with ea1 _ ea2
      subst ea1 ea2
      have hok := HR.out.1.2.1 o (List.mem_of_getElem? ho)
      have q5 := od_cell HR.out.1.1 HR.out.1.2.1 ho (j := 5) (by decide) hok.c5
      have q7 := od_cell HR.out.1.1 HR.out.1.2.1 ho (j := 7) (by decide) hok.c7
      have q9 := od_cell HR.out.1.1 HR.out.1.2.1 ho (j := 9) (by decide) hok.c9
      have hcq := cnt_q (HR.out.1.2.2.1 o (List.mem_of_getElem? ho))
      have hbd := sumC_bt (f := atB p) i HR.out.1.2.2.1 (by rw [← HR.out.1.2.2.2]; exact hbl)
      rw [← HS.out] at hbd
      have hst := sumC_take (f := atB p) ho
      rw [← HS.out] at hst
      have hat : atB p (wnC o) = (decide (o.ty = 2) || decide (p ≤ (if o.ty = 2 then 0 else o.pr))) := rfl
      rw [hat] at hst
      have hwr : IntKind.i64.wrap (S + o.qt) = S + o.qt := by rw [IntKind.wrap_i64]; omega
      have HN : Hid (sumW (atB p) ((b.take (i + 1)).map wnC) = S + if (decide (o.ty = 2) || decide (p ≤ (if o.ty = 2 then 0 else o.pr))) = true then o.qt else 0) := hst
      clear hst hat hcq hok hbd HS ho HXY
      generalize o.qt = qt at *
      generalize o.ty = ty at *
      generalize o.pr = pr at *
      by_cases hty : ty = 2
      · have e1 : (ty == 2) = true := by simp [hty]
        have HN2 : Hid (S + qt = sumW (atB p) ((b.take (i + 1)).map wnC)) := by show _ = _; rw [HN.out]; simp [hty]
        clear HN hty
        go_wp2
        exact ⟨⟨i + 1, _, by omega, rfl, by go_num, by first | rfl | trivial, HN2.out⟩, by simp [RowKit.intOf]; omega⟩
      · have e1 : (ty == 2) = false := by simp [hty]
        by_cases hp : p ≤ pr
        · have HN2 : Hid (S + qt = sumW (atB p) ((b.take (i + 1)).map wnC)) := by show _ = _; rw [HN.out]; simp [hty, hp]
          clear HN hty
          go_wp2
          exact ⟨⟨i + 1, _, by omega, rfl, by go_num, by first | rfl | trivial, HN2.out⟩, by simp [RowKit.intOf]; omega⟩
        · have HN2 : Hid (S = sumW (atB p) ((b.take (i + 1)).map wnC)) := by show _ = _; rw [HN.out]; simp [hty, hp]
          clear HN hty
          go_wp2
          exact ⟨⟨i + 1, _, by omega, rfl, by go_num, by first | rfl | trivial, HN2.out⟩, by simp [RowKit.intOf]; omega⟩
    · have hlt' : ¬ (i : Int) < (nb : Int) := by omega
      have hSX : S = X := by
        rw [HS.out, HXY.out.1, List.take_of_length_le (by have := HR.out.1.2.2.2; omega)]; rfl
      subst hSX
      clear HS hlt hi
      go_upto_region 9 with fail
      go_loopw [9, 11] (fun x9 x11 wr2 => ∃ (i : Nat) (T : Int), i ≤ ns ∧ x9 = .int .i64 T ∧ x11 = .int .i64 (i : Int) ∧ wr2 = wr ∧ Hid (T = sumW (atS p) ((s.take i).map wnC))) (fun _ x11 _ => ns - (RowKit.intOf x11).toNat)
      case atStart => exact ⟨0, 0, Nat.zero_le _, rfl, rfl, rfl, rfl⟩
      case round => as_aux_lemma =>
        obtain ⟨j, T, hi, rfl, rfl, hw, HS⟩ := hrel
        subst hw
        by_cases hlt : j < ns
        · have hlt2 : (j : Int) < (ns : Int) := by omega
          obtain ⟨o, ho⟩ : ∃ o, s[j]? = some o := ⟨_, List.getElem?_eq_getElem (by rw [← HR.out.2.2.2.2]; exact hlt)⟩
          obtain ⟨g, of, c1, cur, ea, _⟩ := HR.out.2.1.more (by omega)
          injection ea with ea1 _ ea2
          subst ea1 ea2
          have hok := HR.out.2.2.1 o (List.mem_of_getElem? ho)
          have q5 := od_cell HR.out.2.1 HR.out.2.2.1 ho (j := 5) (by decide) hok.c5
          have q7 := od_cell HR.out.2.1 HR.out.2.2.1 ho (j := 7) (by decide) hok.c7
          have q9 := od_cell HR.out.2.1 HR.out.2.2.1 ho (j := 9) (by decide) hok.c9
          have hcq := cnt_q (HR.out.2.2.2.1 o (List.mem_of_getElem? ho))
          have hbd := sumC_bt (f := atS p) j HR.out.2.2.2.1 (by rw [← HR.out.2.2.2.2]; exact hsl)
          rw [← HS.out] at hbd
          have hst := sumC_take (f := atS p) ho
          rw [← HS.out] at hst
          have hat : atS p (wnC o) = (decide (o.ty = 2) || decide ((if o.ty = 2 then 0 else o.pr) ≤ p)) := rfl
          rw [hat] at hst
          have hwr : IntKind.i64.wrap (T + o.qt) = T + o.qt := by rw [IntKind.wrap_i64]; omega
          have HN : Hid (sumW (atS p) ((s.take (j + 1)).map wnC) = T + if (decide (o.ty = 2) || decide ((if o.ty = 2 then 0 else o.pr) ≤ p)) = true then o.qt else 0) := hst
          clear hst hat hcq hok hbd HS ho HXY
          generalize o.qt = qt at *
          generalize o.ty = ty at *
          generalize o.pr = pr at *
          by_cases hty : ty = 2
          · have e1 : (ty == 2) = true := by simp [hty]
            have HN2 : Hid (T + qt = sumW (atS p) ((s.take (j + 1)).map wnC)) := by show _ = _; rw [HN.out]; simp [hty]
            clear HN hty
            go_wp2
            exact ⟨⟨j + 1, _, by omega, rfl, by go_num, by first | rfl | trivial, HN2.out⟩, by simp [RowKit.intOf]; omega⟩
          · have e1 : (ty == 2) = false := by simp [hty]
            by_cases hp : pr ≤ p
            · have HN2 : Hid (T + qt = sumW (atS p) ((s.take (j + 1)).map wnC)) := by show _ = _; rw [HN.out]; simp [hty, hp]
              clear HN hty
              go_wp2
              exact ⟨⟨j + 1, _, by omega, rfl, by go_num, by first | rfl | trivial, HN2.out⟩, by simp [RowKit.intOf]; omega⟩
            · have HN2 : Hid (T = sumW (atS p) ((s.take (j + 1)).map wnC)) := by show _ = _; rw [HN.out]; simp [hty, hp]
              clear HN hty
              go_wp2
              exact ⟨⟨j + 1, _, by omega, rfl, by go_num, by first | rfl | trivial, HN2.out⟩, by simp [RowKit.intOf]; omega⟩
        · have hlt2 : ¬ (j : Int) < (ns : Int) := by omega
          have hSY : T = Y := by
            rw [HS.out, HXY.out.2, List.take_of_length_le (by have := HR.out.2.2.2.2; omega)]; rfl
          subst hSY
          clear HS HXY
          go_wp2
          go_ret2
          exact ⟨rfl, rfl⟩
set_option maxRecDepth 100000 in
theorem refCurve_any {w : World} {b s : List Od} {a a' : Option Addr} {c c' : Nat} (hb : RowIn w 42 15 (.slice a b.length c) b.length (flatL (fun o => o.cs.toList) b)) (hbo : ∀ o ∈ b, OdT o) (hbl : b.length ≤ 977343669105) (hs : RowIn w 42 15 (.slice a' s.length c') s.length (flatL (fun o => o.cs.toList) s)) (hso : ∀ o ∈ s, OdT o) (hsl : s.length ≤ 977343669105) (p : Int) :
    Calls Try.prog 19 #[.slice a b.length c, .slice a' s.length c', .int .i64 p] w fun e w' => e = .returned (.tuple #[.int .i64 (bo (wns b) p), .int .i64 (so (wns s) p)]) ∧ Hid (Below w.heap.size w w') := by
  obtain ⟨nb, hnb⟩ : ∃ nb, nb = b.length := ⟨_, rfl⟩
  obtain ⟨ns, hns⟩ : ∃ ns, ns = s.length := ⟨_, rfl⟩
  have h1 := refCounted_any hb hbo hbl
  have HR : Hid (RowIn w 42 15 (.slice a' ns c') ns (flatL (fun o => o.cs.toList) s) ∧ (∀ o ∈ b, OdT o) ∧ (∀ o ∈ s, OdT o) ∧ nb = b.length ∧ ns = s.length ∧ nb ≤ 977343669105 ∧ ns ≤ 977343669105) := ⟨by rw [hns]; exact hs, hbo, hso, hnb, hns, by omega, by omega⟩
  rw [← hnb] at h1 ⊢
  rw [← hns]
  rw [wns_cnt, wns_cnt]
  obtain ⟨X, hX⟩ : ∃ X, X = bo ((b.filter cntB).map wnC) p := ⟨_, rfl⟩
  obtain ⟨Y, hY⟩ : ∃ Y, Y = so ((s.filter cntB).map wnC) p := ⟨_, rfl⟩
  have HXY : Hid (X = bo ((b.filter cntB).map wnC) p ∧ Y = so ((s.filter cntB).map wnC) p) := ⟨hX, hY⟩
  rw [← hX, ← hY]
  clear hb hbo hbl hs hso hsl hnb hns hX hY
  go_enter Try.func19, Try.ntmps19
  go_upto_region 1 with fail
  refine wp_region_lit ?_
  refine wpList_runTo rfl (some 8) rfl (.slice a nb c) w (by kernel_rfl) ?_
  simp only [Act.put, List.setIfInBounds_toArray, List.set_cons_zero, List.set_cons_succ]
  refine wpList_callW rfl (some 9) rfl 37 #[.slice a nb c] (by kernel_rfl) h1 ?_
  clear h1
  rintro e w1 ⟨v1, rfl, H1⟩
  refine ⟨_, rfl, ?_⟩
  simp only [Act.put, List.setIfInBounds_toArray, List.set_cons_zero, List.set_cons_succ]
  refine wpList_runTo rfl (some 10) rfl (.slice a' ns c') w1 (by kernel_rfl) ?_
  simp only [Act.put, List.setIfInBounds_toArray, List.set_cons_zero, List.set_cons_succ]
  have h2 := refCounted_any (w := w1) (l := s) (a := a') (c := c') (by have := HR.out.1.fr (Fr.of_below H1.out.bel (fun _ => False)) fun _ _ => id; rw [HR.out.2.2.2.2.1] at this; exact this) HR.out.2.2.1 (by have := HR.out; omega)
  rw [← HR.out.2.2.2.2.1] at h2
  refine wpList_callW rfl (some 11) rfl 37 #[.slice a' ns c'] (by kernel_rfl) h2 ?_
  clear h2
  rintro e w2 ⟨v2, rfl, H2⟩
  refine ⟨_, rfl, ?_⟩
  simp only [Act.put, List.setIfInBounds_toArray, List.set_cons_zero, List.set_cons_succ]
  obtain ⟨a1, c1, ev1, _⟩ := H1.out.row.form
  obtain ⟨a2, c2, ev2, _⟩ := H2.out.row.form
  subst ev1 ev2
  refine wpList_runTo rfl (some 12) rfl (.int .i64 p) w2 (by kernel_rfl) ?_
  simp only [Act.put, List.setIfInBounds_toArray, List.set_cons_zero, List.set_cons_succ]
  have l1 := List.length_filter_le cntB b
  have l2 := List.length_filter_le cntB s
  have h3 := refSums_any (w := w2) (H1.out.row.fr (Fr.of_below H2.out.bel (fun _ => False)) fun _ _ => id) (fun o ho => (HR.out.2.1 o (List.mem_filter.1 ho).1).ok) (fun o ho => (List.mem_filter.1 ho).2) (by have := HR.out.2.2.2; omega) H2.out.row (fun o ho => (HR.out.2.2.1 o (List.mem_filter.1 ho).1).ok) (fun o ho => (List.mem_filter.1 ho).2) (by have := HR.out.2.2.2; omega) p
  rw [← HXY.out.1, ← HXY.out.2] at h3
  have HF : Hid (Below w.heap.size w w2) := below_step H1.out.bel H2.out.bel
  clear H1 H2 HR HXY l1 l2
  generalize (b.filter cntB).length = n1 at *
  generalize (s.filter cntB).length = n2 at *
  refine wpList_callW rfl (some 13) rfl 39 #[.slice a1 n1 c1, .slice a2 n2 c2, .int .i64 p] (by kernel_rfl) h3 ?_
  clear h3
  rintro e w' ⟨rfl, ew⟩
  replace ew := ew.symm
  subst ew
  refine ⟨_, rfl, ?_⟩
  simp only [Act.put, List.setIfInBounds_toArray, List.set_cons_zero, List.set_cons_succ]
  refine wpList_runTo rfl (some 14) rfl (.int .i64 X) w2 (by kernel_rfl) ?_
  simp only [Act.put, List.setIfInBounds_toArray, List.set_cons_zero, List.set_cons_succ]
  refine wpList_runTo rfl (some 15) rfl (.int .i64 Y) w2 (by kernel_rfl) ?_
  simp only [Act.put, List.setIfInBounds_toArray, List.set_cons_zero, List.set_cons_succ]
  refine wpList_runTo rfl (some 6) rfl (.int .i64 X) w2 (by kernel_rfl) ?_
  simp only [Act.put, List.setIfInBounds_toArray, List.set_cons_zero, List.set_cons_succ]
  refine wpList_runTo rfl (some 7) rfl (.int .i64 Y) w2 (by kernel_rfl) ?_
  simp only [Act.put, List.setIfInBounds_toArray, List.set_cons_zero, List.set_cons_succ]
  refine wpList_nil ?_
  go_wp2
  go_ret2
  exact ⟨rfl, HF⟩
end Go.Proofs.Ytbhddfcdnpidkaa

namespace Go.Proofs.Ytbhddfcdnpidkaa
set_option linter.unusedVariables false
set_option linter.unusedSimpArgs false
open Go.RowKit Go.Great Go.Shelf Go.Lib Go.Sort

def sdB (buy : Bool) : Int := if buy = true then 1 else 2
/-- Does one stand ahead of another one? -/
def ahR (buy : Bool) (a b : Od) : Bool := if (decide (a.ty = 2)) ≠ decide (b.ty = 2) then decide (a.ty = 2) else if ¬ a.ty = 2 ∧ a.pr ≠ b.pr then (decide (b.pr < a.pr) == buy) else decide (a.id < b.id)
theorem ahR_lt (buy : Bool) (a b : Od) : ahR buy a b = ltOf (cfW (sdB buy)) (wnC a) (wnC b) := by
  rw [Bool.eq_iff_iff]
  unfold ltOf
  rw [decide_eq_true_iff, cfW_neg]
  unfold ahR ltW wnC sdB
  by_cases h1 : a.ty = 2 <;> by_cases h2 : b.ty = 2 <;> cases buy <;> by_cases h3 : a.pr = b.pr <;> by_cases h4 : b.pr < a.pr <;> simp [h1, h2, h3, h4] <;> omega
set_option maxRecDepth 100000 in
theorem refAhead_any {w : World} {a b : Od} (ha : a.ok) (hb : b.ok) (buy : Bool) :
    Calls Try.prog 52 #[.agg a.cs, .agg b.cs, .bool buy] w fun e w' => e = .returned (.bool (ahR buy a b)) ∧ Below w.heap.size w w' := by
  have H0 : Hid (Below w.heap.size w ((w.alloc (.cells a.cs 42)).alloc (.cells b.cs 42)) ∧ Blk ((w.alloc (.cells a.cs 42)).alloc (.cells b.cs 42)) w.heap.size 42 a.cs ∧ Blk ((w.alloc (.cells a.cs 42)).alloc (.cells b.cs 42)) (w.alloc (.cells a.cs 42)).heap.size 42 b.cs) :=
    ⟨below_step ((Below.refl _ w).alloc (Nat.le_refl _) _) ((Below.refl _ _).alloc (Nat.le_refl _) _), (Blk.new w _ _).alloc _, Blk.new _ _ _⟩
  have HO : Hid (a.ok ∧ b.ok) := ⟨ha, hb⟩
  obtain ⟨R, hR⟩ : ∃ R, R = ahR buy a b := ⟨_, rfl⟩
  have HB : Hid (R = ahR buy a b) := hR
  rw [← hR]
  clear ha hb hR
  go_enter Try.func52, Try.ntmps52
  go_upto_region 1 with fail
  have hz : (w.alloc (.cells a.cs 42)).heap.size = w.heap.size + 1 := World.size_alloc _ _
  rw [hz] at H0
  generalize (w.alloc (.cells a.cs 42)).alloc (.cells b.cs 42) = w2 at *
  generalize w.heap.size + 1 = gb at *
  have H1 : Hid (Below w.heap.size w w2) := H0.out.1
  have a0 := (H0.out.2.1.cell 0).trans HO.out.1.c0
  have a5 := (H0.out.2.1.cell 5).trans HO.out.1.c5
  have a7 := (H0.out.2.1.cell 7).trans HO.out.1.c7
  have b0 := (H0.out.2.2.cell 0).trans HO.out.2.c0
  have b5 := (H0.out.2.2.cell 5).trans HO.out.2.c5
  have b7 := (H0.out.2.2.cell 7).trans HO.out.2.c7
  clear H0 hz HO
  have HB2 : R = (if (decide (a.ty = 2)) ≠ decide (b.ty = 2) then decide (a.ty = 2) else if ¬ a.ty = 2 ∧ a.pr ≠ b.pr then (decide (b.pr < a.pr) == buy) else decide (a.id < b.id)) := HB.out
  clear HB
  generalize a.cs = ca at *
  generalize b.cs = cb at *
  generalize a.id = ai at *
  generalize b.id = bi at *
  generalize a.ty = at_ at *
  generalize b.ty = bt at *
  generalize a.pr = ap at *
  generalize b.pr = bp at *
  by_cases ha : at_ = 2
  · have e1 : (at_ == 2) = true := by simp [ha]
    by_cases hb : bt = 2
    · have e2 : (bt == 2) = true := by simp [hb]
      have HR : Hid (decide (ai < bi) = R) := by
        show _ = _
        rw [HB2]; simp [ha, hb]
      clear HB2 ha hb
      go_wp2
      go_ret
      exact ⟨by rw [HR.out]; rfl, H1.out⟩
    · have e2 : (bt == 2) = false := by simp [hb]
      have HR : Hid (R = true) := by
        show _ = _
        rw [HB2]; simp [ha, hb]
      clear HB2 ha hb
      go_wp2
      go_ret
      exact ⟨by rw [HR.out]; rfl, H1.out⟩
  · have e1 : (at_ == 2) = false := by simp [ha]
    by_cases hb : bt = 2
    · have e2 : (bt == 2) = true := by simp [hb]
      have HR : Hid (R = false) := by
        show _ = _
        rw [HB2]; simp [ha, hb]
      clear HB2 ha hb
      go_wp2
      go_ret
      exact ⟨by rw [HR.out]; rfl, H1.out⟩
    · have e2 : (bt == 2) = false := by simp [hb]
      by_cases hp : ap = bp
      · have e4 : (ap != bp) = false := by simp [hp]
        have HR : Hid (decide (ai < bi) = R) := by
          show _ = _
          rw [HB2]; simp [ha, hb, hp]
        clear HB2 ha hb hp
        go_wp2
        go_ret
        exact ⟨by rw [HR.out]; rfl, H1.out⟩
      · have e4 : (ap != bp) = true := by simp [hp]
        by_cases hg : bp < ap
        · have e5 : decide (bp < ap) = true := by simp [hg]
          have HR : Hid (buy = R) := by
            show _ = _
            rw [HB2]; simp [ha, hb, hp, hg]
          clear HB2 ha hb hp
          cases buy with
          | true =>
            go_wp2
            go_ret
            exact ⟨by rw [← HR.out]; rfl, H1.out⟩
          | false =>
            go_wp2
            go_ret
            exact ⟨by rw [← HR.out]; rfl, H1.out⟩
        · have e5 : decide (bp < ap) = false := by simp [hg]
          have HR : Hid ((!buy) = R) := by
            show _ = _
            rw [HB2]; simp [ha, hb, hp, hg]
          clear HB2 ha hb hp
          cases buy with
          | true =>
            go_wp2
            go_ret
            exact ⟨by rw [← HR.out]; rfl, H1.out⟩
          | false =>
            go_wp2
            go_ret
            exact ⟨by rw [← HR.out]; rfl, H1.out⟩
/-! A row laid in order one by one, those who are alike as they came. -/
def tgC (q : Od × Nat) : Wn × Nat := (wnC q.1, q.2)
/-- out: those of the first i that may be, in order. -/
structure Ins (s p : Int) (C : List Od) (i : Nat) (out : List Od) : Prop where
  ex : ∃ T : List (Od × Nat), T.map (·.1) = out ∧ T.Perm ((C.zipIdx.take i).filter fun q => atW s p (wnC q.1)) ∧ T.Pairwise (fun x y => ltT s (tgC y) (tgC x) = false)
theorem Ins.nil (s p : Int) (C : List Od) : Ins s p C 0 [] := ⟨[], rfl, by simp, List.Pairwise.nil⟩
theorem zip_take {C : List Od} {i : Nat} {o : Od} (h : C[i]? = some o) : C.zipIdx.take (i + 1) = C.zipIdx.take i ++ [(o, i)] := by
  rw [List.take_add_one]
  congr 1
  have : C.zipIdx[i]? = some (o, i) := by rw [List.getElem?_zipIdx, h]; simp
  rw [this]
  rfl
theorem Ins.skip {s p : Int} {C : List Od} {i : Nat} {out : List Od} {o : Od} (h : Ins s p C i out) (ho : C[i]? = some o) (hn : atW s p (wnC o) = false) : Ins s p C (i + 1) out := by
  obtain ⟨T, h1, h2, h3⟩ := h.ex
  refine ⟨T, h1, ?_, h3⟩
  rw [zip_take ho, List.filter_append]
  simpa [List.filter_cons, hn] using h2
theorem zip_tag {C : List Od} {i : Nat} : ∀ q ∈ C.zipIdx.take i, q.2 < i := fun q hq => by
  obtain ⟨k, hk, e⟩ := List.mem_iff_getElem.1 hq
  rw [List.getElem_take, List.getElem_zipIdx] at e
  rw [← e]
  rw [List.length_take] at hk
  show 0 + k < i
  omega
theorem Ins.put {s p : Int} {C : List Od} {i k : Nat} {out : List Od} {o : Od} (h : Ins s p C i out) (ho : C[i]? = some o) (hn : atW s p (wnC o) = true) (hk : k ≤ out.length)
    (h1 : ∀ j y, k ≤ j → out[j]? = some y → ltOf (cfW s) (wnC o) (wnC y) = true) (h2 : ∀ j y, j + 1 = k → out[j]? = some y → ltOf (cfW s) (wnC o) (wnC y) = false) : Ins s p C (i + 1) (out.take k ++ o :: out.drop k) := by
  obtain ⟨T, e, hp, hs⟩ := h.ex
  have hO := swoW s
  have htag : ∀ q ∈ T, q.2 < i := fun q hq => zip_tag q (List.mem_filter.1 (hp.mem_iff.1 hq)).1
  have hlen : T.length = out.length := by rw [← e, List.length_map]
  refine ⟨T.take k ++ (o, i) :: T.drop k, ?_, ?_, ?_⟩
  · rw [List.map_append, List.map_cons, List.map_take, List.map_drop, e]
  · rw [zip_take ho, List.filter_append]
    simp only [List.filter_cons, hn, List.filter_nil, if_true]
    refine (List.perm_middle).trans ?_
    rw [List.take_append_drop]
    exact (List.Perm.cons _ hp).trans (List.perm_append_singleton _ _).symm
  · have hsT : (T.take k).Pairwise (fun x y => ltT s (tgC y) (tgC x) = false) := hs.sublist (List.take_sublist _ _)
    have hsD : (T.drop k).Pairwise (fun x y => ltT s (tgC y) (tgC x) = false) := hs.sublist (List.drop_sublist _ _)
    have hcross : ∀ x ∈ T.take k, ∀ y ∈ T.drop k, ltT s (tgC y) (tgC x) = false := by
      have := hs
      rw [← List.take_append_drop k T, List.pairwise_append] at this
      exact this.2.2
    rw [List.pairwise_append]
    refine ⟨hsT, ?_, ?_⟩
    · rw [List.pairwise_cons]
      refine ⟨fun y hy => ?_, hsD⟩
      obtain ⟨j, hj, ey⟩ := List.mem_iff_getElem.1 hy
      rw [List.getElem_drop] at ey
      rw [List.length_drop] at hj
      have hy1 : out[k + j]? = some y.1 := by
        rw [← e, List.getElem?_map, List.getElem?_eq_getElem (by omega), ey]; rfl
      have hlt := h1 (k + j) y.1 (by omega) hy1
      have hlt2 : ltOf (cfW s) (wnC y.1) (wnC o) = false := by
        cases q : ltOf (cfW s) (wnC y.1) (wnC o) with
        | false => rfl
        | true => have := hO.trans _ _ _ hlt q; rw [hO.irrefl] at this; cases this
      unfold ltT tgC
      simp only [hlt, hlt2]
      rfl
    · intro x hx y hy
      rcases List.mem_cons.1 hy with rfl | hy
      · have hxi := htag x (List.mem_of_mem_take hx)
        have hlt2 : ltOf (cfW s) (wnC o) (wnC x.1) = false := by
          obtain ⟨j, hj, ex⟩ := List.mem_iff_getElem.1 hx
          rw [List.getElem_take] at ex
          rw [List.length_take] at hj
          by_cases hjk : j + 1 = k
          · exact h2 j x.1 hjk (by rw [← e, List.getElem?_map, List.getElem?_eq_getElem (by omega), ex]; rfl)
          · have hk1 : k - 1 < T.length := by omega
            have h3 := h2 (k - 1) (T[k - 1]).1 (by omega) (by rw [← e, List.getElem?_map, List.getElem?_eq_getElem hk1]; rfl)
            have h4 := (List.pairwise_iff_getElem.1 hs) j (k - 1) (by omega) hk1 (by omega)
            rw [ex] at h4
            unfold ltT tgC at h4
            rw [Bool.or_eq_false_iff] at h4
            exact hO.ntrans _ _ _ h3 h4.1
        unfold ltT tgC
        simp only [hlt2, Bool.false_or]
        rw [decide_eq_false (by omega : ¬ i < x.2), Bool.and_false]
      · exact hcross x hx y hy
/-- The program's row and the reference's are one. -/
theorem Ins.row {s p : Int} {l : List Od} {out : List Od} {B : List Wn} (h : Ins s p (l.filter cntB) (l.filter cntB).length out) (hB : StW s (wns l) B) (hA : ∀ a b : Wn, ltOf (cfW s) b a = false → atW s p b = true → atW s p a = true) : out.map wnC = B.takeWhile (atW s p) := by
  obtain ⟨T, e, hp, hs⟩ := h.ex
  obtain ⟨L, f, gp, gs⟩ := hB
  have hz : (l.filter cntB).zipIdx.take (l.filter cntB).length = (l.filter cntB).zipIdx := List.take_of_length_le (by rw [List.length_zipIdx]; exact Nat.le_refl _)
  rw [hz] at hp
  have h1 : (T.map tgC).Perm ((wns l).zipIdx.filter fun q => atW s p q.1) := by
    have := hp.map tgC
    rw [wns_cnt, List.zipIdx_map, List.filter_map]
    refine this.trans ?_
    exact List.Perm.of_eq (by congr 1)
  have h2 : (T.map tgC).Pairwise (fun x y => ltT s y x = false) := List.pairwise_map.2 hs
  have h3 : L.takeWhile (fun q => atW s p q.1) = L.filter fun q => atW s p q.1 := by
    have key : ∀ {M : List (Wn × Nat)}, M.Pairwise (fun x y => ltT s y x = false) → M.takeWhile (fun q => atW s p q.1) = M.filter fun q => atW s p q.1 := fun {M} => by
      induction M with
      | nil => intro _; rfl
      | cons x M ih =>
        intro hM
        rw [List.pairwise_cons] at hM
        cases ex : atW s p x.1 with
        | true => simp only [List.takeWhile, List.filter, ex, ih hM.2]
        | false =>
          have : M.filter (fun q => atW s p q.1) = [] := by
            rw [List.filter_eq_nil_iff]
            intro y hy hc
            have h4 := hM.1 y hy
            unfold ltT at h4
            rw [Bool.or_eq_false_iff] at h4
            have := hA x.1 y.1 h4.1 hc
            rw [this] at ex; cases ex
          simp only [List.takeWhile, List.filter, ex, this]
    exact key gs
  have h4 : (L.takeWhile (fun q => atW s p q.1)).Perm ((wns l).zipIdx.filter fun q => atW s p q.1) := by rw [h3]; exact gp.filter _
  have h5 : (L.takeWhile (fun q => atW s p q.1)).Pairwise (fun x y => ltT s y x = false) := gs.sublist (List.takeWhile_prefix _).sublist
  have nd : ((wns l).zipIdx.map (·.2)).Nodup := by rw [List.zipIdx_map_snd]; exact List.nodup_range'
  have h6 : T.map tgC = L.takeWhile (fun q => atW s p q.1) := by
    refine (h1.trans h4.symm).eq_of_pairwise (le := fun x y => ltT s y x = false) (fun x y hx hy k1 k2 => ?_) h2 h5
    have m1 := (List.mem_filter.1 (h1.mem_iff.1 hx)).1
    have m2 := (List.mem_filter.1 (h4.mem_iff.1 hy)).1
    unfold ltT at k1 k2
    simp only [Bool.or_eq_false_iff, Bool.and_eq_false_iff, Bool.not_eq_false', decide_eq_false_iff_not] at k1 k2
    obtain ⟨a1, a2⟩ := k1
    obtain ⟨c1, c2⟩ := k2
    have a3 : ¬ y.2 < x.2 := a2.resolve_left (by rw [c1]; simp)
    have c3 : ¬ x.2 < y.2 := c2.resolve_left (by rw [a1]; simp)
    have e2 : x.2 = y.2 := by omega
    have inj : ∀ {m : List (Wn × Nat)}, (m.map (·.2)).Nodup → ∀ x ∈ m, ∀ y ∈ m, x.2 = y.2 → x = y := fun {m} => by
      induction m with
      | nil => intro _ x hx; simp at hx
      | cons z m ih =>
        intro hn x hx y hy e
        simp only [List.map_cons, List.nodup_cons] at hn
        rcases List.mem_cons.1 hx with rfl | hx <;> rcases List.mem_cons.1 hy with rfl | hy
        · rfl
        · exact absurd (List.mem_map.2 ⟨y, by assumption, e.symm⟩ : _ ∈ List.map (fun v : Wn × Nat => v.2) _) hn.1
        · exact absurd (List.mem_map.2 ⟨x, by assumption, e⟩ : _ ∈ List.map (fun v : Wn × Nat => v.2) _) hn.1
        · exact ih hn.2 x hx y hy e
    exact inj nd x m1 y m2 e2
  have h7 : B.takeWhile (atW s p) = (L.takeWhile (fun q => atW s p q.1)).map (·.1) := by
    rw [← f]
    have key : ∀ {M : List (Wn × Nat)}, (M.map (·.1)).takeWhile (atW s p) = (M.takeWhile (fun q => atW s p q.1)).map (·.1) := fun {M} => by
      induction M with
      | nil => rfl
      | cons x M ih => cases ex : atW s p x.1 <;> simp [List.takeWhile, ex, ih]
    exact key
  rw [h7, ← h6, ← e]
  simp [tgC]
end Go.Proofs.Ytbhddfcdnpidkaa
