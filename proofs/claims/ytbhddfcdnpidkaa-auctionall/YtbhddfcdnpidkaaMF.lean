import Derived.Test.YtbhddfcdnpidkaaME

namespace Go.Proofs.Ytbhddfcdnpidkaa
set_option linter.unusedVariables false
set_option linter.unusedSimpArgs false
open Go.RowKit Go.Great
attribute [local irreducible] wpList

theorem fromO2_run {op : Oper} {a : Act} {lg lo n cap k : Nat} (x y : Operand) (ho : op.op = .slice 24 x (some y) none none) (hx : a.eval x = .slice (some ⟨lg, lo, none⟩) n cap) (hy : a.eval y = .int .i64 (k : Int)) (hk : k ≤ n) (hnc : n ≤ cap) (w : World) : (execOp a.eval op).run Try.prog w = .ok (.value (.slice (some ⟨lg, if k < cap then lo + k * 15 else lo, none⟩) (n - k) (cap - k))) w := by
  obtain ⟨o2, h1, h2, h3⟩ := fromO_run x y ho hx hy hk hnc w
  by_cases hc : k < cap
  · rw [if_pos hc, ← h1 hc]; exact h3
  · rw [if_neg hc, ← h2 hc]; exact h3
theorem fromO3_run {op : Oper} {a : Act} {lg lo n cap k o2 m : Nat} (x y : Operand) (ho : op.op = .slice 24 x (some y) none none) (hx : a.eval x = .slice (some ⟨lg, lo, none⟩) n cap) (hy : a.eval y = .int .i64 (k : Int)) (hk : k ≤ n) (hnc : n ≤ cap) (eo : (if k < cap then lo + k * 15 else lo) = o2) (em : n - k = m) (w : World) : (execOp a.eval op).run Try.prog w = .ok (.value (.slice (some ⟨lg, o2, none⟩) m (cap - k))) w := by
  subst eo em
  exact fromO2_run x y ho hx hy hk hnc w
theorem dec_run {op : Oper} {a : Act} {j : Nat} (x : Operand) (ho : op.op = .binOp .sub 3 x (.const (.int .i64 1)) 3) (hx : a.eval x = .int .i64 ((j + 1 : Nat) : Int)) (hj : j < 9223372036854775807) (w : World) : (execOp a.eval op).run Try.prog w = .ok (.value (.int .i64 (j : Int))) w := by
  have e : a.eval (.const (.int .i64 1)) = .int .i64 1 := rfl
  have e1 : IntKind.i64.wrap (((j + 1 : Nat) : Int) - 1) = (j : Int) := by rw [IntKind.wrap_i64]; omega
  unfold execOp
  simp only [ho, hx, e]
  go_simp
  have e2 : IntKind.i64.wrap (j : Int) = (j : Int) := by rw [IntKind.wrap_i64]; omega
  try rw [e1]
  try rw [e2]
set_option maxRecDepth 100000 in
set_option maxHeartbeats 8000000 in
theorem refRow_any {w : World} {l : List Od} {a : Option Addr} {c : Nat} (buy : Bool) (p : Int) (hr : RowIn w 42 15 (.slice a l.length c) l.length (flatL (fun o => o.cs.toList) l)) (hok : ∀ o ∈ l, OdT o) (hl : l.length ≤ 977343669105) :
    Calls Try.prog 42 #[.slice a l.length c, .int .i64 p, .bool buy] w fun e w' => ∃ v, e = .returned v ∧ Hid (∃ out, OO w w' v out ∧ Ins (sdB buy) p (l.filter cntB) (l.filter cntB).length out) := by
  obtain ⟨nl, hnl⟩ : ∃ nl, nl = l.length := ⟨_, rfl⟩
  obtain ⟨i0, hi0, hz0, hz1, hz2⟩ := info_parts infoOd
  have HI : Hid (Try.prog.info? 42 = some i0 ∧ i0.zero = some (.agg #[.int .i64 0, .string ⟨#[]⟩, .string ⟨#[]⟩, .string ⟨#[]⟩, .int .i64 0, .int .i64 0, .int .i64 0, .int .i64 0, .int .i64 0, .int .i64 0, .int .i64 0, .int .i64 0, .int .i64 0, .int .i64 0, .int .i64 0]) ∧ i0.size = 15 ∧ i0.bytes = 144) := ⟨hi0, hz0, hz1, hz2⟩
  have h1 := refCounted_any hr hok hl
  have HOK : Hid (∀ o ∈ l.filter cntB, OdT o) := fun o ho => hok o (List.mem_filter.1 ho).1
  have hcl : (l.filter cntB).length ≤ 977343669105 := Nat.le_trans (List.length_filter_le _ _) hl
  rw [← hnl] at h1 ⊢
  obtain ⟨Cf, hCf⟩ : ∃ Cf, Cf = l.filter cntB := ⟨_, rfl⟩
  rw [← hCf] at h1 HOK hcl ⊢
  obtain ⟨n, hn⟩ : ∃ n, n = Cf.length := ⟨_, rfl⟩
  have HN : Hid (n = Cf.length) := hn
  rw [← hn] at hcl ⊢
  clear hr hok hl hnl hi0 hz0 hz1 hz2 hCf
  obtain ⟨s, hs⟩ : ∃ s, s = sdB buy := ⟨_, rfl⟩
  have HS : Hid (s = sdB buy) := hs
  rw [← hs]
  clear hs
  go_enter Try.func42, Try.ntmps42
  go_upto_region 1 with fail
  rename_i K hK
  refine wp_region_lit ?_
  refine wpList_runTo rfl (some 13) rfl (.slice a nl c) w (by kernel_rfl) ?_
  simp only [Act.put, List.setIfInBounds_toArray, List.set_cons_zero, List.set_cons_succ]
  refine wpList_callW rfl (some 14) rfl 37 #[.slice a nl c] (by kernel_rfl) h1 ?_
  rintro e W1 ⟨v7, rfl, H1⟩
  refine ⟨_, rfl, ?_⟩
  simp only [Act.put, List.setIfInBounds_toArray, List.set_cons_zero, List.set_cons_succ]
  clear h1
  refine wpList_runTo rfl (some 7) rfl (v7) W1 (by kernel_rfl) ?_
  simp only [Act.put, List.setIfInBounds_toArray, List.set_cons_zero, List.set_cons_succ]
  refine wpList_nil ?_
  refine hK _ _ ?_
  clear hK
  obtain ⟨a7, cc, ev, _⟩ := H1.out.row.form
  subst ev
  have HC : Hid (RowAt W1 42 15 (.slice a7 n cc) n (flatL (fun o => o.cs.toList) Cf) ∧ Below w.heap.size w W1) := ⟨by have := H1.out.row; rw [← hn] at this; exact this, H1.out.bel⟩
  rw [← hn]
  clear H1 hn
  go_upto_region 4 with fail
  go_loopw [8, 9] (fun x8 x9 wr => ∃ (i : Nat) (v : Value) (out : List Od), v = x8 ∧ i ≤ n ∧ x9 = .int .i64 (i : Int) ∧ Hid (OO W1 wr v out ∧ Ins s p Cf i out ∧ (out = [] → v = .slice none 0 0))) (fun _ x9 _ => n - (RowKit.intOf x9).toNat)
  case atStart => exact ⟨0, .slice none 0 0, [], rfl, Nat.zero_le _, rfl, ⟨RowAt.none0 _ _ _, Below.refl _ _, fun q hq => by cases hq⟩, Ins.nil _ _ _, fun _ => rfl⟩
  case round => as_aux_lemma =>
    obtain ⟨i, v, out, rfl, hi, rfl, HO⟩ := hrel
    generalize wr = W at *
    by_cases hlt : i < n
    · have hlt' : (i : Int) < (n : Int) := by omega
      obtain ⟨o, ho⟩ : ∃ o, Cf[i]? = some o := ⟨_, List.getElem?_eq_getElem (by rw [← HN.out]; exact hlt)⟩
      have hrow := HC.out.1.fr (Fr.of_below HO.out.1.bel (fun _ => False)) fun _ _ => id
      obtain ⟨gc, oc, cx, cur, ea, _⟩ := hrow.more (by omega)
      injection ea with ea1 _ ea2
      subst ea1 ea2
      have hoks : ∀ o ∈ Cf, o.ok := fun o ho => (HOK.out o ho).ok
      have hot := HOK.out o (List.mem_of_getElem? ho)
      have hrg := row_rangeO hrow hoks ho
      have HOO : Hid (Cf[i]? = some o ∧ OdT o) := ⟨ho, hot⟩
      have hsz := hot.ok.sz
      have hone : (o.cs.all fun x => x.oneCell') = true := hot.ok.one
      clear ho hrow hoks hot
      go_upto_region 6 with fail
      rename_i K hK
      refine wp_region_lit ?_
      refine wpList_runTo rfl (some 21) rfl (.slice (some ⟨gc, oc, none⟩) n cc) W (by kernel_rfl) ?_
      simp only [Act.put, List.setIfInBounds_toArray, List.set_cons_zero, List.set_cons_succ]
      refine wpList_runTo rfl (some 22) rfl (.int .i64 (i : Int)) W (by kernel_rfl) ?_
      simp only [Act.put, List.setIfInBounds_toArray, List.set_cons_zero, List.set_cons_succ]
      refine wpList_runTo rfl (some 23) rfl (.pointer (some ⟨gc, oc + i * 15, none⟩)) W (by exact ixOr_run (n := n) (c := cc) (.tmp 21) (.tmp 22) rfl (by kernel_rfl) (by kernel_rfl) hlt _) ?_
      simp only [Act.put, List.setIfInBounds_toArray, List.set_cons_zero, List.set_cons_succ]
      refine wpList_runTo rfl (some 24) rfl (.agg o.cs) W (by exact ldA_run hrg Try.underlying42 rfl (by rw [hsz]; exact infoO) (.tmp 23) rfl (by kernel_rfl)) ?_
      simp only [Act.put, List.setIfInBounds_toArray, List.set_cons_zero, List.set_cons_succ]
      refine wpList_runTo rfl (some 10) rfl (.pointer (some ⟨W.heap.size, 0, none⟩)) (W.alloc (.cells #[.int .i64 0, .string ⟨#[]⟩, .string ⟨#[]⟩, .string ⟨#[]⟩, .int .i64 0, .int .i64 0, .int .i64 0, .int .i64 0, .int .i64 0, .int .i64 0, .int .i64 0, .int .i64 0, .int .i64 0, .int .i64 0, .int .i64 0] 42)) (by kernel_rfl) ?_
      simp only [Act.put, List.setIfInBounds_toArray, List.set_cons_zero, List.set_cons_succ]
      refine wpList_plain rfl fun K1 hK1 => ?_
      refine wp_store_row 42 (.tmp 10) (.tmp 24) rfl W.heap.size o.cs (by kernel_rfl) (by kernel_rfl) 42 #[.int .i64 0, .string ⟨#[]⟩, .string ⟨#[]⟩, .string ⟨#[]⟩, .int .i64 0, .int .i64 0, .int .i64 0, .int .i64 0, .int .i64 0, .int .i64 0, .int .i64 0, .int .i64 0, .int .i64 0, .int .i64 0, .int .i64 0] (heap_alloc_new W _) (by rw [hsz]; exact infoO) (by rw [hsz]; rfl) hone ?_
      rw [World.setRow_alloc_new]
      refine hK1 _ _ ?_
      clear hK1
      refine wpList_nil ?_
      refine hK _ _ ?_
      clear hK
      try simp only [Act.put]
      have HX : Hid (OO W1 (W.alloc (.cells o.cs 42)) v out ∧ Blk (W.alloc (.cells o.cs 42)) W.heap.size 42 o.cs ∧ W1.heap.size ≤ W.heap.size ∧ (∀ q, v.ownBlock = some q → q ≠ W.heap.size)) := ⟨HO.out.1.below ((Below.refl _ W).alloc (Nat.le_refl _) _), Blk.new _ _ _, HO.out.1.bel.size, fun q hq e => by have := (HO.out.1.row.lt hq).1; omega⟩
      have HOI : Hid (Ins s p Cf i out ∧ (out = [] → v = .slice none 0 0)) := HO.out.2
      clear HO hrg
      generalize W.alloc (.cells o.cs 42) = W2 at *
      generalize W.heap.size = gx at *
      have p5 := (HX.out.2.1.cell 5).trans HOO.out.2.ok.c5
      have p7 := (HX.out.2.1.cell 7).trans HOO.out.2.ok.c7
      obtain ⟨ty, hty0⟩ : ∃ x, x = o.ty := ⟨_, rfl⟩
      obtain ⟨pr, hpr0⟩ : ∃ x, x = o.pr := ⟨_, rfl⟩
      obtain ⟨nb, hnb⟩ : ∃ x, x = !(atW s p (wnC o)) := ⟨_, rfl⟩
      have HNB : Hid (nb = !(atW s p (wnC o))) := hnb
      have hnb2 : nb = !(decide (ty = 2) || (if buy = true then decide (p ≤ (if ty = 2 then 0 else pr)) else decide ((if ty = 2 then 0 else pr) ≤ p))) := by
        rw [hnb, HS.out, hty0, hpr0]
        unfold atW sdB
        cases buy
        · rfl
        · rfl
      rw [← hty0] at p5
      rw [← hpr0] at p7
      clear hty0 hpr0 hnb
      go_upto_region 7 with fail
      go_cut [46] (fun x wx => x = .bool nb ∧ wx = W2)
      case first => as_aux_lemma =>
        clear HX HOI HOO HC HN HOK HI HNB
        by_cases hty : ty = 2
        · have e1 : (ty != 2) = false := by simp [hty]
          obtain rfl : nb = false := by rw [hnb2]; simp [hty]
          clear hnb2 hty
          go_wp2_with fail
          go_meet
          exact ⟨rfl, rfl⟩
        · have e1 : (ty != 2) = true := by simp [hty]
          cases buy with
          | true =>
            by_cases h1 : pr < p
            · obtain rfl : nb = true := by rw [hnb2]; simp [hty]; omega
              clear hnb2 hty
              go_wp2_with fail
              go_meet
              exact ⟨rfl, rfl⟩
            · obtain rfl : nb = false := by rw [hnb2]; simp [hty]; omega
              clear hnb2 hty
              go_wp2_with fail
              go_meet
              exact ⟨rfl, rfl⟩
          | false =>
            by_cases h1 : p < pr
            · obtain rfl : nb = true := by rw [hnb2]; simp [hty]; omega
              clear hnb2 hty
              go_wp2_with fail
              go_meet
              exact ⟨rfl, rfl⟩
            · obtain rfl : nb = false := by rw [hnb2]; simp [hty]; omega
              clear hnb2 hty
              go_wp2_with fail
              go_meet
              exact ⟨rfl, rfl⟩
      case rest => as_aux_lemma =>
        obtain ⟨rfl, ew⟩ := hcut
        replace ew := ew.symm
        subst ew
        clear p5 p7 hnb2
        cases nb with
        | true =>
          have HF : Hid (OO W1 W2 v out ∧ Ins s p Cf (i + 1) out ∧ (out = [] → v = .slice none 0 0)) := ⟨HX.out.1, HOI.out.1.skip HOO.out.1 (by have := HNB.out; simpa using this.symm), HOI.out.2⟩
          clear HX HOI HOO HNB
          go_wp2
          exact ⟨⟨i + 1, _, _, rfl, by omega, by go_num, HF.out⟩, by simp [RowKit.intOf]; omega⟩
        | false =>
          have hat : Hid (atW s p (wnC o) = true) := by
            show _ = _
            have := HNB.out; simpa using this.symm
          clear HNB
          obtain ⟨av, cv, ev, _⟩ := HX.out.1.row.form
          subst ev
          obtain ⟨no, hno⟩ : ∃ no, no = out.length := ⟨_, rfl⟩
          have hnoi := HOI.out.1.len
          rw [← hno] at hnoi
          have HNO : Hid (no = out.length) := hno
          rw [← hno]
          have HR2 : Hid (RowAt W2 42 15 (.slice av no cv) no (flatL (fun o => o.cs.toList) out) ∧ ∀ o ∈ out, OdT o) := ⟨by rw [hno]; exact HX.out.1.row, fun o ho => HOK.out o (HOI.out.1.sub o ho)⟩
          clear hno
          go_upto_region 9 with fail
          go_loopw [11] (fun x11 wr => ∃ k : Nat, k ≤ no ∧ x11 = .int .i64 (k : Int) ∧ Hid (Below W2.heap.size W2 wr ∧ ∀ j y, k ≤ j → out[j]? = some y → ahR buy o y = true)) (fun x11 _ => (RowKit.intOf x11).toNat)
          case atStart => exact ⟨no, Nat.le_refl _, rfl, Below.refl _ _, fun j y h1 h2 => by have := (List.getElem?_eq_some_iff.1 h2).1; have := HNO.out; omega⟩
          case round => as_aux_lemma =>
            obtain ⟨k, hk, rfl, HK⟩ := hrel
            generalize wr = W3 at *
            obtain ⟨bb, hbb⟩ : ∃ bb : Bool, (bb = true ↔ 0 < k ∧ ∀ y, out[k - 1]? = some y → ahR buy o y = true) := by
              classical exact ⟨decide (0 < k ∧ ∀ y, out[k - 1]? = some y → ahR buy o y = true), by simp⟩
            have HBB : Hid (bb = true ↔ 0 < k ∧ ∀ y, out[k - 1]? = some y → ahR buy o y = true) := hbb
            clear hbb
            go_upto_region 9 with fail
            go_cut [60] (fun x wx => x = .bool bb ∧ ∃ W4, W4 = wx ∧ Hid (Below W3.heap.size W3 W4))
            case first => as_aux_lemma =>
              rename_i K hK
              by_cases hk0 : 0 < k
              · obtain ⟨j, rfl⟩ : ∃ j, k = j + 1 := ⟨k - 1, by omega⟩
                obtain ⟨y, hy⟩ : ∃ y, out[j]? = some y := ⟨_, List.getElem?_eq_getElem (by have := HNO.out; omega)⟩
                have hbe : bb = ahR buy o y := by
                  have := HBB.out
                  rw [show j + 1 - 1 = j by omega] at this
                  cases e : ahR buy o y with
                  | true => exact this.2 ⟨hk0, fun y' hy' => by rw [hy] at hy'; cases hy'; exact e⟩
                  | false =>
                    cases e2 : bb with
                    | false => rfl
                    | true => have := (this.1 e2).2 y hy; rw [e] at this; cases this
                have hjl : j < no := by omega
                obtain ⟨go, oo, cx, cur, ea, _⟩ := HR2.out.1.more (by omega)
                injection ea with ea1 _ ea2
                subst ea1 ea2
                have hyt := HR2.out.2 y (List.mem_of_getElem? hy)
                have HGy : Hid (∀ (w' : World), Below W3.heap.size W3 w' → w'.rangeAt go (oo + j * 15) y.cs.toList ∧ w'.rangeAt gx 0 o.cs.toList) := fun w' h => ⟨row_rangeO (HR2.out.1.fr (Fr.of_below (below_step HK.out.1 h) (fun _ => False)) fun _ _ => id) (fun o ho => (HR2.out.2 o ho).ok) hy, blk_range (HX.out.2.1.below (below_step HK.out.1 h) HX.out.2.1.lt)⟩
                have hsy := hyt.ok.sz
                have Hah : Hid (∀ Z, Calls Try.prog 52 #[.agg o.cs, .agg y.cs, .bool buy] Z fun e w' => e = .returned (.bool bb) ∧ Below Z.heap.size Z w') := fun Z => by rw [hbe]; exact refAhead_any HOO.out.2.ok hyt.ok buy
                clear hy hbe hyt
                refine wp_region_held (S := fun w' => Below W3.heap.size W3 w') (by kernel_rfl) ?_
                change wpAnyH _ _ _ _ _ _ _ _ (World.drew _)
                have hS0 : Below W3.heap.size W3 W3.drew := (Below.refl _ W3).drew
                generalize W3.drew = Z0 at *
                refine takeR (i := 0) (v := .int .i64 ((j + 1 : Nat) : Int)) (some 49) rfl rfl (by kernel_rfl) (by kernel_rfl) (by kernel_rfl) (fun _ _ _ h => h) (Or.inl ⟨by kernel_rfl, fun w' hSw => by kernel_rfl⟩) hS0 ?_
                simp only [Act.put, List.setIfInBounds_toArray, List.set_cons_zero, List.set_cons_succ]
                refine takeR (i := 1) (v := .bool true) (some 50) rfl rfl (by kernel_rfl) (by kernel_rfl) (by kernel_rfl) (fun _ _ _ h => h) (Or.inl ⟨by kernel_rfl, fun w' hSw => by exact gt0_run (p := ((j + 1 : Nat) : Int)) (.tmp 49) rfl (by kernel_rfl) (decide_eq_true (by omega)) _⟩) hS0 ?_
                simp only [Act.put, List.setIfInBounds_toArray, List.set_cons_zero, List.set_cons_succ]
                refine takeR (i := 2) (v := .bool true) (some 51) rfl rfl (by kernel_rfl) (by kernel_rfl) (by kernel_rfl) (fun _ _ _ h => h) (Or.inl ⟨by kernel_rfl, fun w' hSw => by kernel_rfl⟩) hS0 ?_
                simp only [Act.put, List.setIfInBounds_toArray, List.set_cons_zero, List.set_cons_succ]
                refine takeR (i := 3) (v := .agg o.cs) (some 52) rfl rfl (by kernel_rfl) (by kernel_rfl) (by kernel_rfl) (fun _ _ _ h => h) (Or.inl ⟨by kernel_rfl, fun w' hSw => by exact ldA_run (HGy.out _ hSw).2 Try.underlying42 rfl (by rw [hsz]; exact infoO) (.tmp 10) rfl (by kernel_rfl)⟩) hS0 ?_
                simp only [Act.put, List.setIfInBounds_toArray, List.set_cons_zero, List.set_cons_succ]
                refine takeR (i := 4) (v := .slice (some ⟨go, oo, none⟩) no cv) (some 53) rfl rfl (by kernel_rfl) (by kernel_rfl) (by kernel_rfl) (fun _ _ _ h => h) (Or.inl ⟨by kernel_rfl, fun w' hSw => by kernel_rfl⟩) hS0 ?_
                simp only [Act.put, List.setIfInBounds_toArray, List.set_cons_zero, List.set_cons_succ]
                refine takeR (i := 5) (v := .int .i64 ((j + 1 : Nat) : Int)) (some 54) rfl rfl (by kernel_rfl) (by kernel_rfl) (by kernel_rfl) (fun _ _ _ h => h) (Or.inl ⟨by kernel_rfl, fun w' hSw => by kernel_rfl⟩) hS0 ?_
                simp only [Act.put, List.setIfInBounds_toArray, List.set_cons_zero, List.set_cons_succ]
                refine takeR (i := 6) (v := .int .i64 (j : Int)) (some 55) rfl rfl (by kernel_rfl) (by kernel_rfl) (by kernel_rfl) (fun _ _ _ h => h) (Or.inl ⟨by kernel_rfl, fun w' hSw => by exact dec_run (j := j) (.tmp 54) rfl (by kernel_rfl) (by omega) _⟩) hS0 ?_
                simp only [Act.put, List.setIfInBounds_toArray, List.set_cons_zero, List.set_cons_succ]
                refine takeR (i := 7) (v := .pointer (some ⟨go, oo + j * 15, none⟩)) (some 56) rfl rfl (by kernel_rfl) (by kernel_rfl) (by kernel_rfl) (fun _ _ _ h => h) (Or.inl ⟨by kernel_rfl, fun w' hSw => by exact ixOr_run (n := no) (c := cv) (.tmp 53) (.tmp 55) rfl (by kernel_rfl) (by kernel_rfl) hjl _⟩) hS0 ?_
                simp only [Act.put, List.setIfInBounds_toArray, List.set_cons_zero, List.set_cons_succ]
                refine takeR (i := 8) (v := .agg y.cs) (some 57) rfl rfl (by kernel_rfl) (by kernel_rfl) (by kernel_rfl) (fun _ _ _ h => h) (Or.inl ⟨by kernel_rfl, fun w' hSw => by exact ldA_run (HGy.out _ hSw).1 Try.underlying42 rfl (by rw [hsy]; exact infoO) (.tmp 56) rfl (by kernel_rfl)⟩) hS0 ?_
                simp only [Act.put, List.setIfInBounds_toArray, List.set_cons_zero, List.set_cons_succ]
                refine takeR (i := 9) (v := .bool buy) (some 58) rfl rfl (by kernel_rfl) (by kernel_rfl) (by kernel_rfl) (fun _ _ _ h => h) (Or.inl ⟨by kernel_rfl, fun w' hSw => by kernel_rfl⟩) hS0 ?_
                simp only [Act.put, List.setIfInBounds_toArray, List.set_cons_zero, List.set_cons_succ]
                refine wpAnyH_ready (rs := [10]) (by kernel_rfl) (by simp) ?_
                refine AllReadyH.cons rfl (fun K1 hK1 => ?_) AllReadyH.nil
                rw [if_pos (by kernel_rfl)]
                refine callR (d := some 59) rfl 52 #[.agg o.cs, .agg y.cs, .bool buy] (by kernel_rfl) (Hah.out Z0) ?_
                rintro e Z1 ⟨rfl, hb1⟩
                refine ⟨_, rfl, ?_⟩
                have hS1 : Below W3.heap.size W3 Z1 := below_step hS0 hb1
                refine hK1.out _ _ hS1 (fun hzz => ?_)
                clear hK1 hzz
                simp only [Act.put, List.setIfInBounds_toArray, List.set_cons_zero, List.set_cons_succ]
                refine takeR (i := 11) (v := .bool bb) (some 60) rfl rfl (by kernel_rfl) (by kernel_rfl) (by kernel_rfl) (fun _ _ _ h => h) (Or.inl ⟨by kernel_rfl, fun w' hSw => by exact pick_run (c := bb) (.tmp 51) (.tmp 59) rfl (by kernel_rfl) (by kernel_rfl) _⟩) hS1 ?_
                simp only [Act.put, List.setIfInBounds_toArray, List.set_cons_zero, List.set_cons_succ]
                refine wpAnyH_done (by kernel_rfl) ?_ _
                have H4 : Hid (Below W3.heap.size W3 Z1) := hS1
                clear hS0 hS1 hb1
                generalize Z1 = W4 at *
                refine hK _ _ ?_
                clear hK
                go_meet
                exact ⟨rfl, _, rfl, H4.out⟩
              · obtain rfl : k = 0 := by omega
                obtain rfl : bb = false := by
                  cases e : bb with
                  | false => rfl
                  | true => exact absurd (HBB.out.1 e).1 hk0
                refine wp_region_held (S := fun w' => Below W3.heap.size W3 w') (by kernel_rfl) ?_
                change wpAnyH _ _ _ _ _ _ _ _ (World.drew _)
                have hS0 : Below W3.heap.size W3 W3.drew := (Below.refl _ W3).drew
                generalize W3.drew = Z0 at *
                refine takeR (i := 0) (v := .int .i64 ((0 : Nat) : Int)) (some 49) rfl rfl (by kernel_rfl) (by kernel_rfl) (by kernel_rfl) (fun _ _ _ h => h) (Or.inl ⟨by kernel_rfl, fun w' hSw => by kernel_rfl⟩) hS0 ?_
                simp only [Act.put, List.setIfInBounds_toArray, List.set_cons_zero, List.set_cons_succ]
                refine takeR (i := 1) (v := .bool false) (some 50) rfl rfl (by kernel_rfl) (by kernel_rfl) (by kernel_rfl) (fun _ _ _ h => h) (Or.inl ⟨by kernel_rfl, fun w' hSw => by exact gt0_run (p := ((0 : Nat) : Int)) (.tmp 49) rfl (by kernel_rfl) (decide_eq_false (by omega)) _⟩) hS0 ?_
                simp only [Act.put, List.setIfInBounds_toArray, List.set_cons_zero, List.set_cons_succ]
                refine takeR (i := 2) (v := .bool false) (some 51) rfl rfl (by kernel_rfl) (by kernel_rfl) (by kernel_rfl) (fun _ _ _ h => h) (Or.inl ⟨by kernel_rfl, fun w' hSw => by kernel_rfl⟩) hS0 ?_
                simp only [Act.put, List.setIfInBounds_toArray, List.set_cons_zero, List.set_cons_succ]
                refine takeR (i := 3) (v := undef) (some 52) rfl rfl (by kernel_rfl) (by kernel_rfl) (by kernel_rfl) (fun _ _ _ h => h) (Or.inr ⟨by kernel_rfl, rfl⟩) hS0 ?_
                simp only [Act.put, List.setIfInBounds_toArray, List.set_cons_zero, List.set_cons_succ]
                refine takeR (i := 4) (v := undef) (some 53) rfl rfl (by kernel_rfl) (by kernel_rfl) (by kernel_rfl) (fun _ _ _ h => h) (Or.inr ⟨by kernel_rfl, rfl⟩) hS0 ?_
                simp only [Act.put, List.setIfInBounds_toArray, List.set_cons_zero, List.set_cons_succ]
                refine takeR (i := 5) (v := undef) (some 54) rfl rfl (by kernel_rfl) (by kernel_rfl) (by kernel_rfl) (fun _ _ _ h => h) (Or.inr ⟨by kernel_rfl, rfl⟩) hS0 ?_
                simp only [Act.put, List.setIfInBounds_toArray, List.set_cons_zero, List.set_cons_succ]
                refine takeR (i := 6) (v := undef) (some 55) rfl rfl (by kernel_rfl) (by kernel_rfl) (by kernel_rfl) (fun _ _ _ h => h) (Or.inr ⟨by kernel_rfl, rfl⟩) hS0 ?_
                simp only [Act.put, List.setIfInBounds_toArray, List.set_cons_zero, List.set_cons_succ]
                refine takeR (i := 7) (v := undef) (some 56) rfl rfl (by kernel_rfl) (by kernel_rfl) (by kernel_rfl) (fun _ _ _ h => h) (Or.inr ⟨by kernel_rfl, rfl⟩) hS0 ?_
                simp only [Act.put, List.setIfInBounds_toArray, List.set_cons_zero, List.set_cons_succ]
                refine takeR (i := 8) (v := undef) (some 57) rfl rfl (by kernel_rfl) (by kernel_rfl) (by kernel_rfl) (fun _ _ _ h => h) (Or.inr ⟨by kernel_rfl, rfl⟩) hS0 ?_
                simp only [Act.put, List.setIfInBounds_toArray, List.set_cons_zero, List.set_cons_succ]
                refine takeR (i := 9) (v := undef) (some 58) rfl rfl (by kernel_rfl) (by kernel_rfl) (by kernel_rfl) (fun _ _ _ h => h) (Or.inr ⟨by kernel_rfl, rfl⟩) hS0 ?_
                simp only [Act.put, List.setIfInBounds_toArray, List.set_cons_zero, List.set_cons_succ]
                refine takeR (i := 10) (v := undef) (some 59) rfl rfl (by kernel_rfl) (by kernel_rfl) (by kernel_rfl) (fun _ _ _ h => h) (Or.inr ⟨by kernel_rfl, rfl⟩) hS0 ?_
                simp only [Act.put, List.setIfInBounds_toArray, List.set_cons_zero, List.set_cons_succ]
                refine takeR (i := 11) (v := .bool false) (some 60) rfl rfl (by kernel_rfl) (by kernel_rfl) (by kernel_rfl) (fun _ _ _ h => h) (Or.inl ⟨by kernel_rfl, fun w' hSw => by kernel_rfl⟩) hS0 ?_
                simp only [Act.put, List.setIfInBounds_toArray, List.set_cons_zero, List.set_cons_succ]
                refine wpAnyH_done (by kernel_rfl) ?_ _
                have H4 : Hid (Below W3.heap.size W3 Z0) := hS0
                clear hS0
                generalize Z0 = W4 at *
                refine hK _ _ ?_
                clear hK
                go_meet
                exact ⟨rfl, _, rfl, H4.out⟩
            case rest => as_aux_lemma =>
              obtain ⟨rfl, W4, rfl, H4⟩ := hcut
              cases bb with
              | true =>
                obtain ⟨hk0, hah⟩ := HBB.out.1 rfl
                obtain ⟨j, rfl⟩ : ∃ j, k = j + 1 := ⟨k - 1, by omega⟩
                have HK2 : Hid (Below W2.heap.size W2 W4 ∧ ∀ j' y, j ≤ j' → out[j']? = some y → ahR buy o y = true) := ⟨below_step HK.out.1 H4.out, fun j' y h1 h2 => by
                  by_cases e : j' = j
                  · subst e
                    exact hah y (by rw [show j' + 1 - 1 = j' by omega]; exact h2)
                  · exact HK.out.2 j' y (by omega) h2⟩
                clear HK H4 HBB hah
                go_wp2
                exact ⟨⟨j, by omega, by go_num, HK2.out⟩, by simp [RowKit.intOf]; try omega⟩
              | false =>
                have HPUT : Hid (Ins s p Cf (i + 1) (out.take k ++ o :: out.drop k)) := by
                  refine HOI.out.1.put HOO.out.1 hat.out (by rw [← HNO.out]; exact hk) (fun j y h1 h2 => ?_) (fun j y h1 h2 => ?_)
                  · rw [HS.out, ← ahR_lt]
                    exact HK.out.2 j y h1 h2
                  · rw [HS.out, ← ahR_lt]
                    cases e : ahR buy o y with
                    | false => rfl
                    | true => exact absurd (HBB.out.2 ⟨by omega, fun y' hy' => by rw [show k - 1 = j by omega, h2] at hy'; cases hy'; exact e⟩) (by simp)
                have HV : Hid (OO W1 W4 (.slice av no cv) out ∧ Blk W4 gx 42 o.cs ∧ W1.heap.size ≤ gx ∧ (∀ q, (Value.slice av no cv).ownBlock = some q → q ≠ gx)) := by
                  have hb := below_step HK.out.1 H4.out
                  exact ⟨by have := HX.out.1.below hb; rw [← HNO.out] at this; exact this, HX.out.2.1.below hb HX.out.2.1.lt, HX.out.2.2.1, by have := HX.out.2.2.2; rw [← HNO.out] at this; exact this⟩
                clear HX HK H4 HBB
                go_upto_region 12 with fail
                rename_i K hK
                by_cases hz : out = []
                · have hv := HOI.out.2 hz
                  have hn0 := HNO.out
                  subst hz
                  simp only [List.length_nil] at hn0
                  subst hn0
                  obtain rfl : k = 0 := by omega
                  injection hv with hv1 _ hv3
                  subst hv1 hv3
                  have hb5 := hlt
                  refine wp_region_lit ?_
                  refine wpList_runTo rfl (some 63) rfl (.slice none 0 0) W4 (by kernel_rfl) ?_
                  simp only [Act.put, List.setIfInBounds_toArray, List.set_cons_zero, List.set_cons_succ]
                  refine wpList_runTo rfl (some 64) rfl (.slice none 0 0) W4 (by kernel_rfl) ?_
                  simp only [Act.put, List.setIfInBounds_toArray, List.set_cons_zero, List.set_cons_succ]
                  refine wpList_runTo rfl (some 65) rfl (.int .i64 ((0 : Nat) : Int)) W4 (by kernel_rfl) ?_
                  simp only [Act.put, List.setIfInBounds_toArray, List.set_cons_zero, List.set_cons_succ]
                  refine wpList_runTo rfl (some 66) rfl (.slice none 0 0) W4 (by exact cutNone_run (.tmp 64) (.tmp 65) rfl (by kernel_rfl) (by kernel_rfl) _) ?_
                  simp only [Act.put, List.setIfInBounds_toArray, List.set_cons_zero, List.set_cons_succ]
                  refine wpList_runTo rfl (some 67) rfl (.slice none 0 0) W4 (by exact appZero_run (ad := none) (n := 0) (c1 := 0) (c := 0) (Nat.le_refl _) (.tmp 63) (.tmp 66) rfl (by kernel_rfl) (by kernel_rfl) _) ?_
                  simp only [Act.put, List.setIfInBounds_toArray, List.set_cons_zero, List.set_cons_succ]
                  refine wpList_runTo rfl (some 12) rfl (.slice none 0 0) W4 (by kernel_rfl) ?_
                  simp only [Act.put, List.setIfInBounds_toArray, List.set_cons_zero, List.set_cons_succ]
                  refine wpList_nil ?_
                  refine hK _ _ ?_
                  clear hK
                  have HO5 : Hid (OO W1 W4 (.slice none 0 0) ([] : List Od)) := ⟨RowAt.none0 _ _ _, HV.out.1.bel, fun q hq => by cases hq⟩
                  go_upto_region 13 with fail
                  rename_i K hK
                  refine wp_region_lit ?_
                  refine wpList_runTo rfl (some 68) rfl (.slice none 0 0) W4 (by kernel_rfl) ?_
                  simp only [Act.put, List.setIfInBounds_toArray, List.set_cons_zero, List.set_cons_succ]
                  refine wpList_runTo rfl (some 69) rfl (.agg o.cs) W4 (by exact ldA_run (blk_range HV.out.2.1) Try.underlying42 rfl (by rw [hsz]; exact infoO) (.tmp 10) rfl (by kernel_rfl)) ?_
                  simp only [Act.put, List.setIfInBounds_toArray, List.set_cons_zero, List.set_cons_succ]
                  refine wpList_runTo rfl (some 70) rfl (.slice (some ⟨W4.heap.size, 0, none⟩) 1 1) (W4.alloc (.cells o.cs 42)) (by exact buildOt_run HOO.out.2 (.tmp 69) rfl (by kernel_rfl) _) ?_
                  simp only [Act.put, List.setIfInBounds_toArray, List.set_cons_zero, List.set_cons_succ]
                  have hrA : RowAt (W4.alloc (.cells o.cs 42)) 42 15 (.slice none 0 0) ([] : List Od).length (flatL (fun o => o.cs.toList) ([] : List Od)) := HO5.out.row.fr (Fr.alloc W4 _ (fun _ => False)) fun _ _ => id
                  refine wpList_append_row _ rfl (.tmp 68) (.tmp 70) 24 rfl 42 i0 _ 15 144 Try.underlying24 HI.out.1 HI.out.2.1 HI.out.2.2.1 HI.out.2.2.2 (by rfl) (.slice none 0 0) ([] : List Od).length (flatL (fun o => o.cs.toList) ([] : List Od)) (by kernel_rfl) hrA ⟨W4.heap.size, 0, none⟩ 1 1 o.cs.toList (by kernel_rfl) (by rw [Array.length_toList, hsz]) (fun j u hj => by rw [Addr.add_mid, Nat.zero_add, (Blk.new W4 42 o.cs).cell, ← Array.getElem?_toList]; exact hj) (fun u hu => by have := hone; rw [Array.all_eq_true'] at this; exact this u (Array.mem_def.2 hu)) (Or.inl (by omega)) (by simp only [List.length_nil]; unfold maxLen; omega) (by simp only [List.length_nil]; omega) ?_
                  intro v5 w5 hrow hfr hnew
                  have HX5 : Hid (OO W1 w5 v5 [o]) := (HO5.out.below ((Below.refl _ W4).alloc (Nat.le_refl _) _)).app (p := o) hrow hfr hnew
                  clear hrow hfr hnew hrA HO5 HV
                  simp only [Act.put, List.setIfInBounds_toArray, List.set_cons_zero, List.set_cons_succ]
                  obtain ⟨a5, c5, e5, hn5⟩ := HX5.out.row.form
                  subst e5
                  refine wpList_runTo rfl (some 12) rfl (.slice a5 ([o] : List Od).length c5) w5 (by kernel_rfl) ?_
                  simp only [Act.put, List.setIfInBounds_toArray, List.set_cons_zero, List.set_cons_succ]
                  refine wpList_nil ?_
                  refine hK _ _ ?_
                  clear hK
                  go_upto_region 14 with fail
                  refine wp_region_lit ?_
                  refine wpList_runTo rfl (some 72) rfl (.slice a5 ([o] : List Od).length c5) w5 (by kernel_rfl) ?_
                  simp only [Act.put, List.setIfInBounds_toArray, List.set_cons_zero, List.set_cons_succ]
                  refine wpList_runTo rfl (some 73) rfl (.slice none 0 0) w5 (by kernel_rfl) ?_
                  simp only [Act.put, List.setIfInBounds_toArray, List.set_cons_zero, List.set_cons_succ]
                  refine wpList_runTo rfl (some 74) rfl (.int .i64 ((0 : Nat) : Int)) w5 (by kernel_rfl) ?_
                  simp only [Act.put, List.setIfInBounds_toArray, List.set_cons_zero, List.set_cons_succ]
                  refine wpList_runTo rfl (some 75) rfl (.slice none 0 0) w5 (by exact fromNone_run (.tmp 73) (.tmp 74) rfl (by kernel_rfl) (by kernel_rfl) _) ?_
                  simp only [Act.put, List.setIfInBounds_toArray, List.set_cons_zero, List.set_cons_succ]
                  refine wpList_runTo rfl (some 76) rfl (.slice a5 ([o] : List Od).length c5) w5 (by exact appZero_run (ad := none) (c := 0) hn5 (.tmp 72) (.tmp 75) rfl (by kernel_rfl) (by kernel_rfl) _) ?_
                  simp only [Act.put, List.setIfInBounds_toArray, List.set_cons_zero, List.set_cons_succ]
                  refine wpList_runTo rfl (some 8) rfl (.slice a5 ([o] : List Od).length c5) w5 (by kernel_rfl) ?_
                  simp only [Act.put, List.setIfInBounds_toArray, List.set_cons_zero, List.set_cons_succ]
                  refine wpList_nil ?_
                  have HF : Hid (OO W1 w5 (.slice a5 ([o] : List Od).length c5) [o] ∧ Ins s p Cf (i + 1) [o] ∧ ([o] = [] → (Value.slice a5 ([o] : List Od).length c5) = .slice none 0 0)) := ⟨HX5.out, by have := HPUT.out; simpa using this, fun h => by cases h⟩
                  clear HX5 HPUT HOI
                  go_wp2
                  exact ⟨⟨i + 1, _, _, rfl, by omega, by go_num, HF.out⟩, by simp [RowKit.intOf]; omega⟩
                · have hno0 : 0 < no := by
                    rw [HNO.out]
                    exact List.length_pos_iff.2 hz
                  clear hz
                  have hvr := HV.out.1.row
                  rw [← HNO.out] at hvr
                  obtain ⟨go, oo, cx, cur, ea, _, hcap, _⟩ := hvr.more (by omega)
                  injection ea with ea1 _ ea2
                  subst ea1 ea2
                  clear hvr
                  have h15 : ∀ x ∈ out, x.cs.toList.length = 15 := fun x hx => (Array.length_toList).trans (HR2.out.2 x hx).ok.sz
                  have hokx : ∀ x ∈ out, x.ok := fun x hx => (HR2.out.2 x hx).ok
                  have H15 : Hid ((∀ x ∈ out, x.cs.toList.length = 15) ∧ ∀ x ∈ out, x.ok) := ⟨h15, hokx⟩
                  have HV2 : Hid (RowAt W4 42 15 (.slice (some ⟨go, oo, none⟩) no cv) no (flatL (fun o => o.cs.toList) out) ∧ W1.heap.size ≤ W4.heap.size ∧ Below W1.heap.size W1 W4 ∧ Blk W4 gx 42 o.cs ∧ gx < W4.heap.size ∧ go ≠ gx) := ⟨by have := HV.out.1.row; rw [← HNO.out] at this; exact this, HV.out.1.bel.size, HV.out.1.bel, HV.out.2.1, HV.out.2.1.lt, HV.out.2.2.2 go rfl⟩
                  clear h15 hokx HV HR2
                  go_cut [12] (fun x wx => ∃ v12 W5, v12 = x ∧ W5 = wx ∧ Hid (OO W1 W5 v12 (out.take k) ∧ RowAt W5 42 15 (.slice (some ⟨go, oo, none⟩) no cv) no (flatL (fun o => o.cs.toList) out) ∧ Blk W5 gx 42 o.cs ∧ ∀ q, v12.ownBlock = some q → q ≠ go ∧ q ≠ gx))
                  case first => as_aux_lemma =>
                    rename_i K hK
                    by_cases hk0 : k = 0
                    · subst hk0
                      refine wp_region_lit ?_
                      refine wpList_runTo rfl (some 63) rfl (.slice none 0 0) W4 (by kernel_rfl) ?_
                      simp only [Act.put, List.setIfInBounds_toArray, List.set_cons_zero, List.set_cons_succ]
                      refine wpList_runTo rfl (some 64) rfl (.slice (some ⟨go, oo, none⟩) no cv) W4 (by kernel_rfl) ?_
                      simp only [Act.put, List.setIfInBounds_toArray, List.set_cons_zero, List.set_cons_succ]
                      refine wpList_runTo rfl (some 65) rfl (.int .i64 ((0 : Nat) : Int)) W4 (by kernel_rfl) ?_
                      simp only [Act.put, List.setIfInBounds_toArray, List.set_cons_zero, List.set_cons_succ]
                      refine wpList_runTo rfl (some 66) rfl (.slice (some ⟨go, oo, none⟩) 0 cv) W4 (by exact cutO_run (lg := go) (lo := oo) (n := no) (k := 0) (.tmp 64) (.tmp 65) rfl (by kernel_rfl) (by kernel_rfl) (by omega) _) ?_
                      simp only [Act.put, List.setIfInBounds_toArray, List.set_cons_zero, List.set_cons_succ]
                      refine wpList_runTo rfl (some 67) rfl (.slice none 0 0) W4 (by exact appZero_run (ad := some ⟨go, oo, none⟩) (n := 0) (c1 := 0) (c := cv) (Nat.le_refl _) (.tmp 63) (.tmp 66) rfl (by kernel_rfl) (by kernel_rfl) _) ?_
                      simp only [Act.put, List.setIfInBounds_toArray, List.set_cons_zero, List.set_cons_succ]
                      refine wpList_runTo rfl (some 12) rfl (.slice none 0 0) W4 (by kernel_rfl) ?_
                      simp only [Act.put, List.setIfInBounds_toArray, List.set_cons_zero, List.set_cons_succ]
                      refine wpList_nil ?_
                      refine hK _ _ ?_
                      clear hK
                      have HF : Hid (OO W1 W4 (.slice none 0 0) (out.take 0) ∧ RowAt W4 42 15 (.slice (some ⟨go, oo, none⟩) no cv) no (flatL (fun o => o.cs.toList) out) ∧ Blk W4 gx 42 o.cs ∧ ∀ q, (Value.slice none 0 0).ownBlock = some q → q ≠ go ∧ q ≠ gx) := ⟨⟨RowAt.none0 _ _ _, HV2.out.2.2.1, fun q hq => by cases hq⟩, HV2.out.1, HV2.out.2.2.2.1, fun q hq => by cases hq⟩
                      go_meet
                      exact ⟨_, _, rfl, rfl, HF.out⟩
                    · skip
                      have HO5 : Hid (OO W1 W4 (.slice none 0 0) ([] : List Od)) := ⟨RowAt.none0 _ _ _, HV2.out.2.2.1, fun q hq => by cases hq⟩
                      have hlk : (out.take k).length = k := by rw [List.length_take, ← HNO.out]; omega
                      have hones : ∀ x ∈ out.take k, x.ok := fun x hx => H15.out.2 x ((List.take_prefix k out).subset hx)
                      have hl15 : ∀ x ∈ out.take k, x.cs.toList.length = 15 := fun x hx => H15.out.1 x ((List.take_prefix k out).subset hx)
                      refine wp_region_lit ?_
                      refine wpList_runTo rfl (some 63) rfl (.slice none 0 0) W4 (by kernel_rfl) ?_
                      simp only [Act.put, List.setIfInBounds_toArray, List.set_cons_zero, List.set_cons_succ]
                      refine wpList_runTo rfl (some 64) rfl (.slice (some ⟨go, oo, none⟩) no cv) W4 (by kernel_rfl) ?_
                      simp only [Act.put, List.setIfInBounds_toArray, List.set_cons_zero, List.set_cons_succ]
                      refine wpList_runTo rfl (some 65) rfl (.int .i64 (k : Int)) W4 (by kernel_rfl) ?_
                      simp only [Act.put, List.setIfInBounds_toArray, List.set_cons_zero, List.set_cons_succ]
                      refine wpList_runTo rfl (some 66) rfl (.slice (some ⟨go, oo, none⟩) k cv) W4 (by exact cutO_run (lg := go) (lo := oo) (n := no) (k := k) (.tmp 64) (.tmp 65) rfl (by kernel_rfl) (by kernel_rfl) (by omega) _) ?_
                      simp only [Act.put, List.setIfInBounds_toArray, List.set_cons_zero, List.set_cons_succ]
                      refine wpList_append_row _ rfl (.tmp 63) (.tmp 66) 24 rfl 42 i0 _ 15 144 Try.underlying24 HI.out.1 HI.out.2.1 HI.out.2.2.1 HI.out.2.2.2 (by rfl) (.slice none 0 0) ([] : List Od).length (flatL (fun o => o.cs.toList) ([] : List Od)) (by kernel_rfl) HO5.out.row ⟨go, oo, none⟩ k cv (flatL (fun o => o.cs.toList) (out.take k)) (by kernel_rfl) (by rw [flatO_len hl15, hlk]) (fun j u hj => by rw [Addr.add_mid]; exact HV2.out.1.cell rfl (j := j) (u := u) (by rw [flatO_take H15.out.1, List.getElem?_take] at hj; split at hj; exact hj; cases hj)) (flatO_one hones) (Or.inl (by omega)) (by simp only [List.length_nil]; unfold maxLen; omega) (by simp only [List.length_nil]; omega) ?_
                      intro v5 w5 hrow hfr hnew
                      have HF : Hid (OO W1 w5 v5 (out.take k) ∧ RowAt w5 42 15 (.slice (some ⟨go, oo, none⟩) no cv) no (flatL (fun o => o.cs.toList) out) ∧ Blk w5 gx 42 o.cs ∧ ∀ q, v5.ownBlock = some q → q ≠ go ∧ q ≠ gx) := by
                        refine ⟨by have := HO5.out.appL (L := out.take k) (by rw [hlk]; exact hrow) hfr hnew; simpa using this, HV2.out.1.fr hfr fun q _ e => (by cases e), (hfr.block gx HV2.out.2.2.2.2.1 (fun e => by cases e)).trans HV2.out.2.2.2.1, fun q hq => ?_⟩
                        rcases hnew with h1 | ⟨h1, _⟩
                        · rw [h1] at hq; cases hq
                        · rw [h1] at hq
                          injection hq with hq
                          have h2 := (HV2.out.1.lt (g := go) rfl).1
                          have h3 := HV2.out.2.2.2.2.1
                          omega
                      clear hrow hfr hnew HO5
                      simp only [Act.put, List.setIfInBounds_toArray, List.set_cons_zero, List.set_cons_succ]
                      refine wpList_runTo rfl (some 12) rfl (v5) w5 (by kernel_rfl) ?_
                      simp only [Act.put, List.setIfInBounds_toArray, List.set_cons_zero, List.set_cons_succ]
                      refine wpList_nil ?_
                      refine hK _ _ ?_
                      clear hK
                      go_meet
                      exact ⟨_, _, rfl, rfl, HF.out⟩
                  case rest => as_aux_lemma =>
                    obtain ⟨v12, W5, rfl, rfl, H5⟩ := hcut
                    have hlk : (out.take k).length = k := by rw [List.length_take, ← HNO.out]; omega
                    clear HV2
                    go_upto_region 13 with fail
                    rename_i K hK
                    refine wp_region_lit ?_
                    refine wpList_runTo rfl (some 68) rfl (v12) W5 (by kernel_rfl) ?_
                    simp only [Act.put, List.setIfInBounds_toArray, List.set_cons_zero, List.set_cons_succ]
                    refine wpList_runTo rfl (some 69) rfl (.agg o.cs) W5 (by exact ldA_run (blk_range H5.out.2.2.1) Try.underlying42 rfl (by rw [hsz]; exact infoO) (.tmp 10) rfl (by kernel_rfl)) ?_
                    simp only [Act.put, List.setIfInBounds_toArray, List.set_cons_zero, List.set_cons_succ]
                    refine wpList_runTo rfl (some 70) rfl (.slice (some ⟨W5.heap.size, 0, none⟩) 1 1) (W5.alloc (.cells o.cs 42)) (by exact buildOt_run HOO.out.2 (.tmp 69) rfl (by kernel_rfl) _) ?_
                    simp only [Act.put, List.setIfInBounds_toArray, List.set_cons_zero, List.set_cons_succ]
                    have hrA : RowAt (W5.alloc (.cells o.cs 42)) 42 15 v12 (out.take k).length (flatL (fun o => o.cs.toList) (out.take k)) := H5.out.1.row.fr (Fr.alloc W5 _ (fun _ => False)) fun _ _ => id
                    refine wpList_append_row _ rfl (.tmp 68) (.tmp 70) 24 rfl 42 i0 _ 15 144 Try.underlying24 HI.out.1 HI.out.2.1 HI.out.2.2.1 HI.out.2.2.2 (by rfl) v12 (out.take k).length (flatL (fun o => o.cs.toList) (out.take k)) (by kernel_rfl) hrA ⟨W5.heap.size, 0, none⟩ 1 1 o.cs.toList (by kernel_rfl) (by rw [Array.length_toList, hsz]) (fun j u hj => by rw [Addr.add_mid, Nat.zero_add, (Blk.new W5 42 o.cs).cell, ← Array.getElem?_toList]; exact hj) (fun u hu => by have := hone; rw [Array.all_eq_true'] at this; exact this u (Array.mem_def.2 hu)) (Or.inl (by omega)) (by unfold maxLen; omega) (by omega) ?_
                    intro v6 w6 hrow hfr hnew
                    have H6 : Hid (OO W1 w6 v6 (out.take k ++ [o]) ∧ RowAt w6 42 15 (.slice (some ⟨go, oo, none⟩) no cv) no (flatL (fun o => o.cs.toList) out) ∧ ∀ q, v6.ownBlock = some q → q ≠ go) := by
                      have hal := (Below.refl _ W5).alloc (Nat.le_refl _) (.cells o.cs 42)
                      refine ⟨(H5.out.1.below hal).app (p := o) hrow hfr hnew, (H5.out.2.1.fr (Fr.of_below hal (fun _ => False)) fun _ _ => id).fr hfr fun q hq e => ?_, fun q hq => ?_⟩
                      · injection hq with hq
                        exact (H5.out.2.2.2 q e).1 hq.symm
                      · rcases hnew with h1 | ⟨h1, _⟩
                        · exact (H5.out.2.2.2 q (h1 ▸ hq)).1
                        · rw [h1] at hq
                          injection hq with hq
                          have h2 := (H5.out.2.1.lt (g := go) rfl).1
                          have h3 := hal.size
                          omega
                    clear hrow hfr hnew hrA H5
                    simp only [Act.put, List.setIfInBounds_toArray, List.set_cons_zero, List.set_cons_succ]
                    obtain ⟨a6, c6, e6, hn6⟩ := H6.out.1.row.form
                    have hl6 : (out.take k ++ [o]).length = k + 1 := by rw [List.length_append, hlk]; rfl
                    rw [hl6] at e6 hn6
                    subst e6
                    refine wpList_runTo rfl (some 12) rfl (.slice a6 (k + 1) c6) w6 (by kernel_rfl) ?_
                    simp only [Act.put, List.setIfInBounds_toArray, List.set_cons_zero, List.set_cons_succ]
                    refine wpList_nil ?_
                    refine hK _ _ ?_
                    clear hK
                    go_upto_region 14 with fail
                    refine wp_region_lit ?_
                    refine wpList_runTo rfl (some 72) rfl (.slice a6 (k + 1) c6) w6 (by kernel_rfl) ?_
                    simp only [Act.put, List.setIfInBounds_toArray, List.set_cons_zero, List.set_cons_succ]
                    refine wpList_runTo rfl (some 73) rfl (.slice (some ⟨go, oo, none⟩) no cv) w6 (by kernel_rfl) ?_
                    simp only [Act.put, List.setIfInBounds_toArray, List.set_cons_zero, List.set_cons_succ]
                    refine wpList_runTo rfl (some 74) rfl (.int .i64 (k : Int)) w6 (by kernel_rfl) ?_
                    simp only [Act.put, List.setIfInBounds_toArray, List.set_cons_zero, List.set_cons_succ]
                    by_cases hkn : k = no
                    · have e0 : no - k = 0 := by omega
                      refine wpList_runTo rfl (some 75) rfl (.slice (some ⟨go, if k < cv then oo + k * 15 else oo, none⟩) 0 (cv - k)) w6 (by exact fromO3_run (lg := go) (lo := oo) (n := no) (cap := cv) (k := k) (.tmp 73) (.tmp 74) rfl (by kernel_rfl) (by kernel_rfl) hk hcap rfl e0 _) ?_
                      simp only [Act.put, List.setIfInBounds_toArray, List.set_cons_zero, List.set_cons_succ]
                      refine wpList_runTo rfl (some 76) rfl (.slice a6 (k + 1) c6) w6 (by exact appZero_run (ad := some ⟨go, if k < cv then oo + k * 15 else oo, none⟩) (c := cv - k) hn6 (.tmp 72) (.tmp 75) rfl (by kernel_rfl) (by kernel_rfl) _) ?_
                      simp only [Act.put, List.setIfInBounds_toArray, List.set_cons_zero, List.set_cons_succ]
                      refine wpList_runTo rfl (some 8) rfl (.slice a6 (k + 1) c6) w6 (by kernel_rfl) ?_
                      simp only [Act.put, List.setIfInBounds_toArray, List.set_cons_zero, List.set_cons_succ]
                      refine wpList_nil ?_
                      have HF : Hid (OO W1 w6 (.slice a6 (k + 1) c6) (out.take k ++ o :: out.drop k) ∧ Ins s p Cf (i + 1) (out.take k ++ o :: out.drop k) ∧ (out.take k ++ o :: out.drop k = [] → (Value.slice a6 (k + 1) c6) = .slice none 0 0)) := by
                        refine ⟨?_, HPUT.out, fun h => by simp at h⟩
                        rw [show out.drop k = [] from List.drop_eq_nil_of_le (by rw [← HNO.out]; omega)]
                        exact H6.out.1
                      clear H6 HPUT HOI
                      go_wp2
                      exact ⟨⟨i + 1, _, _, rfl, by omega, by go_num, HF.out⟩, by simp [RowKit.intOf]; omega⟩
                    · have hk3 : k < no := by omega
                      have hkc : k < cv := by omega
                      have hld : (out.drop k).length = no - k := by rw [List.length_drop, ← HNO.out]
                      have hones : ∀ x ∈ out.drop k, x.ok := fun x hx => H15.out.2 x (List.mem_of_mem_drop hx)
                      have hl15 : ∀ x ∈ out.drop k, x.cs.toList.length = 15 := fun x hx => H15.out.1 x (List.mem_of_mem_drop hx)
                      refine wpList_runTo rfl (some 75) rfl (.slice (some ⟨go, oo + k * 15, none⟩) (no - k) (cv - k)) w6 (by exact fromO3_run (lg := go) (lo := oo) (n := no) (cap := cv) (k := k) (.tmp 73) (.tmp 74) rfl (by kernel_rfl) (by kernel_rfl) hk hcap (if_pos hkc) rfl _) ?_
                      simp only [Act.put, List.setIfInBounds_toArray, List.set_cons_zero, List.set_cons_succ]
                      have H6r := H6.out.1.row
                      rw [hl6] at H6r
                      refine wpList_append_row _ rfl (.tmp 72) (.tmp 75) 24 rfl 42 i0 _ 15 144 Try.underlying24 HI.out.1 HI.out.2.1 HI.out.2.2.1 HI.out.2.2.2 (by rfl) (.slice a6 (k + 1) c6) (k + 1) (flatL (fun o => o.cs.toList) (out.take k ++ [o])) (by kernel_rfl) H6r ⟨go, oo + k * 15, none⟩ (no - k) (cv - k) (flatL (fun o => o.cs.toList) (out.drop k)) (by kernel_rfl) (by rw [flatO_len hl15, hld]) (fun j u hj => by rw [Addr.add_mid, Nat.add_assoc]; exact H6.out.2.1.cell rfl (j := k * 15 + j) (u := u) (by rw [flatO_drop H15.out.1, List.getElem?_drop] at hj; exact hj)) (flatO_one hones) (Or.inl (by omega)) (by unfold maxLen; omega) (by omega) ?_
                      intro v7 w7 hrow hfr hnew
                      have HF : Hid (OO W1 w7 v7 (out.take k ++ o :: out.drop k) ∧ Ins s p Cf (i + 1) (out.take k ++ o :: out.drop k) ∧ (out.take k ++ o :: out.drop k = [] → v7 = .slice none 0 0)) := by
                        refine ⟨?_, HPUT.out, fun h => by simp at h⟩
                        rw [show out.take k ++ o :: out.drop k = (out.take k ++ [o]) ++ out.drop k by simp]
                        exact H6.out.1.appL (L := out.drop k) (by rw [hl6, hld]; exact hrow) hfr hnew
                      clear hrow hfr hnew H6 H6r HPUT HOI
                      simp only [Act.put, List.setIfInBounds_toArray, List.set_cons_zero, List.set_cons_succ]
                      refine wpList_runTo rfl (some 8) rfl (v7) w7 (by kernel_rfl) ?_
                      simp only [Act.put, List.setIfInBounds_toArray, List.set_cons_zero, List.set_cons_succ]
                      refine wpList_nil ?_
                      go_wp2
                      exact ⟨⟨i + 1, _, _, rfl, by omega, by go_num, HF.out⟩, by simp [RowKit.intOf]; omega⟩
    · have hin : n = i := by omega
      subst hin
      have hlt' : ¬ (n : Int) < (n : Int) := by omega
      have HF : Hid (∃ out, OO w W v out ∧ Ins s p Cf n out) := ⟨out, ⟨HO.out.1.row, below_step HC.out.2 HO.out.1.bel, fun q hq => Nat.le_trans HC.out.2.size (HO.out.1.own q hq)⟩, HO.out.2.1⟩
      clear HO
      go_wp2
      go_ret
      exact ⟨_, rfl, HF⟩
end Go.Proofs.Ytbhddfcdnpidkaa

namespace Go.Proofs.Ytbhddfcdnpidkaa
set_option linter.unusedVariables false
set_option linter.unusedSimpArgs false
open Go.RowKit Go.Great

/-- An order that has traded some. -/
def Od.cut (o : Od) (q : Int) : Od := ⟨o.cs.setIfInBounds 9 (.int .i64 (o.qt - q)), o.id, o.ty, o.pr, o.qt - q⟩
theorem OdT.cut {o : Od} (h : OdT o) (q : Int) : OdT (o.cut q) := by
  obtain ⟨i, s, t, u, a, b, c, d, e, f, g, h, j, k, m, rfl⟩ := h
  exact ⟨i, s, t, u, a, b, c, d, e, f - q, g, h, j, k, m, rfl⟩
theorem wnC_cut (o : Od) (q : Int) : wnC (o.cut q) = ⟨(wnC o).id, (wnC o).m, (wnC o).p, (wnC o).q - q⟩ := rfl
theorem flatO_set : ∀ {l : List Od} {i : Nat} {o : Od} (q : Int), (∀ x ∈ l, x.cs.toList.length = 15) → l[i]? = some o → (flatL (fun o : Od => o.cs.toList) l).set (i * 15 + 9) (.int .i64 (o.qt - q)) = flatL (fun o : Od => o.cs.toList) (l.set i (o.cut q))
  | [], _, _, _, _, h => by simp at h
  | x :: l, 0, o, q, hl, h => by
    have h1 := hl x List.mem_cons_self
    have e : x = o := by simpa using h
    subst e
    show (x.cs.toList ++ flatL _ l).set _ _ = (x.cs.setIfInBounds 9 _).toList ++ flatL _ l
    rw [Array.toList_setIfInBounds, Nat.zero_mul, Nat.zero_add, List.set_append_left _ _ (by omega)]
  | x :: l, i + 1, o, q, hl, h => by
    have h1 := hl x List.mem_cons_self
    show (x.cs.toList ++ flatL _ l).set _ _ = x.cs.toList ++ flatL _ (l.set i (o.cut q))
    rw [List.set_append_right _ _ (by omega), h1, show (i + 1) * 15 + 9 - 15 = i * 15 + 9 by omega, flatO_set q (fun x hx => hl x (List.mem_cons_of_mem _ hx)) (by simpa using h)]
theorem RowAt.cutO {w : World} {g off n c i : Nat} {l : List Od} {o : Od} (h : RowAt w 42 15 (.slice (some ⟨g, off, none⟩) n c) n (flatL (fun o => o.cs.toList) l)) (hl : ∀ x ∈ l, OdT x) (ho : l[i]? = some o) (q : Int) : RowAt (w.setCell ⟨g, off + i * 15 + 9, none⟩ (.int .i64 (o.qt - q))) 42 15 (.slice (some ⟨g, off, none⟩) n c) n (flatL (fun o => o.cs.toList) (l.set i (o.cut q))) := by
  have h15 : ∀ x ∈ l, x.cs.toList.length = 15 := fun x hx => (Array.length_toList).trans (hl x hx).ok.sz
  have := h.set (j := i * 15 + 9) (by rw [flatO_len h15]; have := (List.getElem?_eq_some_iff.1 ho).1; omega) (.int .i64 (o.qt - q))
  rw [flatO_set q h15 ho, ← Nat.add_assoc] at this
  exact this
theorem okT_set {l : List Od} {i : Nat} {o : Od} (hl : ∀ x ∈ l, OdT x) (ho : OdT o) (q : Int) : ∀ x ∈ l.set i (o.cut q), OdT x := fun x hx => by
  rcases List.mem_or_eq_of_mem_set hx with h | rfl
  · exact hl x h
  · exact ho.cut q
theorem drop_cons {l : List Od} {i : Nat} {o : Od} (ho : l[i]? = some o) : l.drop i = o :: l.drop (i + 1) := by
  obtain ⟨hi, e⟩ := List.getElem?_eq_some_iff.1 ho
  rw [List.drop_eq_getElem_cons hi, e]
theorem lft_cut {l : List Od} {i : Nat} {o : Od} (ho : l[i]? = some o) (q : Int) : ((l.set i (o.cut q)).drop (if o.qt - q = 0 then i + 1 else i)).map wnC = lessL q ((l.drop i).map wnC) := by
  have hi := (List.getElem?_eq_some_iff.1 ho).1
  have e1 : (l.set i (o.cut q)).drop (i + 1) = l.drop (i + 1) := by simp [List.drop_set]
  have e2 : (l.set i (o.cut q))[i]? = some (o.cut q) := by simp [hi]
  rw [drop_cons ho, List.map_cons, lessL_eq]
  by_cases h : o.qt - q = 0
  · rw [if_pos h, if_pos (show (wnC o).q - q = 0 from h), e1]
  · rw [if_neg h, if_neg (show ¬ (wnC o).q - q = 0 from h), drop_cons e2, e1, List.map_cons, wnC_cut]
/-- Where the reference's Fills stands in memory. -/
structure RI (w W : World) (b5 : Nat) (r : Rs) (v7 v8 v9 : Value) (B S : List Od) (F : List Fl) : Prop where
  bel : Below w.heap.size w W
  k5 : Blk W b5 46 r.cs
  l5 : w.heap.size ≤ b5
  rB : RowAt W 42 15 v7 B.length (flatL (fun o => o.cs.toList) B)
  rS : RowAt W 42 15 v8 S.length (flatL (fun o => o.cs.toList) S)
  rF : RowAt W 39 5 v9 F.length (flatL flL F)
  o7 : ∀ q, v7.ownBlock = some q → w.heap.size ≤ q ∧ q ≠ b5
  o8 : ∀ q, v8.ownBlock = some q → w.heap.size ≤ q ∧ q ≠ b5
  o9 : ∀ q, v9.ownBlock = some q → w.heap.size ≤ q ∧ q ≠ b5
  d78 : ∀ q, v7.ownBlock = some q → v8.ownBlock ≠ some q
  d79 : ∀ q, v7.ownBlock = some q → v9.ownBlock ≠ some q
  d89 : ∀ q, v8.ownBlock = some q → v9.ownBlock ≠ some q
  tB : ∀ x ∈ B, OdT x
  tS : ∀ x ∈ S, OdT x
theorem RI.below {w W W' : World} {b5 : Nat} {r : Rs} {v7 v8 v9 : Value} {B S : List Od} {F : List Fl} (h : RI w W b5 r v7 v8 v9 B S F) (hb : Below W.heap.size W W') : RI w W' b5 r v7 v8 v9 B S F :=
  have f := Fr.of_below hb (fun _ => False)
  ⟨below_step h.bel hb, h.k5.below hb h.k5.lt, h.l5, h.rB.fr f fun _ _ => id, h.rS.fr f fun _ _ => id, h.rF.fr f fun _ _ => id, h.o7, h.o8, h.o9, h.d78, h.d79, h.d89, h.tB, h.tS⟩
theorem RI.cutB {w W : World} {b5 : Nat} {r : Rs} {v8 v9 : Value} {B S : List Od} {F : List Fl} {g off n c i : Nat} {o : Od} (h : RI w W b5 r (.slice (some ⟨g, off, none⟩) n c) v8 v9 B S F) (hn : n = B.length) (ho : B[i]? = some o) (q : Int) : RI w (W.setCell ⟨g, off + i * 15 + 9, none⟩ (.int .i64 (o.qt - q))) b5 r (.slice (some ⟨g, off, none⟩) n c) v8 v9 (B.set i (o.cut q)) S F := by
  have f : Fr W (W.setCell ⟨g, off + i * 15 + 9, none⟩ (.int .i64 (o.qt - q))) (fun b => b = g) := Fr.setCell W _ _ _ rfl
  have hg : (Value.slice (some ⟨g, off, none⟩) n c).ownBlock = some g := rfl
  exact ⟨bel_fr h.bel f (h.o7 g hg).1, (f.block b5 h.k5.lt (fun x => (h.o7 g hg).2 x.symm)).trans h.k5, h.l5, by have := h.rB; rw [← hn] at this; rw [List.length_set, ← hn]; exact this.cutO h.tB ho q, h.rS.fr f (fun q hq x => h.d78 g hg (x ▸ hq)), h.rF.fr f (fun q hq x => h.d79 g hg (x ▸ hq)), h.o7, h.o8, h.o9, h.d78, h.d79, h.d89, okT_set h.tB (h.tB o (List.mem_of_getElem? ho)) q, h.tS⟩
theorem RI.cutS {w W : World} {b5 : Nat} {r : Rs} {v7 v9 : Value} {B S : List Od} {F : List Fl} {g off n c i : Nat} {o : Od} (h : RI w W b5 r v7 (.slice (some ⟨g, off, none⟩) n c) v9 B S F) (hn : n = S.length) (ho : S[i]? = some o) (q : Int) : RI w (W.setCell ⟨g, off + i * 15 + 9, none⟩ (.int .i64 (o.qt - q))) b5 r v7 (.slice (some ⟨g, off, none⟩) n c) v9 B (S.set i (o.cut q)) F := by
  have f : Fr W (W.setCell ⟨g, off + i * 15 + 9, none⟩ (.int .i64 (o.qt - q))) (fun b => b = g) := Fr.setCell W _ _ _ rfl
  have hg : (Value.slice (some ⟨g, off, none⟩) n c).ownBlock = some g := rfl
  exact ⟨bel_fr h.bel f (h.o8 g hg).1, (f.block b5 h.k5.lt (fun x => (h.o8 g hg).2 x.symm)).trans h.k5, h.l5, h.rB.fr f (fun q hq x => h.d78 q hq (by rw [x]; rfl)), by have := h.rS; rw [← hn] at this; rw [List.length_set, ← hn]; exact this.cutO h.tS ho q, h.rF.fr f (fun q hq x => h.d89 g hg (x ▸ hq)), h.o7, h.o8, h.o9, h.d78, h.d79, h.d89, h.tB, okT_set h.tS (h.tS o (List.mem_of_getElem? ho)) q⟩
theorem RI.app {w W W' : World} {b5 : Nat} {r : Rs} {v7 v8 v9 v' : Value} {B S : List Od} {F : List Fl} {p : Fl} (h : RI w W b5 r v7 v8 v9 B S F) (hrow : RowAt W' 39 5 v' (F.length + 1) (flatL flL F ++ flL p)) (hfr : Fr W W' (fun b => v9.ownBlock = some b)) (hnew : v'.ownBlock = v9.ownBlock ∨ v'.ownBlock = some W.heap.size ∧ ∀ k, k < W.heap.size → W'.heap[k]? = W.heap[k]?) : RI w W' b5 r v7 v8 v' B S (F ++ [p]) := by
  have hnn : ∀ q, v'.ownBlock = some q → v9.ownBlock = some q ∨ q = W.heap.size := fun q hq => by
    rcases hnew with e | ⟨e, _⟩
    · exact .inl (e ▸ hq)
    · rw [e] at hq; injection hq with hq; exact .inr hq.symm
  refine ⟨⟨hfr.os.trans h.bel.os, hfr.tape.trans h.bel.tape, hfr.output.trans h.bel.output, Nat.le_trans h.bel.size hfr.size, fun q hq => (hfr.block q (Nat.lt_of_lt_of_le hq h.bel.size) (fun e => by have := (h.o9 q e).1; omega)).trans (h.bel.block q hq)⟩, (hfr.block b5 h.k5.lt (fun e => (h.o9 b5 e).2 rfl)).trans h.k5, h.l5, h.rB.fr hfr (fun q hq e => h.d79 q hq e), h.rS.fr hfr (fun q hq e => h.d89 q hq e), ?_, h.o7, h.o8, fun q hq => ?_, h.d78, fun q hq e => ?_, fun q hq e => ?_, h.tB, h.tS⟩
  · rw [List.length_append, flatL_app, flatL_one]
    exact hrow
  · rcases hnn q hq with e | e
    · exact h.o9 q e
    · have := h.bel.size
      have := h.k5.lt
      omega
  · rcases hnn q e with e | e
    · exact h.d79 q hq e
    · have := (h.rB.lt hq).1
      omega
  · rcases hnn q e with e | e
    · exact h.d89 q hq e
    · have := (h.rS.lt hq).1
      omega
end Go.Proofs.Ytbhddfcdnpidkaa

namespace Go.Proofs.Ytbhddfcdnpidkaa
set_option linter.unusedVariables false
set_option linter.unusedSimpArgs false
open Go.RowKit Go.Great
attribute [local irreducible] wpList

theorem ltN_run {op : Oper} {a : Act} {p q : Int} {r : Bool} (x y : Operand) (ho : op.op = .binOp .lss 3 x y 3) (hx : a.eval x = .int .i64 p) (hy : a.eval y = .int .i64 q) (hr : decide (p < q) = r) (w : World) : (execOp a.eval op).run Try.prog w = .ok (.value (.bool r)) w := by
  subst hr
  unfold execOp
  simp only [ho, hx, hy]
  go_simp
theorem od_at {w : World} {g off n c i : Nat} {l : List Od} {o : Od} (h : RowAt w 42 15 (.slice (some ⟨g, off, none⟩) n c) n (flatL (fun o => o.cs.toList) l)) (hl : ∀ x ∈ l, OdT x) (ho : l[i]? = some o) : w.cell? ⟨g, off + i * 15, none⟩ = some (.int .i64 o.id) ∧ w.cell? ⟨g, off + i * 15 + 9, none⟩ = some (.int .i64 o.qt) := by
  have hok : ∀ x ∈ l, x.ok := fun x hx => (hl x hx).ok
  have hr := row_rangeO h hok ho
  have h0 := hok o (List.mem_of_getElem? ho)
  exact ⟨hr 0 _ (by rw [Array.getElem?_toList]; exact h0.c0), hr 9 _ (by rw [Array.getElem?_toList]; exact h0.c9)⟩
theorem mn_ref (left : Int) (b s : Od) : (if left < (if b.qt < s.qt then b.qt else s.qt) then left else (if b.qt < s.qt then b.qt else s.qt)) = mnF left (wnC b) (wnC s) := by
  show _ = mn2 (mn2 left b.qt) s.qt
  unfold mn2
  split <;> split <;> split <;> (try split) <;> omega
theorem ins_ok {s p : Int} {l out : List Od} (h : Ins s p (l.filter cntB) (l.filter cntB).length out) (hl : ∀ o ∈ l, OdT o) : (∀ o ∈ out, OdT o) ∧ okQ (out.map wnC) ∧ out.length ≤ l.length := by
  refine ⟨fun o ho => hl o (List.mem_filter.1 (h.sub o ho)).1, fun v hv => ?_, Nat.le_trans h.len (List.length_filter_le _ _)⟩
  obtain ⟨o, ho, rfl⟩ := List.mem_map.1 hv
  have h1 : cntB o = true := (List.mem_filter.1 (h.sub o ho)).2
  exact ⟨(of_decide_eq_true h1).1, (of_decide_eq_true h1).2.1⟩
/-- What the reference fills is what the program fills. -/
theorem FV_ref {b s B S : List Od} {r : Rs} (hq : 1 ≤ r.qty) (hp : 1 ≤ r.price ∧ r.price ≤ 1000000000) (hB : Ins 1 r.price (b.filter cntB) (b.filter cntB).length B) (hS : Ins 2 r.price (s.filter cntB) (s.filter cntB).length S) : ∀ F', FV b s r F' → F' = fillsF r.price ((B.map wnC).length + (S.map wnC).length) r.qty (B.map wnC) (S.map wnC) := by
  rintro F' (⟨h | h, _⟩ | ⟨_, _, B', S', hR, e⟩)
  · omega
  · exact absurd hp h
  · have k1 := hB.row hR.tb fun x y h k => by
      rw [atW1] at k ⊢
      exact leB_at (leB_of fun q => of_decide_eq_false (show decide (cfW 1 y x < 0) = false from h) (cfW_neg.2 q)) k
    have k2 := hS.row hR.ts fun x y h k => by
      rw [atW2] at k ⊢
      exact leS_at (leS_of fun q => of_decide_eq_false (show decide (cfW 2 y x < 0) = false from h) (cfW_neg.2 q)) k
    rw [atW1] at k1
    rw [atW2] at k2
    rw [e, k1, k2]
theorem FV_none {b s : List Od} {r : Rs} (h : r.qty < 1 ∨ ¬ (1 ≤ r.price ∧ r.price ≤ 1000000000)) : ∀ F', FV b s r F' → F' = [] := by
  rintro F' (⟨_, e⟩ | ⟨h1, h2, _⟩)
  · exact e
  · rcases h with h | h
    · omega
    · exact absurd h2 h
set_option maxRecDepth 100000 in
set_option maxHeartbeats 8000000 in
theorem refFills_any {w : World} {b s : List Od} {a a' : Option Addr} {c c' : Nat} (hb : RowIn w 42 15 (.slice a b.length c) b.length (flatL (fun o => o.cs.toList) b)) (hbo : ∀ o ∈ b, OdT o) (hbl : b.length ≤ 977343669105) (hs : RowIn w 42 15 (.slice a' s.length c') s.length (flatL (fun o => o.cs.toList) s)) (hso : ∀ o ∈ s, OdT o) (hsl : s.length ≤ 977343669105) (r : Rs) (hq : r.qty ≤ 9223372036854775807) :
    Calls Try.prog 20 #[.slice a b.length c, .slice a' s.length c', .agg r.cs] w fun e w' => ∃ v, e = .returned v ∧ Hid (∃ F, FR w w' v F ∧ ∀ F', FV b s r F' → F' = F) := by
  obtain ⟨i0, hi0, hz0, hz1, hz2⟩ := info_parts infoFl
  have HI : Hid (Try.prog.info? 39 = some i0 ∧ i0.zero = some (.agg #[.int .i64 0, .int .i64 0, .int .i64 0, .int .i64 0, .int .i64 0]) ∧ i0.size = 5 ∧ i0.bytes = 40) := ⟨hi0, hz0, hz1, hz2⟩
  clear hi0 hz0 hz1 hz2
  obtain ⟨lb, hlb⟩ : ∃ lb, lb = b.length := ⟨_, rfl⟩
  obtain ⟨ls, hls⟩ : ∃ ls, ls = s.length := ⟨_, rfl⟩
  have HR : Hid ((RowIn w 42 15 (.slice a lb c) lb (flatL (fun o => o.cs.toList) b) ∧ (∀ o ∈ b, OdT o) ∧ lb = b.length ∧ lb ≤ 977343669105) ∧ RowIn w 42 15 (.slice a' ls c') ls (flatL (fun o => o.cs.toList) s) ∧ (∀ o ∈ s, OdT o) ∧ ls = s.length ∧ ls ≤ 977343669105) := ⟨⟨by rw [hlb]; exact hb, hbo, hlb, by omega⟩, by rw [hls]; exact hs, hso, hls, by omega⟩
  rw [← hlb, ← hls]
  clear hb hbo hbl hs hso hsl hlb hls
  have H0 : Hid (Below w.heap.size w (w.alloc (.cells r.cs 46)) ∧ Blk (w.alloc (.cells r.cs 46)) w.heap.size 46 r.cs) := ⟨(Below.refl _ w).alloc (Nat.le_refl _) _, Blk.new _ _ _⟩
  go_enter Try.func20, Try.ntmps20
  go_upto_region 1 with fail
  generalize w.alloc (.cells r.cs 46) = w1 at *
  obtain ⟨b5, hb5⟩ : ∃ b5, b5 = w.heap.size := ⟨_, rfl⟩
  have H1 : Hid (Below w.heap.size w w1 ∧ Blk w1 b5 46 r.cs ∧ w.heap.size ≤ b5) := by rw [hb5]; exact ⟨H0.out.1, H0.out.2, Nat.le_refl _⟩
  rw [← hb5]
  clear H0 hb5
  have hip := refIsPrice_any w1 r.price
  obtain ⟨pb, hpb⟩ : ∃ pb, pb = decide (1 ≤ r.price ∧ r.price ≤ 1000000000) := ⟨_, rfl⟩
  have HPB : Hid (pb = decide (1 ≤ r.price ∧ r.price ≤ 1000000000)) := hpb
  rw [← hpb] at hip
  clear hpb
  rename_i K hK
  refine wp_region_lit ?_
  refine wpList_runTo rfl (some 15) rfl (.pointer (some ⟨b5, 0, none⟩)) w1 (by kernel_rfl) ?_
  simp only [Act.put, List.setIfInBounds_toArray, List.set_cons_zero, List.set_cons_succ]
  refine wpList_runTo rfl (some 16) rfl (.int .i64 r.price) w1 (by exact ldN_run (.inl rfl) (.tmp 15) rfl (by kernel_rfl) (H1.out.2.1.cell 0)) ?_
  simp only [Act.put, List.setIfInBounds_toArray, List.set_cons_zero, List.set_cons_succ]
  refine wpList_callW rfl (some 17) rfl 38 #[.int .i64 r.price] (by kernel_rfl) hip ?_
  rintro e w2 ⟨rfl, ew⟩
  refine ⟨_, rfl, ?_⟩
  simp only [Act.put, List.setIfInBounds_toArray, List.set_cons_zero, List.set_cons_succ]
  replace ew := ew.symm
  subst ew
  clear hip
  refine wpList_runTo rfl (some 7) rfl (.bool pb) w1 (by kernel_rfl) ?_
  simp only [Act.put, List.setIfInBounds_toArray, List.set_cons_zero, List.set_cons_succ]
  refine wpList_nil ?_
  refine hK _ _ ?_
  clear hK
  go_upto_region 2 with fail
  rename_i K hK
  refine wp_region_lit ?_
  refine wpList_runTo rfl (some 18) rfl (.pointer (some ⟨b5, 1, none⟩)) w1 (by kernel_rfl) ?_
  simp only [Act.put, List.setIfInBounds_toArray, List.set_cons_zero, List.set_cons_succ]
  refine wpList_runTo rfl (some 19) rfl (.int .i64 r.qty) w1 (by exact ldN_run (.inl rfl) (.tmp 18) rfl (by kernel_rfl) (H1.out.2.1.cell 1)) ?_
  simp only [Act.put, List.setIfInBounds_toArray, List.set_cons_zero, List.set_cons_succ]
  by_cases hq1 : r.qty < 1
  · skip
    refine wpList_runTo rfl (some 20) rfl (.bool true) w1 (by exact lt1_run (.tmp 19) rfl (by kernel_rfl) (decide_eq_true hq1) _) ?_
    simp only [Act.put, List.setIfInBounds_toArray, List.set_cons_zero, List.set_cons_succ]
    refine wpList_runTo rfl (some 21) rfl (.bool true) w1 (by kernel_rfl) ?_
    simp only [Act.put, List.setIfInBounds_toArray, List.set_cons_zero, List.set_cons_succ]
    refine wpList_skipG (by kernel_rfl) ?_
    simp only [Act.put, List.setIfInBounds_toArray, List.set_cons_zero, List.set_cons_succ]
    refine wpList_skipG (by kernel_rfl) ?_
    simp only [Act.put, List.setIfInBounds_toArray, List.set_cons_zero, List.set_cons_succ]
    refine wpList_runTo rfl (some 24) rfl (.bool true) w1 (by kernel_rfl) ?_
    simp only [Act.put, List.setIfInBounds_toArray, List.set_cons_zero, List.set_cons_succ]
    refine wpList_nil ?_
    refine hK _ _ ?_
    clear hK
    have HF : Hid (∃ F, FR w w1 (.slice none 0 0) F ∧ ∀ F', FV b s r F' → F' = F) := ⟨[], ⟨RowAt.none0 _ _ _, H1.out.1, fun q hq => by cases hq⟩, FV_none (.inl hq1)⟩
    clear H1
    go_wp2
    go_ret
    exact ⟨_, rfl, HF⟩
  · skip
    refine wpList_runTo rfl (some 20) rfl (.bool false) w1 (by exact lt1_run (.tmp 19) rfl (by kernel_rfl) (decide_eq_false hq1) _) ?_
    simp only [Act.put, List.setIfInBounds_toArray, List.set_cons_zero, List.set_cons_succ]
    refine wpList_runTo rfl (some 21) rfl (.bool false) w1 (by kernel_rfl) ?_
    simp only [Act.put, List.setIfInBounds_toArray, List.set_cons_zero, List.set_cons_succ]
    refine wpList_runToG (by kernel_rfl) (some 22) rfl (.bool pb) w1 (by kernel_rfl) ?_
    simp only [Act.put, List.setIfInBounds_toArray, List.set_cons_zero, List.set_cons_succ]
    refine wpList_runToG (by kernel_rfl) (some 23) rfl (.bool (!pb)) w1 (by exact not_run (.tmp 22) rfl (by kernel_rfl) _) ?_
    simp only [Act.put, List.setIfInBounds_toArray, List.set_cons_zero, List.set_cons_succ]
    refine wpList_runTo rfl (some 24) rfl (.bool (!pb)) w1 (by exact pickN_run (.tmp 21) (.tmp 23) rfl (by kernel_rfl) (by kernel_rfl) _) ?_
    simp only [Act.put, List.setIfInBounds_toArray, List.set_cons_zero, List.set_cons_succ]
    cases pb with
    | false =>
      have hnot : (!false) = true := rfl
      rw [hnot]
      refine wpList_nil ?_
      refine hK _ _ ?_
      clear hK
      have HF : Hid (∃ F, FR w w1 (.slice none 0 0) F ∧ ∀ F', FV b s r F' → F' = F) := ⟨[], ⟨RowAt.none0 _ _ _, H1.out.1, fun q hq => by cases hq⟩, FV_none (.inr (of_decide_eq_false HPB.out.symm))⟩
      clear H1
      go_wp2
      go_ret
      exact ⟨_, rfl, HF⟩
    | true =>
      have hnot : (!true) = false := rfl
      rw [hnot]
      clear hnot
      refine wpList_nil ?_
      refine hK _ _ ?_
      clear hK
      have hrb : Calls Try.prog 42 #[.slice a lb c, .int .i64 r.price, .bool true] w1 fun e w' => ∃ v, e = .returned v ∧ Hid (∃ out, OO w1 w' v out ∧ Ins 1 r.price (b.filter cntB) (b.filter cntB).length out) := by
        have h1 := HR.out.1.1.fr (Fr.of_below H1.out.1 (fun _ => False)) fun _ _ => id
        rw [HR.out.1.2.2.1] at h1 ⊢
        exact refRow_any true r.price h1 HR.out.1.2.1 (by have := HR.out.1.2.2; omega)
      have hrs : ∀ W', Below w1.heap.size w1 W' → Calls Try.prog 42 #[.slice a' ls c', .int .i64 r.price, .bool false] W' fun e w' => ∃ v, e = .returned v ∧ Hid (∃ out, OO W' w' v out ∧ Ins 2 r.price (s.filter cntB) (s.filter cntB).length out) := fun W' hW => by
        have h1 := HR.out.2.1.fr (Fr.of_below (H1.out.1.trans (hW.mono H1.out.1.size)) (fun _ => False)) fun _ _ => id
        rw [HR.out.2.2.2.1] at h1 ⊢
        exact refRow_any false r.price h1 HR.out.2.2.1 (by have := HR.out.2.2.2; omega)
      go_upto_region 4 with fail
      rename_i K hK
      refine wp_region_lit ?_
      refine wpList_runTo rfl (some 25) rfl (.slice a lb c) w1 (by kernel_rfl) ?_
      simp only [Act.put, List.setIfInBounds_toArray, List.set_cons_zero, List.set_cons_succ]
      refine wpList_runTo rfl (some 26) rfl (.pointer (some ⟨b5, 0, none⟩)) w1 (by kernel_rfl) ?_
      simp only [Act.put, List.setIfInBounds_toArray, List.set_cons_zero, List.set_cons_succ]
      refine wpList_runTo rfl (some 27) rfl (.int .i64 r.price) w1 (by exact ldN_run (.inl rfl) (.tmp 26) rfl (by kernel_rfl) (H1.out.2.1.cell 0)) ?_
      simp only [Act.put, List.setIfInBounds_toArray, List.set_cons_zero, List.set_cons_succ]
      refine wpList_callW rfl (some 28) rfl 42 #[.slice a lb c, .int .i64 r.price, .bool true] (by kernel_rfl) hrb ?_
      rintro e Z1 ⟨v7, rfl, H7⟩
      refine ⟨_, rfl, ?_⟩
      simp only [Act.put, List.setIfInBounds_toArray, List.set_cons_zero, List.set_cons_succ]
      refine wpList_runTo rfl (some 8) rfl (v7) Z1 (by kernel_rfl) ?_
      simp only [Act.put, List.setIfInBounds_toArray, List.set_cons_zero, List.set_cons_succ]
      obtain ⟨BT, hBT, hBI⟩ := H7.out
      have hS1 : Below w1.heap.size w1 Z1 := hBT.bel
      have hrs' := hrs Z1 hS1
      clear hrb hrs
      refine wpList_nil ?_
      refine hK _ _ ?_
      clear hK
      go_upto_region 5 with fail
      rename_i K hK
      refine wp_region_lit ?_
      refine wpList_runTo rfl (some 29) rfl (.slice a' ls c') Z1 (by kernel_rfl) ?_
      simp only [Act.put, List.setIfInBounds_toArray, List.set_cons_zero, List.set_cons_succ]
      refine wpList_runTo rfl (some 30) rfl (.pointer (some ⟨b5, 0, none⟩)) Z1 (by kernel_rfl) ?_
      simp only [Act.put, List.setIfInBounds_toArray, List.set_cons_zero, List.set_cons_succ]
      refine wpList_runTo rfl (some 31) rfl (.int .i64 r.price) Z1 (by exact ldN_run (.inl rfl) (.tmp 30) rfl (by kernel_rfl) ((H1.out.2.1.below hS1 H1.out.2.1.lt).cell 0)) ?_
      simp only [Act.put, List.setIfInBounds_toArray, List.set_cons_zero, List.set_cons_succ]
      refine wpList_callW rfl (some 32) rfl 42 #[.slice a' ls c', .int .i64 r.price, .bool false] (by kernel_rfl) hrs' ?_
      rintro e Z2 ⟨v8, rfl, H8⟩
      refine ⟨_, rfl, ?_⟩
      simp only [Act.put, List.setIfInBounds_toArray, List.set_cons_zero, List.set_cons_succ]
      refine wpList_runTo rfl (some 9) rfl (v8) Z2 (by kernel_rfl) ?_
      simp only [Act.put, List.setIfInBounds_toArray, List.set_cons_zero, List.set_cons_succ]
      refine wpList_nil ?_
      refine hK _ _ ?_
      clear hK
      obtain ⟨SL, hST, hSI⟩ := H8.out
      have hS2 : Below w1.heap.size w1 Z2 := below_step hS1 hST.bel
      have HFI : Hid (RI w Z2 b5 r v7 v8 (.slice none 0 0) BT SL [] ∧ okQ (BT.map wnC) ∧ okQ (SL.map wnC) ∧ BT.length + SL.length ≤ 2000000000000 ∧ (∀ F', FV b s r F' → F' = fillsF r.price ((BT.map wnC).length + (SL.map wnC).length) r.qty (BT.map wnC) (SL.map wnC))) := by
        have k1 : ∀ q, v7.ownBlock = some q → w1.heap.size ≤ q := hBT.own
        have k2 : ∀ q, v8.ownBlock = some q → Z1.heap.size ≤ q := hST.own
        have k3 := H1.out.2.1.lt
        obtain ⟨t1, q1, l1⟩ := ins_ok hBI HR.out.1.2.1
        obtain ⟨t2, q2, l2⟩ := ins_ok hSI HR.out.2.2.1
        refine ⟨⟨H1.out.1.trans (hS2.mono H1.out.1.size), H1.out.2.1.below hS2 H1.out.2.1.lt, H1.out.2.2, hBT.row.fr (Fr.of_below hST.bel (fun _ => False)) fun _ _ => id, hST.row, RowAt.none0 _ _ _, fun q hq => ⟨?_, ?_⟩, fun q hq => ⟨?_, ?_⟩, fun q hq => (by cases hq), fun q hq e => ?_, fun q _ e => (by cases e), fun q _ e => (by cases e), t1, t2⟩, q1, q2, ?_, FV_ref (by omega) (of_decide_eq_true HPB.out.symm) hBI hSI⟩
        · have := k1 q hq; have := H1.out.1.size; omega
        · have := k1 q hq; omega
        · have := k2 q hq; have := hS1.size; have := H1.out.1.size; omega
        · have := k2 q hq; have := hS1.size; omega
        · have h1 := (hBT.row.lt hq).1
          have h2 := k2 q e
          omega
        · have h7 := HR.out
          omega
      clear hrs' hBT hST hBI hSI H7 H8 hS1 hS2 H1 HR
      generalize Z2 = w2 at *
      clear Z1 w1
      obtain ⟨T, hT⟩ : ∃ T, T = fillsF r.price ((BT.map wnC).length + (SL.map wnC).length) r.qty (BT.map wnC) (SL.map wnC) := ⟨_, rfl⟩
      obtain ⟨N, hN⟩ : ∃ N, N = (BT.map wnC).length + (SL.map wnC).length := ⟨_, rfl⟩
      have HT : Hid ((∀ F', FV b s r F' → F' = T) ∧ N ≤ 2000000000000) := by
        refine ⟨by rw [hT]; exact HFI.out.2.2.2.2, ?_⟩
        rw [hN, List.length_map, List.length_map]
        exact HFI.out.2.2.2.1
      obtain ⟨a7, c7, e7, _⟩ := HFI.out.1.rB.form
      obtain ⟨a8, c8, e8, _⟩ := HFI.out.1.rS.form
      subst e7 e8
      obtain ⟨nb, hnb⟩ : ∃ nb, nb = BT.length := ⟨_, rfl⟩
      obtain ⟨ns, hns⟩ : ∃ ns, ns = SL.length := ⟨_, rfl⟩
      have HL0 : Hid (RI w w2 b5 r (.slice a7 nb c7) (.slice a8 ns c8) (.slice none 0 0) BT SL [] ∧ FS r.price T N r.qty ((BT.drop 0).map wnC) ((SL.drop 0).map wnC) [] ∧ BT.length = nb ∧ SL.length = ns ∧ nb ≤ 2000000000000 ∧ ns ≤ 2000000000000) := by
        refine ⟨by rw [hnb, hns]; exact HFI.out.1, by rw [hT, hN, List.drop_zero, List.drop_zero]; exact FS.start r.price HFI.out.2.1 HFI.out.2.2.1 (by omega), hnb.symm, hns.symm, ?_, ?_⟩
        · have := HFI.out.2.2.2.1; omega
        · have := HFI.out.2.2.2.1; omega
      rw [← hnb, ← hns]
      clear HFI hT hN HPB hnb hns
      go_upto_region 6 with fail
      rename_i K hK
      refine wp_region_lit ?_
      refine wpList_runTo rfl (some 33) rfl (.pointer (some ⟨b5, 1, none⟩)) w2 (by kernel_rfl) ?_
      simp only [Act.put, List.setIfInBounds_toArray, List.set_cons_zero, List.set_cons_succ]
      refine wpList_runTo rfl (some 34) rfl (.int .i64 r.qty) w2 (by exact ldN_run (.inl rfl) (.tmp 33) rfl (by kernel_rfl) (HL0.out.1.k5.cell 1)) ?_
      simp only [Act.put, List.setIfInBounds_toArray, List.set_cons_zero, List.set_cons_succ]
      refine wpList_runTo rfl (some 10) rfl (.int .i64 r.qty) w2 (by kernel_rfl) ?_
      simp only [Act.put, List.setIfInBounds_toArray, List.set_cons_zero, List.set_cons_succ]
      refine wpList_nil ?_
      refine hK _ _ ?_
      clear hK
      go_upto_region 10 with fail
      go_loopw [10, 11, 12, 13] (fun x10 x11 x12 x13 wr => ∃ (v9 : Value) (left : Int) (i k : Nat) (B S : List Od) (F : List Fl), v9 = x11 ∧ x10 = .int .i64 left ∧ x12 = .int .i64 (i : Int) ∧ x13 = .int .i64 (k : Int) ∧ left ≤ 9223372036854775807 ∧ i ≤ nb ∧ k ≤ ns ∧ Hid (RI w wr b5 r (.slice a7 nb c7) (.slice a8 ns c8) v9 B S F ∧ FS r.price T N left ((B.drop i).map wnC) ((S.drop k).map wnC) F ∧ B.length = nb ∧ S.length = ns ∧ nb ≤ 2000000000000 ∧ ns ≤ 2000000000000)) (fun x10 _ x12 x13 _ => if RowKit.intOf x10 ≤ 0 then 0 else (nb - (RowKit.intOf x12).toNat) + (ns - (RowKit.intOf x13).toNat) + 1)
      case atStart => exact ⟨_, r.qty, 0, 0, BT, SL, [], rfl, rfl, rfl, rfl, hq, Nat.zero_le _, Nat.zero_le _, HL0.out⟩
      case round => as_aux_lemma =>
        clear HL0 hq hq1
        obtain ⟨v9, left, i, k, B, S, F, rfl, rfl, rfl, rfl, hq, hin, hkn, HL⟩ := hrel
        by_cases hl : left ≤ 0
        · go_upto_region 10 with fail
          rename_i K hK
          refine wp_region_lit ?_
          refine wpList_runTo rfl (some 35) rfl (.int .i64 left) wr (by kernel_rfl) ?_
          simp only [Act.put, List.setIfInBounds_toArray, List.set_cons_zero, List.set_cons_succ]
          refine wpList_runTo rfl (some 36) rfl (.bool false) wr (by exact gt02_run (p := left) (.tmp 35) rfl (by kernel_rfl) (decide_eq_false (by omega)) _) ?_
          simp only [Act.put, List.setIfInBounds_toArray, List.set_cons_zero, List.set_cons_succ]
          refine wpList_runTo rfl (some 37) rfl (.bool false) wr (by kernel_rfl) ?_
          simp only [Act.put, List.setIfInBounds_toArray, List.set_cons_zero, List.set_cons_succ]
          refine wpList_skipG (by kernel_rfl) ?_
          simp only [Act.put, List.setIfInBounds_toArray, List.set_cons_zero, List.set_cons_succ]
          refine wpList_skipG (by kernel_rfl) ?_
          simp only [Act.put, List.setIfInBounds_toArray, List.set_cons_zero, List.set_cons_succ]
          refine wpList_skipG (by kernel_rfl) ?_
          simp only [Act.put, List.setIfInBounds_toArray, List.set_cons_zero, List.set_cons_succ]
          refine wpList_skipG (by kernel_rfl) ?_
          simp only [Act.put, List.setIfInBounds_toArray, List.set_cons_zero, List.set_cons_succ]
          refine wpList_runTo rfl (some 42) rfl (.bool false) wr (by kernel_rfl) ?_
          simp only [Act.put, List.setIfInBounds_toArray, List.set_cons_zero, List.set_cons_succ]
          refine wpList_runTo rfl (some 43) rfl (.bool false) wr (by kernel_rfl) ?_
          simp only [Act.put, List.setIfInBounds_toArray, List.set_cons_zero, List.set_cons_succ]
          refine wpList_skipG (by kernel_rfl) ?_
          simp only [Act.put, List.setIfInBounds_toArray, List.set_cons_zero, List.set_cons_succ]
          refine wpList_skipG (by kernel_rfl) ?_
          simp only [Act.put, List.setIfInBounds_toArray, List.set_cons_zero, List.set_cons_succ]
          refine wpList_skipG (by kernel_rfl) ?_
          simp only [Act.put, List.setIfInBounds_toArray, List.set_cons_zero, List.set_cons_succ]
          refine wpList_skipG (by kernel_rfl) ?_
          simp only [Act.put, List.setIfInBounds_toArray, List.set_cons_zero, List.set_cons_succ]
          refine wpList_runTo rfl (some 48) rfl (.bool false) wr (by kernel_rfl) ?_
          simp only [Act.put, List.setIfInBounds_toArray, List.set_cons_zero, List.set_cons_succ]
          refine wpList_nil ?_
          refine hK _ _ ?_
          clear hK
          have HF : Hid (∃ F, FR w wr v9 F ∧ ∀ F', FV b s r F' → F' = F) := by
            refine ⟨T, ?_, HT.out.1⟩
            have hd := HL.out.2.1.done (by rintro ⟨h, _⟩; omega)
            rw [← hd]
            exact ⟨HL.out.1.rF, HL.out.1.bel, fun q hq => (HL.out.1.o9 q hq).1⟩
          clear HL HT
          go_wp2
          go_ret
          exact ⟨_, rfl, HF⟩
        · by_cases hib : i < nb
          · by_cases hks : k < ns
            · skip
              obtain ⟨g7, o7, x7, y7, ea7, _⟩ := (show RowAt wr 42 15 (.slice a7 nb c7) nb (flatL (fun o => o.cs.toList) B) by have := HL.out.1.rB; rwa [HL.out.2.2.1] at this).more (by omega)
              obtain ⟨g8, o8, x8, y8, ea8, _⟩ := (show RowAt wr 42 15 (.slice a8 ns c8) ns (flatL (fun o => o.cs.toList) S) by have := HL.out.1.rS; rwa [HL.out.2.2.2.1] at this).more (by omega)
              injection ea7 with e1 _ e2
              injection ea8 with e3 _ e4
              subst e1 e2 e3 e4
              obtain ⟨ob, hob⟩ : ∃ o, B[i]? = some o := ⟨_, List.getElem?_eq_getElem (by have := HL.out.2.2.1; omega)⟩
              obtain ⟨os, hos⟩ : ∃ o, S[k]? = some o := ⟨_, List.getElem?_eq_getElem (by have := HL.out.2.2.2.1; omega)⟩
              have hl0 : 0 < left := by omega
              go_upto_region 10 with fail
              rename_i K hK
              refine wp_region_lit ?_
              refine wpList_runTo rfl (some 35) rfl (.int .i64 left) wr (by kernel_rfl) ?_
              simp only [Act.put, List.setIfInBounds_toArray, List.set_cons_zero, List.set_cons_succ]
              refine wpList_runTo rfl (some 36) rfl (.bool true) wr (by exact gt02_run (p := left) (.tmp 35) rfl (by kernel_rfl) (decide_eq_true (by omega)) _) ?_
              simp only [Act.put, List.setIfInBounds_toArray, List.set_cons_zero, List.set_cons_succ]
              refine wpList_runTo rfl (some 37) rfl (.bool true) wr (by kernel_rfl) ?_
              simp only [Act.put, List.setIfInBounds_toArray, List.set_cons_zero, List.set_cons_succ]
              refine wpList_runToG (by kernel_rfl) (some 38) rfl (.int .i64 (i : Int)) wr (by kernel_rfl) ?_
              simp only [Act.put, List.setIfInBounds_toArray, List.set_cons_zero, List.set_cons_succ]
              refine wpList_runToG (by kernel_rfl) (some 39) rfl (.slice (some ⟨g7, o7, none⟩) nb c7) wr (by kernel_rfl) ?_
              simp only [Act.put, List.setIfInBounds_toArray, List.set_cons_zero, List.set_cons_succ]
              refine wpList_runToG (by kernel_rfl) (some 40) rfl (.int .i64 (nb : Int)) wr (by exact lenO_run (v := .slice (some ⟨g7, o7, none⟩) nb c7) (ao := some ⟨g7, o7, none⟩) (n := nb) (c := c7) rfl (.tmp 39) rfl (by kernel_rfl) _) ?_
              simp only [Act.put, List.setIfInBounds_toArray, List.set_cons_zero, List.set_cons_succ]
              refine wpList_runToG (by kernel_rfl) (some 41) rfl (.bool true) wr (by exact ltN_run (p := (i : Int)) (q := (nb : Int)) (.tmp 38) (.tmp 40) rfl (by kernel_rfl) (by kernel_rfl) (decide_eq_true (by omega)) _) ?_
              simp only [Act.put, List.setIfInBounds_toArray, List.set_cons_zero, List.set_cons_succ]
              refine wpList_runTo rfl (some 42) rfl (.bool true) wr (by exact pick_run (.tmp 37) (.tmp 41) rfl (by kernel_rfl) (by kernel_rfl) _) ?_
              simp only [Act.put, List.setIfInBounds_toArray, List.set_cons_zero, List.set_cons_succ]
              refine wpList_runTo rfl (some 43) rfl (.bool true) wr (by kernel_rfl) ?_
              simp only [Act.put, List.setIfInBounds_toArray, List.set_cons_zero, List.set_cons_succ]
              refine wpList_runToG (by kernel_rfl) (some 44) rfl (.int .i64 (k : Int)) wr (by kernel_rfl) ?_
              simp only [Act.put, List.setIfInBounds_toArray, List.set_cons_zero, List.set_cons_succ]
              refine wpList_runToG (by kernel_rfl) (some 45) rfl (.slice (some ⟨g8, o8, none⟩) ns c8) wr (by kernel_rfl) ?_
              simp only [Act.put, List.setIfInBounds_toArray, List.set_cons_zero, List.set_cons_succ]
              refine wpList_runToG (by kernel_rfl) (some 46) rfl (.int .i64 (ns : Int)) wr (by exact lenO_run (v := .slice (some ⟨g8, o8, none⟩) ns c8) (ao := some ⟨g8, o8, none⟩) (n := ns) (c := c8) rfl (.tmp 45) rfl (by kernel_rfl) _) ?_
              simp only [Act.put, List.setIfInBounds_toArray, List.set_cons_zero, List.set_cons_succ]
              refine wpList_runToG (by kernel_rfl) (some 47) rfl (.bool true) wr (by exact ltN_run (p := (k : Int)) (q := (ns : Int)) (.tmp 44) (.tmp 46) rfl (by kernel_rfl) (by kernel_rfl) (decide_eq_true (by omega)) _) ?_
              simp only [Act.put, List.setIfInBounds_toArray, List.set_cons_zero, List.set_cons_succ]
              refine wpList_runTo rfl (some 48) rfl (.bool true) wr (by exact pick_run (.tmp 43) (.tmp 47) rfl (by kernel_rfl) (by kernel_rfl) _) ?_
              simp only [Act.put, List.setIfInBounds_toArray, List.set_cons_zero, List.set_cons_succ]
              refine wpList_nil ?_
              refine hK _ _ ?_
              clear hK
              obtain ⟨mn, hmn⟩ : ∃ mn, mn = mnF left (wnC ob) (wnC os) := ⟨_, rfl⟩
              have HM : Hid (1 ≤ mn ∧ mn ≤ left ∧ mn ≤ ob.qt ∧ mn ≤ os.qt ∧ (mn = left ∨ mn = ob.qt ∨ mn = os.qt) ∧ ob.qt ≤ 1000000 ∧ os.qt ≤ 1000000 ∧ F.length ≤ N ∧ (if left < (if ob.qt < os.qt then ob.qt else os.qt) then left else (if ob.qt < os.qt then ob.qt else os.qt)) = mn ∧ B[i]? = some ob ∧ S[k]? = some os) := by
                have k0 := HL.out.2.1
                rw [drop_cons hob, drop_cons hos, List.map_cons, List.map_cons] at k0
                have k1 := k0.ob (wnC ob) List.mem_cons_self
                have k2 := k0.os (wnC os) List.mem_cons_self
                obtain ⟨m1, m2, m3, m4, m5⟩ := mnF_bd hl0 k1.1 k2.1
                rw [← hmn] at m1 m2 m3 m4 m5
                refine ⟨m1, m2, m3, m4, m5, k1.2, k2.2, ?_, by rw [hmn]; exact mn_ref _ _ _, hob, hos⟩
                rcases k0.len with ⟨_, h⟩ | h <;> omega
              have HS8 : Hid (FS r.price T N (left - mn) (((B.set i (ob.cut mn)).drop (if ob.qt - mn = 0 then i + 1 else i)).map wnC) (((S.set k (os.cut mn)).drop (if os.qt - mn = 0 then k + 1 else k)).map wnC) (F ++ [⟨ob.id, os.id, r.price, mn⟩])) := by
                have k0 := HL.out.2.1
                rw [lft_cut hob, lft_cut hos]
                rw [drop_cons hob, drop_cons hos, List.map_cons, List.map_cons] at k0 ⊢
                have := k0.step hl0
                rw [← hmn] at this
                exact this
              have HL8 : Hid (RI w wr b5 r (.slice (some ⟨g7, o7, none⟩) nb c7) (.slice (some ⟨g8, o8, none⟩) ns c8) v9 B S F ∧ B.length = nb ∧ S.length = ns ∧ nb ≤ 2000000000000 ∧ ns ≤ 2000000000000) := ⟨HL.out.1, HL.out.2.2⟩
              clear HL hob hos hmn
              have row7 : ∀ W, RI w W b5 r (.slice (some ⟨g7, o7, none⟩) nb c7) (.slice (some ⟨g8, o8, none⟩) ns c8) v9 B S F → W.cell? ⟨g7, o7 + i * 15, none⟩ = some (.int .i64 ob.id) ∧ W.cell? ⟨g7, o7 + i * 15 + 9, none⟩ = some (.int .i64 ob.qt) := fun W h => by
                have h1 := h.rB
                rw [HL8.out.2.1] at h1
                exact od_at h1 h.tB HM.out.2.2.2.2.2.2.2.2.2.1
              have row8 : ∀ W, RI w W b5 r (.slice (some ⟨g7, o7, none⟩) nb c7) (.slice (some ⟨g8, o8, none⟩) ns c8) v9 B S F → W.cell? ⟨g8, o8 + k * 15, none⟩ = some (.int .i64 os.id) ∧ W.cell? ⟨g8, o8 + k * 15 + 9, none⟩ = some (.int .i64 os.qt) := fun W h => by
                have h1 := h.rS
                rw [HL8.out.2.2.1] at h1
                exact od_at h1 h.tS HM.out.2.2.2.2.2.2.2.2.2.2
              have H78 : Hid ((∀ W, RI w W b5 r (.slice (some ⟨g7, o7, none⟩) nb c7) (.slice (some ⟨g8, o8, none⟩) ns c8) v9 B S F → W.cell? ⟨g7, o7 + i * 15, none⟩ = some (.int .i64 ob.id) ∧ W.cell? ⟨g7, o7 + i * 15 + 9, none⟩ = some (.int .i64 ob.qt)) ∧ ∀ W, RI w W b5 r (.slice (some ⟨g7, o7, none⟩) nb c7) (.slice (some ⟨g8, o8, none⟩) ns c8) v9 B S F → W.cell? ⟨g8, o8 + k * 15, none⟩ = some (.int .i64 os.id) ∧ W.cell? ⟨g8, o8 + k * 15 + 9, none⟩ = some (.int .i64 os.qt)) := ⟨row7, row8⟩
              clear row7 row8
              go_upto_region 11 with fail
              rename_i K hK
              refine wp_region_held (S := fun w' => Below wr.heap.size wr w') (by kernel_rfl) ?_
              change wpAnyH _ _ _ _ _ _ _ _ (World.drew _)
              have hS0 : Below wr.heap.size wr wr.drew := (Below.refl _ wr).drew
              generalize wr.drew = Z0 at *
              refine takeR (i := 0) (v := .int .i64 left) (some 49) rfl rfl (by kernel_rfl) (by kernel_rfl) (by kernel_rfl) (fun _ _ _ h => h) (Or.inl ⟨by kernel_rfl, fun w' hSw => by kernel_rfl⟩) hS0 ?_
              simp only [Act.put, List.setIfInBounds_toArray, List.set_cons_zero, List.set_cons_succ]
              refine takeR (i := 1) (v := .slice (some ⟨g7, o7, none⟩) nb c7) (some 50) rfl rfl (by kernel_rfl) (by kernel_rfl) (by kernel_rfl) (fun _ _ _ h => h) (Or.inl ⟨by kernel_rfl, fun w' hSw => by kernel_rfl⟩) hS0 ?_
              simp only [Act.put, List.setIfInBounds_toArray, List.set_cons_zero, List.set_cons_succ]
              refine takeR (i := 2) (v := .int .i64 (i : Int)) (some 51) rfl rfl (by kernel_rfl) (by kernel_rfl) (by kernel_rfl) (fun _ _ _ h => h) (Or.inl ⟨by kernel_rfl, fun w' hSw => by kernel_rfl⟩) hS0 ?_
              simp only [Act.put, List.setIfInBounds_toArray, List.set_cons_zero, List.set_cons_succ]
              refine takeR (i := 3) (v := .pointer (some ⟨g7, o7 + i * 15, none⟩)) (some 52) rfl rfl (by kernel_rfl) (by kernel_rfl) (by kernel_rfl) (fun _ _ _ h => h) (Or.inl ⟨by kernel_rfl, fun w' hSw => by exact ixOr_run (n := nb) (c := c7) (.tmp 50) (.tmp 51) rfl (by kernel_rfl) (by kernel_rfl) hib _⟩) hS0 ?_
              simp only [Act.put, List.setIfInBounds_toArray, List.set_cons_zero, List.set_cons_succ]
              refine takeR (i := 4) (v := .pointer (some ⟨g7, o7 + i * 15 + 9, none⟩)) (some 53) rfl rfl (by kernel_rfl) (by kernel_rfl) (by kernel_rfl) (fun _ _ _ h => h) (Or.inl ⟨by kernel_rfl, fun w' hSw => by kernel_rfl⟩) hS0 ?_
              simp only [Act.put, List.setIfInBounds_toArray, List.set_cons_zero, List.set_cons_succ]
              refine takeR (i := 5) (v := .int .i64 ob.qt) (some 54) rfl rfl (by kernel_rfl) (by kernel_rfl) (by kernel_rfl) (fun _ _ _ h => h) (Or.inl ⟨by kernel_rfl, fun w' hSw => by exact ldN_run (.inl rfl) (.tmp 53) rfl (by kernel_rfl) (H78.out.1 _ (HL8.out.1.below hSw)).2⟩) hS0 ?_
              simp only [Act.put, List.setIfInBounds_toArray, List.set_cons_zero, List.set_cons_succ]
              refine takeR (i := 6) (v := .slice (some ⟨g8, o8, none⟩) ns c8) (some 55) rfl rfl (by kernel_rfl) (by kernel_rfl) (by kernel_rfl) (fun _ _ _ h => h) (Or.inl ⟨by kernel_rfl, fun w' hSw => by kernel_rfl⟩) hS0 ?_
              simp only [Act.put, List.setIfInBounds_toArray, List.set_cons_zero, List.set_cons_succ]
              refine takeR (i := 7) (v := .int .i64 (k : Int)) (some 56) rfl rfl (by kernel_rfl) (by kernel_rfl) (by kernel_rfl) (fun _ _ _ h => h) (Or.inl ⟨by kernel_rfl, fun w' hSw => by kernel_rfl⟩) hS0 ?_
              simp only [Act.put, List.setIfInBounds_toArray, List.set_cons_zero, List.set_cons_succ]
              refine takeR (i := 8) (v := .pointer (some ⟨g8, o8 + k * 15, none⟩)) (some 57) rfl rfl (by kernel_rfl) (by kernel_rfl) (by kernel_rfl) (fun _ _ _ h => h) (Or.inl ⟨by kernel_rfl, fun w' hSw => by exact ixOr_run (n := ns) (c := c8) (.tmp 55) (.tmp 56) rfl (by kernel_rfl) (by kernel_rfl) hks _⟩) hS0 ?_
              simp only [Act.put, List.setIfInBounds_toArray, List.set_cons_zero, List.set_cons_succ]
              refine takeR (i := 9) (v := .pointer (some ⟨g8, o8 + k * 15 + 9, none⟩)) (some 58) rfl rfl (by kernel_rfl) (by kernel_rfl) (by kernel_rfl) (fun _ _ _ h => h) (Or.inl ⟨by kernel_rfl, fun w' hSw => by kernel_rfl⟩) hS0 ?_
              simp only [Act.put, List.setIfInBounds_toArray, List.set_cons_zero, List.set_cons_succ]
              refine takeR (i := 10) (v := .int .i64 os.qt) (some 59) rfl rfl (by kernel_rfl) (by kernel_rfl) (by kernel_rfl) (fun _ _ _ h => h) (Or.inl ⟨by kernel_rfl, fun w' hSw => by exact ldN_run (.inl rfl) (.tmp 58) rfl (by kernel_rfl) (H78.out.2 _ (HL8.out.1.below hSw)).2⟩) hS0 ?_
              simp only [Act.put, List.setIfInBounds_toArray, List.set_cons_zero, List.set_cons_succ]
              refine wpAnyH_ready (rs := [11]) (by kernel_rfl) (by simp) ?_
              refine AllReadyH.cons rfl (fun K1 hK1 => ?_) AllReadyH.nil
              rw [if_pos (by kernel_rfl)]
              refine callR (d := some 60) rfl 40 #[.int .i64 ob.qt, .int .i64 os.qt] (by kernel_rfl) (refLesser_any Z0 _ _) ?_
              rintro e Zx ⟨rfl, ew⟩
              replace ew := ew.symm
              subst ew
              refine ⟨_, rfl, ?_⟩
              refine hK1.out _ _ hS0 (fun hzz => ?_)
              clear hK1 hzz
              simp only [Act.put, List.setIfInBounds_toArray, List.set_cons_zero, List.set_cons_succ]
              refine wpAnyH_ready (rs := [12]) (by kernel_rfl) (by simp) ?_
              refine AllReadyH.cons rfl (fun K1 hK1 => ?_) AllReadyH.nil
              rw [if_pos (by kernel_rfl)]
              refine callR (d := some 61) rfl 40 #[.int .i64 left, .int .i64 (if ob.qt < os.qt then ob.qt else os.qt)] (by kernel_rfl) (refLesser_any Z0 _ _) ?_
              rintro e Zx ⟨rfl, ew⟩
              replace ew := ew.symm
              subst ew
              refine ⟨_, rfl, ?_⟩
              refine hK1.out _ _ hS0 (fun hzz => ?_)
              clear hK1 hzz
              simp only [Act.put, List.setIfInBounds_toArray, List.set_cons_zero, List.set_cons_succ]
              rw [HM.out.2.2.2.2.2.2.2.2.1]
              refine takeR (i := 13) (v := .int .i64 mn) (some 14) rfl rfl (by kernel_rfl) (by kernel_rfl) (by kernel_rfl) (fun _ _ _ h => h) (Or.inl ⟨by kernel_rfl, fun w' hSw => by kernel_rfl⟩) hS0 ?_
              simp only [Act.put, List.setIfInBounds_toArray, List.set_cons_zero, List.set_cons_succ]
              refine wpAnyH_done (by kernel_rfl) ?_ _
              have HL9 : Hid (RI w Z0 b5 r (.slice (some ⟨g7, o7, none⟩) nb c7) (.slice (some ⟨g8, o8, none⟩) ns c8) v9 B S F ∧ B.length = nb ∧ S.length = ns ∧ nb ≤ 2000000000000 ∧ ns ≤ 2000000000000) := ⟨HL8.out.1.below hS0, HL8.out.2⟩
              clear HL8 hS0
              generalize Z0 = W2 at *
              refine hK _ _ ?_
              clear hK
              try clear wr
              go_upto_region 12 with fail
              rename_i K hK
              refine wp_region_held (S := fun w' => Fr W2 w' (fun x => v9.ownBlock = some x)) (by kernel_rfl) ?_
              change wpAnyH _ _ _ _ _ _ _ _ (World.drew _)
              have hSa : Fr W2 W2.drew (fun x => v9.ownBlock = some x) := (Fr.refl W2 _).drew
              have row7 : ∀ w', Fr W2 w' (fun x => v9.ownBlock = some x) → w'.cell? ⟨g7, o7 + i * 15, none⟩ = some (.int .i64 ob.id) := fun w' hw => by
                have h1 := HL9.out.1.rB.fr hw (fun q hq e => HL9.out.1.d79 q hq e)
                rw [HL9.out.2.1] at h1
                exact (od_at h1 HL9.out.1.tB HM.out.2.2.2.2.2.2.2.2.2.1).1
              have row8 : ∀ w', Fr W2 w' (fun x => v9.ownBlock = some x) → w'.cell? ⟨g8, o8 + k * 15, none⟩ = some (.int .i64 os.id) := fun w' hw => by
                have h1 := HL9.out.1.rS.fr hw (fun q hq e => HL9.out.1.d89 q hq e)
                rw [HL9.out.2.2.1] at h1
                exact (od_at h1 HL9.out.1.tS HM.out.2.2.2.2.2.2.2.2.2.2).1
              have k5 : ∀ w', Fr W2 w' (fun x => v9.ownBlock = some x) → Blk w' b5 46 r.cs := fun w' hw => (hw.block b5 HL9.out.1.k5.lt (fun e => (HL9.out.1.o9 b5 e).2 rfl)).trans HL9.out.1.k5
              have hd2 : Below W2.heap.size W2 W2.drew := (Below.refl _ W2).drew
              generalize W2.drew = Z0 at *
              refine takeR (i := 0) (v := v9) (some 62) rfl rfl (by kernel_rfl) (by kernel_rfl) (by kernel_rfl) (fun _ _ _ h => h) (Or.inl ⟨by kernel_rfl, fun w' hSw => by kernel_rfl⟩) hSa ?_
              simp only [Act.put, List.setIfInBounds_toArray, List.set_cons_zero, List.set_cons_succ]
              refine takeR (i := 1) (v := .slice (some ⟨g7, o7, none⟩) nb c7) (some 63) rfl rfl (by kernel_rfl) (by kernel_rfl) (by kernel_rfl) (fun _ _ _ h => h) (Or.inl ⟨by kernel_rfl, fun w' hSw => by kernel_rfl⟩) hSa ?_
              simp only [Act.put, List.setIfInBounds_toArray, List.set_cons_zero, List.set_cons_succ]
              refine takeR (i := 2) (v := .int .i64 (i : Int)) (some 64) rfl rfl (by kernel_rfl) (by kernel_rfl) (by kernel_rfl) (fun _ _ _ h => h) (Or.inl ⟨by kernel_rfl, fun w' hSw => by kernel_rfl⟩) hSa ?_
              simp only [Act.put, List.setIfInBounds_toArray, List.set_cons_zero, List.set_cons_succ]
              refine takeR (i := 3) (v := .pointer (some ⟨g7, o7 + i * 15, none⟩)) (some 65) rfl rfl (by kernel_rfl) (by kernel_rfl) (by kernel_rfl) (fun _ _ _ h => h) (Or.inl ⟨by kernel_rfl, fun w' hSw => by exact ixOr_run (n := nb) (c := c7) (.tmp 63) (.tmp 64) rfl (by kernel_rfl) (by kernel_rfl) hib _⟩) hSa ?_
              simp only [Act.put, List.setIfInBounds_toArray, List.set_cons_zero, List.set_cons_succ]
              refine takeR (i := 4) (v := .pointer (some ⟨g7, o7 + i * 15 + 0, none⟩)) (some 66) rfl rfl (by kernel_rfl) (by kernel_rfl) (by kernel_rfl) (fun _ _ _ h => h) (Or.inl ⟨by kernel_rfl, fun w' hSw => by kernel_rfl⟩) hSa ?_
              simp only [Act.put, List.setIfInBounds_toArray, List.set_cons_zero, List.set_cons_succ]
              refine takeR (i := 5) (v := .int .i64 ob.id) (some 67) rfl rfl (by kernel_rfl) (by kernel_rfl) (by kernel_rfl) (fun _ _ _ h => h) (Or.inl ⟨by kernel_rfl, fun w' hSw => by exact ldN_run (.inr rfl) (.tmp 66) rfl (by kernel_rfl) (row7 _ hSw)⟩) hSa ?_
              simp only [Act.put, List.setIfInBounds_toArray, List.set_cons_zero, List.set_cons_succ]
              refine takeR (i := 6) (v := .slice (some ⟨g8, o8, none⟩) ns c8) (some 68) rfl rfl (by kernel_rfl) (by kernel_rfl) (by kernel_rfl) (fun _ _ _ h => h) (Or.inl ⟨by kernel_rfl, fun w' hSw => by kernel_rfl⟩) hSa ?_
              simp only [Act.put, List.setIfInBounds_toArray, List.set_cons_zero, List.set_cons_succ]
              refine takeR (i := 7) (v := .int .i64 (k : Int)) (some 69) rfl rfl (by kernel_rfl) (by kernel_rfl) (by kernel_rfl) (fun _ _ _ h => h) (Or.inl ⟨by kernel_rfl, fun w' hSw => by kernel_rfl⟩) hSa ?_
              simp only [Act.put, List.setIfInBounds_toArray, List.set_cons_zero, List.set_cons_succ]
              refine takeR (i := 8) (v := .pointer (some ⟨g8, o8 + k * 15, none⟩)) (some 70) rfl rfl (by kernel_rfl) (by kernel_rfl) (by kernel_rfl) (fun _ _ _ h => h) (Or.inl ⟨by kernel_rfl, fun w' hSw => by exact ixOr_run (n := ns) (c := c8) (.tmp 68) (.tmp 69) rfl (by kernel_rfl) (by kernel_rfl) hks _⟩) hSa ?_
              simp only [Act.put, List.setIfInBounds_toArray, List.set_cons_zero, List.set_cons_succ]
              refine takeR (i := 9) (v := .pointer (some ⟨g8, o8 + k * 15 + 0, none⟩)) (some 71) rfl rfl (by kernel_rfl) (by kernel_rfl) (by kernel_rfl) (fun _ _ _ h => h) (Or.inl ⟨by kernel_rfl, fun w' hSw => by kernel_rfl⟩) hSa ?_
              simp only [Act.put, List.setIfInBounds_toArray, List.set_cons_zero, List.set_cons_succ]
              refine takeR (i := 10) (v := .int .i64 os.id) (some 72) rfl rfl (by kernel_rfl) (by kernel_rfl) (by kernel_rfl) (fun _ _ _ h => h) (Or.inl ⟨by kernel_rfl, fun w' hSw => by exact ldN_run (.inr rfl) (.tmp 71) rfl (by kernel_rfl) (row8 _ hSw)⟩) hSa ?_
              simp only [Act.put, List.setIfInBounds_toArray, List.set_cons_zero, List.set_cons_succ]
              refine takeR (i := 11) (v := .pointer (some ⟨b5, 0, none⟩)) (some 73) rfl rfl (by kernel_rfl) (by kernel_rfl) (by kernel_rfl) (fun _ _ _ h => h) (Or.inl ⟨by kernel_rfl, fun w' hSw => by kernel_rfl⟩) hSa ?_
              simp only [Act.put, List.setIfInBounds_toArray, List.set_cons_zero, List.set_cons_succ]
              refine takeR (i := 12) (v := .int .i64 r.price) (some 74) rfl rfl (by kernel_rfl) (by kernel_rfl) (by kernel_rfl) (fun _ _ _ h => h) (Or.inl ⟨by kernel_rfl, fun w' hSw => by exact ldN_run (.inl rfl) (.tmp 73) rfl (by kernel_rfl) ((k5 _ hSw).cell 0)⟩) hSa ?_
              simp only [Act.put, List.setIfInBounds_toArray, List.set_cons_zero, List.set_cons_succ]
              refine takeR (i := 13) (v := .int .i64 mn) (some 75) rfl rfl (by kernel_rfl) (by kernel_rfl) (by kernel_rfl) (fun _ _ _ h => h) (Or.inl ⟨by kernel_rfl, fun w' hSw => by kernel_rfl⟩) hSa ?_
              simp only [Act.put, List.setIfInBounds_toArray, List.set_cons_zero, List.set_cons_succ]
              refine takeR (i := 14) (v := .agg #[.int .i64 ob.id, .int .i64 os.id, .int .i64 0, .int .i64 r.price, .int .i64 mn]) (some 76) rfl rfl (by kernel_rfl) (by kernel_rfl) (by kernel_rfl) (fun _ _ _ h => h) (Or.inl ⟨by kernel_rfl, fun w' hSw => by exact buildFl_run (.tmp 67) (.tmp 72) (.tmp 74) (.tmp 75) rfl (by kernel_rfl) (by kernel_rfl) (by kernel_rfl) (by kernel_rfl) w'⟩) hSa ?_
              simp only [Act.put, List.setIfInBounds_toArray, List.set_cons_zero, List.set_cons_succ]
              refine wpAnyH_ready (rs := [15]) (by kernel_rfl) (by simp) ?_
              refine AllReadyH.cons rfl (fun K1 hK1 => ?_) AllReadyH.nil
              rw [if_pos (by kernel_rfl)]
              refine valR (d := some 77) rfl (.slice (some ⟨Z0.heap.size, 0, none⟩) 1 1) (w' := Z0.alloc (.cells #[.int .i64 ob.id, .int .i64 os.id, .int .i64 0, .int .i64 r.price, .int .i64 mn] 39)) (buildFs_run (.tmp 76) rfl (by kernel_rfl) _) ?_
              have hal : Below Z0.heap.size Z0 (Z0.alloc (.cells #[.int .i64 ob.id, .int .i64 os.id, .int .i64 0, .int .i64 r.price, .int .i64 mn] 39)) := (Below.refl _ Z0).alloc (Nat.le_refl _) _
              have hSb : Fr W2 (Z0.alloc (.cells #[.int .i64 ob.id, .int .i64 os.id, .int .i64 0, .int .i64 r.price, .int .i64 mn] 39)) (fun x => v9.ownBlock = some x) := Fr.of_below (below_step hd2 hal) _
              have HLa : Hid (RI w (Z0.alloc (.cells #[.int .i64 ob.id, .int .i64 os.id, .int .i64 0, .int .i64 r.price, .int .i64 mn] 39)) b5 r (.slice (some ⟨g7, o7, none⟩) nb c7) (.slice (some ⟨g8, o8, none⟩) ns c8) v9 B S F) := HL9.out.1.below (below_step hd2 hal)
              have hnw : Blk (Z0.alloc (.cells #[.int .i64 ob.id, .int .i64 os.id, .int .i64 0, .int .i64 r.price, .int .i64 mn] 39)) Z0.heap.size 39 #[.int .i64 ob.id, .int .i64 os.id, .int .i64 0, .int .i64 r.price, .int .i64 mn] := Blk.new _ _ _
              refine hK1.out _ _ hSb (fun hzz => ?_)
              clear hK1 hzz hal hd2
              simp only [Act.put, List.setIfInBounds_toArray, List.set_cons_zero, List.set_cons_succ]
              generalize Z0.alloc (.cells #[.int .i64 ob.id, .int .i64 os.id, .int .i64 0, .int .i64 r.price, .int .i64 mn] 39) = Z1 at *
              generalize Z0.heap.size = ba at *
              refine wpAnyH_ready (rs := [16]) (by kernel_rfl) (by simp) ?_
              refine AllReadyH.cons rfl (fun K1 hK1 => ?_) AllReadyH.nil
              rw [if_pos (by kernel_rfl)]
              refine appR Z1 (d := some 78) rfl (.tmp 62) (.tmp 77) 36 rfl 39 i0 _ 5 40 Try.underlying36 HI.out.1 HI.out.2.1 HI.out.2.2.1 HI.out.2.2.2 (by rfl) v9 F.length (flatL flL F) (by kernel_rfl) HLa.out.rF ⟨ba, 0, none⟩ 1 1 (flL ⟨ob.id, os.id, r.price, mn⟩) (by kernel_rfl) (by rfl) (fun j u hj => by rw [Addr.add_mid, Nat.zero_add, hnw.cell]; simpa [flL] using hj) (fun x hx => by simp only [flL, List.mem_cons, List.mem_nil_iff, or_false] at hx; rcases hx with rfl | rfl | rfl | rfl | rfl <;> rfl) (Or.inl (by omega)) (by have := HM.out.2.2.2.2.2.2.2.1; have := HT.out.2; unfold maxLen; omega) (by have := HM.out.2.2.2.2.2.2.2.1; have := HT.out.2; omega) ?_
              intro v5 w5 hrow hfr hnew
              have hSc : Fr W2 w5 (fun x => v9.ownBlock = some x) := hSb.trans hfr (fun _ _ h => h.elim id id)
              refine hK1.out _ _ hSc (fun hzz => ?_)
              clear hK1 hzz
              simp only [Act.put, List.setIfInBounds_toArray, List.set_cons_zero, List.set_cons_succ]
              have HLb : Hid (RI w w5 b5 r (.slice (some ⟨g7, o7, none⟩) nb c7) (.slice (some ⟨g8, o8, none⟩) ns c8) v5 B S (F ++ [⟨ob.id, os.id, r.price, mn⟩]) ∧ B.length = nb ∧ S.length = ns ∧ nb ≤ 2000000000000 ∧ ns ≤ 2000000000000) := ⟨HLa.out.app hrow hfr hnew, HL9.out.2⟩
              refine takeR (i := 17) (v := v5) (some 11) rfl rfl (by kernel_rfl) (by kernel_rfl) (by kernel_rfl) (fun _ _ _ h => h) (Or.inl ⟨by kernel_rfl, fun w' hSw => by kernel_rfl⟩) hSc ?_
              simp only [Act.put, List.setIfInBounds_toArray, List.set_cons_zero, List.set_cons_succ]
              refine wpAnyH_done (by kernel_rfl) ?_ _
              clear hSa hSb hSc row7 row8 k5 HL9 HLa hnw hrow hfr hnew Z0 Z1 H78
              refine hK _ _ ?_
              clear hK
              try clear W2
              have hm1 := HM.out
              have h79 : w5.cell? ⟨g7, o7 + i * 15 + 9, none⟩ = some (.int .i64 ob.qt) ∧ w5.frozen? ⟨g7, o7 + i * 15 + 9, none⟩ = false := by
                have h1 := HLb.out.1.rB
                rw [HLb.out.2.1] at h1
                exact ⟨(od_at h1 HLb.out.1.tB hm1.2.2.2.2.2.2.2.2.2.1).2, h1.frozen rfl _⟩
              go_upto_region 13 with fail
              rename_i K hK
              refine wp_region_lit ?_
              refine wpList_runTo rfl (some 79) rfl (.int .i64 left) w5 (by kernel_rfl) ?_
              simp only [Act.put, List.setIfInBounds_toArray, List.set_cons_zero, List.set_cons_succ]
              refine wpList_runTo rfl (some 80) rfl (.int .i64 mn) w5 (by kernel_rfl) ?_
              simp only [Act.put, List.setIfInBounds_toArray, List.set_cons_zero, List.set_cons_succ]
              refine wpList_runTo rfl (some 81) rfl (.int .i64 (left - mn)) w5 (by exact subW_run (.tmp 79) (.tmp 80) rfl (by kernel_rfl) (by kernel_rfl) (by omega) _) ?_
              simp only [Act.put, List.setIfInBounds_toArray, List.set_cons_zero, List.set_cons_succ]
              refine wpList_runTo rfl (some 10) rfl (.int .i64 (left - mn)) w5 (by kernel_rfl) ?_
              simp only [Act.put, List.setIfInBounds_toArray, List.set_cons_zero, List.set_cons_succ]
              refine wpList_nil ?_
              refine hK _ _ ?_
              clear hK
              go_upto_region 14 with fail
              rename_i K hK
              refine wp_region_lit ?_
              refine wpList_runTo rfl (some 82) rfl (.slice (some ⟨g7, o7, none⟩) nb c7) w5 (by kernel_rfl) ?_
              simp only [Act.put, List.setIfInBounds_toArray, List.set_cons_zero, List.set_cons_succ]
              refine wpList_runTo rfl (some 83) rfl (.int .i64 (i : Int)) w5 (by kernel_rfl) ?_
              simp only [Act.put, List.setIfInBounds_toArray, List.set_cons_zero, List.set_cons_succ]
              refine wpList_runTo rfl (some 84) rfl (.slice (some ⟨g7, o7, none⟩) nb c7) w5 (by kernel_rfl) ?_
              simp only [Act.put, List.setIfInBounds_toArray, List.set_cons_zero, List.set_cons_succ]
              refine wpList_runTo rfl (some 85) rfl (.int .i64 (i : Int)) w5 (by kernel_rfl) ?_
              simp only [Act.put, List.setIfInBounds_toArray, List.set_cons_zero, List.set_cons_succ]
              refine wpList_runTo rfl (some 86) rfl (.pointer (some ⟨g7, o7 + i * 15, none⟩)) w5 (by exact ixOr_run (n := nb) (c := c7) (.tmp 84) (.tmp 85) rfl (by kernel_rfl) (by kernel_rfl) hib _) ?_
              simp only [Act.put, List.setIfInBounds_toArray, List.set_cons_zero, List.set_cons_succ]
              refine wpList_runTo rfl (some 87) rfl (.pointer (some ⟨g7, o7 + i * 15 + 9, none⟩)) w5 (by kernel_rfl) ?_
              simp only [Act.put, List.setIfInBounds_toArray, List.set_cons_zero, List.set_cons_succ]
              refine wpList_runTo rfl (some 88) rfl (.int .i64 ob.qt) w5 (by exact ldN_run (.inl rfl) (.tmp 87) rfl (by kernel_rfl) h79.1) ?_
              simp only [Act.put, List.setIfInBounds_toArray, List.set_cons_zero, List.set_cons_succ]
              refine wpList_runTo rfl (some 89) rfl (.int .i64 mn) w5 (by kernel_rfl) ?_
              simp only [Act.put, List.setIfInBounds_toArray, List.set_cons_zero, List.set_cons_succ]
              refine wpList_runTo rfl (some 90) rfl (.int .i64 (ob.qt - mn)) w5 (by exact subW_run (.tmp 88) (.tmp 89) rfl (by kernel_rfl) (by kernel_rfl) (by omega) _) ?_
              simp only [Act.put, List.setIfInBounds_toArray, List.set_cons_zero, List.set_cons_succ]
              refine wpList_runTo rfl (some 91) rfl (.pointer (some ⟨g7, o7 + i * 15, none⟩)) w5 (by exact ixOr_run (n := nb) (c := c7) (.tmp 82) (.tmp 83) rfl (by kernel_rfl) (by kernel_rfl) hib _) ?_
              simp only [Act.put, List.setIfInBounds_toArray, List.set_cons_zero, List.set_cons_succ]
              refine wpList_runTo rfl (some 92) rfl (.pointer (some ⟨g7, o7 + i * 15 + 9, none⟩)) w5 (by kernel_rfl) ?_
              simp only [Act.put, List.setIfInBounds_toArray, List.set_cons_zero, List.set_cons_succ]
              refine wpList_skipW' rfl none rfl (w' := w5.setCell ⟨g7, o7 + i * 15 + 9, none⟩ (.int .i64 (ob.qt - mn))) (stN_run' (.inl rfl) (.tmp 92) (.tmp 90) rfl (by kernel_rfl) (by kernel_rfl) h79.1 h79.2) ?_
              try simp only [Act.put]
              have HL6 : Hid (RI w (w5.setCell ⟨g7, o7 + i * 15 + 9, none⟩ (.int .i64 (ob.qt - mn))) b5 r (.slice (some ⟨g7, o7, none⟩) nb c7) (.slice (some ⟨g8, o8, none⟩) ns c8) v5 (B.set i (ob.cut mn)) S (F ++ [⟨ob.id, os.id, r.price, mn⟩])) := HLb.out.1.cutB HLb.out.2.1.symm HM.out.2.2.2.2.2.2.2.2.2.1 mn
              generalize w5.setCell ⟨g7, o7 + i * 15 + 9, none⟩ (.int .i64 (ob.qt - mn)) = w6 at *
              have HNn : Hid (B.length = nb ∧ S.length = ns ∧ nb ≤ 2000000000000 ∧ ns ≤ 2000000000000) := HLb.out.2
              clear h79 HLb
              refine wpList_nil ?_
              refine hK _ _ ?_
              clear hK
              try clear w5
              have h89 : w6.cell? ⟨g8, o8 + k * 15 + 9, none⟩ = some (.int .i64 os.qt) ∧ w6.frozen? ⟨g8, o8 + k * 15 + 9, none⟩ = false := by
                have h1 := HL6.out.rS
                rw [HNn.out.2.1] at h1
                exact ⟨(od_at h1 HL6.out.tS hm1.2.2.2.2.2.2.2.2.2.2).2, h1.frozen rfl _⟩
              go_upto_region 15 with fail
              rename_i K hK
              refine wp_region_lit ?_
              refine wpList_runTo rfl (some 93) rfl (.slice (some ⟨g8, o8, none⟩) ns c8) w6 (by kernel_rfl) ?_
              simp only [Act.put, List.setIfInBounds_toArray, List.set_cons_zero, List.set_cons_succ]
              refine wpList_runTo rfl (some 94) rfl (.int .i64 (k : Int)) w6 (by kernel_rfl) ?_
              simp only [Act.put, List.setIfInBounds_toArray, List.set_cons_zero, List.set_cons_succ]
              refine wpList_runTo rfl (some 95) rfl (.slice (some ⟨g8, o8, none⟩) ns c8) w6 (by kernel_rfl) ?_
              simp only [Act.put, List.setIfInBounds_toArray, List.set_cons_zero, List.set_cons_succ]
              refine wpList_runTo rfl (some 96) rfl (.int .i64 (k : Int)) w6 (by kernel_rfl) ?_
              simp only [Act.put, List.setIfInBounds_toArray, List.set_cons_zero, List.set_cons_succ]
              refine wpList_runTo rfl (some 97) rfl (.pointer (some ⟨g8, o8 + k * 15, none⟩)) w6 (by exact ixOr_run (n := ns) (c := c8) (.tmp 95) (.tmp 96) rfl (by kernel_rfl) (by kernel_rfl) hks _) ?_
              simp only [Act.put, List.setIfInBounds_toArray, List.set_cons_zero, List.set_cons_succ]
              refine wpList_runTo rfl (some 98) rfl (.pointer (some ⟨g8, o8 + k * 15 + 9, none⟩)) w6 (by kernel_rfl) ?_
              simp only [Act.put, List.setIfInBounds_toArray, List.set_cons_zero, List.set_cons_succ]
              refine wpList_runTo rfl (some 99) rfl (.int .i64 os.qt) w6 (by exact ldN_run (.inl rfl) (.tmp 98) rfl (by kernel_rfl) h89.1) ?_
              simp only [Act.put, List.setIfInBounds_toArray, List.set_cons_zero, List.set_cons_succ]
              refine wpList_runTo rfl (some 100) rfl (.int .i64 mn) w6 (by kernel_rfl) ?_
              simp only [Act.put, List.setIfInBounds_toArray, List.set_cons_zero, List.set_cons_succ]
              refine wpList_runTo rfl (some 101) rfl (.int .i64 (os.qt - mn)) w6 (by exact subW_run (.tmp 99) (.tmp 100) rfl (by kernel_rfl) (by kernel_rfl) (by omega) _) ?_
              simp only [Act.put, List.setIfInBounds_toArray, List.set_cons_zero, List.set_cons_succ]
              refine wpList_runTo rfl (some 102) rfl (.pointer (some ⟨g8, o8 + k * 15, none⟩)) w6 (by exact ixOr_run (n := ns) (c := c8) (.tmp 93) (.tmp 94) rfl (by kernel_rfl) (by kernel_rfl) hks _) ?_
              simp only [Act.put, List.setIfInBounds_toArray, List.set_cons_zero, List.set_cons_succ]
              refine wpList_runTo rfl (some 103) rfl (.pointer (some ⟨g8, o8 + k * 15 + 9, none⟩)) w6 (by kernel_rfl) ?_
              simp only [Act.put, List.setIfInBounds_toArray, List.set_cons_zero, List.set_cons_succ]
              refine wpList_skipW' rfl none rfl (w' := w6.setCell ⟨g8, o8 + k * 15 + 9, none⟩ (.int .i64 (os.qt - mn))) (stN_run' (.inl rfl) (.tmp 103) (.tmp 101) rfl (by kernel_rfl) (by kernel_rfl) h89.1 h89.2) ?_
              try simp only [Act.put]
              have HL7 : Hid (RI w (w6.setCell ⟨g8, o8 + k * 15 + 9, none⟩ (.int .i64 (os.qt - mn))) b5 r (.slice (some ⟨g7, o7, none⟩) nb c7) (.slice (some ⟨g8, o8, none⟩) ns c8) v5 (B.set i (ob.cut mn)) (S.set k (os.cut mn)) (F ++ [⟨ob.id, os.id, r.price, mn⟩])) := HL6.out.cutS HNn.out.2.1.symm HM.out.2.2.2.2.2.2.2.2.2.2 mn
              generalize w6.setCell ⟨g8, o8 + k * 15 + 9, none⟩ (.int .i64 (os.qt - mn)) = w7 at *
              clear h89 HL6
              refine wpList_nil ?_
              refine hK _ _ ?_
              clear hK
              try clear w6
              have h7 : w7.cell? ⟨g7, o7 + i * 15 + 9, none⟩ = some (.int .i64 (ob.qt - mn)) := by
                have h1 := HL7.out.rB
                rw [List.length_set, HNn.out.1] at h1
                exact (od_at h1 HL7.out.tB (show (B.set i (ob.cut mn))[i]? = some (ob.cut mn) from List.getElem?_set_self (by have := HNn.out.1; omega))).2
              have h8 : w7.cell? ⟨g8, o8 + k * 15 + 9, none⟩ = some (.int .i64 (os.qt - mn)) := by
                have h1 := HL7.out.rS
                rw [List.length_set, HNn.out.2.1] at h1
                exact (od_at h1 HL7.out.tS (show (S.set k (os.cut mn))[k]? = some (os.cut mn) from List.getElem?_set_self (by have := HNn.out.2.1; omega))).2
              have hnbd := HNn.out.2.2
              have hm2 : (mn = left ∨ ob.qt - mn = 0 ∨ os.qt - mn = 0) := by
                rcases hm1.2.2.2.2.1 with h | h | h
                · exact .inl h
                · exact .inr (.inl (by omega))
                · exact .inr (.inr (by omega))
              have hlo : left - mn ≤ 9223372036854775807 := by omega
              clear hm1
              have HF : Hid (RI w w7 b5 r (.slice (some ⟨g7, o7, none⟩) nb c7) (.slice (some ⟨g8, o8, none⟩) ns c8) v5 (B.set i (ob.cut mn)) (S.set k (os.cut mn)) (F ++ [⟨ob.id, os.id, r.price, mn⟩]) ∧ FS r.price T N (left - mn) (((B.set i (ob.cut mn)).drop (if ob.qt - mn = 0 then i + 1 else i)).map wnC) (((S.set k (os.cut mn)).drop (if os.qt - mn = 0 then k + 1 else k)).map wnC) (F ++ [⟨ob.id, os.id, r.price, mn⟩]) ∧ (B.set i (ob.cut mn)).length = nb ∧ (S.set k (os.cut mn)).length = ns ∧ nb ≤ 2000000000000 ∧ ns ≤ 2000000000000) := ⟨HL7.out, HS8.out, by rw [List.length_set]; exact HNn.out.1, by rw [List.length_set]; exact HNn.out.2.1, HNn.out.2.2⟩
              clear HL7 HS8 HM HNn
              go_upto_region 16 with fail
              rename_i K hK
              by_cases hzb : ob.qt - mn = 0
              · skip
                refine wp_region_lit ?_
                refine wpList_runTo rfl (some 104) rfl (.slice (some ⟨g7, o7, none⟩) nb c7) w7 (by kernel_rfl) ?_
                simp only [Act.put, List.setIfInBounds_toArray, List.set_cons_zero, List.set_cons_succ]
                refine wpList_runTo rfl (some 105) rfl (.int .i64 (i : Int)) w7 (by kernel_rfl) ?_
                simp only [Act.put, List.setIfInBounds_toArray, List.set_cons_zero, List.set_cons_succ]
                refine wpList_runTo rfl (some 106) rfl (.pointer (some ⟨g7, o7 + i * 15, none⟩)) w7 (by exact ixOr_run (n := nb) (c := c7) (.tmp 104) (.tmp 105) rfl (by kernel_rfl) (by kernel_rfl) hib _) ?_
                simp only [Act.put, List.setIfInBounds_toArray, List.set_cons_zero, List.set_cons_succ]
                refine wpList_runTo rfl (some 107) rfl (.pointer (some ⟨g7, o7 + i * 15 + 9, none⟩)) w7 (by kernel_rfl) ?_
                simp only [Act.put, List.setIfInBounds_toArray, List.set_cons_zero, List.set_cons_succ]
                refine wpList_runTo rfl (some 108) rfl (.int .i64 (ob.qt - mn)) w7 (by exact ldN_run (.inl rfl) (.tmp 107) rfl (by kernel_rfl) h7) ?_
                simp only [Act.put, List.setIfInBounds_toArray, List.set_cons_zero, List.set_cons_succ]
                refine wpList_runTo rfl (some 109) rfl (.bool true) w7 (by exact eq0_run (.inl rfl) (.tmp 108) rfl (by kernel_rfl) (decide_eq_true hzb) _) ?_
                simp only [Act.put, List.setIfInBounds_toArray, List.set_cons_zero, List.set_cons_succ]
                refine wpList_nil ?_
                refine hK _ _ ?_
                clear hK
                go_upto_region 18 with fail
                rename_i K hK
                by_cases hzs : os.qt - mn = 0
                · skip
                  refine wp_region_lit ?_
                  refine wpList_runTo rfl (some 112) rfl (.slice (some ⟨g8, o8, none⟩) ns c8) w7 (by kernel_rfl) ?_
                  simp only [Act.put, List.setIfInBounds_toArray, List.set_cons_zero, List.set_cons_succ]
                  refine wpList_runTo rfl (some 113) rfl (.int .i64 (k : Int)) w7 (by kernel_rfl) ?_
                  simp only [Act.put, List.setIfInBounds_toArray, List.set_cons_zero, List.set_cons_succ]
                  refine wpList_runTo rfl (some 114) rfl (.pointer (some ⟨g8, o8 + k * 15, none⟩)) w7 (by exact ixOr_run (n := ns) (c := c8) (.tmp 112) (.tmp 113) rfl (by kernel_rfl) (by kernel_rfl) hks _) ?_
                  simp only [Act.put, List.setIfInBounds_toArray, List.set_cons_zero, List.set_cons_succ]
                  refine wpList_runTo rfl (some 115) rfl (.pointer (some ⟨g8, o8 + k * 15 + 9, none⟩)) w7 (by kernel_rfl) ?_
                  simp only [Act.put, List.setIfInBounds_toArray, List.set_cons_zero, List.set_cons_succ]
                  refine wpList_runTo rfl (some 116) rfl (.int .i64 (os.qt - mn)) w7 (by exact ldN_run (.inl rfl) (.tmp 115) rfl (by kernel_rfl) h8) ?_
                  simp only [Act.put, List.setIfInBounds_toArray, List.set_cons_zero, List.set_cons_succ]
                  refine wpList_runTo rfl (some 117) rfl (.bool true) w7 (by exact eq0_run (.inl rfl) (.tmp 116) rfl (by kernel_rfl) (decide_eq_true hzs) _) ?_
                  simp only [Act.put, List.setIfInBounds_toArray, List.set_cons_zero, List.set_cons_succ]
                  refine wpList_nil ?_
                  refine hK _ _ ?_
                  clear hK
                  have HFx : Hid (RI w w7 b5 r (.slice (some ⟨g7, o7, none⟩) nb c7) (.slice (some ⟨g8, o8, none⟩) ns c8) v5 (B.set i (ob.cut mn)) (S.set k (os.cut mn)) (F ++ [⟨ob.id, os.id, r.price, mn⟩]) ∧ FS r.price T N (left - mn) (((B.set i (ob.cut mn)).drop (i + 1)).map wnC) (((S.set k (os.cut mn)).drop (k + 1)).map wnC) (F ++ [⟨ob.id, os.id, r.price, mn⟩]) ∧ (B.set i (ob.cut mn)).length = nb ∧ (S.set k (os.cut mn)).length = ns ∧ nb ≤ 2000000000000 ∧ ns ≤ 2000000000000) := by
                    have := HF.out
                    rw [if_pos hzb, if_pos hzs] at this
                    exact this
                  clear HF
                  have hμ : (if left - mn ≤ 0 then 0 else (nb - (i + 1)) + (ns - (k + 1)) + 1) < (if left ≤ 0 then 0 else (nb - i) + (ns - k) + 1) := by
                    rw [if_neg hl]
                    split <;> omega
                  go_wp2
                  exact ⟨⟨v5, left - mn, i + 1, k + 1, _, _, _, rfl, rfl, by go_num, by go_num, hlo, by omega, by omega, HFx.out⟩, by simp [RowKit.intOf]; exact hμ⟩
                · skip
                  refine wp_region_lit ?_
                  refine wpList_runTo rfl (some 112) rfl (.slice (some ⟨g8, o8, none⟩) ns c8) w7 (by kernel_rfl) ?_
                  simp only [Act.put, List.setIfInBounds_toArray, List.set_cons_zero, List.set_cons_succ]
                  refine wpList_runTo rfl (some 113) rfl (.int .i64 (k : Int)) w7 (by kernel_rfl) ?_
                  simp only [Act.put, List.setIfInBounds_toArray, List.set_cons_zero, List.set_cons_succ]
                  refine wpList_runTo rfl (some 114) rfl (.pointer (some ⟨g8, o8 + k * 15, none⟩)) w7 (by exact ixOr_run (n := ns) (c := c8) (.tmp 112) (.tmp 113) rfl (by kernel_rfl) (by kernel_rfl) hks _) ?_
                  simp only [Act.put, List.setIfInBounds_toArray, List.set_cons_zero, List.set_cons_succ]
                  refine wpList_runTo rfl (some 115) rfl (.pointer (some ⟨g8, o8 + k * 15 + 9, none⟩)) w7 (by kernel_rfl) ?_
                  simp only [Act.put, List.setIfInBounds_toArray, List.set_cons_zero, List.set_cons_succ]
                  refine wpList_runTo rfl (some 116) rfl (.int .i64 (os.qt - mn)) w7 (by exact ldN_run (.inl rfl) (.tmp 115) rfl (by kernel_rfl) h8) ?_
                  simp only [Act.put, List.setIfInBounds_toArray, List.set_cons_zero, List.set_cons_succ]
                  refine wpList_runTo rfl (some 117) rfl (.bool false) w7 (by exact eq0_run (.inl rfl) (.tmp 116) rfl (by kernel_rfl) (decide_eq_false hzs) _) ?_
                  simp only [Act.put, List.setIfInBounds_toArray, List.set_cons_zero, List.set_cons_succ]
                  refine wpList_nil ?_
                  refine hK _ _ ?_
                  clear hK
                  have HFx : Hid (RI w w7 b5 r (.slice (some ⟨g7, o7, none⟩) nb c7) (.slice (some ⟨g8, o8, none⟩) ns c8) v5 (B.set i (ob.cut mn)) (S.set k (os.cut mn)) (F ++ [⟨ob.id, os.id, r.price, mn⟩]) ∧ FS r.price T N (left - mn) (((B.set i (ob.cut mn)).drop (i + 1)).map wnC) (((S.set k (os.cut mn)).drop k).map wnC) (F ++ [⟨ob.id, os.id, r.price, mn⟩]) ∧ (B.set i (ob.cut mn)).length = nb ∧ (S.set k (os.cut mn)).length = ns ∧ nb ≤ 2000000000000 ∧ ns ≤ 2000000000000) := by
                    have := HF.out
                    rw [if_pos hzb, if_neg hzs] at this
                    exact this
                  clear HF
                  have hμ : (if left - mn ≤ 0 then 0 else (nb - (i + 1)) + (ns - k) + 1) < (if left ≤ 0 then 0 else (nb - i) + (ns - k) + 1) := by
                    rw [if_neg hl]
                    split <;> omega
                  go_wp2
                  exact ⟨⟨v5, left - mn, i + 1, k, _, _, _, rfl, rfl, by go_num, by go_num, hlo, by omega, by omega, HFx.out⟩, by simp [RowKit.intOf]; exact hμ⟩
              · skip
                refine wp_region_lit ?_
                refine wpList_runTo rfl (some 104) rfl (.slice (some ⟨g7, o7, none⟩) nb c7) w7 (by kernel_rfl) ?_
                simp only [Act.put, List.setIfInBounds_toArray, List.set_cons_zero, List.set_cons_succ]
                refine wpList_runTo rfl (some 105) rfl (.int .i64 (i : Int)) w7 (by kernel_rfl) ?_
                simp only [Act.put, List.setIfInBounds_toArray, List.set_cons_zero, List.set_cons_succ]
                refine wpList_runTo rfl (some 106) rfl (.pointer (some ⟨g7, o7 + i * 15, none⟩)) w7 (by exact ixOr_run (n := nb) (c := c7) (.tmp 104) (.tmp 105) rfl (by kernel_rfl) (by kernel_rfl) hib _) ?_
                simp only [Act.put, List.setIfInBounds_toArray, List.set_cons_zero, List.set_cons_succ]
                refine wpList_runTo rfl (some 107) rfl (.pointer (some ⟨g7, o7 + i * 15 + 9, none⟩)) w7 (by kernel_rfl) ?_
                simp only [Act.put, List.setIfInBounds_toArray, List.set_cons_zero, List.set_cons_succ]
                refine wpList_runTo rfl (some 108) rfl (.int .i64 (ob.qt - mn)) w7 (by exact ldN_run (.inl rfl) (.tmp 107) rfl (by kernel_rfl) h7) ?_
                simp only [Act.put, List.setIfInBounds_toArray, List.set_cons_zero, List.set_cons_succ]
                refine wpList_runTo rfl (some 109) rfl (.bool false) w7 (by exact eq0_run (.inl rfl) (.tmp 108) rfl (by kernel_rfl) (decide_eq_false hzb) _) ?_
                simp only [Act.put, List.setIfInBounds_toArray, List.set_cons_zero, List.set_cons_succ]
                refine wpList_nil ?_
                refine hK _ _ ?_
                clear hK
                go_upto_region 18 with fail
                rename_i K hK
                by_cases hzs : os.qt - mn = 0
                · skip
                  refine wp_region_lit ?_
                  refine wpList_runTo rfl (some 112) rfl (.slice (some ⟨g8, o8, none⟩) ns c8) w7 (by kernel_rfl) ?_
                  simp only [Act.put, List.setIfInBounds_toArray, List.set_cons_zero, List.set_cons_succ]
                  refine wpList_runTo rfl (some 113) rfl (.int .i64 (k : Int)) w7 (by kernel_rfl) ?_
                  simp only [Act.put, List.setIfInBounds_toArray, List.set_cons_zero, List.set_cons_succ]
                  refine wpList_runTo rfl (some 114) rfl (.pointer (some ⟨g8, o8 + k * 15, none⟩)) w7 (by exact ixOr_run (n := ns) (c := c8) (.tmp 112) (.tmp 113) rfl (by kernel_rfl) (by kernel_rfl) hks _) ?_
                  simp only [Act.put, List.setIfInBounds_toArray, List.set_cons_zero, List.set_cons_succ]
                  refine wpList_runTo rfl (some 115) rfl (.pointer (some ⟨g8, o8 + k * 15 + 9, none⟩)) w7 (by kernel_rfl) ?_
                  simp only [Act.put, List.setIfInBounds_toArray, List.set_cons_zero, List.set_cons_succ]
                  refine wpList_runTo rfl (some 116) rfl (.int .i64 (os.qt - mn)) w7 (by exact ldN_run (.inl rfl) (.tmp 115) rfl (by kernel_rfl) h8) ?_
                  simp only [Act.put, List.setIfInBounds_toArray, List.set_cons_zero, List.set_cons_succ]
                  refine wpList_runTo rfl (some 117) rfl (.bool true) w7 (by exact eq0_run (.inl rfl) (.tmp 116) rfl (by kernel_rfl) (decide_eq_true hzs) _) ?_
                  simp only [Act.put, List.setIfInBounds_toArray, List.set_cons_zero, List.set_cons_succ]
                  refine wpList_nil ?_
                  refine hK _ _ ?_
                  clear hK
                  have HFx : Hid (RI w w7 b5 r (.slice (some ⟨g7, o7, none⟩) nb c7) (.slice (some ⟨g8, o8, none⟩) ns c8) v5 (B.set i (ob.cut mn)) (S.set k (os.cut mn)) (F ++ [⟨ob.id, os.id, r.price, mn⟩]) ∧ FS r.price T N (left - mn) (((B.set i (ob.cut mn)).drop i).map wnC) (((S.set k (os.cut mn)).drop (k + 1)).map wnC) (F ++ [⟨ob.id, os.id, r.price, mn⟩]) ∧ (B.set i (ob.cut mn)).length = nb ∧ (S.set k (os.cut mn)).length = ns ∧ nb ≤ 2000000000000 ∧ ns ≤ 2000000000000) := by
                    have := HF.out
                    rw [if_neg hzb, if_pos hzs] at this
                    exact this
                  clear HF
                  have hμ : (if left - mn ≤ 0 then 0 else (nb - i) + (ns - (k + 1)) + 1) < (if left ≤ 0 then 0 else (nb - i) + (ns - k) + 1) := by
                    rw [if_neg hl]
                    split <;> omega
                  go_wp2
                  exact ⟨⟨v5, left - mn, i, k + 1, _, _, _, rfl, rfl, by go_num, by go_num, hlo, by omega, by omega, HFx.out⟩, by simp [RowKit.intOf]; exact hμ⟩
                · skip
                  refine wp_region_lit ?_
                  refine wpList_runTo rfl (some 112) rfl (.slice (some ⟨g8, o8, none⟩) ns c8) w7 (by kernel_rfl) ?_
                  simp only [Act.put, List.setIfInBounds_toArray, List.set_cons_zero, List.set_cons_succ]
                  refine wpList_runTo rfl (some 113) rfl (.int .i64 (k : Int)) w7 (by kernel_rfl) ?_
                  simp only [Act.put, List.setIfInBounds_toArray, List.set_cons_zero, List.set_cons_succ]
                  refine wpList_runTo rfl (some 114) rfl (.pointer (some ⟨g8, o8 + k * 15, none⟩)) w7 (by exact ixOr_run (n := ns) (c := c8) (.tmp 112) (.tmp 113) rfl (by kernel_rfl) (by kernel_rfl) hks _) ?_
                  simp only [Act.put, List.setIfInBounds_toArray, List.set_cons_zero, List.set_cons_succ]
                  refine wpList_runTo rfl (some 115) rfl (.pointer (some ⟨g8, o8 + k * 15 + 9, none⟩)) w7 (by kernel_rfl) ?_
                  simp only [Act.put, List.setIfInBounds_toArray, List.set_cons_zero, List.set_cons_succ]
                  refine wpList_runTo rfl (some 116) rfl (.int .i64 (os.qt - mn)) w7 (by exact ldN_run (.inl rfl) (.tmp 115) rfl (by kernel_rfl) h8) ?_
                  simp only [Act.put, List.setIfInBounds_toArray, List.set_cons_zero, List.set_cons_succ]
                  refine wpList_runTo rfl (some 117) rfl (.bool false) w7 (by exact eq0_run (.inl rfl) (.tmp 116) rfl (by kernel_rfl) (decide_eq_false hzs) _) ?_
                  simp only [Act.put, List.setIfInBounds_toArray, List.set_cons_zero, List.set_cons_succ]
                  refine wpList_nil ?_
                  refine hK _ _ ?_
                  clear hK
                  have HFx : Hid (RI w w7 b5 r (.slice (some ⟨g7, o7, none⟩) nb c7) (.slice (some ⟨g8, o8, none⟩) ns c8) v5 (B.set i (ob.cut mn)) (S.set k (os.cut mn)) (F ++ [⟨ob.id, os.id, r.price, mn⟩]) ∧ FS r.price T N (left - mn) (((B.set i (ob.cut mn)).drop i).map wnC) (((S.set k (os.cut mn)).drop k).map wnC) (F ++ [⟨ob.id, os.id, r.price, mn⟩]) ∧ (B.set i (ob.cut mn)).length = nb ∧ (S.set k (os.cut mn)).length = ns ∧ nb ≤ 2000000000000 ∧ ns ≤ 2000000000000) := by
                    have := HF.out
                    rw [if_neg hzb, if_neg hzs] at this
                    exact this
                  clear HF
                  have hμ : (if left - mn ≤ 0 then 0 else (nb - i) + (ns - k) + 1) < (if left ≤ 0 then 0 else (nb - i) + (ns - k) + 1) := by
                    rw [if_neg hl]
                    split <;> omega
                  go_wp2
                  exact ⟨⟨v5, left - mn, i, k, _, _, _, rfl, rfl, by go_num, by go_num, hlo, by omega, by omega, HFx.out⟩, by simp [RowKit.intOf]; exact hμ⟩
            · go_upto_region 10 with fail
              rename_i K hK
              refine wp_region_lit ?_
              refine wpList_runTo rfl (some 35) rfl (.int .i64 left) wr (by kernel_rfl) ?_
              simp only [Act.put, List.setIfInBounds_toArray, List.set_cons_zero, List.set_cons_succ]
              refine wpList_runTo rfl (some 36) rfl (.bool true) wr (by exact gt02_run (p := left) (.tmp 35) rfl (by kernel_rfl) (decide_eq_true (by omega)) _) ?_
              simp only [Act.put, List.setIfInBounds_toArray, List.set_cons_zero, List.set_cons_succ]
              refine wpList_runTo rfl (some 37) rfl (.bool true) wr (by kernel_rfl) ?_
              simp only [Act.put, List.setIfInBounds_toArray, List.set_cons_zero, List.set_cons_succ]
              refine wpList_runToG (by kernel_rfl) (some 38) rfl (.int .i64 (i : Int)) wr (by kernel_rfl) ?_
              simp only [Act.put, List.setIfInBounds_toArray, List.set_cons_zero, List.set_cons_succ]
              refine wpList_runToG (by kernel_rfl) (some 39) rfl (.slice a7 nb c7) wr (by kernel_rfl) ?_
              simp only [Act.put, List.setIfInBounds_toArray, List.set_cons_zero, List.set_cons_succ]
              refine wpList_runToG (by kernel_rfl) (some 40) rfl (.int .i64 (nb : Int)) wr (by exact lenO_run (v := .slice a7 nb c7) (ao := a7) (n := nb) (c := c7) rfl (.tmp 39) rfl (by kernel_rfl) _) ?_
              simp only [Act.put, List.setIfInBounds_toArray, List.set_cons_zero, List.set_cons_succ]
              refine wpList_runToG (by kernel_rfl) (some 41) rfl (.bool true) wr (by exact ltN_run (p := (i : Int)) (q := (nb : Int)) (.tmp 38) (.tmp 40) rfl (by kernel_rfl) (by kernel_rfl) (decide_eq_true (by omega)) _) ?_
              simp only [Act.put, List.setIfInBounds_toArray, List.set_cons_zero, List.set_cons_succ]
              refine wpList_runTo rfl (some 42) rfl (.bool true) wr (by exact pick_run (.tmp 37) (.tmp 41) rfl (by kernel_rfl) (by kernel_rfl) _) ?_
              simp only [Act.put, List.setIfInBounds_toArray, List.set_cons_zero, List.set_cons_succ]
              refine wpList_runTo rfl (some 43) rfl (.bool true) wr (by kernel_rfl) ?_
              simp only [Act.put, List.setIfInBounds_toArray, List.set_cons_zero, List.set_cons_succ]
              refine wpList_runToG (by kernel_rfl) (some 44) rfl (.int .i64 (k : Int)) wr (by kernel_rfl) ?_
              simp only [Act.put, List.setIfInBounds_toArray, List.set_cons_zero, List.set_cons_succ]
              refine wpList_runToG (by kernel_rfl) (some 45) rfl (.slice a8 ns c8) wr (by kernel_rfl) ?_
              simp only [Act.put, List.setIfInBounds_toArray, List.set_cons_zero, List.set_cons_succ]
              refine wpList_runToG (by kernel_rfl) (some 46) rfl (.int .i64 (ns : Int)) wr (by exact lenO_run (v := .slice a8 ns c8) (ao := a8) (n := ns) (c := c8) rfl (.tmp 45) rfl (by kernel_rfl) _) ?_
              simp only [Act.put, List.setIfInBounds_toArray, List.set_cons_zero, List.set_cons_succ]
              refine wpList_runToG (by kernel_rfl) (some 47) rfl (.bool false) wr (by exact ltN_run (p := (k : Int)) (q := (ns : Int)) (.tmp 44) (.tmp 46) rfl (by kernel_rfl) (by kernel_rfl) (decide_eq_false (by omega)) _) ?_
              simp only [Act.put, List.setIfInBounds_toArray, List.set_cons_zero, List.set_cons_succ]
              refine wpList_runTo rfl (some 48) rfl (.bool false) wr (by exact pick_run (.tmp 43) (.tmp 47) rfl (by kernel_rfl) (by kernel_rfl) _) ?_
              simp only [Act.put, List.setIfInBounds_toArray, List.set_cons_zero, List.set_cons_succ]
              refine wpList_nil ?_
              refine hK _ _ ?_
              clear hK
              have HF : Hid (∃ F, FR w wr v9 F ∧ ∀ F', FV b s r F' → F' = F) := by
                refine ⟨T, ?_, HT.out.1⟩
                have hd := HL.out.2.1.done (by rintro ⟨_, _, h⟩; exact h (by rw [List.drop_eq_nil_of_le (by have := HL.out.2.2; omega)]; rfl))
                rw [← hd]
                exact ⟨HL.out.1.rF, HL.out.1.bel, fun q hq => (HL.out.1.o9 q hq).1⟩
              clear HL HT
              go_wp2
              go_ret
              exact ⟨_, rfl, HF⟩
          · go_upto_region 10 with fail
            rename_i K hK
            refine wp_region_lit ?_
            refine wpList_runTo rfl (some 35) rfl (.int .i64 left) wr (by kernel_rfl) ?_
            simp only [Act.put, List.setIfInBounds_toArray, List.set_cons_zero, List.set_cons_succ]
            refine wpList_runTo rfl (some 36) rfl (.bool true) wr (by exact gt02_run (p := left) (.tmp 35) rfl (by kernel_rfl) (decide_eq_true (by omega)) _) ?_
            simp only [Act.put, List.setIfInBounds_toArray, List.set_cons_zero, List.set_cons_succ]
            refine wpList_runTo rfl (some 37) rfl (.bool true) wr (by kernel_rfl) ?_
            simp only [Act.put, List.setIfInBounds_toArray, List.set_cons_zero, List.set_cons_succ]
            refine wpList_runToG (by kernel_rfl) (some 38) rfl (.int .i64 (i : Int)) wr (by kernel_rfl) ?_
            simp only [Act.put, List.setIfInBounds_toArray, List.set_cons_zero, List.set_cons_succ]
            refine wpList_runToG (by kernel_rfl) (some 39) rfl (.slice a7 nb c7) wr (by kernel_rfl) ?_
            simp only [Act.put, List.setIfInBounds_toArray, List.set_cons_zero, List.set_cons_succ]
            refine wpList_runToG (by kernel_rfl) (some 40) rfl (.int .i64 (nb : Int)) wr (by exact lenO_run (v := .slice a7 nb c7) (ao := a7) (n := nb) (c := c7) rfl (.tmp 39) rfl (by kernel_rfl) _) ?_
            simp only [Act.put, List.setIfInBounds_toArray, List.set_cons_zero, List.set_cons_succ]
            refine wpList_runToG (by kernel_rfl) (some 41) rfl (.bool false) wr (by exact ltN_run (p := (i : Int)) (q := (nb : Int)) (.tmp 38) (.tmp 40) rfl (by kernel_rfl) (by kernel_rfl) (decide_eq_false (by omega)) _) ?_
            simp only [Act.put, List.setIfInBounds_toArray, List.set_cons_zero, List.set_cons_succ]
            refine wpList_runTo rfl (some 42) rfl (.bool false) wr (by exact pick_run (.tmp 37) (.tmp 41) rfl (by kernel_rfl) (by kernel_rfl) _) ?_
            simp only [Act.put, List.setIfInBounds_toArray, List.set_cons_zero, List.set_cons_succ]
            refine wpList_runTo rfl (some 43) rfl (.bool false) wr (by kernel_rfl) ?_
            simp only [Act.put, List.setIfInBounds_toArray, List.set_cons_zero, List.set_cons_succ]
            refine wpList_skipG (by kernel_rfl) ?_
            simp only [Act.put, List.setIfInBounds_toArray, List.set_cons_zero, List.set_cons_succ]
            refine wpList_skipG (by kernel_rfl) ?_
            simp only [Act.put, List.setIfInBounds_toArray, List.set_cons_zero, List.set_cons_succ]
            refine wpList_skipG (by kernel_rfl) ?_
            simp only [Act.put, List.setIfInBounds_toArray, List.set_cons_zero, List.set_cons_succ]
            refine wpList_skipG (by kernel_rfl) ?_
            simp only [Act.put, List.setIfInBounds_toArray, List.set_cons_zero, List.set_cons_succ]
            refine wpList_runTo rfl (some 48) rfl (.bool false) wr (by kernel_rfl) ?_
            simp only [Act.put, List.setIfInBounds_toArray, List.set_cons_zero, List.set_cons_succ]
            refine wpList_nil ?_
            refine hK _ _ ?_
            clear hK
            have HF : Hid (∃ F, FR w wr v9 F ∧ ∀ F', FV b s r F' → F' = F) := by
              refine ⟨T, ?_, HT.out.1⟩
              have hd := HL.out.2.1.done (by rintro ⟨_, h, _⟩; exact h (by rw [List.drop_eq_nil_of_le (by have := HL.out.2.2; omega)]; rfl))
              rw [← hd]
              exact ⟨HL.out.1.rF, HL.out.1.bel, fun q hq => (HL.out.1.o9 q hq).1⟩
            clear HL HT
            go_wp2
            go_ret
            exact ⟨_, rfl, HF⟩
end Go.Proofs.Ytbhddfcdnpidkaa
