/-
  store, the reference: Put takes.
-/
import Derived.Test.YtekkckfoikpljaaSRefSet
import Derived.Test.YtekkckfoikpljaaSAcc
namespace Go.Proofs.Ytekkckfoikpljaa
set_option linter.unusedVariables false
set_option linter.unusedSimpArgs false
open Go.RowKit Go.Great

/-- What Put leaves behind. -/
def PutTo (K : Nat) (cs : List Nat) (ms : List Msg) (M : Msg) (cs' : List Nat) (ms' : List Msg) : Prop :=
  (cntL (cs ++ [1]) 1 ≤ K ∧ cs' = cs ++ [1] ∧ ms' = ms ++ [M]) ∨
  (K < cntL (cs ++ [1]) 1 ∧ ∃ j, j < cs.length + 1 ∧ (cs ++ [1])[j]? = some 1 ∧ (∀ i, i < j → ∀ c, (cs ++ [1])[i]? = some c → c ≠ 1) ∧ cs' = (cs ++ [1]).set j 2 ∧ ms' = (ms ++ [M]).set j zeroM)
set_option maxRecDepth 100000 in
set_option maxHeartbeats 4000000 in
theorem refPut_yes {w : World} {p K : Nat} {cs cs' : List Nat} {ms ms' : List Msg} {vW vL : Value} (M : Msg) (h : RfAt w p K cs ms vW vL) (hn : cs.length ≤ 1000000) (hs : M.z 3 = (cs.length : Int) + 1) (hto : PutTo K cs ms M cs' ms') :
    Calls Try.prog 24 #[.pointer (some ⟨p, 0, none⟩), .agg M.cs] w fun e w' => e = .returned (.int .i64 0) ∧ ∃ vW' vL', RfAt w' p K cs' ms' vW' vL' ∧ Fr w w' (ownS p vW vL) ∧ newer w vW vW' ∧ newer w vL vL' := by
  have hF : Fr w (w.alloc (.cells M.cs 34)) (fun _ => False) := Fr.alloc _ _ _
  have ho : OwnM (w.alloc (.cells M.cs 34)) w.heap.size M := heap_alloc_new w _
  have c3 : (w.alloc (.cells M.cs 34)).cell? ⟨w.heap.size, 3, none⟩ = some (.int .i64 (M.z 3)) := ho.cell 3 (by decide)
  have hnx := fun q => refNext_any (w := (w.alloc (.cells M.cs 34)).drewN q) (h.fr (hF.drewN q) (fun _ _ h => h)) (by omega)
  have HB : Hid (∀ q, RfAt ((w.alloc (.cells M.cs 34)).drewN q) p K cs ms vW vL ∧ OwnM ((w.alloc (.cells M.cs 34)).drewN q) w.heap.size M ∧ Fr w ((w.alloc (.cells M.cs 34)).drewN q) (fun _ => False)) := fun q => ⟨h.fr (hF.drewN q) (fun _ _ h => h), by first | exact ho | (unfold OwnM at ho ⊢; simpa using ho), hF.drewN q⟩
  have HN : Hid (cs.length ≤ 1000000 ∧ PutTo K cs ms M cs' ms') := ⟨hn, hto⟩
  obtain ⟨N1, hN1⟩ : ∃ N1 : Nat, (cs.length : Int) + 1 = (N1 : Int) := ⟨cs.length + 1, by omega⟩
  rw [hN1] at hnx hs
  rw [hs] at c3
  have hle : ¬ (999999999 : Int) < (N1 : Int) := by omega
  have HN1 : Hid (cs.length + 1 = N1) := by show _ = _; omega
  clear h ho hF hN1 hs hn hto
  generalize hcsm : M.cs = csm at *
  have HCS : Hid (M.cs = csm) := hcsm
  clear hcsm
  go_enter Try.func24, Try.ntmps24
  go_upto_region 1 with fail
  go_quiet ((go_at_call 25; refine Calls.quiet_of_same (hnx _)))
  go_upto_region 5 with (go_at_call 25; refine (hnx _).mono ?_; rintro e w1 ⟨rfl, ew⟩; replace ew := ew.symm; subst ew)
  have HB1 : Hid _ := HB.out nq
  clear HB hnx c3 hle
  generalize (w.alloc (.cells csm 34)).drewN nq = w1 at *
  rename_i Kc hKc
  refine wp_region_lit ?_
  refine wpList_runTo rfl (some 14) rfl (.pointer (some ⟨p, 0, none⟩)) w1 (by kernel_rfl) ?_
  simp only [Act.put, List.setIfInBounds_toArray, List.set_cons_zero, List.set_cons_succ]
  refine wpList_loadM HB1.out.2.1 (.tmp 3) rfl rfl rfl ?_
  simp only [Act.put, List.setIfInBounds_toArray, List.set_cons_zero, List.set_cons_succ]
  have hadd := add_any (n := cs.length) 1 1 rfl M HB1.out.1 rfl HN.out.1
  rw [HCS.out] at hadd ⊢
  go_upto_region 6 with (go_at_call 34; refine hadd.mono ?_; rintro e w2 ⟨rfl, vW2, vL2, h2⟩; have H2 : Hid _ := h2; clear h2 hadd)
  have HE : Hid (∀ q, RfAt (w2.drewN q) p K (cs ++ [1]) (ms ++ [M]) vW2 vL2) := fun q => H2.out.1.fr ((Fr.refl w2 fun _ => False).drewN q) (fun _ _ h => h)
  have hcnt := fun q => count_any (w := w2.drewN q) 1 1 rfl (HE.out q) (by rw [List.length_append]; have := HN.out.1; simp only [List.length_singleton]; omega)
  have HX : Hid (Fr w w2 (ownS p vW vL) ∧ newer w vW vW2 ∧ newer w vL vL2) := by
    have hsz := HB1.out.2.2.size
    refine ⟨HB1.out.2.2.trans H2.out.2.1 fun i _ q => q.elim False.elim id, ?_, ?_⟩
    · rcases H2.out.2.2.1 with q | ⟨g, q, r⟩
      · exact .inl q
      · exact .inr ⟨g, q, by omega⟩
    · rcases H2.out.2.2.2 with q | ⟨g, q, r⟩
      · exact .inl q
      · exact .inr ⟨g, q, by omega⟩
  obtain ⟨c0, -, -⟩ := H2.out.1.blk.at
  obtain ⟨k, hk⟩ : ∃ k, cntL (cs ++ [1]) 1 = k := ⟨_, rfl⟩
  rw [hk] at hcnt
  have HTO : Hid _ := HN.out.2
  rcases HTO.out with ⟨q1, rfl, rfl⟩ | ⟨q1, j, hj, hj1, hj2, rfl, rfl⟩
  · rw [hk] at q1
    have q2 : (k : Int) ≤ (K : Int) := by omega
    have HF : Hid _ := HX.out
    clear HTO HN HX hk q1
    go_quiet ((go_at_call 35; refine Calls.quiet_of_same (hcnt _)))
    go_wp2
    go_ret
    exact ⟨rfl, vW2, vL2, HE.out _, HF.out.1.drewN _, HF.out.2⟩
  · rw [hk] at q1
    have q2 : ¬ (k : Int) ≤ (K : Int) := by omega
    have HJ : Hid _ := And.intro hj (And.intro hj1 hj2)
    have HN : Hid (cs.length ≤ 1000000) := HN.out.1
    clear HTO hk q1 hj hj1 hj2
    go_quiet ((go_at_call 35; refine Calls.quiet_of_same (hcnt _)))
    have HE3 : Hid _ := HE.out nq
    have HX3 : Hid (Fr w (w2.drewN nq) (ownS p vW vL) ∧ newer w vW vW2 ∧ newer w vL vL2) := ⟨HX.out.1.drewN nq, HX.out.2⟩
    clear HE hcnt c0 HX H2 HB1
    generalize w2.drewN nq = w3 at *
    have hlen : (cs ++ [1]).length = N1 := by rw [List.length_append]; exact HN1.out
    have hW := HE3.out.what
    have hL := HE3.out.msgs
    rw [hlen] at hW hL
    obtain ⟨g, off, cap, cur, rfl, -, hcap, -⟩ := hW.more (by have := HN1.out; omega)
    obtain ⟨g2, off2, cap2, cur2, rfl, -, hcap2, -⟩ := hL.more (by have := HN1.out; omega)
    obtain ⟨-, c1, c2⟩ := HE3.out.blk.at
    have HC : Hid (∀ (i x : Nat), (cs ++ [1])[i]? = some x → w3.cell? ⟨g, off + i, none⟩ = some (.int .i64 (x : Int))) := fun i x hx => hW.cell rfl (by have := flatL_get (f := cdV) cdV_len hx (k := 0) (by decide); rw [Nat.mul_one, Nat.add_zero] at this; rw [this]; rfl)
    have fz := hW.frozen rfl (off + j)
    have HR : Hid (RowAt w3 3 1 (.slice (some ⟨g, off, none⟩) N1 cap) N1 (flatL cdV (cs ++ [1])) ∧ RowAt w3 34 42 (.slice (some ⟨g2, off2, none⟩) N1 cap2) N1 (flatL msgV (ms ++ [M])) ∧ (cs ++ [1]).length = N1) := ⟨hW, hL, hlen⟩
    have hjN : j < N1 := by have := HJ.out.1; have := HN1.out; omega
    have hb : N1 ≤ 1000001 := by have := HN.out; have := HN1.out; omega
    clear hW hL hlen hcap hcap2
    go_wp2
    go_loopw [5] (fun x5 wr => ∃ i : Nat, i ≤ j ∧ x5 = .int .i64 (i : Int) ∧ wr = w3) (fun x5 _ => j - (intOf x5).toNat)
    case atStart => exact ⟨0, Nat.zero_le _, rfl, rfl⟩
    case round =>
      obtain ⟨i, hi, rfl, ew⟩ := hrel
      replace ew := ew.symm
      subst ew
      have hiw : IntKind.i64.wrap ((i : Int) + 1) = (i : Int) + 1 := by rw [IntKind.wrap_i64]; omega
      have hiN : (i : Int) < (N1 : Int) := by omega
      by_cases hlt : i < j
      · obtain ⟨x, hx⟩ : ∃ x, (cs ++ [1])[i]? = some x := ⟨_, List.getElem?_eq_getElem (by have := HR.out.2.2; omega)⟩
        have cx := HC.out i x hx
        have hx1 : ¬ (x : Int) = 1 := by have := HJ.out.2.2 i hlt x hx; omega
        clear hx
        go_wp2
        go_roundw
        case rel => exact ⟨i + 1, by omega, by go_num, by first | rfl | trivial⟩
        case measure => simp [intOf]; omega
      · obtain rfl : i = j := by omega
        have cx := HC.out i 1 HJ.out.2.1
        go_upto_region 12 with fail
        have HQ : Hid (RfB (w3.setCell ⟨g, off + i, none⟩ (.int .i64 2)) p K (.slice (some ⟨g, off, none⟩) N1 cap) (.slice (some ⟨g2, off2, none⟩) N1 cap2) ∧ RowAt (w3.setCell ⟨g, off + i, none⟩ (.int .i64 2)) 3 1 (.slice (some ⟨g, off, none⟩) N1 cap) N1 (flatL cdV ((cs ++ [1]).set i 2)) ∧ RowAt (w3.setCell ⟨g, off + i, none⟩ (.int .i64 2)) 34 42 (.slice (some ⟨g2, off2, none⟩) N1 cap2) N1 (flatL msgV (ms ++ [M])) ∧
            Fr w (w3.setCell ⟨g, off + i, none⟩ (.int .i64 2)) (ownS p vW vL) ∧ g2 ≠ p ∧ g ≠ g2) := by
          have hset : Fr w3 (w3.setCell ⟨g, off + i, none⟩ (.int .i64 2)) (fun b => b = g) := Fr.setCell _ _ _ _ rfl
          have hgp : g ≠ p := fun e => HR.out.1.ne_type HE3.out.blk (by decide) (congrArg some e)
          have hgp2 : g2 ≠ p := fun e => HR.out.2.1.ne_type HE3.out.blk (by decide) (congrArg some e)
          obtain ⟨_, cur', hcur'⟩ := HR.out.2.1.lt (g := g2) rfl
          have hgg : g ≠ g2 := fun e => HR.out.1.ne_type hcur' (by decide) (congrArg some e)
          refine ⟨HE3.out.blk.fr hset fun e => hgp e.symm, ?_, HR.out.2.1.fr hset fun b hb e => ?_, ?_, hgp2, hgg⟩
          · have := RowAt.over (f := cdV) cdV_len HR.out.1 (i := i) (by have := HR.out.2.2; omega) 2
            rw [Nat.mul_one] at this
            exact this
          · have hb' : g2 = b := Option.some.inj hb
            exact hgg (e.symm.trans hb'.symm)
          · refine HX3.out.1.trans hset fun b hb q => ?_
            rcases q with q | q
            · exact q
            · subst q
              rcases HX3.out.2.1 with r | ⟨g', r, r'⟩
              · exact .inr (.inl r.symm)
              · have : b = g' := Option.some.inj r
                omega
        have hlm : (ms ++ [M]).length = N1 := HE3.out.len.symm.trans HR.out.2.2
        clear HE3 HC cx fz c1
        have c2' : (w3.setCell ⟨g, off + i, none⟩ (.int .i64 2)).cell? ⟨p, 2, none⟩ = some (.slice (some ⟨g2, off2, none⟩) N1 cap2) := HQ.out.1.at.2.2
        clear c2
        generalize w3.setCell ⟨g, off + i, none⟩ (.int .i64 2) = w4 at *
        have HT : Hid (w4.there g2 (off2 + i * 42) zeroM.cs.size) := fun k hk => by
          rw [zeroM.cs_size] at hk
          have hLr := HQ.out.2.2.1
          obtain ⟨m, hm⟩ : ∃ m, (ms ++ [M])[i]? = some m := ⟨_, List.getElem?_eq_getElem (by omega)⟩
          have hgk := flatL_get (f := msgV) msgV_len hm hk
          obtain ⟨u, hu⟩ : ∃ u, (msgV m)[k]? = some u := ⟨_, List.getElem?_eq_getElem (by rw [msgV_len]; exact hk)⟩
          rw [hu] at hgk
          have hce := hLr.cell rfl hgk
          rw [← Nat.add_assoc] at hce
          exact ⟨by rw [hce]; rfl, hLr.frozen rfl _⟩
        have HFIN : Hid (RfAt (w4.setCells g2 (off2 + i * 42) zeroM.cs.toList) p K ((cs ++ [1]).set i 2) ((ms ++ [M]).set i zeroM) (.slice (some ⟨g, off, none⟩) N1 cap) (.slice (some ⟨g2, off2, none⟩) N1 cap2) ∧ Fr w (w4.setCells g2 (off2 + i * 42) zeroM.cs.toList) (ownS p vW vL) ∧ newer w vW (.slice (some ⟨g, off, none⟩) N1 cap) ∧ newer w vL (.slice (some ⟨g2, off2, none⟩) N1 cap2)) := by
          have hset : Fr w4 (w4.setCells g2 (off2 + i * 42) zeroM.cs.toList) (fun b => b = g2) := Fr.setCells g2 (fun b => b = g2) rfl _ _ _
          refine ⟨⟨HQ.out.1.fr hset fun e => HQ.out.2.2.2.2.1 e.symm, by rw [List.length_set, List.length_set, HR.out.2.2, hlm], ?_, ?_⟩, ?_, HX3.out.2.1, HX3.out.2.2⟩
          · rw [List.length_set, HR.out.2.2]
            refine HQ.out.2.1.fr hset fun b hb e => ?_
            have hb' : g = b := Option.some.inj hb
            exact HQ.out.2.2.2.2.2 (hb'.trans e)
          · rw [List.length_set, HR.out.2.2]
            exact RowAt.over (f := msgV) msgV_len HQ.out.2.2.1 (i := i) (by omega) zeroM
          · refine HQ.out.2.2.2.1.trans hset fun b hb q => ?_
            rcases q with q | q
            · exact q
            · subst q
              rcases HX3.out.2.2 with r | ⟨g', r, r'⟩
              · exact .inr (.inr r.symm)
              · have : b = g' := Option.some.inj r
                omega
        rename_i Kc hKc
        refine wp_region_lit ?_
        refine wpList_runTo rfl (some 40) rfl (.pointer (some ⟨p, 0, none⟩)) w4 (by kernel_rfl) ?_
        simp only [Act.put, List.setIfInBounds_toArray, List.set_cons_zero, List.set_cons_succ]
        refine wpList_runTo rfl (some 41) rfl (.pointer (some ⟨p, 0, none⟩)) w4 (by kernel_rfl) ?_
        simp only [Act.put, List.setIfInBounds_toArray, List.set_cons_zero, List.set_cons_succ]
        refine wpList_runTo rfl (some 42) rfl (.pointer (some ⟨p, 2, none⟩)) w4 (by kernel_rfl) ?_
        simp only [Act.put, List.setIfInBounds_toArray, List.set_cons_zero, List.set_cons_succ]
        refine wpList_runTo rfl (some 43) rfl (.slice (some ⟨g2, off2, none⟩) N1 cap2) w4 (by go_simp) ?_
        simp only [Act.put, List.setIfInBounds_toArray, List.set_cons_zero, List.set_cons_succ]
        refine wpList_runTo rfl (some 44) rfl (.int .i64 (i : Int)) w4 (by kernel_rfl) ?_
        simp only [Act.put, List.setIfInBounds_toArray, List.set_cons_zero, List.set_cons_succ]
        refine wpList_runTo rfl (some 45) rfl (.agg zeroM.cs) w4 (by kernel_rfl) ?_
        simp only [Act.put, List.setIfInBounds_toArray, List.set_cons_zero, List.set_cons_succ]
        refine wpList_runTo rfl (some 46) rfl (.pointer (some ⟨g2, off2 + i * 42, none⟩)) w4 (by exact ixM_run (.tmp 43) (.tmp 44) rfl rfl rfl hjN w4) ?_
        simp only [Act.put, List.setIfInBounds_toArray, List.set_cons_zero, List.set_cons_succ]
        refine wpList_store_mid rfl 34 (.tmp 46) (.tmp 45) rfl g2 (off2 + i * 42) zeroM.cs (by kernel_rfl) (by kernel_rfl) HT.out (by kernel_rfl) (by kernel_rfl) ?_
        refine wpList_nil ?_
        refine hKc _ _ ?_
        simp only [Act.put, List.setIfInBounds_toArray, List.set_cons_zero, List.set_cons_succ]
        clear hKc HT c2' HQ
        generalize w4.setCells g2 (off2 + i * 42) zeroM.cs.toList = w5 at *
        generalize zeroM.cs = zc at *
        go_wp2
        go_ret
        exact ⟨rfl, _, _, HFIN.out⟩
end Go.Proofs.Ytekkckfoikpljaa
