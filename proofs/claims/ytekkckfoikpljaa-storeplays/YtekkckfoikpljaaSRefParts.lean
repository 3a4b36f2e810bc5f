/-
  store, the reference: Parts, of numbers that were passed.
-/
import Derived.Test.YtekkckfoikpljaaSRefPartsA
namespace Go.Proofs.Ytekkckfoikpljaa
set_option linter.unusedVariables false
set_option linter.unusedSimpArgs false
open Go.RowKit Go.Great

theorem eq2_run {op : Oper} {a : Act} {x : Nat} (y : Operand) (ho : op.op = .binOp .eql 3 y (.const (.int .i64 2)) 3) (hy : a.eval y = .int .i64 (x : Int)) (w : World) : (execOp a.eval op).run Try.prog w = .ok (.value (.bool (x == 2))) w := by
  have h : ((x : Int) = 2) ↔ x = 2 := by omega
  unfold execOp
  simp only [ho, hy]
  by_cases hx : x = 2
  · subst hx
    go_simp
  · have h1 : ¬ (x : Int) = 2 := by omega
    have h2 : (x == 2) = false := by simpa using hx
    rw [h2]
    go_simp
set_option maxRecDepth 100000 in
set_option maxHeartbeats 8000000 in
theorem refParts_yes {w : World} {p K : Nat} {ev : List (Option Msg)} {vW vL : Value} (a b : Nat) (z2 : Int) (h : RfAt w p K (cdL K ev) (mgL K ev) vW vL) (hn : ev.length ≤ 900000000) (ha : 1 ≤ a) (hab : a ≤ b) (hb : b ≤ ev.length) (hz2 : z2 = b ∨ z2 = 0 ∧ b = ev.length) :
    Calls Try.prog 36 #[.pointer (some ⟨p, 0, none⟩), .int .i64 (a : Int), .int .i64 z2] w fun e w' => ∃ v, e = .returned (.tuple #[v, .int .i64 0]) ∧ RowAt w' 36 45 v (prt K ev a b).length (flatL ptL (prt K ev a b)) ∧ Below w.heap.size w w' ∧ ∀ g, v.ownBlock = some g → w.heap.size ≤ g := by
  obtain ⟨-, c1, -⟩ := h.blk.at
  obtain ⟨g1, o1, cap1, cur1, rfl, -⟩ := h.what.more (by rw [cdL_len]; omega)
  have HALL : Hid (RfAt w p K (cdL K ev) (mgL K ev) (.slice (some ⟨g1, o1, none⟩) (cdL K ev).length cap1) vL ∧ True) := ⟨h, trivial⟩
  have HCW : Hid (g1 < w.heap.size ∧ ∀ u, u < ev.length → w.cell? ⟨g1, o1 + u, none⟩ = some (.int .i64 ((cd K ev (u + 1) : Nat) : Int))) :=
    ⟨(h.what.lt (g := g1) rfl).1, fun u hu => h.what.cell rfl (by have := flatL_get (f := cdV) cdV_len (cdL_get (K := K) hu) (k := 0) (by decide); rw [Nat.mul_one, Nat.add_zero] at this; rw [this]; rfl)⟩
  rw [cdL_len] at c1
  have HC1 : Hid (w.cell? ⟨p, 1, none⟩ = some (.slice (some ⟨g1, o1, none⟩) ev.length cap1)) := c1
  have HEV : Hid (ev.length ≤ 900000000 ∧ b ≤ ev.length) := ⟨hn, hb⟩
  clear h
  have hbn : ¬ (ev.length : Int) < (b : Int) := by omega
  have ha' : ¬ (a : Int) < 1 := by omega
  have hab2 : ¬ (b : Int) < (a : Int) := by omega
  show Calls _ _ _ _ _
  rw [show prt K ev a b = gr (cd K ev) (mm K ev) a (b + 1 - a) from rfl]
  rcases hz2 with hz2 | ⟨hz2, hz3⟩
  · subst hz2
    have hbz : ¬ (b : Int) = 0 := by omega
    go_enter Try.func36, Try.ntmps36
    go_wp2
    clear c1
    go_loopw [8, 9, 10, 11] (fun x8 x9 _ _ wr => ∃ (s np : Nat) (ao : Option Addr) (cp : Nat), a ≤ s ∧ s ≤ b + 1 ∧ x9 = .int .i64 (s : Int) ∧ x8 = .slice ao np cp ∧ Hid (PS w wr (.slice ao np cp) np (gr (cd K ev) (mm K ev) a (s - a)))) (fun _ x9 _ _ _ => b + 1 - (intOf x9).toNat)
    case atStart => exact ⟨a, 0, none, 0, Nat.le_refl _, by omega, rfl, rfl, by rw [Nat.sub_self]; exact ⟨rfl, RowAt.none0 _ _ _, Below.refl _ _, fun g hg => by cases hg⟩⟩
    case round =>
      obtain ⟨s, np, ao, cp, has, hsb, rfl, rfl, HPS⟩ := hrel
      by_cases hlt : s ≤ b
      · have hlt' : (s : Int) ≤ (b : Int) := by omega
        obtain ⟨t, hts⟩ : ∃ t, t + 1 = s := ⟨s - 1, by omega⟩
        have hsw : IntKind.i64.wrap ((s : Int) + 1) = (s : Int) + 1 := by rw [IntKind.wrap_i64]; have := HEV.out; omega
        have hs1 : (s : Int) - 1 = (t : Int) := by omega
        have htw : IntKind.i64.wrap (t : Int) = (t : Int) := by rw [IntKind.wrap_i64]; have := HEV.out; omega
        have hnpb : np ≤ 10000000000 := by have := gr_len (c := cd K ev) (g := mm K ev) a (s - a); rw [HPS.out.len] at this; have := HEV.out; omega
        have hnpw : IntKind.i64.wrap ((np : Int) - 1) = (np : Int) - 1 := by rw [IntKind.wrap_i64]; omega
        obtain ⟨x, hx⟩ : ∃ x, cd K ev s = x := ⟨_, rfl⟩
        have c1 : wr.cell? ⟨p, 1, none⟩ = some (.slice (some ⟨g1, o1, none⟩) ev.length cap1) := (HPS.out.below.cell HALL.out.1.blk.lt).trans HC1.out
        have HCC : Hid (∀ u : Nat, u < ev.length → wr.cell? ⟨g1, o1 + u, none⟩ = some (.int .i64 ((cd K ev (u + 1) : Nat) : Int))) := fun u hu => (HPS.out.below.cell HCW.out.1).trans (HCW.out.2 u hu)
        have cx : wr.cell? ⟨g1, o1 + t, none⟩ = some (.int .i64 (x : Int)) := by rw [← hx, ← hts]; exact HCC.out t (by have := HEV.out; omega)
        have htn' : (t : Int) < (ev.length : Int) := by have := HEV.out; omega
        by_cases hx1 : x = 1
        · subst hx1
          have HCOND : Hid (¬ (cd K ev s ≠ 1 ∧ 0 < s - a ∧ cd K ev (s - 1) = cd K ev s)) := fun h => h.1 hx
          go_upto_region 15 with fail
          obtain ⟨mg, hmg⟩ : ∃ mg, mg = (mm K ev s).getD zeroM := ⟨_, rfl⟩
          have hgm : (mgL K ev)[t]? = some mg := by rw [mgL_get (by have := HEV.out; omega), hts, hmg]
          have hLr := HALL.out.1.msgs.keep fun g hg => HPS.out.below.block g (HALL.out.1.msgs.lt hg).1
          obtain ⟨g2, o2, c2', cur2, e1, -⟩ := hLr.more (by rw [cdL_len]; have := HEV.out; omega)
          rw [e1] at hLr
          have HRG : Hid (wr.rangeAt g2 (o2 + t * 42) mg.cs.toList) := fun j u hu => by
            have hj : j < 42 := by have := (List.getElem?_eq_some_iff.1 hu).1; rw [mg.cs_len] at this; exact this
            rw [Nat.add_assoc]
            exact hLr.cell rfl (by rw [flatL_get msgV_len hgm hj]; exact hu)
          have cl2 : wr.cell? ⟨p, 2, none⟩ = some (.slice (some ⟨g2, o2, none⟩) (cdL K ev).length c2') := ((HPS.out.below.cell HALL.out.1.blk.lt).trans HALL.out.1.blk.at.2.2).trans (by rw [e1])
          have htn : t < (cdL K ev).length := by rw [cdL_len]; have := HEV.out; omega
          have HPT : Hid (gr (cd K ev) (mm K ev) a (s + 1 - a) = gr (cd K ev) (mm K ev) a (s - a) ++ [(⟨s, s, (1 : Nat) == 2, mm K ev s⟩ : Pt Msg)] ∧ ptL (⟨s, s, (1 : Nat) == 2, mm K ev s⟩ : Pt Msg) = [.int .i64 (s : Int), .int .i64 (s : Int), .bool ((1 : Nat) == 2)] ++ mg.cs.toList) := by
            refine ⟨?_, by unfold ptL ptM; rw [← hmg]⟩
            rw [show s + 1 - a = s - a + 1 by omega, gr, show a + (s - a) = s by omega, if_neg HCOND.out, hx]
          generalize (⟨s, s, (1 : Nat) == 2, mm K ev s⟩ : Pt Msg) = PP at *
          have HX0 : Hid _ := HPS.out.own (ptL PP).toArray 36
          have HNP : Hid (np ≤ 10000000000) := hnpb
          clear hLr e1 hgm
          rename_i Kc hKc
          refine wp_region_lit ?_
          refine wpList_runTo rfl (some 79) rfl (.slice ao np cp) wr (by kernel_rfl) ?_
          simp only [Act.put, List.setIfInBounds_toArray, List.set_cons_zero, List.set_cons_succ]
          refine wpList_runTo rfl (some 80) rfl (.int .i64 (s : Int)) wr (by kernel_rfl) ?_
          simp only [Act.put, List.setIfInBounds_toArray, List.set_cons_zero, List.set_cons_succ]
          refine wpList_runTo rfl (some 81) rfl (.int .i64 (s : Int)) wr (by kernel_rfl) ?_
          simp only [Act.put, List.setIfInBounds_toArray, List.set_cons_zero, List.set_cons_succ]
          refine wpList_runTo rfl (some 82) rfl (.int .i64 ((1 : Nat) : Int)) wr (by kernel_rfl) ?_
          simp only [Act.put, List.setIfInBounds_toArray, List.set_cons_zero, List.set_cons_succ]
          refine wpList_runTo rfl (some 83) rfl (.bool ((1 : Nat) == 2)) wr (by exact eq2_run (.tmp 82) rfl rfl wr) ?_
          simp only [Act.put, List.setIfInBounds_toArray, List.set_cons_zero, List.set_cons_succ]
          refine wpList_runTo rfl (some 84) rfl (.pointer (some ⟨p, 0, none⟩)) wr (by kernel_rfl) ?_
          simp only [Act.put, List.setIfInBounds_toArray, List.set_cons_zero, List.set_cons_succ]
          refine wpList_runTo rfl (some 85) rfl (.pointer (some ⟨p, 0, none⟩)) wr (by kernel_rfl) ?_
          simp only [Act.put, List.setIfInBounds_toArray, List.set_cons_zero, List.set_cons_succ]
          refine wpList_runTo rfl (some 86) rfl (.pointer (some ⟨p, 2, none⟩)) wr (by kernel_rfl) ?_
          simp only [Act.put, List.setIfInBounds_toArray, List.set_cons_zero, List.set_cons_succ]
          refine wpList_runTo rfl (some 87) rfl (.slice (some ⟨g2, o2, none⟩) (cdL K ev).length c2') wr (by go_simp) ?_
          simp only [Act.put, List.setIfInBounds_toArray, List.set_cons_zero, List.set_cons_succ]
          refine wpList_runTo rfl (some 88) rfl (.int .i64 (s : Int)) wr (by kernel_rfl) ?_
          simp only [Act.put, List.setIfInBounds_toArray, List.set_cons_zero, List.set_cons_succ]
          refine wpList_runTo rfl (some 89) rfl (.int .i64 (t : Int)) wr (by go_simp) ?_
          simp only [Act.put, List.setIfInBounds_toArray, List.set_cons_zero, List.set_cons_succ]
          refine wpList_runTo rfl (some 90) rfl (.pointer (some ⟨g2, o2 + t * 42, none⟩)) wr (by exact ixM_run (.tmp 87) (.tmp 89) rfl rfl rfl htn wr) ?_
          simp only [Act.put, List.setIfInBounds_toArray, List.set_cons_zero, List.set_cons_succ]
          refine wpList_load_mid rfl 34 (.tmp 90) rfl g2 (o2 + t * 42) (by kernel_rfl) mg.cs.toList _ HRG.out Try.underlying34 rfl (by rw [mg.cs_len]; kernel_rfl) ?_
          rw [show mg.cs.toList.toArray = mg.cs by simp]
          simp only [Act.put, List.setIfInBounds_toArray, List.set_cons_zero, List.set_cons_succ]
          refine wpList_runTo rfl (some 92) rfl (.agg ([Value.int .i64 (s : Int), Value.int .i64 (s : Int), Value.bool ((1 : Nat) == 2)] ++ mg.cs.toList).toArray) wr (by kernel_rfl) ?_
          simp only [Act.put, List.setIfInBounds_toArray, List.set_cons_zero, List.set_cons_succ]
          rw [← HPT.out.2]
          refine wpList_runTo rfl (some 93) rfl (.slice (some ⟨wr.heap.size, 0, none⟩) 1 1) (wr.alloc (.cells (ptL PP).toArray 36)) (by kernel_rfl) ?_
          simp only [Act.put, List.setIfInBounds_toArray, List.set_cons_zero, List.set_cons_succ]
          obtain ⟨v8, w8, hrun, hx8⟩ := HX0.out.app PP HX0.out.own HNP.out
          refine wpList_runTo rfl (some 94) rfl v8 w8 (exec_append (.tmp 79) (.tmp 93) 29 rfl (by kernel_rfl) (by kernel_rfl) hrun) ?_
          simp only [Act.put, List.setIfInBounds_toArray, List.set_cons_zero, List.set_cons_succ]
          refine wpList_runTo rfl (some 8) rfl (v8) w8 (by kernel_rfl) ?_
          simp only [Act.put, List.setIfInBounds_toArray, List.set_cons_zero, List.set_cons_succ]
          refine wpList_nil ?_
          refine hKc _ _ ?_
          have HX8 : Hid (PS w w8 v8 (gr (cd K ev) (mm K ev) a (s - a) ++ [PP]).length (gr (cd K ev) (mm K ev) a (s - a) ++ [PP])) := hx8.ps
          obtain ⟨ao8, cp8, rfl, -⟩ := hx8.ps.row.form
          clear hKc hx8 hrun HX0 HRG cl2 cx HCOND
          rw [← HPT.out.1] at HX8 ⊢
          clear HPT
          generalize (gr (cd K ev) (mm K ev) a (s + 1 - a)).length = np8 at *
          generalize (ptL PP).toArray = pq at *
          generalize mg.cs = csq at *
          go_wp2
          go_roundw
          case rel => exact ⟨s + 1, np8, ao8, cp8, by omega, by omega, by go_num, rfl, HX8.out⟩
          case measure => simp [intOf]; omega
        · have hx1' : ¬ (x : Int) = 1 := by omega
          by_cases hsa : s = a
          · have hsa' : ¬ (a : Int) < (s : Int) := by omega
            have HCOND : Hid (¬ (cd K ev s ≠ 1 ∧ 0 < s - a ∧ cd K ev (s - 1) = cd K ev s)) := fun h => by have := h.2.1; omega
            clear hsa
            go_upto_region 15 with fail
            obtain ⟨mg, hmg⟩ : ∃ mg, mg = (mm K ev s).getD zeroM := ⟨_, rfl⟩
            have hgm : (mgL K ev)[t]? = some mg := by rw [mgL_get (by have := HEV.out; omega), hts, hmg]
            have hLr := HALL.out.1.msgs.keep fun g hg => HPS.out.below.block g (HALL.out.1.msgs.lt hg).1
            obtain ⟨g2, o2, c2', cur2, e1, -⟩ := hLr.more (by rw [cdL_len]; have := HEV.out; omega)
            rw [e1] at hLr
            have HRG : Hid (wr.rangeAt g2 (o2 + t * 42) mg.cs.toList) := fun j u hu => by
              have hj : j < 42 := by have := (List.getElem?_eq_some_iff.1 hu).1; rw [mg.cs_len] at this; exact this
              rw [Nat.add_assoc]
              exact hLr.cell rfl (by rw [flatL_get msgV_len hgm hj]; exact hu)
            have cl2 : wr.cell? ⟨p, 2, none⟩ = some (.slice (some ⟨g2, o2, none⟩) (cdL K ev).length c2') := ((HPS.out.below.cell HALL.out.1.blk.lt).trans HALL.out.1.blk.at.2.2).trans (by rw [e1])
            have htn : t < (cdL K ev).length := by rw [cdL_len]; have := HEV.out; omega
            have HPT : Hid (gr (cd K ev) (mm K ev) a (s + 1 - a) = gr (cd K ev) (mm K ev) a (s - a) ++ [(⟨s, s, x == 2, mm K ev s⟩ : Pt Msg)] ∧ ptL (⟨s, s, x == 2, mm K ev s⟩ : Pt Msg) = [.int .i64 (s : Int), .int .i64 (s : Int), .bool (x == 2)] ++ mg.cs.toList) := by
              refine ⟨?_, by unfold ptL ptM; rw [← hmg]⟩
              rw [show s + 1 - a = s - a + 1 by omega, gr, show a + (s - a) = s by omega, if_neg HCOND.out, hx]
            generalize (⟨s, s, x == 2, mm K ev s⟩ : Pt Msg) = PP at *
            have HX0 : Hid _ := HPS.out.own (ptL PP).toArray 36
            have HNP : Hid (np ≤ 10000000000) := hnpb
            clear hLr e1 hgm
            rename_i Kc hKc
            refine wp_region_lit ?_
            refine wpList_runTo rfl (some 79) rfl (.slice ao np cp) wr (by kernel_rfl) ?_
            simp only [Act.put, List.setIfInBounds_toArray, List.set_cons_zero, List.set_cons_succ]
            refine wpList_runTo rfl (some 80) rfl (.int .i64 (s : Int)) wr (by kernel_rfl) ?_
            simp only [Act.put, List.setIfInBounds_toArray, List.set_cons_zero, List.set_cons_succ]
            refine wpList_runTo rfl (some 81) rfl (.int .i64 (s : Int)) wr (by kernel_rfl) ?_
            simp only [Act.put, List.setIfInBounds_toArray, List.set_cons_zero, List.set_cons_succ]
            refine wpList_runTo rfl (some 82) rfl (.int .i64 (x : Int)) wr (by kernel_rfl) ?_
            simp only [Act.put, List.setIfInBounds_toArray, List.set_cons_zero, List.set_cons_succ]
            refine wpList_runTo rfl (some 83) rfl (.bool (x == 2)) wr (by exact eq2_run (.tmp 82) rfl rfl wr) ?_
            simp only [Act.put, List.setIfInBounds_toArray, List.set_cons_zero, List.set_cons_succ]
            refine wpList_runTo rfl (some 84) rfl (.pointer (some ⟨p, 0, none⟩)) wr (by kernel_rfl) ?_
            simp only [Act.put, List.setIfInBounds_toArray, List.set_cons_zero, List.set_cons_succ]
            refine wpList_runTo rfl (some 85) rfl (.pointer (some ⟨p, 0, none⟩)) wr (by kernel_rfl) ?_
            simp only [Act.put, List.setIfInBounds_toArray, List.set_cons_zero, List.set_cons_succ]
            refine wpList_runTo rfl (some 86) rfl (.pointer (some ⟨p, 2, none⟩)) wr (by kernel_rfl) ?_
            simp only [Act.put, List.setIfInBounds_toArray, List.set_cons_zero, List.set_cons_succ]
            refine wpList_runTo rfl (some 87) rfl (.slice (some ⟨g2, o2, none⟩) (cdL K ev).length c2') wr (by go_simp) ?_
            simp only [Act.put, List.setIfInBounds_toArray, List.set_cons_zero, List.set_cons_succ]
            refine wpList_runTo rfl (some 88) rfl (.int .i64 (s : Int)) wr (by kernel_rfl) ?_
            simp only [Act.put, List.setIfInBounds_toArray, List.set_cons_zero, List.set_cons_succ]
            refine wpList_runTo rfl (some 89) rfl (.int .i64 (t : Int)) wr (by go_simp) ?_
            simp only [Act.put, List.setIfInBounds_toArray, List.set_cons_zero, List.set_cons_succ]
            refine wpList_runTo rfl (some 90) rfl (.pointer (some ⟨g2, o2 + t * 42, none⟩)) wr (by exact ixM_run (.tmp 87) (.tmp 89) rfl rfl rfl htn wr) ?_
            simp only [Act.put, List.setIfInBounds_toArray, List.set_cons_zero, List.set_cons_succ]
            refine wpList_load_mid rfl 34 (.tmp 90) rfl g2 (o2 + t * 42) (by kernel_rfl) mg.cs.toList _ HRG.out Try.underlying34 rfl (by rw [mg.cs_len]; kernel_rfl) ?_
            rw [show mg.cs.toList.toArray = mg.cs by simp]
            simp only [Act.put, List.setIfInBounds_toArray, List.set_cons_zero, List.set_cons_succ]
            refine wpList_runTo rfl (some 92) rfl (.agg ([Value.int .i64 (s : Int), Value.int .i64 (s : Int), Value.bool (x == 2)] ++ mg.cs.toList).toArray) wr (by kernel_rfl) ?_
            simp only [Act.put, List.setIfInBounds_toArray, List.set_cons_zero, List.set_cons_succ]
            rw [← HPT.out.2]
            refine wpList_runTo rfl (some 93) rfl (.slice (some ⟨wr.heap.size, 0, none⟩) 1 1) (wr.alloc (.cells (ptL PP).toArray 36)) (by kernel_rfl) ?_
            simp only [Act.put, List.setIfInBounds_toArray, List.set_cons_zero, List.set_cons_succ]
            obtain ⟨v8, w8, hrun, hx8⟩ := HX0.out.app PP HX0.out.own HNP.out
            refine wpList_runTo rfl (some 94) rfl v8 w8 (exec_append (.tmp 79) (.tmp 93) 29 rfl (by kernel_rfl) (by kernel_rfl) hrun) ?_
            simp only [Act.put, List.setIfInBounds_toArray, List.set_cons_zero, List.set_cons_succ]
            refine wpList_runTo rfl (some 8) rfl (v8) w8 (by kernel_rfl) ?_
            simp only [Act.put, List.setIfInBounds_toArray, List.set_cons_zero, List.set_cons_succ]
            refine wpList_nil ?_
            refine hKc _ _ ?_
            have HX8 : Hid (PS w w8 v8 (gr (cd K ev) (mm K ev) a (s - a) ++ [PP]).length (gr (cd K ev) (mm K ev) a (s - a) ++ [PP])) := hx8.ps
            obtain ⟨ao8, cp8, rfl, -⟩ := hx8.ps.row.form
            clear hKc hx8 hrun HX0 HRG cl2 cx HCOND
            rw [← HPT.out.1] at HX8 ⊢
            clear HPT
            generalize (gr (cd K ev) (mm K ev) a (s + 1 - a)).length = np8 at *
            generalize (ptL PP).toArray = pq at *
            generalize mg.cs = csq at *
            go_wp2
            go_roundw
            case rel => exact ⟨s + 1, np8, ao8, cp8, by omega, by omega, by go_num, rfl, HX8.out⟩
            case measure => simp [intOf]; omega
          · have hsa' : (a : Int) < (s : Int) := by omega
            obtain ⟨u, hut⟩ : ∃ u, u + 1 = t := ⟨t - 1, by omega⟩
            have hs2 : (s : Int) - 2 = (u : Int) := by omega
            have huw : IntKind.i64.wrap (u : Int) = (u : Int) := by rw [IntKind.wrap_i64]; have := HEV.out; omega
            obtain ⟨y, hy⟩ : ∃ y, cd K ev t = y := ⟨_, rfl⟩
            have cy : wr.cell? ⟨g1, o1 + u, none⟩ = some (.int .i64 (y : Int)) := by rw [← hy, ← hut]; exact HCC.out u (by have := HEV.out; omega)
            have hun : (u : Int) < (ev.length : Int) := by have := HEV.out; omega
            by_cases hyx : y = x
            · have hyx' : (y : Int) = (x : Int) := by omega
              go_upto_region 14 with fail
              obtain ⟨ini, pl, hg1, hg2, hg3⟩ := gr_last (c := cd K ev) (g := mm K ev) a (s - a - 1)
              rw [show s - a - 1 + 1 = s - a by omega] at hg1
              obtain ⟨q, hq⟩ : ∃ q, ini.length = q := ⟨_, rfl⟩
              have hnq : np = q + 1 := by have h1 := HPS.out.len; rw [hg1, List.length_append, List.length_singleton] at h1; omega
              subst hnq
              have hrow := HPS.out.row
              obtain ⟨go, oo, cp', curo, e1, -⟩ := hrow.more (by omega)
              injection e1 with e1 _ e2
              subst e1
              clear e2
              have hgl : (gr (cd K ev) (mm K ev) a (s - a))[q]? = some pl := by rw [hg1, ← hq]; exact get_snoc_last ini pl
              have clq : wr.cell? ⟨go, oo + (q * 45 + 1), none⟩ = some (.int .i64 (pl.to : Int)) := hrow.cell rfl (by rw [flatL_get ptL_len hgl (by decide)]; rfl)
              have fzq := hrow.frozen rfl (oo + (q * 45 + 1))
              have hgs : gr (cd K ev) (mm K ev) a (s + 1 - a) = ini ++ [(⟨pl.fr, s, pl.lost, pl.m⟩ : Pt Msg)] := by
                rw [show s + 1 - a = s - a + 1 by omega, gr, show a + (s - a) = s by omega, if_pos ⟨by rw [hx]; exact hx1, by omega, by rw [show s - 1 = t by omega, hy, hx]; exact hyx⟩, hg1, setTo_snoc]
              have HFIN : Hid (PS w (wr.setCell ⟨go, oo + (q * 45 + 1), none⟩ (.int .i64 (s : Int))) (.slice (some ⟨go, oo, none⟩) (q + 1) cp) (q + 1) (gr (cd K ev) (mm K ev) a (s + 1 - a))) := by
                have hset : Fr wr (wr.setCell ⟨go, oo + (q * 45 + 1), none⟩ (.int .i64 (s : Int))) (fun b => b = go) := Fr.setCell _ _ _ _ rfl
                refine ⟨by rw [hgs, List.length_append, List.length_singleton, hq], ?_, HPS.out.below.trans (hset.below HPS.out.below.size fun b hb e => by have := HPS.out.new go rfl; omega), HPS.out.new⟩
                have h1 := hrow.setJ (j := q * 45 + 1) (by rw [hg1, flatL_len ptL_len, List.length_append, List.length_singleton, hq, Nat.add_mul]; omega) (.int .i64 (s : Int))
                have hA : (flatL ptL ini).length = q * 45 := by rw [flatL_len ptL_len, hq]
                rw [hg1, flatL_app, flatL_one, List.set_append_right _ _ (by omega), hA, show q * 45 + 1 - q * 45 = 1 by omega] at h1
                rw [hgs, flatL_app, flatL_one]
                exact h1
              rw [← Nat.add_assoc] at clq fzq HFIN
              have hq1 : ((q + 1 : Nat) : Int) - 1 = (q : Int) := by omega
              have hq2 : (q : Int) < (q : Int) + 1 := by omega
              have hq3 : (q : Int) + 1 - 1 = (q : Int) := by omega
              clear hgs hgl hrow hg1 hg2 hg3 hq cx cy HPS
              go_wp2
              go_roundw
              case rel => exact ⟨s + 1, q + 1, some ⟨go, oo, none⟩, cp, by omega, by omega, by go_num, rfl, HFIN.out⟩
              case measure => simp [intOf]; omega
            · have hyx' : ¬ (y : Int) = (x : Int) := by omega
              have HCOND : Hid (¬ (cd K ev s ≠ 1 ∧ 0 < s - a ∧ cd K ev (s - 1) = cd K ev s)) := fun h => hyx (by rw [← hy, ← hx, ← h.2.2, ← hts]; rfl)
              have hyx2 : (y == x) = false := by simpa using hyx
              have hyx3 : ((y : Int) == (x : Int)) = false := by simpa using hyx'
              go_upto_region 15 with fail
              clear cy
              obtain ⟨mg, hmg⟩ : ∃ mg, mg = (mm K ev s).getD zeroM := ⟨_, rfl⟩
              have hgm : (mgL K ev)[t]? = some mg := by rw [mgL_get (by have := HEV.out; omega), hts, hmg]
              have hLr := HALL.out.1.msgs.keep fun g hg => HPS.out.below.block g (HALL.out.1.msgs.lt hg).1
              obtain ⟨g2, o2, c2', cur2, e1, -⟩ := hLr.more (by rw [cdL_len]; have := HEV.out; omega)
              rw [e1] at hLr
              have HRG : Hid (wr.rangeAt g2 (o2 + t * 42) mg.cs.toList) := fun j u hu => by
                have hj : j < 42 := by have := (List.getElem?_eq_some_iff.1 hu).1; rw [mg.cs_len] at this; exact this
                rw [Nat.add_assoc]
                exact hLr.cell rfl (by rw [flatL_get msgV_len hgm hj]; exact hu)
              have cl2 : wr.cell? ⟨p, 2, none⟩ = some (.slice (some ⟨g2, o2, none⟩) (cdL K ev).length c2') := ((HPS.out.below.cell HALL.out.1.blk.lt).trans HALL.out.1.blk.at.2.2).trans (by rw [e1])
              have htn : t < (cdL K ev).length := by rw [cdL_len]; have := HEV.out; omega
              have HPT : Hid (gr (cd K ev) (mm K ev) a (s + 1 - a) = gr (cd K ev) (mm K ev) a (s - a) ++ [(⟨s, s, x == 2, mm K ev s⟩ : Pt Msg)] ∧ ptL (⟨s, s, x == 2, mm K ev s⟩ : Pt Msg) = [.int .i64 (s : Int), .int .i64 (s : Int), .bool (x == 2)] ++ mg.cs.toList) := by
                refine ⟨?_, by unfold ptL ptM; rw [← hmg]⟩
                rw [show s + 1 - a = s - a + 1 by omega, gr, show a + (s - a) = s by omega, if_neg HCOND.out, hx]
              generalize (⟨s, s, x == 2, mm K ev s⟩ : Pt Msg) = PP at *
              have HX0 : Hid _ := HPS.out.own (ptL PP).toArray 36
              have HNP : Hid (np ≤ 10000000000) := hnpb
              clear hLr e1 hgm
              rename_i Kc hKc
              refine wp_region_lit ?_
              refine wpList_runTo rfl (some 79) rfl (.slice ao np cp) wr (by kernel_rfl) ?_
              simp only [Act.put, List.setIfInBounds_toArray, List.set_cons_zero, List.set_cons_succ]
              refine wpList_runTo rfl (some 80) rfl (.int .i64 (s : Int)) wr (by kernel_rfl) ?_
              simp only [Act.put, List.setIfInBounds_toArray, List.set_cons_zero, List.set_cons_succ]
              refine wpList_runTo rfl (some 81) rfl (.int .i64 (s : Int)) wr (by kernel_rfl) ?_
              simp only [Act.put, List.setIfInBounds_toArray, List.set_cons_zero, List.set_cons_succ]
              refine wpList_runTo rfl (some 82) rfl (.int .i64 (x : Int)) wr (by kernel_rfl) ?_
              simp only [Act.put, List.setIfInBounds_toArray, List.set_cons_zero, List.set_cons_succ]
              refine wpList_runTo rfl (some 83) rfl (.bool (x == 2)) wr (by exact eq2_run (.tmp 82) rfl rfl wr) ?_
              simp only [Act.put, List.setIfInBounds_toArray, List.set_cons_zero, List.set_cons_succ]
              refine wpList_runTo rfl (some 84) rfl (.pointer (some ⟨p, 0, none⟩)) wr (by kernel_rfl) ?_
              simp only [Act.put, List.setIfInBounds_toArray, List.set_cons_zero, List.set_cons_succ]
              refine wpList_runTo rfl (some 85) rfl (.pointer (some ⟨p, 0, none⟩)) wr (by kernel_rfl) ?_
              simp only [Act.put, List.setIfInBounds_toArray, List.set_cons_zero, List.set_cons_succ]
              refine wpList_runTo rfl (some 86) rfl (.pointer (some ⟨p, 2, none⟩)) wr (by kernel_rfl) ?_
              simp only [Act.put, List.setIfInBounds_toArray, List.set_cons_zero, List.set_cons_succ]
              refine wpList_runTo rfl (some 87) rfl (.slice (some ⟨g2, o2, none⟩) (cdL K ev).length c2') wr (by go_simp) ?_
              simp only [Act.put, List.setIfInBounds_toArray, List.set_cons_zero, List.set_cons_succ]
              refine wpList_runTo rfl (some 88) rfl (.int .i64 (s : Int)) wr (by kernel_rfl) ?_
              simp only [Act.put, List.setIfInBounds_toArray, List.set_cons_zero, List.set_cons_succ]
              refine wpList_runTo rfl (some 89) rfl (.int .i64 (t : Int)) wr (by go_simp) ?_
              simp only [Act.put, List.setIfInBounds_toArray, List.set_cons_zero, List.set_cons_succ]
              refine wpList_runTo rfl (some 90) rfl (.pointer (some ⟨g2, o2 + t * 42, none⟩)) wr (by exact ixM_run (.tmp 87) (.tmp 89) rfl rfl rfl htn wr) ?_
              simp only [Act.put, List.setIfInBounds_toArray, List.set_cons_zero, List.set_cons_succ]
              refine wpList_load_mid rfl 34 (.tmp 90) rfl g2 (o2 + t * 42) (by kernel_rfl) mg.cs.toList _ HRG.out Try.underlying34 rfl (by rw [mg.cs_len]; kernel_rfl) ?_
              rw [show mg.cs.toList.toArray = mg.cs by simp]
              simp only [Act.put, List.setIfInBounds_toArray, List.set_cons_zero, List.set_cons_succ]
              refine wpList_runTo rfl (some 92) rfl (.agg ([Value.int .i64 (s : Int), Value.int .i64 (s : Int), Value.bool (x == 2)] ++ mg.cs.toList).toArray) wr (by kernel_rfl) ?_
              simp only [Act.put, List.setIfInBounds_toArray, List.set_cons_zero, List.set_cons_succ]
              rw [← HPT.out.2]
              refine wpList_runTo rfl (some 93) rfl (.slice (some ⟨wr.heap.size, 0, none⟩) 1 1) (wr.alloc (.cells (ptL PP).toArray 36)) (by kernel_rfl) ?_
              simp only [Act.put, List.setIfInBounds_toArray, List.set_cons_zero, List.set_cons_succ]
              obtain ⟨v8, w8, hrun, hx8⟩ := HX0.out.app PP HX0.out.own HNP.out
              refine wpList_runTo rfl (some 94) rfl v8 w8 (exec_append (.tmp 79) (.tmp 93) 29 rfl (by kernel_rfl) (by kernel_rfl) hrun) ?_
              simp only [Act.put, List.setIfInBounds_toArray, List.set_cons_zero, List.set_cons_succ]
              refine wpList_runTo rfl (some 8) rfl (v8) w8 (by kernel_rfl) ?_
              simp only [Act.put, List.setIfInBounds_toArray, List.set_cons_zero, List.set_cons_succ]
              refine wpList_nil ?_
              refine hKc _ _ ?_
              have HX8 : Hid (PS w w8 v8 (gr (cd K ev) (mm K ev) a (s - a) ++ [PP]).length (gr (cd K ev) (mm K ev) a (s - a) ++ [PP])) := hx8.ps
              obtain ⟨ao8, cp8, rfl, -⟩ := hx8.ps.row.form
              clear hKc hx8 hrun HX0 HRG cl2 cx HCOND
              rw [← HPT.out.1] at HX8 ⊢
              clear HPT
              generalize (gr (cd K ev) (mm K ev) a (s + 1 - a)).length = np8 at *
              generalize (ptL PP).toArray = pq at *
              generalize mg.cs = csq at *
              go_wp2
              go_roundw
              case rel => exact ⟨s + 1, np8, ao8, cp8, by omega, by omega, by go_num, rfl, HX8.out⟩
              case measure => simp [intOf]; omega
      · obtain rfl : s = b + 1 := by omega
        have hlt' : ¬ (b : Int) + 1 ≤ (b : Int) := by omega
        go_wp2
        go_ret2
        exact ⟨_, rfl, by rw [HPS.out.len]; exact HPS.out.row, HPS.out.below, HPS.out.new⟩
  · subst hz2
    rw [← hz3] at c1
    have HC1 : Hid (w.cell? ⟨p, 1, none⟩ = some (.slice (some ⟨g1, o1, none⟩) b cap1)) := c1
    clear hz3 hbn
    go_enter Try.func36, Try.ntmps36
    go_wp2
    clear c1
    go_loopw [8, 9, 10, 11] (fun x8 x9 _ _ wr => ∃ (s np : Nat) (ao : Option Addr) (cp : Nat), a ≤ s ∧ s ≤ b + 1 ∧ x9 = .int .i64 (s : Int) ∧ x8 = .slice ao np cp ∧ Hid (PS w wr (.slice ao np cp) np (gr (cd K ev) (mm K ev) a (s - a)))) (fun _ x9 _ _ _ => b + 1 - (intOf x9).toNat)
    case atStart => exact ⟨a, 0, none, 0, Nat.le_refl _, by omega, rfl, rfl, by rw [Nat.sub_self]; exact ⟨rfl, RowAt.none0 _ _ _, Below.refl _ _, fun g hg => by cases hg⟩⟩
    case round =>
      obtain ⟨s, np, ao, cp, has, hsb, rfl, rfl, HPS⟩ := hrel
      by_cases hlt : s ≤ b
      · have hlt' : (s : Int) ≤ (b : Int) := by omega
        obtain ⟨t, hts⟩ : ∃ t, t + 1 = s := ⟨s - 1, by omega⟩
        have hsw : IntKind.i64.wrap ((s : Int) + 1) = (s : Int) + 1 := by rw [IntKind.wrap_i64]; have := HEV.out; omega
        have hs1 : (s : Int) - 1 = (t : Int) := by omega
        have htw : IntKind.i64.wrap (t : Int) = (t : Int) := by rw [IntKind.wrap_i64]; have := HEV.out; omega
        have hnpb : np ≤ 10000000000 := by have := gr_len (c := cd K ev) (g := mm K ev) a (s - a); rw [HPS.out.len] at this; have := HEV.out; omega
        have hnpw : IntKind.i64.wrap ((np : Int) - 1) = (np : Int) - 1 := by rw [IntKind.wrap_i64]; omega
        obtain ⟨x, hx⟩ : ∃ x, cd K ev s = x := ⟨_, rfl⟩
        have c1 : wr.cell? ⟨p, 1, none⟩ = some (.slice (some ⟨g1, o1, none⟩) b cap1) := (HPS.out.below.cell HALL.out.1.blk.lt).trans HC1.out
        have HCC : Hid (∀ u : Nat, u < ev.length → wr.cell? ⟨g1, o1 + u, none⟩ = some (.int .i64 ((cd K ev (u + 1) : Nat) : Int))) := fun u hu => (HPS.out.below.cell HCW.out.1).trans (HCW.out.2 u hu)
        have cx : wr.cell? ⟨g1, o1 + t, none⟩ = some (.int .i64 (x : Int)) := by rw [← hx, ← hts]; exact HCC.out t (by have := HEV.out; omega)
        have htn' : (t : Int) < (b : Int) := by have := HEV.out; omega
        by_cases hx1 : x = 1
        · subst hx1
          have HCOND : Hid (¬ (cd K ev s ≠ 1 ∧ 0 < s - a ∧ cd K ev (s - 1) = cd K ev s)) := fun h => h.1 hx
          go_upto_region 15 with fail
          obtain ⟨mg, hmg⟩ : ∃ mg, mg = (mm K ev s).getD zeroM := ⟨_, rfl⟩
          have hgm : (mgL K ev)[t]? = some mg := by rw [mgL_get (by have := HEV.out; omega), hts, hmg]
          have hLr := HALL.out.1.msgs.keep fun g hg => HPS.out.below.block g (HALL.out.1.msgs.lt hg).1
          obtain ⟨g2, o2, c2', cur2, e1, -⟩ := hLr.more (by rw [cdL_len]; have := HEV.out; omega)
          rw [e1] at hLr
          have HRG : Hid (wr.rangeAt g2 (o2 + t * 42) mg.cs.toList) := fun j u hu => by
            have hj : j < 42 := by have := (List.getElem?_eq_some_iff.1 hu).1; rw [mg.cs_len] at this; exact this
            rw [Nat.add_assoc]
            exact hLr.cell rfl (by rw [flatL_get msgV_len hgm hj]; exact hu)
          have cl2 : wr.cell? ⟨p, 2, none⟩ = some (.slice (some ⟨g2, o2, none⟩) (cdL K ev).length c2') := ((HPS.out.below.cell HALL.out.1.blk.lt).trans HALL.out.1.blk.at.2.2).trans (by rw [e1])
          have htn : t < (cdL K ev).length := by rw [cdL_len]; have := HEV.out; omega
          have HPT : Hid (gr (cd K ev) (mm K ev) a (s + 1 - a) = gr (cd K ev) (mm K ev) a (s - a) ++ [(⟨s, s, (1 : Nat) == 2, mm K ev s⟩ : Pt Msg)] ∧ ptL (⟨s, s, (1 : Nat) == 2, mm K ev s⟩ : Pt Msg) = [.int .i64 (s : Int), .int .i64 (s : Int), .bool ((1 : Nat) == 2)] ++ mg.cs.toList) := by
            refine ⟨?_, by unfold ptL ptM; rw [← hmg]⟩
            rw [show s + 1 - a = s - a + 1 by omega, gr, show a + (s - a) = s by omega, if_neg HCOND.out, hx]
          generalize (⟨s, s, (1 : Nat) == 2, mm K ev s⟩ : Pt Msg) = PP at *
          have HX0 : Hid _ := HPS.out.own (ptL PP).toArray 36
          have HNP : Hid (np ≤ 10000000000) := hnpb
          clear hLr e1 hgm
          rename_i Kc hKc
          refine wp_region_lit ?_
          refine wpList_runTo rfl (some 79) rfl (.slice ao np cp) wr (by kernel_rfl) ?_
          simp only [Act.put, List.setIfInBounds_toArray, List.set_cons_zero, List.set_cons_succ]
          refine wpList_runTo rfl (some 80) rfl (.int .i64 (s : Int)) wr (by kernel_rfl) ?_
          simp only [Act.put, List.setIfInBounds_toArray, List.set_cons_zero, List.set_cons_succ]
          refine wpList_runTo rfl (some 81) rfl (.int .i64 (s : Int)) wr (by kernel_rfl) ?_
          simp only [Act.put, List.setIfInBounds_toArray, List.set_cons_zero, List.set_cons_succ]
          refine wpList_runTo rfl (some 82) rfl (.int .i64 ((1 : Nat) : Int)) wr (by kernel_rfl) ?_
          simp only [Act.put, List.setIfInBounds_toArray, List.set_cons_zero, List.set_cons_succ]
          refine wpList_runTo rfl (some 83) rfl (.bool ((1 : Nat) == 2)) wr (by exact eq2_run (.tmp 82) rfl rfl wr) ?_
          simp only [Act.put, List.setIfInBounds_toArray, List.set_cons_zero, List.set_cons_succ]
          refine wpList_runTo rfl (some 84) rfl (.pointer (some ⟨p, 0, none⟩)) wr (by kernel_rfl) ?_
          simp only [Act.put, List.setIfInBounds_toArray, List.set_cons_zero, List.set_cons_succ]
          refine wpList_runTo rfl (some 85) rfl (.pointer (some ⟨p, 0, none⟩)) wr (by kernel_rfl) ?_
          simp only [Act.put, List.setIfInBounds_toArray, List.set_cons_zero, List.set_cons_succ]
          refine wpList_runTo rfl (some 86) rfl (.pointer (some ⟨p, 2, none⟩)) wr (by kernel_rfl) ?_
          simp only [Act.put, List.setIfInBounds_toArray, List.set_cons_zero, List.set_cons_succ]
          refine wpList_runTo rfl (some 87) rfl (.slice (some ⟨g2, o2, none⟩) (cdL K ev).length c2') wr (by go_simp) ?_
          simp only [Act.put, List.setIfInBounds_toArray, List.set_cons_zero, List.set_cons_succ]
          refine wpList_runTo rfl (some 88) rfl (.int .i64 (s : Int)) wr (by kernel_rfl) ?_
          simp only [Act.put, List.setIfInBounds_toArray, List.set_cons_zero, List.set_cons_succ]
          refine wpList_runTo rfl (some 89) rfl (.int .i64 (t : Int)) wr (by go_simp) ?_
          simp only [Act.put, List.setIfInBounds_toArray, List.set_cons_zero, List.set_cons_succ]
          refine wpList_runTo rfl (some 90) rfl (.pointer (some ⟨g2, o2 + t * 42, none⟩)) wr (by exact ixM_run (.tmp 87) (.tmp 89) rfl rfl rfl htn wr) ?_
          simp only [Act.put, List.setIfInBounds_toArray, List.set_cons_zero, List.set_cons_succ]
          refine wpList_load_mid rfl 34 (.tmp 90) rfl g2 (o2 + t * 42) (by kernel_rfl) mg.cs.toList _ HRG.out Try.underlying34 rfl (by rw [mg.cs_len]; kernel_rfl) ?_
          rw [show mg.cs.toList.toArray = mg.cs by simp]
          simp only [Act.put, List.setIfInBounds_toArray, List.set_cons_zero, List.set_cons_succ]
          refine wpList_runTo rfl (some 92) rfl (.agg ([Value.int .i64 (s : Int), Value.int .i64 (s : Int), Value.bool ((1 : Nat) == 2)] ++ mg.cs.toList).toArray) wr (by kernel_rfl) ?_
          simp only [Act.put, List.setIfInBounds_toArray, List.set_cons_zero, List.set_cons_succ]
          rw [← HPT.out.2]
          refine wpList_runTo rfl (some 93) rfl (.slice (some ⟨wr.heap.size, 0, none⟩) 1 1) (wr.alloc (.cells (ptL PP).toArray 36)) (by kernel_rfl) ?_
          simp only [Act.put, List.setIfInBounds_toArray, List.set_cons_zero, List.set_cons_succ]
          obtain ⟨v8, w8, hrun, hx8⟩ := HX0.out.app PP HX0.out.own HNP.out
          refine wpList_runTo rfl (some 94) rfl v8 w8 (exec_append (.tmp 79) (.tmp 93) 29 rfl (by kernel_rfl) (by kernel_rfl) hrun) ?_
          simp only [Act.put, List.setIfInBounds_toArray, List.set_cons_zero, List.set_cons_succ]
          refine wpList_runTo rfl (some 8) rfl (v8) w8 (by kernel_rfl) ?_
          simp only [Act.put, List.setIfInBounds_toArray, List.set_cons_zero, List.set_cons_succ]
          refine wpList_nil ?_
          refine hKc _ _ ?_
          have HX8 : Hid (PS w w8 v8 (gr (cd K ev) (mm K ev) a (s - a) ++ [PP]).length (gr (cd K ev) (mm K ev) a (s - a) ++ [PP])) := hx8.ps
          obtain ⟨ao8, cp8, rfl, -⟩ := hx8.ps.row.form
          clear hKc hx8 hrun HX0 HRG cl2 cx HCOND
          rw [← HPT.out.1] at HX8 ⊢
          clear HPT
          generalize (gr (cd K ev) (mm K ev) a (s + 1 - a)).length = np8 at *
          generalize (ptL PP).toArray = pq at *
          generalize mg.cs = csq at *
          go_wp2
          go_roundw
          case rel => exact ⟨s + 1, np8, ao8, cp8, by omega, by omega, by go_num, rfl, HX8.out⟩
          case measure => simp [intOf]; omega
        · have hx1' : ¬ (x : Int) = 1 := by omega
          by_cases hsa : s = a
          · have hsa' : ¬ (a : Int) < (s : Int) := by omega
            have HCOND : Hid (¬ (cd K ev s ≠ 1 ∧ 0 < s - a ∧ cd K ev (s - 1) = cd K ev s)) := fun h => by have := h.2.1; omega
            clear hsa
            go_upto_region 15 with fail
            obtain ⟨mg, hmg⟩ : ∃ mg, mg = (mm K ev s).getD zeroM := ⟨_, rfl⟩
            have hgm : (mgL K ev)[t]? = some mg := by rw [mgL_get (by have := HEV.out; omega), hts, hmg]
            have hLr := HALL.out.1.msgs.keep fun g hg => HPS.out.below.block g (HALL.out.1.msgs.lt hg).1
            obtain ⟨g2, o2, c2', cur2, e1, -⟩ := hLr.more (by rw [cdL_len]; have := HEV.out; omega)
            rw [e1] at hLr
            have HRG : Hid (wr.rangeAt g2 (o2 + t * 42) mg.cs.toList) := fun j u hu => by
              have hj : j < 42 := by have := (List.getElem?_eq_some_iff.1 hu).1; rw [mg.cs_len] at this; exact this
              rw [Nat.add_assoc]
              exact hLr.cell rfl (by rw [flatL_get msgV_len hgm hj]; exact hu)
            have cl2 : wr.cell? ⟨p, 2, none⟩ = some (.slice (some ⟨g2, o2, none⟩) (cdL K ev).length c2') := ((HPS.out.below.cell HALL.out.1.blk.lt).trans HALL.out.1.blk.at.2.2).trans (by rw [e1])
            have htn : t < (cdL K ev).length := by rw [cdL_len]; have := HEV.out; omega
            have HPT : Hid (gr (cd K ev) (mm K ev) a (s + 1 - a) = gr (cd K ev) (mm K ev) a (s - a) ++ [(⟨s, s, x == 2, mm K ev s⟩ : Pt Msg)] ∧ ptL (⟨s, s, x == 2, mm K ev s⟩ : Pt Msg) = [.int .i64 (s : Int), .int .i64 (s : Int), .bool (x == 2)] ++ mg.cs.toList) := by
              refine ⟨?_, by unfold ptL ptM; rw [← hmg]⟩
              rw [show s + 1 - a = s - a + 1 by omega, gr, show a + (s - a) = s by omega, if_neg HCOND.out, hx]
            generalize (⟨s, s, x == 2, mm K ev s⟩ : Pt Msg) = PP at *
            have HX0 : Hid _ := HPS.out.own (ptL PP).toArray 36
            have HNP : Hid (np ≤ 10000000000) := hnpb
            clear hLr e1 hgm
            rename_i Kc hKc
            refine wp_region_lit ?_
            refine wpList_runTo rfl (some 79) rfl (.slice ao np cp) wr (by kernel_rfl) ?_
            simp only [Act.put, List.setIfInBounds_toArray, List.set_cons_zero, List.set_cons_succ]
            refine wpList_runTo rfl (some 80) rfl (.int .i64 (s : Int)) wr (by kernel_rfl) ?_
            simp only [Act.put, List.setIfInBounds_toArray, List.set_cons_zero, List.set_cons_succ]
            refine wpList_runTo rfl (some 81) rfl (.int .i64 (s : Int)) wr (by kernel_rfl) ?_
            simp only [Act.put, List.setIfInBounds_toArray, List.set_cons_zero, List.set_cons_succ]
            refine wpList_runTo rfl (some 82) rfl (.int .i64 (x : Int)) wr (by kernel_rfl) ?_
            simp only [Act.put, List.setIfInBounds_toArray, List.set_cons_zero, List.set_cons_succ]
            refine wpList_runTo rfl (some 83) rfl (.bool (x == 2)) wr (by exact eq2_run (.tmp 82) rfl rfl wr) ?_
            simp only [Act.put, List.setIfInBounds_toArray, List.set_cons_zero, List.set_cons_succ]
            refine wpList_runTo rfl (some 84) rfl (.pointer (some ⟨p, 0, none⟩)) wr (by kernel_rfl) ?_
            simp only [Act.put, List.setIfInBounds_toArray, List.set_cons_zero, List.set_cons_succ]
            refine wpList_runTo rfl (some 85) rfl (.pointer (some ⟨p, 0, none⟩)) wr (by kernel_rfl) ?_
            simp only [Act.put, List.setIfInBounds_toArray, List.set_cons_zero, List.set_cons_succ]
            refine wpList_runTo rfl (some 86) rfl (.pointer (some ⟨p, 2, none⟩)) wr (by kernel_rfl) ?_
            simp only [Act.put, List.setIfInBounds_toArray, List.set_cons_zero, List.set_cons_succ]
            refine wpList_runTo rfl (some 87) rfl (.slice (some ⟨g2, o2, none⟩) (cdL K ev).length c2') wr (by go_simp) ?_
            simp only [Act.put, List.setIfInBounds_toArray, List.set_cons_zero, List.set_cons_succ]
            refine wpList_runTo rfl (some 88) rfl (.int .i64 (s : Int)) wr (by kernel_rfl) ?_
            simp only [Act.put, List.setIfInBounds_toArray, List.set_cons_zero, List.set_cons_succ]
            refine wpList_runTo rfl (some 89) rfl (.int .i64 (t : Int)) wr (by go_simp) ?_
            simp only [Act.put, List.setIfInBounds_toArray, List.set_cons_zero, List.set_cons_succ]
            refine wpList_runTo rfl (some 90) rfl (.pointer (some ⟨g2, o2 + t * 42, none⟩)) wr (by exact ixM_run (.tmp 87) (.tmp 89) rfl rfl rfl htn wr) ?_
            simp only [Act.put, List.setIfInBounds_toArray, List.set_cons_zero, List.set_cons_succ]
            refine wpList_load_mid rfl 34 (.tmp 90) rfl g2 (o2 + t * 42) (by kernel_rfl) mg.cs.toList _ HRG.out Try.underlying34 rfl (by rw [mg.cs_len]; kernel_rfl) ?_
            rw [show mg.cs.toList.toArray = mg.cs by simp]
            simp only [Act.put, List.setIfInBounds_toArray, List.set_cons_zero, List.set_cons_succ]
            refine wpList_runTo rfl (some 92) rfl (.agg ([Value.int .i64 (s : Int), Value.int .i64 (s : Int), Value.bool (x == 2)] ++ mg.cs.toList).toArray) wr (by kernel_rfl) ?_
            simp only [Act.put, List.setIfInBounds_toArray, List.set_cons_zero, List.set_cons_succ]
            rw [← HPT.out.2]
            refine wpList_runTo rfl (some 93) rfl (.slice (some ⟨wr.heap.size, 0, none⟩) 1 1) (wr.alloc (.cells (ptL PP).toArray 36)) (by kernel_rfl) ?_
            simp only [Act.put, List.setIfInBounds_toArray, List.set_cons_zero, List.set_cons_succ]
            obtain ⟨v8, w8, hrun, hx8⟩ := HX0.out.app PP HX0.out.own HNP.out
            refine wpList_runTo rfl (some 94) rfl v8 w8 (exec_append (.tmp 79) (.tmp 93) 29 rfl (by kernel_rfl) (by kernel_rfl) hrun) ?_
            simp only [Act.put, List.setIfInBounds_toArray, List.set_cons_zero, List.set_cons_succ]
            refine wpList_runTo rfl (some 8) rfl (v8) w8 (by kernel_rfl) ?_
            simp only [Act.put, List.setIfInBounds_toArray, List.set_cons_zero, List.set_cons_succ]
            refine wpList_nil ?_
            refine hKc _ _ ?_
            have HX8 : Hid (PS w w8 v8 (gr (cd K ev) (mm K ev) a (s - a) ++ [PP]).length (gr (cd K ev) (mm K ev) a (s - a) ++ [PP])) := hx8.ps
            obtain ⟨ao8, cp8, rfl, -⟩ := hx8.ps.row.form
            clear hKc hx8 hrun HX0 HRG cl2 cx HCOND
            rw [← HPT.out.1] at HX8 ⊢
            clear HPT
            generalize (gr (cd K ev) (mm K ev) a (s + 1 - a)).length = np8 at *
            generalize (ptL PP).toArray = pq at *
            generalize mg.cs = csq at *
            go_wp2
            go_roundw
            case rel => exact ⟨s + 1, np8, ao8, cp8, by omega, by omega, by go_num, rfl, HX8.out⟩
            case measure => simp [intOf]; omega
          · have hsa' : (a : Int) < (s : Int) := by omega
            obtain ⟨u, hut⟩ : ∃ u, u + 1 = t := ⟨t - 1, by omega⟩
            have hs2 : (s : Int) - 2 = (u : Int) := by omega
            have huw : IntKind.i64.wrap (u : Int) = (u : Int) := by rw [IntKind.wrap_i64]; have := HEV.out; omega
            obtain ⟨y, hy⟩ : ∃ y, cd K ev t = y := ⟨_, rfl⟩
            have cy : wr.cell? ⟨g1, o1 + u, none⟩ = some (.int .i64 (y : Int)) := by rw [← hy, ← hut]; exact HCC.out u (by have := HEV.out; omega)
            have hun : (u : Int) < (b : Int) := by have := HEV.out; omega
            by_cases hyx : y = x
            · have hyx' : (y : Int) = (x : Int) := by omega
              go_upto_region 14 with fail
              obtain ⟨ini, pl, hg1, hg2, hg3⟩ := gr_last (c := cd K ev) (g := mm K ev) a (s - a - 1)
              rw [show s - a - 1 + 1 = s - a by omega] at hg1
              obtain ⟨q, hq⟩ : ∃ q, ini.length = q := ⟨_, rfl⟩
              have hnq : np = q + 1 := by have h1 := HPS.out.len; rw [hg1, List.length_append, List.length_singleton] at h1; omega
              subst hnq
              have hrow := HPS.out.row
              obtain ⟨go, oo, cp', curo, e1, -⟩ := hrow.more (by omega)
              injection e1 with e1 _ e2
              subst e1
              clear e2
              have hgl : (gr (cd K ev) (mm K ev) a (s - a))[q]? = some pl := by rw [hg1, ← hq]; exact get_snoc_last ini pl
              have clq : wr.cell? ⟨go, oo + (q * 45 + 1), none⟩ = some (.int .i64 (pl.to : Int)) := hrow.cell rfl (by rw [flatL_get ptL_len hgl (by decide)]; rfl)
              have fzq := hrow.frozen rfl (oo + (q * 45 + 1))
              have hgs : gr (cd K ev) (mm K ev) a (s + 1 - a) = ini ++ [(⟨pl.fr, s, pl.lost, pl.m⟩ : Pt Msg)] := by
                rw [show s + 1 - a = s - a + 1 by omega, gr, show a + (s - a) = s by omega, if_pos ⟨by rw [hx]; exact hx1, by omega, by rw [show s - 1 = t by omega, hy, hx]; exact hyx⟩, hg1, setTo_snoc]
              have HFIN : Hid (PS w (wr.setCell ⟨go, oo + (q * 45 + 1), none⟩ (.int .i64 (s : Int))) (.slice (some ⟨go, oo, none⟩) (q + 1) cp) (q + 1) (gr (cd K ev) (mm K ev) a (s + 1 - a))) := by
                have hset : Fr wr (wr.setCell ⟨go, oo + (q * 45 + 1), none⟩ (.int .i64 (s : Int))) (fun b => b = go) := Fr.setCell _ _ _ _ rfl
                refine ⟨by rw [hgs, List.length_append, List.length_singleton, hq], ?_, HPS.out.below.trans (hset.below HPS.out.below.size fun b hb e => by have := HPS.out.new go rfl; omega), HPS.out.new⟩
                have h1 := hrow.setJ (j := q * 45 + 1) (by rw [hg1, flatL_len ptL_len, List.length_append, List.length_singleton, hq, Nat.add_mul]; omega) (.int .i64 (s : Int))
                have hA : (flatL ptL ini).length = q * 45 := by rw [flatL_len ptL_len, hq]
                rw [hg1, flatL_app, flatL_one, List.set_append_right _ _ (by omega), hA, show q * 45 + 1 - q * 45 = 1 by omega] at h1
                rw [hgs, flatL_app, flatL_one]
                exact h1
              rw [← Nat.add_assoc] at clq fzq HFIN
              have hq1 : ((q + 1 : Nat) : Int) - 1 = (q : Int) := by omega
              have hq2 : (q : Int) < (q : Int) + 1 := by omega
              have hq3 : (q : Int) + 1 - 1 = (q : Int) := by omega
              clear hgs hgl hrow hg1 hg2 hg3 hq cx cy HPS
              go_wp2
              go_roundw
              case rel => exact ⟨s + 1, q + 1, some ⟨go, oo, none⟩, cp, by omega, by omega, by go_num, rfl, HFIN.out⟩
              case measure => simp [intOf]; omega
            · have hyx' : ¬ (y : Int) = (x : Int) := by omega
              have HCOND : Hid (¬ (cd K ev s ≠ 1 ∧ 0 < s - a ∧ cd K ev (s - 1) = cd K ev s)) := fun h => hyx (by rw [← hy, ← hx, ← h.2.2, ← hts]; rfl)
              have hyx2 : (y == x) = false := by simpa using hyx
              have hyx3 : ((y : Int) == (x : Int)) = false := by simpa using hyx'
              go_upto_region 15 with fail
              clear cy
              obtain ⟨mg, hmg⟩ : ∃ mg, mg = (mm K ev s).getD zeroM := ⟨_, rfl⟩
              have hgm : (mgL K ev)[t]? = some mg := by rw [mgL_get (by have := HEV.out; omega), hts, hmg]
              have hLr := HALL.out.1.msgs.keep fun g hg => HPS.out.below.block g (HALL.out.1.msgs.lt hg).1
              obtain ⟨g2, o2, c2', cur2, e1, -⟩ := hLr.more (by rw [cdL_len]; have := HEV.out; omega)
              rw [e1] at hLr
              have HRG : Hid (wr.rangeAt g2 (o2 + t * 42) mg.cs.toList) := fun j u hu => by
                have hj : j < 42 := by have := (List.getElem?_eq_some_iff.1 hu).1; rw [mg.cs_len] at this; exact this
                rw [Nat.add_assoc]
                exact hLr.cell rfl (by rw [flatL_get msgV_len hgm hj]; exact hu)
              have cl2 : wr.cell? ⟨p, 2, none⟩ = some (.slice (some ⟨g2, o2, none⟩) (cdL K ev).length c2') := ((HPS.out.below.cell HALL.out.1.blk.lt).trans HALL.out.1.blk.at.2.2).trans (by rw [e1])
              have htn : t < (cdL K ev).length := by rw [cdL_len]; have := HEV.out; omega
              have HPT : Hid (gr (cd K ev) (mm K ev) a (s + 1 - a) = gr (cd K ev) (mm K ev) a (s - a) ++ [(⟨s, s, x == 2, mm K ev s⟩ : Pt Msg)] ∧ ptL (⟨s, s, x == 2, mm K ev s⟩ : Pt Msg) = [.int .i64 (s : Int), .int .i64 (s : Int), .bool (x == 2)] ++ mg.cs.toList) := by
                refine ⟨?_, by unfold ptL ptM; rw [← hmg]⟩
                rw [show s + 1 - a = s - a + 1 by omega, gr, show a + (s - a) = s by omega, if_neg HCOND.out, hx]
              generalize (⟨s, s, x == 2, mm K ev s⟩ : Pt Msg) = PP at *
              have HX0 : Hid _ := HPS.out.own (ptL PP).toArray 36
              have HNP : Hid (np ≤ 10000000000) := hnpb
              clear hLr e1 hgm
              rename_i Kc hKc
              refine wp_region_lit ?_
              refine wpList_runTo rfl (some 79) rfl (.slice ao np cp) wr (by kernel_rfl) ?_
              simp only [Act.put, List.setIfInBounds_toArray, List.set_cons_zero, List.set_cons_succ]
              refine wpList_runTo rfl (some 80) rfl (.int .i64 (s : Int)) wr (by kernel_rfl) ?_
              simp only [Act.put, List.setIfInBounds_toArray, List.set_cons_zero, List.set_cons_succ]
              refine wpList_runTo rfl (some 81) rfl (.int .i64 (s : Int)) wr (by kernel_rfl) ?_
              simp only [Act.put, List.setIfInBounds_toArray, List.set_cons_zero, List.set_cons_succ]
              refine wpList_runTo rfl (some 82) rfl (.int .i64 (x : Int)) wr (by kernel_rfl) ?_
              simp only [Act.put, List.setIfInBounds_toArray, List.set_cons_zero, List.set_cons_succ]
              refine wpList_runTo rfl (some 83) rfl (.bool (x == 2)) wr (by exact eq2_run (.tmp 82) rfl rfl wr) ?_
              simp only [Act.put, List.setIfInBounds_toArray, List.set_cons_zero, List.set_cons_succ]
              refine wpList_runTo rfl (some 84) rfl (.pointer (some ⟨p, 0, none⟩)) wr (by kernel_rfl) ?_
              simp only [Act.put, List.setIfInBounds_toArray, List.set_cons_zero, List.set_cons_succ]
              refine wpList_runTo rfl (some 85) rfl (.pointer (some ⟨p, 0, none⟩)) wr (by kernel_rfl) ?_
              simp only [Act.put, List.setIfInBounds_toArray, List.set_cons_zero, List.set_cons_succ]
              refine wpList_runTo rfl (some 86) rfl (.pointer (some ⟨p, 2, none⟩)) wr (by kernel_rfl) ?_
              simp only [Act.put, List.setIfInBounds_toArray, List.set_cons_zero, List.set_cons_succ]
              refine wpList_runTo rfl (some 87) rfl (.slice (some ⟨g2, o2, none⟩) (cdL K ev).length c2') wr (by go_simp) ?_
              simp only [Act.put, List.setIfInBounds_toArray, List.set_cons_zero, List.set_cons_succ]
              refine wpList_runTo rfl (some 88) rfl (.int .i64 (s : Int)) wr (by kernel_rfl) ?_
              simp only [Act.put, List.setIfInBounds_toArray, List.set_cons_zero, List.set_cons_succ]
              refine wpList_runTo rfl (some 89) rfl (.int .i64 (t : Int)) wr (by go_simp) ?_
              simp only [Act.put, List.setIfInBounds_toArray, List.set_cons_zero, List.set_cons_succ]
              refine wpList_runTo rfl (some 90) rfl (.pointer (some ⟨g2, o2 + t * 42, none⟩)) wr (by exact ixM_run (.tmp 87) (.tmp 89) rfl rfl rfl htn wr) ?_
              simp only [Act.put, List.setIfInBounds_toArray, List.set_cons_zero, List.set_cons_succ]
              refine wpList_load_mid rfl 34 (.tmp 90) rfl g2 (o2 + t * 42) (by kernel_rfl) mg.cs.toList _ HRG.out Try.underlying34 rfl (by rw [mg.cs_len]; kernel_rfl) ?_
              rw [show mg.cs.toList.toArray = mg.cs by simp]
              simp only [Act.put, List.setIfInBounds_toArray, List.set_cons_zero, List.set_cons_succ]
              refine wpList_runTo rfl (some 92) rfl (.agg ([Value.int .i64 (s : Int), Value.int .i64 (s : Int), Value.bool (x == 2)] ++ mg.cs.toList).toArray) wr (by kernel_rfl) ?_
              simp only [Act.put, List.setIfInBounds_toArray, List.set_cons_zero, List.set_cons_succ]
              rw [← HPT.out.2]
              refine wpList_runTo rfl (some 93) rfl (.slice (some ⟨wr.heap.size, 0, none⟩) 1 1) (wr.alloc (.cells (ptL PP).toArray 36)) (by kernel_rfl) ?_
              simp only [Act.put, List.setIfInBounds_toArray, List.set_cons_zero, List.set_cons_succ]
              obtain ⟨v8, w8, hrun, hx8⟩ := HX0.out.app PP HX0.out.own HNP.out
              refine wpList_runTo rfl (some 94) rfl v8 w8 (exec_append (.tmp 79) (.tmp 93) 29 rfl (by kernel_rfl) (by kernel_rfl) hrun) ?_
              simp only [Act.put, List.setIfInBounds_toArray, List.set_cons_zero, List.set_cons_succ]
              refine wpList_runTo rfl (some 8) rfl (v8) w8 (by kernel_rfl) ?_
              simp only [Act.put, List.setIfInBounds_toArray, List.set_cons_zero, List.set_cons_succ]
              refine wpList_nil ?_
              refine hKc _ _ ?_
              have HX8 : Hid (PS w w8 v8 (gr (cd K ev) (mm K ev) a (s - a) ++ [PP]).length (gr (cd K ev) (mm K ev) a (s - a) ++ [PP])) := hx8.ps
              obtain ⟨ao8, cp8, rfl, -⟩ := hx8.ps.row.form
              clear hKc hx8 hrun HX0 HRG cl2 cx HCOND
              rw [← HPT.out.1] at HX8 ⊢
              clear HPT
              generalize (gr (cd K ev) (mm K ev) a (s + 1 - a)).length = np8 at *
              generalize (ptL PP).toArray = pq at *
              generalize mg.cs = csq at *
              go_wp2
              go_roundw
              case rel => exact ⟨s + 1, np8, ao8, cp8, by omega, by omega, by go_num, rfl, HX8.out⟩
              case measure => simp [intOf]; omega
      · obtain rfl : s = b + 1 := by omega
        have hlt' : ¬ (b : Int) + 1 ≤ (b : Int) := by omega
        go_wp2
        go_ret2
        exact ⟨_, rfl, by rw [HPS.out.len]; exact HPS.out.row, HPS.out.below, HPS.out.new⟩
end Go.Proofs.Ytekkckfoikpljaa
