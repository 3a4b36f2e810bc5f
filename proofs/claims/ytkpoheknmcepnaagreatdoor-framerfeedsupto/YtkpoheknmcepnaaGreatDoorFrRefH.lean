/-
  framer: the reference's Feed.
-/
import Derived.Test.YtkpoheknmcepnaaGreatDoorFrQ
namespace Go.Proofs.YtkpoheknmcepnaaGreatDoor
set_option linter.unusedVariables false
set_option linter.unusedSimpArgs false
open Go.RowKit Go.Great Go.Shelf

set_option maxRecDepth 100000 in
set_option maxHeartbeats 4000000 in
theorem refFeed_text
    {w : World} {p P K J g : Nat} {vs va : Value} {st l : List UInt8} (hb : RFB w p 1 vs P K J) (hrow : ByAt w vs st) (hP : P ≤ st.length) (hpc : PcAt g w va l) (hl : st.length + l.length ≤ 1000000000) (hJ : J ≤ 1000000000) (hK : K ≤ 1000000000) :
    Calls Tryz.prog 38 #[.pointer (some ⟨p, 0, none⟩), va] w fun e w' => ∃ v, e = .returned v ∧ RFE textS w w' p 1 vs v (st ++ l) P J K := by
  obtain ⟨sa, cs, hvs, -⟩ := RowAt.form hrow
  obtain ⟨ns, hns⟩ : ∃ ns, st.length = ns := ⟨_, rfl⟩
  rw [hns] at hvs
  subst hvs
  obtain ⟨xa, xo, xc, hva, hxc, -⟩ := id hpc
  obtain ⟨xl, hxl⟩ : ∃ xl, l.length = xl := ⟨_, rfl⟩
  rw [hxl] at hva
  subst hva
  obtain ⟨a1, c1, w1, hr1, hb1, hf1, hn1⟩ := By_more hrow hns hpc hxl (by omega)
  have hpne : (Value.slice sa ns cs).ownBlock ≠ some p := RowAt.ne_type hrow hb (by decide)
  have hbl1 : RFB w1 p 1 (.slice sa ns cs) P K J := hb.fr hf1 hpne
  obtain ⟨N, hN⟩ : ∃ N, ns + xl = N := ⟨_, rfl⟩
  rw [hN] at hr1 hb1 hn1
  have hS2 : Fr w1 (w1.setCell ⟨p, 1, none⟩ (.slice a1 N c1)) (fun b => b = p) := Fr.setCell _ _ _ _ rfl
  have hb2 := hbl1.set1 (.slice a1 N c1)
  have hN1 : (st ++ l).length = N := by rw [List.length_append]; omega
  have hnep : (Value.slice a1 N c1).ownBlock ≠ some p := RowAt.ne_type hb1 hbl1 (by decide)
  have hby2 : ByAt (w1.setCell ⟨p, 1, none⟩ (.slice a1 N c1)) (.slice a1 N c1) (st ++ l) := RowAt.fr hb1 hS2 fun b hb e => hnep (e ▸ hb)
  obtain ⟨c0, c1', c2, c3, c4⟩ := hb.at
  obtain ⟨-, d1, -⟩ := hbl1.at
  have f1 := hbl1.frz 1
  have HF2 : Hid (Fr w (w1.setCell ⟨p, 1, none⟩ (.slice a1 N c1)) (fun b => b = p ∨ (Value.slice sa ns cs).ownBlock = some b) ∧ newer w (.slice sa ns cs) (.slice a1 N c1) ∧ ∀ b, (Value.slice a1 N c1).ownBlock = some b → b < (w1.setCell ⟨p, 1, none⟩ (.slice a1 N c1)).heap.size) := ⟨hf1.trans hS2 fun _ _ q => q.elim .inr .inl, hn1, fun b hb => (RowAt.lt hby2 hb).1⟩
  have HRK : Hid (RK textS (w1.setCell ⟨p, 1, none⟩ (.slice a1 N c1)) (w1.setCell ⟨p, 1, none⟩ (.slice a1 N c1)) p 1 (.slice a1 N c1) (.slice none 0 0) (st ++ l) P J K [] P J K) :=
    ⟨hb2, hby2, ⟨RowAt.none0 _ _ _, fun _ h => (by cases h), List.Pairwise.nil⟩, by rw [hN1]; omega, ⟨0, rfl, by simp [fsOf]⟩, Fr.refl _ _, fun _ h => (by cases h), fun _ h => (by cases h), by simp⟩
  have HN : Hid ((st ++ l).length = N ∧ N ≤ 1000000000) := ⟨hN1, by omega⟩
  have HR1 : Hid _ := hr1
  obtain ⟨ST, hST⟩ : ∃ ST, st ++ l = ST := ⟨_, rfl⟩
  rw [hST] at HRK HN ⊢
  clear hb hrow hpc hr1 hb1 hf1 hn1 hbl1 hS2 hb2 hby2 hnep hpne hN1 hST hxc c0 c2 c3 c4
  go_enter Tryz.func38, Tryz.ntmps38
  go_upto_region 1 with fail
  rename_i Kc hKc
  refine wp_region_lit ?_
  refine wpList_runTo rfl (some 9) rfl (.pointer (some ⟨p, 0, none⟩)) w (by kernel_rfl) ?_
  simp only [Act.put, List.setIfInBounds_toArray, List.set_cons_zero, List.set_cons_succ]
  refine wpList_runTo rfl (some 10) rfl (.pointer (some ⟨p, 0, none⟩)) w (by kernel_rfl) ?_
  simp only [Act.put, List.setIfInBounds_toArray, List.set_cons_zero, List.set_cons_succ]
  refine wpList_runTo rfl (some 11) rfl (.pointer (some ⟨p, 0, none⟩)) w (by kernel_rfl) ?_
  simp only [Act.put, List.setIfInBounds_toArray, List.set_cons_zero, List.set_cons_succ]
  refine wpList_runTo rfl (some 12) rfl (.pointer (some ⟨p, 1, none⟩)) w (by kernel_rfl) ?_
  simp only [Act.put, List.setIfInBounds_toArray, List.set_cons_zero, List.set_cons_succ]
  refine wpList_runTo rfl (some 13) rfl (.slice sa ns cs) w (by go_simp) ?_
  simp only [Act.put, List.setIfInBounds_toArray, List.set_cons_zero, List.set_cons_succ]
  refine wpList_runTo rfl (some 14) rfl (.slice xa xl xc) w (by kernel_rfl) ?_
  simp only [Act.put, List.setIfInBounds_toArray, List.set_cons_zero, List.set_cons_succ]
  refine wpList_runTo rfl (some 15) rfl (.slice a1 N c1) w1 (exec_append _ _ 22 rfl (by kernel_rfl) (by kernel_rfl) HR1.out) ?_
  simp only [Act.put, List.setIfInBounds_toArray, List.set_cons_zero, List.set_cons_succ]
  refine wpList_runTo rfl (some 16) rfl (.pointer (some ⟨p, 0, none⟩)) w1 (by kernel_rfl) ?_
  simp only [Act.put, List.setIfInBounds_toArray, List.set_cons_zero, List.set_cons_succ]
  refine wpList_runTo rfl (some 17) rfl (.pointer (some ⟨p, 1, none⟩)) w1 (by kernel_rfl) ?_
  simp only [Act.put, List.setIfInBounds_toArray, List.set_cons_zero, List.set_cons_succ]
  refine wpList_skipTo rfl rfl (w1.setCell ⟨p, 1, none⟩ (.slice a1 N c1)) (by go_simp) ?_
  refine wpList_nil ?_
  refine hKc _ _ ?_
  clear hKc HR1 c1' d1 f1
  generalize w1.setCell ⟨p, 1, none⟩ (.slice a1 N c1) = w2 at *
  go_wp2
  go_loopw [5, 6, 7, 8] (fun x5 _ _ _ wr => ∃ (nf co : Nat) (ao : Option Addr), x5 = .slice ao nf co ∧ Hid (∃ fs P' J' K', RK textS w2 wr p 1 (.slice a1 N c1) (.slice ao nf co) ST P J K fs P' J' K' ∧ fs.length = nf)) (fun _ _ _ _ wr => N - rfP wr p)
  case atStart => exact ⟨0, 0, none, rfl, [], P, J, K, HRK.out, rfl⟩
  case round =>
    obtain ⟨nf, co, ao, rfl, HJ⟩ := hrel
    obtain ⟨fs, P', J', K', hRK0, hfl⟩ := HJ.out
    have hRK := hRK0.sm ((Fr.refl wr (fun _ => False)).drew)
    obtain ⟨c0, c1', c2, c3, c4⟩ := hRK.blk.at
    have hcn := hRK.cnt
    have hpl := hRK.ple
    rw [HN.out.1] at hpl
    have hN9 := HN.out.2
    have hSS : wr.drew.cell? ⟨p, 1, none⟩ = some (.slice a1 N c1) ∧ wr.drew.cell? ⟨p, 2, none⟩ = some (.int .i64 (P' : Int)) := ⟨c1', c2⟩
    have HRK1 : Hid (RK textS w2 wr.drew p 1 (.slice a1 N c1) (.slice ao nf co) ST P J K fs P' J' K' ∧ fs.length = nf) := ⟨hRK, hfl⟩
    have HM0 : Hid (rfP wr p = P') := hRK0.blk.pos
    clear hRK hRK0 hfl HJ c1' c2 c3 c4 HRK
    go_upto_region 3 with fail
    rename_i Kc hKc
    refine wp_region_held (S := fun w' => w'.cell? ⟨p, 1, none⟩ = some (.slice a1 N c1) ∧ w'.cell? ⟨p, 2, none⟩ = some (.int .i64 (P' : Int))) (by kernel_rfl) ?_
    change wpAnyH _ _ _ _ _ _ _ _ (World.drew _)
    generalize wr.drew = w3 at *
    refine takeR (i := 0) (v := .pointer (some ⟨p, 0, none⟩)) (some 18) rfl rfl (by kernel_rfl) (by kernel_rfl) (by kernel_rfl) (fun _ _ _ h => h) (Or.inl ⟨by kernel_rfl, fun w' hSw => by kernel_rfl⟩) hSS ?_
    simp only [Act.put, List.setIfInBounds_toArray, List.set_cons_zero, List.set_cons_succ]
    refine takeR (i := 1) (v := .pointer (some ⟨p, 0, none⟩)) (some 19) rfl rfl (by kernel_rfl) (by kernel_rfl) (by kernel_rfl) (fun _ _ _ h => h) (Or.inl ⟨by kernel_rfl, fun w' hSw => by kernel_rfl⟩) hSS ?_
    simp only [Act.put, List.setIfInBounds_toArray, List.set_cons_zero, List.set_cons_succ]
    refine takeR (i := 2) (v := .pointer (some ⟨p, 2, none⟩)) (some 20) rfl rfl (by kernel_rfl) (by kernel_rfl) (by kernel_rfl) (fun _ _ _ h => h) (Or.inl ⟨by kernel_rfl, fun w' hSw => by kernel_rfl⟩) hSS ?_
    simp only [Act.put, List.setIfInBounds_toArray, List.set_cons_zero, List.set_cons_succ]
    refine takeR (i := 3) (v := .int .i64 (P' : Int)) (some 21) rfl rfl (by kernel_rfl) (by kernel_rfl) (by kernel_rfl) (fun _ _ _ h => h) (Or.inl ⟨by kernel_rfl, fun w' hSw => by have q0 := hSw.2; go_simp⟩) hSS ?_
    simp only [Act.put, List.setIfInBounds_toArray, List.set_cons_zero, List.set_cons_succ]
    refine takeR (i := 4) (v := .pointer (some ⟨p, 0, none⟩)) (some 22) rfl rfl (by kernel_rfl) (by kernel_rfl) (by kernel_rfl) (fun _ _ _ h => h) (Or.inl ⟨by kernel_rfl, fun w' hSw => by kernel_rfl⟩) hSS ?_
    simp only [Act.put, List.setIfInBounds_toArray, List.set_cons_zero, List.set_cons_succ]
    refine takeR (i := 5) (v := .pointer (some ⟨p, 0, none⟩)) (some 23) rfl rfl (by kernel_rfl) (by kernel_rfl) (by kernel_rfl) (fun _ _ _ h => h) (Or.inl ⟨by kernel_rfl, fun w' hSw => by kernel_rfl⟩) hSS ?_
    simp only [Act.put, List.setIfInBounds_toArray, List.set_cons_zero, List.set_cons_succ]
    refine takeR (i := 6) (v := .pointer (some ⟨p, 1, none⟩)) (some 24) rfl rfl (by kernel_rfl) (by kernel_rfl) (by kernel_rfl) (fun _ _ _ h => h) (Or.inl ⟨by kernel_rfl, fun w' hSw => by kernel_rfl⟩) hSS ?_
    simp only [Act.put, List.setIfInBounds_toArray, List.set_cons_zero, List.set_cons_succ]
    refine takeR (i := 7) (v := .slice a1 N c1) (some 25) rfl rfl (by kernel_rfl) (by kernel_rfl) (by kernel_rfl) (fun _ _ _ h => h) (Or.inl ⟨by kernel_rfl, fun w' hSw => by have q0 := hSw.1; go_simp⟩) hSS ?_
    simp only [Act.put, List.setIfInBounds_toArray, List.set_cons_zero, List.set_cons_succ]
    refine takeR (i := 8) (v := .int .i64 (N : Int)) (some 26) rfl rfl (by kernel_rfl) (by kernel_rfl) (by kernel_rfl) (fun _ _ _ h => h) (Or.inl ⟨by kernel_rfl, fun w' hSw => by kernel_rfl⟩) hSS ?_
    simp only [Act.put, List.setIfInBounds_toArray, List.set_cons_zero, List.set_cons_succ]
    by_cases hlt : P' < N
    · have hlt' : (P' : Int) < (N : Int) := by omega
      refine takeR (i := 9) (v := .bool true) (some 27) rfl rfl (by kernel_rfl) (by kernel_rfl) (by kernel_rfl) (fun _ _ _ h => h) (Or.inl ⟨by kernel_rfl, fun w' hSw => by clear hSw; go_simp⟩) hSS ?_
      simp only [Act.put, List.setIfInBounds_toArray, List.set_cons_zero, List.set_cons_succ]
      refine wpAnyH_done (by kernel_rfl) ?_ _
      refine hKc _ _ ?_
      clear hKc
      obtain ⟨g1, o1, c1'', cur, ea, -⟩ := RowAt.more HRK1.out.1.row (by rw [HN.out.1]; omega)
      injection ea with ea1 ea2 ea3
      subst ea1
      clear ea2 ea3
      have hc1N : N ≤ c1 := by
        obtain ⟨_, _, e, q⟩ := RowAt.form HRK1.out.1.row
        injection e with _ e1 e2
        omega
      have hlk := refText_any (some ⟨g1, o1 + P', none⟩) (N - P') (c1 - P') (ST.drop P') w3.drew
        (LSrc.drop (ByAt.src (HRK1.out.1.sm ((Fr.refl w3 (fun _ => False)).drew)).row) P') (by rw [List.length_drop, HN.out.1]) (by omega) (by omega)
      obtain ⟨LP, hLP⟩ : ∃ LP, textP lenV prT headT lastT (ST.drop P') = LP := ⟨_, rfl⟩
      rw [hLP] at hlk
      have HLP : Hid (textS (ST.drop P') = LP.sight) := by show textS _ = _; unfold textS; rw [hLP]
      have HRK2 : Hid (RK textS w2 w3.drew p 1 (.slice (some ⟨g1, o1, none⟩) N c1) (.slice ao nf co) ST P J K fs P' J' K' ∧ fs.length = nf) := ⟨HRK1.out.1.sm ((Fr.refl w3 (fun _ => False)).drew), HRK1.out.2⟩
      have hSS2 : w3.drew.cell? ⟨p, 1, none⟩ = some (.slice (some ⟨g1, o1, none⟩) N c1) ∧ w3.drew.cell? ⟨p, 2, none⟩ = some (.int .i64 (P' : Int)) := ⟨HRK2.out.1.blk.at.2.1, HRK2.out.1.blk.at.2.2.1⟩
      have hPN : (P' : Int) ≤ (N : Int) := by omega
      have hPc : (P' : Int) ≤ (c1 : Int) := by omega
      have hPc2 : ¬ c1 = P' := by omega
      clear HRK1 hSS hLP
      go_upto_region 7 with fail
      rename_i Kc hKc
      refine wp_region_held (S := fun w' => w'.cell? ⟨p, 1, none⟩ = some (.slice (some ⟨g1, o1, none⟩) N c1) ∧ w'.cell? ⟨p, 2, none⟩ = some (.int .i64 (P' : Int))) (by kernel_rfl) ?_
      change wpAnyH _ _ _ _ _ _ _ _ (World.drew _)
      generalize w3.drew = w4 at *
      refine takeR (i := 0) (v := .pointer (some ⟨p, 0, none⟩)) (some 34) rfl rfl (by kernel_rfl) (by kernel_rfl) (by kernel_rfl) (fun _ _ _ h => h) (Or.inl ⟨by kernel_rfl, fun w' hSw => by kernel_rfl⟩) hSS2 ?_
      simp only [Act.put, List.setIfInBounds_toArray, List.set_cons_zero, List.set_cons_succ]
      refine takeR (i := 1) (v := .pointer (some ⟨p, 0, none⟩)) (some 35) rfl rfl (by kernel_rfl) (by kernel_rfl) (by kernel_rfl) (fun _ _ _ h => h) (Or.inl ⟨by kernel_rfl, fun w' hSw => by kernel_rfl⟩) hSS2 ?_
      simp only [Act.put, List.setIfInBounds_toArray, List.set_cons_zero, List.set_cons_succ]
      refine takeR (i := 2) (v := .pointer (some ⟨p, 1, none⟩)) (some 36) rfl rfl (by kernel_rfl) (by kernel_rfl) (by kernel_rfl) (fun _ _ _ h => h) (Or.inl ⟨by kernel_rfl, fun w' hSw => by kernel_rfl⟩) hSS2 ?_
      simp only [Act.put, List.setIfInBounds_toArray, List.set_cons_zero, List.set_cons_succ]
      refine takeR (i := 3) (v := .slice (some ⟨g1, o1, none⟩) N c1) (some 37) rfl rfl (by kernel_rfl) (by kernel_rfl) (by kernel_rfl) (fun _ _ _ h => h) (Or.inl ⟨by kernel_rfl, fun w' hSw => by have q0 := hSw.1; go_simp⟩) hSS2 ?_
      simp only [Act.put, List.setIfInBounds_toArray, List.set_cons_zero, List.set_cons_succ]
      refine takeR (i := 4) (v := .pointer (some ⟨p, 0, none⟩)) (some 38) rfl rfl (by kernel_rfl) (by kernel_rfl) (by kernel_rfl) (fun _ _ _ h => h) (Or.inl ⟨by kernel_rfl, fun w' hSw => by kernel_rfl⟩) hSS2 ?_
      simp only [Act.put, List.setIfInBounds_toArray, List.set_cons_zero, List.set_cons_succ]
      refine takeR (i := 5) (v := .pointer (some ⟨p, 0, none⟩)) (some 39) rfl rfl (by kernel_rfl) (by kernel_rfl) (by kernel_rfl) (fun _ _ _ h => h) (Or.inl ⟨by kernel_rfl, fun w' hSw => by kernel_rfl⟩) hSS2 ?_
      simp only [Act.put, List.setIfInBounds_toArray, List.set_cons_zero, List.set_cons_succ]
      refine takeR (i := 6) (v := .pointer (some ⟨p, 2, none⟩)) (some 40) rfl rfl (by kernel_rfl) (by kernel_rfl) (by kernel_rfl) (fun _ _ _ h => h) (Or.inl ⟨by kernel_rfl, fun w' hSw => by kernel_rfl⟩) hSS2 ?_
      simp only [Act.put, List.setIfInBounds_toArray, List.set_cons_zero, List.set_cons_succ]
      refine takeR (i := 7) (v := .int .i64 (P' : Int)) (some 41) rfl rfl (by kernel_rfl) (by kernel_rfl) (by kernel_rfl) (fun _ _ _ h => h) (Or.inl ⟨by kernel_rfl, fun w' hSw => by have q0 := hSw.2; go_simp⟩) hSS2 ?_
      simp only [Act.put, List.setIfInBounds_toArray, List.set_cons_zero, List.set_cons_succ]
      refine takeR (i := 8) (v := .slice (some ⟨g1, o1 + P', none⟩) (N - P') (c1 - P')) (some 42) rfl rfl (by kernel_rfl) (by kernel_rfl) (by kernel_rfl) (fun _ _ _ h => h) (Or.inl ⟨by kernel_rfl, fun w' hSw => by clear hSw; go_simp⟩) hSS2 ?_
      simp only [Act.put, List.setIfInBounds_toArray, List.set_cons_zero, List.set_cons_succ]
      refine wpAnyH_ready (rs := [9]) (by kernel_rfl) (by simp) ?_
      refine AllReadyH.cons rfl (fun K1 hK1 => ?_) AllReadyH.nil
      rw [if_pos (by kernel_rfl)]
      refine callR (d := some 43) rfl 69 #[.slice (some ⟨g1, o1 + P', none⟩) (N - P') (c1 - P')] (by kernel_rfl) hlk ?_
      rintro e w5 ⟨cb, m, rfl, hcd, hB5⟩
      have hRK5 := HRK2.out.1.sm (Fr.of_below hB5 (fun _ => False))
      have HRK5 : Hid (RK textS w2 w5 p 1 (.slice (some ⟨g1, o1, none⟩) N c1) (.slice ao nf co) ST P J K fs P' J' K' ∧ fs.length = nf) := ⟨hRK5, HRK2.out.2⟩
      have hSS5 : w5.cell? ⟨p, 1, none⟩ = some (.slice (some ⟨g1, o1, none⟩) N c1) ∧ w5.cell? ⟨p, 2, none⟩ = some (.int .i64 (P' : Int)) := ⟨hRK5.blk.at.2.1, hRK5.blk.at.2.2.1⟩
      have HCD : Hid (CdOK LP cb m) := hcd
      refine ⟨_, rfl, ?_⟩
      refine hK1.out _ _ hSS5 (fun _ => ?_)
      clear hK1 hB5 hSS2 hcd hlk HRK2 hRK5
      simp only [Act.put, List.setIfInBounds_toArray, List.set_cons_zero, List.set_cons_succ]
      refine takeR (i := 10) (v := .tuple #[.bool cb, .int .i64 (m : Int)]) (some 33) rfl rfl (by kernel_rfl) (by kernel_rfl) (by kernel_rfl) (fun _ _ _ h => h) (Or.inl ⟨by kernel_rfl, fun w' hSw => by kernel_rfl⟩) hSS5 ?_
      simp only [Act.put, List.setIfInBounds_toArray, List.set_cons_zero, List.set_cons_succ]
      refine takeR (i := 11) (v := .bool cb) (some 44) rfl rfl (by kernel_rfl) (by kernel_rfl) (by kernel_rfl) (fun _ _ _ h => h) (Or.inl ⟨by kernel_rfl, fun w' hSw => by kernel_rfl⟩) hSS5 ?_
      simp only [Act.put, List.setIfInBounds_toArray, List.set_cons_zero, List.set_cons_succ]
      refine takeR (i := 12) (v := .int .i64 (m : Int)) (some 45) rfl rfl (by kernel_rfl) (by kernel_rfl) (by kernel_rfl) (fun _ _ _ h => h) (Or.inl ⟨by kernel_rfl, fun w' hSw => by kernel_rfl⟩) hSS5 ?_
      simp only [Act.put, List.setIfInBounds_toArray, List.set_cons_zero, List.set_cons_succ]
      refine takeR (i := 13) (v := .bool cb) (some 6) rfl rfl (by kernel_rfl) (by kernel_rfl) (by kernel_rfl) (fun _ _ _ h => h) (Or.inl ⟨by kernel_rfl, fun w' hSw => by kernel_rfl⟩) hSS5 ?_
      simp only [Act.put, List.setIfInBounds_toArray, List.set_cons_zero, List.set_cons_succ]
      refine takeR (i := 14) (v := .int .i64 (m : Int)) (some 7) rfl rfl (by kernel_rfl) (by kernel_rfl) (by kernel_rfl) (fun _ _ _ h => h) (Or.inl ⟨by kernel_rfl, fun w' hSw => by kernel_rfl⟩) hSS5 ?_
      simp only [Act.put, List.setIfInBounds_toArray, List.set_cons_zero, List.set_cons_succ]
      refine wpAnyH_done (by kernel_rfl) ?_ _
      refine hKc _ _ ?_
      clear hKc hSS5
      cases LP with
      | wrong =>
        have hcb : cb = false := HCD.out
        subst hcb
        have hj := (HRK5.out.1.junk textS_steady HLP.out).1
        rw [Int.natCast_add, Int.natCast_add, Int.natCast_add] at hj
        have HX : Hid (RK textS w2 (((w5.setCell ⟨p, 2, none⟩ (.int .i64 ((P' : Int) + 1))).setCell ⟨p, 3, none⟩ (.int .i64 ((K' : Int) + 1))).setCell ⟨p, 4, none⟩ (.int .i64 ((J' : Int) + 1))) p 1 (.slice (some ⟨g1, o1, none⟩) N c1) (.slice ao nf co) ST P J K fs (P' + 1) (J' + 1) (K' + 1) ∧ fs.length = nf) := ⟨hj, HRK5.out.2⟩
        obtain ⟨k0, k1, k2, k3, k4⟩ := HRK5.out.1.blk.at
        have z2 := HRK5.out.1.blk.frz 2
        have z3 := HRK5.out.1.blk.frz 3
        have z4 := HRK5.out.1.blk.frz 4
        have y2 : IntKind.i64.wrap ((P' : Int) + 1) = (P' : Int) + 1 := by rw [IntKind.wrap_i64]; omega
        have y3 : IntKind.i64.wrap ((K' : Int) + 1) = (K' : Int) + 1 := by rw [IntKind.wrap_i64]; omega
        have y4 : IntKind.i64.wrap ((J' : Int) + 1) = (J' : Int) + 1 := by rw [IntKind.wrap_i64]; omega
        clear hj HRK5 HCD HLP c0
        go_wp2
        go_roundw
        case rel => exact ⟨nf, co, ao, rfl, fs, P' + 1, J' + 1, K' + 1, HX.out.1, HX.out.2⟩
        case measure => rw [HX.out.1.blk.pos, HM0.out]; omega
      | begun q =>
        obtain ⟨hcb, hm⟩ := (show cb = true ∧ m = 0 from HCD.out)
        subst hcb
        have hm' : (m : Int) = 0 := by omega
        have HX : Hid (RFE textS w w5 p 1 (.slice sa ns cs) (.slice ao nf co) ST P J K) := ⟨w2, _, fs, P', J', K', HF2.out.1, HF2.out.2.1, HF2.out.2.2, HRK5.out.1, .inl ⟨q, HLP.out⟩⟩
        clear HRK5 HCD HLP c0 hm
        go_wp2
        go_ret
        exact ⟨_, rfl, HX.out⟩
      | whole q =>
        obtain ⟨hcb, hm⟩ := (show cb = true ∧ m = q from HCD.out)
        subst hcb
        subst hm
        obtain ⟨hm0, hmN, -⟩ := textS_steady.whole HLP.out
        rw [List.length_drop, HN.out.1] at hmN
        have hm' : ¬ (m : Int) = 0 := by omega
        clear HCD c0
        have hRK6 := HRK5.out.1.sm ((Fr.refl w5 (fun _ => False)).drew)
        have hnil : ByAt w5.drew (.slice none 0 0) [] := RowAt.none0 w5.drew 5 1
        have hsr6 : LSrc w5.drew (some ⟨g1, o1 + P', none⟩) ((ST.drop P').take m) := ((ByAt.src hRK6.row).drop P').take m
        obtain ⟨a7, c7, w7, hr7, hb7, hf7, ho7⟩ := By_app (n := 0) (m := m) (c := c1 - P') hnil rfl hsr6 (by rw [List.length_take, List.length_drop, HN.out.1]; omega) hm0 (by omega)
        rw [Nat.zero_add] at hr7 hb7 ho7
        rw [List.nil_append] at hb7
        have hF57 : Fr w5 w7 (fun _ => False) := ((Fr.refl w5 (fun _ => False)).drew).trans hf7 fun b' _ q => q.elim id fun q => by cases q
        have hnv7 : ∀ b, (Value.slice a7 m c7).ownBlock = some b → w5.heap.size ≤ b := fun b hb => by
          rcases ho7 with q | ⟨b', q, hb'⟩
          · rw [q] at hb; cases hb
          · rw [q] at hb; injection hb with hb
            have : w5.drew.heap.size = w5.heap.size := rfl
            omega
        obtain ⟨v8, w8, hr8, hbl8, hRK8, -, -, ao8, co8, hv8⟩ := HRK5.out.1.whole textS_steady HLP.out hb7 hF57 hnv7 (by rw [HN.out.1]; omega)
        rw [HRK5.out.2] at hv8
        subst hv8
        have hRK7 := HRK5.out.1.sm hF57
        have hSS6 : w5.drew.cell? ⟨p, 1, none⟩ = some (.slice (some ⟨g1, o1, none⟩) N c1) ∧ w5.drew.cell? ⟨p, 2, none⟩ = some (.int .i64 (P' : Int)) := ⟨hRK6.blk.at.2.1, hRK6.blk.at.2.2.1⟩
        have hSS7 : w7.cell? ⟨p, 1, none⟩ = some (.slice (some ⟨g1, o1, none⟩) N c1) ∧ w7.cell? ⟨p, 2, none⟩ = some (.int .i64 (P' : Int)) := ⟨hRK7.blk.at.2.1, hRK7.blk.at.2.2.1⟩
        have k74 := hRK7.blk.at.2.2.2.2
        have y1 : IntKind.i64.wrap ((P' : Int) + (m : Int)) = (P' : Int) + (m : Int) := by rw [IntKind.wrap_i64]; omega
        have y2 : (P' : Int) + (m : Int) ≤ (N : Int) := by omega
        have y3 : (P' : Int) + (m : Int) ≤ (c1 : Int) := by omega
        have y4 : (P' : Int) ≤ (P' : Int) + (m : Int) := by omega
        have y5 : ((P' : Int) + (m : Int) - (P' : Int)).toNat = m := by omega
        have y6 : ((P' : Int) + (m : Int)).toNat = P' + m := by omega
        have y7 : P' + m - P' = m := by omega
        have HR7 : Hid _ := hr7
        have HR8 : Hid _ := hr8
        have hlen8 : (fs ++ [(⟨.slice a7 m c7, J', (ST.drop P').take m⟩ : Fm)]).length = nf + 1 := by rw [List.length_append, HRK5.out.2]; rfl
        have HX8 : Hid (RK textS w2 ((w8.setCell ⟨p, 2, none⟩ (.int .i64 ((P' : Int) + (m : Int)))).setCell ⟨p, 4, none⟩ (.int .i64 0)) p 1 (.slice (some ⟨g1, o1, none⟩) N c1) (.slice ao8 (nf + 1) co8) ST P J K (fs ++ [⟨.slice a7 m c7, J', (ST.drop P').take m⟩]) (P' + m) 0 K') := by
          have := hRK8
          rw [Int.natCast_add] at this
          exact this
        obtain ⟨k0, k1, k2, k3, k4⟩ := hbl8.at
        have z2 := hbl8.frz 2
        have z4 := hbl8.frz 4
        clear hr7 hr8 hb7 hf7 ho7 hRK6 hnil hsr6 hF57 hnv7 hRK7 hRK8 hbl8 HRK5 HLP
        go_upto_region 10 with fail
        rename_i Kc hKc
        refine wp_region_held (S := fun w' => w'.cell? ⟨p, 1, none⟩ = some (.slice (some ⟨g1, o1, none⟩) N c1) ∧ w'.cell? ⟨p, 2, none⟩ = some (.int .i64 (P' : Int))) (by kernel_rfl) ?_
        change wpAnyH _ _ _ _ _ _ _ _ (World.drew _)
        generalize w5.drew = w6 at *
        refine takeR (i := 0) (v := .slice none 0 0) (some 59) rfl rfl (by kernel_rfl) (by kernel_rfl) (by kernel_rfl) (fun _ _ _ h => h) (Or.inl ⟨by kernel_rfl, fun w' hSw => by kernel_rfl⟩) hSS6 ?_
        simp only [Act.put, List.setIfInBounds_toArray, List.set_cons_zero, List.set_cons_succ]
        refine takeR (i := 1) (v := .pointer (some ⟨p, 0, none⟩)) (some 60) rfl rfl (by kernel_rfl) (by kernel_rfl) (by kernel_rfl) (fun _ _ _ h => h) (Or.inl ⟨by kernel_rfl, fun w' hSw => by kernel_rfl⟩) hSS6 ?_
        simp only [Act.put, List.setIfInBounds_toArray, List.set_cons_zero, List.set_cons_succ]
        refine takeR (i := 2) (v := .pointer (some ⟨p, 0, none⟩)) (some 61) rfl rfl (by kernel_rfl) (by kernel_rfl) (by kernel_rfl) (fun _ _ _ h => h) (Or.inl ⟨by kernel_rfl, fun w' hSw => by kernel_rfl⟩) hSS6 ?_
        simp only [Act.put, List.setIfInBounds_toArray, List.set_cons_zero, List.set_cons_succ]
        refine takeR (i := 3) (v := .pointer (some ⟨p, 1, none⟩)) (some 62) rfl rfl (by kernel_rfl) (by kernel_rfl) (by kernel_rfl) (fun _ _ _ h => h) (Or.inl ⟨by kernel_rfl, fun w' hSw => by kernel_rfl⟩) hSS6 ?_
        simp only [Act.put, List.setIfInBounds_toArray, List.set_cons_zero, List.set_cons_succ]
        refine takeR (i := 4) (v := .slice (some ⟨g1, o1, none⟩) N c1) (some 63) rfl rfl (by kernel_rfl) (by kernel_rfl) (by kernel_rfl) (fun _ _ _ h => h) (Or.inl ⟨by kernel_rfl, fun w' hSw => by have q0 := hSw.1; go_simp⟩) hSS6 ?_
        simp only [Act.put, List.setIfInBounds_toArray, List.set_cons_zero, List.set_cons_succ]
        refine takeR (i := 5) (v := .pointer (some ⟨p, 0, none⟩)) (some 64) rfl rfl (by kernel_rfl) (by kernel_rfl) (by kernel_rfl) (fun _ _ _ h => h) (Or.inl ⟨by kernel_rfl, fun w' hSw => by kernel_rfl⟩) hSS6 ?_
        simp only [Act.put, List.setIfInBounds_toArray, List.set_cons_zero, List.set_cons_succ]
        refine takeR (i := 6) (v := .pointer (some ⟨p, 0, none⟩)) (some 65) rfl rfl (by kernel_rfl) (by kernel_rfl) (by kernel_rfl) (fun _ _ _ h => h) (Or.inl ⟨by kernel_rfl, fun w' hSw => by kernel_rfl⟩) hSS6 ?_
        simp only [Act.put, List.setIfInBounds_toArray, List.set_cons_zero, List.set_cons_succ]
        refine takeR (i := 7) (v := .pointer (some ⟨p, 2, none⟩)) (some 66) rfl rfl (by kernel_rfl) (by kernel_rfl) (by kernel_rfl) (fun _ _ _ h => h) (Or.inl ⟨by kernel_rfl, fun w' hSw => by kernel_rfl⟩) hSS6 ?_
        simp only [Act.put, List.setIfInBounds_toArray, List.set_cons_zero, List.set_cons_succ]
        refine takeR (i := 8) (v := .int .i64 (P' : Int)) (some 67) rfl rfl (by kernel_rfl) (by kernel_rfl) (by kernel_rfl) (fun _ _ _ h => h) (Or.inl ⟨by kernel_rfl, fun w' hSw => by have q0 := hSw.2; go_simp⟩) hSS6 ?_
        simp only [Act.put, List.setIfInBounds_toArray, List.set_cons_zero, List.set_cons_succ]
        refine takeR (i := 9) (v := .pointer (some ⟨p, 0, none⟩)) (some 68) rfl rfl (by kernel_rfl) (by kernel_rfl) (by kernel_rfl) (fun _ _ _ h => h) (Or.inl ⟨by kernel_rfl, fun w' hSw => by kernel_rfl⟩) hSS6 ?_
        simp only [Act.put, List.setIfInBounds_toArray, List.set_cons_zero, List.set_cons_succ]
        refine takeR (i := 10) (v := .pointer (some ⟨p, 0, none⟩)) (some 69) rfl rfl (by kernel_rfl) (by kernel_rfl) (by kernel_rfl) (fun _ _ _ h => h) (Or.inl ⟨by kernel_rfl, fun w' hSw => by kernel_rfl⟩) hSS6 ?_
        simp only [Act.put, List.setIfInBounds_toArray, List.set_cons_zero, List.set_cons_succ]
        refine takeR (i := 11) (v := .pointer (some ⟨p, 2, none⟩)) (some 70) rfl rfl (by kernel_rfl) (by kernel_rfl) (by kernel_rfl) (fun _ _ _ h => h) (Or.inl ⟨by kernel_rfl, fun w' hSw => by kernel_rfl⟩) hSS6 ?_
        simp only [Act.put, List.setIfInBounds_toArray, List.set_cons_zero, List.set_cons_succ]
        refine takeR (i := 12) (v := .int .i64 (P' : Int)) (some 71) rfl rfl (by kernel_rfl) (by kernel_rfl) (by kernel_rfl) (fun _ _ _ h => h) (Or.inl ⟨by kernel_rfl, fun w' hSw => by have q0 := hSw.2; go_simp⟩) hSS6 ?_
        simp only [Act.put, List.setIfInBounds_toArray, List.set_cons_zero, List.set_cons_succ]
        refine takeR (i := 13) (v := .int .i64 (m : Int)) (some 72) rfl rfl (by kernel_rfl) (by kernel_rfl) (by kernel_rfl) (fun _ _ _ h => h) (Or.inl ⟨by kernel_rfl, fun w' hSw => by kernel_rfl⟩) hSS6 ?_
        simp only [Act.put, List.setIfInBounds_toArray, List.set_cons_zero, List.set_cons_succ]
        refine takeR (i := 14) (v := .int .i64 ((P' : Int) + (m : Int))) (some 73) rfl rfl (by kernel_rfl) (by kernel_rfl) (by kernel_rfl) (fun _ _ _ h => h) (Or.inl ⟨by kernel_rfl, fun w' hSw => by clear hSw; go_simp⟩) hSS6 ?_
        simp only [Act.put, List.setIfInBounds_toArray, List.set_cons_zero, List.set_cons_succ]
        refine takeR (i := 15) (v := .slice (some ⟨g1, o1 + P', none⟩) m (c1 - P')) (some 74) rfl rfl (by kernel_rfl) (by kernel_rfl) (by kernel_rfl) (fun _ _ _ h => h) (Or.inl ⟨by kernel_rfl, fun w' hSw => by clear hSw; go_simp⟩) hSS6 ?_
        simp only [Act.put, List.setIfInBounds_toArray, List.set_cons_zero, List.set_cons_succ]
        refine wpAnyH_ready (rs := [16]) (by kernel_rfl) (by simp) ?_
        refine AllReadyH.cons rfl (fun K1 hK1 => ?_) AllReadyH.nil
        rw [if_pos (by kernel_rfl)]
        refine valR (d := some 75) rfl (.slice a7 m c7) (exec_append _ _ 22 rfl (by kernel_rfl) (by kernel_rfl) HR7.out) ?_
        refine hK1.out _ _ hSS7 (fun _ => ?_)
        clear hK1 hSS6 HR7
        simp only [Act.put, List.setIfInBounds_toArray, List.set_cons_zero, List.set_cons_succ]
        refine takeR (i := 17) (v := .slice a7 m c7) (some 8) rfl rfl (by kernel_rfl) (by kernel_rfl) (by kernel_rfl) (fun _ _ _ h => h) (Or.inl ⟨by kernel_rfl, fun w' hSw => by kernel_rfl⟩) hSS7 ?_
        simp only [Act.put, List.setIfInBounds_toArray, List.set_cons_zero, List.set_cons_succ]
        refine wpAnyH_done (by kernel_rfl) ?_ _
        refine hKc _ _ ?_
        clear hKc hSS7
        go_upto_region 11 with fail
        rename_i Kc hKc
        refine wp_region_lit ?_
        refine wpList_runTo rfl (some 76) rfl (.slice ao nf co) w7 (by kernel_rfl) ?_
        simp only [Act.put, List.setIfInBounds_toArray, List.set_cons_zero, List.set_cons_succ]
        refine wpList_runTo rfl (some 77) rfl (.slice a7 m c7) w7 (by kernel_rfl) ?_
        simp only [Act.put, List.setIfInBounds_toArray, List.set_cons_zero, List.set_cons_succ]
        refine wpList_runTo rfl (some 78) rfl (.pointer (some ⟨p, 0, none⟩)) w7 (by kernel_rfl) ?_
        simp only [Act.put, List.setIfInBounds_toArray, List.set_cons_zero, List.set_cons_succ]
        refine wpList_runTo rfl (some 79) rfl (.pointer (some ⟨p, 0, none⟩)) w7 (by kernel_rfl) ?_
        simp only [Act.put, List.setIfInBounds_toArray, List.set_cons_zero, List.set_cons_succ]
        refine wpList_runTo rfl (some 80) rfl (.pointer (some ⟨p, 4, none⟩)) w7 (by kernel_rfl) ?_
        simp only [Act.put, List.setIfInBounds_toArray, List.set_cons_zero, List.set_cons_succ]
        refine wpList_runTo rfl (some 81) rfl (.int .i64 (J' : Int)) w7 (by go_simp) ?_
        simp only [Act.put, List.setIfInBounds_toArray, List.set_cons_zero, List.set_cons_succ]
        refine wpList_runTo rfl (some 82) rfl (.agg #[.slice a7 m c7, .int .i64 (J' : Int)]) w7 (by kernel_rfl) ?_
        simp only [Act.put, List.setIfInBounds_toArray, List.set_cons_zero, List.set_cons_succ]
        refine wpList_runTo rfl (some 83) rfl (.slice (some ⟨w7.heap.size, 0, none⟩) 1 1) (w7.alloc (.cells #[.slice a7 m c7, .int .i64 (J' : Int)] 36)) (by kernel_rfl) ?_
        simp only [Act.put, List.setIfInBounds_toArray, List.set_cons_zero, List.set_cons_succ]
        refine wpList_runTo rfl (some 84) rfl (.slice ao8 (nf + 1) co8) w8 (exec_append _ _ 30 rfl (by kernel_rfl) (by kernel_rfl) HR8.out) ?_
        simp only [Act.put, List.setIfInBounds_toArray, List.set_cons_zero, List.set_cons_succ]
        refine wpList_runTo rfl (some 5) rfl (.slice ao8 (nf + 1) co8) w8 (by kernel_rfl) ?_
        simp only [Act.put, List.setIfInBounds_toArray, List.set_cons_zero, List.set_cons_succ]
        refine wpList_nil ?_
        refine hKc _ _ ?_
        clear hKc HR8 k74
        go_wp2
        go_roundw
        case rel => exact ⟨nf + 1, co8, ao8, rfl, _, P' + m, 0, K', HX8.out, hlen8⟩
        case measure => rw [HX8.out.blk.pos, HM0.out]; omega
    · have hlt' : ¬ (P' : Int) < (N : Int) := by omega
      refine takeR (i := 9) (v := .bool false) (some 27) rfl rfl (by kernel_rfl) (by kernel_rfl) (by kernel_rfl) (fun _ _ _ h => h) (Or.inl ⟨by kernel_rfl, fun w' hSw => by clear hSw; go_simp⟩) hSS ?_
      simp only [Act.put, List.setIfInBounds_toArray, List.set_cons_zero, List.set_cons_succ]
      refine wpAnyH_done (by kernel_rfl) ?_ _
      refine hKc _ _ ?_
      clear hKc
      have HX : Hid (RFE textS w w3 p 1 (.slice sa ns cs) (.slice ao nf co) ST P J K) := ⟨w2, _, fs, P', J', K', HF2.out.1, HF2.out.2.1, HF2.out.2.2, HRK1.out.1, .inr (by have := HN.out.1; omega)⟩
      clear HRK1 hSS
      go_wp2
      go_ret
      exact ⟨_, rfl, HX.out⟩
set_option maxRecDepth 100000 in
set_option maxHeartbeats 4000000 in
theorem refFeed_bin
    {w : World} {p P K J g : Nat} {vs va : Value} {st l : List UInt8} (hb : RFB w p 2 vs P K J) (hrow : ByAt w vs st) (hP : P ≤ st.length) (hpc : PcAt g w va l) (hl : st.length + l.length ≤ 1000000000) (hJ : J ≤ 1000000000) (hK : K ≤ 1000000000) :
    Calls Tryz.prog 38 #[.pointer (some ⟨p, 0, none⟩), va] w fun e w' => ∃ v, e = .returned v ∧ RFE binS w w' p 2 vs v (st ++ l) P J K := by
  obtain ⟨sa, cs, hvs, -⟩ := RowAt.form hrow
  obtain ⟨ns, hns⟩ : ∃ ns, st.length = ns := ⟨_, rfl⟩
  rw [hns] at hvs
  subst hvs
  obtain ⟨xa, xo, xc, hva, hxc, -⟩ := id hpc
  obtain ⟨xl, hxl⟩ : ∃ xl, l.length = xl := ⟨_, rfl⟩
  rw [hxl] at hva
  subst hva
  obtain ⟨a1, c1, w1, hr1, hb1, hf1, hn1⟩ := By_more hrow hns hpc hxl (by omega)
  have hpne : (Value.slice sa ns cs).ownBlock ≠ some p := RowAt.ne_type hrow hb (by decide)
  have hbl1 : RFB w1 p 2 (.slice sa ns cs) P K J := hb.fr hf1 hpne
  obtain ⟨N, hN⟩ : ∃ N, ns + xl = N := ⟨_, rfl⟩
  rw [hN] at hr1 hb1 hn1
  have hS2 : Fr w1 (w1.setCell ⟨p, 1, none⟩ (.slice a1 N c1)) (fun b => b = p) := Fr.setCell _ _ _ _ rfl
  have hb2 := hbl1.set1 (.slice a1 N c1)
  have hN1 : (st ++ l).length = N := by rw [List.length_append]; omega
  have hnep : (Value.slice a1 N c1).ownBlock ≠ some p := RowAt.ne_type hb1 hbl1 (by decide)
  have hby2 : ByAt (w1.setCell ⟨p, 1, none⟩ (.slice a1 N c1)) (.slice a1 N c1) (st ++ l) := RowAt.fr hb1 hS2 fun b hb e => hnep (e ▸ hb)
  obtain ⟨c0, c1', c2, c3, c4⟩ := hb.at
  obtain ⟨-, d1, -⟩ := hbl1.at
  have f1 := hbl1.frz 1
  have HF2 : Hid (Fr w (w1.setCell ⟨p, 1, none⟩ (.slice a1 N c1)) (fun b => b = p ∨ (Value.slice sa ns cs).ownBlock = some b) ∧ newer w (.slice sa ns cs) (.slice a1 N c1) ∧ ∀ b, (Value.slice a1 N c1).ownBlock = some b → b < (w1.setCell ⟨p, 1, none⟩ (.slice a1 N c1)).heap.size) := ⟨hf1.trans hS2 fun _ _ q => q.elim .inr .inl, hn1, fun b hb => (RowAt.lt hby2 hb).1⟩
  have HRK : Hid (RK binS (w1.setCell ⟨p, 1, none⟩ (.slice a1 N c1)) (w1.setCell ⟨p, 1, none⟩ (.slice a1 N c1)) p 2 (.slice a1 N c1) (.slice none 0 0) (st ++ l) P J K [] P J K) :=
    ⟨hb2, hby2, ⟨RowAt.none0 _ _ _, fun _ h => (by cases h), List.Pairwise.nil⟩, by rw [hN1]; omega, ⟨0, rfl, by simp [fsOf]⟩, Fr.refl _ _, fun _ h => (by cases h), fun _ h => (by cases h), by simp⟩
  have HN : Hid ((st ++ l).length = N ∧ N ≤ 1000000000) := ⟨hN1, by omega⟩
  have HR1 : Hid _ := hr1
  obtain ⟨ST, hST⟩ : ∃ ST, st ++ l = ST := ⟨_, rfl⟩
  rw [hST] at HRK HN ⊢
  clear hb hrow hpc hr1 hb1 hf1 hn1 hbl1 hS2 hb2 hby2 hnep hpne hN1 hST hxc c0 c2 c3 c4
  go_enter Tryz.func38, Tryz.ntmps38
  go_upto_region 1 with fail
  rename_i Kc hKc
  refine wp_region_lit ?_
  refine wpList_runTo rfl (some 9) rfl (.pointer (some ⟨p, 0, none⟩)) w (by kernel_rfl) ?_
  simp only [Act.put, List.setIfInBounds_toArray, List.set_cons_zero, List.set_cons_succ]
  refine wpList_runTo rfl (some 10) rfl (.pointer (some ⟨p, 0, none⟩)) w (by kernel_rfl) ?_
  simp only [Act.put, List.setIfInBounds_toArray, List.set_cons_zero, List.set_cons_succ]
  refine wpList_runTo rfl (some 11) rfl (.pointer (some ⟨p, 0, none⟩)) w (by kernel_rfl) ?_
  simp only [Act.put, List.setIfInBounds_toArray, List.set_cons_zero, List.set_cons_succ]
  refine wpList_runTo rfl (some 12) rfl (.pointer (some ⟨p, 1, none⟩)) w (by kernel_rfl) ?_
  simp only [Act.put, List.setIfInBounds_toArray, List.set_cons_zero, List.set_cons_succ]
  refine wpList_runTo rfl (some 13) rfl (.slice sa ns cs) w (by go_simp) ?_
  simp only [Act.put, List.setIfInBounds_toArray, List.set_cons_zero, List.set_cons_succ]
  refine wpList_runTo rfl (some 14) rfl (.slice xa xl xc) w (by kernel_rfl) ?_
  simp only [Act.put, List.setIfInBounds_toArray, List.set_cons_zero, List.set_cons_succ]
  refine wpList_runTo rfl (some 15) rfl (.slice a1 N c1) w1 (exec_append _ _ 22 rfl (by kernel_rfl) (by kernel_rfl) HR1.out) ?_
  simp only [Act.put, List.setIfInBounds_toArray, List.set_cons_zero, List.set_cons_succ]
  refine wpList_runTo rfl (some 16) rfl (.pointer (some ⟨p, 0, none⟩)) w1 (by kernel_rfl) ?_
  simp only [Act.put, List.setIfInBounds_toArray, List.set_cons_zero, List.set_cons_succ]
  refine wpList_runTo rfl (some 17) rfl (.pointer (some ⟨p, 1, none⟩)) w1 (by kernel_rfl) ?_
  simp only [Act.put, List.setIfInBounds_toArray, List.set_cons_zero, List.set_cons_succ]
  refine wpList_skipTo rfl rfl (w1.setCell ⟨p, 1, none⟩ (.slice a1 N c1)) (by go_simp) ?_
  refine wpList_nil ?_
  refine hKc _ _ ?_
  clear hKc HR1 c1' d1 f1
  generalize w1.setCell ⟨p, 1, none⟩ (.slice a1 N c1) = w2 at *
  go_wp2
  go_loopw [5, 6, 7, 8] (fun x5 _ _ _ wr => ∃ (nf co : Nat) (ao : Option Addr), x5 = .slice ao nf co ∧ Hid (∃ fs P' J' K', RK binS w2 wr p 2 (.slice a1 N c1) (.slice ao nf co) ST P J K fs P' J' K' ∧ fs.length = nf)) (fun _ _ _ _ wr => N - rfP wr p)
  case atStart => exact ⟨0, 0, none, rfl, [], P, J, K, HRK.out, rfl⟩
  case round =>
    obtain ⟨nf, co, ao, rfl, HJ⟩ := hrel
    obtain ⟨fs, P', J', K', hRK0, hfl⟩ := HJ.out
    have hRK := hRK0.sm ((Fr.refl wr (fun _ => False)).drew)
    obtain ⟨c0, c1', c2, c3, c4⟩ := hRK.blk.at
    have hcn := hRK.cnt
    have hpl := hRK.ple
    rw [HN.out.1] at hpl
    have hN9 := HN.out.2
    have hSS : wr.drew.cell? ⟨p, 1, none⟩ = some (.slice a1 N c1) ∧ wr.drew.cell? ⟨p, 2, none⟩ = some (.int .i64 (P' : Int)) := ⟨c1', c2⟩
    have HRK1 : Hid (RK binS w2 wr.drew p 2 (.slice a1 N c1) (.slice ao nf co) ST P J K fs P' J' K' ∧ fs.length = nf) := ⟨hRK, hfl⟩
    have HM0 : Hid (rfP wr p = P') := hRK0.blk.pos
    clear hRK hRK0 hfl HJ c1' c2 c3 c4 HRK
    go_upto_region 3 with fail
    rename_i Kc hKc
    refine wp_region_held (S := fun w' => w'.cell? ⟨p, 1, none⟩ = some (.slice a1 N c1) ∧ w'.cell? ⟨p, 2, none⟩ = some (.int .i64 (P' : Int))) (by kernel_rfl) ?_
    change wpAnyH _ _ _ _ _ _ _ _ (World.drew _)
    generalize wr.drew = w3 at *
    refine takeR (i := 0) (v := .pointer (some ⟨p, 0, none⟩)) (some 18) rfl rfl (by kernel_rfl) (by kernel_rfl) (by kernel_rfl) (fun _ _ _ h => h) (Or.inl ⟨by kernel_rfl, fun w' hSw => by kernel_rfl⟩) hSS ?_
    simp only [Act.put, List.setIfInBounds_toArray, List.set_cons_zero, List.set_cons_succ]
    refine takeR (i := 1) (v := .pointer (some ⟨p, 0, none⟩)) (some 19) rfl rfl (by kernel_rfl) (by kernel_rfl) (by kernel_rfl) (fun _ _ _ h => h) (Or.inl ⟨by kernel_rfl, fun w' hSw => by kernel_rfl⟩) hSS ?_
    simp only [Act.put, List.setIfInBounds_toArray, List.set_cons_zero, List.set_cons_succ]
    refine takeR (i := 2) (v := .pointer (some ⟨p, 2, none⟩)) (some 20) rfl rfl (by kernel_rfl) (by kernel_rfl) (by kernel_rfl) (fun _ _ _ h => h) (Or.inl ⟨by kernel_rfl, fun w' hSw => by kernel_rfl⟩) hSS ?_
    simp only [Act.put, List.setIfInBounds_toArray, List.set_cons_zero, List.set_cons_succ]
    refine takeR (i := 3) (v := .int .i64 (P' : Int)) (some 21) rfl rfl (by kernel_rfl) (by kernel_rfl) (by kernel_rfl) (fun _ _ _ h => h) (Or.inl ⟨by kernel_rfl, fun w' hSw => by have q0 := hSw.2; go_simp⟩) hSS ?_
    simp only [Act.put, List.setIfInBounds_toArray, List.set_cons_zero, List.set_cons_succ]
    refine takeR (i := 4) (v := .pointer (some ⟨p, 0, none⟩)) (some 22) rfl rfl (by kernel_rfl) (by kernel_rfl) (by kernel_rfl) (fun _ _ _ h => h) (Or.inl ⟨by kernel_rfl, fun w' hSw => by kernel_rfl⟩) hSS ?_
    simp only [Act.put, List.setIfInBounds_toArray, List.set_cons_zero, List.set_cons_succ]
    refine takeR (i := 5) (v := .pointer (some ⟨p, 0, none⟩)) (some 23) rfl rfl (by kernel_rfl) (by kernel_rfl) (by kernel_rfl) (fun _ _ _ h => h) (Or.inl ⟨by kernel_rfl, fun w' hSw => by kernel_rfl⟩) hSS ?_
    simp only [Act.put, List.setIfInBounds_toArray, List.set_cons_zero, List.set_cons_succ]
    refine takeR (i := 6) (v := .pointer (some ⟨p, 1, none⟩)) (some 24) rfl rfl (by kernel_rfl) (by kernel_rfl) (by kernel_rfl) (fun _ _ _ h => h) (Or.inl ⟨by kernel_rfl, fun w' hSw => by kernel_rfl⟩) hSS ?_
    simp only [Act.put, List.setIfInBounds_toArray, List.set_cons_zero, List.set_cons_succ]
    refine takeR (i := 7) (v := .slice a1 N c1) (some 25) rfl rfl (by kernel_rfl) (by kernel_rfl) (by kernel_rfl) (fun _ _ _ h => h) (Or.inl ⟨by kernel_rfl, fun w' hSw => by have q0 := hSw.1; go_simp⟩) hSS ?_
    simp only [Act.put, List.setIfInBounds_toArray, List.set_cons_zero, List.set_cons_succ]
    refine takeR (i := 8) (v := .int .i64 (N : Int)) (some 26) rfl rfl (by kernel_rfl) (by kernel_rfl) (by kernel_rfl) (fun _ _ _ h => h) (Or.inl ⟨by kernel_rfl, fun w' hSw => by kernel_rfl⟩) hSS ?_
    simp only [Act.put, List.setIfInBounds_toArray, List.set_cons_zero, List.set_cons_succ]
    by_cases hlt : P' < N
    · have hlt' : (P' : Int) < (N : Int) := by omega
      refine takeR (i := 9) (v := .bool true) (some 27) rfl rfl (by kernel_rfl) (by kernel_rfl) (by kernel_rfl) (fun _ _ _ h => h) (Or.inl ⟨by kernel_rfl, fun w' hSw => by clear hSw; go_simp⟩) hSS ?_
      simp only [Act.put, List.setIfInBounds_toArray, List.set_cons_zero, List.set_cons_succ]
      refine wpAnyH_done (by kernel_rfl) ?_ _
      refine hKc _ _ ?_
      clear hKc
      obtain ⟨g1, o1, c1'', cur, ea, -⟩ := RowAt.more HRK1.out.1.row (by rw [HN.out.1]; omega)
      injection ea with ea1 ea2 ea3
      subst ea1
      clear ea2 ea3
      have hc1N : N ≤ c1 := by
        obtain ⟨_, _, e, q⟩ := RowAt.form HRK1.out.1.row
        injection e with _ e1 e2
        omega
      have hlk := refBin_any (some ⟨g1, o1 + P', none⟩) (N - P') (c1 - P') (ST.drop P') w3.drew
        (LSrc.drop (ByAt.src (HRK1.out.1.sm ((Fr.refl w3 (fun _ => False)).drew)).row) P') (by rw [List.length_drop, HN.out.1]) (by omega) (by omega)
      obtain ⟨LP, hLP⟩ : ∃ LP, binP sizeF okF (ST.drop P') = LP := ⟨_, rfl⟩
      rw [hLP] at hlk
      have HLP : Hid (binS (ST.drop P') = LP.sight) := by show binS _ = _; unfold binS; rw [hLP]
      have HRK2 : Hid (RK binS w2 w3.drew p 2 (.slice (some ⟨g1, o1, none⟩) N c1) (.slice ao nf co) ST P J K fs P' J' K' ∧ fs.length = nf) := ⟨HRK1.out.1.sm ((Fr.refl w3 (fun _ => False)).drew), HRK1.out.2⟩
      have hSS2 : w3.drew.cell? ⟨p, 1, none⟩ = some (.slice (some ⟨g1, o1, none⟩) N c1) ∧ w3.drew.cell? ⟨p, 2, none⟩ = some (.int .i64 (P' : Int)) := ⟨HRK2.out.1.blk.at.2.1, HRK2.out.1.blk.at.2.2.1⟩
      have hPN : (P' : Int) ≤ (N : Int) := by omega
      have hPc : (P' : Int) ≤ (c1 : Int) := by omega
      have hPc2 : ¬ c1 = P' := by omega
      clear HRK1 hSS hLP
      go_upto_region 8 with fail
      rename_i Kc hKc
      refine wp_region_held (S := fun w' => w'.cell? ⟨p, 1, none⟩ = some (.slice (some ⟨g1, o1, none⟩) N c1) ∧ w'.cell? ⟨p, 2, none⟩ = some (.int .i64 (P' : Int))) (by kernel_rfl) ?_
      change wpAnyH _ _ _ _ _ _ _ _ (World.drew _)
      generalize w3.drew = w4 at *
      refine takeR (i := 0) (v := .pointer (some ⟨p, 0, none⟩)) (some 47) rfl rfl (by kernel_rfl) (by kernel_rfl) (by kernel_rfl) (fun _ _ _ h => h) (Or.inl ⟨by kernel_rfl, fun w' hSw => by kernel_rfl⟩) hSS2 ?_
      simp only [Act.put, List.setIfInBounds_toArray, List.set_cons_zero, List.set_cons_succ]
      refine takeR (i := 1) (v := .pointer (some ⟨p, 0, none⟩)) (some 48) rfl rfl (by kernel_rfl) (by kernel_rfl) (by kernel_rfl) (fun _ _ _ h => h) (Or.inl ⟨by kernel_rfl, fun w' hSw => by kernel_rfl⟩) hSS2 ?_
      simp only [Act.put, List.setIfInBounds_toArray, List.set_cons_zero, List.set_cons_succ]
      refine takeR (i := 2) (v := .pointer (some ⟨p, 1, none⟩)) (some 49) rfl rfl (by kernel_rfl) (by kernel_rfl) (by kernel_rfl) (fun _ _ _ h => h) (Or.inl ⟨by kernel_rfl, fun w' hSw => by kernel_rfl⟩) hSS2 ?_
      simp only [Act.put, List.setIfInBounds_toArray, List.set_cons_zero, List.set_cons_succ]
      refine takeR (i := 3) (v := .slice (some ⟨g1, o1, none⟩) N c1) (some 50) rfl rfl (by kernel_rfl) (by kernel_rfl) (by kernel_rfl) (fun _ _ _ h => h) (Or.inl ⟨by kernel_rfl, fun w' hSw => by have q0 := hSw.1; go_simp⟩) hSS2 ?_
      simp only [Act.put, List.setIfInBounds_toArray, List.set_cons_zero, List.set_cons_succ]
      refine takeR (i := 4) (v := .pointer (some ⟨p, 0, none⟩)) (some 51) rfl rfl (by kernel_rfl) (by kernel_rfl) (by kernel_rfl) (fun _ _ _ h => h) (Or.inl ⟨by kernel_rfl, fun w' hSw => by kernel_rfl⟩) hSS2 ?_
      simp only [Act.put, List.setIfInBounds_toArray, List.set_cons_zero, List.set_cons_succ]
      refine takeR (i := 5) (v := .pointer (some ⟨p, 0, none⟩)) (some 52) rfl rfl (by kernel_rfl) (by kernel_rfl) (by kernel_rfl) (fun _ _ _ h => h) (Or.inl ⟨by kernel_rfl, fun w' hSw => by kernel_rfl⟩) hSS2 ?_
      simp only [Act.put, List.setIfInBounds_toArray, List.set_cons_zero, List.set_cons_succ]
      refine takeR (i := 6) (v := .pointer (some ⟨p, 2, none⟩)) (some 53) rfl rfl (by kernel_rfl) (by kernel_rfl) (by kernel_rfl) (fun _ _ _ h => h) (Or.inl ⟨by kernel_rfl, fun w' hSw => by kernel_rfl⟩) hSS2 ?_
      simp only [Act.put, List.setIfInBounds_toArray, List.set_cons_zero, List.set_cons_succ]
      refine takeR (i := 7) (v := .int .i64 (P' : Int)) (some 54) rfl rfl (by kernel_rfl) (by kernel_rfl) (by kernel_rfl) (fun _ _ _ h => h) (Or.inl ⟨by kernel_rfl, fun w' hSw => by have q0 := hSw.2; go_simp⟩) hSS2 ?_
      simp only [Act.put, List.setIfInBounds_toArray, List.set_cons_zero, List.set_cons_succ]
      refine takeR (i := 8) (v := .slice (some ⟨g1, o1 + P', none⟩) (N - P') (c1 - P')) (some 55) rfl rfl (by kernel_rfl) (by kernel_rfl) (by kernel_rfl) (fun _ _ _ h => h) (Or.inl ⟨by kernel_rfl, fun w' hSw => by clear hSw; go_simp⟩) hSS2 ?_
      simp only [Act.put, List.setIfInBounds_toArray, List.set_cons_zero, List.set_cons_succ]
      refine wpAnyH_ready (rs := [9]) (by kernel_rfl) (by simp) ?_
      refine AllReadyH.cons rfl (fun K1 hK1 => ?_) AllReadyH.nil
      rw [if_pos (by kernel_rfl)]
      refine callR (d := some 56) rfl 70 #[.slice (some ⟨g1, o1 + P', none⟩) (N - P') (c1 - P')] (by kernel_rfl) hlk ?_
      rintro e w5 ⟨cb, m, rfl, hcd, hB5⟩
      have hRK5 := HRK2.out.1.sm (Fr.of_below hB5 (fun _ => False))
      have HRK5 : Hid (RK binS w2 w5 p 2 (.slice (some ⟨g1, o1, none⟩) N c1) (.slice ao nf co) ST P J K fs P' J' K' ∧ fs.length = nf) := ⟨hRK5, HRK2.out.2⟩
      have hSS5 : w5.cell? ⟨p, 1, none⟩ = some (.slice (some ⟨g1, o1, none⟩) N c1) ∧ w5.cell? ⟨p, 2, none⟩ = some (.int .i64 (P' : Int)) := ⟨hRK5.blk.at.2.1, hRK5.blk.at.2.2.1⟩
      have HCD : Hid (CdOK LP cb m) := hcd
      refine ⟨_, rfl, ?_⟩
      refine hK1.out _ _ hSS5 (fun _ => ?_)
      clear hK1 hB5 hSS2 hcd hlk HRK2 hRK5
      simp only [Act.put, List.setIfInBounds_toArray, List.set_cons_zero, List.set_cons_succ]
      refine takeR (i := 10) (v := .tuple #[.bool cb, .int .i64 (m : Int)]) (some 46) rfl rfl (by kernel_rfl) (by kernel_rfl) (by kernel_rfl) (fun _ _ _ h => h) (Or.inl ⟨by kernel_rfl, fun w' hSw => by kernel_rfl⟩) hSS5 ?_
      simp only [Act.put, List.setIfInBounds_toArray, List.set_cons_zero, List.set_cons_succ]
      refine takeR (i := 11) (v := .bool cb) (some 57) rfl rfl (by kernel_rfl) (by kernel_rfl) (by kernel_rfl) (fun _ _ _ h => h) (Or.inl ⟨by kernel_rfl, fun w' hSw => by kernel_rfl⟩) hSS5 ?_
      simp only [Act.put, List.setIfInBounds_toArray, List.set_cons_zero, List.set_cons_succ]
      refine takeR (i := 12) (v := .int .i64 (m : Int)) (some 58) rfl rfl (by kernel_rfl) (by kernel_rfl) (by kernel_rfl) (fun _ _ _ h => h) (Or.inl ⟨by kernel_rfl, fun w' hSw => by kernel_rfl⟩) hSS5 ?_
      simp only [Act.put, List.setIfInBounds_toArray, List.set_cons_zero, List.set_cons_succ]
      refine takeR (i := 13) (v := .bool cb) (some 6) rfl rfl (by kernel_rfl) (by kernel_rfl) (by kernel_rfl) (fun _ _ _ h => h) (Or.inl ⟨by kernel_rfl, fun w' hSw => by kernel_rfl⟩) hSS5 ?_
      simp only [Act.put, List.setIfInBounds_toArray, List.set_cons_zero, List.set_cons_succ]
      refine takeR (i := 14) (v := .int .i64 (m : Int)) (some 7) rfl rfl (by kernel_rfl) (by kernel_rfl) (by kernel_rfl) (fun _ _ _ h => h) (Or.inl ⟨by kernel_rfl, fun w' hSw => by kernel_rfl⟩) hSS5 ?_
      simp only [Act.put, List.setIfInBounds_toArray, List.set_cons_zero, List.set_cons_succ]
      refine wpAnyH_done (by kernel_rfl) ?_ _
      refine hKc _ _ ?_
      clear hKc hSS5
      cases LP with
      | wrong =>
        have hcb : cb = false := HCD.out
        subst hcb
        have hj := (HRK5.out.1.junk binS_steady HLP.out).1
        rw [Int.natCast_add, Int.natCast_add, Int.natCast_add] at hj
        have HX : Hid (RK binS w2 (((w5.setCell ⟨p, 2, none⟩ (.int .i64 ((P' : Int) + 1))).setCell ⟨p, 3, none⟩ (.int .i64 ((K' : Int) + 1))).setCell ⟨p, 4, none⟩ (.int .i64 ((J' : Int) + 1))) p 2 (.slice (some ⟨g1, o1, none⟩) N c1) (.slice ao nf co) ST P J K fs (P' + 1) (J' + 1) (K' + 1) ∧ fs.length = nf) := ⟨hj, HRK5.out.2⟩
        obtain ⟨k0, k1, k2, k3, k4⟩ := HRK5.out.1.blk.at
        have z2 := HRK5.out.1.blk.frz 2
        have z3 := HRK5.out.1.blk.frz 3
        have z4 := HRK5.out.1.blk.frz 4
        have y2 : IntKind.i64.wrap ((P' : Int) + 1) = (P' : Int) + 1 := by rw [IntKind.wrap_i64]; omega
        have y3 : IntKind.i64.wrap ((K' : Int) + 1) = (K' : Int) + 1 := by rw [IntKind.wrap_i64]; omega
        have y4 : IntKind.i64.wrap ((J' : Int) + 1) = (J' : Int) + 1 := by rw [IntKind.wrap_i64]; omega
        clear hj HRK5 HCD HLP c0
        go_wp2
        go_roundw
        case rel => exact ⟨nf, co, ao, rfl, fs, P' + 1, J' + 1, K' + 1, HX.out.1, HX.out.2⟩
        case measure => rw [HX.out.1.blk.pos, HM0.out]; omega
      | begun q =>
        obtain ⟨hcb, hm⟩ := (show cb = true ∧ m = 0 from HCD.out)
        subst hcb
        have hm' : (m : Int) = 0 := by omega
        have HX : Hid (RFE binS w w5 p 2 (.slice sa ns cs) (.slice ao nf co) ST P J K) := ⟨w2, _, fs, P', J', K', HF2.out.1, HF2.out.2.1, HF2.out.2.2, HRK5.out.1, .inl ⟨q, HLP.out⟩⟩
        clear HRK5 HCD HLP c0 hm
        go_wp2
        go_ret
        exact ⟨_, rfl, HX.out⟩
      | whole q =>
        obtain ⟨hcb, hm⟩ := (show cb = true ∧ m = q from HCD.out)
        subst hcb
        subst hm
        obtain ⟨hm0, hmN, -⟩ := binS_steady.whole HLP.out
        rw [List.length_drop, HN.out.1] at hmN
        have hm' : ¬ (m : Int) = 0 := by omega
        clear HCD c0
        have hRK6 := HRK5.out.1.sm ((Fr.refl w5 (fun _ => False)).drew)
        have hnil : ByAt w5.drew (.slice none 0 0) [] := RowAt.none0 w5.drew 5 1
        have hsr6 : LSrc w5.drew (some ⟨g1, o1 + P', none⟩) ((ST.drop P').take m) := ((ByAt.src hRK6.row).drop P').take m
        obtain ⟨a7, c7, w7, hr7, hb7, hf7, ho7⟩ := By_app (n := 0) (m := m) (c := c1 - P') hnil rfl hsr6 (by rw [List.length_take, List.length_drop, HN.out.1]; omega) hm0 (by omega)
        rw [Nat.zero_add] at hr7 hb7 ho7
        rw [List.nil_append] at hb7
        have hF57 : Fr w5 w7 (fun _ => False) := ((Fr.refl w5 (fun _ => False)).drew).trans hf7 fun b' _ q => q.elim id fun q => by cases q
        have hnv7 : ∀ b, (Value.slice a7 m c7).ownBlock = some b → w5.heap.size ≤ b := fun b hb => by
          rcases ho7 with q | ⟨b', q, hb'⟩
          · rw [q] at hb; cases hb
          · rw [q] at hb; injection hb with hb
            have : w5.drew.heap.size = w5.heap.size := rfl
            omega
        obtain ⟨v8, w8, hr8, hbl8, hRK8, -, -, ao8, co8, hv8⟩ := HRK5.out.1.whole binS_steady HLP.out hb7 hF57 hnv7 (by rw [HN.out.1]; omega)
        rw [HRK5.out.2] at hv8
        subst hv8
        have hRK7 := HRK5.out.1.sm hF57
        have hSS6 : w5.drew.cell? ⟨p, 1, none⟩ = some (.slice (some ⟨g1, o1, none⟩) N c1) ∧ w5.drew.cell? ⟨p, 2, none⟩ = some (.int .i64 (P' : Int)) := ⟨hRK6.blk.at.2.1, hRK6.blk.at.2.2.1⟩
        have hSS7 : w7.cell? ⟨p, 1, none⟩ = some (.slice (some ⟨g1, o1, none⟩) N c1) ∧ w7.cell? ⟨p, 2, none⟩ = some (.int .i64 (P' : Int)) := ⟨hRK7.blk.at.2.1, hRK7.blk.at.2.2.1⟩
        have k74 := hRK7.blk.at.2.2.2.2
        have y1 : IntKind.i64.wrap ((P' : Int) + (m : Int)) = (P' : Int) + (m : Int) := by rw [IntKind.wrap_i64]; omega
        have y2 : (P' : Int) + (m : Int) ≤ (N : Int) := by omega
        have y3 : (P' : Int) + (m : Int) ≤ (c1 : Int) := by omega
        have y4 : (P' : Int) ≤ (P' : Int) + (m : Int) := by omega
        have y5 : ((P' : Int) + (m : Int) - (P' : Int)).toNat = m := by omega
        have y6 : ((P' : Int) + (m : Int)).toNat = P' + m := by omega
        have y7 : P' + m - P' = m := by omega
        have HR7 : Hid _ := hr7
        have HR8 : Hid _ := hr8
        have hlen8 : (fs ++ [(⟨.slice a7 m c7, J', (ST.drop P').take m⟩ : Fm)]).length = nf + 1 := by rw [List.length_append, HRK5.out.2]; rfl
        have HX8 : Hid (RK binS w2 ((w8.setCell ⟨p, 2, none⟩ (.int .i64 ((P' : Int) + (m : Int)))).setCell ⟨p, 4, none⟩ (.int .i64 0)) p 2 (.slice (some ⟨g1, o1, none⟩) N c1) (.slice ao8 (nf + 1) co8) ST P J K (fs ++ [⟨.slice a7 m c7, J', (ST.drop P').take m⟩]) (P' + m) 0 K') := by
          have := hRK8
          rw [Int.natCast_add] at this
          exact this
        obtain ⟨k0, k1, k2, k3, k4⟩ := hbl8.at
        have z2 := hbl8.frz 2
        have z4 := hbl8.frz 4
        clear hr7 hr8 hb7 hf7 ho7 hRK6 hnil hsr6 hF57 hnv7 hRK7 hRK8 hbl8 HRK5 HLP
        go_upto_region 10 with fail
        rename_i Kc hKc
        refine wp_region_held (S := fun w' => w'.cell? ⟨p, 1, none⟩ = some (.slice (some ⟨g1, o1, none⟩) N c1) ∧ w'.cell? ⟨p, 2, none⟩ = some (.int .i64 (P' : Int))) (by kernel_rfl) ?_
        change wpAnyH _ _ _ _ _ _ _ _ (World.drew _)
        generalize w5.drew = w6 at *
        refine takeR (i := 0) (v := .slice none 0 0) (some 59) rfl rfl (by kernel_rfl) (by kernel_rfl) (by kernel_rfl) (fun _ _ _ h => h) (Or.inl ⟨by kernel_rfl, fun w' hSw => by kernel_rfl⟩) hSS6 ?_
        simp only [Act.put, List.setIfInBounds_toArray, List.set_cons_zero, List.set_cons_succ]
        refine takeR (i := 1) (v := .pointer (some ⟨p, 0, none⟩)) (some 60) rfl rfl (by kernel_rfl) (by kernel_rfl) (by kernel_rfl) (fun _ _ _ h => h) (Or.inl ⟨by kernel_rfl, fun w' hSw => by kernel_rfl⟩) hSS6 ?_
        simp only [Act.put, List.setIfInBounds_toArray, List.set_cons_zero, List.set_cons_succ]
        refine takeR (i := 2) (v := .pointer (some ⟨p, 0, none⟩)) (some 61) rfl rfl (by kernel_rfl) (by kernel_rfl) (by kernel_rfl) (fun _ _ _ h => h) (Or.inl ⟨by kernel_rfl, fun w' hSw => by kernel_rfl⟩) hSS6 ?_
        simp only [Act.put, List.setIfInBounds_toArray, List.set_cons_zero, List.set_cons_succ]
        refine takeR (i := 3) (v := .pointer (some ⟨p, 1, none⟩)) (some 62) rfl rfl (by kernel_rfl) (by kernel_rfl) (by kernel_rfl) (fun _ _ _ h => h) (Or.inl ⟨by kernel_rfl, fun w' hSw => by kernel_rfl⟩) hSS6 ?_
        simp only [Act.put, List.setIfInBounds_toArray, List.set_cons_zero, List.set_cons_succ]
        refine takeR (i := 4) (v := .slice (some ⟨g1, o1, none⟩) N c1) (some 63) rfl rfl (by kernel_rfl) (by kernel_rfl) (by kernel_rfl) (fun _ _ _ h => h) (Or.inl ⟨by kernel_rfl, fun w' hSw => by have q0 := hSw.1; go_simp⟩) hSS6 ?_
        simp only [Act.put, List.setIfInBounds_toArray, List.set_cons_zero, List.set_cons_succ]
        refine takeR (i := 5) (v := .pointer (some ⟨p, 0, none⟩)) (some 64) rfl rfl (by kernel_rfl) (by kernel_rfl) (by kernel_rfl) (fun _ _ _ h => h) (Or.inl ⟨by kernel_rfl, fun w' hSw => by kernel_rfl⟩) hSS6 ?_
        simp only [Act.put, List.setIfInBounds_toArray, List.set_cons_zero, List.set_cons_succ]
        refine takeR (i := 6) (v := .pointer (some ⟨p, 0, none⟩)) (some 65) rfl rfl (by kernel_rfl) (by kernel_rfl) (by kernel_rfl) (fun _ _ _ h => h) (Or.inl ⟨by kernel_rfl, fun w' hSw => by kernel_rfl⟩) hSS6 ?_
        simp only [Act.put, List.setIfInBounds_toArray, List.set_cons_zero, List.set_cons_succ]
        refine takeR (i := 7) (v := .pointer (some ⟨p, 2, none⟩)) (some 66) rfl rfl (by kernel_rfl) (by kernel_rfl) (by kernel_rfl) (fun _ _ _ h => h) (Or.inl ⟨by kernel_rfl, fun w' hSw => by kernel_rfl⟩) hSS6 ?_
        simp only [Act.put, List.setIfInBounds_toArray, List.set_cons_zero, List.set_cons_succ]
        refine takeR (i := 8) (v := .int .i64 (P' : Int)) (some 67) rfl rfl (by kernel_rfl) (by kernel_rfl) (by kernel_rfl) (fun _ _ _ h => h) (Or.inl ⟨by kernel_rfl, fun w' hSw => by have q0 := hSw.2; go_simp⟩) hSS6 ?_
        simp only [Act.put, List.setIfInBounds_toArray, List.set_cons_zero, List.set_cons_succ]
        refine takeR (i := 9) (v := .pointer (some ⟨p, 0, none⟩)) (some 68) rfl rfl (by kernel_rfl) (by kernel_rfl) (by kernel_rfl) (fun _ _ _ h => h) (Or.inl ⟨by kernel_rfl, fun w' hSw => by kernel_rfl⟩) hSS6 ?_
        simp only [Act.put, List.setIfInBounds_toArray, List.set_cons_zero, List.set_cons_succ]
        refine takeR (i := 10) (v := .pointer (some ⟨p, 0, none⟩)) (some 69) rfl rfl (by kernel_rfl) (by kernel_rfl) (by kernel_rfl) (fun _ _ _ h => h) (Or.inl ⟨by kernel_rfl, fun w' hSw => by kernel_rfl⟩) hSS6 ?_
        simp only [Act.put, List.setIfInBounds_toArray, List.set_cons_zero, List.set_cons_succ]
        refine takeR (i := 11) (v := .pointer (some ⟨p, 2, none⟩)) (some 70) rfl rfl (by kernel_rfl) (by kernel_rfl) (by kernel_rfl) (fun _ _ _ h => h) (Or.inl ⟨by kernel_rfl, fun w' hSw => by kernel_rfl⟩) hSS6 ?_
        simp only [Act.put, List.setIfInBounds_toArray, List.set_cons_zero, List.set_cons_succ]
        refine takeR (i := 12) (v := .int .i64 (P' : Int)) (some 71) rfl rfl (by kernel_rfl) (by kernel_rfl) (by kernel_rfl) (fun _ _ _ h => h) (Or.inl ⟨by kernel_rfl, fun w' hSw => by have q0 := hSw.2; go_simp⟩) hSS6 ?_
        simp only [Act.put, List.setIfInBounds_toArray, List.set_cons_zero, List.set_cons_succ]
        refine takeR (i := 13) (v := .int .i64 (m : Int)) (some 72) rfl rfl (by kernel_rfl) (by kernel_rfl) (by kernel_rfl) (fun _ _ _ h => h) (Or.inl ⟨by kernel_rfl, fun w' hSw => by kernel_rfl⟩) hSS6 ?_
        simp only [Act.put, List.setIfInBounds_toArray, List.set_cons_zero, List.set_cons_succ]
        refine takeR (i := 14) (v := .int .i64 ((P' : Int) + (m : Int))) (some 73) rfl rfl (by kernel_rfl) (by kernel_rfl) (by kernel_rfl) (fun _ _ _ h => h) (Or.inl ⟨by kernel_rfl, fun w' hSw => by clear hSw; go_simp⟩) hSS6 ?_
        simp only [Act.put, List.setIfInBounds_toArray, List.set_cons_zero, List.set_cons_succ]
        refine takeR (i := 15) (v := .slice (some ⟨g1, o1 + P', none⟩) m (c1 - P')) (some 74) rfl rfl (by kernel_rfl) (by kernel_rfl) (by kernel_rfl) (fun _ _ _ h => h) (Or.inl ⟨by kernel_rfl, fun w' hSw => by clear hSw; go_simp⟩) hSS6 ?_
        simp only [Act.put, List.setIfInBounds_toArray, List.set_cons_zero, List.set_cons_succ]
        refine wpAnyH_ready (rs := [16]) (by kernel_rfl) (by simp) ?_
        refine AllReadyH.cons rfl (fun K1 hK1 => ?_) AllReadyH.nil
        rw [if_pos (by kernel_rfl)]
        refine valR (d := some 75) rfl (.slice a7 m c7) (exec_append _ _ 22 rfl (by kernel_rfl) (by kernel_rfl) HR7.out) ?_
        refine hK1.out _ _ hSS7 (fun _ => ?_)
        clear hK1 hSS6 HR7
        simp only [Act.put, List.setIfInBounds_toArray, List.set_cons_zero, List.set_cons_succ]
        refine takeR (i := 17) (v := .slice a7 m c7) (some 8) rfl rfl (by kernel_rfl) (by kernel_rfl) (by kernel_rfl) (fun _ _ _ h => h) (Or.inl ⟨by kernel_rfl, fun w' hSw => by kernel_rfl⟩) hSS7 ?_
        simp only [Act.put, List.setIfInBounds_toArray, List.set_cons_zero, List.set_cons_succ]
        refine wpAnyH_done (by kernel_rfl) ?_ _
        refine hKc _ _ ?_
        clear hKc hSS7
        go_upto_region 11 with fail
        rename_i Kc hKc
        refine wp_region_lit ?_
        refine wpList_runTo rfl (some 76) rfl (.slice ao nf co) w7 (by kernel_rfl) ?_
        simp only [Act.put, List.setIfInBounds_toArray, List.set_cons_zero, List.set_cons_succ]
        refine wpList_runTo rfl (some 77) rfl (.slice a7 m c7) w7 (by kernel_rfl) ?_
        simp only [Act.put, List.setIfInBounds_toArray, List.set_cons_zero, List.set_cons_succ]
        refine wpList_runTo rfl (some 78) rfl (.pointer (some ⟨p, 0, none⟩)) w7 (by kernel_rfl) ?_
        simp only [Act.put, List.setIfInBounds_toArray, List.set_cons_zero, List.set_cons_succ]
        refine wpList_runTo rfl (some 79) rfl (.pointer (some ⟨p, 0, none⟩)) w7 (by kernel_rfl) ?_
        simp only [Act.put, List.setIfInBounds_toArray, List.set_cons_zero, List.set_cons_succ]
        refine wpList_runTo rfl (some 80) rfl (.pointer (some ⟨p, 4, none⟩)) w7 (by kernel_rfl) ?_
        simp only [Act.put, List.setIfInBounds_toArray, List.set_cons_zero, List.set_cons_succ]
        refine wpList_runTo rfl (some 81) rfl (.int .i64 (J' : Int)) w7 (by go_simp) ?_
        simp only [Act.put, List.setIfInBounds_toArray, List.set_cons_zero, List.set_cons_succ]
        refine wpList_runTo rfl (some 82) rfl (.agg #[.slice a7 m c7, .int .i64 (J' : Int)]) w7 (by kernel_rfl) ?_
        simp only [Act.put, List.setIfInBounds_toArray, List.set_cons_zero, List.set_cons_succ]
        refine wpList_runTo rfl (some 83) rfl (.slice (some ⟨w7.heap.size, 0, none⟩) 1 1) (w7.alloc (.cells #[.slice a7 m c7, .int .i64 (J' : Int)] 36)) (by kernel_rfl) ?_
        simp only [Act.put, List.setIfInBounds_toArray, List.set_cons_zero, List.set_cons_succ]
        refine wpList_runTo rfl (some 84) rfl (.slice ao8 (nf + 1) co8) w8 (exec_append _ _ 30 rfl (by kernel_rfl) (by kernel_rfl) HR8.out) ?_
        simp only [Act.put, List.setIfInBounds_toArray, List.set_cons_zero, List.set_cons_succ]
        refine wpList_runTo rfl (some 5) rfl (.slice ao8 (nf + 1) co8) w8 (by kernel_rfl) ?_
        simp only [Act.put, List.setIfInBounds_toArray, List.set_cons_zero, List.set_cons_succ]
        refine wpList_nil ?_
        refine hKc _ _ ?_
        clear hKc HR8 k74
        go_wp2
        go_roundw
        case rel => exact ⟨nf + 1, co8, ao8, rfl, _, P' + m, 0, K', HX8.out, hlen8⟩
        case measure => rw [HX8.out.blk.pos, HM0.out]; omega
    · have hlt' : ¬ (P' : Int) < (N : Int) := by omega
      refine takeR (i := 9) (v := .bool false) (some 27) rfl rfl (by kernel_rfl) (by kernel_rfl) (by kernel_rfl) (fun _ _ _ h => h) (Or.inl ⟨by kernel_rfl, fun w' hSw => by clear hSw; go_simp⟩) hSS ?_
      simp only [Act.put, List.setIfInBounds_toArray, List.set_cons_zero, List.set_cons_succ]
      refine wpAnyH_done (by kernel_rfl) ?_ _
      refine hKc _ _ ?_
      clear hKc
      have HX : Hid (RFE binS w w3 p 2 (.slice sa ns cs) (.slice ao nf co) ST P J K) := ⟨w2, _, fs, P', J', K', HF2.out.1, HF2.out.2.1, HF2.out.2.2, HRK1.out.1, .inr (by have := HN.out.1; omega)⟩
      clear HRK1 hSS
      go_wp2
      go_ret
      exact ⟨_, rfl, HX.out⟩
end Go.Proofs.YtkpoheknmcepnaaGreatDoor
