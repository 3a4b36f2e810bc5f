/-
  LedgerDays, LedgerBreaks: does, whatever is known of the ledger.
-/
import Derived.Test.YtidhahooebepfaaJDay0
namespace Go.Proofs.Ytidhahooebepfaa
set_option linter.unusedVariables false
set_option linter.unusedSimpArgs false
open Go.RowKit Go.Great Go.Maps

set_option maxRecDepth 100000 in
set_option maxHeartbeats 4000000 in
theorem does_gen {W : World} {g N : Nat} {own : Nat → Prop} {P R1 R2 : World → Prop} (d : Dd) (hd : d.ok) (hP : ∀ X X', P X → Below X.heap.size X X' → P X') (hW : P W) (hN : N ≤ 300) (how : ¬ own W.heap.size) (hk6 : pickN d.k 7 < 6)
    (hTr : ∀ X, P X → Calls Try.prog 10 #[.pointer (some ⟨g, 0, none⟩), .string (syOf (pickN d.s 3)), .string (accOf (pickN d.b 5)), .string (accOf (pickN d.e 5)), .int .i64 (1 + (pickN d.p 1000000000 : Int)), .int .i64 (1 + (pickN d.q 1000000 : Int)), .int .i64 ((pickN d.f 2001 : Int) - 1000), .int .i64 ((pickN (d.f.tdiv 7) 2001 : Int) - 1000)] X fun e w' => e = .returned (.int .i64 0) ∧ Hid (R1 w' ∧ Fr X w' own))
    (hBr : pickN d.k 7 = 5 → ∀ X, P X → ∀ n : Int, 1 ≤ n → Calls Try.prog 12 #[.pointer (some ⟨g, 0, none⟩), .int .i64 n] X fun e w' => ∃ c : Int, e = .returned (.int .i64 c) ∧ (c = 0 ∨ c = 121 ∨ c = 111 ∨ c = 2) ∧ Hid (R2 w')) :
    Calls Try.prog 14 #[.pointer (some ⟨g, 0, none⟩), .agg d.cs, .int .i64 (N : Int)] W fun e w' => ∃ n : Nat, e = .returned (.tuple #[.int .i64 (n : Int), .bool true]) ∧ Hid (pickN d.k 7 < 5 ∧ n = N + 1 ∧ R1 w' ∨ pickN d.k 7 = 5 ∧ n = N ∧ R2 w') := by
  obtain ⟨dk, ds, db, de, dp, dq, df⟩ := d
  obtain ⟨b1, b2, b3, b4, b5, b6, b7⟩ := hd
  simp only [Dd.cs] at *
  have HP : Hid (∀ X X', P X → Below X.heap.size X X' → P X') := hP
  have HTr : Hid _ := hTr
  have HBr : Hid _ := hBr
  have hpk := fun w => pick_any dk 7 7 rfl w (by omega) (by omega) b1.1 b1.2
  have hpl := pickN_lt dk (show 0 < 7 by omega)
  have h8 := tdiv7 b7
  have HSy : Hid (∀ w, Calls Try.prog 17 #[.int .i64 ds] w fun e w' => e = .returned (.string (syOf (pickN ds 3))) ∧ Below w.heap.size w w') := fun w => symbol_any ds w b2.1 b2.2
  have HBu : Hid (∀ w, Calls Try.prog 16 #[.int .i64 db] w fun e w' => e = .returned (.string (accOf (pickN db 5))) ∧ Below w.heap.size w w') := fun w => account_any db w b3.1 b3.2
  have HSe : Hid (∀ w, Calls Try.prog 16 #[.int .i64 de] w fun e w' => e = .returned (.string (accOf (pickN de 5))) ∧ Below w.heap.size w w') := fun w => account_any de w b4.1 b4.2
  have HPr : Hid (∀ w, Calls Try.prog 11 #[.int .i64 dp, .int .i64 1000000000] w fun e w' => e = .returned (.int .i64 (pickN dp 1000000000 : Int)) ∧ w' = w) := fun w => pick_any dp 1000000000 1000000000 rfl w (by omega) (by omega) b5.1 b5.2
  have HQt : Hid (∀ w, Calls Try.prog 11 #[.int .i64 dq, .int .i64 1000000] w fun e w' => e = .returned (.int .i64 (pickN dq 1000000 : Int)) ∧ w' = w) := fun w => pick_any dq 1000000 1000000 rfl w (by omega) (by omega) b6.1 b6.2
  have HFe : Hid (∀ w, Calls Try.prog 11 #[.int .i64 df, .int .i64 2001] w fun e w' => e = .returned (.int .i64 (pickN df 2001 : Int)) ∧ w' = w) := fun w => pick_any df 2001 2001 rfl w (by omega) (by omega) b7.1 b7.2
  have HFh : Hid (∀ w, Calls Try.prog 11 #[.int .i64 (df.tdiv 7), .int .i64 2001] w fun e w' => e = .returned (.int .i64 (pickN (df.tdiv 7) 2001 : Int)) ∧ w' = w) := fun w => pick_any (df.tdiv 7) 2001 2001 rfl w (by omega) (by omega) h8.1 h8.2
  have p1 := pickN_lt dp (show 0 < 1000000000 by omega)
  have q1 := pickN_lt dq (show 0 < 1000000 by omega)
  have f1 := pickN_lt df (show 0 < 2001 by omega)
  have g1 := pickN_lt (df.tdiv 7) (show 0 < 2001 by omega)
  have HB7 : Hid (i64B df) := b7
  have HPn : Hid (∀ w, Calls Try.prog 11 #[.int .i64 dp, .int .i64 ((N : Int) + 1)] w fun e w' => e = .returned (.int .i64 (pickN dp (N + 1) : Int)) ∧ w' = w) := fun w => pick_any dp _ (N + 1) (by omega) w (by omega) (by omega) b5.1 b5.2
  have pn := pickN_lt dp (show 0 < N + 1 by omega)
  have HX : Hid (P (W.alloc (.cells #[.int .i64 dk, .int .i64 ds, .int .i64 db, .int .i64 de, .int .i64 dp, .int .i64 dq, .int .i64 df] 36)) ∧ Blk (W.alloc (.cells #[.int .i64 dk, .int .i64 ds, .int .i64 db, .int .i64 de, .int .i64 dp, .int .i64 dq, .int .i64 df] 36)) W.heap.size 36 #[.int .i64 dk, .int .i64 ds, .int .i64 db, .int .i64 de, .int .i64 dp, .int .i64 dq, .int .i64 df] ∧ ¬ own W.heap.size) := ⟨hP _ _ hW ((Below.refl _ W).alloc (Nat.le_refl _) _), Blk.new _ _ _, how⟩
  clear hP hTr hBr hW how b1 b2 b3 b4 b5 b6 b7 h8
  generalize pickN dk 7 = zk at *
  generalize syOf (pickN ds 3) = sy at *
  generalize accOf (pickN db 5) = bu at *
  generalize accOf (pickN de 5) = se at *
  generalize pickN dp 1000000000 = zp at *
  generalize pickN dq 1000000 = zq at *
  generalize pickN df 2001 = zf at *
  generalize pickN (df.tdiv 7) 2001 = zh at *
  generalize pickN dp (N + 1) = zn at *
  go_enter Try.func14, Try.ntmps14
  go_wp2_with (go_at_call 11; fail)
  refine (hpk _).mono ?_
  rintro e w1 ⟨rfl, ew⟩
  replace ew := ew.symm
  subst ew
  clear hpk
  generalize W.alloc (.cells #[.int .i64 dk, .int .i64 ds, .int .i64 db, .int .i64 de, .int .i64 dp, .int .i64 dq, .int .i64 df] 36) = X at *
  generalize W.heap.size = bb at *
  by_cases hk5 : zk < 5
  · have hk5' : (zk : Int) < 5 := by omega
    go_upto_region 3 with fail
    rename_i K3 hK3
    refine wp_region_held (S := fun w' => Blk w' bb 36 #[.int .i64 dk, .int .i64 ds, .int .i64 db, .int .i64 de, .int .i64 dp, .int .i64 dq, .int .i64 df]) (by kernel_rfl) ?_
    change wpAnyH _ _ _ _ _ _ _ _ (World.drew _)
    have hbd := below_drew X
    have HX0 : Hid (P X.drew) := HP.out _ _ HX.out.1 hbd
    have hS : Blk X.drew bb 36 #[.int .i64 dk, .int .i64 ds, .int .i64 db, .int .i64 de, .int .i64 dp, .int .i64 dq, .int .i64 df] := HX.out.2.1.below hbd HX.out.2.1.lt
    have HOw : Hid (¬ own bb) := HX.out.2.2
    clear HX hbd
    generalize X.drew = Z at *
    refine takeR (i := 0) (v := .pointer (some ⟨g, 0, none⟩)) (some 17) rfl rfl (by kernel_rfl) (by kernel_rfl) (by kernel_rfl) (fun _ _ _ h => h) (Or.inl ⟨by kernel_rfl, fun w' hSw => by kernel_rfl⟩) hS ?_
    simp only [Act.put, List.setIfInBounds_toArray, List.set_cons_zero, List.set_cons_succ]
    refine takeR (i := 1) (v := .pointer (some ⟨bb, 1, none⟩)) (some 18) rfl rfl (by kernel_rfl) (by kernel_rfl) (by kernel_rfl) (fun _ _ _ h => h) (Or.inl ⟨by kernel_rfl, fun w' hSw => by kernel_rfl⟩) hS ?_
    simp only [Act.put, List.setIfInBounds_toArray, List.set_cons_zero, List.set_cons_succ]
    refine takeR (i := 2) (v := .int .i64 ds) (some 19) rfl rfl (by kernel_rfl) (by kernel_rfl) (by kernel_rfl) (fun _ _ _ h => h) (Or.inl ⟨by kernel_rfl, fun w' hSw => by have q9 : w'.cell? ⟨bb, 1, none⟩ = some (.int .i64 ds) := hSw.cell 1; clear hSw; go_simp⟩) hS ?_
    simp only [Act.put, List.setIfInBounds_toArray, List.set_cons_zero, List.set_cons_succ]
    refine takeR (i := 4) (v := .pointer (some ⟨bb, 2, none⟩)) (some 21) rfl rfl (by kernel_rfl) (by kernel_rfl) (by kernel_rfl) (fun _ _ _ h => h) (Or.inl ⟨by kernel_rfl, fun w' hSw => by kernel_rfl⟩) hS ?_
    simp only [Act.put, List.setIfInBounds_toArray, List.set_cons_zero, List.set_cons_succ]
    refine takeR (i := 5) (v := .int .i64 db) (some 22) rfl rfl (by kernel_rfl) (by kernel_rfl) (by kernel_rfl) (fun _ _ _ h => h) (Or.inl ⟨by kernel_rfl, fun w' hSw => by have q9 : w'.cell? ⟨bb, 2, none⟩ = some (.int .i64 db) := hSw.cell 2; clear hSw; go_simp⟩) hS ?_
    simp only [Act.put, List.setIfInBounds_toArray, List.set_cons_zero, List.set_cons_succ]
    refine takeR (i := 7) (v := .pointer (some ⟨bb, 3, none⟩)) (some 24) rfl rfl (by kernel_rfl) (by kernel_rfl) (by kernel_rfl) (fun _ _ _ h => h) (Or.inl ⟨by kernel_rfl, fun w' hSw => by kernel_rfl⟩) hS ?_
    simp only [Act.put, List.setIfInBounds_toArray, List.set_cons_zero, List.set_cons_succ]
    refine takeR (i := 8) (v := .int .i64 de) (some 25) rfl rfl (by kernel_rfl) (by kernel_rfl) (by kernel_rfl) (fun _ _ _ h => h) (Or.inl ⟨by kernel_rfl, fun w' hSw => by have q9 : w'.cell? ⟨bb, 3, none⟩ = some (.int .i64 de) := hSw.cell 3; clear hSw; go_simp⟩) hS ?_
    simp only [Act.put, List.setIfInBounds_toArray, List.set_cons_zero, List.set_cons_succ]
    refine takeR (i := 10) (v := .pointer (some ⟨bb, 4, none⟩)) (some 27) rfl rfl (by kernel_rfl) (by kernel_rfl) (by kernel_rfl) (fun _ _ _ h => h) (Or.inl ⟨by kernel_rfl, fun w' hSw => by kernel_rfl⟩) hS ?_
    simp only [Act.put, List.setIfInBounds_toArray, List.set_cons_zero, List.set_cons_succ]
    refine takeR (i := 11) (v := .int .i64 dp) (some 28) rfl rfl (by kernel_rfl) (by kernel_rfl) (by kernel_rfl) (fun _ _ _ h => h) (Or.inl ⟨by kernel_rfl, fun w' hSw => by have q9 : w'.cell? ⟨bb, 4, none⟩ = some (.int .i64 dp) := hSw.cell 4; clear hSw; go_simp⟩) hS ?_
    simp only [Act.put, List.setIfInBounds_toArray, List.set_cons_zero, List.set_cons_succ]
    refine takeR (i := 14) (v := .pointer (some ⟨bb, 5, none⟩)) (some 31) rfl rfl (by kernel_rfl) (by kernel_rfl) (by kernel_rfl) (fun _ _ _ h => h) (Or.inl ⟨by kernel_rfl, fun w' hSw => by kernel_rfl⟩) hS ?_
    simp only [Act.put, List.setIfInBounds_toArray, List.set_cons_zero, List.set_cons_succ]
    refine takeR (i := 15) (v := .int .i64 dq) (some 32) rfl rfl (by kernel_rfl) (by kernel_rfl) (by kernel_rfl) (fun _ _ _ h => h) (Or.inl ⟨by kernel_rfl, fun w' hSw => by have q9 : w'.cell? ⟨bb, 5, none⟩ = some (.int .i64 dq) := hSw.cell 5; clear hSw; go_simp⟩) hS ?_
    simp only [Act.put, List.setIfInBounds_toArray, List.set_cons_zero, List.set_cons_succ]
    refine takeR (i := 18) (v := .pointer (some ⟨bb, 6, none⟩)) (some 35) rfl rfl (by kernel_rfl) (by kernel_rfl) (by kernel_rfl) (fun _ _ _ h => h) (Or.inl ⟨by kernel_rfl, fun w' hSw => by kernel_rfl⟩) hS ?_
    simp only [Act.put, List.setIfInBounds_toArray, List.set_cons_zero, List.set_cons_succ]
    refine takeR (i := 19) (v := .int .i64 df) (some 36) rfl rfl (by kernel_rfl) (by kernel_rfl) (by kernel_rfl) (fun _ _ _ h => h) (Or.inl ⟨by kernel_rfl, fun w' hSw => by have q9 : w'.cell? ⟨bb, 6, none⟩ = some (.int .i64 df) := hSw.cell 6; clear hSw; go_simp⟩) hS ?_
    simp only [Act.put, List.setIfInBounds_toArray, List.set_cons_zero, List.set_cons_succ]
    refine takeR (i := 22) (v := .pointer (some ⟨bb, 6, none⟩)) (some 39) rfl rfl (by kernel_rfl) (by kernel_rfl) (by kernel_rfl) (fun _ _ _ h => h) (Or.inl ⟨by kernel_rfl, fun w' hSw => by kernel_rfl⟩) hS ?_
    simp only [Act.put, List.setIfInBounds_toArray, List.set_cons_zero, List.set_cons_succ]
    refine takeR (i := 23) (v := .int .i64 df) (some 40) rfl rfl (by kernel_rfl) (by kernel_rfl) (by kernel_rfl) (fun _ _ _ h => h) (Or.inl ⟨by kernel_rfl, fun w' hSw => by have q9 : w'.cell? ⟨bb, 6, none⟩ = some (.int .i64 df) := hSw.cell 6; clear hSw; go_simp⟩) hS ?_
    simp only [Act.put, List.setIfInBounds_toArray, List.set_cons_zero, List.set_cons_succ]
    refine takeR (i := 24) (v := .int .i64 (df.tdiv 7)) (some 41) rfl rfl (by kernel_rfl) (by kernel_rfl) (by kernel_rfl) (fun _ _ _ h => h) (Or.inl ⟨by kernel_rfl, fun w' hSw => by exact quo7_run (.tmp 40) (.const (.int .i64 7)) rfl (by kernel_rfl) rfl HB7.out rfl _⟩) hS ?_
    simp only [Act.put, List.setIfInBounds_toArray, List.set_cons_zero, List.set_cons_succ]
    refine wpAnyH_ready (rs := [3]) (by kernel_rfl) (by simp) ?_
    refine AllReadyH.cons rfl (fun K1 hK1 => ?_) AllReadyH.nil
    rw [if_pos (by kernel_rfl)]
    refine callR (d := some 20) rfl 17 #[.int .i64 ds] (by kernel_rfl) (HSy.out Z) ?_
    rintro e Y1 ⟨rfl, hb⟩
    refine ⟨_, rfl, ?_⟩
    have hS1 := hS.below hb hS.lt
    have HX1 : Hid (P Y1) := HP.out _ _ HX0.out hb
    clear hb
    refine hK1.out _ _ hS1 (fun _ => ?_)
    clear hK1
    simp only [Act.put, List.setIfInBounds_toArray, List.set_cons_zero, List.set_cons_succ]
    refine wpAnyH_ready (rs := [6]) (by kernel_rfl) (by simp) ?_
    refine AllReadyH.cons rfl (fun K1 hK1 => ?_) AllReadyH.nil
    rw [if_pos (by kernel_rfl)]
    refine callR (d := some 23) rfl 16 #[.int .i64 db] (by kernel_rfl) (HBu.out Y1) ?_
    rintro e Y2 ⟨rfl, hb⟩
    refine ⟨_, rfl, ?_⟩
    have hS2 := hS1.below hb hS1.lt
    have HX2 : Hid (P Y2) := HP.out _ _ HX1.out hb
    clear hb
    refine hK1.out _ _ hS2 (fun _ => ?_)
    clear hK1
    simp only [Act.put, List.setIfInBounds_toArray, List.set_cons_zero, List.set_cons_succ]
    refine wpAnyH_ready (rs := [9]) (by kernel_rfl) (by simp) ?_
    refine AllReadyH.cons rfl (fun K1 hK1 => ?_) AllReadyH.nil
    rw [if_pos (by kernel_rfl)]
    refine callR (d := some 26) rfl 16 #[.int .i64 de] (by kernel_rfl) (HSe.out Y2) ?_
    rintro e Y3 ⟨rfl, hb⟩
    refine ⟨_, rfl, ?_⟩
    have hS3 := hS2.below hb hS2.lt
    have HX3 : Hid (P Y3) := HP.out _ _ HX2.out hb
    clear hb
    refine hK1.out _ _ hS3 (fun _ => ?_)
    clear hK1
    simp only [Act.put, List.setIfInBounds_toArray, List.set_cons_zero, List.set_cons_succ]
    refine wpAnyH_ready (rs := [12]) (by kernel_rfl) (by simp) ?_
    refine AllReadyH.cons rfl (fun K1 hK1 => ?_) AllReadyH.nil
    rw [if_pos (by kernel_rfl)]
    refine callR (d := some 29) rfl 11 #[.int .i64 dp, .int .i64 1000000000] (by kernel_rfl) (HPr.out Y3) ?_
    rintro e w7 ⟨rfl, ew⟩
    replace ew := ew.symm
    subst ew
    refine ⟨_, rfl, ?_⟩
    refine hK1.out _ _ hS3 (fun _ => ?_)
    clear hK1
    simp only [Act.put, List.setIfInBounds_toArray, List.set_cons_zero, List.set_cons_succ]
    refine takeR (i := 13) (v := .int .i64 (1 + (zp : Int))) (some 30) rfl rfl (by kernel_rfl) (by kernel_rfl) (by kernel_rfl) (fun _ _ _ h => h) (Or.inl ⟨by kernel_rfl, fun w' hSw => by exact addR_run (.const (.int .i64 1)) (.tmp 29) rfl rfl (by kernel_rfl) (by omega) (by omega) _⟩) hS3 ?_
    simp only [Act.put, List.setIfInBounds_toArray, List.set_cons_zero, List.set_cons_succ]
    refine wpAnyH_ready (rs := [16]) (by kernel_rfl) (by simp) ?_
    refine AllReadyH.cons rfl (fun K1 hK1 => ?_) AllReadyH.nil
    rw [if_pos (by kernel_rfl)]
    refine callR (d := some 33) rfl 11 #[.int .i64 dq, .int .i64 1000000] (by kernel_rfl) (HQt.out Y3) ?_
    rintro e w7 ⟨rfl, ew⟩
    replace ew := ew.symm
    subst ew
    refine ⟨_, rfl, ?_⟩
    refine hK1.out _ _ hS3 (fun _ => ?_)
    clear hK1
    simp only [Act.put, List.setIfInBounds_toArray, List.set_cons_zero, List.set_cons_succ]
    refine takeR (i := 17) (v := .int .i64 (1 + (zq : Int))) (some 34) rfl rfl (by kernel_rfl) (by kernel_rfl) (by kernel_rfl) (fun _ _ _ h => h) (Or.inl ⟨by kernel_rfl, fun w' hSw => by exact addR_run (.const (.int .i64 1)) (.tmp 33) rfl rfl (by kernel_rfl) (by omega) (by omega) _⟩) hS3 ?_
    simp only [Act.put, List.setIfInBounds_toArray, List.set_cons_zero, List.set_cons_succ]
    refine wpAnyH_ready (rs := [20]) (by kernel_rfl) (by simp) ?_
    refine AllReadyH.cons rfl (fun K1 hK1 => ?_) AllReadyH.nil
    rw [if_pos (by kernel_rfl)]
    refine callR (d := some 37) rfl 11 #[.int .i64 df, .int .i64 2001] (by kernel_rfl) (HFe.out Y3) ?_
    rintro e w7 ⟨rfl, ew⟩
    replace ew := ew.symm
    subst ew
    refine ⟨_, rfl, ?_⟩
    refine hK1.out _ _ hS3 (fun _ => ?_)
    clear hK1
    simp only [Act.put, List.setIfInBounds_toArray, List.set_cons_zero, List.set_cons_succ]
    refine takeR (i := 21) (v := .int .i64 ((zf : Int) - 1000)) (some 38) rfl rfl (by kernel_rfl) (by kernel_rfl) (by kernel_rfl) (fun _ _ _ h => h) (Or.inl ⟨by kernel_rfl, fun w' hSw => by exact sub2_run (.tmp 37) (.const (.int .i64 1000)) rfl (by kernel_rfl) rfl (by omega) (by omega) _⟩) hS3 ?_
    simp only [Act.put, List.setIfInBounds_toArray, List.set_cons_zero, List.set_cons_succ]
    refine wpAnyH_ready (rs := [25]) (by kernel_rfl) (by simp) ?_
    refine AllReadyH.cons rfl (fun K1 hK1 => ?_) AllReadyH.nil
    rw [if_pos (by kernel_rfl)]
    refine callR (d := some 42) rfl 11 #[.int .i64 (df.tdiv 7), .int .i64 2001] (by kernel_rfl) (HFh.out Y3) ?_
    rintro e w7 ⟨rfl, ew⟩
    replace ew := ew.symm
    subst ew
    refine ⟨_, rfl, ?_⟩
    refine hK1.out _ _ hS3 (fun _ => ?_)
    clear hK1
    simp only [Act.put, List.setIfInBounds_toArray, List.set_cons_zero, List.set_cons_succ]
    refine takeR (i := 26) (v := .int .i64 ((zh : Int) - 1000)) (some 43) rfl rfl (by kernel_rfl) (by kernel_rfl) (by kernel_rfl) (fun _ _ _ h => h) (Or.inl ⟨by kernel_rfl, fun w' hSw => by exact sub2_run (.tmp 42) (.const (.int .i64 1000)) rfl (by kernel_rfl) rfl (by omega) (by omega) _⟩) hS3 ?_
    simp only [Act.put, List.setIfInBounds_toArray, List.set_cons_zero, List.set_cons_succ]
    refine wpAnyH_ready (rs := [27]) (by kernel_rfl) (by simp) ?_
    refine AllReadyH.cons rfl (fun K1 hK1 => ?_) AllReadyH.nil
    rw [if_pos (by kernel_rfl)]
    refine callR (d := some 44) rfl 10 #[.pointer (some ⟨g, 0, none⟩), .string sy, .string bu, .string se, .int .i64 (1 + (zp : Int)), .int .i64 (1 + (zq : Int)), .int .i64 ((zf : Int) - 1000), .int .i64 ((zh : Int) - 1000)] (by kernel_rfl) (HTr.out Y3 HX3.out) ?_
    rintro e Y4 ⟨rfl, hx⟩
    refine ⟨_, rfl, ?_⟩
    obtain ⟨hc', hf'⟩ := hx.out
    have hS4 := hS3.fr hf' HOw.out
    have HF : Hid (R1 Y4) := hc'
    clear hc' hf' hx
    refine hK1.out _ _ hS4 (fun _ => ?_)
    clear hK1
    simp only [Act.put, List.setIfInBounds_toArray, List.set_cons_zero, List.set_cons_succ]
    refine takeR (i := 28) (v := .int .i64 0) (some 9) rfl rfl (by kernel_rfl) (by kernel_rfl) (by kernel_rfl) (fun _ _ _ h => h) (Or.inl ⟨by kernel_rfl, fun w' hSw => by kernel_rfl⟩) hS4 ?_
    simp only [Act.put, List.setIfInBounds_toArray, List.set_cons_zero, List.set_cons_succ]
    refine wpAnyH_done (by kernel_rfl) ?_ _
    clear hS hS1 hS2 hS3 hS4 HX0 HX1 HX2 HX3 HTr HPn HFh HFe HQt HPr HSe HBu HSy
    refine hK3 _ _ ?_
    clear hK3
    go_wp2
    go_ret2
    exact ⟨N + 1, by go_num, .inl ⟨hk5, rfl, HF.out⟩⟩
  · have hk5' : ¬ (zk : Int) < 5 := by omega
    by_cases hk7 : zk = 5
    · subst hk7
      have e4 : X.cell? ⟨bb, 4, none⟩ = some (.int .i64 dp) := HX.out.2.1.cell 4
      go_wp2_with (go_at_call 11; fail)
      refine (HPn.out _).mono ?_
      rintro e w1 ⟨rfl, ew⟩
      replace ew := ew.symm
      subst ew
      have hbr := HBr.out (by trivial) _ HX.out.1 (1 + (zn : Int)) (by omega)
      go_wp2_with (go_at_call 12; fail)
      refine hbr.mono ?_
      rintro e w2 ⟨c, rfl, hc, HF⟩
      clear hbr e4 HX HTr HBr HPn HFh HFe HQt HPr HSe HBu HSy
      rcases hc with rfl | rfl | rfl | rfl
      all_goals
        go_wp2
        go_ret2
        exact ⟨N, rfl, rfl, HF.out⟩
    · omega
end Go.Proofs.Ytidhahooebepfaa
