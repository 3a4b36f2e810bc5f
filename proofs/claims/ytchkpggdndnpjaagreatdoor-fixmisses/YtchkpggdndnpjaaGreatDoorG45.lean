import Derived.Test.YtchkpggdndnpjaaGreatDoorG42
import Derived.Test.YtchkpggdndnpjaaGreatDoorG43
import Derived.Test.YtchkpggdndnpjaaGreatDoorG44
import Derived.Test.YtchkpggdndnpjaaGreatDoorG24

namespace Go.Proofs.YtchkpggdndnpjaaGreatDoor
set_option linter.unusedVariables false
set_option linter.unusedSimpArgs false
open Go.RowKit Go.Great

/-- What Encode leaves of a message that may be. -/
theorem Encode_ok (M : Msg) (w : World) (hM : Mon w) (hp : Pow w) (hz : M.ok) (hv : valE M = 0) : ∃ b, joinL (encF M) = .ok b ∧ b.length ≤ 1024 ∧
    Calls Tryz.prog 13 #[.agg M.cs] w fun e w' => ∃ v, e = .returned (.tuple #[v, .int .i64 0]) ∧ OwnB w' w.heap.size v b ∧ Below w.heap.size w w' := by
  have h := vld_of hv
  obtain ⟨b, hj, hl⟩ := enc_join h
  refine ⟨b, hj, hl, ?_⟩
  refine (Encode_yes M w hM hp hz hv (fun t ht hw => (good_ok h ht hw).2) (enc_okT h) (by have := (enc_fit h).1; omega)).mono ?_
  rintro e w' ⟨hb, hr⟩
  rw [hj] at hr
  obtain ⟨v, he, ho⟩ := hr
  exact ⟨v, he, ho, hb⟩
theorem eqM_run {op : Oper} {a : Act} {M : Msg} (x y : Operand) (ho : op.op = .binOp .eql 25 x y 25) (hx : a.eval x = .agg M.cs) (hy : a.eval y = .agg M.cs) (w : World) : (execOp a.eval op).run Tryz.prog w = .ok (.value (.bool true)) w := by
  have hgd : (eqGuard .eql 25 x y (.agg M.cs) (.agg M.cs)).run Tryz.prog w = .ok () w := run_eqGuard_agg (P := Tryz.prog) w .eql 25 x y _ _ (by kernel_rfl)
  unfold execOp
  simp only [ho, hx, hy, Sem.run_bind, hgd, Result.andThen_ok, msg_eql]
  rfl
theorem OwnM.same {w : World} {g : Nat} {M M' : Msg} (h : OwnM w g M) (e : M.cs = M'.cs) : OwnM w g M' := by unfold OwnM; rw [← e]; exact h
theorem isD_0229 : IsD 2024 2 29 := ⟨by decide, by decide, by decide, by decide, by decide, by decide⟩
theorem date_19782 : dateN 19782 = 20240229 := by
  have h := dateN_eq isD_0229
  rw [show dayNo 2024 2 29 = 19782 by decide, show encD 2024 2 29 = 20240229 by decide] at h
  exact h
theorem stamp_shown : strOfNums (stampI 1709210096789) = ⟨#[50, 48, 50, 52, 48, 50, 50, 57, 45, 49, 50, 58, 51, 52, 58, 53, 54, 46, 55, 56, 57]⟩ := by
  unfold stampI
  rw [show 1709210096789 / 86400000 = 19782 by decide, date_19782]
  decide
def exM : Msg := ⟨fun i => if i = 0 then 2 else if i = 3 then 7 else if i = 5 then 1709210096789 else 0, fun i => if i = 1 then ⟨#[65]⟩ else if i = 2 then ⟨#[66]⟩ else if i = 9 then ⟨#[120]⟩ else ⟨#[]⟩, fun _ => false⟩
theorem exOk : exM.ok := fun i => by unfold exM; dsimp only; split <;> (try split) <;> (try split) <;> omega
set_option maxRecDepth 100000 in
theorem exV : valE exM = 0 := by kernel_rfl
def exB : List UInt8 := [56, 61, 70, 73, 88, 46, 52, 46, 52, 1, 57, 61, 53, 49, 1, 51, 53, 61, 49, 1, 52, 57, 61, 65, 1, 53, 54, 61, 66, 1, 51, 52, 61, 55, 1, 53, 50, 61, 50, 48, 50, 52, 48, 50, 50, 57, 45, 49, 50, 58, 51, 52, 58, 53, 54, 46, 55, 56, 57, 1, 49, 49, 50, 61, 120, 1, 49, 48, 61, 49, 56, 52, 1]
def exFs : List Fld := [(35, [49]), (49, [65]), (56, [66]), (34, [55]), (52, [50, 48, 50, 52, 48, 50, 50, 57, 45, 49, 50, 58, 51, 52, 58, 53, 54, 46, 55, 56, 57]), (112, [120])]
set_option maxRecDepth 100000 in
theorem ex_enc0 : encF exM = [(35, [49]), (49, [65]), (56, [66]), (34, [55]), (52, (strOfNums (stampI 1709210096789)).data.toList), (112, [120])] := by kernel_rfl
theorem ex_enc : encF exM = exFs := by rw [ex_enc0, stamp_shown]; rfl
set_option maxRecDepth 100000 in
theorem ex_join : joinL exFs = .ok exB := by kernel_rfl
theorem ex_dec : ∃ A, dcL exB = .ok A ∧ A.cs = exM.cs := by
  have h := dec_enc (vld_of exV) (b := exB) (by rw [ex_enc]; exact ex_join)
  exact ⟨_, h⟩
set_option maxRecDepth 100000 in
theorem example_any (w : World) : Calls Tryz.prog 20 #[] w fun e w' => e = .returned (.agg exM.cs) ∧ Below w.heap.size w w' := by
  go_enter Tryz.func20, Tryz.ntmps20
  go_upto_region 1 with fail
  rename_i K hK
  refine wp_region_lit ?_
  refine wpList_runTo rfl (some 1) rfl (.agg exM.cs) (w.alloc (.cells zeroM.cs 25)) (by kernel_rfl) ?_
  refine wpList_store_row rfl 25 (.tmp 0) (.tmp 1) rfl w.heap.size exM.cs (by kernel_rfl) (by kernel_rfl) 25 _ (heap_alloc_new w _) (by kernel_rfl) (by kernel_rfl) (Msg.cs_one _) ?_
  refine wpList_nil ?_
  refine hK _ _ ?_
  apply wp_ret
  show bodyPost Tryz.prog Tryz.f20 _ Exit.ret _ _
  refine bodyPost_ret (results_cell_row (fn := Tryz.f20) (p := 0) (ty := 25) rfl _ _ w.heap.size 25 exM.cs (0, 0) _ (by kernel_rfl) (setRow_heap _ _ _ _ _ _ (heap_alloc_new w _)) Tryz.underlying25 rfl (by kernel_rfl)) (by kernel_rfl) ⟨rfl, below_setRow ((Below.refl _ w).alloc (Nat.le_refl _) _) (Nat.le_refl _) _⟩
theorem exec_convB {op : Oper} {a : Act} {w : World} {v : Value} {l : List UInt8} (h : SrcB w v l) (x : Operand) (ho : op.op = .convert 22 9 x) (hx : a.eval x = v) : (execOp a.eval op).run Tryz.prog w = .ok (.value (.string (bs l))) w := by
  unfold execOp
  simp only [ho, hx, Sem.run_bind, h.conv, Result.andThen_ok, Sem.run_pure]
theorem SrcB.take {w : World} {a : Option Addr} {n c : Nat} {l : List UInt8} (h : SrcB w (.slice a n c) l) (k : Nat) (hk : k ≤ l.length) : SrcB w (.slice a k c) (l.take k) := by
  obtain ⟨a', c', e, hc, hcase⟩ := h
  injection e with e1 e2 e3
  subst e1 e3
  refine ⟨a, c, by rw [List.length_take, Nat.min_eq_left hk], by rw [List.length_take]; omega, ?_⟩
  rcases hcase with rfl | ⟨b, off, rfl, hcel⟩
  · left; simp
  · right
    refine ⟨b, off, rfl, fun j x hj => hcel j x ?_⟩
    rw [List.getElem?_take] at hj
    split at hj
    · exact hj
    · cases hj
set_option maxRecDepth 100000 in
set_option maxHeartbeats 1000000 in
theorem shown_any (w : World) (hM : Mon w) (hp : Pow w) (hE : ETy w) : Calls Tryz.prog 9 #[] w fun e w' => e = .returned (.bool true) ∧ Below w.heap.size w w' := by
  have HM : Hid (Mon w ∧ 2 < w.heap.size ∧ Pow w ∧ ETy w) := ⟨hM, hM.lt, hp, hE⟩
  obtain ⟨A, hA1, hA2⟩ := ex_dec
  have HA : Hid (dcL exB = .ok A ∧ A.cs = exM.cs) := ⟨hA1, hA2⟩
  clear hM hp hE hA1 hA2
  go_enter Tryz.func9, Tryz.ntmps9
  go_upto_region 1 with fail
  rename_i K1 hK1
  refine wp_region_lit ?_
  refine wpList_callF rfl (some 7) rfl 20 #[] (by kernel_rfl) (example_any w) ?_
  rintro e w1 ⟨rfl, hb1⟩
  refine ⟨_, rfl, ?_⟩
  obtain ⟨b, hj, -, hEn⟩ := Encode_ok exM w1 (HM.out.1.below hb1 HM.out.2.1) (HM.out.2.2.1.below hb1) exOk exV
  have hbe : b = exB := by rw [ex_enc, ex_join] at hj; injection hj with hj; exact hj.symm
  subst hbe
  refine wpList_callF rfl (some 8) rfl 13 #[.agg exM.cs] (by kernel_rfl) hEn ?_
  rintro e w2 ⟨v, rfl, ho2, hb2⟩
  refine ⟨_, rfl, ?_⟩
  have HO2 : Hid (SrcB w2 v exB ∧ Below w.heap.size w w2) := ⟨ho2.src, hb1.trans (hb2.mono hb1.size)⟩
  obtain ⟨av, cv, rfl⟩ : ∃ a c, v = .slice a 73 c := by obtain ⟨a, c, h, -⟩ := HO2.out.1; exact ⟨a, c, h⟩
  clear ho2 hb1 hb2 hj hEn
  refine wpList_runTo rfl (some 6) rfl (.tuple #[.slice av 73 cv, .int .i64 0]) w2 (by kernel_rfl) ?_
  refine wpList_runTo rfl (some 9) rfl (.slice av 73 cv) w2 (by kernel_rfl) ?_
  refine wpList_runTo rfl (some 10) rfl (.int .i64 0) w2 (by kernel_rfl) ?_
  refine wpList_runTo rfl (some 1) rfl (.slice av 73 cv) w2 (by kernel_rfl) ?_
  refine wpList_runTo rfl (some 2) rfl (.int .i64 0) w2 (by kernel_rfl) ?_
  refine wpList_nil ?_
  refine hK1 _ _ ?_
  clear hK1
  simp only [Act.put, List.setIfInBounds_toArray, List.set_cons_zero, List.set_cons_succ]
  have hDc := Decode_any (.slice av 73 cv) exB w2 (by decide) HO2.out.1 (HM.out.1.below HO2.out.2 HM.out.2.1) (HM.out.2.2.1.below HO2.out.2) (HM.out.2.2.2.below HO2.out.2)
  rw [HA.out.1] at hDc
  go_upto_region 2 with fail
  rename_i K2 hK2
  refine wp_region_lit ?_
  refine wpList_runTo rfl (some 12) rfl (.slice av 73 cv) w2 (by kernel_rfl) ?_
  refine wpList_callF rfl (some 13) rfl 10 #[.slice av 73 cv] (by kernel_rfl) hDc ?_
  rintro e w3 ⟨hb3, rfl⟩
  rw [HA.out.2]
  refine ⟨_, rfl, ?_⟩
  refine wpList_runTo rfl (some 11) rfl (.tuple #[.agg exM.cs, .nilIface]) w3 (by kernel_rfl) ?_
  refine wpList_runTo rfl (some 14) rfl (.agg exM.cs) w3 (by kernel_rfl) ?_
  refine wpList_runTo rfl (some 15) rfl .nilIface w3 (by kernel_rfl) ?_
  refine wpList_runTo rfl (some 3) rfl (.pointer (some ⟨w3.heap.size, 0, none⟩)) (w3.alloc (.cells zeroM.cs 25)) (by kernel_rfl) ?_
  refine wpList_store_row rfl 25 (.tmp 3) (.tmp 14) rfl w3.heap.size exM.cs (by rfl) (by rfl) 25 _ (heap_alloc_new w3 _) (by rw [Msg.cs_size]; kernel_rfl) (by rw [Msg.cs_size, Msg.cs_size]) (Msg.cs_one _) ?_
  refine wpList_runTo rfl (some 4) rfl .nilIface ((w3.alloc (.cells zeroM.cs 25)).setRow w3.heap.size exM.cs) (by kernel_rfl) ?_
  refine wpList_nil ?_
  refine hK2 _ _ ?_
  clear hK2 hDc
  simp only [Act.put, List.setIfInBounds_toArray, List.set_cons_zero, List.set_cons_succ]
  have hb4 : Below w3.heap.size w3 ((w3.alloc (.cells zeroM.cs 25)).setRow w3.heap.size exM.cs) := below_setRow ((Below.refl _ w3).alloc (Nat.le_refl _) _) (Nat.le_refl _) _
  have HO4 : Hid (OwnM ((w3.alloc (.cells zeroM.cs 25)).setRow w3.heap.size exM.cs) w3.heap.size exM ∧ SrcB ((w3.alloc (.cells zeroM.cs 25)).setRow w3.heap.size exM.cs) (.slice av 73 cv) exB ∧ Below w.heap.size w ((w3.alloc (.cells zeroM.cs 25)).setRow w3.heap.size exM.cs)) := by
    have hb23 := HO2.out.2.trans (hb3.mono HO2.out.2.size)
    exact ⟨setRow_heap _ _ _ _ _ _ (heap_alloc_new w3 _), (HO2.out.1.below hb3).below hb4, hb23.trans (hb4.mono hb23.size)⟩
  clear hb3 hb4 HO2
  generalize (w3.alloc (.cells zeroM.cs 25)).setRow w3.heap.size exM.cs = w4 at *
  generalize w3.heap.size = g3 at *
  have HC : Hid (69 ≤ cv) := by obtain ⟨a, c, e, h, -⟩ := HO4.out.2.1; injection e with _ _ e3; subst e3; have : exB.length = 73 := rfl; show 69 ≤ cv; omega
  go_upto_region 4 with fail
  rename_i K4 hK4
  have hS4 : OwnM w4.drew g3 exM ∧ SrcB w4.drew (.slice av 73 cv) exB := ⟨HO4.out.1, HO4.out.2.1⟩
  have HB4 : Hid (Below w.heap.size w w4.drew) := below_drewN HO4.out.2.2 1
  refine wp_region_held (S := fun w' => OwnM w' g3 exM ∧ SrcB w' (.slice av 73 cv) exB) (by kernel_rfl) ?_
  change wpAnyH _ _ _ _ _ _ _ _ (World.drew _)
  clear HO4
  generalize w4.drew = w5 at *
  refine takeR (i := 0) (v := .int .i64 0) (some 16) rfl rfl (by kernel_rfl) (by kernel_rfl) (by kernel_rfl) (fun _ _ _ h => h) (Or.inl ⟨by kernel_rfl, fun w' hSw => by kernel_rfl⟩) hS4 ?_
  simp only [Act.put, List.setIfInBounds_toArray, List.set_cons_zero, List.set_cons_succ]
  refine takeR (i := 1) (v := .bool true) (some 17) rfl rfl (by kernel_rfl) (by kernel_rfl) (by kernel_rfl) (fun _ _ _ h => h) (Or.inl ⟨by kernel_rfl, fun w' hSw => by kernel_rfl⟩) hS4 ?_
  simp only [Act.put, List.setIfInBounds_toArray, List.set_cons_zero, List.set_cons_succ]
  refine takeR (i := 2) (v := .bool true) (some 18) rfl rfl (by kernel_rfl) (by kernel_rfl) (by kernel_rfl) (fun _ _ _ h => h) (Or.inl ⟨by kernel_rfl, fun w' hSw => by kernel_rfl⟩) hS4 ?_
  simp only [Act.put, List.setIfInBounds_toArray, List.set_cons_zero, List.set_cons_succ]
  refine takeR (i := 3) (v := .nilIface) (some 19) rfl rfl (by kernel_rfl) (by kernel_rfl) (by kernel_rfl) (fun _ _ _ h => h) (Or.inl ⟨by kernel_rfl, fun w' hSw => by kernel_rfl⟩) hS4 ?_
  simp only [Act.put, List.setIfInBounds_toArray, List.set_cons_zero, List.set_cons_succ]
  refine takeR (i := 4) (v := .bool true) (some 20) rfl rfl (by kernel_rfl) (by kernel_rfl) (by kernel_rfl) (fun _ _ _ h => h) (Or.inl ⟨by kernel_rfl, fun w' hSw => by kernel_rfl⟩) hS4 ?_
  simp only [Act.put, List.setIfInBounds_toArray, List.set_cons_zero, List.set_cons_succ]
  refine takeR (i := 5) (v := .bool true) (some 21) rfl rfl (by kernel_rfl) (by kernel_rfl) (by kernel_rfl) (fun _ _ _ h => h) (Or.inl ⟨by kernel_rfl, fun w' hSw => by kernel_rfl⟩) hS4 ?_
  simp only [Act.put, List.setIfInBounds_toArray, List.set_cons_zero, List.set_cons_succ]
  refine takeR (i := 6) (v := .bool true) (some 22) rfl rfl (by kernel_rfl) (by kernel_rfl) (by kernel_rfl) (fun _ _ _ h => h) (Or.inl ⟨by kernel_rfl, fun w' hSw => by kernel_rfl⟩) hS4 ?_
  simp only [Act.put, List.setIfInBounds_toArray, List.set_cons_zero, List.set_cons_succ]
  refine takeR (i := 7) (v := .agg exM.cs) (some 23) rfl rfl (by kernel_rfl) (by kernel_rfl) (by kernel_rfl) (fun _ _ _ h => h) (Or.inl ⟨by kernel_rfl, fun w' hSw => by exact exec_loadM hSw.1 (.tmp 3) rfl rfl⟩) hS4 ?_
  simp only [Act.put, List.setIfInBounds_toArray, List.set_cons_zero, List.set_cons_succ]
  refine wpAnyH_ready (rs := [8]) (by kernel_rfl) (by simp) ?_
  refine AllReadyH.cons rfl (fun K8 hK8 => ?_) AllReadyH.nil
  rw [if_pos (by kernel_rfl)]
  refine callR (d := some 24) rfl 20 #[] (by kernel_rfl) (example_any _) ?_
  rintro e w6 ⟨rfl, hb6⟩
  refine ⟨_, rfl, ?_⟩
  have hS6 : OwnM w6 g3 exM ∧ SrcB w6 (.slice av 73 cv) exB := ⟨hS4.1.low hb6, hS4.2.below hb6⟩
  have HB6 : Hid (Below w.heap.size w w6) := HB4.out.trans (hb6.mono HB4.out.size)
  refine hK8.out _ _ hS6 (fun _ => ?_)
  clear hK8 hb6 hS4 HB4
  simp only [Act.put, List.setIfInBounds_toArray, List.set_cons_zero, List.set_cons_succ]
  refine takeR (i := 9) (v := .bool true) (some 25) rfl rfl (by kernel_rfl) (by kernel_rfl) (by kernel_rfl) (fun _ _ _ h => h) (Or.inl ⟨by kernel_rfl, fun w' hSw => by exact eqM_run (.tmp 23) (.tmp 24) rfl rfl rfl w'⟩) hS6 ?_
  simp only [Act.put, List.setIfInBounds_toArray, List.set_cons_zero, List.set_cons_succ]
  refine takeR (i := 10) (v := .bool true) (some 26) rfl rfl (by kernel_rfl) (by kernel_rfl) (by kernel_rfl) (fun _ _ _ h => h) (Or.inl ⟨by kernel_rfl, fun w' hSw => by kernel_rfl⟩) hS6 ?_
  simp only [Act.put, List.setIfInBounds_toArray, List.set_cons_zero, List.set_cons_succ]
  refine takeR (i := 11) (v := .bool true) (some 27) rfl rfl (by kernel_rfl) (by kernel_rfl) (by kernel_rfl) (fun _ _ _ h => h) (Or.inl ⟨by kernel_rfl, fun w' hSw => by kernel_rfl⟩) hS6 ?_
  simp only [Act.put, List.setIfInBounds_toArray, List.set_cons_zero, List.set_cons_succ]
  refine takeR (i := 12) (v := .slice av 73 cv) (some 28) rfl rfl (by kernel_rfl) (by kernel_rfl) (by kernel_rfl) (fun _ _ _ h => h) (Or.inl ⟨by kernel_rfl, fun w' hSw => by kernel_rfl⟩) hS6 ?_
  simp only [Act.put, List.setIfInBounds_toArray, List.set_cons_zero, List.set_cons_succ]
  refine takeR (i := 13) (v := .int .i64 73) (some 29) rfl rfl (by kernel_rfl) (by kernel_rfl) (by kernel_rfl) (fun _ _ _ h => h) (Or.inl ⟨by kernel_rfl, fun w' hSw => by kernel_rfl⟩) hS6 ?_
  simp only [Act.put, List.setIfInBounds_toArray, List.set_cons_zero, List.set_cons_succ]
  refine takeR (i := 14) (v := .string ⟨#[56, 61, 70, 73, 88, 46, 52, 46, 52, 1, 57, 61, 53, 49, 1, 51, 53, 61, 49, 1, 52, 57, 61, 65, 1, 53, 54, 61, 66, 1, 51, 52, 61, 55, 1, 53, 50, 61, 50, 48, 50, 52, 48, 50, 50, 57, 45, 49, 50, 58, 51, 52, 58, 53, 54, 46, 55, 56, 57, 1, 49, 49, 50, 61, 120, 1, 49, 48, 61]⟩) (some 30) rfl rfl (by kernel_rfl) (by kernel_rfl) (by kernel_rfl) (fun _ _ _ h => h) (Or.inl ⟨by kernel_rfl, fun w' hSw => by kernel_rfl⟩) hS6 ?_
  simp only [Act.put, List.setIfInBounds_toArray, List.set_cons_zero, List.set_cons_succ]
  refine takeR (i := 15) (v := .int .i64 69) (some 31) rfl rfl (by kernel_rfl) (by kernel_rfl) (by kernel_rfl) (fun _ _ _ h => h) (Or.inl ⟨by kernel_rfl, fun w' hSw => by kernel_rfl⟩) hS6 ?_
  simp only [Act.put, List.setIfInBounds_toArray, List.set_cons_zero, List.set_cons_succ]
  refine takeR (i := 16) (v := .bool true) (some 32) rfl rfl (by kernel_rfl) (by kernel_rfl) (by kernel_rfl) (fun _ _ _ h => h) (Or.inl ⟨by kernel_rfl, fun w' hSw => by kernel_rfl⟩) hS6 ?_
  simp only [Act.put, List.setIfInBounds_toArray, List.set_cons_zero, List.set_cons_succ]
  refine takeR (i := 17) (v := .bool true) (some 33) rfl rfl (by kernel_rfl) (by kernel_rfl) (by kernel_rfl) (fun _ _ _ h => h) (Or.inl ⟨by kernel_rfl, fun w' hSw => by kernel_rfl⟩) hS6 ?_
  simp only [Act.put, List.setIfInBounds_toArray, List.set_cons_zero, List.set_cons_succ]
  refine takeR (i := 18) (v := .bool true) (some 34) rfl rfl (by kernel_rfl) (by kernel_rfl) (by kernel_rfl) (fun _ _ _ h => h) (Or.inl ⟨by kernel_rfl, fun w' hSw => by kernel_rfl⟩) hS6 ?_
  simp only [Act.put, List.setIfInBounds_toArray, List.set_cons_zero, List.set_cons_succ]
  refine takeR (i := 19) (v := .slice av 73 cv) (some 35) rfl rfl (by kernel_rfl) (by kernel_rfl) (by kernel_rfl) (fun _ _ _ h => h) (Or.inl ⟨by kernel_rfl, fun w' hSw => by kernel_rfl⟩) hS6 ?_
  simp only [Act.put, List.setIfInBounds_toArray, List.set_cons_zero, List.set_cons_succ]
  refine takeR (i := 20) (v := .string ⟨#[56, 61, 70, 73, 88, 46, 52, 46, 52, 1, 57, 61, 53, 49, 1, 51, 53, 61, 49, 1, 52, 57, 61, 65, 1, 53, 54, 61, 66, 1, 51, 52, 61, 55, 1, 53, 50, 61, 50, 48, 50, 52, 48, 50, 50, 57, 45, 49, 50, 58, 51, 52, 58, 53, 54, 46, 55, 56, 57, 1, 49, 49, 50, 61, 120, 1, 49, 48, 61]⟩) (some 36) rfl rfl (by kernel_rfl) (by kernel_rfl) (by kernel_rfl) (fun _ _ _ h => h) (Or.inl ⟨by kernel_rfl, fun w' hSw => by kernel_rfl⟩) hS6 ?_
  simp only [Act.put, List.setIfInBounds_toArray, List.set_cons_zero, List.set_cons_succ]
  refine takeR (i := 21) (v := .int .i64 69) (some 37) rfl rfl (by kernel_rfl) (by kernel_rfl) (by kernel_rfl) (fun _ _ _ h => h) (Or.inl ⟨by kernel_rfl, fun w' hSw => by kernel_rfl⟩) hS6 ?_
  simp only [Act.put, List.setIfInBounds_toArray, List.set_cons_zero, List.set_cons_succ]
  refine takeR (i := 22) (v := .slice av 69 cv) (some 38) rfl rfl (by kernel_rfl) (by kernel_rfl) (by kernel_rfl) (fun _ _ _ h => h) (Or.inl ⟨by kernel_rfl, fun w' hSw => by (have q0 := HC.out; clear hSw; go_simp; omega)⟩) hS6 ?_
  simp only [Act.put, List.setIfInBounds_toArray, List.set_cons_zero, List.set_cons_succ]
  refine takeR (i := 23) (v := .string (bs (exB.take 69))) (some 39) rfl rfl (by kernel_rfl) (by kernel_rfl) (by kernel_rfl) (fun _ _ _ h => h) (Or.inl ⟨by kernel_rfl, fun w' hSw => by exact exec_convB (hSw.2.take 69 (by decide)) (.tmp 38) rfl rfl⟩) hS6 ?_
  simp only [Act.put, List.setIfInBounds_toArray, List.set_cons_zero, List.set_cons_succ]
  refine takeR (i := 24) (v := .string ⟨#[56, 61, 70, 73, 88, 46, 52, 46, 52, 1, 57, 61, 53, 49, 1, 51, 53, 61, 49, 1, 52, 57, 61, 65, 1, 53, 54, 61, 66, 1, 51, 52, 61, 55, 1, 53, 50, 61, 50, 48, 50, 52, 48, 50, 50, 57, 45, 49, 50, 58, 51, 52, 58, 53, 54, 46, 55, 56, 57, 1, 49, 49, 50, 61, 120, 1, 49, 48, 61]⟩) (some 40) rfl rfl (by kernel_rfl) (by kernel_rfl) (by kernel_rfl) (fun _ _ _ h => h) (Or.inl ⟨by kernel_rfl, fun w' hSw => by kernel_rfl⟩) hS6 ?_
  simp only [Act.put, List.setIfInBounds_toArray, List.set_cons_zero, List.set_cons_succ]
  refine takeR (i := 25) (v := .bool true) (some 41) rfl rfl (by kernel_rfl) (by kernel_rfl) (by kernel_rfl) (fun _ _ _ h => h) (Or.inl ⟨by kernel_rfl, fun w' hSw => by kernel_rfl⟩) hS6 ?_
  simp only [Act.put, List.setIfInBounds_toArray, List.set_cons_zero, List.set_cons_succ]
  refine takeR (i := 26) (v := .bool true) (some 42) rfl rfl (by kernel_rfl) (by kernel_rfl) (by kernel_rfl) (fun _ _ _ h => h) (Or.inl ⟨by kernel_rfl, fun w' hSw => by kernel_rfl⟩) hS6 ?_
  simp only [Act.put, List.setIfInBounds_toArray, List.set_cons_zero, List.set_cons_succ]
  refine takeR (i := 27) (v := .bool true) (some 0) rfl rfl (by kernel_rfl) (by kernel_rfl) (by kernel_rfl) (fun _ _ _ h => h) (Or.inl ⟨by kernel_rfl, fun w' hSw => by kernel_rfl⟩) hS6 ?_
  simp only [Act.put, List.setIfInBounds_toArray, List.set_cons_zero, List.set_cons_succ]
  refine wpAnyH_done (by kernel_rfl) ?_ _
  refine hK4 _ _ ?_
  clear hK4
  go_wp2
  go_ret
  exact ⟨rfl, HB6.out⟩
end Go.Proofs.YtchkpggdndnpjaaGreatDoor
