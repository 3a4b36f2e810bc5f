import Derived.Test.YtchkpggdndnpjabGreatDoorG32
import Derived.Test.YtchkpggdndnpjabGreatDoorG18
import Derived.Test.YtchkpggdndnpjabGreatDoorG20
import Derived.Test.YtchkpggdndnpjabGreatDoorRows
import Derived.Test.YtchkpggdndnpjabGreatDoorTie
import Derived.Test.YtchkpggdndnpjabGreatDoorCards
import Derived.ProofKit
import Derived.LaidMore
import Derived.LaidLaws
import Derived.LaidHandle
import Derived.RowKitTokens
import Derived.Lay
import Derived.OpenShut
import Derived.ShutString
import Derived.Stop.Joined
import Derived.Stop.LaidErr
import Derived.SevenTiedAt
import Derived.ChangeOld
import Derived.Below
import Derived.Deep.DeepHandedRow
import Derived.SizedLaws
import Derived.ChangeSlices

namespace Go.Proofs.YtchkpggdndnpjabGreatDoor
set_option linter.unusedVariables false
set_option linter.unusedSimpArgs false
open Go.RowKit Go.Great

/-- What Encode leaves of a message that may be. -/
theorem Encode_ok (M : Msg) (w : World) (hM : Mon w) (hp : Pow w) (hz : M.ok) (hv : valE M = 0) : ∃ b, joinL (encF M) = .ok b ∧ b.length ≤ 1024 ∧
    Calls Tryz.prog 7 #[.agg M.cs] w fun e w' => ∃ v, e = .returned (.tuple #[v, .int .i64 0]) ∧ OwnB w' w.heap.size v b ∧ Below w.heap.size w w' := by
  have h := vld_of hv
  obtain ⟨b, hj, hl⟩ := enc_join h
  refine ⟨b, hj, hl, ?_⟩
  refine (Encode_yes M w hM hp hz hv (fun t ht hw => (good_ok h ht hw).2) (enc_okT h) (by have := (enc_fit h).1; omega)).mono ?_
  rintro e w' ⟨hb, hr⟩
  rw [hj] at hr
  obtain ⟨v, he, ho⟩ := hr
  exact ⟨v, he, ho, hb⟩
theorem eqM_run {op : Oper} {a : Act} {M : Msg} (x y : Operand) (ho : op.op = .binOp .eql 23 x y 23) (hx : a.eval x = .agg M.cs) (hy : a.eval y = .agg M.cs) (w : World) : (execOp a.eval op).run Tryz.prog w = .ok (.value (.bool true)) w := by
  have hgd : (eqGuard .eql 23 x y (.agg M.cs) (.agg M.cs)).run Tryz.prog w = .ok () w := run_eqGuard_agg (P := Tryz.prog) w .eql 23 x y _ _ (by kernel_rfl)
  unfold execOp
  simp only [ho, hx, hy, Sem.run_bind, hgd, Result.andThen_ok, msg_eql]
  rfl
theorem OwnM.same {w : World} {g : Nat} {M M' : Msg} (h : OwnM w g M) (e : M.cs = M'.cs) : OwnM w g M' := by unfold OwnM; rw [← e]; exact h
theorem isD_0229 : IsD 2024 2 29 := ⟨by decide, by decide, by decide, by decide, by decide, by decide⟩
theorem date_19782 : dateN 19782 = 20240229 := by
  have h := dateN_eq isD_0229
  rw [show dayNo 2024 2 29 = 19782 by decide, show encD 2024 2 29 = 20240229 by decide] at h
  exact h
theorem stamp_shown : strOfNums (stampI 1709210096789) = ⟨#[50, 48, 50, 52, 48, 50, 50, 57, 45, 49, 50, 58, 51, 52, 58, 53, 54, 46, 55, 56, 57]⟩ := by
  unfold stampI
  rw [show 1709210096789 / 86400000 = 19782 by decide, date_19782]
  decide
def exM : Msg := ⟨fun i => if i = 0 then 2 else if i = 3 then 7 else if i = 5 then 1709210096789 else 0, fun i => if i = 1 then ⟨#[65]⟩ else if i = 2 then ⟨#[66]⟩ else if i = 9 then ⟨#[120]⟩ else ⟨#[]⟩, fun _ => false⟩
theorem exOk : exM.ok := fun i => by unfold exM; dsimp only; split <;> (try split) <;> (try split) <;> omega
set_option maxRecDepth 100000 in
theorem exV : valE exM = 0 := by kernel_rfl
def exB : List UInt8 := [56, 61, 70, 73, 88, 46, 52, 46, 52, 1, 57, 61, 53, 49, 1, 51, 53, 61, 49, 1, 52, 57, 61, 65, 1, 53, 54, 61, 66, 1, 51, 52, 61, 55, 1, 53, 50, 61, 50, 48, 50, 52, 48, 50, 50, 57, 45, 49, 50, 58, 51, 52, 58, 53, 54, 46, 55, 56, 57, 1, 49, 49, 50, 61, 120, 1, 49, 48, 61, 49, 56, 52, 1]
def exFs : List Fld := [(35, [49]), (49, [65]), (56, [66]), (34, [55]), (52, [50, 48, 50, 52, 48, 50, 50, 57, 45, 49, 50, 58, 51, 52, 58, 53, 54, 46, 55, 56, 57]), (112, [120])]
set_option maxRecDepth 100000 in
theorem ex_enc0 : encF exM = [(35, [49]), (49, [65]), (56, [66]), (34, [55]), (52, (strOfNums (stampI 1709210096789)).data.toList), (112, [120])] := by kernel_rfl
theorem ex_enc : encF exM = exFs := by rw [ex_enc0, stamp_shown]; rfl
set_option maxRecDepth 100000 in
theorem ex_join : joinL exFs = .ok exB := by kernel_rfl
theorem ex_dec : ∃ A, dcL exB = .ok A ∧ A.cs = exM.cs := by
  have h := dec_enc (vld_of exV) (b := exB) (by rw [ex_enc]; exact ex_join)
  exact ⟨_, h⟩
set_option maxRecDepth 100000 in
theorem example_any (w : World) : Calls Tryz.prog 11 #[] w fun e w' => e = .returned (.agg exM.cs) ∧ Below w.heap.size w w' := by
  go_enter Tryz.func11, Tryz.ntmps11
  go_upto_region 1 with fail
  rename_i K hK
  refine wp_region_lit ?_
  refine wpList_runTo rfl (some 1) rfl (.agg exM.cs) (w.alloc (.cells zeroM.cs 23)) (by kernel_rfl) ?_
  refine wpList_store_row rfl 23 (.tmp 0) (.tmp 1) rfl w.heap.size exM.cs (by kernel_rfl) (by kernel_rfl) 23 _ (heap_alloc_new w _) (by kernel_rfl) (by kernel_rfl) (Msg.cs_one _) ?_
  refine wpList_nil ?_
  refine hK _ _ ?_
  apply wp_ret
  show bodyPost Tryz.prog Tryz.f11 _ Exit.ret _ _
  refine bodyPost_ret (results_cell_row (fn := Tryz.f11) (p := 0) (ty := 23) rfl _ _ w.heap.size 23 exM.cs (0, 0) _ (by kernel_rfl) (setRow_heap _ _ _ _ _ _ (heap_alloc_new w _)) Tryz.underlying23 rfl (by kernel_rfl)) (by kernel_rfl) ⟨rfl, below_setRow ((Below.refl _ w).alloc (Nat.le_refl _) _) (Nat.le_refl _) _⟩
theorem exec_convB {op : Oper} {a : Act} {w : World} {v : Value} {l : List UInt8} (h : SrcB w v l) (x : Operand) (ho : op.op = .convert 25 9 x) (hx : a.eval x = v) : (execOp a.eval op).run Tryz.prog w = .ok (.value (.string (bs l))) w := by
  unfold execOp
  simp only [ho, hx, Sem.run_bind, h.conv, Result.andThen_ok, Sem.run_pure]
theorem SrcB.take {w : World} {a : Option Addr} {n c : Nat} {l : List UInt8} (h : SrcB w (.slice a n c) l) (k : Nat) (hk : k ≤ l.length) : SrcB w (.slice a k c) (l.take k) := by
  obtain ⟨a', c', e, hc, hcase⟩ := h
  injection e with e1 e2 e3
  subst e1 e3
  refine ⟨a, c, by rw [List.length_take, Nat.min_eq_left hk], by rw [List.length_take]; omega, ?_⟩
  rcases hcase with rfl | ⟨b, off, rfl, hcel⟩
  · left; simp
  · right
    refine ⟨b, off, rfl, fun j x hj => hcel j x ?_⟩
    rw [List.getElem?_take] at hj
    split at hj
    · exact hj
    · cases hj
set_option maxRecDepth 100000 in
set_option maxHeartbeats 1000000 in
theorem shown_any (w : World) (hM : Mon w) (hp : Pow w) (hE : ETy w) : Calls Tryz.prog 6 #[] w fun e w' => e = .returned (.bool true) ∧ Below w.heap.size w w' := by
  have HM : Hid (Mon w ∧ 2 < w.heap.size ∧ Pow w ∧ ETy w) := ⟨hM, hM.lt, hp, hE⟩
  obtain ⟨A, hA1, hA2⟩ := ex_dec
  have HA : Hid (dcL exB = .ok A ∧ A.cs = exM.cs) := ⟨hA1, hA2⟩
  clear hM hp hE hA1 hA2
  go_enter Tryz.func6, Tryz.ntmps6
  go_upto_region 1 with fail
  rename_i K1 hK1
  refine wp_region_lit ?_
  refine wpList_callF rfl (some 7) rfl 11 #[] (by kernel_rfl) (example_any w) ?_
  rintro e w1 ⟨rfl, hb1⟩
  refine ⟨_, rfl, ?_⟩
  obtain ⟨b, hj, -, hEn⟩ := Encode_ok exM w1 (HM.out.1.below hb1 HM.out.2.1) (HM.out.2.2.1.below hb1) exOk exV
  have hbe : b = exB := by rw [ex_enc, ex_join] at hj; injection hj with hj; exact hj.symm
  subst hbe
  refine wpList_callF rfl (some 8) rfl 7 #[.agg exM.cs] (by kernel_rfl) hEn ?_
  rintro e w2 ⟨v, rfl, ho2, hb2⟩
  refine ⟨_, rfl, ?_⟩
  have HO2 : Hid (SrcB w2 v exB ∧ Below w.heap.size w w2) := ⟨ho2.src, hb1.trans (hb2.mono hb1.size)⟩
  obtain ⟨av, cv, rfl⟩ : ∃ a c, v = .slice a 73 c := by obtain ⟨a, c, h, -⟩ := HO2.out.1; exact ⟨a, c, h⟩
  clear ho2 hb1 hb2 hj hEn
  refine wpList_runTo rfl (some 6) rfl (.tuple #[.slice av 73 cv, .int .i64 0]) w2 (by kernel_rfl) ?_
  refine wpList_runTo rfl (some 9) rfl (.slice av 73 cv) w2 (by kernel_rfl) ?_
  refine wpList_runTo rfl (some 10) rfl (.int .i64 0) w2 (by kernel_rfl) ?_
  refine wpList_runTo rfl (some 1) rfl (.slice av 73 cv) w2 (by kernel_rfl) ?_
  refine wpList_runTo rfl (some 2) rfl (.int .i64 0) w2 (by kernel_rfl) ?_
  refine wpList_nil ?_
  refine hK1 _ _ ?_
  clear hK1
  simp only [Act.put, List.setIfInBounds_toArray, List.set_cons_zero, List.set_cons_succ]
  have hDc := Decode_any (.slice av 73 cv) exB w2 (by decide) HO2.out.1 (HM.out.1.below HO2.out.2 HM.out.2.1) (HM.out.2.2.1.below HO2.out.2) (HM.out.2.2.2.below HO2.out.2)
  rw [HA.out.1] at hDc
  go_upto_region 2 with fail
  rename_i K2 hK2
  refine wp_region_lit ?_
  refine wpList_runTo rfl (some 12) rfl (.slice av 73 cv) w2 (by kernel_rfl) ?_
  refine wpList_callF rfl (some 13) rfl 12 #[.slice av 73 cv] (by kernel_rfl) hDc ?_
  rintro e w3 ⟨hb3, rfl⟩
  rw [HA.out.2]
  refine ⟨_, rfl, ?_⟩
  refine wpList_runTo rfl (some 11) rfl (.tuple #[.agg exM.cs, .nilIface]) w3 (by kernel_rfl) ?_
  refine wpList_runTo rfl (some 14) rfl (.agg exM.cs) w3 (by kernel_rfl) ?_
  refine wpList_runTo rfl (some 15) rfl .nilIface w3 (by kernel_rfl) ?_
  refine wpList_runTo rfl (some 3) rfl (.pointer (some ⟨w3.heap.size, 0, none⟩)) (w3.alloc (.cells zeroM.cs 23)) (by kernel_rfl) ?_
  refine wpList_store_row rfl 23 (.tmp 3) (.tmp 14) rfl w3.heap.size exM.cs (by rfl) (by rfl) 23 _ (heap_alloc_new w3 _) (by rw [Msg.cs_size]; kernel_rfl) (by rw [Msg.cs_size, Msg.cs_size]) (Msg.cs_one _) ?_
  refine wpList_runTo rfl (some 4) rfl .nilIface ((w3.alloc (.cells zeroM.cs 23)).setRow w3.heap.size exM.cs) (by kernel_rfl) ?_
  refine wpList_nil ?_
  refine hK2 _ _ ?_
  clear hK2 hDc
  simp only [Act.put, List.setIfInBounds_toArray, List.set_cons_zero, List.set_cons_succ]
  have hb4 : Below w3.heap.size w3 ((w3.alloc (.cells zeroM.cs 23)).setRow w3.heap.size exM.cs) := below_setRow ((Below.refl _ w3).alloc (Nat.le_refl _) _) (Nat.le_refl _) _
  have HO4 : Hid (OwnM ((w3.alloc (.cells zeroM.cs 23)).setRow w3.heap.size exM.cs) w3.heap.size exM ∧ SrcB ((w3.alloc (.cells zeroM.cs 23)).setRow w3.heap.size exM.cs) (.slice av 73 cv) exB ∧ Below w.heap.size w ((w3.alloc (.cells zeroM.cs 23)).setRow w3.heap.size exM.cs)) := by
    have hb23 := HO2.out.2.trans (hb3.mono HO2.out.2.size)
    exact ⟨setRow_heap _ _ _ _ _ _ (heap_alloc_new w3 _), (HO2.out.1.below hb3).below hb4, hb23.trans (hb4.mono hb23.size)⟩
  clear hb3 hb4 HO2
  generalize (w3.alloc (.cells zeroM.cs 23)).setRow w3.heap.size exM.cs = w4 at *
  generalize w3.heap.size = g3 at *
  have HC : Hid (69 ≤ cv) := by obtain ⟨a, c, e, h, -⟩ := HO4.out.2.1; injection e with _ _ e3; subst e3; have : exB.length = 73 := rfl; show 69 ≤ cv; omega
  go_upto_region 4 with fail
  rename_i K4 hK4
  have hS4 : OwnM w4.drew g3 exM ∧ SrcB w4.drew (.slice av 73 cv) exB := ⟨HO4.out.1, HO4.out.2.1⟩
  have HB4 : Hid (Below w.heap.size w w4.drew) := below_drewN HO4.out.2.2 1
  refine wp_region_held (S := fun w' => OwnM w' g3 exM ∧ SrcB w' (.slice av 73 cv) exB) (by kernel_rfl) ?_
  change wpAnyH _ _ _ _ _ _ _ _ (World.drew _)
  clear HO4
  generalize w4.drew = w5 at *
  refine takeR (i := 0) (v := .int .i64 0) (some 16) rfl rfl (by kernel_rfl) (by kernel_rfl) (by kernel_rfl) (fun _ _ _ h => h) (Or.inl ⟨by kernel_rfl, fun w' hSw => by kernel_rfl⟩) hS4 ?_
  simp only [Act.put, List.setIfInBounds_toArray, List.set_cons_zero, List.set_cons_succ]
  refine takeR (i := 1) (v := .bool true) (some 17) rfl rfl (by kernel_rfl) (by kernel_rfl) (by kernel_rfl) (fun _ _ _ h => h) (Or.inl ⟨by kernel_rfl, fun w' hSw => by kernel_rfl⟩) hS4 ?_
  simp only [Act.put, List.setIfInBounds_toArray, List.set_cons_zero, List.set_cons_succ]
  refine takeR (i := 2) (v := .bool true) (some 18) rfl rfl (by kernel_rfl) (by kernel_rfl) (by kernel_rfl) (fun _ _ _ h => h) (Or.inl ⟨by kernel_rfl, fun w' hSw => by kernel_rfl⟩) hS4 ?_
  simp only [Act.put, List.setIfInBounds_toArray, List.set_cons_zero, List.set_cons_succ]
  refine takeR (i := 3) (v := .nilIface) (some 19) rfl rfl (by kernel_rfl) (by kernel_rfl) (by kernel_rfl) (fun _ _ _ h => h) (Or.inl ⟨by kernel_rfl, fun w' hSw => by kernel_rfl⟩) hS4 ?_
  simp only [Act.put, List.setIfInBounds_toArray, List.set_cons_zero, List.set_cons_succ]
  refine takeR (i := 4) (v := .bool true) (some 20) rfl rfl (by kernel_rfl) (by kernel_rfl) (by kernel_rfl) (fun _ _ _ h => h) (Or.inl ⟨by kernel_rfl, fun w' hSw => by kernel_rfl⟩) hS4 ?_
  simp only [Act.put, List.setIfInBounds_toArray, List.set_cons_zero, List.set_cons_succ]
  refine takeR (i := 5) (v := .bool true) (some 21) rfl rfl (by kernel_rfl) (by kernel_rfl) (by kernel_rfl) (fun _ _ _ h => h) (Or.inl ⟨by kernel_rfl, fun w' hSw => by kernel_rfl⟩) hS4 ?_
  simp only [Act.put, List.setIfInBounds_toArray, List.set_cons_zero, List.set_cons_succ]
  refine takeR (i := 6) (v := .bool true) (some 22) rfl rfl (by kernel_rfl) (by kernel_rfl) (by kernel_rfl) (fun _ _ _ h => h) (Or.inl ⟨by kernel_rfl, fun w' hSw => by kernel_rfl⟩) hS4 ?_
  simp only [Act.put, List.setIfInBounds_toArray, List.set_cons_zero, List.set_cons_succ]
  refine takeR (i := 7) (v := .agg exM.cs) (some 23) rfl rfl (by kernel_rfl) (by kernel_rfl) (by kernel_rfl) (fun _ _ _ h => h) (Or.inl ⟨by kernel_rfl, fun w' hSw => by exact exec_loadM hSw.1 (.tmp 3) rfl rfl⟩) hS4 ?_
  simp only [Act.put, List.setIfInBounds_toArray, List.set_cons_zero, List.set_cons_succ]
  refine wpAnyH_ready (rs := [8]) (by kernel_rfl) (by simp) ?_
  refine AllReadyH.cons rfl (fun K8 hK8 => ?_) AllReadyH.nil
  rw [if_pos (by kernel_rfl)]
  refine callR (d := some 24) rfl 11 #[] (by kernel_rfl) (example_any _) ?_
  rintro e w6 ⟨rfl, hb6⟩
  refine ⟨_, rfl, ?_⟩
  have hS6 : OwnM w6 g3 exM ∧ SrcB w6 (.slice av 73 cv) exB := ⟨hS4.1.low hb6, hS4.2.below hb6⟩
  have HB6 : Hid (Below w.heap.size w w6) := HB4.out.trans (hb6.mono HB4.out.size)
  refine hK8.out _ _ hS6 (fun _ => ?_)
  clear hK8 hb6 hS4 HB4
  simp only [Act.put, List.setIfInBounds_toArray, List.set_cons_zero, List.set_cons_succ]
  refine takeR (i := 9) (v := .bool true) (some 25) rfl rfl (by kernel_rfl) (by kernel_rfl) (by kernel_rfl) (fun _ _ _ h => h) (Or.inl ⟨by kernel_rfl, fun w' hSw => by exact eqM_run (.tmp 23) (.tmp 24) rfl rfl rfl w'⟩) hS6 ?_
  simp only [Act.put, List.setIfInBounds_toArray, List.set_cons_zero, List.set_cons_succ]
  refine takeR (i := 10) (v := .bool true) (some 26) rfl rfl (by kernel_rfl) (by kernel_rfl) (by kernel_rfl) (fun _ _ _ h => h) (Or.inl ⟨by kernel_rfl, fun w' hSw => by kernel_rfl⟩) hS6 ?_
  simp only [Act.put, List.setIfInBounds_toArray, List.set_cons_zero, List.set_cons_succ]
  refine takeR (i := 11) (v := .bool true) (some 27) rfl rfl (by kernel_rfl) (by kernel_rfl) (by kernel_rfl) (fun _ _ _ h => h) (Or.inl ⟨by kernel_rfl, fun w' hSw => by kernel_rfl⟩) hS6 ?_
  simp only [Act.put, List.setIfInBounds_toArray, List.set_cons_zero, List.set_cons_succ]
  refine takeR (i := 12) (v := .slice av 73 cv) (some 28) rfl rfl (by kernel_rfl) (by kernel_rfl) (by kernel_rfl) (fun _ _ _ h => h) (Or.inl ⟨by kernel_rfl, fun w' hSw => by kernel_rfl⟩) hS6 ?_
  simp only [Act.put, List.setIfInBounds_toArray, List.set_cons_zero, List.set_cons_succ]
  refine takeR (i := 13) (v := .int .i64 73) (some 29) rfl rfl (by kernel_rfl) (by kernel_rfl) (by kernel_rfl) (fun _ _ _ h => h) (Or.inl ⟨by kernel_rfl, fun w' hSw => by kernel_rfl⟩) hS6 ?_
  simp only [Act.put, List.setIfInBounds_toArray, List.set_cons_zero, List.set_cons_succ]
  refine takeR (i := 14) (v := .string ⟨#[56, 61, 70, 73, 88, 46, 52, 46, 52, 1, 57, 61, 53, 49, 1, 51, 53, 61, 49, 1, 52, 57, 61, 65, 1, 53, 54, 61, 66, 1, 51, 52, 61, 55, 1, 53, 50, 61, 50, 48, 50, 52, 48, 50, 50, 57, 45, 49, 50, 58, 51, 52, 58, 53, 54, 46, 55, 56, 57, 1, 49, 49, 50, 61, 120, 1, 49, 48, 61]⟩) (some 30) rfl rfl (by kernel_rfl) (by kernel_rfl) (by kernel_rfl) (fun _ _ _ h => h) (Or.inl ⟨by kernel_rfl, fun w' hSw => by kernel_rfl⟩) hS6 ?_
  simp only [Act.put, List.setIfInBounds_toArray, List.set_cons_zero, List.set_cons_succ]
  refine takeR (i := 15) (v := .int .i64 69) (some 31) rfl rfl (by kernel_rfl) (by kernel_rfl) (by kernel_rfl) (fun _ _ _ h => h) (Or.inl ⟨by kernel_rfl, fun w' hSw => by kernel_rfl⟩) hS6 ?_
  simp only [Act.put, List.setIfInBounds_toArray, List.set_cons_zero, List.set_cons_succ]
  refine takeR (i := 16) (v := .bool true) (some 32) rfl rfl (by kernel_rfl) (by kernel_rfl) (by kernel_rfl) (fun _ _ _ h => h) (Or.inl ⟨by kernel_rfl, fun w' hSw => by kernel_rfl⟩) hS6 ?_
  simp only [Act.put, List.setIfInBounds_toArray, List.set_cons_zero, List.set_cons_succ]
  refine takeR (i := 17) (v := .bool true) (some 33) rfl rfl (by kernel_rfl) (by kernel_rfl) (by kernel_rfl) (fun _ _ _ h => h) (Or.inl ⟨by kernel_rfl, fun w' hSw => by kernel_rfl⟩) hS6 ?_
  simp only [Act.put, List.setIfInBounds_toArray, List.set_cons_zero, List.set_cons_succ]
  refine takeR (i := 18) (v := .bool true) (some 34) rfl rfl (by kernel_rfl) (by kernel_rfl) (by kernel_rfl) (fun _ _ _ h => h) (Or.inl ⟨by kernel_rfl, fun w' hSw => by kernel_rfl⟩) hS6 ?_
  simp only [Act.put, List.setIfInBounds_toArray, List.set_cons_zero, List.set_cons_succ]
  refine takeR (i := 19) (v := .slice av 73 cv) (some 35) rfl rfl (by kernel_rfl) (by kernel_rfl) (by kernel_rfl) (fun _ _ _ h => h) (Or.inl ⟨by kernel_rfl, fun w' hSw => by kernel_rfl⟩) hS6 ?_
  simp only [Act.put, List.setIfInBounds_toArray, List.set_cons_zero, List.set_cons_succ]
  refine takeR (i := 20) (v := .string ⟨#[56, 61, 70, 73, 88, 46, 52, 46, 52, 1, 57, 61, 53, 49, 1, 51, 53, 61, 49, 1, 52, 57, 61, 65, 1, 53, 54, 61, 66, 1, 51, 52, 61, 55, 1, 53, 50, 61, 50, 48, 50, 52, 48, 50, 50, 57, 45, 49, 50, 58, 51, 52, 58, 53, 54, 46, 55, 56, 57, 1, 49, 49, 50, 61, 120, 1, 49, 48, 61]⟩) (some 36) rfl rfl (by kernel_rfl) (by kernel_rfl) (by kernel_rfl) (fun _ _ _ h => h) (Or.inl ⟨by kernel_rfl, fun w' hSw => by kernel_rfl⟩) hS6 ?_
  simp only [Act.put, List.setIfInBounds_toArray, List.set_cons_zero, List.set_cons_succ]
  refine takeR (i := 21) (v := .int .i64 69) (some 37) rfl rfl (by kernel_rfl) (by kernel_rfl) (by kernel_rfl) (fun _ _ _ h => h) (Or.inl ⟨by kernel_rfl, fun w' hSw => by kernel_rfl⟩) hS6 ?_
  simp only [Act.put, List.setIfInBounds_toArray, List.set_cons_zero, List.set_cons_succ]
  refine takeR (i := 22) (v := .slice av 69 cv) (some 38) rfl rfl (by kernel_rfl) (by kernel_rfl) (by kernel_rfl) (fun _ _ _ h => h) (Or.inl ⟨by kernel_rfl, fun w' hSw => by (have q0 := HC.out; clear hSw; go_simp; omega)⟩) hS6 ?_
  simp only [Act.put, List.setIfInBounds_toArray, List.set_cons_zero, List.set_cons_succ]
  refine takeR (i := 23) (v := .string (bs (exB.take 69))) (some 39) rfl rfl (by kernel_rfl) (by kernel_rfl) (by kernel_rfl) (fun _ _ _ h => h) (Or.inl ⟨by kernel_rfl, fun w' hSw => by exact exec_convB (hSw.2.take 69 (by decide)) (.tmp 38) rfl rfl⟩) hS6 ?_
  simp only [Act.put, List.setIfInBounds_toArray, List.set_cons_zero, List.set_cons_succ]
  refine takeR (i := 24) (v := .string ⟨#[56, 61, 70, 73, 88, 46, 52, 46, 52, 1, 57, 61, 53, 49, 1, 51, 53, 61, 49, 1, 52, 57, 61, 65, 1, 53, 54, 61, 66, 1, 51, 52, 61, 55, 1, 53, 50, 61, 50, 48, 50, 52, 48, 50, 50, 57, 45, 49, 50, 58, 51, 52, 58, 53, 54, 46, 55, 56, 57, 1, 49, 49, 50, 61, 120, 1, 49, 48, 61]⟩) (some 40) rfl rfl (by kernel_rfl) (by kernel_rfl) (by kernel_rfl) (fun _ _ _ h => h) (Or.inl ⟨by kernel_rfl, fun w' hSw => by kernel_rfl⟩) hS6 ?_
  simp only [Act.put, List.setIfInBounds_toArray, List.set_cons_zero, List.set_cons_succ]
  refine takeR (i := 25) (v := .bool true) (some 41) rfl rfl (by kernel_rfl) (by kernel_rfl) (by kernel_rfl) (fun _ _ _ h => h) (Or.inl ⟨by kernel_rfl, fun w' hSw => by kernel_rfl⟩) hS6 ?_
  simp only [Act.put, List.setIfInBounds_toArray, List.set_cons_zero, List.set_cons_succ]
  refine takeR (i := 26) (v := .bool true) (some 42) rfl rfl (by kernel_rfl) (by kernel_rfl) (by kernel_rfl) (fun _ _ _ h => h) (Or.inl ⟨by kernel_rfl, fun w' hSw => by kernel_rfl⟩) hS6 ?_
  simp only [Act.put, List.setIfInBounds_toArray, List.set_cons_zero, List.set_cons_succ]
  refine takeR (i := 27) (v := .bool true) (some 0) rfl rfl (by kernel_rfl) (by kernel_rfl) (by kernel_rfl) (fun _ _ _ h => h) (Or.inl ⟨by kernel_rfl, fun w' hSw => by kernel_rfl⟩) hS6 ?_
  simp only [Act.put, List.setIfInBounds_toArray, List.set_cons_zero, List.set_cons_succ]
  refine wpAnyH_done (by kernel_rfl) ?_ _
  refine hK4 _ _ ?_
  clear hK4
  go_wp2
  go_ret
  exact ⟨rfl, HB6.out⟩
end Go.Proofs.YtchkpggdndnpjabGreatDoor

namespace Go.Proofs.YtchkpggdndnpjabGreatDoor
set_option linter.unusedVariables false
open Go.RowKit

set_option maxRecDepth 100000 in
theorem lawFault_nil (w : World) :
    Calls Tryz.prog 23 #[.nilIface] w fun x w' => x = .returned (.tuple #[.int .i64 0, .int .i64 0, .bool true]) ∧ w' = w := by
  go_enter Tryz.func23, Tryz.ntmps23
  go_wp2
  go_ret3
  exact ⟨rfl, rfl⟩
set_option maxRecDepth 100000 in
theorem lawFault_at (g : Nat) (e : Int) (a : Nat) (w : World) (hf : FaultAt w g e a) (he : e ≠ 0) :
    Calls Tryz.prog 23 #[.iface 62 (.pointer (some ⟨g, 0, none⟩))] w fun x w' => x = .returned (.tuple #[.int .i64 (a : Int), .int .i64 e, .bool true]) ∧ ∃ q, w' = w.drewN q := by
  have c0 := hf.cell0
  have c1 := hf.cell1
  have he' : (e != 0) = true := by simpa using he
  clear hf
  have hta : ∀ W, (Instr.typeAssert (Value.iface 62 (.pointer (some ⟨g, 0, none⟩))) 37 62 true).run Tryz.prog W = .ok (.tuple #[.pointer (some ⟨g, 0, none⟩), .bool true]) W := fun W => by kernel_rfl
  go_enter Tryz.func23, Tryz.ntmps23
  go_wp2
  go_quiet (fail)
  go_wp2
  go_ret3
  exact ⟨rfl, _, rfl⟩
end Go.Proofs.YtchkpggdndnpjabGreatDoor

namespace Go.Proofs.YtchkpggdndnpjabGreatDoor
set_option linter.unusedVariables false
set_option linter.unusedSimpArgs false
open Go.RowKit Go.Great

theorem wpList_wanted {P : Program} {ops : Array Oper} {rest : List Oper} {o : Oper} {a : Act} {w : World} {Q : Exit → Act → World → Prop} (hw : Region.wanted o (yielded ops a.tmps) = true)
    (h : ∀ K : Act → World → Prop, (∀ a w, wpList P ops Q rest a w → K a w) → o.wp P a w K Q) : wpList P ops Q (o :: rest) a w :=
  wpList_step fun K hK => by rw [if_pos hw]; exact h K hK
theorem wpList_runToG {P : Program} {ops : Array Oper} {rest : List Oper} {o : Oper} {a : Act} {w : World} {Q : Exit → Act → World → Prop} (hw : Region.wanted o (yielded ops a.tmps) = true) (dst : Option Tmp) (hdst : o.dst = dst)
    (v : Value) (w' : World) (hrun : (execOp a.eval o).run P w = .ok (.value v) w')
    (h : wpList P ops Q rest (a.put dst v) w') : wpList P ops Q (o :: rest) a w := by
  subst hdst
  refine wpList_wanted hw fun K hK => ?_
  unfold Oper.wp
  rw [hrun, Oper.upon_value]
  exact hK _ _ h
theorem wpList_callG {P : Program} {ops : Array Oper} {rest : List Oper} {op : Oper} {a : Act} {w : World} {Q : Exit → Act → World → Prop} (hw : Region.wanted op (yielded ops a.tmps) = true) (d : Option Tmp) (hd : op.dst = d)
    (f : FuncId) (args : Array Value) (hrun : (execOp a.eval op).run P w = .ok (.enter f args) w) {R : Ending → World → Prop} (hc : Calls P f args w R)
    (h : ∀ e w', R e w' → ∃ v, e = .returned v ∧ wpList P ops Q rest (a.put d v) w') : wpList P ops Q (op :: rest) a w := by
  subst hd
  refine wpList_wanted hw fun K hK => ?_
  unfold Oper.wp
  rw [hrun, Oper.upon_enter]
  refine hc.mono fun e w'' hh => ?_
  obtain ⟨v, rfl, hw⟩ := h _ _ hh
  exact hK _ _ hw
theorem wpList_loadG {ops : Array Oper} {rest : List Oper} {op : Oper} {a : Act} {w : World} {Q : Exit → Act → World → Prop} {g : Nat} {M : Msg} (h : OwnM w g M) (x : Operand) (hw : Region.wanted op (yielded ops a.tmps) = true) (ho : op.op = .load 23 x)
    (hx : a.eval x = .pointer (some ⟨g, 0, none⟩)) (hn : wpList Tryz.prog ops Q rest (a.put op.dst (.agg M.cs)) w) : wpList Tryz.prog ops Q (op :: rest) a w :=
  wpList_wanted hw fun K hK => wp_load_row 23 x ho g hx 23 M.cs (0, 0) _ h Tryz.underlying23 rfl (by rw [M.cs_size]; kernel_rfl) (hK _ _ hn)
/-- What must hold of a world in which fix is called. -/
structure Env (w : World) : Prop where
  mon : Mon w
  lt : 2 < w.heap.size
  pow : Pow w
  ety : ETy w
theorem Env.below {w w' : World} (h : Env w) (hb : Below w.heap.size w w') : Env w' := ⟨h.mon.below hb h.lt, Nat.lt_of_lt_of_le h.lt hb.size, h.pow.below hb, h.ety.below hb⟩
theorem Decode_back {M : Msg} (h : Vld M) {b : List UInt8} (hj : joinL (encF M) = .ok b) (hl : b.length ≤ 1024) (v : Value) (w : World) (hs : SrcB w v b) (he : Env w) :
    Calls Tryz.prog 12 #[v] w fun x w' => x = .returned (.tuple #[.agg M.cs, .nilIface]) ∧ Below w.heap.size w w' := by
  have hd := dec_enc h hj
  refine (Decode_any v b w (by omega) hs he.mon he.pow he.ety).mono ?_
  rw [hd.1]
  rintro x w' ⟨hb, hx⟩
  have hx2 : x = .returned (.tuple #[.agg (rdM (encF M)).cs, .nilIface]) := hx
  rw [hd.2] at hx2
  exact ⟨hx2, hb⟩
theorem Why_back {M : Msg} (h : Vld M) {b : List UInt8} (hj : joinL (encF M) = .ok b) (hl : b.length ≤ 1024) (v : Value) (w : World) (hs : SrcB w v b) (he : Env w) :
    Calls Tryz.prog 20 #[v] w fun x w' => x = .returned (.tuple #[.int .i64 0, .int .i64 0, .agg M.cs]) ∧ Below w.heap.size w w' := by
  obtain ⟨h1, h2⟩ := rd_enc h
  refine (Why_any v b w (by omega) hs he.mon he.pow he.ety).mono ?_
  rintro x w' ⟨hx, hb⟩
  refine ⟨?_, hb⟩
  rw [hx]
  unfold whR whT whM
  rw [join_split hj]
  dsimp only
  rw [h2, h1.cs]
theorem Decode_bad {l : List UInt8} {y : Int × Nat} (hy : splitL l = .error y) (hl : l.length ≤ 9223372036854775807) (v : Value) (w : World) (hs : SrcB w v l) (he : Env w) :
    Calls Tryz.prog 12 #[v] w fun x w' => ∃ g, x = .returned (.tuple #[.agg zeroM.cs, .iface 62 (.pointer (some ⟨g, 0, none⟩))]) ∧ Below w.heap.size w w' := by
  refine (Decode_any v l w hl hs he.mon he.pow he.ety).mono ?_
  rintro x w' ⟨hb, hx⟩
  unfold dcL at hx
  rw [hy] at hx
  obtain ⟨e, a⟩ := y
  obtain ⟨g, -, hx, -⟩ := hx
  exact ⟨g, hx, hb⟩
theorem Why_bad {l : List UInt8} {y : Int × Nat} (hy : splitL l = .error y) (hl : l.length ≤ 9223372036854775807) (v : Value) (w : World) (hs : SrcB w v l) (he : Env w) :
    Calls Tryz.prog 20 #[v] w fun x w' => x = .returned (.tuple #[.int .i64 (-1), .int .i64 0, .agg zeroM.cs]) ∧ Below w.heap.size w w' := by
  refine (Why_any v l w hl hs he.mon he.pow he.ety).mono ?_
  rintro x w' ⟨hx, hb⟩
  refine ⟨?_, hb⟩
  rw [hx]
  unfold whR whT whM
  rw [hy]
/-- The memory of a law: its message, what it has besides. -/
structure LM (w wx : World) (g : Nat) (M : Msg) : Prop where
  msg : OwnM wx g M
  below : Below w.heap.size w wx
theorem LM.low {w wx w' : World} {g : Nat} {M : Msg} (h : LM w wx g M) (hb : Below wx.heap.size wx w') : LM w w' g M := ⟨h.msg.low hb, h.below.trans (hb.mono h.below.size)⟩
theorem put_below {w : World} {M : Msg} : Below w.heap.size w ((w.alloc (.cells zeroM.cs 23)).setRow w.heap.size M.cs) := below_setRow ((Below.refl _ w).alloc (Nat.le_refl _) _) (Nat.le_refl _) _
theorem put_own {w : World} {M : Msg} : OwnM ((w.alloc (.cells zeroM.cs 23)).setRow w.heap.size M.cs) w.heap.size M := setRow_heap _ _ _ _ _ _ (heap_alloc_new w _)
end Go.Proofs.YtchkpggdndnpjabGreatDoor

namespace Go.Proofs.YtchkpggdndnpjabGreatDoor
set_option linter.unusedVariables false
open Go.ChangeShapes Go.WideShapes Go.ChangeAt Go.RowKit Go.Deep

theorem own : ownKnob Tryz.prog.godebug = none := by kernel_rfl
theorem laidOut : laidOutB Tryz.prog = true := by kernel_rfl
/-- The list that every row of the seat bears: its plain tables, and the handle. -/
abbrev tabs : List (String × DataW Unit) := [("math/bits.deBruijn32tab", Rows.laid_math_bits_deBruijn32tab), ("math/bits.deBruijn64tab", Rows.laid_math_bits_deBruijn64tab), ("internal/strconv.uint64pow10", Rows.laid_internal_strconv_uint64pow10), ("errors.errorType", Rows.laid_errors_errorType), ("outcry/clock.monthDays", Rows.laid_outcry_clock_monthDays)]
abbrev plains : List (String × DataW Unit) := [("math/bits.deBruijn32tab", Rows.laid_math_bits_deBruijn32tab), ("math/bits.deBruijn64tab", Rows.laid_math_bits_deBruijn64tab), ("internal/strconv.uint64pow10", Rows.laid_internal_strconv_uint64pow10), ("outcry/clock.monthDays", Rows.laid_outcry_clock_monthDays)]
theorem plains_of : (tabs.filter fun x => x.2.handleName?.isNone) = plains := by kernel_rfl
theorem handle_in : (tabs.filter fun x => x.2.handleName?.isSome) = [("errors.errorType", Rows.laid_errors_errorType)] := by kernel_rfl
theorem parts_of {W : World} (h : laidMetH Tryz.prog tabs W) : laidMet Tryz.prog plains W ∧ handlesMet Tryz.prog [("errors.errorType", Rows.laid_errors_errorType)] W := by
  unfold laidMetH at h
  rw [handle_in, plains_of] at h
  exact h
theorem pow10_data : (Rows.laid_internal_strconv_uint64pow10 : DataW Unit) = Lib.tabData .u64 Lib.pow10Tab := by kernel_rfl
theorem gPow : Tryz.prog.globalNamed "internal/strconv.uint64pow10" = some 1 := by kernel_rfl
theorem tPow : (Tryz.prog.globals[1]?).map (·.type) = some 248 := by kernel_rfl
theorem mon_data : (Rows.laid_outcry_clock_monthDays : DataW Unit) = Lib.tabData .i64 monTab := by kernel_rfl
theorem gMon : Tryz.prog.globalNamed "outcry/clock.monthDays" = some 2 := by kernel_rfl
theorem tMon : (Tryz.prog.globals[2]?).map (·.type) = some 252 := by kernel_rfl
theorem pow_of {W : World} (h : laidMetH Tryz.prog tabs W) : Pow W := by
  have h2 := (parts_of h).1.tail.tail
  rw [pow10_data] at h2
  exact Lib.tabIs_of_head gPow tPow Tryz.underlying248 Tryz.underlying113 (by kernel_rfl) (by kernel_rfl) h2
theorem tab_of {W : World} (h : laidMetH Tryz.prog tabs W) : Mon W := by
  have h2 := (parts_of h).1.tail.tail.tail
  rw [mon_data] at h2
  have t := Lib.tabIs_of_head gMon tMon Tryz.underlying252 Tryz.underlying3 (by kernel_rfl) (by kernel_rfl) h2
  exact fun k hk => t.cell gMon k hk
theorem gEty : Tryz.prog.globalNamed "errors.errorType" = some 0 := by kernel_rfl
theorem rtIs : (Tryz.prog.cutTypes.find? (·.1 == "internal/reflectlite.rtype")).map (·.2) = some 206 := by kernel_rfl
theorem typesN : Tryz.prog.types.size = 312 := by kernel_rfl
theorem oneRow : ((List.range 312).filter fun t => Tryz.prog.rowNamed t [101, 114, 114, 111, 114]) = [37] := by kernel_rfl
theorem ety_of {W : World} (h : laidMetH Tryz.prog tabs W) : ETy W := by
  obtain ⟨name, u, ty, e1, e2, e3, e4, e5⟩ := (parts_of h).2 _ (List.mem_singleton.2 rfl)
  have en : name = [101, 114, 114, 111, 114] := (Option.some.inj e1).symm
  subst en
  obtain rfl := Option.some.inj (rtIs.symm.trans e2)
  have hm : ty ∈ (List.range 312).filter fun t => Tryz.prog.rowNamed t [101, 114, 114, 111, 114] := List.mem_filter.2 ⟨List.mem_range.2 (by rw [← typesN]; exact e3), e4⟩
  rw [oneRow] at hm
  obtain rfl := List.mem_singleton.1 hm
  have hh : typeHandle Tryz.prog 37 = .pointer (some ⟨8, 37, none⟩) := by kernel_rfl
  rw [hh] at e5
  unfold ETy
  simpa using World.var?_cell gEty e5 0
theorem env_of {W : World} (h : laidMetH Tryz.prog tabs W) : Env W := by
  refine ⟨tab_of h, ?_, pow_of h, ety_of h⟩
  have h0 := tab_of h 0 (by decide)
  rcases Nat.lt_or_ge 2 W.heap.size with k | k
  · exact k
  · simp [World.cell?, Array.getElem?_eq_none k] at h0
/-- What the handle's variable holds, in a world that meets the condition. -/
def etyObj : Obj := .cells #[.iface 206 (.agg #[.pointer (some ⟨8, 37, none⟩)])] 129 (0, 0)
theorem metWorld_os (os : Os) : (({ World.holding Tryz.prog os ⟨#[], #[], []⟩ with heap := (World.holding Tryz.prog os ⟨#[], #[], []⟩).heap.setIfInBounds 0 etyObj } : World).layVars Tryz.prog plains).os = os := World.layVars_os _ _ _
theorem tabs_met (os : Os) (args : Array Value) : laidMetH Tryz.prog tabs ((({ World.holding Tryz.prog os ⟨#[], #[], []⟩ with heap := (World.holding Tryz.prog os ⟨#[], #[], []⟩).heap.setIfInBounds 0 etyObj } : World).layVars Tryz.prog plains).forCall (fun _ _ => 0) ⟨#[], args, []⟩).memory := by
  have e1 : (plains.filter fun x => (plains.map (·.1)).contains x.1) = plains := List.filter_eq_self.2 fun x hx => List.contains_iff_mem.2 (List.mem_map.2 ⟨x, hx, rfl⟩)
  have e2 : (plains.filter fun x => !(plains.map (·.1)).contains x.1) = [] := List.filter_eq_nil_iff.2 fun x hx => by rw [List.contains_iff_mem.2 (List.mem_map.2 ⟨x, hx, rfl⟩)]; simp
  have h : laidMet Tryz.prog plains (({ World.holding Tryz.prog os ⟨#[], #[], []⟩ with heap := (World.holding Tryz.prog os ⟨#[], #[], []⟩).heap.setIfInBounds 0 etyObj } : World).layVars Tryz.prog plains) := laidMet_layVars (w0 := ({ World.holding Tryz.prog os ⟨#[], #[], []⟩ with heap := (World.holding Tryz.prog os ⟨#[], #[], []⟩).heap.setIfInBounds 0 etyObj } : World)) (plains.map (·.1)) [] (by rw [e1]) (by rw [e1]; kernel_rfl) (by rw [e1]; kernel_rfl) (by rw [e2]; exact LaidIn.none)
  refine laidMetH_of_parts ?_ (by kernel_rfl)
  rw [plains_of]
  exact h.of_heap (by simp [World.memory, World.forCall, Input.heap])
theorem tabs_shaped (os : Os) (args : Array Value) : ((({ World.holding Tryz.prog os ⟨#[], #[], []⟩ with heap := (World.holding Tryz.prog os ⟨#[], #[], []⟩).heap.setIfInBounds 0 etyObj } : World).layVars Tryz.prog plains).forCall (fun _ _ => 0) ⟨#[], args, []⟩).Shaped Tryz.prog :=
  World.shaped_of_ZipB (by kernel_rfl) (by kernel_rfl)
end Go.Proofs.YtchkpggdndnpjabGreatDoor
