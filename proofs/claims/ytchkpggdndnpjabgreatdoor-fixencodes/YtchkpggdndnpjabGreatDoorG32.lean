import Derived.Test.YtchkpggdndnpjabGreatDoorG28
import Derived.Test.YtchkpggdndnpjabGreatDoorG31
import Derived.Test.YtchkpggdndnpjabGreatDoorG25
import Derived.Test.YtchkpggdndnpjabGreatDoorG24

namespace Go.Proofs.YtchkpggdndnpjabGreatDoor
set_option linter.unusedVariables false
set_option linter.unusedSimpArgs false
open Go.RowKit Go.Great

theorem ETy.below {w w' : World} (h : ETy w) (hb : Below w.heap.size w w') : ETy w' := (hb.cell (p := ⟨0, 0, none⟩) (World.block_lt_of_cell? _ _ h)).trans h
/-- What Decode tells. -/
def dcL (l : List UInt8) : Except (Int × Nat) Msg := match splitL l with
  | .error x => .error x
  | .ok fs => match rdX fs with
    | none => .ok (rdM fs)
    | some (e, a, _) => .error (e, a)
def DcRet (r : Except (Int × Nat) Msg) (w : World) (x : Ending) (w' : World) : Prop := Below w.heap.size w w' ∧ match r with
  | .ok M => x = .returned (.tuple #[.agg M.cs, .nilIface])
  | .error (e, a) => ∃ g, w.heap.size ≤ g ∧ x = .returned (.tuple #[.agg zeroM.cs, .iface 62 (.pointer (some ⟨g, 0, none⟩))]) ∧ FaultAt w' g e a
/-- Where Decode stands ahead of errors.As. -/
structure DI (w wx : World) (g4 g6 : Nat) (M : Msg) : Prop where
  res : OwnM wx w.heap.size zeroM
  m : OwnM wx g4 M
  var : wx.heap[g6]? = some (.cells #[.pointer none] 62 (0, 0))
  g4w : w.heap.size < g4
  g6w : w.heap.size < g6
  below : Below w.heap.size w wx
set_option maxRecDepth 100000 in
set_option maxHeartbeats 1000000 in
theorem Decode_any (v : Value) (l : List UInt8) (w : World) (hl : l.length ≤ 9223372036854775807) (hv : SrcB w v l) (hM : Mon w) (hp : Pow w) (hE : ETy w) :
    Calls Tryz.prog 12 #[v] w fun x w' => DcRet (dcL l) w x w' := by
  have HE : Hid (ETy w) := hE
  have HB1 : Hid (OwnM (w.alloc (.cells zeroM.cs 23)) w.heap.size zeroM ∧ Below w.heap.size w (w.alloc (.cells zeroM.cs 23))) := ⟨heap_alloc_new w _, (Below.refl _ w).alloc (Nat.le_refl _) _⟩
  have HRd := read_any v l _ hl (hv.below HB1.out.2) (hM.below HB1.out.2 hM.lt) (hp.below HB1.out.2)
  obtain ⟨R, hR⟩ : ∃ R, dcL l = R := ⟨_, rfl⟩
  have HR : Hid (dcL l = R) := hR
  rw [hR]
  clear hM hp hv hl hE hR
  go_enter Tryz.func12, Tryz.ntmps12
  go_upto_region 1 with fail
  generalize hW : World.alloc w _ = w1
  have hW1 : w.alloc (.cells zeroM.cs 23) = w1 := hW
  rw [hW1] at HRd HB1
  clear hW hW1
  rename_i K1 hK1
  refine wp_region_lit ?_
  refine wpList_runTo rfl (some 8) rfl v w1 (by kernel_rfl) ?_
  refine wpList_callF rfl (some 9) rfl 29 #[v] (by kernel_rfl) HRd ?_
  rintro e w2 hrd
  obtain ⟨GM, ev, hxe, HF2⟩ : ∃ GM ev, e = .returned (.tuple #[.agg (Msg.cs GM), ev]) ∧ Hid (Below w1.heap.size w1 w2 ∧ match splitL l with | .error (e, a) => GM = zeroM ∧ ∃ g, w1.heap.size ≤ g ∧ ev = .iface 62 (.pointer (some ⟨g, 0, none⟩)) ∧ FaultAt w2 g e a | .ok fs => GM = rdM fs ∧ ErrAt w2 w1.heap.size ev (rdX fs)) := by
    obtain ⟨hb, h⟩ := hrd
    revert h
    cases splitL l with
    | error x =>
      obtain ⟨e1, a1⟩ := x
      rintro ⟨g, hg, rfl, hf⟩
      exact ⟨zeroM, _, rfl, hb, rfl, g, hg, rfl, hf⟩
    | ok fs =>
      rintro ⟨ev, rfl, hf⟩
      exact ⟨rdM fs, _, rfl, hb, rfl, hf⟩
  subst hxe
  clear hrd HRd
  refine ⟨_, rfl, ?_⟩
  refine wpList_runTo rfl (some 7) rfl (.tuple #[.agg GM.cs, ev]) w2 (by kernel_rfl) ?_
  refine wpList_runTo rfl (some 10) rfl (.agg GM.cs) w2 (by kernel_rfl) ?_
  refine wpList_runTo rfl (some 11) rfl ev w2 (by kernel_rfl) ?_
  refine wpList_runTo rfl (some 4) rfl (.pointer (some ⟨w2.heap.size, 0, none⟩)) (w2.alloc (.cells zeroM.cs 23)) (by kernel_rfl) ?_
  refine wpList_store_row rfl 23 (.tmp 4) (.tmp 10) rfl w2.heap.size GM.cs (by rfl) (by rfl) 23 _ (heap_alloc_new w2 _) (by rw [Msg.cs_size]; kernel_rfl) (by rw [Msg.cs_size, Msg.cs_size]) (Msg.cs_one _) ?_
  refine wpList_runTo rfl (some 5) rfl ev ((w2.alloc (.cells zeroM.cs 23)).setRow w2.heap.size GM.cs) (by kernel_rfl) ?_
  refine wpList_nil ?_
  refine hK1 _ _ ?_
  clear hK1
  simp only [Act.put, List.setIfInBounds_toArray, List.set_cons_zero, List.set_cons_succ]
  have hb3 : Below w2.heap.size w2 ((w2.alloc (.cells zeroM.cs 23)).setRow w2.heap.size GM.cs) := below_setRow ((Below.refl _ w2).alloc (Nat.le_refl _) _) (Nat.le_refl _) _
  have hm3 : OwnM ((w2.alloc (.cells zeroM.cs 23)).setRow w2.heap.size GM.cs) w2.heap.size GM := setRow_heap _ _ _ _ _ _ (heap_alloc_new w2 _)
  generalize (w2.alloc (.cells zeroM.cs 23)).setRow w2.heap.size GM.cs = w3 at *
  go_upto_region 3 with fail
  generalize hW4 : World.alloc w3 _ = w4
  have hb4 : Below w3.heap.size w3 w4 := by rw [← hW4]; exact (Below.refl _ w3).alloc (Nat.le_refl _) _
  have HD : Hid (DI w w4 w2.heap.size w3.heap.size GM) := by
    have q1 := HF2.out.1
    have h12 := (HB1.out.1.low q1)
    refine ⟨(h12.low hb3).low hb4, hm3.low hb4, by rw [← hW4]; exact heap_alloc_new w3 _, h12.lt, Nat.lt_of_lt_of_le h12.lt hb3.size, ?_⟩
    have b1 := HB1.out.2
    have b2 := b1.trans (q1.mono b1.size)
    have b3 := b2.trans (hb3.mono b2.size)
    exact b3.trans (hb4.mono b3.size)
  have HF4 : Hid (match splitL l with | .error (e, a) => GM = zeroM ∧ ∃ g, w.heap.size < g ∧ g < w3.heap.size ∧ ev = .iface 62 (.pointer (some ⟨g, 0, none⟩)) ∧ FaultAt w4 g e a | .ok fs => GM = rdM fs ∧ ErrAt w4 (w.heap.size + 1) ev (rdX fs)) := by
    obtain ⟨q1, q2⟩ := HF2.out
    have hlt : w.heap.size < w1.heap.size := HB1.out.1.lt
    revert q2
    cases splitL l with
    | error x =>
      obtain ⟨e1, a1⟩ := x
      rintro ⟨h1, g, hg, h2, hf⟩
      have hgl := (Array.getElem?_eq_some_iff.1 hf).1
      exact ⟨h1, g, by omega, Nat.lt_of_lt_of_le hgl hb3.size, h2, (hb4.block _ (Nat.lt_of_lt_of_le hgl hb3.size)).trans ((hb3.block _ hgl).trans hf)⟩
    | ok fs =>
      rintro ⟨h1, h2⟩
      exact ⟨h1, (h2.below hb3 (B := w.heap.size + 1) hlt).below hb4 (Nat.le_refl _)⟩
  clear hW4 hb4 hb3 hm3 HF2 HB1
  generalize hg4 : w2.heap.size = g4 at *
  generalize hg6 : w3.heap.size = g6 at *
  clear hg4 hg6
  have HEv := HE.out.below HD.out.below
  have v6 : w4.cell? ⟨g6, 0, none⟩ = some (.pointer none) := cell_of_row _ _ 0 _ _ _ HD.out.var
  have f6 : w4.frozen? ⟨g6, 0, none⟩ = false := frozen_of_row w4 g6 0 _ _ HD.out.var
  have HC : Hid ((∃ f e a, R = .error (e, a) ∧ w.heap.size < f ∧ FaultAt w4 f e a ∧ Calls Tryz.prog 30 #[ev, .iface 71 (.pointer (some ⟨g6, 0, none⟩))] w4 fun x w' => x = .returned (.bool true) ∧ AsSet ⟨g6, 0, none⟩ ⟨f, 0, none⟩ w4 w') ∨ (ev = .nilIface ∧ R = .ok GM)) := by
    have h4 := HF4.out
    have hR := HR.out
    unfold dcL at hR
    revert h4 hR
    cases splitL l with
    | error x =>
      obtain ⟨e1, a1⟩ := x
      rintro ⟨-, g, hg1, hg2, rfl, hf⟩ hR
      exact .inl ⟨g, e1, a1, hR.symm, hg1, hf, as_F ⟨g, 0, none⟩ ⟨g6, 0, none⟩ _ w4 HEv v6 f6⟩
    | ok fs =>
      rintro ⟨rfl, he⟩ hR
      dsimp only at hR
      revert he hR
      cases rdX fs with
      | none =>
        intro he hR
        exact .inr ⟨he, hR.symm⟩
      | some x =>
        obtain ⟨e1, a1, t1⟩ := x
        rintro ⟨h, rfl, f, q1, q2, q3, q4⟩ hR
        exact .inl ⟨f, e1, a1, hR.symm, q2, q4, as_WF h f ⟨f, 0, none⟩ rfl ⟨g6, 0, none⟩ _ w4 HEv v6 f6 (cell_of_row _ _ 1 _ _ _ q3)⟩
  clear HF4 HR v6 f6 HEv HE
  rcases HC.out with ⟨f, e0, a0, rfl, hfl, hfa, hcall⟩ | ⟨rfl, rfl⟩
  · clear HC
    have HFA : Hid (w.heap.size < f ∧ FaultAt w4 f e0 a0) := ⟨hfl, hfa⟩
    clear hfl hfa
    go_wp2_with (go_at_call 30; fail)
    refine hcall.mono ?_
    clear hcall
    rintro e w5 ⟨rfl, W, hbW, rfl⟩
    have hne : f ≠ g6 := fun e => by
      have h1 := HFA.out.2
      have h2 := HD.out.var
      subst e
      unfold FaultAt at h1
      rw [h1] at h2
      injection h2 with h2
      injection h2 with _ h2
      exact absurd h2 (by decide)
    have hg6 : g6 < w4.heap.size := (Array.getElem?_eq_some_iff.1 HD.out.var).1
    have hvarW : W.heap[g6]? = some (.cells #[.pointer none] 62 (0, 0)) := (hbW.block _ hg6).trans HD.out.var
    have HX : Hid (OwnM (W.setCell ⟨g6, 0, none⟩ (.pointer (some ⟨f, 0, none⟩))) w.heap.size zeroM ∧ FaultAt (W.setCell ⟨g6, 0, none⟩ (.pointer (some ⟨f, 0, none⟩))) f e0 a0 ∧ Below w.heap.size w (W.setCell ⟨g6, 0, none⟩ (.pointer (some ⟨f, 0, none⟩))) ∧ w.heap.size < f) := by
      refine ⟨(Below.heap_setCell _ _ _ _ (Nat.ne_of_lt HD.out.g6w)).trans (HD.out.res.low hbW), (Below.heap_setCell _ _ _ _ hne).trans ((hbW.block _ (Array.getElem?_eq_some_iff.1 HFA.out.2).1).trans HFA.out.2), (HD.out.below.trans (hbW.mono HD.out.below.size)).setCell (Nat.le_of_lt HD.out.g6w) _, HFA.out.1⟩
    have hc6 : (W.setCell ⟨g6, 0, none⟩ (.pointer (some ⟨f, 0, none⟩))).cell? ⟨g6, 0, none⟩ = some (.pointer (some ⟨f, 0, none⟩)) := by
      rw [setCell_eq_setRow W g6 0 _ _ _ _ hvarW]
      exact cell_of_row _ _ 0 _ _ _ (setRow_heap _ _ _ _ _ _ hvarW)
    have HG6 : Hid (w.heap.size < g6) := HD.out.g6w
    clear hvarW hne HD
    generalize W.setCell ⟨g6, 0, none⟩ (.pointer (some ⟨f, 0, none⟩)) = w5 at *
    go_upto_region 4 with fail
    rename_i K4 hK4
    refine wp_region_held (S := fun w' => w'.cell? ⟨g6, 0, none⟩ = some (.pointer (some ⟨f, 0, none⟩))) (by kernel_rfl) ?_
    change wpAnyH _ _ _ _ _ _ _ _ (World.drew _)
    have hS5 : w5.drew.cell? ⟨g6, 0, none⟩ = some (.pointer (some ⟨f, 0, none⟩)) := hc6
    have HXd : Hid (OwnM w5.drew w.heap.size zeroM ∧ FaultAt w5.drew f e0 a0 ∧ Below w.heap.size w w5.drew ∧ w.heap.size < f) := ⟨HX.out.1, HX.out.2.1, below_drewN HX.out.2.2.1 1, HX.out.2.2.2⟩
    have HNE : Hid (g6 ≠ w.heap.size) := Nat.ne_of_gt HG6.out
    clear hc6 HX
    generalize w5.drew = w6 at *
    refine takeR (i := 0) (v := .agg zeroM.cs) (some 15) rfl rfl (by kernel_rfl) (by kernel_rfl) (by kernel_rfl) (fun _ _ _ h => h) (Or.inl ⟨by kernel_rfl, fun w' hSw => by kernel_rfl⟩) hS5 ?_
    simp only [Act.put, List.setIfInBounds_toArray, List.set_cons_zero, List.set_cons_succ]
    refine takeR (i := 1) (v := .pointer (some ⟨f, 0, none⟩)) (some 16) rfl rfl (by kernel_rfl) (by kernel_rfl) (by kernel_rfl) (fun _ _ _ h => h) (Or.inl ⟨by kernel_rfl, fun w' hSw => by have q0 := hSw; clear hSw; go_simp⟩) hS5 ?_
    simp only [Act.put, List.setIfInBounds_toArray, List.set_cons_zero, List.set_cons_succ]
    refine takeR (i := 2) (v := .iface 62 (.pointer (some ⟨f, 0, none⟩))) (some 17) rfl rfl (by kernel_rfl) (by kernel_rfl) (by kernel_rfl) (fun _ _ _ h => h) (Or.inl ⟨by kernel_rfl, fun w' hSw => by kernel_rfl⟩) hS5 ?_
    simp only [Act.put, List.setIfInBounds_toArray, List.set_cons_zero, List.set_cons_succ]
    refine wpAnyH_ready (rs := [3]) (by kernel_rfl) (by simp) ?_
    refine AllReadyH.cons rfl (fun K1 hK1 => ?_) AllReadyH.nil
    rw [if_pos (by kernel_rfl)]
    refine wp_store_row 23 (.tmp 2) (.tmp 15) rfl w.heap.size zeroM.cs (by kernel_rfl) (by kernel_rfl) 23 _ HXd.out.1 (by kernel_rfl) rfl (by kernel_rfl) ?_
    have hS6 : (w6.setRow w.heap.size zeroM.cs).cell? ⟨g6, 0, none⟩ = some (.pointer (some ⟨f, 0, none⟩)) := by rw [cell_setRow_other _ _ _ _ HNE.out]; exact hS5
    refine hK1.out _ _ hS6 (fun _ => ?_)
    clear hK1
    simp only [Act.put, List.setIfInBounds_toArray, List.set_cons_zero, List.set_cons_succ]
    refine takeR (i := 4) (v := .iface 62 (.pointer (some ⟨f, 0, none⟩))) (some 3) rfl rfl (by kernel_rfl) (by kernel_rfl) (by kernel_rfl) (fun _ _ _ h => h) (Or.inl ⟨by kernel_rfl, fun w' hSw => by kernel_rfl⟩) hS6 ?_
    simp only [Act.put, List.setIfInBounds_toArray, List.set_cons_zero, List.set_cons_succ]
    refine wpAnyH_done (by kernel_rfl) ?_ _
    refine hK4 _ _ ?_
    apply wp_ret
    simp only [Exit.then]
    refine bodyPost_ret (results_cr2 (fn := Tryz.f12) (p := 2) (u := 3) (ty := 23) rfl _ _ w.heap.size 23 zeroM.cs (0, 0) _ (by rfl) (setRow_heap _ _ _ _ _ _ HXd.out.1) Tryz.underlying23 rfl (by rw [Msg.cs_size]; kernel_rfl)) (by rfl) ?_
    exact ⟨below_setRow HXd.out.2.2.1 (Nat.le_refl _) _, f, Nat.le_of_lt HXd.out.2.2.2, rfl, (setRow_other _ _ _ _ (Nat.ne_of_gt HXd.out.2.2.2)).trans HXd.out.2.1⟩
  · clear HC
    go_wp2_with (go_at_call 30; fail)
    refine (as_nil _ _).mono ?_
    rintro e w5 ⟨rfl, rfl⟩
    go_upto_region 5 with fail
    rename_i K hK
    refine wp_region_lit ?_
    refine wpList_loadM HD.out.m (.tmp 4) rfl rfl rfl ?_
    refine wpList_store_row rfl 23 (.tmp 2) (.tmp 18) rfl w.heap.size GM.cs (by rfl) (by rfl) 23 _ HD.out.res (by rw [Msg.cs_size]; kernel_rfl) (by rw [Msg.cs_size, Msg.cs_size]) (Msg.cs_one _) ?_
    refine wpList_runTo rfl (some 3) rfl .nilIface (w5.setRow w.heap.size GM.cs) (by kernel_rfl) ?_
    refine wpList_nil ?_
    refine hK _ _ ?_
    apply wp_ret
    refine bodyPost_ret (results_cr2 (fn := Tryz.f12) (p := 2) (u := 3) (ty := 23) rfl _ _ w.heap.size 23 GM.cs (0, 0) _ (by rfl) (setRow_heap _ _ _ _ _ _ HD.out.res) Tryz.underlying23 rfl (by rw [Msg.cs_size]; kernel_rfl)) (by rfl) ?_
    exact ⟨below_setRow HD.out.below (Nat.le_refl _) _, rfl⟩
end Go.Proofs.YtchkpggdndnpjabGreatDoor

namespace Go.Proofs.YtchkpggdndnpjabGreatDoor
set_option linter.unusedVariables false
set_option linter.unusedSimpArgs false
open Go.RowKit

/-- Two messages with the same cells. -/
def Agr (A M : Msg) : Prop := ∀ j, j < 42 → A.cell j = M.cell j
theorem Agr.z {A M : Msg} (h : Agr A M) (j : Nat) (hj : j < 42) (hs : isStr j = false) (hb : isBoo j = false) : A.z j = M.z j := by
  have := h j hj
  simp [Msg.cell, hs, hb] at this
  exact this
theorem Agr.s {A M : Msg} (h : Agr A M) (j : Nat) (hj : j < 42) (hs : isStr j = true) : A.s j = M.s j := by
  have := h j hj
  simp [Msg.cell, hs] at this
  exact this
theorem Agr.b {A M : Msg} (h : Agr A M) (j : Nat) (hj : j < 42) (hs : isStr j = false) (hb : isBoo j = true) : A.b j = M.b j := by
  have := h j hj
  simp [Msg.cell, hs, hb] at this
  exact this
theorem Agr.cs {A M : Msg} (h : Agr A M) : A.cs = M.cs := by
  unfold Msg.cs
  congr 1
  exact List.map_congr_left fun j hj => h j (List.mem_range.1 hj)
theorem Agr.of {A M : Msg} (h : A.cs = M.cs) : Agr A M := fun j hj => by
  have e : A.cs[j]? = M.cs[j]? := by rw [h]
  rw [A.cs_get j hj, M.cs_get j hj] at e
  injection e
set_option maxRecDepth 100000 in
theorem Agr.st {A M : Msg} (h : Agr A M) (j : Nat) (hj : j < 42) : stOf A j = stOf M j := by
  rcases cases42 hj with rfl | rfl | rfl | rfl | rfl | rfl | rfl | rfl | rfl | rfl | rfl | rfl | rfl | rfl | rfl | rfl | rfl | rfl | rfl | rfl | rfl | rfl | rfl | rfl | rfl | rfl | rfl | rfl | rfl | rfl | rfl | rfl | rfl | rfl | rfl | rfl | rfl | rfl | rfl | rfl | rfl | rfl
  · exact congrArg (fun z => stN z 17) (h.z 0 (by decide) rfl rfl)
  · exact congrArg (stT nmS) (h.s 1 (by decide) rfl)
  · exact congrArg (stT nmS) (h.s 2 (by decide) rfl)
  · exact congrArg (fun z => stN z 999999999) (h.z 3 (by decide) rfl rfl)
  · exact congrArg stB (h.b 4 (by decide) rfl rfl)
  · exact congrArg (fun z => stN z 253402300799999) (h.z 5 (by decide) rfl rfl)
  · exact congrArg (fun z => stN z 253402300799999) (h.z 6 (by decide) rfl rfl)
  · exact congrArg (fun z => stN z 3600) (h.z 7 (by decide) rfl rfl)
  · exact congrArg stB (h.b 8 (by decide) rfl rfl)
  · exact congrArg (stT tiS) (h.s 9 (by decide) rfl)
  · exact congrArg (fun z => stN z 999999999) (h.z 10 (by decide) rfl rfl)
  · exact congrArg (fun z => stN z 999999999) (h.z 11 (by decide) rfl rfl)
  · exact congrArg (fun z => stN z 999999999) (h.z 12 (by decide) rfl rfl)
  · exact congrArg stB (h.b 13 (by decide) rfl rfl)
  · exact congrArg (fun z => stN z 999999999) (h.z 14 (by decide) rfl rfl)
  · exact congrArg (fun z => stN z 17) (h.z 15 (by decide) rfl rfl)
  · exact congrArg (fun z => stN z 9999) (h.z 16 (by decide) rfl rfl)
  · exact congrArg (fun z => stN z 999) (h.z 17 (by decide) rfl rfl)
  · exact congrArg (stT txS) (h.s 18 (by decide) rfl)
  · exact congrArg (stT idS) (h.s 19 (by decide) rfl)
  · exact congrArg (stT idS) (h.s 20 (by decide) rfl)
  · exact congrArg (stT nmS) (h.s 21 (by decide) rfl)
  · exact congrArg (stT syS) (h.s 22 (by decide) rfl)
  · exact congrArg (fun z => stN z 2) (h.z 23 (by decide) rfl rfl)
  · exact congrArg (fun z => stN z 4) (h.z 24 (by decide) rfl rfl)
  · exact congrArg (fun z => stN z 7) (h.z 25 (by decide) rfl rfl)
  · exact congrArg (fun z => stN z 1000000000) (h.z 26 (by decide) rfl rfl)
  · exact congrArg (fun z => stN z 1000000000) (h.z 27 (by decide) rfl rfl)
  · exact congrArg (fun z => stN z 1000000) (h.z 28 (by decide) rfl rfl)
  · exact congrArg (fun z => stN z 1000000) (h.z 29 (by decide) rfl rfl)
  · exact congrArg (fun z => stN z 1000000) (h.z 30 (by decide) rfl rfl)
  · exact congrArg stD (h.z 31 (by decide) rfl rfl)
  · exact congrArg (fun z => stN z 999999999) (h.z 32 (by decide) rfl rfl)
  · exact congrArg (fun z => stN z 999999999) (h.z 33 (by decide) rfl rfl)
  · exact congrArg (fun z => stN z 8) (h.z 34 (by decide) rfl rfl)
  · exact congrArg (fun z => stN z 6) (h.z 35 (by decide) rfl rfl)
  · exact congrArg (fun z => stN z 1000000000) (h.z 36 (by decide) rfl rfl)
  · exact congrArg (fun z => stN z 1000000) (h.z 37 (by decide) rfl rfl)
  · exact congrArg (fun z => stN z 1000000) (h.z 38 (by decide) rfl rfl)
  · exact congrArg (fun z => stN z 1000000) (h.z 39 (by decide) rfl rfl)
  · exact congrArg (fun z => stN z 5) (h.z 40 (by decide) rfl rfl)
  · exact congrArg (fun z => stN z 999999999) (h.z 41 (by decide) rfl rfl)
theorem Agr.err {A M : Msg} (h : Agr A M) (j : Nat) (hj : j < 42) : errAt A j = errAt M j := by
  unfold errAt
  rw [h.st j hj, h.z 0 (by decide) rfl rfl]
theorem Agr.fitN {A M : Msg} (h : Agr A M) : fitN A = fitN M := by
  unfold Go.Proofs.YtchkpggdndnpjabGreatDoor.fitN
  rw [h.z 0 (by decide) rfl rfl, h.z 6 (by decide) rfl rfl, h.b 4 (by decide) rfl rfl, h.z 11 (by decide) rfl rfl, h.z 10 (by decide) rfl rfl, h.z 24 (by decide) rfl rfl, h.z 26 (by decide) rfl rfl, h.z 27 (by decide) rfl rfl, h.z 28 (by decide) rfl rfl, h.z 29 (by decide) rfl rfl, h.z 30 (by decide) rfl rfl, h.z 25 (by decide) rfl rfl, h.z 31 (by decide) rfl rfl, h.z 34 (by decide) rfl rfl, h.z 36 (by decide) rfl rfl, h.z 37 (by decide) rfl rfl, h.z 38 (by decide) rfl rfl, h.z 39 (by decide) rfl rfl]
theorem Agr.vld {A M : Msg} (h : Agr A M) (hM : Vld M) : valE A = 0 ∧ valN A = 0 :=
  val_of (by rw [h.z 0 (by decide) rfl rfl]; exact hM.k) (fun j hj => by rw [h.err j hj]; exact hM.e j hj) (by rw [h.fitN]; exact hM.fit)
theorem rd_agr {M : Msg} (h : Vld M) : Agr (gaM (encF M) (slts (M.z 0))) M := fun j hj => by rw [ga_all h]; exact go_all h j hj
set_option maxRecDepth 100000 in
theorem tbl_kind : ((List.range 17).all fun k => hasK ((k + 1 : Nat) : Int) 0 == 2) = true := by kernel_rfl
theorem slts_head {M : Msg} (h : Vld M) : ∃ L, slts (M.z 0) = (35, true, 0) :: L := by
  obtain ⟨k, hk, e⟩ := h.kind
  have h2 : hasK (M.z 0) 0 = 2 := by
    rw [e]
    have := List.all_eq_true.1 tbl_kind k (List.mem_range.2 hk)
    simpa using this
  unfold slts slU
  rw [show (45 : Nat) = 44 + 1 from rfl, List.range_succ_eq_map, List.filterMap_cons]
  have : slotF (M.z 0) 0 = some (35, true, 0) := by
    unfold slotF
    change hasR (M.z 0) (xNum.getD 0 0) = 2 at h2
    rw [h2]
    rfl
  rw [this]
  exact ⟨_, rfl⟩
theorem enc_head {M : Msg} (h : Vld M) : ∃ fs, encF M = (35, (wrS 0 M).data.toList) :: fs := by
  obtain ⟨L, hL⟩ := slts_head h
  unfold encF
  rw [hL, List.filterMap_cons]
  have : fldF M (35, true, 0) = some (35, (wrS 0 M).data.toList) := rfl
  rw [this]
  exact ⟨_, rfl⟩
theorem kt_back {M : Msg} (h : Vld M) : ktN (wrS 0 M) = M.z 0 := by
  obtain ⟨L, hL⟩ := slts_head h
  have ht : ((35 : Int), true, 0) ∈ slts (M.z 0) := by rw [hL]; simp
  have hs := (good_0 h).self zeroM rfl
  obtain ⟨a1, a2, a3, a4⟩ := slts_mem.1 ht
  unfold stepR at hs
  rw [if_neg a2] at hs
  have a4' : (hasK (M.z 0) 0 == 2) = true := a4.symm
  rw [a4'] at hs
  have e : Value.int .i64 (1 + idS_ (xwd 0) (wrS 0 M)) = .int .i64 (M.z 0) := hs
  injection e with _ e
  unfold ktN
  show idS_ (xwd 0) (wrS 0 M) + 1 = _
  omega
theorem rk_back {M : Msg} (h : Vld M) : rkK (encF M) = M.z 0 ∧ rkE (encF M) = none := by
  obtain ⟨fs, e⟩ := enc_head h
  have hk := kt_back h
  have h0 : 1 ≤ M.z 0 ∧ M.z 0 ≤ 17 := by simpa [isK] using h.k
  rw [e]
  unfold rkK rkE
  dsimp only
  rw [if_pos rfl, if_pos rfl, bs_data, hk, if_neg (by omega)]
  exact ⟨rfl, rfl⟩
theorem slts_pw (k : Int) : (slts k).Pairwise fun t u => t.2.2 < u.2.2 := by
  unfold slts slU
  refine List.Pairwise.filterMap _ ?_ List.pairwise_lt_range
  intro a b hab t ht u hu
  unfold slotF at ht hu
  split at ht
  · cases ht
  · split at hu
    · cases hu
    · cases ht; cases hu; exact hab
theorem enc_pw {M : Msg} : (encF M).Pairwise fun f g => f.1 ≠ g.1 := by
  unfold encF
  refine List.Pairwise.filterMap (R := fun t u => t ∈ slts (M.z 0) ∧ u ∈ slts (M.z 0) ∧ t.2.2 < u.2.2) _ ?_ ?_
  · rintro t u ⟨ht, hu, hlt⟩ f hf g hg e
    unfold fldF at hf hg
    cases hb : (t.2.1 || thB t.2.2 M) with
    | false => rw [hb] at hf; cases hf
    | true =>
      cases hc : (u.2.1 || thB u.2.2 M) with
      | false => rw [hc] at hg; cases hg
      | true =>
        rw [hb] at hf; rw [hc] at hg
        cases hf; cases hg
        have := slts_inj ht hu e
        rw [this] at hlt
        omega
  · exact List.Pairwise.imp_of_mem (fun ha hb q => ⟨ha, hb, q⟩) (slts_pw _)
theorem ce_back {M : Msg} (h : Vld M) : ceE (encF M) (slts (M.z 0)) = none := ceE_none fun a h1 ha => by
  obtain ⟨f, hf⟩ : ∃ f, (encF M)[a]? = some f := ⟨_, List.getElem?_eq_getElem ha⟩
  obtain ⟨t, ht, hw, rfl⟩ := mem_enc.1 (List.mem_of_getElem? hf)
  unfold ceA
  rw [hf]
  dsimp only
  have hpl : plN (encF M) t.1 = a := by
    have hy := enc_yes ht hw
    obtain ⟨hb, hv⟩ := List.getElem?_eq_some_iff.1 hy
    obtain ⟨ha', hv'⟩ := List.getElem?_eq_some_iff.1 hf
    have pw := List.pairwise_iff_getElem.1 (enc_pw (M := M))
    rcases Nat.lt_trichotomy (plN (encF M) t.1) a with q | q | q
    · exact absurd (by rw [hv, hv']) (pw _ _ hb ha' q)
    · exact q
    · exact absurd (by rw [hv, hv']) (pw _ _ ha' hb q)
  cases hx : sx t.1 (slts (M.z 0)) with
  | none =>
    exfalso
    have : ∀ (l : List Slt), t ∈ l → sx t.1 l ≠ none := by
      intro l
      induction l with
      | nil => intro hm; simp at hm
      | cons u l ih =>
        intro hm
        unfold sx
        split
        · simp
        · rename_i hne
          rcases List.mem_cons.1 hm with e | e
          · subst e; exact absurd rfl hne
          · have := ih e
            cases hq : sx t.1 l with
            | none => exact absurd hq this
            | some i => simp
    exact this _ ht hx
  | some i =>
    obtain ⟨s, hs, hst⟩ := sx_at _ _ _ hx
    have : s = t := slts_inj (List.mem_of_getElem? hs) ht hst
    subst this
    dsimp only
    rw [hpl, if_neg (Nat.lt_irrefl _), hs]
    dsimp only
    rw [bs_data, (good_ok h ht hw).1]
    rfl
theorem cm_back {M : Msg} (h : Vld M) : cmE (encF M) (slts (M.z 0)) = none := by
  unfold cmE
  rw [List.findSome?_eq_none_iff]
  intro t ht
  unfold cmT
  cases hm : t.2.1 with
  | false => rfl
  | true =>
    have hy := enc_yes ht (show wrt M t = true by unfold wrt; rw [hm]; rfl)
    have hlt := (List.getElem?_eq_some_iff.1 hy).1
    have : (plN (encF M) t.1 == (encF M).length) = false := by simp; omega
    rw [this]; rfl
theorem enc_at {M : Msg} {t : Int} {f : Fld} (h : (encF M)[plN (encF M) t]? = some f) : f.1 = t := by
  unfold plN at h
  cases hi : ix (tgB t) (encF M) with
  | none => rw [hi] at h; dsimp only at h; rw [List.getElem?_eq_none (Nat.le_refl _)] at h; cases h
  | some i =>
    rw [hi] at h
    obtain ⟨g, hg, hp⟩ := ix_lt _ _ _ hi
    dsimp only at h
    rw [hg] at h
    injection h with h
    subst h
    simpa [tgB] using hp
theorem tag_row {k : Int} {r : Nat} (hr : r < 45) {ρ : Nat} (hρ : ρ < 45) (hne : xNum.getD ρ 0 ≠ 373) (h : tagR k (xNum.getD r 0) = xNum.getD ρ 0) : r = ρ := tag_inj k hr hρ (by rw [h, tag_other hne])
theorem cf_back {M A : Msg} (h : Vld M) (hA : Agr A M) : cfE (encF M) A = none := by
  unfold cfE
  have h1 : ¬ (plN (encF M) 18 < (encF M).length ∧ A.z 25 ≠ 7) := fun ⟨q1, q2⟩ => by
    obtain ⟨f, hf⟩ : ∃ f, (encF M)[plN (encF M) 18]? = some f := ⟨_, List.getElem?_eq_getElem q1⟩
    have e18 := enc_at hf
    obtain ⟨t, ht, hw, rfl⟩ := mem_enc.1 (List.mem_of_getElem? hf)
    obtain ⟨a1, a2, a3, a4⟩ := slts_mem.1 ht
    have e27 : t.2.2 = 27 := tag_row a1 (ρ := 27) (by decide) (by decide) (by rw [← a3]; exact e18)
    have l2 := (life_facts h).2
    unfold wrt at hw
    rw [a4, e27] at hw
    rw [e27] at a2
    have h27 : hasK (M.z 0) 27 = 1 := l2.resolve_left a2
    rw [h27] at hw
    have h7 : (M.z 25 == 7) = true := hw
    exact q2 (by rw [hA.z 25 (by decide) rfl rfl]; simpa using h7)
  rw [if_neg h1]
  have hv := (hA.vld h).1
  cases hf : (encF M)[plN (encF M) 530]? with
  | none =>
    dsimp only
    rw [if_neg (by decide), if_pos hv]
  | some f =>
    have e530 := enc_at hf
    obtain ⟨t, ht, hw, rfl⟩ := mem_enc.1 (List.mem_of_getElem? hf)
    obtain ⟨a1, a2, a3, a4⟩ := slts_mem.1 ht
    have e44 : t.2.2 = 44 := tag_row a1 (ρ := 44) (by decide) (by decide) (by rw [← a3]; exact e530)
    have e : (!(eqB (bs (wrS t.2.2 M).data.toList) (scS (A.s 22)))) = false := by
      rw [bs_data, e44, hA.s 22 (by decide) rfl]
      show (!(eqB (scS (M.s 22)) (scS (M.s 22)))) = false
      rw [eqB_self]; rfl
    rw [if_neg (fun q => absurd (e.symm.trans q) (by decide)), if_pos hv]
/-- What is written of a message that may be is read as it was. -/
theorem rd_enc {M : Msg} (h : Vld M) : Agr (rdM (encF M)) M ∧ rdX (encF M) = none := by
  obtain ⟨h1, h2⟩ := rk_back h
  have hA : Agr (rdM (encF M)) M := by unfold rdM; rw [h1]; exact rd_agr h
  refine ⟨hA, ?_⟩
  unfold rdX
  rw [h2, h1, ce_back h, cm_back h, cf_back h hA]
  rfl
theorem dec_enc {M : Msg} {b : List UInt8} (h : Vld M) (hj : joinL (encF M) = .ok b) : dcL b = .ok (rdM (encF M)) ∧ (rdM (encF M)).cs = M.cs := by
  obtain ⟨h1, h2⟩ := rd_enc h
  refine ⟨?_, h1.cs⟩
  unfold dcL
  rw [join_split hj]
  dsimp only
  rw [h2]
end Go.Proofs.YtchkpggdndnpjabGreatDoor

namespace Go.Proofs.YtchkpggdndnpjabGreatDoor
set_option linter.unusedVariables false
set_option linter.unusedSimpArgs false
open Go.RowKit

def xU : List Nat := [2, 12, 12, 10, 1, 21, 21, 1, 10, 1, 20, 10, 10, 10, 1, 10, 2, 10, 10, 60, 20, 20, 12, 8, 2, 2, 2, 1, 17, 17, 10, 10, 10, 10, 10, 10, 2, 2, 17, 10, 10, 10, 2, 10, 1]
/-- A value that may be a field's, of at most n bytes. -/
def OkN (s : ByteArray) (n : Nat) : Prop := okV s.data.toList = true ∧ s.size ≤ n
theorem vby_of {c : UInt8} (h : 32 ≤ c.toNat ∧ c.toNat ≤ 126) : vby c = true := (vby_iff c).2 (by omega)
theorem okV_of {l : List UInt8} (h0 : l ≠ []) (h : ∀ c ∈ l, vby c = true) : okV l = true := by
  unfold okV
  rw [Bool.and_eq_true]
  exact ⟨by cases l with | nil => exact absurd rfl h0 | cons a l => rfl, List.all_eq_true.2 h⟩
theorem dec_len : ∀ (k u : Nat), u < 10 ^ (k + 1) → (Lib.decDigits u).length ≤ k + 1
  | 0, u, h => by
    rw [Lib.decDigits, dif_pos (by simpa using h)]; simp
  | k + 1, u, h => by
    rw [Lib.decDigits]
    split
    · simp
    · have := dec_len k (u / 10) (by rw [Nat.pow_succ] at h; omega)
      simp; omega
theorem dec_len10 {u : Nat} (h : u < 10000000000) : (Lib.decDigits u).length ≤ 10 := dec_len 9 u (by simpa using h)
theorem dig_vby {c : UInt8} (h : dig c = true) : vby c = true := vby_of (by have := (dig_iff c).1 h; omega)
theorem dec_ok (u : Nat) (hu : u < 10000000000) : OkN ⟨(Lib.decDigits u).toArray⟩ 10 := by
  refine ⟨okV_of ?_ fun c hc => ?_, ?_⟩
  · obtain ⟨c, l, e, -⟩ := head_dec u
    show Lib.decDigits u ≠ []
    rw [e]; simp
  · have hd := digs_dec u
    unfold digs at hd
    exact dig_vby (List.all_eq_true.1 hd c hc)
  · have := dec_len 9 u (by simpa using hu)
    show (Lib.decDigits u).toArray.size ≤ 10
    simpa using this
theorem num_ok {l : List UInt8} {m : Int} (h : puE l m = 0) (hm : m < 10000000000) : OkN ⟨l.toArray⟩ 10 := by
  obtain ⟨h0, h1, h2⟩ := dec_pu h
  rw [← h2]
  have e : Lib.itoa (puN l m) = Lib.decDigits (puN l m).toNat := by unfold Lib.itoa; rw [if_neg (by omega)]
  rw [e]
  exact dec_ok _ (by omega)
theorem nr_ok {z lo m : Int} (h : nrB (Lib.itoa z) lo m = true) (hm : m < 10000000000) : OkN ⟨(Lib.itoa z).toArray⟩ 10 := by
  unfold nrB at h
  simp only [Bool.and_eq_true, decide_eq_true_eq] at h
  exact num_ok h.1 hm
theorem txt_ok {s : ByteArray} {p : Nat → Bool} {n : Nat} (h0 : 1 ≤ s.size) (hn : s.size ≤ n) (h : allB p s = true) (hp : ∀ c : UInt8, p c.toNat = true → vby c = true) : OkN s n := by
  refine ⟨okV_of ?_ fun c hc => hp c (List.all_eq_true.1 h c hc), hn⟩
  intro e
  have : s.data.toList.length = 0 := by rw [e]; rfl
  have h2 : s.data.size = 0 := by simpa using this
  have h3 : s.size = s.data.size := rfl
  omega
theorem nm_v (c : UInt8) (h : isNm c.toNat = true) : vby c = true := by
  refine vby_of ?_
  simp only [isNm, isCap, Bool.or_eq_true, Bool.and_eq_true, decide_eq_true_eq] at h
  omega
theorem id_v (c : UInt8) (h : isIdb c.toNat = true) : vby c = true := by
  refine vby_of ?_
  simp only [isIdb, isNm, isCap, Bool.or_eq_true, Bool.and_eq_true, decide_eq_true_eq, beq_iff_eq] at h
  omega
theorem tx_v (c : UInt8) (h : isTxt c.toNat = true) : vby c = true := by
  refine vby_of ?_
  simp only [isTxt, Bool.and_eq_true, decide_eq_true_eq] at h
  omega
theorem nm_ok {s : ByteArray} (h : nmS s = true) : OkN s 12 := by
  simp only [nmS, Bool.and_eq_true, decide_eq_true_eq] at h; exact txt_ok h.1.1 h.1.2 h.2 nm_v
theorem id_ok {s : ByteArray} (h : idS s = true) : OkN s 20 := by
  simp only [idS, Bool.and_eq_true, decide_eq_true_eq] at h; exact txt_ok h.1.1 h.1.2 h.2 id_v
theorem sy_ok {s : ByteArray} (h : syS s = true) : OkN s 8 := by
  simp only [syS, Bool.and_eq_true, decide_eq_true_eq] at h; exact txt_ok h.1.1.1 h.1.1.2 h.2 nm_v
theorem tx_ok {s : ByteArray} (h0 : s.size ≠ 0) (h : txS s = true) : OkN s 60 := by
  simp only [txS, Bool.and_eq_true, decide_eq_true_eq] at h; exact txt_ok (by omega) h.1 h.2 tx_v
theorem ti_ok {s : ByteArray} (h0 : s.size ≠ 0) (h : tiS s = true) : OkN s 20 := by
  simp only [tiS, txS, Bool.and_eq_true, decide_eq_true_eq] at h; exact txt_ok (by omega) h.1 h.2.2 tx_v
theorem dig_v {c : UInt8} (h : isDig c = true) : vby c = true := by
  refine vby_of ?_
  simp only [isDig, Bool.and_eq_true, decide_eq_true_eq] at h
  omega
theorem stamp_ok (t : Nat) : OkN (strOfNums (stampI t)) 21 := by
  refine ⟨?_, by rw [stamp_size]; exact Nat.le_refl _⟩
  rw [stamp_txt]
  refine okV_of (fun e => ?_) fun c hc => ?_
  · have := txt_length (dateN (t / 86400000)) (t % 86400000 / 3600000) (t % 3600000 / 60000) (t % 60000 / 1000) (t % 1000)
    rw [e] at this; cases this
  · unfold txt at hc
    simp only [List.mem_append, List.mem_cons, List.mem_singleton, List.not_mem_nil, or_false] at hc
    rcases hc with ((((((((hc | hc) | hc) | hc) | hc) | hc) | hc) | hc) | hc)
    all_goals first | exact dig_v (digB_dig _ _ c hc) | (subst hc; decide)
theorem price_ok (q : Nat) (hq : q ≤ 1000000000) : OkN (ppB (q : Int)) 17 := by
  obtain ⟨T, hT, hr⟩ := price_list q hq
  have h1 := dec_ok (q / 10000) (by omega)
  have hsz : (ppB (q : Int)).size = (ppB (q : Int)).data.toList.length := by show (ppB (q : Int)).data.size = _; simp
  rcases hr with rfl | hr
  · rw [List.append_nil] at hT
    refine ⟨by rw [hT]; exact h1.1, ?_⟩
    rw [hsz, hT]
    have : (Lib.decDigits (q / 10000)).length ≤ 10 := dec_len10 (by omega)
    omega
  · obtain ⟨T', rfl, hb⟩ := hr
    simp only [restB, Bool.and_eq_true, decide_eq_true_eq] at hb
    refine ⟨?_, ?_⟩
    · rw [hT]
      have hv := h1.1
      unfold okV at hv ⊢
      rw [Bool.and_eq_true] at hv ⊢
      refine ⟨by simp, ?_⟩
      rw [List.all_append, Bool.and_eq_true]
      refine ⟨hv.2, ?_⟩
      rw [List.all_cons, Bool.and_eq_true]
      refine ⟨by decide, List.all_eq_true.2 fun c hc => ?_⟩
      have hd := hb.2
      unfold digs at hd
      exact dig_vby (List.all_eq_true.1 hd c hc)
    · rw [hsz, hT]
      have : (Lib.decDigits (q / 10000)).length ≤ 10 := dec_len10 (by omega)
      have := hb.1.2
      simp; omega
theorem word_tab : ((List.range 45).all fun r => (xwd r).all fun s => okV s.data.toList && decide (s.size ≤ 2)) = true := by kernel_rfl
theorem word_ok {r i : Nat} (hr : r < 45) (hi : i < (xwd r).length) : OkN ((xwd r).getD i ⟨#[]⟩) 2 := by
  have h := List.all_eq_true.1 (List.all_eq_true.1 word_tab r (List.mem_range.2 hr)) ((xwd r).getD i ⟨#[]⟩) (by simp [List.getD, hi])
  simp only [Bool.and_eq_true, decide_eq_true_eq] at h
  exact h
theorem on_ok {z : Int} (h : onB (onS z) = true) : OkN (onS z) 10 := by
  by_cases h0 : z = 0
  · subst h0; exact ⟨by decide, by decide⟩
  · have eS : onS z = ⟨(Lib.itoa z).toArray⟩ := by rw [onS, show (z == 0) = false by simpa using h0]; rfl
    rw [eS] at h ⊢
    rw [onB, Bool.or_eq_true] at h
    rcases h with h | h
    · rw [eqB_iff.1 h]; exact ⟨by decide, by decide⟩
    · exact nr_ok h (by decide)
theorem dt_ok {z : Int} (h : dtB ⟨(Lib.itoa z).toArray⟩ = true) : OkN ⟨(Lib.itoa z).toArray⟩ 10 := by
  unfold dtB at h
  simp only [Bool.and_eq_true, decide_eq_true_eq] at h
  exact num_ok h.1 (by decide)
theorem text_ne {M : Msg} (h : Vld M) (r c : Nat) (p : ByteArray → Bool) (hr : r < 45) (hn : (r == 7 || r == 27 || r == 44) = false) (ec : xCe.getD r 0 = c) (hc : c < 42) (e1 : thB r M = !((M.s c).size == 0)) (e6 : stOf M c = stT p (M.s c)) (hoz : tOz.getD c false = false)
    (hb : ((hasK (M.z 0) r == 2) || thB r M) = true) : (M.s c).size ≠ 0 := fun e => by
  obtain ⟨f1, f2, f3⟩ := row_facts h r hr hn (by rw [ec]; exact hc)
  rw [ec] at f3
  rw [Bool.or_eq_true, beq_iff_eq] at hb
  rcases hb with hb | hb
  · refine f3 hb hoz ?_
    rw [e6]; unfold stT; rw [if_pos e]
  · rw [e1, e] at hb; cases hb
theorem price_z {M : Msg} (h : Vld M) (r c : Nat) (hr : r < 45) (hn : (r == 7 || r == 27 || r == 44) = false) (ec : xCe.getD r 0 = c) (hc : c < 42) (e6 : stOf M c = stN (M.z c) 1000000000) : 0 ≤ M.z c ∧ M.z c ≤ 1000000000 := by
  obtain ⟨f1, f2, f3⟩ := row_facts h r hr hn (by rw [ec]; exact hc)
  rw [ec, e6] at f2
  unfold stN at f2
  split at f2
  · omega
  · split at f2
    · exact absurd rfl f2
    · omega
theorem row_ok {M : Msg} (h : Vld M) {t : Slt} (ht : t ∈ slts (M.z 0)) (hw : wrt M t = true) : OkN (wrS t.2.2 M) (xU.getD t.2.2 0) := by
  obtain ⟨g1, g2⟩ := good_ok h ht hw
  obtain ⟨a1, a2, a3, a4⟩ := slts_mem.1 ht
  unfold wrt at hw
  rw [a4] at hw
  generalize t.2.2 = r at *
  rcases cases45 a1 with rfl | rfl | rfl | rfl | rfl | rfl | rfl | rfl | rfl | rfl | rfl | rfl | rfl | rfl | rfl | rfl | rfl | rfl | rfl | rfl | rfl | rfl | rfl | rfl | rfl | rfl | rfl | rfl | rfl | rfl | rfl | rfl | rfl | rfl | rfl | rfl | rfl | rfl | rfl | rfl | rfl | rfl | rfl | rfl | rfl
  · exact word_ok (r := 0) (by decide) (hlt g2.1 g2.2)
  · exact nm_ok g1
  · exact nm_ok g1
  · exact nr_ok g1 (by decide)
  · exact (by show OkN (ynS (M.b 4)) 1; cases M.b 4 <;> exact ⟨by decide, by decide⟩)
  · exact stamp_ok _
  · exact stamp_ok _
  · exact (show OkN ⟨#[48]⟩ 1 from ⟨by decide, by decide⟩)
  · exact nr_ok g1 (by decide)
  · exact (by show OkN (ynS (M.b 8)) 1; cases M.b 8 <;> exact ⟨by decide, by decide⟩)
  · exact ti_ok (text_ne h 10 9 tiS (by decide) (by decide) rfl (by decide) rfl rfl rfl hw) g1
  · exact nr_ok g1 (by decide)
  · exact nr_ok g1 (by decide)
  · exact nr_ok g1 (by decide)
  · exact (by show OkN (ynS (M.b 13)) 1; cases M.b 13 <;> exact ⟨by decide, by decide⟩)
  · exact nr_ok g1 (by decide)
  · exact word_ok (r := 16) (by decide) (hlt g2.1 g2.2)
  · exact nr_ok g1 (by decide)
  · exact nr_ok g1 (by decide)
  · exact tx_ok (text_ne h 19 18 txS (by decide) (by decide) rfl (by decide) rfl rfl rfl hw) g1
  · exact id_ok g1
  · exact id_ok g1
  · exact nm_ok g1
  · exact sy_ok g1
  · exact word_ok (r := 24) (by decide) (hlt g2.1 g2.2)
  · exact word_ok (r := 25) (by decide) (hlt g2.1 g2.2)
  · exact word_ok (r := 26) (by decide) (hlt g2.1 g2.2)
  · exact (show OkN ⟨#[54]⟩ 1 from ⟨by decide, by decide⟩)
  · exact (by have hz := price_z h 28 26 (by decide) (by decide) rfl (by decide) rfl; have := price_ok (M.z 26).toNat (by omega); rw [Int.toNat_of_nonneg hz.1] at this; exact this)
  · exact (by have hz := price_z h 29 27 (by decide) (by decide) rfl (by decide) rfl; have := price_ok (M.z 27).toNat (by omega); rw [Int.toNat_of_nonneg hz.1] at this; exact this)
  · exact nr_ok g1 (by decide)
  · exact nr_ok g1 (by decide)
  · exact nr_ok g1 (by decide)
  · exact dt_ok g1
  · exact on_ok g1
  · exact nr_ok g1 (by decide)
  · exact word_ok (r := 36) (by decide) (hlt g2.1 g2.2)
  · exact word_ok (r := 37) (by decide) (hlt g2.1 g2.2)
  · exact (by have hz := price_z h 38 36 (by decide) (by decide) rfl (by decide) rfl; have := price_ok (M.z 36).toNat (by omega); rw [Int.toNat_of_nonneg hz.1] at this; exact this)
  · exact nr_ok g1 (by decide)
  · exact nr_ok g1 (by decide)
  · exact nr_ok g1 (by decide)
  · exact word_ok (r := 42) (by decide) (hlt g2.1 g2.2)
  · exact nr_ok g1 (by decide)
  · exact (by show OkN (scS (M.s 22)) 1; unfold scS; cases (M.s 22).size == 0 <;> exact ⟨by decide, by decide⟩)
theorem tag_tab : ((List.range 45).all fun r => isTg (xNum.getD r 0) && decide (xNum.getD r 0 < 1000)) = true := by kernel_rfl
theorem tag_ok (k : Int) {r : Nat} (hr : r < 45) : isTg (tagR k (xNum.getD r 0)) = true ∧ 0 ≤ tagR k (xNum.getD r 0) ∧ tagR k (xNum.getD r 0) < 1000 := by
  have h := List.all_eq_true.1 tag_tab r (List.mem_range.2 hr)
  simp only [Bool.and_eq_true, decide_eq_true_eq] at h
  by_cases h1 : xNum.getD r 0 = 373
  · rw [h1]
    rcases tagR_373 k with q | q | q | q | q <;> rw [q] <;> decide
  · rw [tag_other h1]
    exact ⟨h.1, by have := (isTg_iff _).1 h.1; omega, h.2⟩
theorem body_le {F : Nat → Option Fld} {B : Nat → Nat} : ∀ (l : List Nat), (∀ r ∈ l, ∀ f, F r = some f → (fldL f).length ≤ B r) → (bodyB (l.filterMap F)).length ≤ (l.map B).sum
  | [], _ => by simp [bodyB]
  | r :: l, h => by
    have ih := body_le l (fun u hu => h u (by simp [hu]))
    rw [List.filterMap_cons]
    cases hf : F r with
    | none => simp only [List.map_cons, List.sum_cons]; omega
    | some f =>
      have := h r (by simp) f hf
      simp only [bodyB, List.flatMap_cons, List.length_append, List.map_cons, List.sum_cons] at ih ⊢
      omega
theorem enc_fit {M : Msg} (h : Vld M) : (bodyB (encF M)).length ≤ 990 ∧ (∀ f ∈ encF M, isTg f.1 = true ∧ okV f.2 = true) := by
  constructor
  · have e : encF M = (List.range 45).filterMap fun r => (slotF (M.z 0) r).bind (fldF M) := by
      unfold encF slts slU
      rw [List.filterMap_filterMap]
    rw [e]
    refine Nat.le_trans (body_le (B := fun r => 5 + xU.getD r 0) _ fun r hr f hf => ?_) (by decide)
    obtain ⟨t, ht, hf⟩ := Option.bind_eq_some_iff.1 hf
    have hr' := List.mem_range.1 hr
    have htm : t ∈ slts (M.z 0) := by
      unfold slts slU
      exact List.mem_filterMap.2 ⟨r, hr, ht⟩
    have er : t.2.2 = r := by
      unfold slotF at ht
      split at ht
      · cases ht
      · cases ht; rfl
    unfold fldF at hf
    cases hb : (t.2.1 || thB t.2.2 M) with
    | false => rw [hb] at hf; cases hf
    | true =>
      rw [hb] at hf
      cases hf
      have ho := row_ok h htm hb
      obtain ⟨a1, a2, a3, a4⟩ := slts_mem.1 htm
      have htg := tag_ok (M.z 0) a1
      rw [← a3] at htg
      rw [er] at ho
      have hl : (Lib.itoa t.1).length ≤ 3 := by
        have e : Lib.itoa t.1 = Lib.decDigits t.1.toNat := by unfold Lib.itoa; rw [if_neg (by omega)]
        rw [e]
        exact dec_len 2 _ (by omega)
      have h2 : (wrS t.2.2 M).data.toList.length = (wrS t.2.2 M).size := by show _ = (wrS t.2.2 M).data.size; simp
      have h3 := ho.2
      unfold fldL
      rw [er] at h2 ⊢
      simp only [List.length_append, List.length_cons, List.length_nil]
      omega
  · intro f hf
    obtain ⟨t, ht, hw, rfl⟩ := mem_enc.1 hf
    obtain ⟨a1, a2, a3, a4⟩ := slts_mem.1 ht
    exact ⟨by show isTg t.1 = true; rw [a3]; exact (tag_ok _ a1).1, (row_ok h ht hw).1⟩
theorem enc_join {M : Msg} (h : Vld M) : ∃ b, joinL (encF M) = .ok b ∧ b.length ≤ 1024 := by
  obtain ⟨h1, h2⟩ := enc_fit h
  have hl : (closeL (aheadL (bodyB (encF M)))).length ≤ 1024 := by
    rw [close_length, head_length]
    have : (Lib.itoa ((bodyB (encF M)).length : Int)).length ≤ 3 := by
      have e : Lib.itoa ((bodyB (encF M)).length : Int) = Lib.decDigits (bodyB (encF M)).length := by unfold Lib.itoa; rw [if_neg (by omega)]; rfl
      rw [e]
      exact dec_len 2 _ (by omega)
    omega
  refine ⟨_, ?_, hl⟩
  unfold joinL
  rw [if_neg (by rw [show ((encF M).all fun f => isTg f.1) = true from List.all_eq_true.2 fun f hf => (h2 f hf).1]; decide), if_neg (by rw [show ((encF M).all fun f => okV f.2) = true from List.all_eq_true.2 fun f hf => (h2 f hf).2]; decide), if_neg (by omega)]
theorem enc_okT {M : Msg} (h : Vld M) : okT (encF M) := fun f hf => by
  obtain ⟨t, ht, hw, rfl⟩ := mem_enc.1 hf
  obtain ⟨a1, a2, a3, a4⟩ := slts_mem.1 ht
  have := tag_ok (M.z 0) a1
  rw [← a3] at this
  show -9223372036854775808 ≤ t.1 ∧ t.1 ≤ 9223372036854775807
  omega
end Go.Proofs.YtchkpggdndnpjabGreatDoor

namespace Go.Proofs.YtchkpggdndnpjabGreatDoor
set_option linter.unusedVariables false
open Go.RowKit Go.Great

set_option maxRecDepth 100000 in
set_option maxHeartbeats 1000000 in
theorem Encode_yes (M : Msg) (w : World) (hM : Mon w) (hp : Pow w) (hz : M.ok) (hv : valE M = 0) (hok : ∀ t ∈ slts (M.z 0), (t.2.1 || thB t.2.2 M) = true → wrOk t.2.2 M) (ht : okT (encF M)) (hsz : (bodyB (encF M)).length ≤ 1099511627776) :
    Calls Tryz.prog 7 #[.agg M.cs] w fun e w' => JoinRet (joinL (encF M)) w e w' := by
  obtain ⟨i0, hi, hz0, hz1, hz2⟩ := info_parts infoF
  have HM : Hid (2 < w.heap.size ∧ Mon w ∧ M.ok ∧ Pow w ∧ okT (encF M) ∧ (bodyB (encF M)).length ≤ 1099511627776) := ⟨hM.lt, hM, hz, hp, ht, hsz⟩
  have HO1 : Hid (OwnM (w.alloc (.cells M.cs 23)) w.heap.size M ∧ Below w.heap.size w (w.alloc (.cells M.cs 23))) := ⟨heap_alloc_new w _, (Below.refl _ w).alloc (Nat.le_refl _) _⟩
  have HOK : Hid (∀ t ∈ slts (M.z 0), (t.2.1 || thB t.2.2 M) = true → wrOk t.2.2 M) := hok
  clear hM hz hp ht hsz hok
  go_enter Tryz.func7, Tryz.ntmps7
  go_upto_region 1 with fail
  generalize w.alloc (.cells M.cs 23) = w1 at *
  generalize hcs : M.cs = CS at *
  refine wp_region_lit ?_
  refine wpList_loadM HO1.out.1 (.tmp 1) rfl rfl rfl ?_
  simp only [Act.put, List.setIfInBounds_toArray, List.set_cons_zero, List.set_cons_succ]
  rw [hcs]
  go_wp2_with (go_at_call 13; fail)
  have hvc := Valid_any M w1 (HM.out.2.1.below HO1.out.2 HM.out.1) HM.out.2.2.1
  rw [hcs, hv] at hvc
  refine hvc.mono ?_
  clear hvc
  rintro e w2 ⟨rfl, hb2⟩
  have HO2 : Hid (OwnM w2 w.heap.size M ∧ Below w.heap.size w w2) := ⟨HO1.out.1.low hb2, HO1.out.2.trans (hb2.mono HO1.out.2.size)⟩
  clear hb2 HO1
  generalize valN M = N at *
  have hc0 : w2.cell? ⟨w.heap.size, 0, none⟩ = some (.int .i64 (M.z 0)) := HO2.out.1.cell 0 (by decide)
  go_wp2_with (go_at_call 14; fail)
  refine (layout_any (M.z 0) w2).mono ?_
  rintro e w3 ⟨sv, rfl, hsl, hb3⟩
  have hsn : (slts (M.z 0)).length ≤ 45 := slU_len _ 45
  obtain ⟨sao, scap, rfl⟩ := ownsForm hsl
  have HE0 : Hid (EI w w3 w.heap.size M (.slice sao (slts (M.z 0)).length scap) (slts (M.z 0)) (.slice none 0 0) (encU M (slts (M.z 0)) 0)) := ⟨HO2.out.1.low hb3, by rw [show encU M (slts (M.z 0)) 0 = [] from rfl]; exact OwnF.nil _ _, ownsRow_mono hsl HO2.out.2.size, HO2.out.2.trans (hb3.mono HO2.out.2.size)⟩
  have HEF : Hid (encU M (slts (M.z 0)) (slts (M.z 0)).length = encF M) := by show _ = _; unfold encU encF; rw [List.take_length]
  have HRW : Hid (∀ t ∈ slts (M.z 0), t.2.2 < 45) := fun t h => slts_row h
  clear hsl hb3 HO2 hc0 hcs hv
  generalize slts (M.z 0) = sl at *
  obtain ⟨n, hn⟩ : ∃ n, n = sl.length := ⟨_, rfl⟩
  rw [← hn] at HE0 HEF hsn ⊢
  generalize hg : w.heap.size = g at *
  have hgi : Hid (w.heap.size = g) := hg
  have Hn : Hid (n = sl.length) := hn
  clear hg hn
  go_wp2
  go_loopw [6, 22] (fun v i wr => ∃ (k : Nat) (ao : Option Addr) (cv : Nat), k ≤ n ∧ i = .int .i64 k ∧ v = .slice ao (encU M sl k).length cv ∧ Hid (EI w wr g M (.slice sao n scap) sl (.slice ao (encU M sl k).length cv) (encU M sl k))) (fun _ i _ => n - (intOf i).toNat)
  case atStart => exact ⟨0, none, 0, by omega, rfl, rfl, HE0⟩
  case round =>
    obtain ⟨k, ao, cv, hk, rfl, rfl, HS⟩ := hrel
    clear HE0
    by_cases hlt : k < n
    · have hlt' : (k : Int) < (n : Int) := by omega
      have hk0 : (0 : Int) ≤ (k : Int) := by omega
      have hk3 : (k : Int).toNat = k := by omega
      obtain ⟨t, htk⟩ : ∃ t, sl[k]? = some t := ⟨_, List.getElem?_eq_getElem (by have := Hn.out; omega)⟩
      have htm : t ∈ sl := List.mem_of_getElem? htk
      have hr45 := HRW.out t htm
      obtain ⟨ax, cx, hxe, -, hcase⟩ := SltAt.of HS.out.slt
      rcases hcase with hnil | ⟨b, off, rfl, hcel⟩
      · have hn := Hn.out; rw [hnil] at hn; simp at hn; omega
      obtain ⟨rfl, -, rfl⟩ : sao = some ⟨b, off, none⟩ ∧ True ∧ scap = cx := by injection hxe with q1 q2 q3; exact ⟨q1, trivial, q3⟩
      obtain ⟨c1, c2, c3⟩ := hcel k t htk
      clear hcel hxe
      have hcf := xcf_at t.2.2 hr45
      have HF : Hid (∀ w', Calls Tryz.prog (xFn.getD t.2.2 0) #[.pointer (some ⟨g, 0, none⟩)] w' fun e w2 => ∃ b, e = .returned (.iface (xty t.2.2) (xVal t.2.2 g b)) ∧ Below w'.heap.size w' w2 ∧ WdAt w2 t.2.2 b) := fun w' => form_at t.2.2 hr45 g w'
      have hYes : Hid ((t.2.1 || thB t.2.2 M) = true → encU M sl (k + 1) = encU M sl k ++ [(t.1, (wrS t.2.2 M).data.toList)]) := encU_yes htk
      have hNo : Hid ((t.2.1 || thB t.2.2 M) = false → encU M sl (k + 1) = encU M sl k) := encU_no htk
      have hW : Hid ((t.2.1 || thB t.2.2 M) = true → wrOk t.2.2 M) := HOK.out t htm
      have hEl := encU_len M sl k
      obtain ⟨tg, mu, r⟩ := t
      dsimp only at c1 c2 c3 hcf HF hYes hNo hW hr45
      clear htk htm HRW HOK
      generalize hF : xFn.getD r 0 = F at *
      go_wp2
      generalize hW4 : wr.alloc _ = W4
      have hb4 : Below wr.heap.size wr W4 := by rw [← hW4]; exact (Below.refl _ wr).alloc (Nat.le_refl _) _
      have r0 : W4.cell? ⟨wr.heap.size, 0, none⟩ = some (.int .i64 tg) := by rw [← hW4]; exact World.cell?_alloc_new ..
      have r1 : W4.cell? ⟨wr.heap.size, 1, none⟩ = some (.bool mu) := by rw [← hW4]; exact World.cell?_alloc_new ..
      clear hW4
      refine (HF.out _).mono ?_
      rintro e w5 ⟨bw, rfl, hb5, hwd5⟩
      have hlt4 := World.block_lt_of_cell? _ _ r0
      have s0 : w5.cell? ⟨wr.heap.size, 0, none⟩ = some (.int .i64 tg) := by rw [hb5.cell (p := ⟨wr.heap.size, 0, none⟩) hlt4]; exact r0
      have s1 : w5.cell? ⟨wr.heap.size, 1, none⟩ = some (.bool mu) := by rw [hb5.cell (p := ⟨wr.heap.size, 1, none⟩) hlt4]; exact r1
      have HS5 : Hid (EI w w5 g M (.slice (some ⟨b, off, none⟩) n scap) sl (.slice ao (encU M sl k).length cv) (encU M sl k)) := (HS.out.low hb4).low hb5
      have hwl : Hid (WdAt w5 r bw) := hwd5
      have hwb : Hid (xkd r = 8 → bw < w5.heap.size) := fun hk8 => wd_lt hr45 hk8 hwd5
      clear hb4 hb5 r0 r1 HS HF hcf hwd5 hlt4 c1 c2 c3
      have HT : Hid (∀ w', OwnM w' g M → Calls Tryz.prog (thF r) #[xVal r g bw] w' fun e w2 => e = .returned (.bool (thB r M)) ∧ Below w'.heap.size w' w2) := fun w' h => there_at r hr45 g bw M w' h
      have HWr : Hid (∀ w', EI w w' g M (.slice (some ⟨b, off, none⟩) n scap) sl (.slice ao (encU M sl k).length cv) (encU M sl k) → WdAt w' r bw → (mu || thB r M) = true → Calls Tryz.prog (wrF r) #[xVal r g bw] w' fun e w2 => e = .returned (.string (wrS r M)) ∧ Below w'.heap.size w' w2) := fun w' h h2 h3 => write_at r hr45 g bw M w' h.msg HM.out.2.2.1 (HM.out.2.1.below h.below (by rw [hgi.out]; exact HM.out.1)) (HM.out.2.2.2.1.below h.below) h2 (hW.out h3)
      have hmt := mth_there r hr45 g bw
      have hcft := cf_there r hr45
      have HCM := cm_write r hr45 g bw
      generalize xVal r g bw = V at *
      generalize xty r = T at *
      generalize thF r = FT at *
      generalize wrF r = FW at *
      generalize thB r M = th at *
      generalize wrS r M = ws at *
      go_upto_region 9 with fail
      go_cut [34] (fun v wx => v = .bool (mu || th) ∧ Below w5.heap.size w5 wx)
      case first =>
        cases mu
        · go_wp2
          refine (HT.out _ HS5.out.msg).mono ?_
          rintro e w6 ⟨rfl, hb6⟩
          go_wp2_with fail
          go_meet
          exact ⟨rfl, hb6⟩
        · go_wp2_with fail
          go_meet
          exact ⟨rfl, Below.refl _ _⟩
      case rest =>
        obtain ⟨rfl, hb6⟩ := hcut
        have s06 : wc.cell? ⟨wr.heap.size, 0, none⟩ = some (.int .i64 tg) := by rw [hb6.cell (p := ⟨wr.heap.size, 0, none⟩) (World.block_lt_of_cell? _ _ s0)]; exact s0
        have HS6 : Hid (EI w wc g M (.slice (some ⟨b, off, none⟩) n scap) sl (.slice ao (encU M sl k).length cv) (encU M sl k)) := HS5.out.low hb6
        clear hmt hcft HT
        cases hB : (mu || th)
        · have HU : Hid (encU M sl (k + 1) = encU M sl k) := hNo.out hB
          clear hNo hYes hW
          go_wp2
          exact ⟨⟨k + 1, ao, cv, by omega, by go_num, by rw [HU.out], by have h := HS6.out; rw [HU.out]; exact h⟩, by simp [intOf]; omega⟩
        · have HU : Hid (encU M sl (k + 1) = encU M sl k ++ [(tg, ws.data.toList)]) := hYes.out hB
          clear hNo hYes hW
          have hB0 : Below wc.heap.size wc wc.drew := below_drewN (Below.refl _ _) 1
          have HKP : Hid (∀ w7, Below wc.heap.size wc w7 → w7.cell? ⟨wr.heap.size, 0, none⟩ = some (.int .i64 tg) ∧ EI w w7 g M (.slice (some ⟨b, off, none⟩) n scap) sl (.slice ao (encU M sl k).length cv) (encU M sl k) ∧ WdAt w7 r bw) := fun w7 hb => ⟨by rw [hb.cell (p := ⟨wr.heap.size, 0, none⟩) (World.block_lt_of_cell? _ _ s06)]; exact s06, HS6.out.low hb, fun j t hj => by have q := hwl.out j t hj; have hl := World.block_lt_of_cell? _ _ q; rw [hb.cell (p := ⟨bw, j, none⟩) (Nat.lt_of_lt_of_le hl hb6.size), hb6.cell (p := ⟨bw, j, none⟩) hl]; exact q⟩
          have HWR2 : Hid (∀ w', Below wc.heap.size wc w' → Calls Tryz.prog FW #[V] w' fun e w2 => e = .returned (.string ws) ∧ Below w'.heap.size w' w2) := fun w' hb => HWr.out w' (HKP.out w' hb).2.1 (HKP.out w' hb).2.2 hB
          have HROW : Hid (∀ w7, Below wc.heap.size wc w7 → (w7.alloc (.cells #[.int .i64 tg, .string ws] 52)).ownsRow w.heap.size 52 2 (.slice ao (encU M sl k).length cv) (encU M sl k).length (fcs (encU M sl k))) := fun w7 hb => (HKP.out w7 hb).2.1.own.alloc _
          have HNEW : Hid (∀ (w7 : World) j u, ([.int .i64 tg, .string ws] : List Value)[j]? = some u → (w7.alloc (.cells #[.int .i64 tg, .string ws] 52)).cell? ((⟨w7.heap.size, 0, none⟩ : Addr).add j) = some u) := fun w7 => by
            have h := World.news_of_block (heap_alloc_new w7 (.cells #[.int .i64 tg, .string ws] 52))
            intro j u hj
            have h2 := h j u (by simpa using hj)
            simpa using h2
          have HSZ : Hid (∀ w7 : World, Below wc.heap.size wc w7 → w.heap.size ≤ (w7.alloc (.cells #[.int .i64 tg, .string ws] 52)).heap.size) := fun w7 hb => by
            have := (HKP.out w7 hb).2.1.below.size
            simp; omega
          have HAPP : Hid (∀ w7 v w9, Below wc.heap.size wc w7 → w9.ownsRow w.heap.size 52 2 v ((encU M sl k).length + 1) (fcs (encU M sl k) ++ [.int .i64 tg, .string ws]) → (w7.alloc (.cells #[.int .i64 tg, .string ws] 52)).grownBy w9 (Value.slice ao (encU M sl k).length cv).ownBlock → EI w w9 g M (.slice (some ⟨b, off, none⟩) n scap) sl v (encU M sl (k + 1))) := fun w7 v w9 hb h1 h2 => by
            refine EI.app ((HKP.out w7 hb).2.1.low ((Below.refl _ w7).alloc (Nat.le_refl _) _)) h2 ?_
            unfold OwnF
            rw [HU.out, fcs_app, List.length_append]
            exact h1
          have HLE : Hid ((encU M sl (k + 1)).length = (encU M sl k).length + 1) := by show _ = _; rw [HU.out]; simp
          obtain ⟨p0, -, -⟩ := HKP.out _ hB0
          have hm63 : (encU M sl k).length ≤ 45 := by omega
          clear hB HWr HS5 HS6 hwl hwb s0 s1 s06 hb6
          generalize (encU M sl k).length = m at *
          generalize fcs (encU M sl k) = xs at *
          go_upto_region 10 with fail
          go_region_law (first
            | (refine step_append_lies _ (by rfl) _ _ _ (by rfl) w.heap.size 52 i0 _ 2 24 Tryz.underlying32 hi hz0 hz1 hz2 rfl (by omega) (.slice ao m cv) m xs (by rfl) (HROW.out _ hB7) ⟨w7.heap.size, 0, none⟩ 1 1 [.int .i64 tg, .string ws] (by rfl) (by rfl) (HNEW.out _) (by simp [Value.oneCell']) (by omega) (by unfold maxLen; omega) (by omega) (HSZ.out _ hB7) (w7.heap.size + 1) (by simp) ?_; intro g2 cap w9 hown1 hgrow hat hlt1; have x0 := HAPP.out _ _ _ hB7 hown1 hgrow)
            | (rw [if_pos (by kernel_rfl)]; refine callR (d := some 39) rfl FW #[V] (exec_inv (.tmp 38) rfl rfl HCM) (HWR2.out _ hB0) ?_; rintro e w7 ⟨rfl, hb7⟩; have hB7 : Below wc.heap.size wc w7 := hB0.trans (hb7.mono hB0.size); clear hb7; obtain ⟨q0, -, -⟩ := HKP.out _ hB7; refine ⟨_, rfl, ?_⟩))
          all_goals
            have HX : Hid (EI w w9 g M (.slice (some ⟨b, off, none⟩) n scap) sl (.slice (some ⟨g2, 0, none⟩) (m + 1) cap) (encU M sl (k + 1))) := x0
            clear x0 hown1 hgrow hat hlt1
            go_wp2
            exact ⟨⟨k + 1, some ⟨g2, 0, none⟩, cap, by omega, by go_num, by rw [HLE.out], by rw [HLE.out]; exact HX⟩, by simp [intOf]; omega⟩
    · obtain rfl : k = n := by omega
      have HJ : Hid (Calls Tryz.prog 15 #[.slice ao (encU M sl k).length cv] wr fun x w' => JoinRet (joinL (encF M)) wr x w') := by
        have ho := HS.out.own
        rw [HEF.out] at ho ⊢
        refine Join_any _ (encF M) wr ho.src (HM.out.2.2.2.1.below HS.out.below) HM.out.2.2.2.2.1 HM.out.2.2.2.2.2 ?_
        have := encU_len M sl k
        rw [HEF.out] at this
        omega
      have HB : Hid (Below w.heap.size w wr) := HS.out.below
      clear HS
      generalize (encU M sl k).length = m at *
      generalize hJJ : joinL (encF M) = J at *
      have HJJ : Hid (joinL (encF M) = J) := hJJ
      clear hJJ
      go_wp2_with (go_at_call 15; fail)
      refine HJ.out.mono ?_
      rintro e w9 hj
      cases J with
      | error e0 =>
        obtain ⟨hb9, rfl⟩ := hj
        have HB9 : Hid (Below w.heap.size w w9) := HB.out.trans (hb9.mono HB.out.size)
        go_wp2
        go_ret2
        exact JoinRet.fail HJJ.out HB9.out rfl
      | ok l0 =>
        obtain ⟨hb9, v, rfl, ho9⟩ := hj
        have HB9 : Hid (Below w.heap.size w w9 ∧ OwnB w9 w.heap.size v l0) := ⟨HB.out.trans (hb9.mono HB.out.size), ownsRow_mono ho9 HB.out.size⟩
        clear ho9 hb9
        go_wp2
        go_ret2
        exact JoinRet.good HJJ.out HB9.out.1 rfl HB9.out.2
end Go.Proofs.YtchkpggdndnpjabGreatDoor

namespace Go.Proofs.YtchkpggdndnpjabGreatDoor
set_option linter.unusedVariables false
set_option linter.unusedSimpArgs false
open Go.RowKit Go.Great

theorem results_ttc {P : Program} {fn : Func} {p u v : Tmp} {ty : TypeId} (h : fn.results = #[.tmp u, .tmp v, .cell p ty]) (tmps : Array Value) (w : World) (g : Nat) (t : TypeId) (cs : Array Value) (fr : Nat × Nat) (d : TypeDesc)
    (hp : tmps.getD p undef = .pointer (some ⟨g, 0, none⟩)) (hg : w.heap[g]? = some (.cells cs t fr))
    (hu : P.underlying ty = some d) (hd : (match d with | .struct _ | .array _ _ => true | _ => false) = true) (hi : (P.info? ty).map (·.size) = some cs.size) :
    (results fn tmps).run P w = .ok (.tuple #[tmps.getD u undef, tmps.getD v undef, .agg cs]) w := by
  have hp' : tmps[p]?.getD undef = .pointer (some ⟨g, 0, none⟩) := by simpa using hp
  simp [results, h, hp', asAddr, run_loadVar_row w g t ty cs fr d hg hu hd hi]
theorem exec_loadM {op : Oper} {a : Act} {w : World} {g : Nat} {M : Msg} (h : OwnM w g M) (x : Operand) (ho : op.op = .load 23 x) (hx : a.eval x = .pointer (some ⟨g, 0, none⟩)) : (execOp a.eval op).run Tryz.prog w = .ok (.value (.agg M.cs)) w := by
  unfold execOp
  simp only [ho, hx, Instr.loadAt, Instr.sureAddr, Sem.run_bind, Sem.run_pure, Result.andThen_ok, h.load]
theorem setRow_same {w : World} {g : Nat} {cs : Array Value} {t : TypeId} {fr : Nat × Nat} (h : w.heap[g]? = some (.cells cs t fr)) : w.setRow g cs = w := by
  obtain ⟨hlt, hv⟩ := Array.getElem?_eq_some_iff.1 h
  have e : (w.setRow g cs).heap = w.heap := by
    unfold World.setRow
    dsimp only
    apply Array.ext (by simp)
    intro i h1 h2
    rw [Array.getElem_modify]
    split
    · rename_i e
      subst e
      rw [hv]
    · rfl
  have e2 : w.setRow g cs = { w with heap := (w.setRow g cs).heap } := rfl
  rw [e2, e]
/-- The reason of an error. -/
def rsN (e : Int) : Int := if e = 50 then 1 else if e = 53 then 2 else if e = 31 then 5 else if e = 30 then 11 else if e = 51 then 13 else 0
set_option maxRecDepth 100000 in
theorem reasonOf_any (e : Int) (w : World) : Calls Tryz.prog 56 #[.int .i64 e] w fun x w' => x = .returned (.int .i64 (rsN e)) ∧ w' = w := by
  by_cases h1 : e = 50
  · subst h1
    go_enter Tryz.func56, Tryz.ntmps56
    go_wp2
    go_ret
    exact ⟨rfl, rfl⟩
  by_cases h2 : e = 53
  · subst h2
    go_enter Tryz.func56, Tryz.ntmps56
    go_wp2
    go_ret
    exact ⟨rfl, rfl⟩
  by_cases h3 : e = 31
  · subst h3
    go_enter Tryz.func56, Tryz.ntmps56
    go_wp2
    go_ret
    exact ⟨rfl, rfl⟩
  by_cases h4 : e = 30
  · subst h4
    go_enter Tryz.func56, Tryz.ntmps56
    go_wp2
    go_ret
    exact ⟨rfl, rfl⟩
  by_cases h5 : e = 51
  · subst h5
    go_enter Tryz.func56, Tryz.ntmps56
    go_wp2
    go_ret
    exact ⟨rfl, rfl⟩
  rw [show rsN e = 0 by simp [rsN, h1, h2, h3, h4, h5]]
  have b1 := beq_no h1
  have b2 := beq_no h2
  have b3 := beq_no h3
  have b4 := beq_no h4
  have b5 := beq_no h5
  clear h1 h2 h3 h4 h5
  go_enter Tryz.func56, Tryz.ntmps56
  go_wp2
  go_ret
  exact ⟨rfl, rfl⟩
/-- What Why tells. -/
def whR (l : List UInt8) : Int := match splitL l with | .error _ => -1 | .ok fs => match rdX fs with | none => 0 | some (e, _, _) => rsN e
def whT (l : List UInt8) : Int := match splitL l with | .error _ => 0 | .ok fs => match rdX fs with | none => 0 | some (_, _, t) => t
def whM (l : List UInt8) : Msg := match splitL l with | .error _ => zeroM | .ok fs => rdM fs
set_option maxRecDepth 100000 in
set_option maxHeartbeats 1000000 in
theorem Why_any (v : Value) (l : List UInt8) (w : World) (hl : l.length ≤ 9223372036854775807) (hv : SrcB w v l) (hM : Mon w) (hp : Pow w) (hE : ETy w) :
    Calls Tryz.prog 20 #[v] w fun x w' => x = .returned (.tuple #[.int .i64 (whR l), .int .i64 (whT l), .agg (whM l).cs]) ∧ Below w.heap.size w w' := by
  have HE : Hid (ETy w) := hE
  have HB1 : Hid (OwnM (w.alloc (.cells zeroM.cs 23)) w.heap.size zeroM ∧ Below w.heap.size w (w.alloc (.cells zeroM.cs 23))) := ⟨heap_alloc_new w _, (Below.refl _ w).alloc (Nat.le_refl _) _⟩
  have HRd := read_any v l _ hl (hv.below HB1.out.2) (hM.below HB1.out.2 hM.lt) (hp.below HB1.out.2)
  obtain ⟨r0, hr0⟩ : ∃ r0, whR l = r0 := ⟨_, rfl⟩
  obtain ⟨t0, ht0⟩ : ∃ t0, whT l = t0 := ⟨_, rfl⟩
  obtain ⟨m0, hm0⟩ : ∃ m0, whM l = m0 := ⟨_, rfl⟩
  have HR : Hid (whR l = r0 ∧ whT l = t0 ∧ whM l = m0) := ⟨hr0, ht0, hm0⟩
  rw [hr0, ht0, hm0]
  clear hM hp hv hl hE hr0 ht0 hm0
  go_enter Tryz.func20, Tryz.ntmps20
  go_upto_region 1 with fail
  generalize hW : World.alloc w _ = w1
  have hW1 : w.alloc (.cells zeroM.cs 23) = w1 := hW
  rw [hW1] at HRd HB1
  clear hW hW1
  rename_i K1 hK1
  refine wp_region_lit ?_
  refine wpList_runTo rfl (some 8) rfl v w1 (by kernel_rfl) ?_
  refine wpList_callF rfl (some 9) rfl 29 #[v] (by kernel_rfl) HRd ?_
  rintro e w2 hrd
  obtain ⟨GM, ev, hxe, HF2⟩ : ∃ GM ev, e = .returned (.tuple #[.agg (Msg.cs GM), ev]) ∧ Hid (Below w1.heap.size w1 w2 ∧ match splitL l with | .error (e, a) => GM = zeroM ∧ ∃ g, w1.heap.size ≤ g ∧ ev = .iface 62 (.pointer (some ⟨g, 0, none⟩)) ∧ FaultAt w2 g e a | .ok fs => GM = rdM fs ∧ ErrAt w2 w1.heap.size ev (rdX fs)) := by
    obtain ⟨hb, h⟩ := hrd
    revert h
    cases splitL l with
    | error x =>
      obtain ⟨e1, a1⟩ := x
      rintro ⟨g, hg, rfl, hf⟩
      exact ⟨zeroM, _, rfl, hb, rfl, g, hg, rfl, hf⟩
    | ok fs =>
      rintro ⟨ev, rfl, hf⟩
      exact ⟨rdM fs, _, rfl, hb, rfl, hf⟩
  subst hxe
  clear hrd HRd
  refine ⟨_, rfl, ?_⟩
  have HO2 : Hid (OwnM w2 w.heap.size zeroM ∧ Below w.heap.size w w2 ∧ w.heap.size < w1.heap.size) := ⟨HB1.out.1.low HF2.out.1, HB1.out.2.trans (HF2.out.1.mono HB1.out.2.size), HB1.out.1.lt⟩
  refine wpList_runTo rfl (some 7) rfl (.tuple #[.agg GM.cs, ev]) w2 (by kernel_rfl) ?_
  refine wpList_runTo rfl (some 10) rfl (.agg GM.cs) w2 (by kernel_rfl) ?_
  refine wpList_runTo rfl (some 11) rfl ev w2 (by kernel_rfl) ?_
  refine wpList_store_row rfl 23 (.tmp 4) (.tmp 10) rfl w.heap.size GM.cs (by rfl) (by rfl) 23 _ HO2.out.1 (by rw [Msg.cs_size]; kernel_rfl) (by rw [Msg.cs_size, Msg.cs_size]) (Msg.cs_one _) ?_
  refine wpList_runTo rfl (some 5) rfl ev (w2.setRow w.heap.size GM.cs) (by kernel_rfl) ?_
  refine wpList_nil ?_
  refine hK1 _ _ ?_
  clear hK1
  simp only [Act.put, List.setIfInBounds_toArray, List.set_cons_zero, List.set_cons_succ]
  have HD : Hid (GI w (w2.setRow w.heap.size GM.cs) w.heap.size GM) := ⟨setRow_heap _ _ _ _ _ _ HO2.out.1, below_setRow HO2.out.2.1 (Nat.le_refl _) _⟩
  have HF4 : Hid (match splitL l with | .error (e, a) => GM = zeroM ∧ ∃ g, w.heap.size < g ∧ ev = .iface 62 (.pointer (some ⟨g, 0, none⟩)) ∧ FaultAt (w2.setRow w.heap.size GM.cs) g e a | .ok fs => GM = rdM fs ∧ ErrAt (w2.setRow w.heap.size GM.cs) w.heap.size ev (rdX fs)) := by
    obtain ⟨q1, q2⟩ := HF2.out
    have hlt : w.heap.size < w1.heap.size := HO2.out.2.2
    revert q2
    cases splitL l with
    | error x =>
      obtain ⟨e1, a1⟩ := x
      rintro ⟨h1, g, hg, h2, hf⟩
      exact ⟨h1, g, by omega, h2, (setRow_other _ _ _ _ (by omega)).trans hf⟩
    | ok fs =>
      rintro ⟨h1, h2⟩
      exact ⟨h1, h2.row hlt _⟩
  clear HF2 HB1 HO2
  generalize w2.setRow w.heap.size GM.cs = w3 at *
  have HC : Hid ((∃ g e a, ev = .iface 62 (.pointer (some ⟨g, 0, none⟩)) ∧ FaultAt w3 g e a ∧ r0 = -1 ∧ t0 = 0 ∧ m0 = zeroM) ∨ (ev = .nilIface ∧ r0 = 0 ∧ t0 = 0 ∧ GM = m0) ∨ (∃ h e a, ev = .iface 103 (.pointer (some ⟨h, 0, none⟩)) ∧ WrongAt w3 w.heap.size h e a t0 ∧ r0 = rsN e ∧ GM = m0)) := by
    have h4 := HF4.out
    have hR := HR.out
    unfold whR whT whM at hR
    revert h4 hR
    cases splitL l with
    | error x =>
      obtain ⟨e1, a1⟩ := x
      rintro ⟨-, g, hg1, rfl, hf⟩ ⟨hR1, hR2, hR3⟩
      exact .inl ⟨g, e1, a1, rfl, hf, hR1.symm, hR2.symm, hR3.symm⟩
    | ok fs =>
      rintro ⟨rfl, he⟩ ⟨hR1, hR2, hR3⟩
      dsimp only at hR1 hR2 hR3
      revert he hR1 hR2
      cases rdX fs with
      | none =>
        intro he hR1 hR2
        exact .inr (.inl ⟨he, hR1.symm, hR2.symm, hR3⟩)
      | some x =>
        obtain ⟨e1, a1, t1⟩ := x
        rintro ⟨h, rfl, hw⟩ hR1 hR2
        dsimp only at hR1 hR2
        subst hR2
        exact .inr (.inr ⟨h, e1, a1, rfl, hw, hR1.symm, hR3⟩)
  clear HF4 HR
  rcases HC.out with ⟨g, e0, a0, rfl, hfa, rfl, rfl, rfl⟩ | ⟨rfl, rfl, rfl, rfl⟩ | ⟨h, e0, a0, rfl, hwr, rfl, rfl⟩
  · clear HC
    go_upto_region 5 with fail
    generalize hW4 : World.alloc w3 _ = w4
    have hb4 : Below w3.heap.size w3 w4 := by rw [← hW4]; exact (Below.refl _ w3).alloc (Nat.le_refl _) _
    have hvar : w4.heap[w3.heap.size]? = some (.cells #[.pointer none] 103 (0, 0)) := by rw [← hW4]; exact heap_alloc_new w3 _
    have HD4 : Hid (GI w w4 w.heap.size GM) := HD.out.low hb4
    have hf4 : FaultAt w4 g e0 a0 := (hb4.block _ (Array.getElem?_eq_some_iff.1 hfa).1).trans hfa
    have hcall := as_FW g e0 ⟨w3.heap.size, 0, none⟩ _ w4 (HE.out.below HD4.out.below) (cell_of_row _ _ 0 _ _ _ hvar) (frozen_of_row w4 w3.heap.size 0 _ _ hvar) (cell_of_row _ _ 1 _ _ _ hf4)
    clear hvar hf4 hfa hb4 hW4 HE HD
    go_wp2_with (go_at_call 30; fail)
    refine hcall.mono ?_
    rintro e w5 ⟨rfl, hb5⟩
    have HD5 : Hid (GI w w5 w.heap.size GM) := HD4.out.low hb5
    clear hcall hb5 HD4
    go_upto_region 6 with fail
    rename_i K hK
    refine wp_region_lit ?_
    refine wpList_runTo rfl (some 19) rfl (.agg zeroM.cs) w5 (by kernel_rfl) ?_
    refine wpList_runTo rfl (some 2) rfl (.int .i64 (-1)) w5 (by kernel_rfl) ?_
    refine wpList_runTo rfl (some 3) rfl (.int .i64 0) w5 (by kernel_rfl) ?_
    refine wpList_store_row rfl 23 (.tmp 4) (.tmp 19) rfl w.heap.size zeroM.cs (by rfl) (by rfl) 23 _ HD5.out.msg (by rw [Msg.cs_size]; kernel_rfl) (by rw [Msg.cs_size, Msg.cs_size]) (Msg.cs_one _) ?_
    refine wpList_nil ?_
    refine hK _ _ ?_
    apply wp_ret
    simp only [Exit.then]
    refine bodyPost_ret (results_ttc (fn := Tryz.f20) (p := 4) (u := 2) (v := 3) (ty := 23) rfl _ _ w.heap.size 23 zeroM.cs (0, 0) _ (by rfl) (setRow_heap _ _ _ _ _ _ HD5.out.msg) Tryz.underlying23 rfl (by rw [Msg.cs_size]; kernel_rfl)) (by rfl) ?_
    exact ⟨rfl, below_setRow HD5.out.below (Nat.le_refl _) _⟩
  · clear HC
    go_upto_region 3 with fail
    rename_i K4 hK4
    refine wp_region_held (S := fun w' => OwnM w' w.heap.size GM) (by kernel_rfl) ?_
    change wpAnyH _ _ _ _ _ _ _ _ (World.drew _)
    have hS5 : OwnM w3.drew w.heap.size GM := HD.out.msg
    have HB : Hid (Below w.heap.size w w3.drew) := below_drewN HD.out.below 1
    clear HD
    generalize w3.drew = w6 at *
    refine takeR (i := 0) (v := .agg GM.cs) (some 14) rfl rfl (by kernel_rfl) (by kernel_rfl) (by kernel_rfl) (fun _ _ _ h => h) (Or.inl ⟨by kernel_rfl, fun w' hSw => by exact exec_loadM hSw (.tmp 4) rfl rfl⟩) hS5 ?_
    simp only [Act.put, List.setIfInBounds_toArray, List.set_cons_zero, List.set_cons_succ]
    refine takeR (i := 1) (v := .int .i64 0) (some 2) rfl rfl (by kernel_rfl) (by kernel_rfl) (by kernel_rfl) (fun _ _ _ h => h) (Or.inl ⟨by kernel_rfl, fun w' hSw => by kernel_rfl⟩) hS5 ?_
    simp only [Act.put, List.setIfInBounds_toArray, List.set_cons_zero, List.set_cons_succ]
    refine takeR (i := 2) (v := .int .i64 0) (some 3) rfl rfl (by kernel_rfl) (by kernel_rfl) (by kernel_rfl) (fun _ _ _ h => h) (Or.inl ⟨by kernel_rfl, fun w' hSw => by kernel_rfl⟩) hS5 ?_
    simp only [Act.put, List.setIfInBounds_toArray, List.set_cons_zero, List.set_cons_succ]
    refine wpAnyH_ready (rs := [3]) (by kernel_rfl) (by simp) ?_
    refine AllReadyH.cons rfl (fun K1 hK1 => ?_) AllReadyH.nil
    rw [if_pos (by kernel_rfl)]
    refine wp_store_row 23 (.tmp 4) (.tmp 14) rfl w.heap.size GM.cs (by rfl) (by rfl) 23 _ hS5 (by rw [Msg.cs_size]; kernel_rfl) rfl (Msg.cs_one _) ?_
    refine hK1.out _ _ (setRow_heap _ _ _ _ _ _ hS5) (fun _ => ?_)
    clear hK1
    simp only [Act.put, List.setIfInBounds_toArray, List.set_cons_zero, List.set_cons_succ]
    refine wpAnyH_done (by kernel_rfl) ?_ _
    refine hK4 _ _ ?_
    apply wp_ret
    simp only [Exit.then]
    refine bodyPost_ret (results_ttc (fn := Tryz.f20) (p := 4) (u := 2) (v := 3) (ty := 23) rfl _ _ w.heap.size 23 GM.cs (0, 0) _ (by rfl) (setRow_heap _ _ _ _ _ _ hS5) Tryz.underlying23 rfl (by rw [Msg.cs_size]; kernel_rfl)) (by rfl) ?_
    exact ⟨rfl, below_setRow HB.out (Nat.le_refl _) _⟩
  · clear HC
    obtain ⟨f, hh, hf, hwh, hfa⟩ := hwr
    go_upto_region 5 with fail
    generalize hW4 : World.alloc w3 _ = w4
    have hb4 : Below w3.heap.size w3 w4 := by rw [← hW4]; exact (Below.refl _ w3).alloc (Nat.le_refl _) _
    have hvar : w4.heap[w3.heap.size]? = some (.cells #[.pointer none] 103 (0, 0)) := by rw [← hW4]; exact heap_alloc_new w3 _
    have HD4 : Hid (GI w w4 w.heap.size GM) := HD.out.low hb4
    have hwh4 : w4.heap[h]? = some (.cells #[.int .i64 t0, .pointer (some ⟨f, 0, none⟩)] 107 (0, 0)) := (hb4.block _ (Array.getElem?_eq_some_iff.1 hwh).1).trans hwh
    have hfa4 : FaultAt w4 f e0 a0 := (hb4.block _ (Array.getElem?_eq_some_iff.1 hfa).1).trans hfa
    have hcall := as_W ⟨h, 0, none⟩ ⟨w3.heap.size, 0, none⟩ _ w4 (HE.out.below HD4.out.below) (cell_of_row _ _ 0 _ _ _ hvar) (frozen_of_row w4 w3.heap.size 0 _ _ hvar)
    have HG6 : Hid (w.heap.size < w3.heap.size) := HD.out.msg.lt
    have hne1 : h ≠ w3.heap.size := Nat.ne_of_lt (Array.getElem?_eq_some_iff.1 hwh).1
    have hne2 : f ≠ w3.heap.size := Nat.ne_of_lt (Array.getElem?_eq_some_iff.1 hfa).1
    clear hwh hfa hb4 hW4 HE HD hh hf
    generalize w3.heap.size = g6 at *
    go_wp2_with (go_at_call 30; fail)
    refine hcall.mono ?_
    clear hcall
    rintro e w5 ⟨rfl, W, hbW, rfl⟩
    have hg6 : g6 < w4.heap.size := (Array.getElem?_eq_some_iff.1 hvar).1
    have hvarW : W.heap[g6]? = some (.cells #[.pointer none] 103 (0, 0)) := (hbW.block _ hg6).trans hvar
    have HX : Hid (GI w (W.setCell ⟨g6, 0, none⟩ (.pointer (some ⟨h, 0, none⟩))) w.heap.size GM) := ⟨(Below.heap_setCell _ _ _ _ (Nat.ne_of_lt HG6.out)).trans (HD4.out.msg.low hbW), (HD4.out.below.trans (hbW.mono HD4.out.below.size)).setCell (Nat.le_of_lt HG6.out) _⟩
    have c6 : (W.setCell ⟨g6, 0, none⟩ (.pointer (some ⟨h, 0, none⟩))).cell? ⟨g6, 0, none⟩ = some (.pointer (some ⟨h, 0, none⟩)) := by
      rw [setCell_eq_setRow W g6 0 _ _ _ _ hvarW]
      exact cell_of_row _ _ 0 _ _ _ (setRow_heap _ _ _ _ _ _ hvarW)
    have bh : (W.setCell ⟨g6, 0, none⟩ (.pointer (some ⟨h, 0, none⟩))).heap[h]? = some (.cells #[.int .i64 t0, .pointer (some ⟨f, 0, none⟩)] 107 (0, 0)) := (Below.heap_setCell _ _ _ _ hne1).trans ((hbW.block _ (Array.getElem?_eq_some_iff.1 hwh4).1).trans hwh4)
    have bf : FaultAt (W.setCell ⟨g6, 0, none⟩ (.pointer (some ⟨h, 0, none⟩))) f e0 a0 := (Below.heap_setCell _ _ _ _ hne2).trans ((hbW.block _ (Array.getElem?_eq_some_iff.1 hfa4).1).trans hfa4)
    have HS0 : Hid ((W.setCell ⟨g6, 0, none⟩ (.pointer (some ⟨h, 0, none⟩))).drew.cell? ⟨g6, 0, none⟩ = some (.pointer (some ⟨h, 0, none⟩)) ∧ (W.setCell ⟨g6, 0, none⟩ (.pointer (some ⟨h, 0, none⟩))).drew.cell? ⟨h, 0, none⟩ = some (.int .i64 t0) ∧ (W.setCell ⟨g6, 0, none⟩ (.pointer (some ⟨h, 0, none⟩))).drew.cell? ⟨h, 1, none⟩ = some (.pointer (some ⟨f, 0, none⟩)) ∧ (W.setCell ⟨g6, 0, none⟩ (.pointer (some ⟨h, 0, none⟩))).drew.cell? ⟨f, 1, none⟩ = some (.int .i64 e0) ∧ OwnM (W.setCell ⟨g6, 0, none⟩ (.pointer (some ⟨h, 0, none⟩))).drew w.heap.size GM) := ⟨c6, cell_of_row _ _ 0 _ _ _ bh, cell_of_row _ _ 1 _ _ _ bh, cell_of_row _ _ 1 _ _ _ bf, HX.out.msg⟩
    have HB : Hid (Below w.heap.size w (W.setCell ⟨g6, 0, none⟩ (.pointer (some ⟨h, 0, none⟩))).drew) := below_drewN HX.out.below 1
    clear hvarW HD4 c6 bh bf HX hwh4 hfa4 hvar hbW hne1 hne2
    generalize W.setCell ⟨g6, 0, none⟩ (.pointer (some ⟨h, 0, none⟩)) = w5 at *
    have hrs := reasonOf_any e0
    go_upto_region 7 with fail
    rename_i K4 hK4
    refine wp_region_held (S := fun w' => w'.cell? ⟨g6, 0, none⟩ = some (.pointer (some ⟨h, 0, none⟩)) ∧ w'.cell? ⟨h, 0, none⟩ = some (.int .i64 t0) ∧ w'.cell? ⟨h, 1, none⟩ = some (.pointer (some ⟨f, 0, none⟩)) ∧ w'.cell? ⟨f, 1, none⟩ = some (.int .i64 e0) ∧ OwnM w' w.heap.size GM) (by kernel_rfl) ?_
    change wpAnyH _ _ _ _ _ _ _ _ (World.drew _)
    have hS5 := HS0.out
    clear HS0
    generalize w5.drew = w6 at *
    refine takeR (i := 0) (v := .pointer (some ⟨h, 0, none⟩)) (some 20) rfl rfl (by kernel_rfl) (by kernel_rfl) (by kernel_rfl) (fun _ _ _ h => h) (Or.inl ⟨by kernel_rfl, fun w' hSw => by have q0 := hSw.1; clear hSw; go_simp⟩) hS5 ?_
    simp only [Act.put, List.setIfInBounds_toArray, List.set_cons_zero, List.set_cons_succ]
    refine takeR (i := 1) (v := .pointer (some ⟨h, 0, none⟩)) (some 21) rfl rfl (by kernel_rfl) (by kernel_rfl) (by kernel_rfl) (fun _ _ _ h => h) (Or.inl ⟨by kernel_rfl, fun w' hSw => by kernel_rfl⟩) hS5 ?_
    simp only [Act.put, List.setIfInBounds_toArray, List.set_cons_zero, List.set_cons_succ]
    refine takeR (i := 2) (v := .pointer (some ⟨h, 1, none⟩)) (some 22) rfl rfl (by kernel_rfl) (by kernel_rfl) (by kernel_rfl) (fun _ _ _ h => h) (Or.inl ⟨by kernel_rfl, fun w' hSw => by kernel_rfl⟩) hS5 ?_
    simp only [Act.put, List.setIfInBounds_toArray, List.set_cons_zero, List.set_cons_succ]
    refine takeR (i := 3) (v := .pointer (some ⟨f, 0, none⟩)) (some 23) rfl rfl (by kernel_rfl) (by kernel_rfl) (by kernel_rfl) (fun _ _ _ h => h) (Or.inl ⟨by kernel_rfl, fun w' hSw => by have q0 := hSw.2.2.1; clear hSw; go_simp⟩) hS5 ?_
    simp only [Act.put, List.setIfInBounds_toArray, List.set_cons_zero, List.set_cons_succ]
    refine takeR (i := 4) (v := .pointer (some ⟨f, 0, none⟩)) (some 24) rfl rfl (by kernel_rfl) (by kernel_rfl) (by kernel_rfl) (fun _ _ _ h => h) (Or.inl ⟨by kernel_rfl, fun w' hSw => by kernel_rfl⟩) hS5 ?_
    simp only [Act.put, List.setIfInBounds_toArray, List.set_cons_zero, List.set_cons_succ]
    refine takeR (i := 5) (v := .pointer (some ⟨f, 1, none⟩)) (some 25) rfl rfl (by kernel_rfl) (by kernel_rfl) (by kernel_rfl) (fun _ _ _ h => h) (Or.inl ⟨by kernel_rfl, fun w' hSw => by kernel_rfl⟩) hS5 ?_
    simp only [Act.put, List.setIfInBounds_toArray, List.set_cons_zero, List.set_cons_succ]
    refine takeR (i := 6) (v := .int .i64 e0) (some 26) rfl rfl (by kernel_rfl) (by kernel_rfl) (by kernel_rfl) (fun _ _ _ h => h) (Or.inl ⟨by kernel_rfl, fun w' hSw => by have q0 := hSw.2.2.2.1; clear hSw; go_simp⟩) hS5 ?_
    simp only [Act.put, List.setIfInBounds_toArray, List.set_cons_zero, List.set_cons_succ]
    refine takeR (i := 8) (v := .pointer (some ⟨h, 0, none⟩)) (some 28) rfl rfl (by kernel_rfl) (by kernel_rfl) (by kernel_rfl) (fun _ _ _ h => h) (Or.inl ⟨by kernel_rfl, fun w' hSw => by have q0 := hSw.1; clear hSw; go_simp⟩) hS5 ?_
    simp only [Act.put, List.setIfInBounds_toArray, List.set_cons_zero, List.set_cons_succ]
    refine takeR (i := 9) (v := .pointer (some ⟨h, 0, none⟩)) (some 29) rfl rfl (by kernel_rfl) (by kernel_rfl) (by kernel_rfl) (fun _ _ _ h => h) (Or.inl ⟨by kernel_rfl, fun w' hSw => by kernel_rfl⟩) hS5 ?_
    simp only [Act.put, List.setIfInBounds_toArray, List.set_cons_zero, List.set_cons_succ]
    refine takeR (i := 10) (v := .pointer (some ⟨h, 0, none⟩)) (some 30) rfl rfl (by kernel_rfl) (by kernel_rfl) (by kernel_rfl) (fun _ _ _ h => h) (Or.inl ⟨by kernel_rfl, fun w' hSw => by kernel_rfl⟩) hS5 ?_
    simp only [Act.put, List.setIfInBounds_toArray, List.set_cons_zero, List.set_cons_succ]
    refine takeR (i := 11) (v := .int .i64 t0) (some 31) rfl rfl (by kernel_rfl) (by kernel_rfl) (by kernel_rfl) (fun _ _ _ h => h) (Or.inl ⟨by kernel_rfl, fun w' hSw => by have q0 := hSw.2.1; clear hSw; go_simp⟩) hS5 ?_
    simp only [Act.put, List.setIfInBounds_toArray, List.set_cons_zero, List.set_cons_succ]
    refine takeR (i := 12) (v := .agg GM.cs) (some 32) rfl rfl (by kernel_rfl) (by kernel_rfl) (by kernel_rfl) (fun _ _ _ h => h) (Or.inl ⟨by kernel_rfl, fun w' hSw => by exact exec_loadM hSw.2.2.2.2 (.tmp 4) rfl rfl⟩) hS5 ?_
    simp only [Act.put, List.setIfInBounds_toArray, List.set_cons_zero, List.set_cons_succ]
    refine wpAnyH_ready (rs := [7]) (by kernel_rfl) (by simp) ?_
    refine AllReadyH.cons rfl (fun K1 hK1 => ?_) AllReadyH.nil
    rw [if_pos (by kernel_rfl)]
    refine callR (d := some 27) rfl 56 #[.int .i64 e0] (by kernel_rfl) (hrs _) ?_
    rintro e w7 ⟨rfl, rfl⟩
    refine ⟨_, rfl, ?_⟩
    refine hK1.out _ _ hS5 (fun _ => ?_)
    clear hK1 hrs
    simp only [Act.put, List.setIfInBounds_toArray, List.set_cons_zero, List.set_cons_succ]
    refine takeR (i := 13) (v := .int .i64 (rsN e0)) (some 2) rfl rfl (by kernel_rfl) (by kernel_rfl) (by kernel_rfl) (fun _ _ _ h => h) (Or.inl ⟨by kernel_rfl, fun w' hSw => by kernel_rfl⟩) hS5 ?_
    simp only [Act.put, List.setIfInBounds_toArray, List.set_cons_zero, List.set_cons_succ]
    refine takeR (i := 14) (v := .int .i64 t0) (some 3) rfl rfl (by kernel_rfl) (by kernel_rfl) (by kernel_rfl) (fun _ _ _ h => h) (Or.inl ⟨by kernel_rfl, fun w' hSw => by kernel_rfl⟩) hS5 ?_
    simp only [Act.put, List.setIfInBounds_toArray, List.set_cons_zero, List.set_cons_succ]
    refine wpAnyH_ready (rs := [15]) (by kernel_rfl) (by simp) ?_
    refine AllReadyH.cons rfl (fun K1 hK1 => ?_) AllReadyH.nil
    rw [if_pos (by kernel_rfl)]
    refine wp_store_row 23 (.tmp 4) (.tmp 32) rfl w.heap.size GM.cs (by rfl) (by rfl) 23 _ hS5.2.2.2.2 (by rw [Msg.cs_size]; kernel_rfl) rfl (Msg.cs_one _) ?_
    have hid : w7.setRow w.heap.size GM.cs = w7 := setRow_same hS5.2.2.2.2
    rw [hid]
    refine hK1.out _ _ hS5 (fun _ => ?_)
    clear hK1
    simp only [Act.put, List.setIfInBounds_toArray, List.set_cons_zero, List.set_cons_succ]
    refine wpAnyH_done (by kernel_rfl) ?_ _
    refine hK4 _ _ ?_
    apply wp_ret
    refine bodyPost_ret (results_ttc (fn := Tryz.f20) (p := 4) (u := 2) (v := 3) (ty := 23) rfl _ _ w.heap.size 23 GM.cs (0, 0) _ (by rfl) hS5.2.2.2.2 Tryz.underlying23 rfl (by rw [Msg.cs_size]; kernel_rfl)) (by rfl) ?_
    exact ⟨rfl, HB.out⟩
end Go.Proofs.YtchkpggdndnpjabGreatDoor
