/-
  heap: Remove of what is not there; Set; Pop, Peek.
-/
import Derived.Test.YtdnhhcbabdoomaaHFace3
namespace Go.Proofs.Ytdnhhcbabdoomaa
set_option linter.unusedVariables false
set_option linter.unusedSimpArgs false
open Go.RowKit Go.Great

section
variable {A : Ask} {w w' : World} {h : Nat} {v : Value} {t L : List (It Th)} {N c : Nat}
set_option maxRecDepth 100000 in
set_option maxHeartbeats 2000000 in
theorem Remove_no (pv : Value) (hh : Calls Try.prog 50 #[ptr h, pv] (w.alloc (.cells #[.int .i64 0, .int .i64 0] 30)) fun e w' => e = .returned (.bool false) ∧ HpM A w' h v t N c ∧ Fr (w.alloc (.cells #[.int .i64 0, .int .i64 0] 30)) w' (fun _ => False))
    (hA : A.Ok) (H : HpM A w h v t N c) :
    Calls Try.prog 16 #[ptr h, pv] w fun e w' => e = .returned (.tuple #[.agg #[.int .i64 0, .int .i64 0], .int .i64 111]) ∧ HpM A w' h v t N c ∧ Fr w w' (fun _ => False) := by
  have HB0 : Hid (Blk (w.alloc (.cells #[.int .i64 0, .int .i64 0] 30)) w.heap.size 30 #[.int .i64 0, .int .i64 0]) := Blk.new _ _ _
  have HF0 : Hid (Fr w (w.alloc (.cells #[.int .i64 0, .int .i64 0] 30)) (fun _ => False)) := Fr.alloc _ _ _
  have HO : Hid A.Ok := hA
  have HL : Hid ((∀ b, ownH h v t b → b < w.heap.size) ∧ ¬ A.ex w.heap.size) := ⟨fun b hb => H.lt hb, fun q => by have := hA.low H.st q; omega⟩
  clear hA H
  generalize hrb : w.heap.size = rb at *
  go_enter Try.func16, Try.ntmps16
  go_wp2_with (go_at_call 50; fail)
  refine hh.mono ?_
  rintro e w2 ⟨rfl, hm2, hf2⟩
  clear hh
  have HX2 : Hid (HpM A w2 h v t N c ∧ Fr w w2 (fun _ => False) ∧ Blk w2 rb 30 #[.int .i64 0, .int .i64 0]) := ⟨hm2, HF0.out.trans hf2 fun _ _ q => by rcases q with q | q <;> exact q, HB0.out.fr hf2 (fun q => q)⟩
  have hlt : rb < w2.heap.size := (HB0.out.fr hf2 (fun q => q)).lt
  clear hm2 hf2 HF0 HB0
  have r0 : w2.cell? ⟨rb, 0, none⟩ = some (.int .i64 0) := HX2.out.2.2.cell 0
  have r1 : w2.cell? ⟨rb, 1, none⟩ = some (.int .i64 0) := HX2.out.2.2.cell 1
  have f0 := HX2.out.2.2.frozen 0
  have f1 := HX2.out.2.2.frozen 1
  have HF : Hid (Fr w2 (((w2.setCell ⟨rb, 0, none⟩ (.int .i64 0)).setCell ⟨rb, 1, none⟩ (.int .i64 0)).alloc (.cells #[.int .i64 0, .int .i64 0] 30)) (fun b => b = rb)) :=
    ((Fr.setCell w2 ⟨rb, 0, none⟩ _ (fun b => b = rb) rfl).trans (Fr.setCell _ ⟨rb, 1, none⟩ _ (fun b => b = rb) rfl) (e3 := fun b => b = rb) fun _ _ q => by rcases q with q | q <;> exact q).trans (Fr.alloc _ _ (fun b => b = rb)) fun _ _ q => by rcases q with q | q <;> exact q
  go_wp2
  refine bodyPost_ret (results_cr2 (fn := Try.f16) (p := 4) (u := 5) (ty := 30) rfl _ _ rb 30 #[.int .i64 0, .int .i64 0] (0, 0) _ (by rfl) (((HX2.out.2.2.set 0 _).set 1 _).alloc _) Try.underlying30 rfl (by kernel_rfl)) (by rfl) ?_
  refine ⟨rfl, HX2.out.1.fr HF.out (fun b hb e => by have := HL.out.1 b hb; omega) (HO.out.keep HX2.out.1.st HF.out fun b q => by rw [q]; exact HL.out.2), HX2.out.2.1.trans HF.out fun b hb q => ?_⟩
  rcases q with q | q
  · exact q
  · omega
theorem Remove_nil (H : HpM A w h v t N c) (hA : A.Ok) :
    Calls Try.prog 16 #[ptr h, .pointer none] w fun e w' => e = .returned (.tuple #[.agg #[.int .i64 0, .int .i64 0], .int .i64 111]) ∧ HpM A w' h v t N c ∧ Fr w w' (fun _ => False) :=
  Remove_no _ (has_nil (H.alloc hA _) hA) hA H
theorem Remove_gone (H : HpM A w h v t N c) (hA : A.Ok) {k : Nat} {it : It Th} (hb : Blk w it.p 100 (icl it k)) (hn : ∀ a, a ∈ t → a.p ≠ it.p) :
    Calls Try.prog 16 #[ptr h, ptr it.p] w fun e w' => e = .returned (.tuple #[.agg #[.int .i64 0, .int .i64 0], .int .i64 111]) ∧ HpM A w' h v t N c ∧ Fr w w' (fun _ => False) :=
  Remove_no _ (has_no (H.alloc hA _) hA (hb.alloc _) hn) hA H
/-- Another thing is in an item. -/
theorem HpM.setx (H : HpM A w h v t N c) (hA : A.Ok) {k : Nat} {it : It Th} (hk : t[k]? = some it) (x : Th) :
    HpM A ((w.setCell ⟨it.p, 0, none⟩ (.int .i64 x.k)).setCell ⟨it.p, 1, none⟩ (.int .i64 x.g)) h v (t.set k { it with x := x }) N c ∧ Fr w ((w.setCell ⟨it.p, 0, none⟩ (.int .i64 x.k)).setCell ⟨it.p, 1, none⟩ (.int .i64 x.g)) (fun b => b = it.p) := by
  have hkl := get_lt hk
  have hm := List.mem_of_getElem? hk
  obtain ⟨g, off, cap, hv, h1, h2, h3, h4, h5⟩ := H.slice (by omega)
  have F : Fr w ((w.setCell ⟨it.p, 0, none⟩ (.int .i64 x.k)).setCell ⟨it.p, 1, none⟩ (.int .i64 x.g)) (fun b => b = it.p) := (Fr.setCell _ ⟨it.p, 0, none⟩ _ (fun b => b = it.p) rfl).trans (Fr.setCell _ ⟨it.p, 1, none⟩ _ (fun b => b = it.p) rfl) (fun _ _ q => by rcases q with q | q <;> exact q)
  refine ⟨⟨H.blk.fr F (fun e => (h3 it hm).2 e.symm), ?_, fun i a ha => ?_, pw_set H.ne hk (fun _ q => q) (fun _ q => q), hA.keep H.st F fun b q => by rw [q]; exact H.ap _ (.inr (.inr ⟨it, hm, rfl⟩)), fun b hb => H.ap b ?_, by rw [List.length_set]; exact H.le⟩, F⟩
  · rw [List.length_set, map_set]
    have e : (t.map fun it => ptr it.p).set k (ptr it.p) = t.map fun it => ptr it.p := by
      apply List.ext_getElem?
      intro i
      rw [List.getElem?_set]
      by_cases e : k = i
      · subst e; rw [if_pos rfl, if_pos (by rw [List.length_map]; exact hkl), List.getElem?_map, hk]; rfl
      · rw [if_neg e]
    rw [e]
    exact H.row.fr F fun q hq e => (h3 it hm).1 (e ▸ (own_slice hv hq).symm)
  · rw [List.getElem?_set] at ha
    by_cases e : k = i
    · subst e
      rw [if_pos rfl, if_pos hkl] at ha
      injection ha with ha
      subst ha
      exact ((H.its k it hk).set 0 _).set 1 _
    · rw [if_neg e] at ha
      exact (H.its i a ha).fr F (pw_ne H.ne ha hk (Ne.symm e))
  · rcases hb with q | q | ⟨a, q1, q2⟩
    · exact .inl q
    · exact .inr (.inl q)
    · rcases List.mem_or_eq_of_mem_set q1 with q | q
      · exact .inr (.inr ⟨a, q, q2⟩)
      · rw [q] at q2; exact .inr (.inr ⟨it, hm, q2⟩)
set_option maxRecDepth 100000 in
set_option maxHeartbeats 2000000 in
theorem Set_no (pv : Value) (x : Th) (hh : Calls Try.prog 50 #[ptr h, pv] (w.alloc (.cells #[.int .i64 x.k, .int .i64 x.g] 30)) fun e w' => e = .returned (.bool false) ∧ HpM A w' h v t N c ∧ Fr (w.alloc (.cells #[.int .i64 x.k, .int .i64 x.g] 30)) w' (fun _ => False)) :
    Calls Try.prog 17 #[ptr h, pv, .agg #[.int .i64 x.k, .int .i64 x.g]] w fun e w' => e = .returned (.int .i64 111) ∧ HpM A w' h v t N c ∧ Fr w w' (fun _ => False) := by
  have HF0 : Hid (Fr w (w.alloc (.cells #[.int .i64 x.k, .int .i64 x.g] 30)) (fun _ => False)) := Fr.alloc _ _ _
  go_enter Try.func17, Try.ntmps17
  go_wp2_with (go_at_call 50; fail)
  refine hh.mono ?_
  rintro e w2 ⟨rfl, hm2, hf2⟩
  have HX : Hid (HpM A w2 h v t N c ∧ Fr w w2 (fun _ => False)) := ⟨hm2, HF0.out.trans hf2 fun _ _ q => by rcases q with q | q <;> exact q⟩
  clear hm2 hf2 hh HF0
  go_wp2
  go_ret
  exact ⟨rfl, HX.out⟩
theorem Set_nil (H : HpM A w h v t N c) (hA : A.Ok) (x : Th) :
    Calls Try.prog 17 #[ptr h, .pointer none, .agg #[.int .i64 x.k, .int .i64 x.g]] w fun e w' => e = .returned (.int .i64 111) ∧ HpM A w' h v t N c ∧ Fr w w' (fun _ => False) :=
  Set_no _ x (has_nil (H.alloc hA _) hA)
theorem Set_gone (H : HpM A w h v t N c) (hA : A.Ok) (x : Th) {k : Nat} {it : It Th} (hb : Blk w it.p 100 (icl it k)) (hn : ∀ a, a ∈ t → a.p ≠ it.p) :
    Calls Try.prog 17 #[ptr h, ptr it.p, .agg #[.int .i64 x.k, .int .i64 x.g]] w fun e w' => e = .returned (.int .i64 111) ∧ HpM A w' h v t N c ∧ Fr w w' (fun _ => False) :=
  Set_no _ x (has_no (H.alloc hA _) hA (hb.alloc _) hn)
set_option maxRecDepth 100000 in
set_option maxHeartbeats 2000000 in
theorem Set_yes (H : HpM A w h v t N c) (hA : A.Ok) (x : Th) {k : Nat} {it : It Th} (hk : t[k]? = some it) :
    Calls Try.prog 17 #[ptr h, ptr it.p, .agg #[.int .i64 x.k, .int .i64 x.g]] w fun e w' => e = .returned (.int .i64 0) ∧ HpM A w' h v (setlL A.lt (t.set k { it with x := x }) k) N (c + setlN A.lt (t.set k { it with x := x }) k) ∧ Fr w w' (fun b => ownH h v t b ∨ A.ex b) := by
  have hkl := get_lt hk
  have hm := List.mem_of_getElem? hk
  have HO : Hid A.Ok := hA
  have HK : Hid (t[k]? = some it) := hk
  have HF0 : Hid (Fr w (w.alloc (.cells #[.int .i64 x.k, .int .i64 x.g] 30)) (fun _ => False)) := Fr.alloc _ _ _
  have HB0 : Hid (Blk (w.alloc (.cells #[.int .i64 x.k, .int .i64 x.g] 30)) w.heap.size 30 #[.int .i64 x.k, .int .i64 x.g]) := Blk.new _ _ _
  have HM0 : Hid (HpM A (w.alloc (.cells #[.int .i64 x.k, .int .i64 x.g] 30)) h v t N c) := H.alloc hA _
  have HNE : Hid (it.p ≠ w.heap.size ∧ ownH h v t it.p) := ⟨Nat.ne_of_lt (H.lt (.inr (.inr ⟨it, hm, rfl⟩))), .inr (.inr ⟨it, hm, rfl⟩)⟩
  have HSL : Hid (∀ b, ownH h v (t.set k { it with x := x }) b → ownH h v t b) := fun b hb => by
    rcases hb with q | q | ⟨a, q1, q2⟩
    · exact .inl q
    · exact .inr (.inl q)
    · rcases List.mem_or_eq_of_mem_set q1 with q | q
      · exact .inr (.inr ⟨a, q, q2⟩)
      · rw [q] at q2; exact .inr (.inr ⟨it, hm, q2⟩)
  have HAT : Hid ((t.set k { it with x := x })[k]? = some { it with x := x }) := by show (t.set k { it with x := x })[k]? = _; rw [List.getElem?_set, if_pos rfl, if_pos hkl]
  generalize hT : t.set k { it with x := x } = T at *
  generalize hRL : setlL A.lt T k = RL at *
  generalize hRN : setlN A.lt T k = RN at *
  have HRR : Hid (setlL A.lt T k = RL ∧ setlN A.lt T k = RN ∧ t.set k { it with x := x } = T) := ⟨hRL, hRN, hT⟩
  clear H hA hk hm hRL hRN hT
  generalize hrb : w.heap.size = rb at *
  go_enter Try.func17, Try.ntmps17
  go_wp2_with (go_at_call 50; fail)
  refine (has_yes HM0.out HO.out HK.out).mono ?_
  rintro e w2 ⟨rfl, hm2, hf2⟩
  have HX2 : Hid (HpM A w2 h v t N c ∧ Fr w w2 (fun _ => False) ∧ Blk w2 rb 30 #[.int .i64 x.k, .int .i64 x.g]) := ⟨hm2, HF0.out.trans hf2 fun _ _ q => by rcases q with q | q <;> exact q, HB0.out.fr hf2 (fun q => q)⟩
  clear hm2 hf2 HM0 HF0 HB0
  have r0 : w2.cell? ⟨rb, 0, none⟩ = some (.int .i64 x.k) := HX2.out.2.2.cell 0
  have r1 : w2.cell? ⟨rb, 1, none⟩ = some (.int .i64 x.g) := HX2.out.2.2.cell 1
  obtain ⟨a0, a1, _, _⟩ := HX2.out.1.at HK.out
  have f0 := (HX2.out.1.its k it HK.out).frozen 0
  have f1 := (HX2.out.1.its k it HK.out).frozen 1
  have hsx := HX2.out.1.setx HO.out HK.out x
  rw [HRR.out.2.2] at hsx
  have HSX : Hid (HpM A ((w2.setCell ⟨it.p, 0, none⟩ (.int .i64 x.k)).setCell ⟨it.p, 1, none⟩ (.int .i64 x.g)) h v T N c ∧ Fr w2 ((w2.setCell ⟨it.p, 0, none⟩ (.int .i64 x.k)).setCell ⟨it.p, 1, none⟩ (.int .i64 x.g)) (fun b => b = it.p)) := hsx
  clear hsx
  go_wp2_with (go_at_call 46; fail)
  refine (settle_any HSX.out.1 HO.out HAT.out).mono ?_
  rintro e w5 ⟨rfl, hm5, hf5⟩
  have HX5 : Hid (HpM A w5 h v RL N (c + RN) ∧ Fr w w5 (fun b => ownH h v t b ∨ A.ex b)) := by
    refine ⟨?_, (HX2.out.2.1.trans HSX.out.2 (e3 := fun b => ownH h v t b ∨ A.ex b) fun b _ q => ?_).trans hf5 fun b _ q => ?_⟩
    · have := hm5; rw [HRR.out.1, HRR.out.2.1] at this; exact this
    · rcases q with q | q
      · exact q.elim
      · rw [q]; exact .inl HNE.out.2
    · rcases q with q | q | q
      · exact q
      · exact .inl (HSL.out b q)
      · exact .inr q
  clear hm5 hf5
  go_wp2
  go_ret
  exact ⟨rfl, HX5.out⟩
end
end Go.Proofs.Ytdnhhcbabdoomaa
