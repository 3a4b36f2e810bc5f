/-
  heap of numbers: Remove of what is not there; Set.
-/
import Derived.Test.YtdnhhcbabdoomaaHIFace3
namespace Go.Proofs.Ytdnhhcbabdoomaa.I
set_option linter.unusedVariables false
set_option linter.unusedSimpArgs false
open Go.RowKit Go.Great

section
variable {A : Ask} {w w' : World} {h : Nat} {v : Value} {t L : List (It Th)} {N c : Nat}
set_option maxRecDepth 100000 in
set_option maxHeartbeats 2000000 in
theorem Remove_gone (H : HpM A w h v t N c) (hA : A.Ok) {k : Nat} {it : It Th} (hb : Blk w it.p 110 (icl it k)) (hn : ∀ a, a ∈ t → a.p ≠ it.p) :
    Calls Try.prog 24 #[ptr h, ptr it.p] w fun e w' => e = .returned (.tuple #[.int .i64 0, .int .i64 111]) ∧ HpM A w' h v t N c ∧ Fr w w' (fun _ => False) := by
  have hh := has_no H hA hb hn
  clear H hA hb hn
  go_enter Try.func24, Try.ntmps24
  go_wp2_with (go_at_call 54; fail)
  refine hh.mono ?_
  rintro e w2 ⟨rfl, hm2, hf2⟩
  have HX2 : Hid (HpM A w2 h v t N c ∧ Fr w w2 (fun _ => False)) := ⟨hm2, hf2⟩
  clear hm2 hf2 hh
  go_wp2
  first | go_ret | go_ret2
  exact ⟨rfl, HX2.out⟩
/-- Another thing is in an item. -/
theorem HpM.setx (H : HpM A w h v t N c) (hA : A.Ok) {k : Nat} {it : It Th} (hk : t[k]? = some it) (x : Th) :
    HpM A (w.setCell ⟨it.p, 0, none⟩ (.int .i64 x.k)) h v (t.set k { it with x := x }) N c ∧ Fr w (w.setCell ⟨it.p, 0, none⟩ (.int .i64 x.k)) (fun b => b = it.p) := by
  have hkl := get_lt hk
  have hm := List.mem_of_getElem? hk
  obtain ⟨g, off, cap, hv, h1, h2, h3, h4, h5⟩ := H.slice (by omega)
  have F : Fr w (w.setCell ⟨it.p, 0, none⟩ (.int .i64 x.k)) (fun b => b = it.p) := Fr.setCell _ ⟨it.p, 0, none⟩ _ (fun b => b = it.p) rfl
  refine ⟨⟨H.blk.fr F (fun e => (h3 it hm).2 e.symm), ?_, fun i a ha => ?_, pw_set H.ne hk (fun _ q => q) (fun _ q => q), hA.keep H.st F fun b q => by rw [q]; exact H.ap _ (.inr (.inr ⟨it, hm, rfl⟩)), fun b hb => H.ap b ?_, by rw [List.length_set]; exact H.le⟩, F⟩
  · rw [List.length_set, map_set]
    have e : (t.map fun it => ptr it.p).set k (ptr it.p) = t.map fun it => ptr it.p := by
      apply List.ext_getElem?
      intro i
      rw [List.getElem?_set]
      by_cases e : k = i
      · subst e; rw [if_pos rfl, if_pos (by rw [List.length_map]; exact hkl), List.getElem?_map, hk]; rfl
      · rw [if_neg e]
    rw [e]
    exact H.row.fr F fun q hq e => (h3 it hm).1 (e ▸ (own_slice hv hq).symm)
  · rw [List.getElem?_set] at ha
    by_cases e : k = i
    · subst e
      rw [if_pos rfl, if_pos hkl] at ha
      injection ha with ha
      subst ha
      exact (H.its k it hk).set 0 _
    · rw [if_neg e] at ha
      exact (H.its i a ha).fr F (pw_ne H.ne ha hk (Ne.symm e))
  · rcases hb with q | q | ⟨a, q1, q2⟩
    · exact .inl q
    · exact .inr (.inl q)
    · rcases List.mem_or_eq_of_mem_set q1 with q | q
      · exact .inr (.inr ⟨a, q, q2⟩)
      · rw [q] at q2; exact .inr (.inr ⟨it, hm, q2⟩)
set_option maxRecDepth 100000 in
set_option maxHeartbeats 2000000 in
theorem Set_gone (H : HpM A w h v t N c) (hA : A.Ok) (x : Th) {k : Nat} {it : It Th} (hb : Blk w it.p 110 (icl it k)) (hn : ∀ a, a ∈ t → a.p ≠ it.p) :
    Calls Try.prog 25 #[ptr h, ptr it.p, .int .i64 x.k] w fun e w' => e = .returned (.int .i64 111) ∧ HpM A w' h v t N c ∧ Fr w w' (fun _ => False) := by
  have hh := has_no H hA hb hn
  clear H hA hb hn
  go_enter Try.func25, Try.ntmps25
  go_wp2_with (go_at_call 54; fail)
  refine hh.mono ?_
  rintro e w2 ⟨rfl, hm2, hf2⟩
  have HX : Hid (HpM A w2 h v t N c ∧ Fr w w2 (fun _ => False)) := ⟨hm2, hf2⟩
  clear hm2 hf2 hh
  go_wp2
  first | go_ret | go_ret2
  exact ⟨rfl, HX.out⟩
set_option maxRecDepth 100000 in
set_option maxHeartbeats 2000000 in
theorem Set_yes (H : HpM A w h v t N c) (hA : A.Ok) (x : Th) {k : Nat} {it : It Th} (hk : t[k]? = some it) :
    Calls Try.prog 25 #[ptr h, ptr it.p, .int .i64 x.k] w fun e w' => e = .returned (.int .i64 0) ∧ HpM A w' h v (setlL A.lt (t.set k { it with x := x }) k) N (c + setlN A.lt (t.set k { it with x := x }) k) ∧ Fr w w' (fun b => ownH h v t b ∨ A.ex b) := by
  have hkl := get_lt hk
  have hm := List.mem_of_getElem? hk
  have HO : Hid A.Ok := hA
  have HK : Hid (t[k]? = some it) := hk
  have HM0 : Hid (HpM A w h v t N c) := H
  have HNE : Hid (ownH h v t it.p) := .inr (.inr ⟨it, hm, rfl⟩)
  have HSL : Hid (∀ b, ownH h v (t.set k { it with x := x }) b → ownH h v t b) := fun b hb => by
    rcases hb with q | q | ⟨a, q1, q2⟩
    · exact .inl q
    · exact .inr (.inl q)
    · rcases List.mem_or_eq_of_mem_set q1 with q | q
      · exact .inr (.inr ⟨a, q, q2⟩)
      · rw [q] at q2; exact .inr (.inr ⟨it, hm, q2⟩)
  have HAT : Hid ((t.set k { it with x := x })[k]? = some { it with x := x }) := by show (t.set k { it with x := x })[k]? = _; rw [List.getElem?_set, if_pos rfl, if_pos hkl]
  generalize hT : t.set k { it with x := x } = T at *
  generalize hRL : setlL A.lt T k = RL at *
  generalize hRN : setlN A.lt T k = RN at *
  have HRR : Hid (setlL A.lt T k = RL ∧ setlN A.lt T k = RN ∧ t.set k { it with x := x } = T) := ⟨hRL, hRN, hT⟩
  clear H hA hk hm hRL hRN hT
  go_enter Try.func25, Try.ntmps25
  go_wp2_with (go_at_call 54; fail)
  refine (has_yes HM0.out HO.out HK.out).mono ?_
  rintro e w2 ⟨rfl, hm2, hf2⟩
  have HX2 : Hid (HpM A w2 h v t N c ∧ Fr w w2 (fun _ => False)) := ⟨hm2, hf2⟩
  clear hm2 hf2 HM0
  obtain ⟨a0, _, _, _⟩ := HX2.out.1.at HK.out
  have f0 := (HX2.out.1.its k it HK.out).frozen 0
  have hsx := HX2.out.1.setx HO.out HK.out x
  rw [HRR.out.2.2] at hsx
  have HSX : Hid (HpM A (w2.setCell ⟨it.p, 0, none⟩ (.int .i64 x.k)) h v T N c ∧ Fr w2 (w2.setCell ⟨it.p, 0, none⟩ (.int .i64 x.k)) (fun b => b = it.p)) := hsx
  clear hsx
  go_wp2_with (go_at_call 53; fail)
  refine (settle_any HSX.out.1 HO.out HAT.out).mono ?_
  rintro e w5 ⟨rfl, hm5, hf5⟩
  have HX5 : Hid (HpM A w5 h v RL N (c + RN) ∧ Fr w w5 (fun b => ownH h v t b ∨ A.ex b)) := by
    refine ⟨?_, (HX2.out.2.trans HSX.out.2 (e3 := fun b => ownH h v t b ∨ A.ex b) fun b _ q => ?_).trans hf5 fun b _ q => ?_⟩
    · have := hm5; rw [HRR.out.1, HRR.out.2.1] at this; exact this
    · rcases q with q | q
      · exact q.elim
      · rw [q]; exact .inl HNE.out
    · rcases q with q | q | q
      · exact q
      · exact .inl (HSL.out b q)
      · exact .inr q
  clear hm5 hf5
  go_wp2
  first | go_ret | go_ret2
  exact ⟨rfl, HX5.out⟩
end
end Go.Proofs.Ytdnhhcbabdoomaa.I
