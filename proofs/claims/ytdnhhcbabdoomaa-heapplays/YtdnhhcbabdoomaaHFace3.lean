/-
  heap: Remove, Set.
-/
import Derived.Test.YtdnhhcbabdoomaaHFace2
namespace Go.Proofs.Ytdnhhcbabdoomaa
set_option linter.unusedVariables false
set_option linter.unusedSimpArgs false
open Go.RowKit Go.Great

section
variable {A : Ask} {w w' : World} {h : Nat} {v : Value} {t L : List (It Th)} {N c : Nat}
theorem HpM.alloc (H : HpM A w h v t N c) (hA : A.Ok) (o : Obj) : HpM A (w.alloc o) h v t N c :=
  H.fr (Fr.alloc w o (fun _ => False)) (fun _ _ q => q) (hA.keep H.st (Fr.alloc w o (fun _ => False)) fun _ q => q.elim)
/-- What is done to the tree when an item is taken away. -/
def remL (lt : Th → Th → Bool) (t : List (It Th)) (k : Nat) : List (It Th) := if k + 1 = t.length then t.dropLast else setlL lt (cutL t k) k
def remN (lt : Th → Th → Bool) (t : List (It Th)) (k : Nat) : Nat := if k + 1 = t.length then 0 else setlN lt (cutL t k) k
def fwB (rb : Nat) (e : Nat → Prop) (b : Nat) : Prop := e b ∨ b = rb
set_option maxRecDepth 100000 in
set_option maxHeartbeats 2000000 in
theorem Remove_yes (H : HpM A w h v t N c) (hA : A.Ok) {k : Nat} {it : It Th} (hk : t[k]? = some it) :
    Calls Try.prog 16 #[ptr h, ptr it.p] w fun e w' => e = .returned (.tuple #[.agg #[.int .i64 it.x.k, .int .i64 it.x.g], .int .i64 0]) ∧
      (∃ v', HpM A w' h v' (remL A.lt t k) N (c + remN A.lt t k) ∧ v'.ownBlock = v.ownBlock) ∧ Blk w' it.p 100 (icl it k) ∧ Fr w w' (fun b => ownH h v t b ∨ A.ex b) := by
  have hkl := get_lt hk
  obtain ⟨n, hn⟩ : ∃ n, t.length = n + 1 := ⟨t.length - 1, by omega⟩
  obtain ⟨g, off, cap, hv, h1, h2, h3, h4, h5⟩ := H.slice (by omega)
  obtain ⟨last, hl⟩ := get_some t (show n < t.length by omega)
  have HO : Hid A.Ok := hA
  have HB0 : Hid (Blk (w.alloc (.cells #[.int .i64 0, .int .i64 0] 30)) w.heap.size 30 #[.int .i64 0, .int .i64 0]) := Blk.new _ _ _
  have HF0 : Hid (Fr w (w.alloc (.cells #[.int .i64 0, .int .i64 0] 30)) (fun _ => False)) := Fr.alloc _ _ _
  have HM0 : Hid (HpM A (w.alloc (.cells #[.int .i64 0, .int .i64 0] 30)) h v t N c) := H.alloc hA _
  have hown : ∀ b, ownH h v t b → b ≠ w.heap.size := fun b hb => Nat.ne_of_lt (H.lt hb)
  have hexn : ¬ A.ex w.heap.size := fun q => by have := hA.low H.st q; omega
  have HA0 : Hid ((∀ b, ownH h v t b → b ≠ w.heap.size) ∧ ¬ A.ex w.heap.size ∧ (∀ b, ownH h v t b → ¬ A.ex b)) := ⟨hown, hexn, H.ap⟩
  have hm := List.mem_of_getElem? hk
  have hml := List.mem_of_getElem? hl
  have HI : Hid (t[k]? = some it ∧ t[n]? = some last ∧ (it.p ≠ g ∧ it.p ≠ h) ∧ (last.p ≠ g ∧ last.p ≠ h) ∧ ownH h v t it.p ∧ ownH h v t last.p ∧ ownH h v t g ∧ (k ≠ n → it.p ≠ last.p) ∧ v = .slice (some ⟨g, off, none⟩) t.length cap) :=
    ⟨hk, hl, h3 it hm, h3 last hml, .inr (.inr ⟨it, hm, rfl⟩), .inr (.inr ⟨last, hml, rfl⟩), .inr (.inl (by rw [hv]; rfl)), fun q => pw_ne H.ne hk hl q, hv⟩
  have HR : Hid (remL A.lt t k = (if k + 1 = t.length then t.dropLast else setlL A.lt (cutL t k) k) ∧ remN A.lt t k = (if k + 1 = t.length then 0 else setlN A.lt (cutL t k) k)) := ⟨rfl, rfl⟩
  have HPW : Hid (t.Pairwise fun a b => a.p ≠ b.p) := H.ne
  generalize remL A.lt t k = RL at *
  generalize remN A.lt t k = RN at *
  clear H hA h1 h2 h3 h4 h5 hm hml hown hexn hv hk hl
  generalize hrb : w.heap.size = rb at *
  go_enter Try.func16, Try.ntmps16
  go_wp2_with (go_at_call 50; fail)
  refine (has_yes HM0.out HO.out HI.out.1).mono ?_
  rintro e w2 ⟨rfl, hm2, hf2⟩
  have HX2 : Hid (HpM A w2 h v t N c ∧ Fr w w2 (fun _ => False) ∧ Blk w2 rb 30 #[.int .i64 0, .int .i64 0]) := ⟨hm2, HF0.out.trans hf2 fun _ _ q => by rcases q with q | q <;> exact q, HB0.out.fr hf2 (fun q => q)⟩
  clear hm2 hf2 HM0 HF0 HB0
  go_wp2_with (go_at_call 51; fail)
  refine (cutLast_any HX2.out.1 HO.out hn HI.out.2.1 HI.out.2.2.2.2.2.2.2.2).mono ?_
  rintro e w3 ⟨rfl, hm3, hf3⟩
  have hgrb : g ≠ rb := HA0.out.1 g HI.out.2.2.2.2.2.2.1
  have hhrb : h ≠ rb := HA0.out.1 h (.inl rfl)
  have HX3 : Hid (HpM A w3 h (.slice (some ⟨g, off, none⟩) n cap) t.dropLast N c ∧ Fr w w3 (fun b => ownH h v t b ∨ A.ex b) ∧ Blk w3 rb 30 #[.int .i64 0, .int .i64 0] ∧ Blk w3 it.p 100 (icl it k) ∧ Blk w3 last.p 100 (icl last n)) :=
    ⟨hm3, HX2.out.2.1.trans hf3 (fun b _ q => by
      rcases q with q | q | q
      · exact q.elim
      · exact .inl (.inl q)
      · rw [q]; exact .inl HI.out.2.2.2.2.2.2.1), HX2.out.2.2.fr hf3 (fun q => by rcases q with q | q; exact hhrb q.symm; exact hgrb q.symm),
      (HX2.out.1.its k it HI.out.1).fr hf3 (fun q => by rcases q with q | q; exact HI.out.2.2.1.2 q; exact HI.out.2.2.1.1 q),
      (HX2.out.1.its n last HI.out.2.1).fr hf3 (fun q => by rcases q with q | q; exact HI.out.2.2.2.1.2 q; exact HI.out.2.2.2.1.1 q)⟩
  clear hm3 hf3 HX2
  have FIN : ∀ w5 v', Hid (HpM A w5 h v' RL N (c + RN) ∧ v'.ownBlock = v.ownBlock ∧ Fr w w5 (fun b => ownH h v t b ∨ A.ex b) ∧ Blk w5 rb 30 #[.int .i64 0, .int .i64 0] ∧ Blk w5 it.p 100 (icl it k)) →
      Hid (Blk ((w5.setCell ⟨rb, 0, none⟩ (.int .i64 it.x.k)).setCell ⟨rb, 1, none⟩ (.int .i64 it.x.g)) rb 30 #[.int .i64 it.x.k, .int .i64 it.x.g] ∧ (∃ v', HpM A ((w5.setCell ⟨rb, 0, none⟩ (.int .i64 it.x.k)).setCell ⟨rb, 1, none⟩ (.int .i64 it.x.g)) h v' RL N (c + RN) ∧ v'.ownBlock = v.ownBlock) ∧ Blk ((w5.setCell ⟨rb, 0, none⟩ (.int .i64 it.x.k)).setCell ⟨rb, 1, none⟩ (.int .i64 it.x.g)) it.p 100 (icl it k) ∧ Fr w ((w5.setCell ⟨rb, 0, none⟩ (.int .i64 it.x.k)).setCell ⟨rb, 1, none⟩ (.int .i64 it.x.g)) (fun b => ownH h v t b ∨ A.ex b)) := by
    intro w5 v' HQ
    obtain ⟨q1, q2, q3, q4, q5⟩ := HQ
    have F : Fr w5 ((w5.setCell ⟨rb, 0, none⟩ (.int .i64 it.x.k)).setCell ⟨rb, 1, none⟩ (.int .i64 it.x.g)) (fun b => b = rb) := (Fr.setCell _ ⟨rb, 0, none⟩ _ (fun b => b = rb) rfl).trans (Fr.setCell _ ⟨rb, 1, none⟩ _ (fun b => b = rb) rfl) (fun _ _ q => by rcases q with q | q <;> exact q)
    have hrem : ∀ a, a ∈ RL → a ∈ t := by
      intro a ha
      rw [HR.out.1] at ha
      split at ha
      · exact List.dropLast_subset _ ha
      · have hc : k < (cutL t k).length := by rw [cutL_len hkl]; omega
        have h6 := (setlL_perm (lt := A.lt) (cutL t k) k hc).mem_iff.1 ha
        exact (cutL_perm HI.out.1).mem_iff.2 (List.mem_cons_of_mem _ h6)
    have hno : ∀ b, ownH h v' RL b → b ≠ rb := fun b hb => HA0.out.1 b (by
      rcases hb with q | q | ⟨a, r1, r2⟩
      · exact .inl q
      · rw [q2] at q; exact .inr (.inl q)
      · exact .inr (.inr ⟨a, hrem a r1, r2⟩))
    refine ⟨(q4.set 0 _).set 1 _, ⟨v', q1.fr F hno (HO.out.keep q1.st F fun b q => by rw [q]; exact HA0.out.2.1), q2⟩, q5.fr F (HA0.out.1 _ HI.out.2.2.2.2.1), q3.trans F fun b hb q => by
      rcases q with q | q
      · exact q
      · omega⟩
  by_cases hkn : k = n
  · have hlast : last = it := by have a := HI.out.1; have b := HI.out.2.1; rw [hkn] at a; rw [a] at b; injection b with b; exact b.symm
    subst hlast
    have hpq := ptr_same' last.p
    have HF := FIN w3 (.slice (some ⟨g, off, none⟩) n cap) (by
      obtain ⟨q1, q2, q3, q4, q5⟩ := HX3.out
      refine ⟨?_, by rw [HI.out.2.2.2.2.2.2.2.2]; rfl, q2, q3, q4⟩
      rw [HR.out.1, HR.out.2, if_pos (by omega), if_pos (by omega)]; exact q1)
    have a0 : w3.cell? ⟨last.p, 0, none⟩ = some (.int .i64 last.x.k) := HX3.out.2.2.2.1.cell 0
    have a1 : w3.cell? ⟨last.p, 1, none⟩ = some (.int .i64 last.x.g) := HX3.out.2.2.2.1.cell 1
    have r0 : w3.cell? ⟨rb, 0, none⟩ = some (.int .i64 0) := HX3.out.2.2.1.cell 0
    have r1 : w3.cell? ⟨rb, 1, none⟩ = some (.int .i64 0) := HX3.out.2.2.1.cell 1
    have f0 := HX3.out.2.2.1.frozen 0
    have f1 := HX3.out.2.2.1.frozen 1
    clear FIN HR hgrb hhrb
    go_wp2
    refine bodyPost_ret (results_cr2 (fn := Try.f16) (p := 4) (u := 5) (ty := 30) rfl _ _ rb 30 #[.int .i64 last.x.k, .int .i64 last.x.g] (0, 0) _ (by rfl) HF.out.1 Try.underlying30 rfl (by kernel_rfl)) (by rfl) ?_
    exact ⟨rfl, HF.out.2⟩
  · have hkn' : k < n := by omega
    have hdl : t.dropLast.length = n := by rw [List.length_dropLast]; omega
    have hpq := ptr_other' HX3.out.2.2.2.2 HX3.out.2.2.2.1 (fun e => HI.out.2.2.2.2.2.2.2.1 hkn e.symm)
    have hcm : cutL t k = t.dropLast.set k last := cutL_mid (by omega) (by rw [hn, Nat.add_sub_cancel]; exact HI.out.2.1)
    have hnm : ∀ a, a ∈ t.dropLast → a.p ≠ last.p := by
      intro a ha
      obtain ⟨i, hi⟩ := List.mem_iff_getElem?.1 ha
      have hil := get_lt hi
      rw [List.getElem?_dropLast] at hi
      split at hi
      · exact pw_ne HPW.out hi HI.out.2.1 (by omega)
      · cases hi
    have HP := HX3.out.1.put HO.out (k := k) (by omega) HX3.out.2.2.2.2 hnm (HA0.out.2.2 _ HI.out.2.2.2.2.2.1) (g := g) (off := off) (cap := cap) (by rw [hdl])
    rw [← hcm] at HP
    obtain ⟨g', off', cap', hv', _, _, _, s4, s5⟩ := HX3.out.1.slice (by omega)
    injection hv' with e1 _ e2
    injection e1 with e1
    injection e1 with e1 e3 _
    subst e1 e2 e3
    obtain ⟨b, hb⟩ := get_some t.dropLast (show k < t.dropLast.length by omega)
    have hput := put_any (w := w3) (h := h) (p := last.p) (k := k) (z := (k : Int)) rfl hkn' HX3.out.1.hd.2.1 (s4 k b hb) (HX3.out.2.2.2.2.cell 3) (s5 _) (HX3.out.2.2.2.2.frozen 3) HI.out.2.2.2.1.1
    have HAT : Hid ((cutL t k)[k]? = some last) := by show (cutL t k)[k]? = some last; rw [hcm, List.getElem?_set, if_pos rfl, if_pos (by omega)]
    have HS := settle_any HP.1 HO.out HAT.out
    have a3 : w3.cell? ⟨it.p, 3, none⟩ = some (.int .i64 (k : Int)) := HX3.out.2.2.2.1.cell 3
    have HFP : Hid (Fr w3 ((w3.setCell ⟨g, off + k, none⟩ (ptr last.p)).setCell ⟨last.p, 3, none⟩ (.int .i64 (k : Int))) (fun b => b = g ∨ b = last.p)) := HP.2
    clear HP s4 s5 hb hnm hdl
    go_wp2_with (go_at_call 52; fail)
    refine hput.mono ?_
    rintro e w4 ⟨rfl, rfl⟩
    clear hput
    generalize (w3.setCell ⟨g, off + k, none⟩ (ptr last.p)).setCell ⟨last.p, 3, none⟩ (.int .i64 (k : Int)) = w4 at *
    go_wp2_with (go_at_call 46; fail)
    refine HS.mono ?_
    rintro e w5 ⟨rfl, hm5, hf5⟩
    clear HS
    have hsub : ∀ b, ownH h (.slice (some ⟨g, off, none⟩) n cap) (cutL t k) b → ownH h v t b ∧ b ≠ it.p := fun b hb => by
      rcases hb with q | q | ⟨a, q1, q2⟩
      · exact ⟨.inl q, fun e => HI.out.2.2.1.2 (e ▸ q)⟩
      · have : g = b := own_slice rfl q
        exact ⟨this ▸ HI.out.2.2.2.2.2.2.1, fun e => HI.out.2.2.1.1 (by omega)⟩
      · have hpm := cutL_perm HI.out.1
        refine ⟨.inr (.inr ⟨a, hpm.mem_iff.2 (List.mem_cons_of_mem _ q1), q2⟩), fun e => ?_⟩
        have pw := (hpm.pairwise_iff (fun {x y} hxy => Ne.symm hxy)).1 HPW.out
        exact (List.pairwise_cons.1 pw).1 a q1 (by omega)
    have HX5 : Hid (HpM A w5 h (.slice (some ⟨g, off, none⟩) n cap) RL N (c + RN) ∧ (Value.slice (some ⟨g, off, none⟩) n cap).ownBlock = v.ownBlock ∧ Fr w w5 (fun b => ownH h v t b ∨ A.ex b) ∧ Blk w5 rb 30 #[.int .i64 0, .int .i64 0] ∧ Blk w5 it.p 100 (icl it k)) := by
      obtain ⟨q1, q2, q3, q4, q5⟩ := HX3.out
      refine ⟨?_, by rw [HI.out.2.2.2.2.2.2.2.2]; rfl, (q2.trans HFP.out (e3 := fun b => ownH h v t b ∨ A.ex b) fun b _ q => ?_).trans hf5 fun b _ q => ?_, (q3.fr HFP.out ?_).fr hf5 ?_, (q4.fr HFP.out ?_).fr hf5 ?_⟩
      · rw [HR.out.1, HR.out.2, if_neg (by omega), if_neg (by omega)]; exact hm5
      · rcases q with q | q | q
        · exact q
        · rw [q]; exact .inl HI.out.2.2.2.2.2.2.1
        · rw [q]; exact .inl HI.out.2.2.2.2.2.1
      · rcases q with q | q | q
        · exact q
        · exact .inl (hsub b q).1
        · exact .inr q
      · intro q
        rcases q with q | q
        · exact hgrb q.symm
        · exact HA0.out.1 _ HI.out.2.2.2.2.2.1 q.symm
      · intro q
        rcases q with q | q
        · exact HA0.out.1 _ (hsub _ q).1 rfl
        · exact HA0.out.2.1 q
      · intro q
        rcases q with q | q
        · exact HI.out.2.2.1.1 q
        · exact HI.out.2.2.2.2.2.2.2.1 hkn q
      · intro q
        rcases q with q | q
        · exact (hsub _ q).2 rfl
        · exact HA0.out.2.2 _ HI.out.2.2.2.2.1 q
    have HF := FIN w5 _ HX5
    have a0 : w5.cell? ⟨it.p, 0, none⟩ = some (.int .i64 it.x.k) := HX5.out.2.2.2.2.cell 0
    have a1 : w5.cell? ⟨it.p, 1, none⟩ = some (.int .i64 it.x.g) := HX5.out.2.2.2.2.cell 1
    have r0 : w5.cell? ⟨rb, 0, none⟩ = some (.int .i64 0) := HX5.out.2.2.2.1.cell 0
    have r1 : w5.cell? ⟨rb, 1, none⟩ = some (.int .i64 0) := HX5.out.2.2.2.1.cell 1
    have f0 := HX5.out.2.2.2.1.frozen 0
    have f1 := HX5.out.2.2.2.1.frozen 1
    clear FIN HR hgrb hhrb HX5 hsub hm5 hf5 a3 hpq
    go_wp2
    refine bodyPost_ret (results_cr2 (fn := Try.f16) (p := 4) (u := 5) (ty := 30) rfl _ _ rb 30 #[.int .i64 it.x.k, .int .i64 it.x.g] (0, 0) _ (by rfl) HF.out.1 Try.underlying30 rfl (by kernel_rfl)) (by rfl) ?_
    exact ⟨rfl, HF.out.2⟩
end
end Go.Proofs.Ytdnhhcbabdoomaa
