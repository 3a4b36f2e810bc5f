/-
  heap of numbers: Remove, Set.
-/
import Derived.Test.YtdnhhcbabdoomaaHIFace2
namespace Go.Proofs.Ytdnhhcbabdoomaa.I
set_option linter.unusedVariables false
set_option linter.unusedSimpArgs false
open Go.RowKit Go.Great

section
variable {A : Ask} {w w' : World} {h : Nat} {v : Value} {t L : List (It Th)} {N c : Nat}
theorem HpM.alloc (H : HpM A w h v t N c) (hA : A.Ok) (o : Obj) : HpM A (w.alloc o) h v t N c :=
  H.fr (Fr.alloc w o (fun _ => False)) (fun _ _ q => q) (hA.keep H.st (Fr.alloc w o (fun _ => False)) fun _ q => q.elim)
/-- What is done to the tree when an item is taken away. -/
def remL (lt : Th → Th → Bool) (t : List (It Th)) (k : Nat) : List (It Th) := if k + 1 = t.length then t.dropLast else setlL lt (cutL t k) k
def remN (lt : Th → Th → Bool) (t : List (It Th)) (k : Nat) : Nat := if k + 1 = t.length then 0 else setlN lt (cutL t k) k
set_option maxRecDepth 100000 in
set_option maxHeartbeats 2000000 in
theorem Remove_yes (H : HpM A w h v t N c) (hA : A.Ok) {k : Nat} {it : It Th} (hk : t[k]? = some it) :
    Calls Try.prog 24 #[ptr h, ptr it.p] w fun e w' => e = .returned (.tuple #[.int .i64 it.x.k, .int .i64 0]) ∧
      (∃ v', HpM A w' h v' (remL A.lt t k) N (c + remN A.lt t k) ∧ v'.ownBlock = v.ownBlock) ∧ Blk w' it.p 110 (icl it k) ∧ Fr w w' (fun b => ownH h v t b ∨ A.ex b) := by
  have hkl := get_lt hk
  obtain ⟨n, hn⟩ : ∃ n, t.length = n + 1 := ⟨t.length - 1, by omega⟩
  obtain ⟨g, off, cap, hv, h1, h2, h3, h4, h5⟩ := H.slice (by omega)
  obtain ⟨last, hl⟩ := get_some t (show n < t.length by omega)
  have HO : Hid A.Ok := hA
  have HM0 : Hid (HpM A w h v t N c) := H
  have HA0 : Hid (∀ b, ownH h v t b → ¬ A.ex b) := H.ap
  have hm := List.mem_of_getElem? hk
  have hml := List.mem_of_getElem? hl
  have HI : Hid (t[k]? = some it ∧ t[n]? = some last ∧ (it.p ≠ g ∧ it.p ≠ h) ∧ (last.p ≠ g ∧ last.p ≠ h) ∧ ownH h v t it.p ∧ ownH h v t last.p ∧ ownH h v t g ∧ (k ≠ n → it.p ≠ last.p) ∧ v = .slice (some ⟨g, off, none⟩) t.length cap) :=
    ⟨hk, hl, h3 it hm, h3 last hml, .inr (.inr ⟨it, hm, rfl⟩), .inr (.inr ⟨last, hml, rfl⟩), .inr (.inl (by rw [hv]; rfl)), fun q => pw_ne H.ne hk hl q, hv⟩
  have HR : Hid (remL A.lt t k = (if k + 1 = t.length then t.dropLast else setlL A.lt (cutL t k) k) ∧ remN A.lt t k = (if k + 1 = t.length then 0 else setlN A.lt (cutL t k) k)) := ⟨rfl, rfl⟩
  have HPW : Hid (t.Pairwise fun a b => a.p ≠ b.p) := H.ne
  generalize remL A.lt t k = RL at *
  generalize remN A.lt t k = RN at *
  clear H hA h1 h2 h3 h4 h5 hm hml hv hk hl
  go_enter Try.func24, Try.ntmps24
  go_wp2_with (go_at_call 54; fail)
  refine (has_yes HM0.out HO.out HI.out.1).mono ?_
  rintro e w2 ⟨rfl, hm2, hf2⟩
  have HX2 : Hid (HpM A w2 h v t N c ∧ Fr w w2 (fun _ => False)) := ⟨hm2, hf2⟩
  clear hm2 hf2 HM0
  go_wp2_with (go_at_call 55; fail)
  refine (cutLast_any HX2.out.1 HO.out hn HI.out.2.1 HI.out.2.2.2.2.2.2.2.2).mono ?_
  rintro e w3 ⟨rfl, hm3, hf3⟩
  have HX3 : Hid (HpM A w3 h (.slice (some ⟨g, off, none⟩) n cap) t.dropLast N c ∧ Fr w w3 (fun b => ownH h v t b ∨ A.ex b) ∧ Blk w3 it.p 110 (icl it k) ∧ Blk w3 last.p 110 (icl last n)) :=
    ⟨hm3, HX2.out.2.trans hf3 (fun b _ q => by
      rcases q with q | q | q
      · exact q.elim
      · exact .inl (.inl q)
      · rw [q]; exact .inl HI.out.2.2.2.2.2.2.1),
      (HX2.out.1.its k it HI.out.1).fr hf3 (fun q => by rcases q with q | q; exact HI.out.2.2.1.2 q; exact HI.out.2.2.1.1 q),
      (HX2.out.1.its n last HI.out.2.1).fr hf3 (fun q => by rcases q with q | q; exact HI.out.2.2.2.1.2 q; exact HI.out.2.2.2.1.1 q)⟩
  clear hm3 hf3 HX2
  by_cases hkn : k = n
  · have hlast : last = it := by have a := HI.out.1; have b := HI.out.2.1; rw [hkn] at a; rw [a] at b; injection b with b; exact b.symm
    subst hlast
    have hpq := ptr_same' last.p
    have HF : Hid ((∃ v', HpM A w3 h v' RL N (c + RN) ∧ v'.ownBlock = v.ownBlock) ∧ Blk w3 last.p 110 (icl last k) ∧ Fr w w3 (fun b => ownH h v t b ∨ A.ex b)) := by
      obtain ⟨q1, q2, q4, q5⟩ := HX3.out
      refine ⟨⟨.slice (some ⟨g, off, none⟩) n cap, ?_, by rw [HI.out.2.2.2.2.2.2.2.2]; rfl⟩, q4, q2⟩
      rw [HR.out.1, HR.out.2, if_pos (by omega), if_pos (by omega)]; exact q1
    have a0 : w3.cell? ⟨last.p, 0, none⟩ = some (.int .i64 last.x.k) := HX3.out.2.2.1.cell 0
    clear HR HX3
    go_wp2
    first | go_ret | go_ret2
    exact ⟨rfl, HF.out⟩
  · have hkn' : k < n := by omega
    have hdl : t.dropLast.length = n := by rw [List.length_dropLast]; omega
    have hpq := ptr_other' HX3.out.2.2.2 HX3.out.2.2.1 (fun e => HI.out.2.2.2.2.2.2.2.1 hkn e.symm)
    have hcm : cutL t k = t.dropLast.set k last := cutL_mid (by omega) (by rw [hn, Nat.add_sub_cancel]; exact HI.out.2.1)
    have hnm : ∀ a, a ∈ t.dropLast → a.p ≠ last.p := by
      intro a ha
      obtain ⟨i, hi⟩ := List.mem_iff_getElem?.1 ha
      have hil := get_lt hi
      rw [List.getElem?_dropLast] at hi
      split at hi
      · exact pw_ne HPW.out hi HI.out.2.1 (by omega)
      · cases hi
    have HP := HX3.out.1.put HO.out (k := k) (by omega) HX3.out.2.2.2 hnm (HA0.out _ HI.out.2.2.2.2.2.1) (g := g) (off := off) (cap := cap) (by rw [hdl])
    rw [← hcm] at HP
    obtain ⟨g', off', cap', hv', _, _, _, s4, s5⟩ := HX3.out.1.slice (by omega)
    injection hv' with e1 _ e2
    injection e1 with e1
    injection e1 with e1 e3 _
    subst e1 e2 e3
    obtain ⟨b, hb⟩ := get_some t.dropLast (show k < t.dropLast.length by omega)
    have hput := put_any (w := w3) (h := h) (p := last.p) (k := k) (z := (k : Int)) rfl hkn' HX3.out.1.hd.2.1 (s4 k b hb) (HX3.out.2.2.2.cell 2) (s5 _) (HX3.out.2.2.2.frozen 2) HI.out.2.2.2.1.1
    have HAT : Hid ((cutL t k)[k]? = some last) := by show (cutL t k)[k]? = some last; rw [hcm, List.getElem?_set, if_pos rfl, if_pos (by omega)]
    have HS := settle_any HP.1 HO.out HAT.out
    have a3 : w3.cell? ⟨it.p, 2, none⟩ = some (.int .i64 (k : Int)) := HX3.out.2.2.1.cell 2
    have HFP : Hid (Fr w3 ((w3.setCell ⟨g, off + k, none⟩ (ptr last.p)).setCell ⟨last.p, 2, none⟩ (.int .i64 (k : Int))) (fun b => b = g ∨ b = last.p)) := HP.2
    clear HP s4 s5 hb hnm hdl
    go_wp2_with (go_at_call 56; fail)
    refine hput.mono ?_
    rintro e w4 ⟨rfl, rfl⟩
    clear hput
    generalize (w3.setCell ⟨g, off + k, none⟩ (ptr last.p)).setCell ⟨last.p, 2, none⟩ (.int .i64 (k : Int)) = w4 at *
    go_wp2_with (go_at_call 53; fail)
    refine HS.mono ?_
    rintro e w5 ⟨rfl, hm5, hf5⟩
    clear HS
    have hsub : ∀ b, ownH h (.slice (some ⟨g, off, none⟩) n cap) (cutL t k) b → ownH h v t b ∧ b ≠ it.p := fun b hb => by
      rcases hb with q | q | ⟨a, q1, q2⟩
      · exact ⟨.inl q, fun e => HI.out.2.2.1.2 (e ▸ q)⟩
      · have : g = b := own_slice rfl q
        exact ⟨this ▸ HI.out.2.2.2.2.2.2.1, fun e => HI.out.2.2.1.1 (by omega)⟩
      · have hpm := cutL_perm HI.out.1
        refine ⟨.inr (.inr ⟨a, hpm.mem_iff.2 (List.mem_cons_of_mem _ q1), q2⟩), fun e => ?_⟩
        have pw := (hpm.pairwise_iff (fun {x y} hxy => Ne.symm hxy)).1 HPW.out
        exact (List.pairwise_cons.1 pw).1 a q1 (by omega)
    have HX5 : Hid ((∃ v', HpM A w5 h v' RL N (c + RN) ∧ v'.ownBlock = v.ownBlock) ∧ Blk w5 it.p 110 (icl it k) ∧ Fr w w5 (fun b => ownH h v t b ∨ A.ex b)) := by
      obtain ⟨q1, q2, q4, q5⟩ := HX3.out
      refine ⟨⟨.slice (some ⟨g, off, none⟩) n cap, ?_, by rw [HI.out.2.2.2.2.2.2.2.2]; rfl⟩, (q4.fr HFP.out ?_).fr hf5 ?_, (q2.trans HFP.out (e3 := fun b => ownH h v t b ∨ A.ex b) fun b _ q => ?_).trans hf5 fun b _ q => ?_⟩
      · rw [HR.out.1, HR.out.2, if_neg (by omega), if_neg (by omega)]; exact hm5
      · intro q
        rcases q with q | q
        · exact HI.out.2.2.1.1 q
        · exact HI.out.2.2.2.2.2.2.2.1 hkn q
      · intro q
        rcases q with q | q
        · exact (hsub _ q).2 rfl
        · exact HA0.out _ HI.out.2.2.2.2.1 q
      · rcases q with q | q | q
        · exact q
        · rw [q]; exact .inl HI.out.2.2.2.2.2.2.1
        · rw [q]; exact .inl HI.out.2.2.2.2.2.1
      · rcases q with q | q | q
        · exact q
        · exact .inl (hsub b q).1
        · exact .inr q
    have a0 : w5.cell? ⟨it.p, 0, none⟩ = some (.int .i64 it.x.k) := HX5.out.2.1.cell 0
    clear HR hsub hm5 hf5 a3 hpq HX3 HFP
    go_wp2
    first | go_ret | go_ret2
    exact ⟨rfl, HX5.out⟩
end
end Go.Proofs.Ytdnhhcbabdoomaa.I
