/-
  heap: Pop, Peek; all that can be done, by what is in the heap.
-/
import Derived.Test.YtdnhhcbabdoomaaHFace5
namespace Go.Proofs.Ytdnhhcbabdoomaa
set_option linter.unusedVariables false
set_option linter.unusedSimpArgs false
open Go.RowKit Go.Great

section
variable {A : Ask} {w w' : World} {h : Nat} {v : Value} {t L : List (It Th)} {N c : Nat}
set_option maxRecDepth 100000 in
set_option maxHeartbeats 2000000 in
theorem Pop_none (H : HpM A w h v [] N c) (hA : A.Ok) :
    Calls Try.prog 14 #[ptr h] w fun e w' => e = .returned (.tuple #[.agg #[.int .i64 0, .int .i64 0], .int .i64 110]) ∧ HpM A w' h v [] N c ∧ Fr w w' (fun _ => False) := by
  have HH : Hid (HpM A w h v [] N c ∧ A.Ok) := ⟨H, hA⟩
  have F1 : Fr w (w.alloc (.cells #[.int .i64 0, .int .i64 0] 30)) (fun _ => False) := Fr.alloc _ _ _
  obtain ⟨ao, cap, hvf, hcap⟩ := H.form
  have d1 : (w.alloc (.cells #[.int .i64 0, .int .i64 0] 30)).cell? ⟨h, 1, none⟩ = some v := F1.cell H.hd.2.1 (fun q => q)
  have d1o := H.hd.2.1
  subst hvf
  have hlt : h < w.heap.size := H.blk.lt
  clear H hA F1 hcap
  have hne : h ≠ w.heap.size := by omega
  go_enter Try.func14, Try.ntmps14
  go_wp2
  refine bodyPost_ret (results_cr2 (fn := Try.f14) (p := 2) (u := 3) (ty := 30) rfl _ _ w.heap.size 30 #[.int .i64 0, .int .i64 0] (0, 0) _ (by rfl) ((Blk.new w _ _).alloc _) Try.underlying30 rfl (by kernel_rfl)) (by rfl) ?_
  exact ⟨rfl, (HH.out.1.alloc HH.out.2 _).alloc HH.out.2 _, (Fr.alloc _ _ (fun _ => False)).trans (Fr.alloc _ _ (fun _ => False)) fun _ _ q => by rcases q with q | q <;> exact q⟩
set_option maxRecDepth 100000 in
set_option maxHeartbeats 2000000 in
theorem Pop_some (H : HpM A w h v t N c) (hA : A.Ok) {it : It Th} (hk : t[0]? = some it) :
    Calls Try.prog 14 #[ptr h] w fun e w' => e = .returned (.tuple #[.agg #[.int .i64 it.x.k, .int .i64 it.x.g], .int .i64 0]) ∧
      (∃ v', HpM A w' h v' (remL A.lt t 0) N (c + remN A.lt t 0) ∧ v'.ownBlock = v.ownBlock) ∧ Blk w' it.p 100 (icl it 0) ∧ Fr w w' (fun b => ownH h v t b ∨ A.ex b) := by
  have hkl := get_lt hk
  have hown : ∀ b, ownH h v t b → b < w.heap.size := fun b hb => H.lt hb
  have hexn : ¬ A.ex w.heap.size := fun q => by have := hA.low H.st q; omega
  have hm := List.mem_of_getElem? hk
  have HA0 : Hid ((∀ b, ownH h v t b → b < w.heap.size) ∧ ¬ A.ex w.heap.size ∧ A.Ok ∧ ownH h v t it.p ∧ ∀ a, a ∈ remL A.lt t 0 → a ∈ t) := ⟨hown, hexn, hA, .inr (.inr ⟨it, hm, rfl⟩), fun a ha => by
    unfold remL at ha
    split at ha
    · exact List.dropLast_subset _ ha
    · have hc : 0 < (cutL t 0).length := by rw [cutL_len hkl]; omega
      have h6 := (setlL_perm (lt := A.lt) (cutL t 0) 0 hc).mem_iff.1 ha
      exact (cutL_perm hk).mem_iff.2 (List.mem_cons_of_mem _ h6)⟩
  have HM0 := H.alloc hA (.cells #[.int .i64 0, .int .i64 0] 30)
  have hr := Remove_yes HM0 hA hk
  obtain ⟨g, off, cap, hv, h1, h2, h3, h4, h5⟩ := HM0.slice (by omega)
  have d1 := HM0.hd.2.1
  have hc := h4 0 it hk
  have HB0 : Hid (Blk (w.alloc (.cells #[.int .i64 0, .int .i64 0] 30)) w.heap.size 30 #[.int .i64 0, .int .i64 0]) := Blk.new _ _ _
  have HF0 : Hid (Fr w (w.alloc (.cells #[.int .i64 0, .int .i64 0] 30)) (fun _ => False)) := Fr.alloc _ _ _
  rw [Nat.add_zero] at hc
  have hV : Hid (v = .slice (some ⟨g, off, none⟩) t.length cap) := hv
  rw [hv] at d1
  have hl1 : ¬ t.length = 0 := by omega
  have hl2 : (0 : Int) < (t.length : Int) := by omega
  have hl3 : 0 < t.length := by omega
  have hne0 : ((t.length : Int) == 0) = false := by rw [beq_eq_false_iff_ne]; omega
  generalize remL A.lt t 0 = RL at *
  generalize remN A.lt t 0 = RN at *
  clear h1 h2 h3 h4 h5 hv HM0 H hA hk hm hown hexn hkl
  generalize hrb : w.heap.size = rb at *
  go_enter Try.func14, Try.ntmps14
  go_upto_region 1 with fail
  generalize w.alloc (.cells #[.int .i64 0, .int .i64 0] 30) = w1 at *
  go_wp2_with (go_at_call 16; fail)
  refine hr.mono ?_
  rintro e w2 ⟨rfl, ⟨v', hm2, hv2⟩, hb2, hf2⟩
  have hrbN : ¬ (ownH h v t rb ∨ A.ex rb) := fun q => by
    rcases q with q | q
    · have := HA0.out.1 rb q; omega
    · exact HA0.out.2.1 q
  have HX : Hid (HpM A w2 h v' RL N (c + RN) ∧ v'.ownBlock = v.ownBlock ∧ Blk w2 it.p 100 (icl it 0) ∧ Fr w w2 (fun b => ownH h v t b ∨ A.ex b) ∧ Blk w2 rb 30 #[.int .i64 0, .int .i64 0]) :=
    ⟨hm2, hv2, hb2, HF0.out.trans hf2 (fun b _ q => by rcases q with q | q; exact q.elim; exact q), HB0.out.fr hf2 hrbN⟩
  clear hm2 hv2 hb2 hf2 hr HB0 HF0 d1 hc
  have r0 : w2.cell? ⟨rb, 0, none⟩ = some (.int .i64 0) := HX.out.2.2.2.2.cell 0
  have r1 : w2.cell? ⟨rb, 1, none⟩ = some (.int .i64 0) := HX.out.2.2.2.2.cell 1
  have f0 := HX.out.2.2.2.2.frozen 0
  have f1 := HX.out.2.2.2.2.frozen 1
  have F : Fr w2 ((w2.setCell ⟨rb, 0, none⟩ (.int .i64 it.x.k)).setCell ⟨rb, 1, none⟩ (.int .i64 it.x.g)) (fun b => b = rb) := (Fr.setCell _ ⟨rb, 0, none⟩ _ (fun b => b = rb) rfl).trans (Fr.setCell _ ⟨rb, 1, none⟩ _ (fun b => b = rb) rfl) (fun _ _ q => by rcases q with q | q <;> exact q)
  have HF : Hid (Blk ((w2.setCell ⟨rb, 0, none⟩ (.int .i64 it.x.k)).setCell ⟨rb, 1, none⟩ (.int .i64 it.x.g)) rb 30 #[.int .i64 it.x.k, .int .i64 it.x.g] ∧ (∃ v', HpM A ((w2.setCell ⟨rb, 0, none⟩ (.int .i64 it.x.k)).setCell ⟨rb, 1, none⟩ (.int .i64 it.x.g)) h v' RL N (c + RN) ∧ v'.ownBlock = v.ownBlock) ∧ Blk ((w2.setCell ⟨rb, 0, none⟩ (.int .i64 it.x.k)).setCell ⟨rb, 1, none⟩ (.int .i64 it.x.g)) it.p 100 (icl it 0) ∧ Fr w ((w2.setCell ⟨rb, 0, none⟩ (.int .i64 it.x.k)).setCell ⟨rb, 1, none⟩ (.int .i64 it.x.g)) (fun b => ownH h v t b ∨ A.ex b)) := by
    obtain ⟨q1, q2, q3, q4, q5⟩ := HX.out
    refine ⟨(q5.set 0 _).set 1 _, ⟨v', q1.fr F (fun b hb e => ?_) (HA0.out.2.2.1.keep q1.st F fun b q => by rw [q]; exact HA0.out.2.1), q2⟩, q3.fr F (fun e => by have := HA0.out.1 _ HA0.out.2.2.2.1; omega), q4.trans F fun b hb q => by
      rcases q with q | q
      · exact q
      · omega⟩
    have hb' : ownH h v t b := by
      rcases hb with q | q | ⟨a, r1, r2⟩
      · exact .inl q
      · rw [q2] at q; exact .inr (.inl q)
      · exact .inr (.inr ⟨a, HA0.out.2.2.2.2 a r1, r2⟩)
    have := HA0.out.1 b hb'
    omega
  clear F hrbN
  go_wp2
  refine bodyPost_ret (results_cr2 (fn := Try.f14) (p := 2) (u := 3) (ty := 30) rfl _ _ rb 30 #[.int .i64 it.x.k, .int .i64 it.x.g] (0, 0) _ (by rfl) HF.out.1 Try.underlying30 rfl (by kernel_rfl)) (by rfl) ?_
  exact ⟨rfl, HF.out.2⟩
/-- The slice of items is the same, or a new one. -/
def NewV (w : World) (v v' : Value) : Prop := v'.ownBlock = v.ownBlock ∨ ∃ g, v'.ownBlock = some g ∧ w.heap.size ≤ g
theorem ownH_iff {t1 : List (It Th)} (hp : t1.Perm t) : (fun b => ownH h v t1 b ∨ A.ex b) = (fun b => ownH h v t b ∨ A.ex b) := by
  funext b
  exact propext ⟨fun q => by rcases q with q | q; exact .inl (ownH_perm hp q); exact .inr q, fun q => by rcases q with q | q; exact .inl (ownH_perm hp.symm q); exact .inr q⟩
theorem Push_A (H : HpA A w h v L N c) (hA : A.Ok) (x : Th) (hlen : L.length < 1000000000) (hN : N < 1000000000) :
    Calls Try.prog 11 #[ptr h, .agg #[.int .i64 x.k, .int .i64 x.g]] w fun e w' => e = .returned (ptr (w.heap.size + 1)) ∧
      (∃ v' n, HpA A w' h v' (L ++ [⟨w.heap.size + 1, N, x⟩]) (N + 1) (c + n) ∧ n ≤ 2 * Nat.log2 (L.length + 1) + 1 ∧ NewV w v v') ∧ Fr w w' (fun b => ownH h v L b ∨ A.ex b) := by
  obtain ⟨t, hm, hp, hr, ho⟩ := H
  refine (Push_any hm hA x (by rw [hp.length_eq]; exact hlen) hN).mono ?_
  rintro e w' ⟨rfl, ⟨v', h1, h2⟩, h3⟩
  have hl : t.length < (t ++ [⟨w.heap.size + 1, N, x⟩] : List (It Th)).length := by rw [List.length_append]; simp
  refine ⟨rfl, ⟨v', _, ⟨_, h1, (setlL_perm _ _ hl).trans (hp.append_right _), hr.push _ _ (fun a ha e => ?_), fun o => setl_but o _ _ hl (But.push (ho o) _)⟩, ?_, h2⟩, ?_⟩
  · have := hm.lt (.inr (.inr ⟨a, hp.mem_iff.2 ha, rfl⟩))
    omega
  · have := setlN_le (lt := A.lt) _ _ hl
    rw [List.length_append, List.length_singleton, hp.length_eq] at this
    rw [hp.length_eq]
    exact this
  · rw [ownH_iff hp] at h3; exact h3
theorem rem_perm {k m : Nat} {it : It Th} (hp : t.Perm L) (hk : t[k]? = some it) (hm : L[m]? = some it) : (remL A.lt t k).Perm (L.eraseIdx m) ∧ (Ordr A.lt → HpL A.lt t → HpL A.lt (remL A.lt t k)) ∧ remN A.lt t k ≤ 2 * Nat.log2 L.length + 1 := by
  have hkl := get_lt hk
  have hc : (cutL t k).Perm (L.eraseIdx m) := List.Perm.cons_inv (((cutL_perm hk).symm.trans hp).trans (erase_mid hm))
  unfold remL remN
  by_cases hl : k + 1 = t.length
  · rw [if_pos hl, if_pos hl]
    rw [cutL_last hl] at hc
    exact ⟨hc, fun _ h => h.cut, Nat.zero_le _⟩
  · rw [if_neg hl, if_neg hl]
    have hcl : k < (cutL t k).length := by rw [cutL_len hkl]; omega
    refine ⟨(setlL_perm _ _ hcl).trans hc, fun o h => setl_but o _ _ hcl ?_, ?_⟩
    · obtain ⟨last, hv⟩ := get_some t (show t.length - 1 < t.length by omega)
      rw [cutL_mid (by omega) hv]
      exact h.cut.but o (by rw [List.length_dropLast]; omega) last
    · have h1 := setlN_le (lt := A.lt) _ _ hcl
      rw [cutL_len hkl, hp.length_eq] at h1
      have := hp.length_eq
      have h2 := lg_mono (a := L.length - 1) (b := L.length) (by omega) (by omega)
      omega
theorem Remove_A (H : HpA A w h v L N c) (hA : A.Ok) {m : Nat} {it : It Th} (hm : L[m]? = some it) :
    Calls Try.prog 16 #[ptr h, ptr it.p] w fun e w' => e = .returned (.tuple #[.agg #[.int .i64 it.x.k, .int .i64 it.x.g], .int .i64 0]) ∧
      (∃ v' n, HpA A w' h v' (L.eraseIdx m) N (c + n) ∧ n ≤ 2 * Nat.log2 L.length + 1 ∧ v'.ownBlock = v.ownBlock) ∧ (∃ k, Blk w' it.p 100 (icl it k)) ∧ Fr w w' (fun b => ownH h v L b ∨ A.ex b) := by
  obtain ⟨t, h0, hp, hr, ho⟩ := H
  obtain ⟨k, hk⟩ := perm_at hp.symm hm
  refine (Remove_yes h0 hA hk).mono ?_
  rintro e w' ⟨rfl, ⟨v', h1, h2⟩, h3, h4⟩
  obtain ⟨p1, p2, p3⟩ := rem_perm (A := A) hp hk hm
  refine ⟨rfl, ⟨v', _, ⟨_, h1, p1, hr.erase m, fun o => p2 o (ho o)⟩, p3, h2⟩, ⟨k, h3⟩, ?_⟩
  rw [ownH_iff hp] at h4; exact h4
theorem Set_A (H : HpA A w h v L N c) (hA : A.Ok) (x : Th) {m : Nat} {it : It Th} (hm : L[m]? = some it) :
    Calls Try.prog 17 #[ptr h, ptr it.p, .agg #[.int .i64 x.k, .int .i64 x.g]] w fun e w' => e = .returned (.int .i64 0) ∧
      (∃ n, HpA A w' h v (L.set m { it with x := x }) N (c + n) ∧ n ≤ 2 * Nat.log2 L.length + 1) ∧ Fr w w' (fun b => ownH h v L b ∨ A.ex b) := by
  obtain ⟨t, h0, hp, hr, ho⟩ := H
  obtain ⟨k, hk⟩ := perm_at hp.symm hm
  have hkl := get_lt hk
  refine (Set_yes h0 hA x hk).mono ?_
  rintro e w' ⟨rfl, h1, h2⟩
  have hl : k < (t.set k { it with x := x }).length := by rw [List.length_set]; exact hkl
  refine ⟨rfl, ⟨_, ⟨_, h1, (setlL_perm _ _ hl).trans (perm_set hp hk hm _), hr.set hm x, fun o => setl_but o _ _ hl ((ho o).but o hkl _)⟩, ?_⟩, ?_⟩
  · have := setlN_le (lt := A.lt) _ _ hl
    rw [List.length_set, hp.length_eq] at this
    exact this
  · rw [ownH_iff hp] at h2; exact h2
theorem Pop_A (H : HpA A w h v L N c) (hA : A.Ok) (hL : L ≠ []) :
    Calls Try.prog 14 #[ptr h] w fun e w' => ∃ m it, L[m]? = some it ∧ (Ordr A.lt → IsMin A.lt (L.map (·.x)) m) ∧ e = .returned (.tuple #[.agg #[.int .i64 it.x.k, .int .i64 it.x.g], .int .i64 0]) ∧
      (∃ v' n, HpA A w' h v' (L.eraseIdx m) N (c + n) ∧ n ≤ 2 * Nat.log2 L.length + 1 ∧ v'.ownBlock = v.ownBlock) ∧ (∃ k, Blk w' it.p 100 (icl it k)) ∧ Fr w w' (fun b => ownH h v L b ∨ A.ex b) := by
  obtain ⟨t, h0, hp, hr, ho⟩ := H
  have hl : 0 < t.length := by rw [hp.length_eq]; exact List.length_pos_iff.2 hL
  obtain ⟨it, hk⟩ := get_some t hl
  obtain ⟨m, hm⟩ := perm_at hp hk
  refine (Pop_some h0 hA hk).mono ?_
  rintro e w' ⟨rfl, ⟨v', h1, h2⟩, h3, h4⟩
  obtain ⟨p1, p2, p3⟩ := rem_perm (A := A) hp hk hm
  refine ⟨m, it, hm, fun o => ?_, rfl, ⟨v', _, ⟨_, h1, p1, hr.erase m, fun o => p2 o (ho o)⟩, p3, h2⟩, ⟨0, h3⟩, ?_⟩
  · obtain ⟨m', hm', hmin⟩ := root_min o (ho o) hp hr hk
    have : m' = m := by
      have pw := List.pairwise_iff_getElem.1 hr.up
      obtain ⟨l1, e1⟩ := List.getElem?_eq_some_iff.1 hm
      obtain ⟨l2, e2⟩ := List.getElem?_eq_some_iff.1 hm'
      rcases Nat.lt_trichotomy m' m with q | q | q
      · have := pw m' m l2 l1 q; rw [e1, e2] at this; omega
      · exact q
      · have := pw m m' l1 l2 q; rw [e1, e2] at this; omega
    exact this ▸ hmin
  · rw [ownH_iff hp] at h4; exact h4
theorem Pop_E (H : HpA A w h v [] N c) (hA : A.Ok) :
    Calls Try.prog 14 #[ptr h] w fun e w' => e = .returned (.tuple #[.agg #[.int .i64 0, .int .i64 0], .int .i64 110]) ∧ HpA A w' h v [] N c ∧ Fr w w' (fun _ => False) := by
  obtain ⟨t, h0, hp, hr, ho⟩ := H
  obtain rfl : t = [] := List.Perm.eq_nil hp
  refine (Pop_none h0 hA).mono ?_
  rintro e w' ⟨rfl, h1, h2⟩
  exact ⟨rfl, ⟨[], h1, hp, hr, ho⟩, h2⟩
theorem Remove_G (H : HpA A w h v L N c) (hA : A.Ok) {k : Nat} {it : It Th} (hb : Blk w it.p 100 (icl it k)) (hn : ∀ a, a ∈ L → a.p ≠ it.p) :
    Calls Try.prog 16 #[ptr h, ptr it.p] w fun e w' => e = .returned (.tuple #[.agg #[.int .i64 0, .int .i64 0], .int .i64 111]) ∧ HpA A w' h v L N c ∧ Fr w w' (fun _ => False) := by
  obtain ⟨t, h0, hp, hr, ho⟩ := H
  refine (Remove_gone h0 hA hb fun a ha => hn a (hp.mem_iff.1 ha)).mono ?_
  rintro e w' ⟨rfl, h1, h2⟩
  exact ⟨rfl, ⟨t, h1, hp, hr, ho⟩, h2⟩
theorem Set_G (H : HpA A w h v L N c) (hA : A.Ok) (x : Th) {k : Nat} {it : It Th} (hb : Blk w it.p 100 (icl it k)) (hn : ∀ a, a ∈ L → a.p ≠ it.p) :
    Calls Try.prog 17 #[ptr h, ptr it.p, .agg #[.int .i64 x.k, .int .i64 x.g]] w fun e w' => e = .returned (.int .i64 111) ∧ HpA A w' h v L N c ∧ Fr w w' (fun _ => False) := by
  obtain ⟨t, h0, hp, hr, ho⟩ := H
  refine (Set_gone h0 hA x hb fun a ha => hn a (hp.mem_iff.1 ha)).mono ?_
  rintro e w' ⟨rfl, h1, h2⟩
  exact ⟨rfl, ⟨t, h1, hp, hr, ho⟩, h2⟩
end
end Go.Proofs.Ytdnhhcbabdoomaa
