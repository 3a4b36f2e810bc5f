/-
  heap: Pop, Peek; all that can be done, by what is in the heap.
-/
import Derived.Test.YtdnhhcbabdoomaaHIFace5
namespace Go.Proofs.Ytdnhhcbabdoomaa.I
set_option linter.unusedVariables false
set_option linter.unusedSimpArgs false
open Go.RowKit Go.Great

section
variable {A : Ask} {w w' : World} {h : Nat} {v : Value} {t L : List (It Th)} {N c : Nat}
set_option maxRecDepth 100000 in
set_option maxHeartbeats 2000000 in
theorem Pop_none (H : HpM A w h v [] N c) (hA : A.Ok) :
    Calls Try.prog 23 #[ptr h] w fun e w' => e = .returned (.tuple #[.int .i64 0, .int .i64 110]) ∧ HpM A w' h v [] N c ∧ Fr w w' (fun _ => False) := by
  have HH : Hid (HpM A w h v [] N c ∧ A.Ok) := ⟨H, hA⟩
  obtain ⟨ao, cap, hvf, hcap⟩ := H.form
  have d1o := H.hd.2.1
  subst hvf
  clear H hA hcap
  go_enter Try.func23, Try.ntmps23
  go_wp2
  first | go_ret | go_ret2
  exact ⟨rfl, HH.out.1, Fr.refl _ _⟩
set_option maxRecDepth 100000 in
set_option maxHeartbeats 2000000 in
theorem Pop_some (H : HpM A w h v t N c) (hA : A.Ok) {it : It Th} (hk : t[0]? = some it) :
    Calls Try.prog 23 #[ptr h] w fun e w' => e = .returned (.tuple #[.int .i64 it.x.k, .int .i64 0]) ∧
      (∃ v', HpM A w' h v' (remL A.lt t 0) N (c + remN A.lt t 0) ∧ v'.ownBlock = v.ownBlock) ∧ Blk w' it.p 110 (icl it 0) ∧ Fr w w' (fun b => ownH h v t b ∨ A.ex b) := by
  have hkl := get_lt hk
  have hr := Remove_yes H hA hk
  obtain ⟨g, off, cap, hv, h1, h2, h3, h4, h5⟩ := H.slice (by omega)
  have d1 := H.hd.2.1
  have hc := h4 0 it hk
  rw [Nat.add_zero] at hc
  rw [hv] at d1
  have hl1 : ¬ t.length = 0 := by omega
  have hl2 : (0 : Int) < (t.length : Int) := by omega
  have hl3 : 0 < t.length := by omega
  have hne0 : ((t.length : Int) == 0) = false := by rw [beq_eq_false_iff_ne]; omega
  generalize remL A.lt t 0 = RL at *
  generalize remN A.lt t 0 = RN at *
  clear h1 h2 h3 h4 h5 hv H hA hk hkl
  go_enter Try.func23, Try.ntmps23
  go_wp2_with (go_at_call 24; fail)
  refine hr.mono ?_
  rintro e w2 ⟨rfl, hm2, hb2, hf2⟩
  have HX : Hid _ := And.intro hm2 (And.intro hb2 hf2)
  clear hm2 hb2 hf2 hr d1 hc
  go_wp2
  first | go_ret | go_ret2
  exact ⟨rfl, HX.out⟩
/-- The slice of items is the same, or a new one. -/
def NewV (w : World) (v v' : Value) : Prop := v'.ownBlock = v.ownBlock ∨ ∃ g, v'.ownBlock = some g ∧ w.heap.size ≤ g
theorem ownH_iff {t1 : List (It Th)} (hp : t1.Perm t) : (fun b => ownH h v t1 b ∨ A.ex b) = (fun b => ownH h v t b ∨ A.ex b) := by
  funext b
  exact propext ⟨fun q => by rcases q with q | q; exact .inl (ownH_perm hp q); exact .inr q, fun q => by rcases q with q | q; exact .inl (ownH_perm hp.symm q); exact .inr q⟩
theorem Push_A (H : HpA A w h v L N c) (hA : A.Ok) (x : Th) (hlen : L.length < 1000000000) (hN : N < 1000000000) :
    Calls Try.prog 22 #[ptr h, .int .i64 x.k] w fun e w' => e = .returned (ptr (w.heap.size)) ∧
      (∃ v' n, HpA A w' h v' (L ++ [⟨w.heap.size, N, x⟩]) (N + 1) (c + n) ∧ n ≤ 2 * Nat.log2 (L.length + 1) + 1 ∧ NewV w v v') ∧ Fr w w' (fun b => ownH h v L b ∨ A.ex b) := by
  obtain ⟨t, hm, hp, hr, ho⟩ := H
  refine (Push_any hm hA x (by rw [hp.length_eq]; exact hlen) hN).mono ?_
  rintro e w' ⟨rfl, ⟨v', h1, h2⟩, h3⟩
  have hl : t.length < (t ++ [⟨w.heap.size, N, x⟩] : List (It Th)).length := by rw [List.length_append]; simp
  refine ⟨rfl, ⟨v', _, ⟨_, h1, (setlL_perm _ _ hl).trans (hp.append_right _), hr.push _ _ (fun a ha e => ?_), fun o => setl_but o _ _ hl (But.push (ho o) _)⟩, ?_, h2⟩, ?_⟩
  · have := hm.lt (.inr (.inr ⟨a, hp.mem_iff.2 ha, rfl⟩))
    omega
  · have := setlN_le (lt := A.lt) _ _ hl
    rw [List.length_append, List.length_singleton, hp.length_eq] at this
    rw [hp.length_eq]
    exact this
  · rw [ownH_iff hp] at h3; exact h3
theorem rem_perm {k m : Nat} {it : It Th} (hp : t.Perm L) (hk : t[k]? = some it) (hm : L[m]? = some it) : (remL A.lt t k).Perm (L.eraseIdx m) ∧ (Ordr A.lt → HpL A.lt t → HpL A.lt (remL A.lt t k)) ∧ remN A.lt t k ≤ 2 * Nat.log2 L.length + 1 := by
  have hkl := get_lt hk
  have hc : (cutL t k).Perm (L.eraseIdx m) := List.Perm.cons_inv (((cutL_perm hk).symm.trans hp).trans (erase_mid hm))
  unfold remL remN
  by_cases hl : k + 1 = t.length
  · rw [if_pos hl, if_pos hl]
    rw [cutL_last hl] at hc
    exact ⟨hc, fun _ h => h.cut, Nat.zero_le _⟩
  · rw [if_neg hl, if_neg hl]
    have hcl : k < (cutL t k).length := by rw [cutL_len hkl]; omega
    refine ⟨(setlL_perm _ _ hcl).trans hc, fun o h => setl_but o _ _ hcl ?_, ?_⟩
    · obtain ⟨last, hv⟩ := get_some t (show t.length - 1 < t.length by omega)
      rw [cutL_mid (by omega) hv]
      exact h.cut.but o (by rw [List.length_dropLast]; omega) last
    · have h1 := setlN_le (lt := A.lt) _ _ hcl
      rw [cutL_len hkl, hp.length_eq] at h1
      have := hp.length_eq
      have h2 := lg_mono (a := L.length - 1) (b := L.length) (by omega) (by omega)
      omega
theorem Remove_A (H : HpA A w h v L N c) (hA : A.Ok) {m : Nat} {it : It Th} (hm : L[m]? = some it) :
    Calls Try.prog 24 #[ptr h, ptr it.p] w fun e w' => e = .returned (.tuple #[.int .i64 it.x.k, .int .i64 0]) ∧
      (∃ v' n, HpA A w' h v' (L.eraseIdx m) N (c + n) ∧ n ≤ 2 * Nat.log2 L.length + 1 ∧ v'.ownBlock = v.ownBlock) ∧ (∃ k, Blk w' it.p 110 (icl it k)) ∧ Fr w w' (fun b => ownH h v L b ∨ A.ex b) := by
  obtain ⟨t, h0, hp, hr, ho⟩ := H
  obtain ⟨k, hk⟩ := perm_at hp.symm hm
  refine (Remove_yes h0 hA hk).mono ?_
  rintro e w' ⟨rfl, ⟨v', h1, h2⟩, h3, h4⟩
  obtain ⟨p1, p2, p3⟩ := rem_perm (A := A) hp hk hm
  refine ⟨rfl, ⟨v', _, ⟨_, h1, p1, hr.erase m, fun o => p2 o (ho o)⟩, p3, h2⟩, ⟨k, h3⟩, ?_⟩
  rw [ownH_iff hp] at h4; exact h4
theorem Set_A (H : HpA A w h v L N c) (hA : A.Ok) (x : Th) {m : Nat} {it : It Th} (hm : L[m]? = some it) :
    Calls Try.prog 25 #[ptr h, ptr it.p, .int .i64 x.k] w fun e w' => e = .returned (.int .i64 0) ∧
      (∃ n, HpA A w' h v (L.set m { it with x := x }) N (c + n) ∧ n ≤ 2 * Nat.log2 L.length + 1) ∧ Fr w w' (fun b => ownH h v L b ∨ A.ex b) := by
  obtain ⟨t, h0, hp, hr, ho⟩ := H
  obtain ⟨k, hk⟩ := perm_at hp.symm hm
  have hkl := get_lt hk
  refine (Set_yes h0 hA x hk).mono ?_
  rintro e w' ⟨rfl, h1, h2⟩
  have hl : k < (t.set k { it with x := x }).length := by rw [List.length_set]; exact hkl
  refine ⟨rfl, ⟨_, ⟨_, h1, (setlL_perm _ _ hl).trans (perm_set hp hk hm _), hr.set hm x, fun o => setl_but o _ _ hl ((ho o).but o hkl _)⟩, ?_⟩, ?_⟩
  · have := setlN_le (lt := A.lt) _ _ hl
    rw [List.length_set, hp.length_eq] at this
    exact this
  · rw [ownH_iff hp] at h2; exact h2
theorem Pop_A (H : HpA A w h v L N c) (hA : A.Ok) (hL : L ≠ []) :
    Calls Try.prog 23 #[ptr h] w fun e w' => ∃ m it, L[m]? = some it ∧ (Ordr A.lt → IsMin A.lt (L.map (·.x)) m) ∧ e = .returned (.tuple #[.int .i64 it.x.k, .int .i64 0]) ∧
      (∃ v' n, HpA A w' h v' (L.eraseIdx m) N (c + n) ∧ n ≤ 2 * Nat.log2 L.length + 1 ∧ v'.ownBlock = v.ownBlock) ∧ (∃ k, Blk w' it.p 110 (icl it k)) ∧ Fr w w' (fun b => ownH h v L b ∨ A.ex b) := by
  obtain ⟨t, h0, hp, hr, ho⟩ := H
  have hl : 0 < t.length := by rw [hp.length_eq]; exact List.length_pos_iff.2 hL
  obtain ⟨it, hk⟩ := get_some t hl
  obtain ⟨m, hm⟩ := perm_at hp hk
  refine (Pop_some h0 hA hk).mono ?_
  rintro e w' ⟨rfl, ⟨v', h1, h2⟩, h3, h4⟩
  obtain ⟨p1, p2, p3⟩ := rem_perm (A := A) hp hk hm
  refine ⟨m, it, hm, fun o => ?_, rfl, ⟨v', _, ⟨_, h1, p1, hr.erase m, fun o => p2 o (ho o)⟩, p3, h2⟩, ⟨0, h3⟩, ?_⟩
  · obtain ⟨m', hm', hmin⟩ := root_min o (ho o) hp hr hk
    have : m' = m := by
      have pw := List.pairwise_iff_getElem.1 hr.up
      obtain ⟨l1, e1⟩ := List.getElem?_eq_some_iff.1 hm
      obtain ⟨l2, e2⟩ := List.getElem?_eq_some_iff.1 hm'
      rcases Nat.lt_trichotomy m' m with q | q | q
      · have := pw m' m l2 l1 q; rw [e1, e2] at this; omega
      · exact q
      · have := pw m m' l1 l2 q; rw [e1, e2] at this; omega
    exact this ▸ hmin
  · rw [ownH_iff hp] at h4; exact h4
theorem Pop_E (H : HpA A w h v [] N c) (hA : A.Ok) :
    Calls Try.prog 23 #[ptr h] w fun e w' => e = .returned (.tuple #[.int .i64 0, .int .i64 110]) ∧ HpA A w' h v [] N c ∧ Fr w w' (fun _ => False) := by
  obtain ⟨t, h0, hp, hr, ho⟩ := H
  obtain rfl : t = [] := List.Perm.eq_nil hp
  refine (Pop_none h0 hA).mono ?_
  rintro e w' ⟨rfl, h1, h2⟩
  exact ⟨rfl, ⟨[], h1, hp, hr, ho⟩, h2⟩
theorem Remove_G (H : HpA A w h v L N c) (hA : A.Ok) {k : Nat} {it : It Th} (hb : Blk w it.p 110 (icl it k)) (hn : ∀ a, a ∈ L → a.p ≠ it.p) :
    Calls Try.prog 24 #[ptr h, ptr it.p] w fun e w' => e = .returned (.tuple #[.int .i64 0, .int .i64 111]) ∧ HpA A w' h v L N c ∧ Fr w w' (fun _ => False) := by
  obtain ⟨t, h0, hp, hr, ho⟩ := H
  refine (Remove_gone h0 hA hb fun a ha => hn a (hp.mem_iff.1 ha)).mono ?_
  rintro e w' ⟨rfl, h1, h2⟩
  exact ⟨rfl, ⟨t, h1, hp, hr, ho⟩, h2⟩
theorem Set_G (H : HpA A w h v L N c) (hA : A.Ok) (x : Th) {k : Nat} {it : It Th} (hb : Blk w it.p 110 (icl it k)) (hn : ∀ a, a ∈ L → a.p ≠ it.p) :
    Calls Try.prog 25 #[ptr h, ptr it.p, .int .i64 x.k] w fun e w' => e = .returned (.int .i64 111) ∧ HpA A w' h v L N c ∧ Fr w w' (fun _ => False) := by
  obtain ⟨t, h0, hp, hr, ho⟩ := H
  refine (Set_gone h0 hA x hb fun a ha => hn a (hp.mem_iff.1 ha)).mono ?_
  rintro e w' ⟨rfl, h1, h2⟩
  exact ⟨rfl, ⟨t, h1, hp, hr, ho⟩, h2⟩
end
end Go.Proofs.Ytdnhhcbabdoomaa.I
