/-
  heap: what is in it; New, Len, Peek, Value; put in the midst; Remove.
-/
import Derived.Test.YtdnhhcbabdoomaaHFace
namespace Go.Proofs.Ytdnhhcbabdoomaa
set_option linter.unusedVariables false
set_option linter.unusedSimpArgs false
open Go.RowKit Go.Great

/-- A heap, with its items in the order in which they were pushed. -/
def HpA (A : Ask) (w : World) (h : Nat) (v : Value) (L : List (It Th)) (N c : Nat) : Prop := ∃ t, HpM A w h v t N c ∧ t.Perm L ∧ Rkd L N ∧ (Ordr A.lt → HpL A.lt t)
section
variable {A : Ask} {w w' : World} {h : Nat} {v : Value} {t L : List (It Th)} {N c : Nat}
theorem HpA.fr {e : Nat → Prop} {c' : Nat} (H : HpA A w h v L N c) (hf : Fr w w' e) (hn : ∀ b, ownH h v L b → ¬ e b) (hS : A.S c' w') : HpA A w' h v L N c' := by
  obtain ⟨t, h1, h2, h3⟩ := H
  exact ⟨t, h1.fr hf (fun b hb => hn b (ownH_perm h2 hb)) hS, h2, h3⟩
theorem HpA.lt (H : HpA A w h v L N c) {b : Nat} (hb : ownH h v L b) : b < w.heap.size := by
  obtain ⟨t, h1, h2, h3⟩ := H
  exact h1.lt (ownH_perm h2.symm hb)
theorem HpA.st (H : HpA A w h v L N c) : A.S c w := by
  obtain ⟨t, h1, _⟩ := H
  exact h1.st
theorem HpA.ap (H : HpA A w h v L N c) {b : Nat} (hb : ownH h v L b) : ¬ A.ex b := by
  obtain ⟨t, h1, h2, _⟩ := H
  exact h1.ap b (ownH_perm h2.symm hb)
theorem HpA.blk (H : HpA A w h v L N c) {m : Nat} {it : It Th} (hm : L[m]? = some it) : ∃ k, Blk w it.p 100 (icl it k) := by
  obtain ⟨t, h1, h2, _⟩ := H
  obtain ⟨k, hk⟩ := perm_at h2.symm hm
  exact ⟨k, h1.its k it hk⟩
theorem new_hp (hA : A.Ok) (hS : A.S c w) : HpA A (w.alloc (.cells #[.func (.func A.f) #[] #[], .slice none 0 0, .int .i64 0] 98)) w.heap.size (.slice none 0 0) [] 0 c := by
  refine ⟨[], ⟨Blk.new _ _ _, RowAt.none0 _ _ _, fun k it hk => by simp at hk, List.Pairwise.nil, hA.keep hS (Fr.alloc w _ (fun _ => False)) (fun _ q => q.elim), fun b hb he => ?_, by simp⟩, List.Perm.refl _, Rkd.nil 0, fun _ j j0 j1 => by simp at j1⟩
  have := hA.low hS he
  rcases hb with q | q | ⟨it, q, _⟩
  · omega
  · cases q
  · cases q
set_option maxRecDepth 100000 in
theorem New_any (hA : A.Ok) (hS : A.S c w) :
    Calls Try.prog 42 #[.func (.func A.f) #[] #[]] w fun e w' => e = .returned (ptr w.heap.size) ∧ HpA A w' w.heap.size (.slice none 0 0) [] 0 c ∧ Fr w w' (fun _ => False) := by
  have HN : Hid _ := new_hp hA hS
  clear hA hS
  go_enter Try.func42, Try.ntmps42
  go_wp2
  go_ret
  exact ⟨rfl, HN.out, Fr.alloc _ _ _⟩
set_option maxRecDepth 100000 in
theorem Len_any (H : HpA A w h v L N c) :
    Calls Try.prog 13 #[ptr h] w fun e w' => e = .returned (.int .i64 (L.length : Int)) ∧ w' = w := by
  obtain ⟨t, h1, h2, _⟩ := H
  obtain ⟨d0, d1, d2⟩ := h1.hd
  obtain ⟨ao, cap, hvf, hcap⟩ := h1.form
  subst hvf
  rw [← h2.length_eq]
  clear h1 d0 d2 h2
  go_enter Try.func13, Try.ntmps13
  go_wp2
  go_ret
  exact ⟨rfl, rfl⟩
set_option maxRecDepth 100000 in
theorem Value_any {it : It Th} {k : Nat} (hb : Blk w it.p 100 (icl it k)) :
    Calls Try.prog 18 #[ptr it.p] w fun e w' => e = .returned (.agg #[.int .i64 it.x.k, .int .i64 it.x.g]) ∧ Fr w w' (fun _ => False) := by
  have hb2 := hb.alloc (.cells #[.int .i64 0, .int .i64 0] 30)
  have a0 : (w.alloc (.cells #[.int .i64 0, .int .i64 0] 30)).cell? ⟨it.p, 0, none⟩ = some (.int .i64 it.x.k) := hb2.cell 0
  have a1 : (w.alloc (.cells #[.int .i64 0, .int .i64 0] 30)).cell? ⟨it.p, 1, none⟩ = some (.int .i64 it.x.g) := hb2.cell 1
  have hne : it.p ≠ w.heap.size := Nat.ne_of_lt hb.lt
  clear hb hb2
  go_enter Try.func18, Try.ntmps18
  go_wp2
  refine bodyPost_ret (results_cell_row (fn := Try.f18) (p := 2) (ty := 30) rfl _ _ w.heap.size 30 #[.int .i64 it.x.k, .int .i64 it.x.g] (0, 0) _ (by rfl) (Blk.new _ _ _) Try.underlying30 rfl (by kernel_rfl)) (by rfl) ?_
  exact ⟨rfl, Fr.alloc _ _ _⟩
/-- An item is put in the place of another one. -/
theorem HpM.put (H : HpM A w h v t N c) (hA : A.Ok) {k j : Nat} {it : It Th} (hk : k < t.length) (hb : Blk w it.p 100 (icl it j)) (hn : ∀ a, a ∈ t → a.p ≠ it.p) (hx : ¬ A.ex it.p) {g off cap : Nat} (hv : v = .slice (some ⟨g, off, none⟩) t.length cap) :
    HpM A ((w.setCell ⟨g, off + k, none⟩ (ptr it.p)).setCell ⟨it.p, 3, none⟩ (.int .i64 (k : Int))) h v (t.set k it) N c ∧ Fr w ((w.setCell ⟨g, off + k, none⟩ (ptr it.p)).setCell ⟨it.p, 3, none⟩ (.int .i64 (k : Int))) (fun b => b = g ∨ b = it.p) := by
  obtain ⟨g', off', cap', hv', h1, h2, h3, h4, h5⟩ := H.slice (by omega)
  rw [hv] at hv'
  injection hv' with e1 _ e2
  injection e1 with e1
  injection e1 with e1 e3 _
  subst e1 e2 e3
  have hrow : RowAt w 27 1 (.slice (some ⟨g, off, none⟩) t.length cap) t.length (t.map fun it => ptr it.p) := hv ▸ H.row
  obtain ⟨_, cur, hcur⟩ := hrow.lt (g := g) rfl
  have hig : it.p ≠ g := hb.neT (show Blk w g 27 cur from hcur) (by decide)
  have hih : it.p ≠ h := hb.neT H.blk (by decide)
  have f1 : Fr w (w.setCell ⟨g, off + k, none⟩ (ptr it.p)) (fun q => q = g) := Fr.setCell _ _ _ _ rfl
  have f2 : Fr (w.setCell ⟨g, off + k, none⟩ (ptr it.p)) ((w.setCell ⟨g, off + k, none⟩ (ptr it.p)).setCell ⟨it.p, 3, none⟩ (.int .i64 (k : Int))) (fun q => q = it.p) := Fr.setCell _ _ _ _ rfl
  have F : Fr w ((w.setCell ⟨g, off + k, none⟩ (ptr it.p)).setCell ⟨it.p, 3, none⟩ (.int .i64 (k : Int))) (fun b => b = g ∨ b = it.p) := f1.trans f2 fun _ _ q => q
  have r1 := hrow.set (j := k) (by rw [List.length_map]; exact hk) (ptr it.p)
  have r2 := r1.fr f2 (fun q hq e => hig (e ▸ (own_slice rfl hq).symm))
  refine ⟨⟨H.blk.fr F (fun q => by rcases q with q | q; exact h2 q.symm; exact hih q.symm), ?_, fun i a ha => ?_, ?_, hA.keep H.st F fun b q => ?_, fun b hq => ?_, by rw [List.length_set]; exact H.le⟩, F⟩
  · rw [List.length_set, map_set, hv]; exact r2
  · rw [List.getElem?_set] at ha
    by_cases e : k = i
    · subst e
      rw [if_pos rfl, if_pos hk] at ha
      injection ha with ha
      subst ha
      exact (hb.fr f1 hig).set 3 _
    · rw [if_neg e] at ha
      have hm := List.mem_of_getElem? ha
      exact (H.its i a ha).fr F (fun q => by rcases q with q | q; exact (h3 a hm).1 q; exact hn a hm q)
  · rw [List.pairwise_iff_getElem]
    intro i j hi hj hij
    rw [List.length_set] at hi hj
    have pw := List.pairwise_iff_getElem.1 H.ne i j hi hj hij
    rw [List.getElem_set, List.getElem_set]
    by_cases e1 : k = i
    · rw [if_pos e1, if_neg (by omega)]; exact fun q => hn _ (List.getElem_mem hj) q.symm
    · rw [if_neg e1]
      by_cases e2 : k = j
      · rw [if_pos e2]; exact hn _ (List.getElem_mem hi)
      · rw [if_neg e2]; exact pw
  · rcases q with q | q
    · exact H.ap b (.inr (.inl (by rw [hv, q]; rfl)))
    · rw [q]; exact hx
  · rcases hq with q | q | ⟨a, q1, q2⟩
    · exact H.ap b (.inl q)
    · exact H.ap b (.inr (.inl q))
    · rcases List.mem_or_eq_of_mem_set q1 with q | q
      · exact H.ap b (.inr (.inr ⟨a, q, q2⟩))
      · rw [← q2, q]; exact hx
end
end Go.Proofs.Ytdnhhcbabdoomaa
