/-
  The reference's heap: Peek, Pop, has, Remove, Set.
-/
import Derived.Test.YtdnhhcbabdoomaaHRef2
namespace Go.Proofs.Ytdnhhcbabdoomaa
set_option linter.unusedVariables false
set_option linter.unusedSimpArgs false
open Go.RowKit Go.Great

section
variable {w w' : World} {o h : Nat} {v : Value} {R : List RIt}
theorem RH.ap (H : RH w o h v R) {k : Nat} {a : RIt} (hk : R[k]? = some a) : a.p ≠ h ∧ (∀ g, v.ownBlock = some g → a.p ≠ g) ∧ ∀ (j : Nat) b, R[j]? = some b → j ≠ k → b.p ≠ a.p := by
  refine ⟨(H.its k a hk).neT H.blk (by decide), fun g hg e => ?_, fun j b hj hjk => ?_⟩
  · exact H.row.ne_type (H.its k a hk) (by decide) (e ▸ hg)
  · have pw := List.pairwise_iff_getElem.1 H.ne
    obtain ⟨i1, i2⟩ := List.getElem?_eq_some_iff.1 hj
    obtain ⟨j1, j2⟩ := List.getElem?_eq_some_iff.1 hk
    rcases Nat.lt_or_gt_of_ne hjk with q | q
    · have := pw j k i1 j1 q; rw [i2, j2] at this; exact this
    · have := pw k j j1 i1 q; rw [i2, j2] at this; exact fun e => this e.symm
/-- An item is another one, in its block. -/
theorem RH.upd (H : RH w o h v R) {k : Nat} {a a' : RIt} (hk : R[k]? = some a) (hp : a'.p = a.p) (hf : Fr w w' (fun b => b = a.p)) (hb : Blk w' a'.p 137 #[.int .i64 a'.x.k, .int .i64 a'.x.g, .int .i64 (k : Int), .bool a'.gone]) : RH w' o h v (R.set k a') := by
  have hkl := get_lt hk
  obtain ⟨h1, h2, h3⟩ := H.ap hk
  refine ⟨H.blk.fr hf (fun e => h1 e.symm), ?_, fun j b hj => ?_, ?_, by rw [List.length_set]; exact H.le⟩
  · have e : (R.set k a').map (fun a => ptr a.p) = R.map fun a => ptr a.p := by
      apply List.ext_getElem?
      intro j
      rw [List.getElem?_map, List.getElem?_map, List.getElem?_set]
      by_cases e : k = j
      · subst e; rw [if_pos rfl, if_pos hkl, hk]; show some (ptr a'.p) = some (ptr a.p); rw [hp]
      · rw [if_neg e]
    rw [e, List.length_set]
    exact H.row.fr hf fun g hg e => h2 g hg e.symm
  · rw [List.getElem?_set] at hj
    by_cases e : k = j
    · subst e
      rw [if_pos rfl, if_pos hkl] at hj
      injection hj with hj
      subst hj
      exact hb
    · rw [if_neg e] at hj
      exact (H.its j b hj).fr hf (h3 j b hj (Ne.symm e))
  · rw [List.pairwise_iff_getElem]
    intro i j hi hj hij
    rw [List.length_set] at hi hj
    have pw := List.pairwise_iff_getElem.1 H.ne i j hi hj hij
    have ea : R[k].p = a.p := by obtain ⟨q1, q2⟩ := List.getElem?_eq_some_iff.1 hk; rw [q2]
    rw [List.getElem_set, List.getElem_set]
    by_cases e1 : k = i
    · subst e1; rw [if_pos rfl, if_neg (by omega), hp, ← ea]; exact pw
    · rw [if_neg e1]
      by_cases e2 : k = j
      · subst e2; rw [if_pos rfl, hp, ← ea]; exact pw
      · rw [if_neg e2]; exact pw
theorem RH.gon (H : RH w o h v R) {k : Nat} {a : RIt} (hk : R[k]? = some a) (g : Bool) : RH (w.setCell ⟨a.p, 3, none⟩ (.bool g)) o h v (R.set k { a with gone := g }) ∧ Fr w (w.setCell ⟨a.p, 3, none⟩ (.bool g)) (fun b => b = a.p) := by
  have F : Fr w (w.setCell ⟨a.p, 3, none⟩ (.bool g)) (fun b => b = a.p) := Fr.setCell _ _ _ _ rfl
  exact ⟨H.upd (a' := { a with gone := g }) hk rfl F ((H.its k a hk).set 3 _), F⟩
theorem RH.stx (H : RH w o h v R) {k : Nat} {a : RIt} (hk : R[k]? = some a) (x : Th) : RH ((w.setCell ⟨a.p, 0, none⟩ (.int .i64 x.k)).setCell ⟨a.p, 1, none⟩ (.int .i64 x.g)) o h v (R.set k { a with x := x }) ∧ Fr w ((w.setCell ⟨a.p, 0, none⟩ (.int .i64 x.k)).setCell ⟨a.p, 1, none⟩ (.int .i64 x.g)) (fun b => b = a.p) := by
  have F : Fr w ((w.setCell ⟨a.p, 0, none⟩ (.int .i64 x.k)).setCell ⟨a.p, 1, none⟩ (.int .i64 x.g)) (fun b => b = a.p) := (Fr.setCell _ ⟨a.p, 0, none⟩ _ (fun b => b = a.p) rfl).trans (Fr.setCell _ ⟨a.p, 1, none⟩ _ (fun b => b = a.p) rfl) (fun _ _ q => by rcases q with q | q <;> exact q)
  exact ⟨H.upd (a' := { a with x := x }) hk rfl F (((H.its k a hk).set 0 _).set 1 _), F⟩
/-- Which one is the least of those that are there. -/
abbrev lst (o : Nat) (R : List RIt) : Option Nat := bst (lsB o) (cnd R fun _ => false) R.length
theorem lst_at {k : Nat} (H : lst o R = some k) : ∃ a, R[k]? = some a := by
  obtain ⟨y, hy⟩ := bst_at _ _ H
  obtain ⟨a, ha, _⟩ := cnd_some hy
  exact ⟨a, ha⟩
theorem outNil (w : World) (n : Nat) : OutV w n (.slice none 0 0) (fun _ => false) := .inl ⟨rfl, fun _ => rfl⟩
set_option maxRecDepth 100000 in
set_option maxHeartbeats 1000000 in
theorem rPeek_none (H : RH w o h v R) (hl : lst o R = none) :
    Calls Try.prog 67 #[ptr h] w fun e w' => e = .returned (.tuple #[.agg #[.int .i64 0, .int .i64 0], .int .i64 110]) ∧ Fr w w' (fun _ => False) := by
  have F1 : Fr w (w.alloc (.cells #[.int .i64 0, .int .i64 0] 30)) (fun _ => False) := Fr.alloc _ _ _
  have hle := least_any (H.sm F1) _ _ (outNil _ _)
  have hl' : bst (lsB o) (cnd R fun _ => false) R.length = none := hl
  rw [hl'] at hle
  have HB : Hid (Blk (w.alloc (.cells #[.int .i64 0, .int .i64 0] 30)) w.heap.size 30 #[.int .i64 0, .int .i64 0] ∧ Fr w (w.alloc (.cells #[.int .i64 0, .int .i64 0] 30)) (fun _ => False)) := ⟨Blk.new _ _ _, F1⟩
  clear F1 hl hl' H
  simp only [bpV] at hle
  generalize hrb : w.heap.size = rb at *
  go_enter Try.func67, Try.ntmps67
  go_wp2_with (go_at_call 81; fail)
  refine hle.mono ?_
  rintro e w2 ⟨rfl, hf⟩
  have HB2 : Hid (Blk w2 rb 30 #[.int .i64 0, .int .i64 0] ∧ Fr w w2 (fun _ => False)) := ⟨HB.out.1.fr hf (fun q => q), HB.out.2.trans hf fun _ _ q => by rcases q with q | q <;> exact q⟩
  clear hf hle HB
  have r0 : w2.cell? ⟨rb, 0, none⟩ = some (.int .i64 0) := HB2.out.1.cell 0
  have r1 : w2.cell? ⟨rb, 1, none⟩ = some (.int .i64 0) := HB2.out.1.cell 1
  have f0 := HB2.out.1.frozen 0
  have f1 := HB2.out.1.frozen 1
  have HF : Hid (Fr w ((w2.setCell ⟨rb, 0, none⟩ (.int .i64 0)).setCell ⟨rb, 1, none⟩ (.int .i64 0)) (fun _ => False)) := (HB2.out.2.trans ((Fr.setCell w2 ⟨rb, 0, none⟩ _ (fun b => b = rb) rfl).trans (Fr.setCell _ ⟨rb, 1, none⟩ _ (fun b => b = rb) rfl) (e3 := fun b => b = rb) fun _ _ q => by rcases q with q | q <;> exact q) fun b hb q => by
    rcases q with q | q
    · exact q
    · omega)
  clear hrb
  go_wp2
  refine bodyPost_ret (results_cr2 (fn := Try.f67) (p := 2) (u := 3) (ty := 30) rfl _ _ rb 30 #[.int .i64 0, .int .i64 0] (0, 0) _ (by rfl) ((HB2.out.1.set 0 _).set 1 _) Try.underlying30 rfl (by kernel_rfl)) (by rfl) ?_
  exact ⟨rfl, HF.out⟩
set_option maxRecDepth 100000 in
set_option maxHeartbeats 1000000 in
theorem rPeek_some (H : RH w o h v R) {k : Nat} {a : RIt} (hl : lst o R = some k) (ha : R[k]? = some a) :
    Calls Try.prog 67 #[ptr h] w fun e w' => e = .returned (.tuple #[.agg #[.int .i64 a.x.k, .int .i64 a.x.g], .int .i64 0]) ∧ Fr w w' (fun _ => False) := by
  have F1 : Fr w (w.alloc (.cells #[.int .i64 0, .int .i64 0] 30)) (fun _ => False) := Fr.alloc _ _ _
  have hle := least_any (H.sm F1) _ _ (outNil _ _)
  have hl' : bst (lsB o) (cnd R fun _ => false) R.length = some k := hl
  rw [hl'] at hle
  have hrp : bpV R (some k) = ptr a.p := by show ptr (rp R k) = _; rw [rp_at ha]
  rw [hrp] at hle
  have HB : Hid (Blk (w.alloc (.cells #[.int .i64 0, .int .i64 0] 30)) w.heap.size 30 #[.int .i64 0, .int .i64 0] ∧ Fr w (w.alloc (.cells #[.int .i64 0, .int .i64 0] 30)) (fun _ => False) ∧ Blk (w.alloc (.cells #[.int .i64 0, .int .i64 0] 30)) a.p 137 #[.int .i64 a.x.k, .int .i64 a.x.g, .int .i64 (k : Int), .bool a.gone]) := ⟨Blk.new _ _ _, F1, (H.its k a ha).alloc _⟩
  clear F1 hl hl' H hrp ha
  generalize hrb : w.heap.size = rb at *
  go_enter Try.func67, Try.ntmps67
  go_wp2_with (go_at_call 81; fail)
  refine hle.mono ?_
  rintro e w2 ⟨rfl, hf⟩
  have HB2 : Hid (Blk w2 rb 30 #[.int .i64 0, .int .i64 0] ∧ Fr w w2 (fun _ => False) ∧ Blk w2 a.p 137 #[.int .i64 a.x.k, .int .i64 a.x.g, .int .i64 (k : Int), .bool a.gone]) := ⟨HB.out.1.fr hf (fun q => q), HB.out.2.1.trans hf (fun _ _ q => by rcases q with q | q <;> exact q), HB.out.2.2.fr hf (fun q => q)⟩
  clear hf hle HB
  have r0 : w2.cell? ⟨rb, 0, none⟩ = some (.int .i64 0) := HB2.out.1.cell 0
  have r1 : w2.cell? ⟨rb, 1, none⟩ = some (.int .i64 0) := HB2.out.1.cell 1
  have f0 := HB2.out.1.frozen 0
  have f1 := HB2.out.1.frozen 1
  have a0 : w2.cell? ⟨a.p, 0, none⟩ = some (.int .i64 a.x.k) := HB2.out.2.2.cell 0
  have a1 : w2.cell? ⟨a.p, 1, none⟩ = some (.int .i64 a.x.g) := HB2.out.2.2.cell 1
  have HF : Hid (Fr w ((w2.setCell ⟨rb, 0, none⟩ (.int .i64 a.x.k)).setCell ⟨rb, 1, none⟩ (.int .i64 a.x.g)) (fun _ => False)) := (HB2.out.2.1.trans ((Fr.setCell w2 ⟨rb, 0, none⟩ _ (fun b => b = rb) rfl).trans (Fr.setCell _ ⟨rb, 1, none⟩ _ (fun b => b = rb) rfl) (e3 := fun b => b = rb) fun _ _ q => by rcases q with q | q <;> exact q) fun b hb q => by
    rcases q with q | q
    · exact q
    · omega)
  clear hrb
  go_wp2
  refine bodyPost_ret (results_cr2 (fn := Try.f67) (p := 2) (u := 3) (ty := 30) rfl _ _ rb 30 #[.int .i64 a.x.k, .int .i64 a.x.g] (0, 0) _ (by rfl) ((HB2.out.1.set 0 _).set 1 _) Try.underlying30 rfl (by kernel_rfl)) (by rfl) ?_
  exact ⟨rfl, HF.out⟩
end
end Go.Proofs.Ytdnhhcbabdoomaa
