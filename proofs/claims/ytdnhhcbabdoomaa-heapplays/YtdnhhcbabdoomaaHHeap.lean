/-
  heap: the tree in memory.
-/
import Derived.Test.YtdnhhcbabdoomaaHMem
namespace Go.Proofs.Ytdnhhcbabdoomaa
set_option linter.unusedVariables false
set_option linter.unusedSimpArgs false
open Go.RowKit Go.Great

/-- A thing: a key and a tag. -/
structure Th where
  k : Int
  g : Int
/-- How things are asked which is less: by which function; what it writes; how often it was asked. -/
structure Ask where
  f : FuncId
  lt : Th → Th → Bool
  ex : Nat → Prop
  S : Nat → World → Prop
structure Ask.Ok (A : Ask) : Prop where
  cf : ∀ args w, (callFunc A.f args).run Try.prog w = .ok (.enter A.f args) w
  keep : ∀ {w w' : World} {c : Nat} {e : Nat → Prop}, A.S c w → Fr w w' e → (∀ b, e b → ¬ A.ex b) → A.S c w'
  low : ∀ {w : World} {c b : Nat}, A.S c w → A.ex b → b < w.heap.size
  call : ∀ (a b : Th) (w : World) (c : Nat), A.S c w → Calls Try.prog A.f #[.agg #[.int .i64 a.k, .int .i64 a.g], .agg #[.int .i64 b.k, .int .i64 b.g]] w fun e w' => e = .returned (.bool (A.lt a b)) ∧ Fr w w' A.ex ∧ A.S (c + 1) w'
def icl (it : It Th) (k : Nat) : Array Value := #[.int .i64 it.x.k, .int .i64 it.x.g, .int .i64 (it.r : Int), .int .i64 (k : Int)]
abbrev ptr (p : Nat) : Value := .pointer (some ⟨p, 0, none⟩)
def ownH (h : Nat) (v : Value) (t : List (It Th)) (b : Nat) : Prop := b = h ∨ v.ownBlock = some b ∨ ∃ it, it ∈ t ∧ it.p = b
structure HpM (A : Ask) (w : World) (h : Nat) (v : Value) (t : List (It Th)) (N c : Nat) : Prop where
  blk : Blk w h 98 #[.func (.func A.f) #[] #[], v, .int .i64 (N : Int)]
  row : RowAt w 27 1 v t.length (t.map fun it => ptr it.p)
  its : ∀ (k : Nat) it, t[k]? = some it → Blk w it.p 100 (icl it k)
  ne : t.Pairwise fun a b => a.p ≠ b.p
  st : A.S c w
  ap : ∀ b, ownH h v t b → ¬ A.ex b
  le : t.length ≤ 1000000000
theorem Blk.neT {w : World} {a b : Nat} {T U : TypeId} {c d : Array Value} (h : Blk w a T c) (k : Blk w b U d) (hne : T ≠ U) : a ≠ b := fun e => by
  subst e
  unfold Blk at h k
  rw [h] at k; injection k with k; injection k with _ k; exact hne k
theorem Blk.fr {w w' : World} {a : Nat} {T : TypeId} {c : Array Value} {e : Nat → Prop} (h : Blk w a T c) (hf : Fr w w' e) (hn : ¬ e a) : Blk w' a T c := (hf.block a h.lt hn).trans h
theorem pw_ne {α : Type} {t : List (It α)} (h : t.Pairwise fun a b => a.p ≠ b.p) {i j : Nat} {a b : It α} (hi : t[i]? = some a) (hj : t[j]? = some b) (hij : i ≠ j) : a.p ≠ b.p := by
  have pw := List.pairwise_iff_getElem.1 h
  obtain ⟨i1, i2⟩ := List.getElem?_eq_some_iff.1 hi
  obtain ⟨j1, j2⟩ := List.getElem?_eq_some_iff.1 hj
  rcases Nat.lt_or_gt_of_ne hij with q | q
  · have := pw i j i1 j1 q; rw [i2, j2] at this; exact this
  · have := pw j i j1 i1 q; rw [i2, j2] at this; exact fun e => this e.symm
theorem own_slice {v : Value} {g off n cap q : Nat} (hv : v = .slice (some ⟨g, off, none⟩) n cap) (hq : v.ownBlock = some q) : g = q := by rw [hv] at hq; simpa [Value.ownBlock] using hq
section
variable {A : Ask} {w w' : World} {h : Nat} {v : Value} {t : List (It Th)} {N c : Nat}
theorem HpM.lt (H : HpM A w h v t N c) {b : Nat} (hb : ownH h v t b) : b < w.heap.size := by
  rcases hb with rfl | hb | ⟨it, h1, rfl⟩
  · exact H.blk.lt
  · exact (H.row.lt hb).1
  · obtain ⟨k, hk⟩ := List.mem_iff_getElem?.1 h1
    exact (H.its k it hk).lt
theorem HpM.fr {e : Nat → Prop} {c' : Nat} (H : HpM A w h v t N c) (hf : Fr w w' e) (hn : ∀ b, ownH h v t b → ¬ e b) (hS : A.S c' w') : HpM A w' h v t N c' :=
  ⟨H.blk.fr hf (hn h (.inl rfl)), H.row.fr hf fun g hg => hn g (.inr (.inl hg)), fun k it hk => (H.its k it hk).fr hf (hn _ (.inr (.inr ⟨it, List.mem_of_getElem? hk, rfl⟩))), H.ne, hS, H.ap, H.le⟩
theorem HpM.asked {c' : Nat} (H : HpM A w h v t N c) (hf : Fr w w' A.ex) (hS : A.S c' w') : HpM A w' h v t N c' := H.fr hf H.ap hS
theorem HpM.slice (H : HpM A w h v t N c) (hn : 0 < t.length) : ∃ g off cap, v = .slice (some ⟨g, off, none⟩) t.length cap ∧ t.length ≤ cap ∧ g ≠ h ∧ (∀ it, it ∈ t → it.p ≠ g ∧ it.p ≠ h) ∧ (∀ (k : Nat) it, t[k]? = some it → w.cell? ⟨g, off + k, none⟩ = some (ptr it.p)) ∧ ∀ j, w.frozen? ⟨g, j, none⟩ = false := by
  obtain ⟨g, off, cap, cur, rfl, hg, hcap, hmax, hcs, htake⟩ := H.row.more hn
  have hB : Blk w g 27 cur := hg
  refine ⟨g, off, cap, rfl, hcap, hB.neT H.blk (by decide), fun it hit => ?_, fun k it hk => ?_, fun j => frozen_of_row w g j _ _ hg⟩
  · obtain ⟨k, hk⟩ := List.mem_iff_getElem?.1 hit
    exact ⟨(H.its k it hk).neT hB (by decide), (H.its k it hk).neT H.blk (by decide)⟩
  · refine H.row.cell rfl ?_
    rw [List.getElem?_map, hk]; rfl
theorem HpM.form (H : HpM A w h v t N c) : ∃ ao cap, v = .slice ao t.length cap ∧ t.length ≤ cap := H.row.form
theorem map_set {α β : Type} (f : α → β) (l : List α) (i : Nat) (a : α) : (l.set i a).map f = (l.map f).set i (f a) := by rw [List.map_set]
/-- Two items change their places. -/
theorem HpM.swap (H : HpM A w h v t N c) (hA : A.Ok) {i j : Nat} {a b : It Th} (hi : t[i]? = some a) (hj : t[j]? = some b) (hij : i ≠ j) {g off cap : Nat} (hv : v = .slice (some ⟨g, off, none⟩) t.length cap) :
    HpM A ((((w.setCell ⟨g, off + j, none⟩ (ptr a.p)).setCell ⟨a.p, 3, none⟩ (.int .i64 (j : Int))).setCell ⟨g, off + i, none⟩ (ptr b.p)).setCell ⟨b.p, 3, none⟩ (.int .i64 (i : Int))) h v (swpL t i j) N c ∧
    Fr w ((((w.setCell ⟨g, off + j, none⟩ (ptr a.p)).setCell ⟨a.p, 3, none⟩ (.int .i64 (j : Int))).setCell ⟨g, off + i, none⟩ (ptr b.p)).setCell ⟨b.p, 3, none⟩ (.int .i64 (i : Int))) (ownH h v t) := by
  have hil := get_lt hi
  have hjl := get_lt hj
  obtain ⟨g', off', cap', hv', h1, h2, h3, h4, h5⟩ := H.slice (by omega)
  rw [hv] at hv'
  injection hv' with e1 _ e2
  injection e1 with e1
  injection e1 with e1 e3 _
  subst e1 e2 e3
  have hap := (h3 a (List.mem_of_getElem? hi))
  have hbp := (h3 b (List.mem_of_getElem? hj))
  have hab := pw_ne H.ne hi hj hij
  have og : ownH h v t g := .inr (.inl (by rw [hv]; rfl))
  have oa : ownH h v t a.p := .inr (.inr ⟨a, List.mem_of_getElem? hi, rfl⟩)
  have ob : ownH h v t b.p := .inr (.inr ⟨b, List.mem_of_getElem? hj, rfl⟩)
  have f1 : Fr w (w.setCell ⟨g, off + j, none⟩ (ptr a.p)) (fun q => q = g) := Fr.setCell _ _ _ _ rfl
  have r1 : RowAt (w.setCell ⟨g, off + j, none⟩ (ptr a.p)) 27 1 v t.length ((t.map fun it => ptr it.p).set j (ptr a.p)) := by
    have := H.row
    rw [hv] at this ⊢
    exact this.set (by rw [List.length_map]; exact hjl) _
  have b1 : ∀ (k : Nat) it, t[k]? = some it → Blk (w.setCell ⟨g, off + j, none⟩ (ptr a.p)) it.p 100 (icl it k) := fun k it hk => (H.its k it hk).fr f1 (h3 it (List.mem_of_getElem? hk)).1
  have B1 := H.blk.fr f1 (fun e => h2 e.symm)
  generalize w.setCell ⟨g, off + j, none⟩ (ptr a.p) = w1 at *
  have f2 : Fr w1 (w1.setCell ⟨a.p, 3, none⟩ (.int .i64 (j : Int))) (fun q => q = a.p) := Fr.setCell _ _ _ _ rfl
  have r2 := r1.fr f2 (fun q hq e => hap.1 (e ▸ (own_slice hv hq).symm))
  have b2 : ∀ (k : Nat) it, t[k]? = some it → k ≠ i → Blk (w1.setCell ⟨a.p, 3, none⟩ (.int .i64 (j : Int))) it.p 100 (icl it k) := fun k it hk hki => (b1 k it hk).fr f2 (pw_ne H.ne hk hi hki)
  have a2 : Blk (w1.setCell ⟨a.p, 3, none⟩ (.int .i64 (j : Int))) a.p 100 (icl a j) := (b1 i a hi).set 3 _
  have B2 := B1.fr f2 (fun e => hap.2 e.symm)
  generalize w1.setCell ⟨a.p, 3, none⟩ (.int .i64 (j : Int)) = w2 at *
  have f3 : Fr w2 (w2.setCell ⟨g, off + i, none⟩ (ptr b.p)) (fun q => q = g) := Fr.setCell _ _ _ _ rfl
  have r3 : RowAt (w2.setCell ⟨g, off + i, none⟩ (ptr b.p)) 27 1 v t.length (((t.map fun it => ptr it.p).set j (ptr a.p)).set i (ptr b.p)) := by
    rw [hv] at r2 ⊢
    exact r2.set (by rw [List.length_set, List.length_map]; exact hil) _
  have b3 : ∀ (k : Nat) it, t[k]? = some it → k ≠ i → Blk (w2.setCell ⟨g, off + i, none⟩ (ptr b.p)) it.p 100 (icl it k) := fun k it hk hki => (b2 k it hk hki).fr f3 (h3 it (List.mem_of_getElem? hk)).1
  have a3 := a2.fr f3 hap.1
  have B3 := B2.fr f3 (fun e => h2 e.symm)
  generalize w2.setCell ⟨g, off + i, none⟩ (ptr b.p) = w3 at *
  have f4 : Fr w3 (w3.setCell ⟨b.p, 3, none⟩ (.int .i64 (i : Int))) (fun q => q = b.p) := Fr.setCell _ _ _ _ rfl
  have r4 := r3.fr f4 (fun q hq e => hbp.1 (e ▸ (own_slice hv hq).symm))
  have b4 : ∀ (k : Nat) it, t[k]? = some it → k ≠ i → k ≠ j → Blk (w3.setCell ⟨b.p, 3, none⟩ (.int .i64 (i : Int))) it.p 100 (icl it k) := fun k it hk hki hkj => (b3 k it hk hki).fr f4 (pw_ne H.ne hk hj hkj)
  have a4 := a3.fr f4 hab
  have b5 : Blk (w3.setCell ⟨b.p, 3, none⟩ (.int .i64 (i : Int))) b.p 100 (icl b i) := (b3 j b hj (Ne.symm hij)).set 3 _
  have B4 := B3.fr f4 (fun e => hbp.2 e.symm)
  have F : Fr w (w3.setCell ⟨b.p, 3, none⟩ (.int .i64 (i : Int))) (ownH h v t) := by
    refine ((f1.trans f2 (e3 := ownH h v t) fun q _ hq => ?_).trans f3 (e3 := ownH h v t) fun q _ hq => ?_).trans f4 fun q _ hq => ?_
    · rcases hq with rfl | rfl <;> assumption
    · rcases hq with hq | rfl <;> assumption
    · rcases hq with hq | rfl <;> assumption
  generalize w3.setCell ⟨b.p, 3, none⟩ (.int .i64 (i : Int)) = w4 at *
  refine ⟨⟨B4, ?_, fun k it hk => ?_, ?_, hA.keep H.st F H.ap, fun q hq => H.ap q ?_, by rw [swpL_len]; exact H.le⟩, F⟩
  · rw [swpL_len, swpL_eq hi hj, map_set, map_set]; exact r4
  · rw [swpL_get hil hjl] at hk
    by_cases e1 : k = i
    · rw [if_pos e1, hj] at hk; injection hk with hk; subst hk; rw [e1]; exact b5
    · rw [if_neg e1] at hk
      by_cases e2 : k = j
      · rw [if_pos e2, hi] at hk; injection hk with hk; subst hk; rw [e2]; exact a4
      · rw [if_neg e2] at hk; exact b4 k it hk e1 e2
  · exact (swpL_perm hil hjl).symm.pairwise H.ne fun e => Ne.symm e
  · rcases hq with hq | hq | ⟨it, hq1, hq2⟩
    · exact .inl hq
    · exact .inr (.inl hq)
    · exact .inr (.inr ⟨it, (swpL_perm hil hjl).mem_iff.1 hq1, hq2⟩)
end
theorem put_any {w : World} {h g off n cap p k : Nat} {z : Int} (hz : z = k) (hk : k < n) (hb : w.cell? ⟨h, 1, none⟩ = some (.slice (some ⟨g, off, none⟩) n cap)) {u u2 : Value} (c1 : w.cell? ⟨g, off + k, none⟩ = some u) (c2 : w.cell? ⟨p, 3, none⟩ = some u2)
    (f1 : w.frozen? ⟨g, off + k, none⟩ = false) (f2 : w.frozen? ⟨p, 3, none⟩ = false) (hgp : p ≠ g) :
    Calls Try.prog 52 #[ptr h, ptr p, .int .i64 z] w fun e w' => e = .returned (.tuple #[]) ∧ w' = (w.setCell ⟨g, off + k, none⟩ (ptr p)).setCell ⟨p, 3, none⟩ (.int .i64 (k : Int)) := by
  subst hz
  unfold ptr at *
  have hki : (k : Int) < (n : Int) := by omega
  go_enter Try.func52, Try.ntmps52
  go_wp2
  refine ⟨by rfl, .tuple #[], results_none (by rfl) _ _ _, rfl, ?_⟩
  rfl
end Go.Proofs.Ytdnhhcbabdoomaa
