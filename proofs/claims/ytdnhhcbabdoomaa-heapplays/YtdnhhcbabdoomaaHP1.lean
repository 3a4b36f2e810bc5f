/-
  HeapPlays: three heaps beside one another, and the reference's; all items in two rows.
-/
import Derived.Test.YtdnhhcbabdoomaaHP0
import Derived.Test.YtdnhhcbabdoomaaHTwo
namespace Go.Proofs.Ytdnhhcbabdoomaa
set_option linter.unusedVariables false
set_option linter.unusedSimpArgs false
open Go.RowKit Go.Great

theorem HpO.nb {o B : Nat} {w : World} {h : Nat} {v : Value} {L : List (It Th)} {N : Nat} (H : HpO o B w h v L N) {b : Nat} {cs : Array Value} (hb : Blk w b 100 cs) (hn : ∀ a, a ∈ L → a.p ≠ b) : ¬ ownH h v L b := by
  obtain ⟨⟨c, t, hm, hp, _⟩, _⟩ := H
  intro q
  rcases q with q | q | ⟨it, q1, q2⟩
  · exact hb.neT hm.blk (by decide) q
  · obtain ⟨_, cur, hc⟩ := hm.row.lt q
    exact hb.neT (show Blk w b 27 cur from hc) (by decide) rfl
  · exact hn it q1 q2
structure St where
  h : Nat → Nat
  v : Nat → Value
  N : Nat → Nat
  r : Nat → Nat
  rv : Nat → Value
  vi : Value
  vj : Value
  C : List Ent
def fset {α : Type} (f : Nat → α) (k : Nat) (a : α) (j : Nat) : α := if j = k then a else f j
theorem fset_eq {α : Type} (f : Nat → α) (k : Nat) (a : α) : fset f k a k = a := by simp [fset]
theorem fset_ne {α : Type} (f : Nat → α) {k j : Nat} (a : α) (h : j ≠ k) : fset f k a j = f j := by simp [fset, h]
def St.cs (S : St) : Array Value := #[ptr (S.h 0), ptr (S.h 1), ptr (S.h 2), ptr (S.r 0), ptr (S.r 1), ptr (S.r 2), S.vi, S.vj]
/-- Where the law stands: col: whose a block is (k: the program's heap k; 3 + k: the reference's; 6, 7: the rows; 8: the world's own; 9: what was there). -/
structure PW (w W : World) (wb : Nat) (S : St) (col : Nat → Nat) : Prop where
  hp : ∀ k, k < 3 → HpO k w.heap.size W (S.h k) (S.v k) (Lk S.C k) (S.N k)
  rh : ∀ k, k < 3 → RH W k (S.r k) (S.rv k) (Rk S.C k)
  it : ∀ e, e ∈ S.C → ∃ j, Blk W e.p 100 (icl e.it j)
  ri : RowAt W 27 1 S.vi S.C.length (S.C.map fun e => ptr e.p)
  rj : RowAt W 133 1 S.vj S.C.length (S.C.map fun e => ptr e.q)
  bw : Blk W wb 89 S.cs
  cp : ∀ k, k < 3 → ∀ b, ownH (S.h k) (S.v k) (Lk S.C k) b → col b = k
  cr : ∀ k, k < 3 → ∀ b, ownR (S.r k) (S.rv k) (Rk S.C k) b → col b = 3 + k
  ce : ∀ e, e ∈ S.C → e.k < 3 ∧ col e.p = e.k
  ci : ∀ b, S.vi.ownBlock = some b → col b = 6
  cj : ∀ b, S.vj.ownBlock = some b → col b = 7
  cw : col wb = 8
  lo : ∀ b, b < w.heap.size → col b = 9
  nn : ∀ k, k < 3 → S.N k ≤ S.C.length
  ne : ∀ (i j : Nat) a b, S.C[i]? = some a → S.C[j]? = some b → a.p = b.p → i = j
  fr : Fr w W (fun b => w.heap.size ≤ b)
  le : S.C.length ≤ 100000
/-- The blocks that are the law's own. -/
def owns (wb : Nat) (S : St) (b : Nat) : Prop := (∃ k, k < 3 ∧ (ownH (S.h k) (S.v k) (Lk S.C k) b ∨ ownR (S.r k) (S.rv k) (Rk S.C k) b)) ∨ S.vi.ownBlock = some b ∨ S.vj.ownBlock = some b ∨ b = wb ∨ ∃ e, e ∈ S.C ∧ e.p = b
section
variable {w W W' : World} {wb : Nat} {S : St} {col : Nat → Nat}
theorem PW.frO (H : PW w W wb S col) {ex : Nat → Prop} (hf : Fr W W' ex) (hx : ∀ b, ex b → ¬ owns wb S b) (hl : ∀ b, b < W.heap.size → ex b → w.heap.size ≤ b) : PW w W' wb S col := by
  refine ⟨fun k hk => (H.hp k hk).fr hf fun b hb q => hx b q (.inl ⟨k, hk, .inl hb⟩), fun k hk => (H.rh k hk).fr hf fun b hb q => hx b q (.inl ⟨k, hk, .inr hb⟩), fun e he => ?_, H.ri.fr hf fun g hg q => hx g q (.inr (.inl hg)), H.rj.fr hf fun g hg q => hx g q (.inr (.inr (.inl hg))), H.bw.fr hf fun q => hx wb q (.inr (.inr (.inr (.inl rfl)))), H.cp, H.cr, H.ce, H.ci, H.cj, H.cw, H.lo, H.nn, H.ne, H.fr.trans hf fun b hb q => ?_, H.le⟩
  · obtain ⟨j, hj⟩ := H.it e he
    exact ⟨j, hj.fr hf fun q => hx _ q (.inr (.inr (.inr (.inr ⟨e, he, rfl⟩))))⟩
  · rcases q with q | q
    · exact q
    · exact hl b (Nat.lt_of_lt_of_le hb H.fr.size) q
theorem PW.oLt (H : PW w W wb S col) {b : Nat} (hb : owns wb S b) : b < W.heap.size := by
  rcases hb with ⟨k, hk, q | q⟩ | q | q | q | ⟨e, he, q⟩
  · exact (H.hp k hk).lt q
  · exact (H.rh k hk).lt q
  · exact (H.ri.lt q).1
  · exact (H.rj.lt q).1
  · rw [q]; exact H.bw.lt
  · obtain ⟨j, hj⟩ := H.it e he
    rw [← q]; exact hj.lt
/-- What is written is nobody's. -/
theorem PW.frm (H : PW w W wb S col) {ex : Nat → Prop} (hf : Fr W W' ex) (hx : ∀ b, ex b → col b = 10 ∨ W.heap.size ≤ b) : PW w W' wb S col := by
  have n1 : ∀ b, b < W.heap.size → col b < 10 → ¬ ex b := fun b h1 h2 h3 => by rcases hx b h3 with q | q <;> omega
  refine ⟨fun k hk => (H.hp k hk).fr hf fun b hb => n1 b ((H.hp k hk).lt hb) (by rw [H.cp k hk b hb]; omega), fun k hk => (H.rh k hk).fr hf fun b hb => n1 b ((H.rh k hk).lt hb) (by rw [H.cr k hk b hb]; omega), fun e he => ?_, H.ri.fr hf fun g hg => n1 g (H.ri.lt hg).1 (by rw [H.ci g hg]; omega), H.rj.fr hf fun g hg => n1 g (H.rj.lt hg).1 (by rw [H.cj g hg]; omega), H.bw.fr hf (n1 _ H.bw.lt (by rw [H.cw]; omega)), H.cp, H.cr, H.ce, H.ci, H.cj, H.cw, H.lo, H.nn, H.ne, H.fr.trans hf fun b hb q => ?_, H.le⟩
  · obtain ⟨j, hj⟩ := H.it e he
    exact ⟨j, hj.fr hf (n1 _ hj.lt (by have := H.ce e he; omega))⟩
  · rcases q with q | q
    · exact q
    · rcases hx b q with r | r
      · by_cases hb2 : b < w.heap.size
        · have := H.lo b hb2; omega
        · omega
      · have := H.fr.size; omega
theorem PW.sm (H : PW w W wb S col) (hf : Fr W W' (fun _ => False)) : PW w W' wb S col := H.frm hf fun _ q => q.elim
/-- An item that is gone is no part of its heap. -/
theorem PW.gone (H : PW w W wb S col) {m : Nat} {e : Ent} (he : S.C[m]? = some e) (hg : e.gone = true) : ∀ a, a ∈ Lk S.C e.k → a.p ≠ e.p := fun a ha q => by
  obtain ⟨i, hi⟩ := List.mem_iff_getElem?.1 ha
  obtain ⟨m2, e2, h1, h2, h3, h4, _⟩ := Lk_inv hi
  have := H.ne m m2 e e2 he h1 (by rw [← h4] at q; exact q.symm)
  subst this
  rw [he] at h1
  injection h1 with h1
  subst h1
  rw [hg] at h3
  cases h3
/-- An item of another heap's is no part of this one. -/
theorem PW.other (H : PW w W wb S col) {k : Nat} {e : Ent} (hk : k < 3) (he : e ∈ S.C) (hne : e.k ≠ k) : ∀ a, a ∈ Lk S.C k → a.p ≠ e.p := fun a ha q => by
  have h1 := H.cp k hk a.p (.inr (.inr ⟨a, ha, rfl⟩))
  have h2 := (H.ce e he).2
  rw [q] at h1
  omega
theorem PW.rother (H : PW w W wb S col) {k : Nat} {e : Ent} (hk : k < 3) (he : e ∈ S.C) (hne : e.k ≠ k) : ∀ a, a ∈ Rk S.C k → a.p ≠ e.q := fun a ha q => by
  have h1 := H.cr k hk a.p (.inr (.inr ⟨a, ha, rfl⟩))
  have h3 : e.ri ∈ Rk S.C e.k := List.mem_map.2 ⟨e, List.mem_filter.2 ⟨he, by simp [isK]⟩, rfl⟩
  have h2 := H.cr e.k (H.ce e he).1 e.q (.inr (.inr ⟨e.ri, h3, rfl⟩))
  rw [q] at h1
  omega
theorem ownH_set {h : Nat} {v v' : Value} {L L' : List (It Th)} (hv : v'.ownBlock = v.ownBlock) (hL : ∀ a, a ∈ L' → ∃ d, d ∈ L ∧ d.p = a.p) {b : Nat} (hb : ownH h v' L' b) : ownH h v L b := by
  rcases hb with q | q | ⟨a, q, q2⟩
  · exact .inl q
  · exact .inr (.inl (hv ▸ q))
  · obtain ⟨d, h1, h2⟩ := hL a q
    exact .inr (.inr ⟨d, h1, h2.trans q2⟩)
theorem ownR_set {h : Nat} {v : Value} {R R' : List RIt} (hL : ∀ a, a ∈ R' → ∃ d, d ∈ R ∧ d.p = a.p) {b : Nat} (hb : ownR h v R' b) : ownR h v R b := by
  rcases hb with q | q | ⟨a, q, q2⟩
  · exact .inl q
  · exact .inr (.inl q)
  · obtain ⟨d, h1, h2⟩ := hL a q
    exact .inr (.inr ⟨d, h1, h2.trans q2⟩)
/-- One item is another one now (gone, or with another thing), in both heaps. -/
theorem PW.upd (H : PW w W wb S col) {k m : Nat} {e e' : Ent} (he : S.C[m]? = some e) (hk : e.k = k) (hk' : e'.k = k) (hp : e'.p = e.p) (hq : e'.q = e.q) (hgg : e.gone = true → e'.gone = true) {v' : Value}
    (hf : Fr W W' (fun b => ownH (S.h k) (S.v k) (Lk S.C k) b ∨ ownR (S.r k) (S.rv k) (Rk S.C k) b))
    (h1 : HpO k w.heap.size W' (S.h k) v' (Lk (S.C.set m e') k) (S.N k)) (hv : v'.ownBlock = (S.v k).ownBlock)
    (h2 : RH W' k (S.r k) (S.rv k) (Rk (S.C.set m e') k))
    (hb : ∃ j, Blk W' e.p 100 (icl e'.it j)) : PW w W' wb { S with v := fset S.v k v', C := S.C.set m e' } col ∧ ∀ b, owns wb { S with v := fset S.v k v', C := S.C.set m e' } b → owns wb S b := by
  have hm := List.mem_of_getElem? he
  have hk3 : k < 3 := by rw [← hk]; exact (H.ce e hm).1
  have hml := (List.getElem?_eq_some_iff.1 he).1
  have ex : ∀ b, ownH (S.h k) (S.v k) (Lk S.C k) b ∨ ownR (S.r k) (S.rv k) (Rk S.C k) b → col b = k ∨ col b = 3 + k := fun b q => by
    rcases q with q | q
    · exact .inl (H.cp k hk3 b q)
    · exact .inr (H.cr k hk3 b q)
  have n1 : ∀ b, col b ≠ k → col b ≠ 3 + k → ¬ (ownH (S.h k) (S.v k) (Lk S.C k) b ∨ ownR (S.r k) (S.rv k) (Rk S.C k) b) := fun b q1 q2 q3 => by rcases ex b q3 with q | q; exact q1 q; exact q2 q
  have get : ∀ (i : Nat) a, (S.C.set m e')[i]? = some a → ∃ d, S.C[i]? = some d ∧ d.p = a.p ∧ d.q = a.q ∧ d.k = a.k ∧ (i = m ∧ a = e' ∨ i ≠ m ∧ a = d) := fun i a hi => by
    rw [List.getElem?_set] at hi
    by_cases hmi : m = i
    · subst hmi
      rw [if_pos rfl, if_pos hml] at hi
      injection hi with hi
      exact ⟨e, he, by rw [← hi, hp], by rw [← hi, hq], by rw [← hi, hk, hk'], .inl ⟨rfl, hi.symm⟩⟩
    · rw [if_neg hmi] at hi
      exact ⟨a, hi, rfl, rfl, rfl, .inr ⟨fun q => hmi q.symm, rfl⟩⟩
  have mp : (S.C.set m e').map (fun e => ptr e.p) = S.C.map fun e => ptr e.p := by
    refine List.ext_getElem? fun i => ?_
    rw [List.getElem?_map, List.getElem?_map]
    by_cases hmi : i = m
    · subst hmi
      rw [List.getElem?_set_self hml, he]
      show some (ptr e'.p) = some (ptr e.p)
      rw [hp]
    · rw [List.getElem?_set_ne (fun q => hmi q.symm)]
  have mq : (S.C.set m e').map (fun e => ptr e.q) = S.C.map fun e => ptr e.q := by
    refine List.ext_getElem? fun i => ?_
    rw [List.getElem?_map, List.getElem?_map]
    by_cases hmi : i = m
    · subst hmi
      rw [List.getElem?_set_self hml, he]
      show some (ptr e'.q) = some (ptr e.q)
      rw [hq]
    · rw [List.getElem?_set_ne (fun q => hmi q.symm)]
  have oth : ∀ j, j ≠ k → Lk (S.C.set m e') j = Lk S.C j ∧ Rk (S.C.set m e') j = Rk S.C j := fun j hj => ⟨Lk_else he (by omega) (by omega), Rk_else he (by omega) (by omega)⟩
  have sub : ∀ b, ownH (S.h k) v' (Lk (S.C.set m e') k) b → ownH (S.h k) (S.v k) (Lk S.C k) b := fun b hb2 => by
    refine ownH_set hv (fun a ha => ?_) hb2
    obtain ⟨i, hi⟩ := List.mem_iff_getElem?.1 ha
    obtain ⟨m2, a2, g1, g2, g3, g4, _⟩ := Lk_inv hi
    obtain ⟨d, k1, k2, k3, k4, k5⟩ := get m2 a2 g1
    have hdg : d.gone = false := by
      rcases k5 with ⟨r1, r2⟩ | ⟨_, r2⟩
      · subst r1 r2
        rw [he] at k1
        injection k1 with k1
        subst k1
        cases hg : e.gone with
        | false => rfl
        | true => rw [hgg hg] at g3; cases g3
      · rw [← r2]; exact g3
    exact ⟨d.it, List.mem_of_getElem? (Lk_get k1 (by rw [k4]; exact g2) hdg), by rw [← g4]; exact k2⟩
  have subr : ∀ b, ownR (S.r k) (S.rv k) (Rk (S.C.set m e') k) b → ownR (S.r k) (S.rv k) (Rk S.C k) b := fun b hb2 => by
    refine ownR_set (fun a ha => ?_) hb2
    obtain ⟨i, hi⟩ := List.mem_iff_getElem?.1 ha
    obtain ⟨m2, a2, g1, g2, g3, _⟩ := Rk_inv hi
    obtain ⟨d, k1, k2, k3, k4, k5⟩ := get m2 a2 g1
    exact ⟨d.ri, List.mem_of_getElem? (Rk_get k1 (by rw [k4]; exact g2)), by rw [← g3]; exact k3⟩
  refine ⟨?_, fun b hb => ?_⟩
  rotate_left
  · rcases hb with ⟨j, hj, q⟩ | q | q | q | ⟨a, ha, q⟩
    · refine .inl ⟨j, hj, ?_⟩
      by_cases hjk : j = k
      · subst hjk
        rcases q with q | q
        · have h9 : ownH (S.h j) (fset S.v j v' j) (Lk (S.C.set m e') j) b := q
          rw [fset_eq] at h9
          exact .inl (sub b h9)
        · exact .inr (subr b q)
      · rcases q with q | q
        · have h9 : ownH (S.h j) (fset S.v k v' j) (Lk (S.C.set m e') j) b := q
          rw [fset_ne _ _ hjk, (oth j hjk).1] at h9
          exact .inl h9
        · have h9 : ownR (S.r j) (S.rv j) (Rk (S.C.set m e') j) b := q
          rw [(oth j hjk).2] at h9
          exact .inr h9
    · exact .inr (.inl q)
    · exact .inr (.inr (.inl q))
    · exact .inr (.inr (.inr (.inl q)))
    · obtain ⟨i, hi⟩ := List.mem_iff_getElem?.1 (show a ∈ S.C.set m e' from ha)
      obtain ⟨d, k1, k2, _⟩ := get i a hi
      exact .inr (.inr (.inr (.inr ⟨d, List.mem_of_getElem? k1, k2.trans q⟩)))
  refine ⟨fun j hj => ?_, fun j hj => ?_, fun a ha => ?_, ?_, ?_, H.bw.fr hf (n1 _ (by rw [H.cw]; omega) (by rw [H.cw]; omega)), fun j hj b hb2 => ?_, fun j hj b hb2 => ?_, fun a ha => ?_, H.ci, H.cj, H.cw, H.lo, fun j hj => ?_, fun i j a b hi hj hab => ?_, H.fr.trans hf fun b hb q => ?_, ?_⟩
  · by_cases hjk : j = k
    · subst hjk
      show HpO j w.heap.size W' (S.h j) (fset S.v j v' j) (Lk (S.C.set m e') j) (S.N j)
      rw [fset_eq]
      exact h1
    · show HpO j w.heap.size W' (S.h j) (fset S.v k v' j) (Lk (S.C.set m e') j) (S.N j)
      rw [fset_ne _ _ hjk, (oth j hjk).1]
      exact (H.hp j hj).fr hf fun b hb2 => n1 b (by rw [H.cp j hj b hb2]; omega) (by rw [H.cp j hj b hb2]; omega)
  · by_cases hjk : j = k
    · subst hjk; exact h2
    · show RH W' j (S.r j) (S.rv j) (Rk (S.C.set m e') j)
      rw [(oth j hjk).2]
      exact (H.rh j hj).fr hf fun b hb2 => n1 b (by rw [H.cr j hj b hb2]; omega) (by rw [H.cr j hj b hb2]; omega)
  · obtain ⟨i, hi⟩ := List.mem_iff_getElem?.1 (show a ∈ S.C.set m e' from ha)
    obtain ⟨d, k1, k2, k3, k4, k5⟩ := get i a hi
    rcases k5 with ⟨r1, r2⟩ | ⟨r1, r2⟩
    · subst r2
      rw [hp]
      exact hb
    · subst r2
      obtain ⟨j, hj⟩ := H.it a (List.mem_of_getElem? k1)
      by_cases hak : a.k = k
      · cases hag : a.gone with
        | false =>
          obtain ⟨j2, hj2⟩ := h1.blk (Lk_get hi hak hag)
          exact ⟨j2, hj2⟩
        | true =>
          refine ⟨j, hj.fr hf fun q => ?_⟩
          rcases q with q | q
          · exact (H.hp k hk3).nb hj (by rw [← hak]; exact H.gone k1 hag) q
          · have h3 := H.cr k hk3 _ q
            have h4 := (H.ce a (List.mem_of_getElem? k1)).2
            omega
      · refine ⟨j, hj.fr hf (n1 _ ?_ ?_)⟩
        · have h4 := H.ce a (List.mem_of_getElem? k1); omega
        · have h4 := H.ce a (List.mem_of_getElem? k1); omega
  · show RowAt W' 27 1 S.vi (S.C.set m e').length ((S.C.set m e').map fun e => ptr e.p)
    rw [mp, List.length_set]
    exact H.ri.fr hf fun g hg => n1 g (by rw [H.ci g hg]; omega) (by rw [H.ci g hg]; omega)
  · show RowAt W' 133 1 S.vj (S.C.set m e').length ((S.C.set m e').map fun e => ptr e.q)
    rw [mq, List.length_set]
    exact H.rj.fr hf fun g hg => n1 g (by rw [H.cj g hg]; omega) (by rw [H.cj g hg]; omega)
  · by_cases hjk : j = k
    · subst hjk
      exact H.cp j hj b (sub b (by have h9 : ownH (S.h j) (fset S.v j v' j) (Lk (S.C.set m e') j) b := hb2; rw [fset_eq] at h9; exact h9))
    · exact H.cp j hj b (by have h9 : ownH (S.h j) (fset S.v k v' j) (Lk (S.C.set m e') j) b := hb2; rw [fset_ne _ _ hjk, (oth j hjk).1] at h9; exact h9)
  · by_cases hjk : j = k
    · subst hjk; exact H.cr j hj b (subr b hb2)
    · exact H.cr j hj b (by have h9 : ownR (S.r j) (S.rv j) (Rk (S.C.set m e') j) b := hb2; rw [(oth j hjk).2] at h9; exact h9)
  · obtain ⟨i, hi⟩ := List.mem_iff_getElem?.1 (show a ∈ S.C.set m e' from ha)
    obtain ⟨d, k1, k2, k3, k4, k5⟩ := get i a hi
    have := H.ce d (List.mem_of_getElem? k1)
    rw [← k2, ← k4]
    exact this
  · show S.N j ≤ (S.C.set m e').length
    rw [List.length_set]
    exact H.nn j hj
  · obtain ⟨d, k1, k2, _⟩ := get i a hi
    obtain ⟨d2, l1, l2, _⟩ := get j b hj
    exact H.ne i j d d2 k1 l1 (by rw [k2, l2]; exact hab)
  · rcases q with q | q
    · exact q
    · have := ex b q
      by_cases hb2 : b < w.heap.size
      · have := H.lo b hb2; omega
      · omega
  · show (S.C.set m e').length ≤ 100000
    rw [List.length_set]
    exact H.le
end
end Go.Proofs.Ytdnhhcbabdoomaa
