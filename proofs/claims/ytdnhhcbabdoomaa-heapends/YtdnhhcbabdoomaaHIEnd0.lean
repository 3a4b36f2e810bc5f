/-
  HeapEnds: a heap of numbers and a row of items, some of them gone.
-/
import Derived.Test.YtdnhhcbabdoomaaHIAll
import Derived.Test.YtdnhhcbabdoomaaHTwo
import Derived.Maps.OwnIn
namespace Go.Proofs.Ytdnhhcbabdoomaa.I
set_option linter.unusedVariables false
set_option linter.unusedSimpArgs false
open Go.RowKit Go.Great Go.Shelf

/-- An item is in the heap, or it is gone. -/
def ItOk (wr : World) (L : List (It Th)) (p : Nat) : Prop := (∃ (m : Nat) (it : It Th), L[m]? = some it ∧ it.p = p) ∨ (∃ (it : It Th) (k : Nat), it.p = p ∧ Blk wr it.p 110 (icl it k) ∧ ∀ a, a ∈ L → a.p ≠ it.p)
section
variable {o B : Nat} {w wr w' : World} {h : Nat} {v v' : Value} {L L' : List (It Th)} {N N' : Nat}
theorem HpO.gone (H : HpO o B w h v L N) {p : Nat} {cs : Array Value} (hb : Blk w p 110 cs) (hn : ∀ a, a ∈ L → a.p ≠ p) : ¬ ownH h v L p := by
  obtain ⟨⟨c, t, hm, hp, _⟩, _⟩ := H
  intro q
  rcases q with q | q | ⟨it, q1, q2⟩
  · exact hb.neT hm.blk (by decide) q
  · obtain ⟨_, cur, hc⟩ := hm.row.lt q
    exact hb.neT (show Blk w p 51 cur from hc) (by decide) rfl
  · exact hn it q1 q2
theorem ItOk.stay (H : HpO o B w h v L N) (hf : Fr w w' (ownH h v L)) {p : Nat} {it : It Th} {k : Nat} (hb : Blk w it.p 110 (icl it k)) (hn : ∀ a, a ∈ L → a.p ≠ it.p) : Blk w' it.p 110 (icl it k) := hb.fr hf (H.gone hb hn)
theorem ItOk.sm (hf : Fr w w' (fun _ => False)) {p : Nat} (q : ItOk w L p) : ItOk w' L p := by
  rcases q with q | ⟨it, k, q1, q2, q3⟩
  · exact .inl q
  · exact .inr ⟨it, k, q1, q2.fr hf (fun q => q), q3⟩
theorem ItOk.push (H : HpO o B w h v L N) (hf : Fr w w' (ownH h v L)) {x : Th} {p : Nat} (q : ItOk w L p) : ItOk w' (L ++ [⟨w.heap.size, N, x⟩]) p := by
  rcases q with ⟨m, it, q1, q2⟩ | ⟨it, k, q1, q2, q3⟩
  · exact .inl ⟨m, it, by rw [List.getElem?_append_left (get_lt q1)]; exact q1, q2⟩
  · refine .inr ⟨it, k, q1, q2.fr hf (H.gone q2 q3), fun a ha e => ?_⟩
    rcases List.mem_append.1 ha with r | r
    · exact q3 a r e
    · have h1 := q2.lt
      rw [List.mem_singleton.1 r] at e
      have e' : w.heap.size = it.p := e
      omega
theorem pw_erase {L : List (It Th)} (hp : L.Pairwise fun a b => a.p ≠ b.p) {m : Nat} {it : It Th} (hm : L[m]? = some it) : ∀ a, a ∈ L.eraseIdx m → a.p ≠ it.p := by
  intro a ha
  obtain ⟨j, hj⟩ := List.mem_iff_getElem?.1 ha
  rw [List.getElem?_eraseIdx] at hj
  split at hj
  · exact pw_ne hp hj hm (by omega)
  · exact pw_ne hp hj hm (by omega)
theorem ItOk.rem (H : HpO o B w h v L N) (hf : Fr w w' (ownH h v L)) {m : Nat} {it : It Th} (hm : L[m]? = some it) (hb : ∃ k, Blk w' it.p 110 (icl it k)) {p : Nat} (q : ItOk w L p) : ItOk w' (L.eraseIdx m) p := by
  rcases q with ⟨j, a, q1, q2⟩ | ⟨a, k, q1, q2, q3⟩
  · by_cases e : j = m
    · subst e
      rw [hm] at q1
      injection q1 with q1
      subst q1
      obtain ⟨k, hb⟩ := hb
      exact .inr ⟨it, k, q2, hb, pw_erase H.rk.ne hm⟩
    · by_cases hl : j < m
      · exact .inl ⟨j, a, by rw [List.getElem?_eraseIdx, if_pos hl]; exact q1, q2⟩
      · exact .inl ⟨j - 1, a, by rw [List.getElem?_eraseIdx, if_neg (by omega), show j - 1 + 1 = j by omega]; exact q1, q2⟩
  · exact .inr ⟨a, k, q1, q2.fr hf (H.gone q2 q3), fun b hb => q3 b ((List.eraseIdx_sublist _ _).subset hb)⟩
theorem ItOk.set (H : HpO o B w h v L N) (hf : Fr w w' (ownH h v L)) {m : Nat} {it : It Th} (hm : L[m]? = some it) (x : Th) {p : Nat} (q : ItOk w L p) : ItOk w' (L.set m { it with x := x }) p := by
  rcases q with ⟨j, a, q1, q2⟩ | ⟨a, k, q1, q2, q3⟩
  · by_cases e : j = m
    · subst e
      rw [hm] at q1
      injection q1 with q1
      subst q1
      exact .inl ⟨j, { it with x := x }, by rw [List.getElem?_set, if_pos rfl, if_pos (get_lt hm)], q2⟩
    · exact .inl ⟨j, a, by rw [List.getElem?_set, if_neg (Ne.symm e)]; exact q1, q2⟩
  · refine .inr ⟨a, k, q1, q2.fr hf (H.gone q2 q3), fun b hb => ?_⟩
    rcases List.mem_or_eq_of_mem_set hb with r | r
    · exact q3 b r
    · rw [r]; exact q3 it (List.mem_of_getElem? hm)
end
theorem own_push {w : World} {h p N : Nat} {v v' : Value} {L : List (It Th)} {x : Th} {q : Nat} (hv : NewV w v v') (hp : w.heap.size ≤ p) (hq : ownH h v' (L ++ [⟨p, N, x⟩]) q) : ownH h v L q ∨ w.heap.size ≤ q := by
  rcases hq with q1 | q1 | ⟨a, q1, q2⟩
  · exact .inl (.inl q1)
  · rcases hv with r | ⟨g, r, hg⟩
    · rw [r] at q1; exact .inl (.inr (.inl q1))
    · rw [r] at q1; injection q1 with q1; exact .inr (by omega)
  · rcases List.mem_append.1 q1 with q1 | q1
    · exact .inl (.inr (.inr ⟨a, q1, q2⟩))
    · rw [List.mem_singleton.1 q1] at q2
      have : p = q := q2
      exact .inr (by omega)
/-- The heap, and a row of items; at most K were pushed. -/
structure EI (w wr : World) (o h : Nat) (vi : Value) (n K : Nat) (v : Value) (L : List (It Th)) (N : Nat) (P : List Nat) : Prop where
  hp : HpO o w.heap.size wr h v L N
  ok : ∀ p, p ∈ P → ItOk wr L p
  it : RowAt wr 51 1 vi n (P.map ptr)
  ia : ∀ g, vi.ownBlock = some g → ¬ ownH h v L g ∧ w.heap.size ≤ g
  fr : Fr w wr (fun b => w.heap.size ≤ b)
  bd : N ≤ K ∧ L.length ≤ N ∧ n ≤ K ∧ P.length = n
section
variable {w wr w' : World} {o h : Nat} {vi : Value} {n K : Nat} {v v' : Value} {L L' : List (It Th)} {N N' : Nat} {P : List Nat}
theorem EI.sm (E : EI w wr o h vi n K v L N P) (hf : Fr wr w' (fun _ => False)) : EI w w' o h vi n K v L N P :=
  ⟨E.hp.sm hf, fun p hp => (E.ok p hp).sm hf, E.it.fr hf (fun _ _ q => q), E.ia, E.fr.trans hf fun _ _ q => by rcases q with q | q; exact q; exact q.elim, E.bd⟩
theorem EI.more (E : EI w wr o h vi n K v L N P) {K' : Nat} (hK : K ≤ K') : EI w wr o h vi n K' v L N P :=
  ⟨E.hp, E.ok, E.it, E.ia, E.fr, by have := E.bd; omega⟩
theorem EI.upd (E : EI w wr o h vi n K v L N P) {K' : Nat} (H : HpO o w.heap.size w' h v' L' N') (hf : Fr wr w' (ownH h v L)) (hn : ∀ q, ownH h v' L' q → ownH h v L q ∨ wr.heap.size ≤ q) (hok : ∀ p, ItOk wr L p → ItOk w' L' p) (hb : N' ≤ K' ∧ L'.length ≤ N' ∧ n ≤ K') : EI w w' o h vi n K' v' L' N' P := by
  refine ⟨H, fun p hp => hok p (E.ok p hp), E.it.fr hf fun g hg => (E.ia g hg).1, fun g hg => ⟨fun q => ?_, (E.ia g hg).2⟩, E.hp.sml E.fr hf, hb.1, hb.2.1, hb.2.2, E.bd.2.2.2⟩
  rcases hn g q with r | r
  · exact (E.ia g hg).1 r
  · have := (E.it.lt hg).1; omega
theorem EI.app (E : EI w wr o h vi n K v L N P) {p : Nat} {vi' : Value} (hp : ItOk wr L p) (hr : RowAt w' 51 1 vi' (n + 1) (P.map ptr ++ [ptr p])) (hf : Fr wr w' (fun b => vi.ownBlock = some b)) (hn : vi'.ownBlock = vi.ownBlock ∨ vi'.ownBlock = some wr.heap.size ∧ ∀ k, k < wr.heap.size → w'.heap[k]? = wr.heap[k]?) (hK : n + 1 ≤ K) :
    EI w w' o h vi' (n + 1) K v L N (P ++ [p]) := by
  have hB : w.heap.size ≤ wr.heap.size := E.fr.size
  have hok : ∀ p, ItOk wr L p → ItOk w' L p := fun p q => by
    rcases q with q | ⟨it, k, q1, q2, q3⟩
    · exact .inl q
    · exact .inr ⟨it, k, q1, q2.fr hf (E.it.ne_type q2 (by decide)), q3⟩
  refine ⟨E.hp.fr hf fun q h1 h2 => (E.ia q h2).1 h1, fun q hq => ?_, ?_, fun g hg => ?_, E.fr.trans hf fun q _ h => ?_, E.bd.1, E.bd.2.1, hK, by rw [List.length_append, E.bd.2.2.2]; rfl⟩
  · rcases List.mem_append.1 hq with r | r
    · exact hok q (E.ok q r)
    · rw [List.mem_singleton.1 r]; exact hok p hp
  · rw [List.map_append]; exact hr
  · rcases hn with r | ⟨r, _⟩
    · rw [r] at hg; exact E.ia g hg
    · rw [r] at hg; injection hg with hg
      exact ⟨fun q => by have := E.hp.lt q; omega, by omega⟩
  · rcases h with h | h
    · exact h
    · exact (E.ia q h).2
/-- A box of another kind is none of the heap's, nor of the row's. -/
theorem EI.box (E : EI w wr o h vi n K v L N P) {b : Nat} {T : TypeId} {cs : Array Value} (hb : Blk wr b T cs) (h1 : T ≠ 108) (h2 : T ≠ 51) (h3 : T ≠ 110) : ¬ ownH h v L b ∧ ¬ vi.ownBlock = some b :=
  ⟨E.hp.other hb h1 h2 h3, E.it.ne_type hb (Ne.symm h2)⟩
theorem EI.set (E : EI w wr o h vi n K v L N P) {b : Nat} {T : TypeId} {cs : Array Value} (hb : Blk wr b T cs) (h1 : T ≠ 108) (h2 : T ≠ 51) (h3 : T ≠ 110) (hl : w.heap.size ≤ b) (k : Nat) (u : Value) : EI w (wr.setCell ⟨b, k, none⟩ u) o h vi n K v L N P := by
  have F : Fr wr (wr.setCell ⟨b, k, none⟩ u) (fun q => q = b) := Fr.setCell _ _ _ _ rfl
  obtain ⟨x1, x2⟩ := E.box hb h1 h2 h3
  refine ⟨E.hp.fr F fun q hq e => x1 (e ▸ hq), fun p hp => ?_, E.it.fr F fun g hg e => x2 (e ▸ hg), E.ia, E.fr.trans F fun q _ h => by rcases h with h | h; exact h; omega, E.bd⟩
  rcases E.ok p hp with q | ⟨it, k, q1, q2, q3⟩
  · exact .inl q
  · exact .inr ⟨it, k, q1, q2.fr F (fun e => q2.neT hb (Ne.symm h3) e), q3⟩
theorem EI.cell {g off cap : Nat} (E : EI w wr o h (.slice (some ⟨g, off, none⟩) n cap) n K v L N P) {i : Nat} (hi : i < n) : ∃ p, p ∈ P ∧ wr.cell? ⟨g, off + i, none⟩ = some (ptr p) := by
  obtain ⟨p, hp⟩ := get_some P (show i < P.length by rw [E.bd.2.2.2]; exact hi)
  exact ⟨p, List.mem_of_getElem? hp, E.it.cell rfl (by rw [List.getElem?_map, hp]; rfl)⟩
theorem EI.form (E : EI w wr o h vi n K v L N P) : ∃ ao cap, vi = .slice ao n cap ∧ n ≤ cap := E.it.form
end
end Go.Proofs.Ytdnhhcbabdoomaa.I
