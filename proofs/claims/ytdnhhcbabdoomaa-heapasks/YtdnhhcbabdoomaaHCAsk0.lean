/-
  HeapAsks: a heap of things that count, and a row of items, some of them gone.
-/
import Derived.Test.YtdnhhcbabdoomaaHCAll
import Derived.Test.YtdnhhcbabdoomaaHTwo
import Derived.Maps.OwnIn
namespace Go.Proofs.Ytdnhhcbabdoomaa.C
set_option linter.unusedVariables false
set_option linter.unusedSimpArgs false
open Go.RowKit Go.Great Go.Shelf

/-- An item is in the heap, or it is gone. -/
def ItOk (tb : Nat) (wr : World) (L : List (It Th)) (p : Nat) : Prop := (∃ (m : Nat) (it : It Th), L[m]? = some it ∧ it.p = p) ∨ (∃ (it : It Th) (k : Nat), it.p = p ∧ Blk wr it.p 120 (icl tb it k) ∧ ∀ a, a ∈ L → a.p ≠ it.p)
section
variable {tb : Nat} {w wr w' : World} {h : Nat} {v v' : Value} {L L' : List (It Th)} {N N' c : Nat}
theorem HpA.rk {A : Ask} (H : HpA A w h v L N c) : Rkd L N := by
  obtain ⟨t, h1, h2, h3, _⟩ := H
  exact h3
theorem HpA.other {A : Ask} (H : HpA A w h v L N c) {b : Nat} {T : TypeId} {cs : Array Value} (hb : Blk w b T cs) (h1 : T ≠ 118) (h2 : T ≠ 70) (h3 : T ≠ 120) : ¬ ownH h v L b := by
  obtain ⟨t, hm, hp, _⟩ := H
  intro q
  rcases q with q | q | ⟨it, q1, q2⟩
  · exact hb.neT hm.blk h1 q
  · obtain ⟨_, cur, hc⟩ := hm.row.lt q
    exact hb.neT (show Blk w b 70 cur from hc) h2 rfl
  · obtain ⟨k, hk⟩ := List.mem_iff_getElem?.1 (hp.mem_iff.2 q1)
    exact (hm.its k it hk).neT hb (Ne.symm h3) q2
theorem HpA.gone (H : HpA (askT tb) w h v L N c) {p : Nat} {cs : Array Value} (hb : Blk w p 120 cs) (hn : ∀ a, a ∈ L → a.p ≠ p) : ¬ (ownH h v L p ∨ p = tb) := by
  have hS : Blk w tb 68 _ := H.st
  obtain ⟨t, hm, hp, _⟩ := H
  intro q
  rcases q with (q | q | ⟨it, q1, q2⟩) | q
  · exact hb.neT hm.blk (by decide) q
  · obtain ⟨_, cur, hc⟩ := hm.row.lt q
    exact hb.neT (show Blk w p 70 cur from hc) (by decide) rfl
  · exact hn it q1 q2
  · exact hb.neT hS (by decide) q
theorem ItOk.sm (hf : Fr w w' (fun _ => False)) {p : Nat} (q : ItOk tb w L p) : ItOk tb w' L p := by
  rcases q with q | ⟨it, k, q1, q2, q3⟩
  · exact .inl q
  · exact .inr ⟨it, k, q1, q2.fr hf (fun q => q), q3⟩
theorem ItOk.push (H : HpA (askT tb) w h v L N c) (hf : Fr w w' (fun b => ownH h v L b ∨ b = tb)) {x : Th} {p : Nat} (q : ItOk tb w L p) : ItOk tb w' (L ++ [⟨w.heap.size + 1, N, x⟩]) p := by
  rcases q with ⟨m, it, q1, q2⟩ | ⟨it, k, q1, q2, q3⟩
  · exact .inl ⟨m, it, by rw [List.getElem?_append_left (get_lt q1)]; exact q1, q2⟩
  · refine .inr ⟨it, k, q1, q2.fr hf (H.gone q2 q3), fun a ha e => ?_⟩
    rcases List.mem_append.1 ha with r | r
    · exact q3 a r e
    · have h1 := q2.lt
      rw [List.mem_singleton.1 r] at e
      have e' : w.heap.size + 1 = it.p := e
      omega
theorem pw_erase {L : List (It Th)} (hp : L.Pairwise fun a b => a.p ≠ b.p) {m : Nat} {it : It Th} (hm : L[m]? = some it) : ∀ a, a ∈ L.eraseIdx m → a.p ≠ it.p := by
  intro a ha
  obtain ⟨j, hj⟩ := List.mem_iff_getElem?.1 ha
  rw [List.getElem?_eraseIdx] at hj
  split at hj
  · exact pw_ne hp hj hm (by omega)
  · exact pw_ne hp hj hm (by omega)
theorem ItOk.rem (H : HpA (askT tb) w h v L N c) (hf : Fr w w' (fun b => ownH h v L b ∨ b = tb)) {m : Nat} {it : It Th} (hm : L[m]? = some it) (hb : ∃ k, Blk w' it.p 120 (icl tb it k)) {p : Nat} (q : ItOk tb w L p) : ItOk tb w' (L.eraseIdx m) p := by
  rcases q with ⟨j, a, q1, q2⟩ | ⟨a, k, q1, q2, q3⟩
  · by_cases e : j = m
    · subst e
      rw [hm] at q1
      injection q1 with q1
      subst q1
      obtain ⟨k, hb⟩ := hb
      exact .inr ⟨it, k, q2, hb, pw_erase H.rk.ne hm⟩
    · by_cases hl : j < m
      · exact .inl ⟨j, a, by rw [List.getElem?_eraseIdx, if_pos hl]; exact q1, q2⟩
      · exact .inl ⟨j - 1, a, by rw [List.getElem?_eraseIdx, if_neg (by omega), show j - 1 + 1 = j by omega]; exact q1, q2⟩
  · exact .inr ⟨a, k, q1, q2.fr hf (H.gone q2 q3), fun b hb => q3 b ((List.eraseIdx_sublist _ _).subset hb)⟩
theorem ItOk.set (H : HpA (askT tb) w h v L N c) (hf : Fr w w' (fun b => ownH h v L b ∨ b = tb)) {m : Nat} {it : It Th} (hm : L[m]? = some it) (x : Th) {p : Nat} (q : ItOk tb w L p) : ItOk tb w' (L.set m { it with x := x }) p := by
  rcases q with ⟨j, a, q1, q2⟩ | ⟨a, k, q1, q2, q3⟩
  · by_cases e : j = m
    · subst e
      rw [hm] at q1
      injection q1 with q1
      subst q1
      exact .inl ⟨j, { it with x := x }, by rw [List.getElem?_set, if_pos rfl, if_pos (get_lt hm)], q2⟩
    · exact .inl ⟨j, a, by rw [List.getElem?_set, if_neg (Ne.symm e)]; exact q1, q2⟩
  · refine .inr ⟨a, k, q1, q2.fr hf (H.gone q2 q3), fun b hb => ?_⟩
    rcases List.mem_or_eq_of_mem_set hb with r | r
    · exact q3 b r
    · rw [r]; exact q3 it (List.mem_of_getElem? hm)
end
theorem own_push {w : World} {h p N : Nat} {v v' : Value} {L : List (It Th)} {x : Th} {q : Nat} (hv : NewV w v v') (hp : w.heap.size ≤ p) (hq : ownH h v' (L ++ [⟨p, N, x⟩]) q) : ownH h v L q ∨ w.heap.size ≤ q := by
  rcases hq with q1 | q1 | ⟨a, q1, q2⟩
  · exact .inl (.inl q1)
  · rcases hv with r | ⟨g, r, hg⟩
    · rw [r] at q1; exact .inl (.inr (.inl q1))
    · rw [r] at q1; injection q1 with q1; exact .inr (by omega)
  · rcases List.mem_append.1 q1 with q1 | q1
    · exact .inl (.inr (.inr ⟨a, q1, q2⟩))
    · rw [List.mem_singleton.1 q1] at q2
      have : p = q := q2
      exact .inr (by omega)
theorem own_set {h : Nat} {v : Value} {L : List (It Th)} {x : Th} {m b : Nat} {it : It Th} (hm : L[m]? = some it) (hb : ownH h v (L.set m { it with x := x }) b) : ownH h v L b := by
  rcases hb with q | q | ⟨a, q, q2⟩
  · exact .inl q
  · exact .inr (.inl q)
  · rcases List.mem_or_eq_of_mem_set q with r | r
    · exact .inr (.inr ⟨a, r, q2⟩)
    · rw [r] at q2; exact .inr (.inr ⟨it, List.mem_of_getElem? hm, q2⟩)
/-- The heap, and a row of items; at most K were pushed; c questions were asked; l things are in it. -/
structure AI (w wr : World) (tb h : Nat) (vi : Value) (n K c l : Nat) (v : Value) (L : List (It Th)) (N : Nat) (P : List Nat) : Prop where
  hp : HpA (askT tb) wr h v L N c
  lo : ∀ b, ownH h v L b → w.heap.size ≤ b
  ok : ∀ p, p ∈ P → ItOk tb wr L p
  it : RowAt wr 70 1 vi n (P.map ptr)
  ia : ∀ g, vi.ownBlock = some g → ¬ ownH h v L g ∧ w.heap.size ≤ g
  fr : Fr w wr (fun b => w.heap.size ≤ b)
  tl : w.heap.size ≤ tb
  bd : N ≤ K ∧ L.length ≤ N ∧ n ≤ K ∧ P.length = n ∧ L.length = l
/-- What is of no heap, and not the tally, stays. -/
def Kp (w w' : World) : Prop := ∀ (b : Nat) (T : TypeId) (cs : Array Value), Blk w b T cs → T ≠ 118 → T ≠ 70 → T ≠ 120 → T ≠ 68 → Blk w' b T cs
section
variable {w wr w' : World} {tb h : Nat} {vi : Value} {n K c l : Nat} {v v' : Value} {L L' : List (It Th)} {N N' c' l' : Nat} {P : List Nat}
theorem AI.tally (E : AI w wr tb h vi n K c l v L N P) : Blk wr tb 68 #[.int .i64 (wrap64 (c : Int))] := E.hp.st
theorem AI.rowT (E : AI w wr tb h vi n K c l v L N P) : ¬ vi.ownBlock = some tb := E.it.ne_type E.tally (by decide)
theorem AI.sm (E : AI w wr tb h vi n K c l v L N P) (hf : Fr wr w' (fun _ => False)) : AI w w' tb h vi n K c l v L N P :=
  ⟨E.hp.sm hf, E.lo, fun p hp => (E.ok p hp).sm hf, E.it.fr hf (fun _ _ q => q), E.ia, E.fr.trans hf fun _ _ q => by rcases q with q | q; exact q; exact q.elim, E.tl, E.bd⟩
theorem AI.more (E : AI w wr tb h vi n K c l v L N P) {K' : Nat} (hK : K ≤ K') : AI w wr tb h vi n K' c l v L N P :=
  ⟨E.hp, E.lo, E.ok, E.it, E.ia, E.fr, E.tl, by have := E.bd; omega⟩
theorem AI.kp (E : AI w wr tb h vi n K c l v L N P) (hf : Fr wr w' (fun b => ownH h v L b ∨ b = tb)) : Kp wr w' := fun b T cs hb h1 h2 h3 h4 => hb.fr hf fun q => by
  rcases q with q | q
  · exact E.hp.other hb h1 h2 h3 q
  · exact hb.neT E.tally h4 q
theorem AI.upd (E : AI w wr tb h vi n K c l v L N P) {K' : Nat} (H : HpA (askT tb) w' h v' L' N' c') (hf : Fr wr w' (fun b => ownH h v L b ∨ b = tb)) (hn : ∀ q, ownH h v' L' q → ownH h v L q ∨ wr.heap.size ≤ q) (hok : ∀ p, ItOk tb wr L p → ItOk tb w' L' p) (hb : N' ≤ K' ∧ L'.length ≤ N' ∧ n ≤ K' ∧ L'.length = l') : AI w w' tb h vi n K' c' l' v' L' N' P := by
  have hsz := E.fr.size
  refine ⟨H, fun b hb => ?_, fun p hp => hok p (E.ok p hp), E.it.fr hf fun g hg q => ?_, fun g hg => ⟨fun q => ?_, (E.ia g hg).2⟩, E.fr.trans hf fun b _ q => ?_, E.tl, hb.1, hb.2.1, hb.2.2.1, E.bd.2.2.2.1, hb.2.2.2⟩
  · rcases hn b hb with r | r
    · exact E.lo b r
    · omega
  · rcases q with q | q
    · exact (E.ia g hg).1 q
    · exact E.rowT (q ▸ hg)
  · rcases hn g q with r | r
    · exact (E.ia g hg).1 r
    · have := (E.it.lt hg).1; omega
  · rcases q with q | q | q
    · exact q
    · exact E.lo b q
    · rw [q]; exact E.tl
theorem AI.app (E : AI w wr tb h vi n K c l v L N P) {p : Nat} {vi' : Value} (hp : ItOk tb wr L p) (hr : RowAt w' 70 1 vi' (n + 1) (P.map ptr ++ [ptr p])) (hf : Fr wr w' (fun b => vi.ownBlock = some b)) (hn : vi'.ownBlock = vi.ownBlock ∨ vi'.ownBlock = some wr.heap.size ∧ ∀ k, k < wr.heap.size → w'.heap[k]? = wr.heap[k]?) (hK : n + 1 ≤ K) :
    AI w w' tb h vi' (n + 1) K c l v L N (P ++ [p]) := by
  have hB : w.heap.size ≤ wr.heap.size := E.fr.size
  have hok : ∀ p, ItOk tb wr L p → ItOk tb w' L p := fun p q => by
    rcases q with q | ⟨it, k, q1, q2, q3⟩
    · exact .inl q
    · exact .inr ⟨it, k, q1, q2.fr hf (E.it.ne_type q2 (by decide)), q3⟩
  refine ⟨E.hp.fr hf (fun q h1 h2 => (E.ia q h2).1 h1) ((askT_ok tb).keep E.hp.st hf fun b q hx => ?_), E.lo, fun q hq => ?_, ?_, fun g hg => ?_, E.fr.trans hf fun q _ h => ?_, E.tl, E.bd.1, E.bd.2.1, hK, by rw [List.length_append, E.bd.2.2.2.1]; rfl, E.bd.2.2.2.2⟩
  · have hb : b = tb := hx
    exact E.rowT (hb ▸ q)
  · rcases List.mem_append.1 hq with r | r
    · exact hok q (E.ok q r)
    · rw [List.mem_singleton.1 r]; exact hok p hp
  · rw [List.map_append]; exact hr
  · rcases hn with r | ⟨r, _⟩
    · rw [r] at hg; exact E.ia g hg
    · rw [r] at hg; injection hg with hg
      exact ⟨fun q => by have := E.hp.lt q; omega, by omega⟩
  · rcases h with h | h
    · exact h
    · exact (E.ia q h).2
theorem AI.cell {g off cap : Nat} (E : AI w wr tb h (.slice (some ⟨g, off, none⟩) n cap) n K c l v L N P) {i : Nat} (hi : i < n) : ∃ p, p ∈ P ∧ wr.cell? ⟨g, off + i, none⟩ = some (ptr p) := by
  obtain ⟨p, hp⟩ := get_some P (show i < P.length by rw [E.bd.2.2.2.1]; exact hi)
  exact ⟨p, List.mem_of_getElem? hp, E.it.cell rfl (by rw [List.getElem?_map, hp]; rfl)⟩
/-- A box of another kind is none of the row's. -/
theorem AI.row (E : AI w wr tb h vi n K c l v L N P) {b : Nat} {T : TypeId} {cs : Array Value} (hb : Blk wr b T cs) (h2 : T ≠ 70) : ¬ vi.ownBlock = some b := E.it.ne_type hb (Ne.symm h2)
theorem Push_E (E : AI w wr tb h vi n K c l v L N P) (x : Th) (hK : K < 100000) :
    Calls Try.prog 31 #[ptr h, .agg #[.int .i64 x.k, ptr tb]] wr fun e w' => e = .returned (ptr (wr.heap.size + 1)) ∧ (∃ m v L N, AI w w' tb h vi n (K + 1) (c + m) (l + 1) v L N P ∧ ItOk tb w' L (wr.heap.size + 1) ∧ m ≤ 4 * (clN l + 1)) ∧ Kp wr w' := by
  have hb := E.bd
  refine (Push_A E.hp (askT_ok tb) x (by omega) (by omega)).mono ?_
  rintro r w' ⟨rfl, ⟨v', m, q1, qm, q2⟩, q3⟩
  have e' : AI w w' tb h vi n (K + 1) (c + m) (l + 1) v' (L ++ [⟨wr.heap.size + 1, N, x⟩]) (N + 1) P := E.upd q1 q3 (fun q hq => own_push q2 (by omega) hq) (fun p hp => hp.push E.hp q3) ⟨by omega, by rw [List.length_append]; simp; omega, by omega, by rw [List.length_append, hb.2.2.2.2]; rfl⟩
  refine ⟨rfl, ⟨_, _, _, _, e', .inl ⟨L.length, _, by rw [List.getElem?_append_right (Nat.le_refl _), Nat.sub_self]; rfl, rfl⟩, ?_⟩, E.kp q3⟩
  have := log_push L.length
  rw [hb.2.2.2.2] at this qm
  omega
theorem Pop_E' (E : AI w wr tb h vi n K c l v L N P) :
    Calls Try.prog 34 #[ptr h] wr fun e w' => ∃ z r l', e = .returned (.tuple #[z, .int .i64 r]) ∧ (∃ m v L N, AI w w' tb h vi n K (c + m) l' v L N P ∧ m ≤ 4 * (clN l + 1)) ∧ Kp wr w' ∧ (r = 0 ∧ l = l' + 1 ∨ r = 110 ∧ l' = l) := by
  have hb := E.bd
  by_cases hL : L = []
  · subst hL
    refine (Pop_E E.hp (askT_ok tb)).mono ?_
    rintro r w' ⟨rfl, q1, q2⟩
    exact ⟨_, _, _, rfl, ⟨0, _, _, _, E.sm q2, Nat.zero_le _⟩, fun b T cs hb _ _ _ _ => hb.fr q2 (fun q => q), .inr ⟨rfl, rfl⟩⟩
  · refine (Pop_A E.hp (askT_ok tb) hL).mono ?_
    rintro r w' ⟨j, it, hm, _, rfl, ⟨v', m, q1, qm, q2⟩, q3, q4⟩
    have hlt := get_lt hm
    have e' : AI w w' tb h vi n K (c + m) (l - 1) v' (L.eraseIdx j) N P := E.upd q1 q4 (fun q hq => .inl (own_erase q2 hq)) (fun p hp => hp.rem E.hp q4 hm q3) ⟨by omega, by rw [List.length_eraseIdx]; split <;> omega, by omega, by rw [List.length_eraseIdx, if_pos hlt, hb.2.2.2.2]⟩
    refine ⟨_, _, _, rfl, ⟨_, _, _, _, e', ?_⟩, E.kp q4, .inl ⟨rfl, by omega⟩⟩
    have := log_rem L.length
    rw [hb.2.2.2.2] at this qm
    omega
theorem Remove_E (E : AI w wr tb h vi n K c l v L N P) {p : Nat} (hP : p ∈ P) :
    Calls Try.prog 35 #[ptr h, ptr p] wr fun e w' => ∃ z r l', e = .returned (.tuple #[z, .int .i64 r]) ∧ (∃ m v L N, AI w w' tb h vi n K (c + m) l' v L N P ∧ m ≤ 4 * (clN l + 1)) ∧ Kp wr w' ∧ (r = 0 ∧ l = l' + 1 ∨ r = 111 ∧ l' = l) := by
  have hb := E.bd
  rcases E.ok p hP with ⟨j, it, hm, rfl⟩ | ⟨it, k, rfl, r1, r2⟩
  · refine (Remove_A E.hp (askT_ok tb) hm).mono ?_
    rintro r w' ⟨rfl, ⟨v', m, q1, qm, q2⟩, q3, q4⟩
    have hlt := get_lt hm
    have e' : AI w w' tb h vi n K (c + m) (l - 1) v' (L.eraseIdx j) N P := E.upd q1 q4 (fun q hq => .inl (own_erase q2 hq)) (fun p hp => hp.rem E.hp q4 hm q3) ⟨by omega, by rw [List.length_eraseIdx]; split <;> omega, by omega, by rw [List.length_eraseIdx, if_pos hlt, hb.2.2.2.2]⟩
    refine ⟨_, _, _, rfl, ⟨_, _, _, _, e', ?_⟩, E.kp q4, .inl ⟨rfl, by omega⟩⟩
    have := log_rem L.length
    rw [hb.2.2.2.2] at this qm
    omega
  · refine (Remove_G E.hp (askT_ok tb) r1 r2).mono ?_
    rintro r w' ⟨rfl, q1, q2⟩
    exact ⟨_, _, _, rfl, ⟨0, _, _, _, E.sm q2, Nat.zero_le _⟩, fun b T cs hb _ _ _ _ => hb.fr q2 (fun q => q), .inr ⟨rfl, rfl⟩⟩
theorem Set_E (E : AI w wr tb h vi n K c l v L N P) (x : Th) {p : Nat} (hP : p ∈ P) :
    Calls Try.prog 36 #[ptr h, ptr p, .agg #[.int .i64 x.k, ptr tb]] wr fun e w' => ∃ r, e = .returned (.int .i64 r) ∧ (∃ m v L N, AI w w' tb h vi n K (c + m) l v L N P ∧ m ≤ 4 * (clN l + 1)) ∧ Kp wr w' ∧ (r = 0 ∨ r = 111) := by
  have hb := E.bd
  rcases E.ok p hP with ⟨j, it, hm, rfl⟩ | ⟨it, k, rfl, r1, r2⟩
  · refine (Set_A E.hp (askT_ok tb) x hm).mono ?_
    rintro r w' ⟨rfl, ⟨m, q1, qm⟩, q4⟩
    have e' : AI w w' tb h vi n K (c + m) l v (L.set j { it with x := x }) N P := E.upd q1 q4 (fun q hq => .inl (own_set hm hq)) (fun p hp => hp.set E.hp q4 hm x) ⟨by omega, by rw [List.length_set]; omega, by omega, by rw [List.length_set, hb.2.2.2.2]⟩
    refine ⟨_, rfl, ⟨_, _, _, _, e', ?_⟩, E.kp q4, .inl rfl⟩
    have := log_rem L.length
    rw [hb.2.2.2.2] at this qm
    omega
  · refine (Set_G E.hp (askT_ok tb) x r1 r2).mono ?_
    rintro r w' ⟨rfl, q1, q2⟩
    exact ⟨_, rfl, ⟨0, _, _, _, E.sm q2, Nat.zero_le _⟩, fun b T cs hb _ _ _ _ => hb.fr q2 (fun q => q), .inr rfl⟩
theorem Len_E (E : AI w wr tb h vi n K c l v L N P) : Calls Try.prog 33 #[ptr h] wr fun e w' => e = .returned (.int .i64 (l : Int)) ∧ w' = wr := by
  have := Len_any E.hp
  rw [E.bd.2.2.2.2] at this
  exact this
theorem Value_E (E : AI w wr tb h vi n K c l v L N P) {p : Nat} (hP : p ∈ P) : Calls Try.prog 38 #[ptr p] wr fun e w' => (∃ r, e = .returned r) ∧ Fr wr w' (fun _ => False) := by
  obtain ⟨it, k, rfl, hB⟩ : ∃ (it : It Th) (k : Nat), it.p = p ∧ Blk wr it.p 120 (icl tb it k) := by
    rcases E.ok p hP with ⟨j, it, hm, e⟩ | ⟨it, k, e, r1, r2⟩
    · obtain ⟨k, hk⟩ := E.hp.blk hm
      exact ⟨it, k, e, hk⟩
    · exact ⟨it, k, e, r1⟩
  exact (Value_any (A := askT tb) hB).mono fun e w' q => ⟨⟨_, q.1⟩, q.2⟩
end
end Go.Proofs.Ytdnhhcbabdoomaa.C
