/-
  HeapEnds: what the law holds, call by call.
-/
import Derived.Test.YtdnhhcbabdoomaaHIEnd0
namespace Go.Proofs.Ytdnhhcbabdoomaa.I
set_option linter.unusedVariables false
set_option linter.unusedSimpArgs false
open Go.RowKit Go.Great Go.Shelf

/-- What is of no heap stays. -/
def Kp (w w' : World) : Prop := ∀ (b : Nat) (T : TypeId) (cs : Array Value), Blk w b T cs → T ≠ 108 → T ≠ 51 → T ≠ 110 → Blk w' b T cs
/-- The heap, the row of items, the marks of those loops that were gone through. -/
structure EB (w wr : World) (o h : Nat) (vi : Value) (n K : Nat) (Ds : List Nat) : Prop where
  e : ∃ v L N P, EI w wr o h vi n K v L N P
  ms : ∀ D, D ∈ Ds → wr.heap[D]? = some (.deferred (some []))
  nd : Ds.Nodup
  lo : ∀ D, D ∈ Ds → w.heap.size ≤ D
section
variable {w wr w' : World} {o h : Nat} {vi : Value} {n K : Nat} {v v' : Value} {L L' : List (It Th)} {N N' : Nat} {P : List Nat} {Ds : List Nat}
theorem HpO.noCells {B b : Nat} {ds : Option (List Deferred)} (H : HpO o B w h v L N) (hb : w.heap[b]? = some (.deferred ds)) : ¬ ownH h v L b := by
  obtain ⟨⟨c, t, hm, hp, _⟩, _⟩ := H
  intro q
  have hc : ∃ cs T, w.heap[b]? = some (.cells cs T (0, 0)) := by
    rcases q with q | q | ⟨it, q1, q2⟩
    · subst q; exact ⟨_, _, hm.blk⟩
    · obtain ⟨_, cur, hc⟩ := hm.row.lt q
      exact ⟨_, _, hc⟩
    · obtain ⟨k, hk⟩ := List.mem_iff_getElem?.1 (hp.mem_iff.2 q1)
      subst q2
      exact ⟨_, _, hm.its k it hk⟩
  obtain ⟨cs, T, hc⟩ := hc
  rw [hc] at hb
  cases hb
theorem EI.noRow {b : Nat} {ds : Option (List Deferred)} (E : EI w wr o h vi n K v L N P) (hb : wr.heap[b]? = some (.deferred ds)) : ¬ vi.ownBlock = some b := by
  intro q
  obtain ⟨_, cur, hc⟩ := E.it.lt q
  rw [hc] at hb
  cases hb
theorem EI.kp (E : EI w wr o h vi n K v L N P) (hf : Fr wr w' (ownH h v L)) : Kp wr w' := fun b T cs hb h1 h2 h3 => hb.fr hf (E.hp.other hb h1 h2 h3)
theorem EI.ms (E : EI w wr o h vi n K v L N P) (hf : Fr wr w' (ownH h v L)) (hm : ∀ D, D ∈ Ds → wr.heap[D]? = some (.deferred (some []))) : ∀ D, D ∈ Ds → w'.heap[D]? = some (.deferred (some [])) := fun D hD =>
  (hf.block D (Array.getElem?_eq_some_iff.1 (hm D hD)).1 (E.hp.noCells (hm D hD))).trans (hm D hD)
theorem EB.sm (E : EB w wr o h vi n K Ds) (hf : Fr wr w' (fun _ => False)) : EB w w' o h vi n K Ds := by
  obtain ⟨⟨v, L, N, P, e⟩, h1, h2, h3⟩ := E
  exact ⟨⟨v, L, N, P, e.sm hf⟩, fun D hD => (hf.block D (Array.getElem?_eq_some_iff.1 (h1 D hD)).1 (fun q => q)).trans (h1 D hD), h2, h3⟩
theorem EB.more (E : EB w wr o h vi n K Ds) {K' : Nat} (hK : K ≤ K') : EB w wr o h vi n K' Ds := by
  obtain ⟨⟨v, L, N, P, e⟩, h1, h2, h3⟩ := E
  exact ⟨⟨v, L, N, P, e.more hK⟩, h1, h2, h3⟩
theorem EB.frw (E : EB w wr o h vi n K Ds) : Fr w wr (fun b => w.heap.size ≤ b) := by
  obtain ⟨⟨v, L, N, P, e⟩, _⟩ := E
  exact e.fr
/-- What lies behind all that there was changes nothing. -/
theorem EB.far (E : EB w wr o h vi n K Ds) (hf : Fr wr w' (fun b => wr.heap.size ≤ b)) : EB w w' o h vi n K Ds := by
  obtain ⟨⟨v, L, N, P, e⟩, h1, h2, h3⟩ := E
  have hok : ∀ p, ItOk wr L p → ItOk w' L p := fun p q => by
    rcases q with q | ⟨it, k, q1, q2, q3⟩
    · exact .inl q
    · exact .inr ⟨it, k, q1, q2.fr hf (fun q => by have := q2.lt; omega), q3⟩
  refine ⟨⟨v, L, N, P, ⟨e.hp.fr hf fun b hb q => by have := e.hp.lt hb; omega, fun p hp => hok p (e.ok p hp), e.it.fr hf fun g hg q => by have := (e.it.lt hg).1; omega, e.ia, e.fr.trans hf fun b _ q => ?_, e.bd⟩⟩, fun D hD => ?_, h2, h3⟩
  · rcases q with q | q
    · exact q
    · have := e.fr.size; omega
  · have hl := (Array.getElem?_eq_some_iff.1 (h1 D hD)).1
    exact (hf.block D hl (fun q => by omega)).trans (h1 D hD)
theorem EB.mark (E : EB w wr o h vi n K Ds) {D : Nat} (hD : wr.heap[D]? = some (.deferred (some []))) (hn : D ∉ Ds) (hl : w.heap.size ≤ D) : EB w wr o h vi n K (D :: Ds) := by
  obtain ⟨e, h1, h2, h3⟩ := E
  refine ⟨e, fun d hd => ?_, List.nodup_cons.2 ⟨hn, h2⟩, fun d hd => ?_⟩
  · rcases List.mem_cons.1 hd with q | q
    · rw [q]; exact hD
    · exact h1 d q
  · rcases List.mem_cons.1 hd with q | q
    · rw [q]; exact hl
    · exact h3 d q
theorem EB.set (E : EB w wr o h vi n K Ds) {b : Nat} {T : TypeId} {cs : Array Value} (hb : Blk wr b T cs) (h1 : T ≠ 108) (h2 : T ≠ 51) (h3 : T ≠ 110) (hl : w.heap.size ≤ b) (k : Nat) (u : Value) : EB w (wr.setCell ⟨b, k, none⟩ u) o h vi n K Ds := by
  obtain ⟨⟨v, L, N, P, e⟩, q1, q2, q3⟩ := E
  refine ⟨⟨v, L, N, P, e.set hb h1 h2 h3 hl k u⟩, fun D hD => ?_, q2, q3⟩
  have F : Fr wr (wr.setCell ⟨b, k, none⟩ u) (fun q => q = b) := Fr.setCell _ _ _ _ rfl
  refine (F.block D (Array.getElem?_eq_some_iff.1 (q1 D hD)).1 fun e => ?_).trans (q1 D hD)
  unfold Blk at hb
  rw [← e, q1 D hD] at hb
  cases hb
theorem Push_E (E : EB w wr o h vi n K Ds) (x : Th) (hK : K < 100000) :
    Calls Try.prog 22 #[ptr h, .int .i64 x.k] wr fun e w' => e = .returned (ptr wr.heap.size) ∧ (∃ v L N P, EI w w' o h vi n (K + 1) v L N P ∧ ItOk w' L wr.heap.size) ∧ EB w w' o h vi n (K + 1) Ds ∧ Kp wr w' := by
  obtain ⟨⟨v, L, N, P, e⟩, h1, h2, h3⟩ := E
  have hb := e.bd
  refine (Push_O e.hp x (by omega) (by omega)).mono ?_
  rintro r w' ⟨rfl, ⟨v', q1, q2⟩, q3⟩
  have e' : EI w w' o h vi n (K + 1) v' (L ++ [⟨wr.heap.size, N, x⟩]) (N + 1) P := e.upd q1 q3 (fun q hq => own_push q2 (Nat.le_refl _) hq) (fun p hp => hp.push e.hp q3) ⟨by omega, by rw [List.length_append]; simp; omega, by omega⟩
  exact ⟨rfl, ⟨_, _, _, _, e', .inl ⟨L.length, _, by rw [List.getElem?_append_right (Nat.le_refl _), Nat.sub_self]; rfl, rfl⟩⟩, ⟨⟨_, _, _, _, e'⟩, e.ms q3 h1, h2, h3⟩, e.kp q3⟩
theorem Pop_E' (E : EB w wr o h vi n K Ds) :
    Calls Try.prog 23 #[ptr h] wr fun e w' => (∃ a b, e = .returned (.tuple #[.int .i64 a, .int .i64 b])) ∧ EB w w' o h vi n K Ds ∧ Kp wr w' := by
  obtain ⟨⟨v, L, N, P, e⟩, h1, h2, h3⟩ := E
  have hb := e.bd
  by_cases hL : L = []
  · subst hL
    refine (Pop_Z e.hp).mono ?_
    rintro r w' ⟨rfl, q1, q2⟩
    exact ⟨⟨_, _, rfl⟩, (show EB w wr o h vi n K Ds from ⟨⟨v, [], N, P, e⟩, h1, h2, h3⟩).sm q2, fun b T cs hb _ _ _ => hb.fr q2 (fun q => q)⟩
  · refine (Pop_O e.hp hL).mono ?_
    rintro r w' ⟨m, it, hm, rfl, ⟨v', q1, q2⟩, q3, q4⟩
    have e' : EI w w' o h vi n K v' (L.eraseIdx m) N P := e.upd q1 q4 (fun q hq => .inl (own_erase q2 hq)) (fun p hp => hp.rem e.hp q4 hm q3) ⟨by omega, by rw [List.length_eraseIdx]; split <;> omega, by omega⟩
    exact ⟨⟨_, _, rfl⟩, ⟨⟨_, _, _, _, e'⟩, e.ms q4 h1, h2, h3⟩, e.kp q4⟩
theorem Remove_E (E : EB w wr o h vi n K Ds) {p : Nat} (hp : ∃ v L N P, EI w wr o h vi n K v L N P ∧ p ∈ P) :
    Calls Try.prog 24 #[ptr h, ptr p] wr fun e w' => (∃ a b, e = .returned (.tuple #[.int .i64 a, .int .i64 b])) ∧ EB w w' o h vi n K Ds ∧ Kp wr w' := by
  obtain ⟨v, L, N, P, e, hP⟩ := hp
  obtain ⟨_, h1, h2, h3⟩ := E
  have hb := e.bd
  rcases e.ok p hP with ⟨m, it, hm, rfl⟩ | ⟨it, k, rfl, r1, r2⟩
  · refine (Remove_O e.hp hm).mono ?_
    rintro r w' ⟨rfl, ⟨v', q1, q2⟩, q3, q4⟩
    have e' : EI w w' o h vi n K v' (L.eraseIdx m) N P := e.upd q1 q4 (fun q hq => .inl (own_erase q2 hq)) (fun p hp => hp.rem e.hp q4 hm q3) ⟨by omega, by rw [List.length_eraseIdx]; split <;> omega, by omega⟩
    exact ⟨⟨_, _, rfl⟩, ⟨⟨_, _, _, _, e'⟩, e.ms q4 h1, h2, h3⟩, e.kp q4⟩
  · refine (Remove_Z e.hp r1 r2).mono ?_
    rintro r w' ⟨rfl, q1, q2⟩
    exact ⟨⟨_, _, rfl⟩, (show EB w wr o h vi n K Ds from ⟨⟨v, L, N, P, e⟩, h1, h2, h3⟩).sm q2, fun b T cs hb _ _ _ => hb.fr q2 (fun q => q)⟩
theorem Set_E (E : EB w wr o h vi n K Ds) (x : Th) {p : Nat} (hp : ∃ v L N P, EI w wr o h vi n K v L N P ∧ p ∈ P) :
    Calls Try.prog 25 #[ptr h, ptr p, .int .i64 x.k] wr fun e w' => (∃ a, e = .returned (.int .i64 a)) ∧ EB w w' o h vi n K Ds ∧ Kp wr w' := by
  obtain ⟨v, L, N, P, e, hP⟩ := hp
  obtain ⟨_, h1, h2, h3⟩ := E
  have hb := e.bd
  rcases e.ok p hP with ⟨m, it, hm, rfl⟩ | ⟨it, k, rfl, r1, r2⟩
  · refine (Set_O e.hp x hm).mono ?_
    rintro r w' ⟨rfl, q1, q4⟩
    have e' : EI w w' o h vi n K v (L.set m { it with x := x }) N P := e.upd q1 q4 (fun q hq => .inl (own_set hm hq)) (fun p hp => hp.set e.hp q4 hm x) ⟨by omega, by rw [List.length_set]; omega, by omega⟩
    exact ⟨⟨_, rfl⟩, ⟨⟨_, _, _, _, e'⟩, e.ms q4 h1, h2, h3⟩, e.kp q4⟩
  · refine (Set_Z e.hp x r1 r2).mono ?_
    rintro r w' ⟨rfl, q1, q2⟩
    exact ⟨⟨_, rfl⟩, (show EB w wr o h vi n K Ds from ⟨⟨v, L, N, P, e⟩, h1, h2, h3⟩).sm q2, fun b T cs hb _ _ _ => hb.fr q2 (fun q => q)⟩
theorem Len_E (E : EB w wr o h vi n K Ds) : Calls Try.prog 28 #[ptr h] wr fun e w' => (∃ a, e = .returned (.int .i64 a)) ∧ w' = wr := by
  obtain ⟨⟨v, L, N, P, e⟩, h1, h2, h3⟩ := E
  exact (Len_O e.hp).mono fun e w' q => ⟨⟨_, q.1⟩, q.2⟩
theorem Peek_E (E : EB w wr o h vi n K Ds) : Calls Try.prog 27 #[ptr h] wr fun e w' => (∃ a b, e = .returned (.tuple #[.int .i64 a, .int .i64 b])) ∧ w' = wr := by
  obtain ⟨⟨v, L, N, P, e⟩, h1, h2, h3⟩ := E
  exact Peek_O e.hp
end
def mkD (D : Nat) : Deferred := { target := .collected D, args := #[] }
/-- A function that leaves with marks alone. -/
theorem leave_marks {F : Fence} {n : Nat} {P : Program} {fn : Func} {tmps : Array Value} {R : Ending → World → Prop} : ∀ (Ds : List Nat) (W : World), (∀ D, D ∈ Ds → W.heap[D]? = some (.deferred (some []))) → Ds.Nodup →
    (∀ W', Fr W W' (fun b => b ∈ Ds) → LeavesIn F n P fn tmps R [] .returning W') → LeavesInM F n P fn tmps R (Ds.map mkD) .returning W
  | [], W, _, _, h => h W (Fr.refl _ _)
  | D :: Ds, W, hm, hn, h => by
    obtain ⟨n1, n2⟩ := List.nodup_cons.1 hn
    have h0 := hm D (List.mem_cons_self)
    refine ⟨by simp, .inl ⟨D, _, rfl, run_takeDeferred h0, ?_⟩⟩
    have F9 := fr_put W D (.deferred none)
    refine leave_marks Ds _ (fun d hd => ?_) n2 fun W' hf => h W' (F9.trans hf fun b _ q => ?_)
    · have h1 := hm d (List.mem_cons_of_mem _ hd)
      exact (F9.block d (Array.getElem?_eq_some_iff.1 h1).1 (fun e => n1 (e ▸ hd))).trans h1
    · rcases q with q | q
      · rw [q]; exact List.mem_cons_self
      · exact List.mem_cons_of_mem _ q
end Go.Proofs.Ytdnhhcbabdoomaa.I
