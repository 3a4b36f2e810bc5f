/-
  heap: heaps that a call has made, by one of the three orders.
-/
import Derived.Test.YtdnhhcbabdoomaaHLess
namespace Go.Proofs.Ytdnhhcbabdoomaa
set_option linter.unusedVariables false
set_option linter.unusedSimpArgs false
open Go.RowKit Go.Great

/-- A heap by one of the three orders, made behind B. -/
structure HpO (o B : Nat) (w : World) (h : Nat) (v : Value) (L : List (It Th)) (N : Nat) : Prop where
  a : ∃ c, HpA (askO o) w h v L N c
  lo : ∀ b, ownH h v L b → B ≤ b
  o3 : o < 3
section
variable {o B : Nat} {w w' : World} {h : Nat} {v : Value} {L : List (It Th)} {N : Nat}
theorem HpO.fr {e : Nat → Prop} (H : HpO o B w h v L N) (hf : Fr w w' e) (hn : ∀ b, ownH h v L b → ¬ e b) : HpO o B w' h v L N := by
  obtain ⟨⟨c, h1⟩, h2, h3⟩ := H
  exact ⟨⟨c, h1.fr hf hn trivial⟩, h2, h3⟩
theorem HpO.sm (H : HpO o B w h v L N) (hf : Fr w w' (fun _ => False)) : HpO o B w' h v L N := H.fr hf fun _ _ q => q
theorem HpO.lt (H : HpO o B w h v L N) {b : Nat} (hb : ownH h v L b) : b < w.heap.size := by
  obtain ⟨⟨c, h1⟩, h2⟩ := H
  exact h1.lt hb
theorem HpO.rk (H : HpO o B w h v L N) : Rkd L N := by
  obtain ⟨⟨c, t, h1, h2, h3, _⟩, _⟩ := H
  exact h3
theorem HpO.blk (H : HpO o B w h v L N) {m : Nat} {it : It Th} (hm : L[m]? = some it) : ∃ k, Blk w it.p 100 (icl it k) := by
  obtain ⟨⟨c, h1⟩, h2⟩ := H
  exact h1.blk hm
/-- What is of another kind is not the heap's own. -/
theorem HpO.other (H : HpO o B w h v L N) {b : Nat} {T : TypeId} {cs : Array Value} (hb : Blk w b T cs) (h1 : T ≠ 98) (h2 : T ≠ 27) (h3 : T ≠ 100) : ¬ ownH h v L b := by
  obtain ⟨⟨c, t, hm, hp, _⟩, _⟩ := H
  intro q
  rcases q with q | q | ⟨it, q1, q2⟩
  · exact hb.neT hm.blk h1 q
  · obtain ⟨_, cur, hc⟩ := hm.row.lt q
    exact hb.neT (show Blk w b 27 cur from hc) h2 rfl
  · obtain ⟨k, hk⟩ := List.mem_iff_getElem?.1 (hp.mem_iff.2 q1)
    exact (hm.its k it hk).neT hb (Ne.symm h3) q2
theorem fr_of {e : Nat → Prop} {o : Nat} (hf : Fr w w' (fun b => e b ∨ (askO o).ex b)) : Fr w w' e := hf.mono fun b _ q => by rcases q with q | q; exact q; exact q.elim
theorem made_O (o : Nat) (z : Int) (hz : z = (o : Int)) (ho : o < 3) (w : World) (hB : B ≤ w.heap.size) :
    Calls Try.prog 10 #[.int .i64 z] w fun e w' => e = .returned (ptr w.heap.size) ∧ HpO o B w' w.heap.size (.slice none 0 0) [] 0 ∧ Fr w w' (fun _ => False) := by
  refine (made_any o z hz ho w).mono ?_
  rintro e w' ⟨rfl, h1, h2⟩
  refine ⟨rfl, ⟨⟨0, h1⟩, fun b hb => ?_, ho⟩, h2⟩
  rcases hb with q | q | ⟨it, q, _⟩
  · omega
  · cases q
  · cases q
theorem Push_O (H : HpO o B w h v L N) (x : Th) (hlen : L.length < 1000000000) (hN : N < 1000000000) :
    Calls Try.prog 11 #[ptr h, .agg #[.int .i64 x.k, .int .i64 x.g]] w fun e w' => e = .returned (ptr (w.heap.size + 1)) ∧
      (∃ v', HpO o B w' h v' (L ++ [⟨w.heap.size + 1, N, x⟩]) (N + 1) ∧ NewV w v v') ∧ Fr w w' (ownH h v L) := by
  have HL := H.lo
  have hBw : B ≤ w.heap.size := by have h1 := H.lo h (.inl rfl); have h2 := H.lt (.inl rfl); omega
  obtain ⟨⟨c, ha⟩, h2, ho⟩ := H
  refine (Push_A ha (askO_ok o ho) x hlen hN).mono ?_
  rintro e w' ⟨rfl, ⟨v', n, h1, _, h3⟩, h4⟩
  refine ⟨rfl, ⟨v', ⟨⟨_, h1⟩, fun b hb => ?_, ho⟩, h3⟩, fr_of h4⟩
  rcases hb with q | q | ⟨it, q, q2⟩
  · exact HL b (.inl q)
  · rcases h3 with r | ⟨g, r, hg⟩
    · rw [r] at q; exact HL b (.inr (.inl q))
    · rw [r] at q; injection q with q; omega
  · rcases List.mem_append.1 q with q | q
    · exact HL b (.inr (.inr ⟨it, q, q2⟩))
    · rw [List.mem_singleton.1 q] at q2
      have : w.heap.size + 1 = b := q2
      omega
theorem own_erase {v' : Value} {m b : Nat} (hv : v'.ownBlock = v.ownBlock) (hb : ownH h v' (L.eraseIdx m) b) : ownH h v L b := by
  rcases hb with q | q | ⟨it, q, q2⟩
  · exact .inl q
  · rw [hv] at q; exact .inr (.inl q)
  · exact .inr (.inr ⟨it, (List.eraseIdx_sublist _ _).subset q, q2⟩)
theorem Remove_O (H : HpO o B w h v L N) {m : Nat} {it : It Th} (hm : L[m]? = some it) :
    Calls Try.prog 16 #[ptr h, ptr it.p] w fun e w' => e = .returned (.tuple #[.agg #[.int .i64 it.x.k, .int .i64 it.x.g], .int .i64 0]) ∧
      (∃ v', HpO o B w' h v' (L.eraseIdx m) N ∧ v'.ownBlock = v.ownBlock) ∧ (∃ k, Blk w' it.p 100 (icl it k)) ∧ Fr w w' (ownH h v L) := by
  obtain ⟨⟨c, ha⟩, h2, ho⟩ := H
  refine (Remove_A ha (askO_ok o ho) hm).mono ?_
  rintro e w' ⟨rfl, ⟨v', n, h1, _, h3⟩, h4, h5⟩
  exact ⟨rfl, ⟨v', ⟨⟨_, h1⟩, fun b hb => h2 b (own_erase h3 hb), ho⟩, h3⟩, h4, fr_of h5⟩
theorem own_set {x : Th} {m b : Nat} {it : It Th} (hm : L[m]? = some it) (hb : ownH h v (L.set m { it with x := x }) b) : ownH h v L b := by
  rcases hb with q | q | ⟨a, q, q2⟩
  · exact .inl q
  · exact .inr (.inl q)
  · rcases List.mem_or_eq_of_mem_set q with r | r
    · exact .inr (.inr ⟨a, r, q2⟩)
    · rw [r] at q2; exact .inr (.inr ⟨it, List.mem_of_getElem? hm, q2⟩)
theorem Set_O (H : HpO o B w h v L N) (x : Th) {m : Nat} {it : It Th} (hm : L[m]? = some it) :
    Calls Try.prog 17 #[ptr h, ptr it.p, .agg #[.int .i64 x.k, .int .i64 x.g]] w fun e w' => e = .returned (.int .i64 0) ∧ HpO o B w' h v (L.set m { it with x := x }) N ∧ Fr w w' (ownH h v L) := by
  obtain ⟨⟨c, ha⟩, h2, ho⟩ := H
  refine (Set_A ha (askO_ok o ho) x hm).mono ?_
  rintro e w' ⟨rfl, ⟨n, h1, _⟩, h5⟩
  exact ⟨rfl, ⟨⟨_, h1⟩, fun b hb => h2 b (own_set hm hb), ho⟩, fr_of h5⟩
theorem Pop_O (H : HpO o B w h v L N) (hL : L ≠ []) :
    Calls Try.prog 14 #[ptr h] w fun e w' => ∃ m it, L[m]? = some it ∧ IsMin (lsB o) (L.map (·.x)) m ∧ e = .returned (.tuple #[.agg #[.int .i64 it.x.k, .int .i64 it.x.g], .int .i64 0]) ∧
      (∃ v', HpO o B w' h v' (L.eraseIdx m) N ∧ v'.ownBlock = v.ownBlock) ∧ (∃ k, Blk w' it.p 100 (icl it k)) ∧ Fr w w' (ownH h v L) := by
  obtain ⟨⟨c, ha⟩, h2, ho⟩ := H
  refine (Pop_A ha (askO_ok o ho) hL).mono ?_
  rintro e w' ⟨m, it, hm, hmin, rfl, ⟨v', n, h1, _, h3⟩, h4, h5⟩
  exact ⟨m, it, hm, hmin (lsB_ord o), rfl, ⟨v', ⟨⟨_, h1⟩, fun b hb => h2 b (own_erase h3 hb), ho⟩, h3⟩, h4, fr_of h5⟩
theorem Pop_Z (H : HpO o B w h v [] N) :
    Calls Try.prog 14 #[ptr h] w fun e w' => e = .returned (.tuple #[.agg #[.int .i64 0, .int .i64 0], .int .i64 110]) ∧ HpO o B w' h v [] N ∧ Fr w w' (fun _ => False) := by
  obtain ⟨⟨c, ha⟩, h2, ho⟩ := H
  refine (Pop_E ha (askO_ok o ho)).mono ?_
  rintro e w' ⟨rfl, h1, h3⟩
  exact ⟨rfl, ⟨⟨_, h1⟩, h2, ho⟩, h3⟩
theorem Remove_Z (H : HpO o B w h v L N) {k : Nat} {it : It Th} (hb : Blk w it.p 100 (icl it k)) (hn : ∀ a, a ∈ L → a.p ≠ it.p) :
    Calls Try.prog 16 #[ptr h, ptr it.p] w fun e w' => e = .returned (.tuple #[.agg #[.int .i64 0, .int .i64 0], .int .i64 111]) ∧ HpO o B w' h v L N ∧ Fr w w' (fun _ => False) := by
  obtain ⟨⟨c, ha⟩, h2, ho⟩ := H
  refine (Remove_G ha (askO_ok o ho) hb hn).mono ?_
  rintro e w' ⟨rfl, h1, h3⟩
  exact ⟨rfl, ⟨⟨_, h1⟩, h2, ho⟩, h3⟩
theorem Set_Z (H : HpO o B w h v L N) (x : Th) {k : Nat} {it : It Th} (hb : Blk w it.p 100 (icl it k)) (hn : ∀ a, a ∈ L → a.p ≠ it.p) :
    Calls Try.prog 17 #[ptr h, ptr it.p, .agg #[.int .i64 x.k, .int .i64 x.g]] w fun e w' => e = .returned (.int .i64 111) ∧ HpO o B w' h v L N ∧ Fr w w' (fun _ => False) := by
  obtain ⟨⟨c, ha⟩, h2, ho⟩ := H
  refine (Set_G ha (askO_ok o ho) x hb hn).mono ?_
  rintro e w' ⟨rfl, h1, h3⟩
  exact ⟨rfl, ⟨⟨_, h1⟩, h2, ho⟩, h3⟩
/-- What the heap writes lies behind B. -/
theorem HpO.sml (H : HpO o B w h v L N) {W0 : World} (h0 : Fr W0 w (fun b => B ≤ b)) (hf : Fr w w' (ownH h v L)) : Fr W0 w' (fun b => B ≤ b) := h0.trans hf fun b _ q => by
  rcases q with q | q
  · exact q
  · exact H.lo b q
end
theorem erase_map {α β : Type} (f : α → β) (L : List α) (m : Nat) : (L.eraseIdx m).map f = (L.map f).eraseIdx m := by
  rw [List.eraseIdx_eq_take_drop_succ, List.eraseIdx_eq_take_drop_succ, List.map_append, List.map_take, List.map_drop]
/-- Which one is the least, reckoned. -/
def isMinB (lt : Th → Th → Bool) (xs : List Th) (m : Nat) : Bool := match xs[m]? with
  | some z => xs.all (fun y => !lt y z) && (xs.take m).all (fun y => lt z y)
  | none => false
theorem isMin_of {lt : Th → Th → Bool} {xs : List Th} {m : Nat} (h : isMinB lt xs m = true) : IsMin lt xs m := by
  unfold isMinB at h
  cases hz : xs[m]? with
  | none => rw [hz] at h; cases h
  | some z =>
    rw [hz] at h
    simp only [Bool.and_eq_true, List.all_eq_true] at h
    refine ⟨z, hz, fun j y hj => by simpa using h.1 y (List.mem_of_getElem? hj), fun j y hj hy => h.2 y ?_⟩
    exact List.mem_of_getElem? (i := j) (by rw [List.getElem?_take, if_pos hj]; exact hy)
end Go.Proofs.Ytdnhhcbabdoomaa
