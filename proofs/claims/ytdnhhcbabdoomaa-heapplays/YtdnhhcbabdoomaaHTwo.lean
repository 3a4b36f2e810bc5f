/-
  heap: what came in; pick; two heaps beside one another, and a row of items.
-/
import Derived.Test.YtdnhhcbabdoomaaHShown
namespace Go.Proofs.Ytdnhhcbabdoomaa
set_option linter.unusedVariables false
set_option linter.unusedSimpArgs false
open Go.RowKit Go.Great

theorem wpList_callW {P : Program} {ops : Array Oper} {rest : List Oper} {op : Oper} {a : Act} {w : World} {Q : Exit → Act → World → Prop} (hg : op.guard = none) (d : Option Tmp) (hd : op.dst = d)
    (f : FuncId) (args : Array Value) (hrun : (execOp a.eval op).run P w = .ok (.enter f args) w) {R : Ending → World → Prop} (hc : Calls P f args w R)
    (h : ∀ e w', R e w' → ∃ v, e = .returned v ∧ wpList P ops Q rest (a.put d v) w') : wpList P ops Q (op :: rest) a w := by
  subst hd
  refine wpList_plain hg fun K hK => ?_
  unfold Oper.wp
  rw [hrun, Oper.upon_enter]
  refine hc.mono fun e w'' hh => ?_
  obtain ⟨v, rfl, hw⟩ := h _ _ hh
  exact hK _ _ hw
/-- Numbers that came in. -/
def SrcI (w : World) (a : Option Addr) (n : Nat) (d : Nat → Int) : Prop := n = 0 ∨ ∃ b off, a = some ⟨b, off, none⟩ ∧ ∀ j, j < n → w.cell? ⟨b, off + j, none⟩ = some (.int .i64 (d j)) ∧ -9223372036854775808 ≤ d j ∧ d j ≤ 9223372036854775807
theorem SrcI.below {w w' : World} {a : Option Addr} {n : Nat} {d : Nat → Int} (h : SrcI w a n d) (hb : Below w.heap.size w w') : SrcI w' a n d := by
  rcases h with h | ⟨b, off, e, h⟩
  · exact .inl h
  · exact .inr ⟨b, off, e, fun j hj => ⟨(hb.cell (World.block_lt_of_cell? _ _ (h j hj).1)).trans (h j hj).1, (h j hj).2⟩⟩
/-- Which of n things a raw number speaks of. -/
def pickN (c : Int) (n : Nat) : Nat := (if c < 0 then (-(c + 1)) % (n : Int) else c % (n : Int)).toNat
theorem pickN_lt (c : Int) {n : Nat} (h : 0 < n) : pickN c n < n := by
  unfold pickN
  have h1 := Int.emod_lt_of_pos (-(c + 1)) (show (0 : Int) < n by omega)
  have h2 := Int.emod_nonneg (-(c + 1)) (show (n : Int) ≠ 0 by omega)
  have h3 := Int.emod_lt_of_pos c (show (0 : Int) < n by omega)
  have h4 := Int.emod_nonneg c (show (n : Int) ≠ 0 by omega)
  split <;> omega
set_option maxRecDepth 100000 in
set_option maxHeartbeats 400000 in
theorem pick_any (c x : Int) (n : Nat) (hx : x = n) (w : World) (hn : 0 < n) (hn1 : n ≤ 9223372036854775807) (h0 : -9223372036854775808 ≤ c) (h1 : c ≤ 9223372036854775807) :
    Calls Try.prog 9 #[.int .i64 c, .int .i64 x] w fun e w' => e = .returned (.int .i64 (pickN c n : Int)) ∧ w' = w := by
  subst hx
  have hp := pickN_lt c hn
  have hn' : ¬ (n : Int) = 0 := by omega
  by_cases hc : c < 0
  · have e : (c + 1).tmod (n : Int) = -(pickN c n : Int) := by
      have h2 := Int.emod_nonneg (-(c + 1)) (show (n : Int) ≠ 0 by omega)
      unfold pickN
      rw [if_pos hc, Int.toNat_of_nonneg h2, ← Int.tmod_eq_emod_of_nonneg (by omega), Int.neg_tmod, Int.neg_neg]
    generalize pickN c n = p at *
    go_enter Try.func9, Try.ntmps9
    go_wp2
    go_ret
    exact ⟨rfl, rfl⟩
  · have hc' : 0 ≤ c := by omega
    have e : c % (n : Int) = (pickN c n : Int) := by
      have h2 := Int.emod_nonneg c (show (n : Int) ≠ 0 by omega)
      unfold pickN
      rw [if_neg hc, Int.toNat_of_nonneg h2]
    generalize pickN c n = p at *
    go_enter Try.func9, Try.ntmps9
    go_wp2
    go_ret
    exact ⟨rfl, rfl⟩
/-- Truths that came in. -/
def SrcT (w : World) (a : Option Addr) (n : Nat) (f : Nat → Bool) : Prop := n = 0 ∨ ∃ b off, a = some ⟨b, off, none⟩ ∧ ∀ j, j < n → w.cell? ⟨b, off + j, none⟩ = some (.bool (f j))
theorem SrcT.below {w w' : World} {a : Option Addr} {n : Nat} {f : Nat → Bool} (h : SrcT w a n f) (hb : Below w.heap.size w w') : SrcT w' a n f := by
  rcases h with h | ⟨b, off, e, h⟩
  · exact .inl h
  · exact .inr ⟨b, off, e, fun j hj => (hb.cell (World.block_lt_of_cell? _ _ (h j hj))).trans (h j hj)⟩
theorem below_of {w w' : World} (h : Fr w w' (fun b => w.heap.size ≤ b)) : Below w.heap.size w w' := ⟨h.os, h.tape, h.output, h.size, fun b hb => h.block b hb (by omega)⟩
/-- Two heaps, and a row of items. -/
structure TW (w wr : World) (o B : Nat) (ha : Nat) (va : Value) (La : List (It Th)) (Na : Nat) (hb : Nat) (vb : Value) (Lb : List (It Th)) (Nb : Nat) (vi : Value) (P : List Nat) : Prop where
  a : HpO o B wr ha va La Na
  b : HpO o B wr hb vb Lb Nb
  ab : ∀ q, ownH ha va La q → ¬ ownH hb vb Lb q
  ia : ∀ g, vi.ownBlock = some g → ¬ ownH ha va La g ∧ ¬ ownH hb vb Lb g ∧ B ≤ g
  it : RowAt wr 27 1 vi P.length (P.map ptr)
  fr : Fr w wr (fun b => B ≤ b)
theorem own_push {w : World} {h p N : Nat} {v v' : Value} {L : List (It Th)} {x : Th} {q : Nat} (hv : NewV w v v') (hp : w.heap.size ≤ p) (hq : ownH h v' (L ++ [⟨p, N, x⟩]) q) : ownH h v L q ∨ w.heap.size ≤ q := by
  rcases hq with q1 | q1 | ⟨a, q1, q2⟩
  · exact .inl (.inl q1)
  · rcases hv with r | ⟨g, r, hg⟩
    · rw [r] at q1; exact .inl (.inr (.inl q1))
    · rw [r] at q1; injection q1 with q1; exact .inr (by omega)
  · rcases List.mem_append.1 q1 with q1 | q1
    · exact .inl (.inr (.inr ⟨a, q1, q2⟩))
    · rw [List.mem_singleton.1 q1] at q2
      have : p = q := q2
      exact .inr (by omega)
section
variable {w wr w' : World} {o B : Nat} {ha : Nat} {va : Value} {La : List (It Th)} {Na : Nat} {hb : Nat} {vb : Value} {Lb : List (It Th)} {Nb : Nat} {vi : Value} {P : List Nat}
theorem TW.sm (T : TW w wr o B ha va La Na hb vb Lb Nb vi P) (hf : Fr wr w' (fun _ => False)) : TW w w' o B ha va La Na hb vb Lb Nb vi P :=
  ⟨T.a.sm hf, T.b.sm hf, T.ab, T.ia, T.it.fr hf (fun _ _ q => q), T.fr.trans hf fun _ _ q => by rcases q with q | q; exact q; exact q.elim⟩
theorem TW.swp (T : TW w wr o B ha va La Na hb vb Lb Nb vi P) : TW w wr o B hb vb Lb Nb ha va La Na vi P :=
  ⟨T.b, T.a, fun q h1 h2 => T.ab q h2 h1, fun g hg => ⟨(T.ia g hg).2.1, (T.ia g hg).1, (T.ia g hg).2.2⟩, T.it, T.fr⟩
/-- The first one is changed. -/
theorem TW.upd (T : TW w wr o B ha va La Na hb vb Lb Nb vi P) {va' : Value} {La' : List (It Th)} {Na' : Nat} (H : HpO o B w' ha va' La' Na') (hf : Fr wr w' (ownH ha va La)) (hn : ∀ q, ownH ha va' La' q → ownH ha va La q ∨ wr.heap.size ≤ q) : TW w w' o B ha va' La' Na' hb vb Lb Nb vi P := by
  refine ⟨H, T.b.fr hf fun q h1 h2 => T.ab q h2 h1, fun q h1 h2 => ?_, fun g hg => ⟨fun q => ?_, (T.ia g hg).2.1, (T.ia g hg).2.2⟩, T.it.fr hf fun g hg => (T.ia g hg).1, T.a.sml T.fr hf⟩
  · rcases hn q h1 with r | r
    · exact T.ab q r h2
    · have := T.b.lt h2; omega
  · rcases hn g q with r | r
    · exact (T.ia g hg).1 r
    · have := (T.it.lt hg).1; omega
/-- An item is put behind the others in the row. -/
theorem TW.app (T : TW w wr o B ha va La Na hb vb Lb Nb vi P) {p : Nat} {vi' : Value} (hr : RowAt w' 27 1 vi' (P.length + 1) (P.map ptr ++ [ptr p])) (hf : Fr wr w' (fun b => vi.ownBlock = some b)) (hn : vi'.ownBlock = vi.ownBlock ∨ vi'.ownBlock = some wr.heap.size ∧ ∀ k, k < wr.heap.size → w'.heap[k]? = wr.heap[k]?) :
    TW w w' o B ha va La Na hb vb Lb Nb vi' (P ++ [p]) := by
  have hB : B ≤ wr.heap.size := by have h1 := T.a.lo ha (.inl rfl); have h2 := T.a.lt (.inl rfl); omega
  refine ⟨T.a.fr hf fun q h1 h2 => (T.ia q h2).1 h1, T.b.fr hf fun q h1 h2 => (T.ia q h2).2.1 h1, T.ab, fun g hg => ?_, ?_, T.fr.trans hf fun q _ h => ?_⟩
  · rcases hn with r | ⟨r, _⟩
    · rw [r] at hg; exact T.ia g hg
    · rw [r] at hg; injection hg with hg
      exact ⟨fun q => by have := T.a.lt q; omega, fun q => by have := T.b.lt q; omega, by omega⟩
  · rw [List.length_append, List.map_append]; exact hr
  · rcases h with h | h
    · exact h
    · exact (T.ia q h).2.2
end
end Go.Proofs.Ytdnhhcbabdoomaa
