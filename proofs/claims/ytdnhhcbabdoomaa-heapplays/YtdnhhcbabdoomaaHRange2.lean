/-
  A range over a function, its body told of the loop's own record.
-/
import Derived.Test.YtdnhhcbabdoomaaHRange
namespace Go.Proofs.Ytdnhhcbabdoomaa
set_option linter.unusedVariables false
set_option linter.unusedSimpArgs false
open Go.RowKit Go.Great Go.Shelf

section
variable {α : Type}
theorem range_law2 {P : Program} {n : Nat} {g : Operand} {ps : Array Tmp} {assign body : Code} {Q : Exit → Act → World → Prop} {a : Act} {w : World} {gf : Nat} {lb : Array Value} (h1 : 1 ≤ n) (hg : a.eval g = .func (.func gf) #[] lb)
    (eg : ∀ args w, (callFunc gf args).run P w = .ok (.enter gf args) w) {encs : α → Array Value} {S Sp : List α → Prop} {C : World → Prop} (hseq : Itr P gf lb encs S Sp C) (hC : ∀ o o', C ((w.alloc o).alloc o')) (hps : ∀ x, (encs x).size = ps.size)
    (I : List α → World → (Nat → Prop) → Prop) (Ix : Code → List α → World → Prop) (hI : Abid I) (hIx : ∀ c pre W W', Ix c pre W → Fr W W' (fun b => b = w.heap.size + 1) → Ix c pre W') (M0 : Nat → Prop) (h0 : I [] w M0)
    (Ax : α → Act → World → Prop) (hAx : ∀ x a' W W' r, Ax x a' W → W.heap[w.heap.size + 1]? = some (.loop r) → Fr W W' (fun b => b = w.heap.size + 1) → Ax x a' W')
    (hassign : ∀ (pre : List α) (x : α) (W : World) (M : Nat → Prop) (K : Act → World → Prop), I pre W M → (∀ a' W', Fr W W' (fun _ => False) → Ax x a' W' → K a' W') →
      assign.wpIn (Fence.wide.inRound (w.heap.size + 1)) (n - 1 - 1) P (Exit.then K (fun _ _ _ => False)) { tmps := (ps.zip (encs x)).foldl (fun t (p, v) => t.setIfInBounds p v) a.tmps, defers := [] } W)
    (hbody : ∀ (pre : List α) (x : α) (a' : Act) (W : World) (M : Nat → Prop), I pre W M → Ax x a' W → Sp (pre ++ [x]) → (∃ r, W.heap[w.heap.size + 1]? = some (.loop r)) → body.wpIn (Fence.wide.inRound (w.heap.size + 1)) (n - 1 - 1) P (rndPost I Ix (pre ++ [x]) W M) a' W)
    (hdone : ∀ (pre : List α) (W : World) (M : Nat → Prop), S pre → I pre W M → W.heap[w.heap.size]? = some (.deferred (some [])) → Q .normal { a with defers := { target := .collected w.heap.size, args := #[] } :: a.defers } W)
    (hstop : ∀ (c : Code) (pre : List α) (W : World), Sp pre → Ix c pre W → W.heap[w.heap.size]? = some (.deferred (some [])) → c.wpIn Fence.wide n P Q { a with defers := { target := .collected w.heap.size, args := #[] } :: a.defers } W) :
    (Code.rangeFunc g ps assign body).wpIn Fence.wide n P Q a w := by
  refine wpIn_rangeFunc ?_
  intro fn hfn
  obtain ⟨rc, hrc⟩ : ∃ rc : LoopState → Option Code → Loop, rc = fun st pe => { state := st, pending := pe, fn, tmps := a.tmps, params := ps, assign, body, defers := w.heap.size } := ⟨_, rfl⟩
  have hD0 : ((w.alloc (.deferred (some []))).alloc (.loop (rc .ready none))).heap[w.heap.size]? = some (.deferred (some [])) := (Below.heap_alloc _ _ _ (by simp)).trans (World.alloc_heap_new w _)
  have hL0 : ((w.alloc (.deferred (some []))).alloc (.loop (rc .ready none))).heap[w.heap.size + 1]? = some (.loop (rc .ready none)) := by
    have := World.alloc_heap_new (w.alloc (.deferred (some []))) (.loop (rc .ready none)); rwa [World.size_alloc] at this
  have hF0 : Fr w ((w.alloc (.deferred (some []))).alloc (.loop (rc .ready none))) (fun _ => False) := (Fr.alloc _ _ (fun _ => False)).trans (Fr.alloc _ _ (fun _ => False)) fun _ _ q => by rcases q with q | q <;> exact q
  refine ⟨w.heap.size + 1, [{ target := .collected w.heap.size, args := #[] }], (w.alloc (.deferred (some []))).alloc (.loop (rc .ready none)), { target := .fn (.func gf) lb, args := #[.func (.yield (w.heap.size + 1)) #[] #[]] }, (w.alloc (.deferred (some []))).alloc (.loop (rc .ready none)), gf,
    #[.func (.yield (w.heap.size + 1)) #[] #[]] ++ lb, (w.alloc (.deferred (some []))).alloc (.loop (rc .ready none)), ?_, ?_, ?_, ?_, fun _ => h1, ?_⟩
  · rw [hrc]; exact run_enterLoop_outer _ _ _ _ _
  · simp only [resolve, hg]
    simp [go_sem]
  · intro f' hf'; exact trivial
  · simp [invoke, go_sem, eg]
  have hC1 := hC (.deferred (some [])) (.loop (rc .ready none))
  generalize (w.alloc (.deferred (some []))).alloc (.loop (rc .ready none)) = W1 at *
  generalize hD : w.heap.size = D at *
  -- what belongs to who goes through, with the two records
  refine (hseq (n - 1) (D + 1)
    (fun pre W MJ => ∃ M, I pre W M ∧ (∀ b, MJ b ↔ M b ∨ b = D ∨ b = D + 1) ∧ ¬ M D ∧ ¬ M (D + 1) ∧ W.heap[D + 1]? = some (.loop (rc .ready none)) ∧ W.heap[D]? = some (.deferred (some [])))
    (fun pre W => ∃ c, Ix c pre W ∧ W.heap[D + 1]? = some (.loop (rc .done (some c))) ∧ W.heap[D]? = some (.deferred (some [])))
    W1 (fun b => M0 b ∨ b = D ∨ b = D + 1) ⟨?_, ?_⟩ ?_ hC1 ?_).mono ?_
  · rintro pre W W' MJ e ⟨M, i1, i2, i3, i4, i5, i6⟩ hf hn
    have hlt1 : D + 1 < W.heap.size := (Array.getElem?_eq_some_iff.1 i5).1
    have hlt2 : D < W.heap.size := (Array.getElem?_eq_some_iff.1 i6).1
    exact ⟨M, hI.1 _ _ _ _ _ i1 hf (fun b hb hm => hn b hb ((i2 b).2 (.inl hm))), i2, i3, i4, (hf.block _ hlt1 (fun q => hn _ q ((i2 _).2 (.inr (.inr rfl))))).trans i5, (hf.block _ hlt2 (fun q => hn _ q ((i2 _).2 (.inr (.inl rfl))))).trans i6⟩
  · rintro pre W MJ b ⟨M, i1, i2, i3, i4, i5, i6⟩ hb
    rcases (i2 b).1 hb with q | q | q
    · exact hI.2 _ _ _ _ i1 q
    · rw [q]; exact (Array.getElem?_eq_some_iff.1 i6).1
    · rw [q]; exact (Array.getElem?_eq_some_iff.1 i5).1
  · rintro pre x W MJ ⟨M, i1, i2, i3, i4, i5, i6⟩ hsp
    have hlt1 : D + 1 < W.heap.size := (Array.getElem?_eq_some_iff.1 i5).1
    have hlt2 : D < W.heap.size := (Array.getElem?_eq_some_iff.1 i6).1
    have hy := run_yield (P := P) (args := encs x) i5 (by rw [hrc]; exact hps x)
    rw [hrc] at hy
    refine ⟨fn, _, assign, body, hy, roundIn_of_wpIn hfn (hassign pre x W M _ i1 ?_)⟩
    intro a' Wa hfa hax
    have a5 : Wa.heap[D + 1]? = some (.loop (rc .ready none)) := (hfa.block _ hlt1 (fun q => q)).trans i5
    have a6 : Wa.heap[D]? = some (.deferred (some [])) := (hfa.block _ hlt2 (fun q => q)).trans i6
    have hla : D + 1 < Wa.heap.size := (Array.getElem?_eq_some_iff.1 a5).1
    refine ⟨_, run_beginRound a5 (by rw [hrc]), ?_⟩
    have hfb := fr_put Wa (D + 1) (.loop { rc .ready none with state := .busy })
    have b5 : (Wa.putObj (D + 1) (.loop { rc .ready none with state := .busy })).heap[D + 1]? = some (.loop { rc .ready none with state := .busy }) := World.putObj_heap_same hla
    have b6 : (Wa.putObj (D + 1) (.loop { rc .ready none with state := .busy })).heap[D]? = some (.deferred (some [])) := (World.putObj_heap_other (by omega)).trans a6
    have hib := hI.1 _ _ _ _ _ (hI.1 _ _ _ _ _ i1 hfa (fun _ q => q.elim)) hfb (fun b q hm => i4 (q ▸ hm))
    have haxb := hAx x a' _ _ _ hax a5 hfb
    have hFab : Fr W (Wa.putObj (D + 1) (.loop { rc .ready none with state := .busy })) (fun b => b = D + 1) := hfa.trans hfb fun _ _ q => by rcases q with q | q; exact q.elim; exact q
    generalize Wa.putObj (D + 1) (.loop { rc .ready none with state := .busy }) = Wb at *
    refine wpIn_mono (hbody pre x a' Wb M hib haxb hsp ⟨_, b5⟩) ?_
    have fin : ∀ (jump : Option Code) (W3 : World), Fr Wb W3 M →
        (Instr.endRound (D + 1) jump).run P W3 = .ok (.bool jump.isNone) (W3.putObj (D + 1) (.loop (rc (if jump.isNone then .ready else .done) jump))) ∧
        (W3.putObj (D + 1) (.loop (rc (if jump.isNone then .ready else .done) jump))).heap[D + 1]? = some (.loop (rc (if jump.isNone then .ready else .done) jump)) ∧
        (W3.putObj (D + 1) (.loop (rc (if jump.isNone then .ready else .done) jump))).heap[D]? = some (.deferred (some [])) ∧
        Fr W3 (W3.putObj (D + 1) (.loop (rc (if jump.isNone then .ready else .done) jump))) (fun b => b = D + 1) := fun jump W3 hf3 => by
      have c5 := (hf3.block _ (Array.getElem?_eq_some_iff.1 b5).1 i4).trans b5
      have c6 := (hf3.block _ (Array.getElem?_eq_some_iff.1 b6).1 i3).trans b6
      have hr := run_endRound (P := P) jump c5
      rw [hrc] at hr ⊢
      exact ⟨hr, World.putObj_heap_same (Array.getElem?_eq_some_iff.1 c5).1, (World.putObj_heap_other (by omega)).trans c6, fr_put _ _ _⟩
    rintro e a3 W3 hp
    cases e with
    | normal =>
      obtain ⟨M', j1, j2, j3⟩ := hp
      obtain ⟨hr, d5, d6, d7⟩ := fin none W3 j2
      have hns : ∀ b, M' b → b ≠ D ∧ b ≠ D + 1 := fun b hb => by
        rcases j3 b hb with q | q
        · exact ⟨fun e => i3 (e ▸ q), fun e => i4 (e ▸ q)⟩
        · have := (Array.getElem?_eq_some_iff.1 b5).1; omega
      refine ⟨_, _, hr, .inl ⟨rfl, fun b => M' b ∨ b = D ∨ b = D + 1, ⟨M', hI.1 _ _ _ _ _ j1 d7 (fun b q hm => (hns b hm).2 q), fun b => Iff.rfl, fun q => (hns _ q).1 rfl, fun q => (hns _ q).2 rfl, d5, d6⟩, ?_, ?_⟩⟩
      · refine (hFab.trans j2 (e3 := MJ) fun b _ q => ?_).trans d7 fun b _ q => ?_
        · rcases q with q | q
          · exact (i2 b).2 (.inr (.inr q))
          · exact (i2 b).2 (.inl q)
        · rcases q with q | q
          · exact q
          · exact (i2 b).2 (.inr (.inr q))
      · intro b hb
        rcases hb with q | q | q
        · rcases j3 b q with r | r
          · exact .inl ((i2 b).2 (.inl r))
          · exact .inr (by have := hFab.size; omega)
        · exact .inl ((i2 b).2 (.inr (.inl q)))
        · exact .inl ((i2 b).2 (.inr (.inr q)))
    | ret =>
      obtain ⟨hr, d5, d6, d7⟩ := fin (some .ret) W3 hp.2
      exact ⟨_, _, hr, .inr ⟨rfl, .ret, hIx _ _ _ _ hp.1 d7, d5, d6⟩⟩
    | exit id =>
      obtain ⟨hr, d5, d6, d7⟩ := fin (some (.exit id)) W3 hp.2
      exact ⟨_, _, hr, .inr ⟨rfl, .exit id, hIx _ _ _ _ hp.1 d7, d5, d6⟩⟩
    | goto t =>
      obtain ⟨hr, d5, d6, d7⟩ := fin (some (.goto t)) W3 hp.2
      exact ⟨_, _, hr, .inr ⟨rfl, .goto t, hIx _ _ _ _ hp.1 d7, d5, d6⟩⟩
    | panic ch => exact hp.elim
    | outgrown => exact hp.elim
  · have hMlt : ∀ b, M0 b → b < D := fun b hb => by have := hI.2 _ _ _ _ h0 hb; omega
    exact ⟨M0, hI.1 _ _ _ _ _ h0 hF0 (fun _ q => q.elim), fun b => Iff.rfl, fun q => by have := hMlt _ q; omega, fun q => by have := hMlt _ q; omega, hL0, hD0⟩
  · rintro e W2 ⟨⟨v, rfl⟩, (⟨pre, MJ, hS, M, i1, i2, i3, i4, i5, i6⟩ | ⟨pre, hSp, c, i1, i5, i6⟩)⟩
    · have hl := run_endLoop (P := P) i5 (by rw [hrc]; simp)
      refine ⟨none, _, by rw [hrc] at hl; exact hl, ?_⟩
      exact hdone pre _ M hS (hI.1 _ _ _ _ _ i1 (fr_put _ _ _) (fun b q hm => i4 (q ▸ hm))) ((World.putObj_heap_other (by omega)).trans i6)
    · have hl := run_endLoop (P := P) i5 (by rw [hrc]; simp)
      refine ⟨some c, _, by rw [hrc] at hl; exact hl, ?_⟩
      exact hstop c pre _ hSp (hIx _ _ _ _ i1 (fr_put _ _ _)) ((World.putObj_heap_other (by omega)).trans i6)
end
end Go.Proofs.Ytdnhhcbabdoomaa
