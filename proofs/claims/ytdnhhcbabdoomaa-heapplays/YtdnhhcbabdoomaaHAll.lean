/-
  heap: going through All: the iterator, which empties a copy of its own.
-/
import Derived.Test.YtdnhhcbabdoomaaHClone
import Derived.Test.YtdnhhcbabdoomaaHBase
import Derived.RangeFuncNested
import Derived.RangeFuncBound
import Derived.RangeFuncCalls
import Derived.RangeFuncLeaves
import Derived.RangeFuncBox
import Derived.RangeFuncFrom
import Derived.Shelf.Abstract
import Derived.WalkKit
import Derived.OwnWalkIn
import Derived.TacticsInMore
import Derived.LoopNIn
import Derived.LoopIn
namespace Go.Proofs.Ytdnhhcbabdoomaa
set_option linter.unusedVariables false
set_option linter.unusedSimpArgs false
open Go.RowKit Go.Great Go.Shelf

attribute [local go_sem] Oper.semAt_some

/-- These have come (the last one first), those are left. -/
def PopR (lt : Th → Th → Bool) (xs : List Th) : List Th → List Th → Prop
  | [], rest => rest = xs
  | x :: p, rest => ∃ r0 m, PopR lt xs p r0 ∧ IsMin lt r0 m ∧ r0[m]? = some x ∧ rest = r0.eraseIdx m
/-- These have come, those are left. -/
def PopTo (lt : Th → Th → Bool) (xs pre rest : List Th) : Prop := PopR lt xs pre.reverse rest
section
variable {lt : Th → Th → Bool} {xs : List Th}
theorem PopTo.nil : PopTo lt xs [] xs := rfl
theorem PopTo.snoc {pre rest : List Th} {m : Nat} {x : Th} (h : PopTo lt xs pre rest) (hm : IsMin lt rest m) (hx : rest[m]? = some x) : PopTo lt xs (pre ++ [x]) (rest.eraseIdx m) := by
  unfold PopTo
  rw [List.reverse_append]
  exact ⟨rest, m, h, hm, hx, rfl⟩
theorem PopTo.inv {q s : List Th} (h : PopTo lt xs q s) : (q = [] ∧ s = xs) ∨ ∃ pre rest m x, q = pre ++ [x] ∧ s = rest.eraseIdx m ∧ PopTo lt xs pre rest ∧ IsMin lt rest m ∧ rest[m]? = some x := by
  unfold PopTo at h
  cases hq : q.reverse with
  | nil => rw [hq] at h; exact .inl ⟨List.reverse_eq_nil_iff.1 hq, h⟩
  | cons x p =>
    rw [hq] at h
    obtain ⟨r0, m, h1, h2, h3, h4⟩ := h
    refine .inr ⟨p.reverse, r0, m, x, ?_, h4, ?_, h2, h3⟩
    · have e := congrArg List.reverse hq
      rw [List.reverse_reverse, List.reverse_cons] at e
      exact e
    · unfold PopTo; rw [List.reverse_reverse]; exact h1
theorem PopTo.ind {motive : List Th → List Th → Prop} (h0 : motive [] xs) (hs : ∀ pre rest m x, PopTo lt xs pre rest → IsMin lt rest m → rest[m]? = some x → motive pre rest → motive (pre ++ [x]) (rest.eraseIdx m)) : ∀ (n : Nat) (q s : List Th), q.length = n → PopTo lt xs q s → motive q s := by
  intro n
  induction n with
  | zero =>
    intro q s hn h
    rcases h.inv with ⟨rfl, rfl⟩ | ⟨pre, rest, m, x, rfl, rfl, _⟩
    · exact h0
    · simp at hn
  | succ n ih =>
    intro q s hn h
    rcases h.inv with ⟨rfl, rfl⟩ | ⟨pre, rest, m, x, rfl, rfl, h1, h2, h3⟩
    · exact h0
    · rw [List.length_append, List.length_singleton] at hn
      exact hs pre rest m x h1 h2 h3 (ih pre rest (by omega) h1)
theorem PopTo.len {pre rest : List Th} (h : PopTo lt xs pre rest) : pre.length + rest.length = xs.length := by
  refine PopTo.ind (lt := lt) (xs := xs) (motive := fun pre rest => pre.length + rest.length = xs.length) (by simp) ?_ _ pre rest rfl h
  intro pre rest m x _ _ hx ih
  have := get_lt hx
  rw [List.length_append, List.length_singleton, List.length_eraseIdx, if_pos this]
  omega
end
theorem clone_O {o B : Nat} {w : World} {h : Nat} {v : Value} {L : List (It Th)} {N : Nat} (H : HpO o B w h v L N) :
    Calls Try.prog 48 #[ptr h] w fun e w' => ∃ hc vc Lc, e = .returned (ptr hc) ∧ HpO o w.heap.size w' hc vc Lc N ∧ Lc.map (·.x) = L.map (·.x) ∧ Fr w w' (fun _ => False) := by
  obtain ⟨⟨c, ha⟩, h2, ho⟩ := H
  refine (clone_A ha (askO_ok o ho)).mono ?_
  rintro e w' ⟨hc, vc, Lc, rfl, h1, h3, h4, h5⟩
  exact ⟨hc, vc, Lc, rfl, ⟨⟨_, h1⟩, h5, ho⟩, h3, h4⟩
theorem Len_O {o B : Nat} {w : World} {h : Nat} {v : Value} {L : List (It Th)} {N : Nat} (H : HpO o B w h v L N) :
    Calls Try.prog 13 #[ptr h] w fun e w' => e = .returned (.int .i64 (L.length : Int)) ∧ w' = w := by
  obtain ⟨⟨c, ha⟩, h2, ho⟩ := H
  exact Len_any ha
def lenN (w : World) (h : Nat) : Nat := match w.cell? ⟨h, 1, none⟩ with
  | some (.slice _ n _) => n
  | _ => 0
theorem HpO.lenN {o B : Nat} {w : World} {h : Nat} {v : Value} {L : List (It Th)} {N : Nat} (H : HpO o B w h v L N) : lenN w h = L.length := by
  obtain ⟨⟨c, t, h1, h2, _⟩, _⟩ := H
  obtain ⟨ao, cap, hv, _⟩ := h1.form
  unfold Go.Proofs.Ytdnhhcbabdoomaa.lenN
  rw [h1.hd.2.1, hv]
  exact h2.length_eq
/-- Where the iterator stands: what is left in the copy; what belongs to who goes through. -/
def RI (o : Nat) (xs : List Th) (J : List Th → World → (Nat → Prop) → Prop) (hc N : Nat) (wr : World) : Prop :=
  ∃ pre M vc Lc D, HpO o D wr hc vc Lc N ∧ PopTo (lsB o) xs pre (Lc.map (·.x)) ∧ J pre wr M ∧ ∀ b, ownH hc vc Lc b → ¬ M b
set_option maxRecDepth 100000 in
set_option maxHeartbeats 2000000 in
theorem all1_in (m l Bb h o B : Nat) (xs : List Th) (J : List Th → World → (Nat → Prop) → Prop) (Jx : List Th → World → Prop)
    (hJ : ∀ pre W W' M e, J pre W M → Fr W W' e → (∀ b, e b → ¬ M b) → J pre W' M) (hM : ∀ pre W M b, J pre W M → M b → b < W.heap.size)
    (hY : ∀ pre x W M, J pre W M → (∃ rest, PopTo (lsB o) xs (pre ++ [x]) rest) → YieldAt Fence.wide (m - 1) Try.prog l #[.agg #[.int .i64 x.k, .int .i64 x.g]] W fun e W' => (e = .returned (.bool true) ∧ ∃ M', J (pre ++ [x]) W' M' ∧ Fr W W' M ∧ ∀ b, M' b → M b ∨ W.heap.size ≤ b) ∨ (e = .returned (.bool false) ∧ Jx (pre ++ [x]) W'))
    (W : World) (v : Value) (L : List (It Th)) (N : Nat) (hH : HpO o B W h v L N) (hb : Blk W Bb 25 #[ptr h]) (hxs : L.map (·.x) = xs) (M0 : Nat → Prop) (h0 : J [] W M0) :
    CallsIn Fence.wide m Try.prog 47 #[.func (.yield l) #[] #[], ptr Bb] W fun e W' => (∃ v, e = .returned v) ∧
      ((∃ pre M', PopTo (lsB o) xs pre [] ∧ J pre W' M') ∨ (∃ pre rest, PopTo (lsB o) xs pre rest ∧ Jx pre W')) := by
  have HJ : Hid (∀ pre W W' M e, J pre W M → Fr W W' e → (∀ b, e b → ¬ M b) → J pre W' M) := hJ
  have HM : Hid (∀ pre W M b, J pre W M → M b → b < W.heap.size) := hM
  have HY : Hid (∀ pre x W M, J pre W M → (∃ rest, PopTo (lsB o) xs (pre ++ [x]) rest) → YieldAt Fence.wide (m - 1) Try.prog l #[.agg #[.int .i64 x.k, .int .i64 x.g]] W fun e W' => (e = .returned (.bool true) ∧ ∃ M', J (pre ++ [x]) W' M' ∧ Fr W W' M ∧ ∀ b, M' b → M b ∨ W.heap.size ≤ b) ∨ (e = .returned (.bool false) ∧ Jx (pre ++ [x]) W')) := hY
  have HH : Hid (HpO o B W h v L N ∧ L.map (·.x) = xs ∧ J [] W M0) := ⟨hH, hxs, h0⟩
  have hcb : W.cell? ⟨Bb, 0, none⟩ = some (ptr h) := hb.cell 0
  have hcl := clone_O hH
  clear hJ hM hY hH hxs h0 hb
  refine callsIn_of_wp Try.func47 rfl trivial ?_ rfl
  simp only [Try.ntmps47, List.size_toArray, List.length_cons, List.length_nil, Nat.reduceAdd, Nat.reduceSub, Array.replicate_succ, Array.replicate_zero, List.push_toArray, List.append_toArray, List.nil_append, List.cons_append]
  gi_wp2
  refine ⟨trivial, fun q => by simp [Fence.wide] at q, ?_⟩
  refine (callsIn_wide.2 hcl).mono ?_
  rintro e w1 ⟨hc, vc, Lc, rfl, h1, h2, h3⟩
  have HR : Hid (RI o xs J hc N w1) := ⟨[], M0, vc, Lc, W.heap.size, h1, by rw [h2, HH.out.2.1]; exact PopTo.nil, HJ.out _ _ _ _ _ HH.out.2.2 h3 (fun _ q => q.elim), fun b hb hm => by
    have q1 := h1.lo b hb
    have q2 := HM.out _ _ _ _ HH.out.2.2 hm
    omega⟩
  clear h1 h2 h3 hcl hcb
  gi_wp2
  gi_loopw [4, 5] (fun _ _ wr => Hid (RI o xs J hc N wr)) (fun _ _ wr => lenN wr hc)
  case atStart => exact HR
  case round =>
    obtain ⟨pre, M, vc, Lc, D, q1, q2, q3, q4⟩ := hrel
    have hlen := Len_O q1
    have HLN : Hid (lenN wr hc = Lc.length) := q1.lenN
    gi_wp2
    refine ⟨trivial, fun q => by simp [Fence.wide] at q, ?_⟩
    refine (callsIn_wide.2 hlen).mono ?_
    rintro e w2 ⟨rfl, ew⟩
    replace ew := ew.symm
    subst ew
    clear hlen
    by_cases hL : Lc = []
    · subst hL
      have HQ : Hid (PopTo (lsB o) xs pre [] ∧ J pre wr M) := ⟨q2, q3⟩
      clear q1 q2 q3 q4
      gi_wp2
      go_end0
      exact ⟨⟨_, rfl⟩, .inl ⟨pre, M, HQ.out⟩⟩
    · have hl0 : (0 : Int) < (Lc.length : Int) := by have := List.length_pos_iff.2 hL; omega
      have hpo := Pop_O q1 hL
      have HQ : Hid (HpO o D wr hc vc Lc N ∧ PopTo (lsB o) xs pre (Lc.map (·.x)) ∧ J pre wr M ∧ ∀ b, ownH hc vc Lc b → ¬ M b) := ⟨q1, q2, q3, q4⟩
      clear q1 q2 q3 q4
      gi_wp2
      refine ⟨trivial, fun q => by simp [Fence.wide] at q, ?_⟩
      refine (callsIn_wide.2 hpo).mono ?_
      rintro e w3 ⟨m3, it, hm3, hmin, rfl, ⟨vc', h5, h6⟩, _, h7⟩
      obtain ⟨pi, ri, x⟩ := it
      have F4 : Fr w3 (w3.alloc (.cells #[.int .i64 x.k, .int .i64 x.g] 30)) (fun _ => False) := Fr.alloc _ _ _
      have HP : Hid (HpO o D (w3.alloc (.cells #[.int .i64 x.k, .int .i64 x.g] 30)) hc vc' (Lc.eraseIdx m3) N ∧ PopTo (lsB o) xs (pre ++ [x]) ((Lc.eraseIdx m3).map (·.x)) ∧ J pre (w3.alloc (.cells #[.int .i64 x.k, .int .i64 x.g] 30)) M ∧ (∀ b, ownH hc vc' (Lc.eraseIdx m3) b → ¬ M b) ∧ (Lc.eraseIdx m3).length + 1 = Lc.length) := by
        refine ⟨h5.sm F4, ?_, HJ.out _ _ _ _ _ (HJ.out _ _ _ _ _ HQ.out.2.2.1 h7 HQ.out.2.2.2) F4 (fun _ q => q.elim), fun b hb => HQ.out.2.2.2 b (own_erase h6 hb), ?_⟩
        · rw [erase_map]
          exact HQ.out.2.1.snoc hmin (by rw [List.getElem?_map, hm3]; rfl)
        · have := get_lt hm3
          rw [List.length_eraseIdx, if_pos this]; omega
      clear h5 h6 h7 hpo F4 HQ hm3 hmin
      obtain ⟨fn, tmps, assign, body, hy, hR⟩ := HY.out pre x _ M HP.out.2.2.1 ⟨_, HP.out.2.1⟩
      gi_wp2
      refine ⟨fun q => by simp [Fence.wide] at q, ?_⟩
      refine hR.mono ?_
      clear hR hy
      generalize w3.alloc (.cells #[.int .i64 x.k, .int .i64 x.g] 30) = w4 at *
      rintro e W' (⟨rfl, M', j1, j2, j3⟩ | ⟨rfl, j1⟩)
      · have HH4 : HpO o D W' hc vc' (Lc.eraseIdx m3) N := HP.out.1.fr j2 HP.out.2.2.2.1
        have HR4 : Hid (RI o xs J hc N W') := ⟨pre ++ [x], M', vc', _, D, HH4, HP.out.2.1, j1, fun b hb hm => by
          rcases j3 b hm with q | q
          · exact HP.out.2.2.2.1 b hb q
          · have := HP.out.1.lt hb; omega⟩
        have HL4 : Hid (lenN W' hc = (Lc.eraseIdx m3).length) := HH4.lenN
        clear j1 j2 j3 HH4
        gi_wp2
        go_roundw
        case rel => exact HR4
        case measure => rw [HL4.out, HLN.out]; have := HP.out.2.2.2.2; omega
      · have HX : Hid (PopTo (lsB o) xs (pre ++ [x]) ((Lc.eraseIdx m3).map (·.x)) ∧ Jx (pre ++ [x]) W') := ⟨HP.out.2.1, j1⟩
        clear j1
        gi_wp2
        refine bodyPost_ret (results_none rfl _ _ _) rfl ?_
        exact ⟨⟨_, rfl⟩, .inr ⟨_, _, HX.out⟩⟩
end Go.Proofs.Ytdnhhcbabdoomaa
