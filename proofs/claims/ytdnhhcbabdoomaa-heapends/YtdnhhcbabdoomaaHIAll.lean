/-
  heap of numbers: going through All: the iterator, which empties a copy of its own.
-/
import Derived.Test.YtdnhhcbabdoomaaHIClone
import Derived.Test.YtdnhhcbabdoomaaHIBase
import Derived.Test.YtdnhhcbabdoomaaHRange
namespace Go.Proofs.Ytdnhhcbabdoomaa.I
set_option linter.unusedVariables false
set_option linter.unusedSimpArgs false
open Go.RowKit Go.Great Go.Shelf

attribute [local go_sem] Oper.semAt_some

theorem clone_O {o B : Nat} {w : World} {h : Nat} {v : Value} {L : List (It Th)} {N : Nat} (H : HpO o B w h v L N) :
    Calls Try.prog 58 #[ptr h] w fun e w' => ∃ hc vc Lc, e = .returned (ptr hc) ∧ HpO o w.heap.size w' hc vc Lc N ∧ Lc.map (·.x) = L.map (·.x) ∧ Fr w w' (fun _ => False) := by
  obtain ⟨⟨c, ha⟩, h2, ho⟩ := H
  refine (clone_A ha (askE_ok o ho)).mono ?_
  rintro e w' ⟨hc, vc, Lc, rfl, h1, h3, h4, h5⟩
  exact ⟨hc, vc, Lc, rfl, ⟨⟨_, h1⟩, h5, ho⟩, h3, h4⟩
theorem Len_O {o B : Nat} {w : World} {h : Nat} {v : Value} {L : List (It Th)} {N : Nat} (H : HpO o B w h v L N) :
    Calls Try.prog 28 #[ptr h] w fun e w' => e = .returned (.int .i64 (L.length : Int)) ∧ w' = w := by
  obtain ⟨⟨c, ha⟩, h2, ho⟩ := H
  exact Len_any ha
theorem Peek_O {o B : Nat} {w : World} {h : Nat} {v : Value} {L : List (It Th)} {N : Nat} (H : HpO o B w h v L N) :
    Calls Try.prog 27 #[ptr h] w fun e w' => (∃ a b, e = .returned (.tuple #[.int .i64 a, .int .i64 b])) ∧ w' = w := by
  obtain ⟨⟨c, ha⟩, h2, ho⟩ := H
  exact Peek_any ha
def lenN (w : World) (h : Nat) : Nat := match w.cell? ⟨h, 1, none⟩ with
  | some (.slice _ n _) => n
  | _ => 0
theorem HpO.lenN {o B : Nat} {w : World} {h : Nat} {v : Value} {L : List (It Th)} {N : Nat} (H : HpO o B w h v L N) : lenN w h = L.length := by
  obtain ⟨⟨c, t, h1, h2, _⟩, _⟩ := H
  obtain ⟨ao, cap, hv, _⟩ := h1.form
  unfold Go.Proofs.Ytdnhhcbabdoomaa.I.lenN
  rw [h1.hd.2.1, hv]
  exact h2.length_eq
/-- Where the iterator stands. -/
def RI (o : Nat) (J : List Th → World → (Nat → Prop) → Prop) (hc N : Nat) (wr : World) : Prop :=
  ∃ pre M vc Lc D, HpO o D wr hc vc Lc N ∧ J pre wr M ∧ ∀ b, ownH hc vc Lc b → ¬ M b
set_option maxRecDepth 100000 in
set_option maxHeartbeats 2000000 in
theorem all1_in (m l Bb h o B : Nat) (J : List Th → World → (Nat → Prop) → Prop) (Jx : List Th → World → Prop)
    (hJ : ∀ pre W W' M e, J pre W M → Fr W W' e → (∀ b, e b → ¬ M b) → J pre W' M) (hM : ∀ pre W M b, J pre W M → M b → b < W.heap.size)
    (hY : ∀ pre x W M, J pre W M → YieldAt Fence.wide (m - 1) Try.prog l #[.int .i64 x.k] W fun e W' => (e = .returned (.bool true) ∧ ∃ M', J (pre ++ [x]) W' M' ∧ Fr W W' M ∧ ∀ b, M' b → M b ∨ W.heap.size ≤ b) ∨ (e = .returned (.bool false) ∧ Jx (pre ++ [x]) W'))
    (W : World) (v : Value) (L : List (It Th)) (N : Nat) (hH : HpO o B W h v L N) (hb : Blk W Bb 47 #[ptr h]) (M0 : Nat → Prop) (h0 : J [] W M0) :
    CallsIn Fence.wide m Try.prog 57 #[.func (.yield l) #[] #[], ptr Bb] W fun e W' => (∃ v, e = .returned v) ∧
      ((∃ pre M', J pre W' M') ∨ (∃ pre, Jx pre W')) := by
  have HJ : Hid (∀ pre W W' M e, J pre W M → Fr W W' e → (∀ b, e b → ¬ M b) → J pre W' M) := hJ
  have HM : Hid (∀ pre W M b, J pre W M → M b → b < W.heap.size) := hM
  have HY : Hid (∀ pre x W M, J pre W M → YieldAt Fence.wide (m - 1) Try.prog l #[.int .i64 x.k] W fun e W' => (e = .returned (.bool true) ∧ ∃ M', J (pre ++ [x]) W' M' ∧ Fr W W' M ∧ ∀ b, M' b → M b ∨ W.heap.size ≤ b) ∨ (e = .returned (.bool false) ∧ Jx (pre ++ [x]) W')) := hY
  have HH : Hid (HpO o B W h v L N ∧ J [] W M0) := ⟨hH, h0⟩
  have hcb : W.cell? ⟨Bb, 0, none⟩ = some (ptr h) := hb.cell 0
  have hcl := clone_O hH
  clear hJ hM hY hH h0 hb
  refine callsIn_of_wp Try.func57 rfl trivial ?_ rfl
  simp only [Try.ntmps57, List.size_toArray, List.length_cons, List.length_nil, Nat.reduceAdd, Nat.reduceSub, Array.replicate_succ, Array.replicate_zero, List.push_toArray, List.append_toArray, List.nil_append, List.cons_append]
  gi_wp2
  refine ⟨trivial, fun q => by simp [Fence.wide] at q, ?_⟩
  refine (callsIn_wide.2 hcl).mono ?_
  rintro e w1 ⟨hc, vc, Lc, rfl, h1, h2, h3⟩
  have HR : Hid (RI o J hc N w1) := ⟨[], M0, vc, Lc, W.heap.size, h1, HJ.out _ _ _ _ _ HH.out.2 h3 (fun _ q => q.elim), fun b hb hm => by
    have q1 := h1.lo b hb
    have q2 := HM.out _ _ _ _ HH.out.2 hm
    omega⟩
  clear h1 h2 h3 hcl hcb
  gi_wp2
  gi_loopw [4, 5] (fun _ _ wr => Hid (RI o J hc N wr)) (fun _ _ wr => lenN wr hc)
  case atStart => exact HR
  case round =>
    obtain ⟨pre, M, vc, Lc, D, q1, q3, q4⟩ := hrel
    have hlen := Len_O q1
    have HLN : Hid (lenN wr hc = Lc.length) := q1.lenN
    gi_wp2
    refine ⟨trivial, fun q => by simp [Fence.wide] at q, ?_⟩
    refine (callsIn_wide.2 hlen).mono ?_
    rintro e w2 ⟨rfl, ew⟩
    replace ew := ew.symm
    subst ew
    clear hlen
    by_cases hL : Lc = []
    · subst hL
      have HQ : Hid (J pre wr M) := q3
      clear q1 q3 q4
      gi_wp2
      go_end0
      exact ⟨⟨_, rfl⟩, .inl ⟨pre, M, HQ.out⟩⟩
    · have hl0 : (0 : Int) < (Lc.length : Int) := by have := List.length_pos_iff.2 hL; omega
      have hpo := Pop_O q1 hL
      have HQ : Hid (HpO o D wr hc vc Lc N ∧ J pre wr M ∧ ∀ b, ownH hc vc Lc b → ¬ M b) := ⟨q1, q3, q4⟩
      clear q1 q3 q4
      gi_wp2
      refine ⟨trivial, fun q => by simp [Fence.wide] at q, ?_⟩
      refine (callsIn_wide.2 hpo).mono ?_
      rintro e w3 ⟨m3, it, hm3, rfl, ⟨vc', h5, h6⟩, _, h7⟩
      obtain ⟨pi, ri, x⟩ := it
      have HP : Hid (HpO o D w3 hc vc' (Lc.eraseIdx m3) N ∧ J pre w3 M ∧ (∀ b, ownH hc vc' (Lc.eraseIdx m3) b → ¬ M b) ∧ (Lc.eraseIdx m3).length + 1 = Lc.length) := by
        refine ⟨h5, HJ.out _ _ _ _ _ HQ.out.2.1 h7 HQ.out.2.2, fun b hb => HQ.out.2.2 b (own_erase h6 hb), ?_⟩
        have := get_lt hm3
        rw [List.length_eraseIdx, if_pos this]; omega
      clear h5 h6 h7 hpo HQ hm3
      obtain ⟨fn, tmps, assign, body, hy, hR⟩ := HY.out pre x _ M HP.out.2.1
      gi_wp2
      refine ⟨fun q => by simp [Fence.wide] at q, ?_⟩
      refine hR.mono ?_
      clear hR hy
      rintro e W' (⟨rfl, M', j1, j2, j3⟩ | ⟨rfl, j1⟩)
      · have HH4 : HpO o D W' hc vc' (Lc.eraseIdx m3) N := HP.out.1.fr j2 HP.out.2.2.1
        have HR4 : Hid (RI o J hc N W') := ⟨pre ++ [x], M', vc', _, D, HH4, j1, fun b hb hm => by
          rcases j3 b hm with q | q
          · exact HP.out.2.2.1 b hb q
          · have := HP.out.1.lt hb; omega⟩
        have HL4 : Hid (lenN W' hc = (Lc.eraseIdx m3).length) := HH4.lenN
        clear j1 j2 j3 HH4
        gi_wp2
        go_roundw
        case rel => exact HR4
        case measure => rw [HL4.out, HLN.out]; have := HP.out.2.2.2; omega
      · have HX : Hid (Jx (pre ++ [x]) W') := j1
        clear j1
        gi_wp2
        refine bodyPost_ret (results_none rfl _ _ _) rfl ?_
        exact ⟨⟨_, rfl⟩, .inr ⟨_, HX.out⟩⟩
def encI (x : Th) : Array Value := #[.int .i64 x.k]
theorem all_itr (o h Bb : Nat) : Itr Try.prog 57 #[ptr Bb] encI (fun _ => True) (fun _ => True) (fun W => ∃ B v L N, HpO o B W h v L N ∧ Blk W Bb 47 #[ptr h]) := by
  intro m l J Jx W M0 hA hY hC h0
  obtain ⟨B, v, L, N, h1, h2⟩ := hC
  refine (all1_in m l Bb h o B J Jx hA.1 hA.2 (fun pre x W M hj => hY pre x W M hj trivial) W v L N h1 h2 M0 h0).mono ?_
  rintro e W' ⟨he, (⟨pre, M', q2⟩ | ⟨pre, q2⟩)⟩
  · exact ⟨he, .inl ⟨pre, M', trivial, q2⟩⟩
  · exact ⟨he, .inr ⟨pre, trivial, q2⟩⟩
theorem cfA (args : Array Value) (w : World) : (callFunc 57 args).run Try.prog w = .ok (.enter 57 args) w := by kernel_rfl
end Go.Proofs.Ytdnhhcbabdoomaa.I
