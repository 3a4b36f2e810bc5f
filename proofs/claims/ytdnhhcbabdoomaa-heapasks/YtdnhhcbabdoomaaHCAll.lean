/-
  heap of things that count: going through All.
-/
import Derived.Test.YtdnhhcbabdoomaaHCClone
import Derived.Test.YtdnhhcbabdoomaaHCAsk
import Derived.Test.YtdnhhcbabdoomaaHCRange
namespace Go.Proofs.Ytdnhhcbabdoomaa.C
set_option linter.unusedVariables false
set_option linter.unusedSimpArgs false
open Go.RowKit Go.Great Go.Shelf

attribute [local go_sem] Oper.semAt_some

/-- These have come (the last one first), those are left. -/
def PopR (lt : Th → Th → Bool) (xs : List Th) : List Th → List Th → Prop
  | [], rest => rest = xs
  | x :: p, rest => ∃ r0 m, PopR lt xs p r0 ∧ IsMin lt r0 m ∧ r0[m]? = some x ∧ rest = r0.eraseIdx m
/-- These have come, those are left. -/
def PopTo (lt : Th → Th → Bool) (xs pre rest : List Th) : Prop := PopR lt xs pre.reverse rest
section
variable {lt : Th → Th → Bool} {xs : List Th}
theorem PopTo.nil : PopTo lt xs [] xs := rfl
theorem PopTo.snoc {pre rest : List Th} {m : Nat} {x : Th} (h : PopTo lt xs pre rest) (hm : IsMin lt rest m) (hx : rest[m]? = some x) : PopTo lt xs (pre ++ [x]) (rest.eraseIdx m) := by
  unfold PopTo
  rw [List.reverse_append]
  exact ⟨rest, m, h, hm, hx, rfl⟩
theorem PopTo.inv {q s : List Th} (h : PopTo lt xs q s) : (q = [] ∧ s = xs) ∨ ∃ pre rest m x, q = pre ++ [x] ∧ s = rest.eraseIdx m ∧ PopTo lt xs pre rest ∧ IsMin lt rest m ∧ rest[m]? = some x := by
  unfold PopTo at h
  cases hq : q.reverse with
  | nil => rw [hq] at h; exact .inl ⟨List.reverse_eq_nil_iff.1 hq, h⟩
  | cons x p =>
    rw [hq] at h
    obtain ⟨r0, m, h1, h2, h3, h4⟩ := h
    refine .inr ⟨p.reverse, r0, m, x, ?_, h4, ?_, h2, h3⟩
    · have e := congrArg List.reverse hq
      rw [List.reverse_reverse, List.reverse_cons] at e
      exact e
    · unfold PopTo; rw [List.reverse_reverse]; exact h1
theorem PopTo.ind {motive : List Th → List Th → Prop} (h0 : motive [] xs) (hs : ∀ pre rest m x, PopTo lt xs pre rest → IsMin lt rest m → rest[m]? = some x → motive pre rest → motive (pre ++ [x]) (rest.eraseIdx m)) : ∀ (n : Nat) (q s : List Th), q.length = n → PopTo lt xs q s → motive q s := by
  intro n
  induction n with
  | zero =>
    intro q s hn h
    rcases h.inv with ⟨rfl, rfl⟩ | ⟨pre, rest, m, x, rfl, rfl, _⟩
    · exact h0
    · simp at hn
  | succ n ih =>
    intro q s hn h
    rcases h.inv with ⟨rfl, rfl⟩ | ⟨pre, rest, m, x, rfl, rfl, h1, h2, h3⟩
    · exact h0
    · rw [List.length_append, List.length_singleton] at hn
      exact hs pre rest m x h1 h2 h3 (ih pre rest (by omega) h1)
theorem PopTo.len {pre rest : List Th} (h : PopTo lt xs pre rest) : pre.length + rest.length = xs.length := by
  refine PopTo.ind (lt := lt) (xs := xs) (motive := fun pre rest => pre.length + rest.length = xs.length) (by simp) ?_ _ pre rest rfl h
  intro pre rest m x _ _ hx ih
  have := get_lt hx
  rw [List.length_append, List.length_singleton, List.length_eraseIdx, if_pos this]
  omega
end
theorem askT_tb (tb : Nat) : (askT tb).tb = tb := rfl
theorem PopTo.next {lt : Th → Th → Bool} {xs pre rest : List Th} {x y : Th} (h : PopTo lt xs (pre ++ [y] ++ [x]) rest) : lt x y = false := by
  rcases h.inv with ⟨e, _⟩ | ⟨p1, r1, m1, x1, e1, _, h1, _, hx1⟩
  · simp at e
  · obtain ⟨e2, e3⟩ := List.append_inj' e1 rfl
    injection e3 with e3 _
    subst e2 e3
    rcases h1.inv with ⟨e, _⟩ | ⟨p2, r2, m2, y2, e4, hr, _, h3, hy⟩
    · simp at e
    · obtain ⟨e5, e6⟩ := List.append_inj' e4 rfl
      injection e6 with e6 _
      subst e5 e6
      obtain ⟨z, hz, hall, _⟩ := h3
      rw [hy] at hz
      injection hz with hz
      subst hz
      have hm : x ∈ r2 := by
        have := List.mem_of_getElem? hx1
        rw [hr] at this
        exact (List.eraseIdx_sublist _ _).subset this
      obtain ⟨q, hq⟩ := List.mem_iff_getElem?.1 hm
      exact hall q x hq
theorem erase_map {α β : Type} (f : α → β) (L : List α) (m : Nat) : (L.eraseIdx m).map f = (L.map f).eraseIdx m := by
  rw [List.eraseIdx_eq_take_drop_succ, List.eraseIdx_eq_take_drop_succ, List.map_append, List.map_take, List.map_drop]
theorem own_erase {h : Nat} {v v' : Value} {L : List (It Th)} {m b : Nat} (hv : v'.ownBlock = v.ownBlock) (hb : ownH h v' (L.eraseIdx m) b) : ownH h v L b := by
  rcases hb with q | q | ⟨it, q, q2⟩
  · exact .inl q
  · rw [hv] at q; exact .inr (.inl q)
  · exact .inr (.inr ⟨it, (List.eraseIdx_sublist _ _).subset q, q2⟩)
def lenN (w : World) (h : Nat) : Nat := match w.cell? ⟨h, 1, none⟩ with
  | some (.slice _ n _) => n
  | _ => 0
theorem HpA.lenN {A : Ask} {w : World} {h : Nat} {v : Value} {L : List (It Th)} {N c : Nat} (H : HpA A w h v L N c) : lenN w h = L.length := by
  obtain ⟨t, h1, h2, _⟩ := H
  obtain ⟨ao, cap, hv, _⟩ := h1.form
  unfold Go.Proofs.Ytdnhhcbabdoomaa.C.lenN
  rw [h1.hd.2.1, hv]
  exact h2.length_eq
theorem HpA.sm {tb : Nat} {w w' : World} {h : Nat} {v : Value} {L : List (It Th)} {N c : Nat} (H : HpA (askT tb) w h v L N c) (hf : Fr w w' (fun _ => False)) : HpA (askT tb) w' h v L N c := H.fr hf (fun _ _ q => q) ((askT_ok tb).keep H.st hf fun _ q => q.elim)
/-- Where the iterator stands: what is left in the copy; what belongs to who goes through; how often less was asked. -/
def RI (tb : Nat) (xs : List Th) (J : List Th → World → (Nat → Prop) → Prop) (hc N c0 : Nat) (wr : World) : Prop :=
  ∃ pre M vc Lc c, HpA (askT tb) wr hc vc Lc N c ∧ PopTo (askT tb).lt xs pre (Lc.map (·.x)) ∧ J pre wr M ∧ (∀ b, ownH hc vc Lc b → ¬ M b) ∧ ¬ M tb ∧ c + Lc.length * (2 * Nat.log2 xs.length + 1) ≤ c0 + xs.length * (2 * Nat.log2 xs.length + 1)
set_option maxRecDepth 100000 in
set_option maxHeartbeats 2000000 in
theorem all1_in (m l Bb h tb : Nat) (xs : List Th) (J : List Th → World → (Nat → Prop) → Prop) (Jx : List Th → World → Prop)
    (hJ : ∀ pre W W' M e, J pre W M → Fr W W' e → (∀ b, e b → ¬ M b) → J pre W' M) (hM : ∀ pre W M b, J pre W M → M b → b < W.heap.size)
    (hY : ∀ pre x W M, J pre W M → (∃ rest, PopTo (askT tb).lt xs (pre ++ [x]) rest) → YieldAt Fence.wide (m - 1) Try.prog l #[.agg #[.int .i64 x.k, ptr tb]] W fun e W' => (e = .returned (.bool true) ∧ ∃ M', J (pre ++ [x]) W' M' ∧ Fr W W' M ∧ ∀ b, M' b → M b ∨ W.heap.size ≤ b) ∨ (e = .returned (.bool false) ∧ Jx (pre ++ [x]) W'))
    (W : World) (v : Value) (L : List (It Th)) (N c0 : Nat) (hH : HpA (askT tb) W h v L N c0) (hb : Blk W Bb 61 #[ptr h]) (hxs : L.map (·.x) = xs) (M0 : Nat → Prop) (h0 : J [] W M0) (hMt : ¬ M0 tb) :
    CallsIn Fence.wide m Try.prog 63 #[.func (.yield l) #[] #[], ptr Bb] W fun e W' => (∃ v, e = .returned v) ∧
      ((∃ pre M', (PopTo (askT tb).lt xs pre [] ∧ ∃ c, (askT tb).S c W' ∧ c ≤ c0 + xs.length * (2 * Nat.log2 xs.length + 1)) ∧ J pre W' M') ∨ (∃ pre rest, PopTo (askT tb).lt xs pre rest ∧ Jx pre W')) := by
  have HJ : Hid (∀ pre W W' M e, J pre W M → Fr W W' e → (∀ b, e b → ¬ M b) → J pre W' M) := hJ
  have HM : Hid (∀ pre W M b, J pre W M → M b → b < W.heap.size) := hM
  have HY : Hid (∀ pre x W M, J pre W M → (∃ rest, PopTo (askT tb).lt xs (pre ++ [x]) rest) → YieldAt Fence.wide (m - 1) Try.prog l #[.agg #[.int .i64 x.k, ptr tb]] W fun e W' => (e = .returned (.bool true) ∧ ∃ M', J (pre ++ [x]) W' M' ∧ Fr W W' M ∧ ∀ b, M' b → M b ∨ W.heap.size ≤ b) ∨ (e = .returned (.bool false) ∧ Jx (pre ++ [x]) W')) := hY
  have HH : Hid (HpA (askT tb) W h v L N c0 ∧ L.map (·.x) = xs ∧ J [] W M0 ∧ ¬ M0 tb) := ⟨hH, hxs, h0, hMt⟩
  have hcb : W.cell? ⟨Bb, 0, none⟩ = some (ptr h) := hb.cell 0
  have hcl := clone_A hH (askT_ok tb)
  clear hJ hM hY hH hxs h0 hb hMt
  refine callsIn_of_wp Try.func63 rfl trivial ?_ rfl
  simp only [Try.ntmps63, List.size_toArray, List.length_cons, List.length_nil, Nat.reduceAdd, Nat.reduceSub, Array.replicate_succ, Array.replicate_zero, List.push_toArray, List.append_toArray, List.nil_append, List.cons_append]
  gi_wp2
  refine ⟨trivial, fun q => by simp [Fence.wide] at q, ?_⟩
  refine (callsIn_wide.2 hcl).mono ?_
  rintro e w1 ⟨hc, vc, Lc, rfl, h1, h2, h3, h4⟩
  have HR : Hid (RI tb xs J hc N c0 w1) := by
    have hlen : Lc.length = xs.length := by rw [← HH.out.2.1, ← h2]; simp
    refine ⟨[], M0, vc, Lc, c0, h1, by rw [h2, HH.out.2.1]; exact PopTo.nil, HJ.out _ _ _ _ _ HH.out.2.2.1 h3 (fun _ q => q.elim), fun b hb hm => ?_, HH.out.2.2.2, by rw [hlen]; exact Nat.le_refl _⟩
    have q1 := h4 b hb
    have q2 := HM.out _ _ _ _ HH.out.2.2.1 hm
    omega
  clear h1 h2 h3 h4 hcl hcb
  gi_wp2
  gi_loopw [4, 5] (fun _ _ wr => Hid (RI tb xs J hc N c0 wr)) (fun _ _ wr => lenN wr hc)
  case atStart => exact HR
  case round =>
    obtain ⟨pre, M, vc, Lc, c, q1, q2, q3, q4, q5, q6⟩ := hrel
    have hlen := Len_any q1
    have HLN : Hid (lenN wr hc = Lc.length) := q1.lenN
    gi_wp2
    refine ⟨trivial, fun q => by simp [Fence.wide] at q, ?_⟩
    refine (callsIn_wide.2 hlen).mono ?_
    rintro e w2 ⟨rfl, ew⟩
    replace ew := ew.symm
    subst ew
    clear hlen
    by_cases hL : Lc = []
    · subst hL
      have HQ : Hid ((PopTo (askT tb).lt xs pre [] ∧ ∃ c, (askT tb).S c wr ∧ c ≤ c0 + xs.length * (2 * Nat.log2 xs.length + 1)) ∧ J pre wr M) := ⟨⟨q2, c, q1.st, by simpa using q6⟩, q3⟩
      clear q1 q2 q3 q4 q5 q6
      gi_wp2
      go_end0
      exact ⟨⟨_, rfl⟩, .inl ⟨pre, M, HQ.out⟩⟩
    · have hl0 : (0 : Int) < (Lc.length : Int) := by have := List.length_pos_iff.2 hL; omega
      have hpo := Pop_A q1 (askT_ok tb) hL
      simp only [askT_tb] at hpo
      have HQ : Hid (HpA (askT tb) wr hc vc Lc N c ∧ PopTo (askT tb).lt xs pre (Lc.map (·.x)) ∧ J pre wr M ∧ (∀ b, ownH hc vc Lc b → ¬ M b) ∧ ¬ M tb ∧ c + Lc.length * (2 * Nat.log2 xs.length + 1) ≤ c0 + xs.length * (2 * Nat.log2 xs.length + 1)) := ⟨q1, q2, q3, q4, q5, q6⟩
      clear q1 q2 q3 q4 q5 q6
      gi_wp2
      refine ⟨trivial, fun q => by simp [Fence.wide] at q, ?_⟩
      refine (callsIn_wide.2 hpo).mono ?_
      rintro e w3 ⟨m3, it, hm3, hmin, rfl, ⟨vc', nn, h5, hn5, h6⟩, _, h7⟩
      obtain ⟨pi, ri, x⟩ := it
      have F4 : Fr w3 (w3.alloc (.cells #[.int .i64 x.k, ptr tb] 65)) (fun _ => False) := Fr.alloc _ _ _
      have HP : Hid (HpA (askT tb) (w3.alloc (.cells #[.int .i64 x.k, ptr tb] 65)) hc vc' (Lc.eraseIdx m3) N (c + nn) ∧ PopTo (askT tb).lt xs (pre ++ [x]) ((Lc.eraseIdx m3).map (·.x)) ∧ J pre (w3.alloc (.cells #[.int .i64 x.k, ptr tb] 65)) M ∧ (∀ b, ownH hc vc' (Lc.eraseIdx m3) b → ¬ M b) ∧ (Lc.eraseIdx m3).length + 1 = Lc.length ∧ ¬ M tb ∧ c + nn + (Lc.eraseIdx m3).length * (2 * Nat.log2 xs.length + 1) ≤ c0 + xs.length * (2 * Nat.log2 xs.length + 1)) := by
        have hlt := get_lt hm3
        have hle : (Lc.eraseIdx m3).length + 1 = Lc.length := by rw [List.length_eraseIdx, if_pos hlt]; omega
        refine ⟨h5.sm F4, ?_, HJ.out _ _ _ _ _ (HJ.out _ _ _ _ _ HQ.out.2.2.1 h7 fun b hb => ?_) F4 (fun _ q => q.elim), fun b hb => HQ.out.2.2.2.1 b (own_erase h6 hb), hle, HQ.out.2.2.2.2.1, ?_⟩
        · rw [erase_map]
          exact HQ.out.2.1.snoc (hmin (askT_ord tb)) (by rw [List.getElem?_map, hm3]; rfl)
        · rcases hb with q | q
          · exact HQ.out.2.2.2.1 b q
          · have : b = tb := q
            rw [this]; exact HQ.out.2.2.2.2.1
        · have hpl := HQ.out.2.1.len
          rw [List.length_map] at hpl
          have hlg := lg_mono (a := Lc.length) (b := xs.length) (by omega) (by omega)
          have h9 := HQ.out.2.2.2.2.2
          have h10 : Lc.length * (2 * Nat.log2 xs.length + 1) = (Lc.eraseIdx m3).length * (2 * Nat.log2 xs.length + 1) + (2 * Nat.log2 xs.length + 1) := by rw [← hle, Nat.add_mul, Nat.one_mul]
          rw [h10] at h9
          generalize (Lc.eraseIdx m3).length * (2 * Nat.log2 xs.length + 1) = X at *
          generalize xs.length * (2 * Nat.log2 xs.length + 1) = Y at *
          omega
      clear h5 h6 h7 hpo F4 HQ hm3 hmin hn5
      obtain ⟨fn, tmps, assign, body, hy, hR⟩ := HY.out pre x _ M HP.out.2.2.1 ⟨_, HP.out.2.1⟩
      gi_wp2
      refine ⟨fun q => by simp [Fence.wide] at q, ?_⟩
      refine hR.mono ?_
      clear hR hy
      generalize w3.alloc (.cells #[.int .i64 x.k, ptr tb] 65) = w4 at *
      rintro e W' (⟨rfl, M', j1, j2, j3⟩ | ⟨rfl, j1⟩)
      · have HH4 : HpA (askT tb) W' hc vc' (Lc.eraseIdx m3) N (c + nn) := HP.out.1.fr j2 HP.out.2.2.2.1 ((askT_ok tb).keep HP.out.1.st j2 fun b hb hx => HP.out.2.2.2.2.2.1 (by have : b = tb := hx; rw [← this]; exact hb))
        have htl : tb < w4.heap.size := (askT_ok tb).low HP.out.1.st (b := tb) rfl
        have HR4 : Hid (RI tb xs J hc N c0 W') := ⟨pre ++ [x], M', vc', _, _, HH4, HP.out.2.1, j1, fun b hb hm => by
          rcases j3 b hm with q | q
          · exact HP.out.2.2.2.1 b hb q
          · have := HP.out.1.lt hb; omega, fun hm => by
          rcases j3 tb hm with q | q
          · exact HP.out.2.2.2.2.2.1 q
          · omega, HP.out.2.2.2.2.2.2⟩
        have HL4 : Hid (lenN W' hc = (Lc.eraseIdx m3).length) := HH4.lenN
        clear j1 j2 j3 HH4 htl
        gi_wp2
        go_roundw
        case rel => exact HR4
        case measure => rw [HL4.out, HLN.out]; have := HP.out.2.2.2.2.1; omega
      · have HX : Hid (PopTo (askT tb).lt xs (pre ++ [x]) ((Lc.eraseIdx m3).map (·.x)) ∧ Jx (pre ++ [x]) W') := ⟨HP.out.2.1, j1⟩
        clear j1
        gi_wp2
        refine bodyPost_ret (results_none rfl _ _ _) rfl ?_
        exact ⟨⟨_, rfl⟩, .inr ⟨_, _, HX.out⟩⟩
def encC (tb : Nat) (x : Th) : Array Value := #[.agg #[.int .i64 x.k, ptr tb]]
theorem all_itr (tb h Bb c0 : Nat) (xs : List Th) : Itr Try.prog 63 #[ptr Bb] (encC tb) (fun pre W => PopTo (askT tb).lt xs pre [] ∧ ∃ c, (askT tb).S c W ∧ c ≤ c0 + xs.length * (2 * Nat.log2 xs.length + 1)) (fun pre => ∃ rest, PopTo (askT tb).lt xs pre rest) (fun W M0 => ∃ v L N, HpA (askT tb) W h v L N c0 ∧ Blk W Bb 61 #[ptr h] ∧ L.map (·.x) = xs ∧ ¬ M0 tb) := by
  intro m l J Jx W M0 hA hY hC h0
  obtain ⟨v, L, N, h1, h2, h3, h4⟩ := hC
  refine (all1_in m l Bb h tb xs J Jx hA.1 hA.2 (fun pre x W M hj hr => hY pre x W M hj hr) W v L N c0 h1 h2 h3 M0 h0 h4).mono ?_
  rintro e W' ⟨he, (⟨pre, M', q1, q2⟩ | ⟨pre, rest, q1, q2⟩)⟩
  · exact ⟨he, .inl ⟨pre, M', q1, q2⟩⟩
  · exact ⟨he, .inr ⟨pre, ⟨rest, q1⟩, q2⟩⟩
theorem cfA (args : Array Value) (w : World) : (callFunc 63 args).run Try.prog w = .ok (.enter 63 args) w := by kernel_rfl
end Go.Proofs.Ytdnhhcbabdoomaa.C
