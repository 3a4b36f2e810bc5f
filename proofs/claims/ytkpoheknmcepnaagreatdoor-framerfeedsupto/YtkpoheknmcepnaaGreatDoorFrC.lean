import Derived.Test.YtkpoheknmcepnaaGreatDoorFrLookB
import Derived.Test.YtkpoheknmcepnaaGreatDoorFrWalk
import Derived.RangeFuncNested
import Derived.RangeFuncBound
import Derived.RangeFuncCalls
import Derived.RangeFuncLeaves
import Derived.RangeFuncBox
import Derived.RangeFuncFrom
import Derived.Shelf.Abstract
import Derived.WalkKit
import Derived.OwnWalkIn
import Derived.TacticsInMore
import Derived.LoopNIn
import Derived.LoopIn
import Derived.Sort.QuietThIn
import Derived.Sort.BigQuietIn
import Derived.Sort.QuietTacIn

namespace Go.Proofs.YtkpoheknmcepnaaGreatDoor
set_option linter.unusedVariables false
set_option linter.unusedSimpArgs false
open Go.RowKit Go.Great

section
variable {F : Fence} {n : Nat} {P : Program} {ops : Array Oper} {Q : Exit → Act → World → Prop}
theorem wpOpIn_round (l : Nat) (hro : F.round = none) (hnd : ∀ (j : Nat) (o : Oper), ops[j]? = some o → ∀ c, o.op ≠ .defer c) {i : Nat} {K : Act → World → Prop} {a : Act} {w : World} (h : wpOpIn F n P ops Q i K a w) : wpOpIn (F.inRound l) n P ops Q i K a w := by
  unfold wpOpIn at *
  cases ho : ops[i]? with
  | none => simp only [ho] at h ⊢; exact h
  | some o =>
    simp only [ho] at h ⊢
    split
    · rename_i hw
      simp only [hw, if_true] at h
      unfold Oper.wpIn at *
      refine ⟨h.1, ?_⟩
      have h2 := h.2
      rw [hro, Oper.semAt_none] at h2
      rw [Oper.semAt_eq _ _ _ (hnd i o ho)]
      exact h2
    · rename_i hw
      simp only [hw] at h
      exact h
theorem wpAnyIn_round (l : Nat) (hro : F.round = none) (hnd : ∀ (j : Nat) (o : Oper), ops[j]? = some o → ∀ c, o.op ≠ .defer c) {md : Region.Mode} : ∀ (fuel : Nat) (listed : Array Bool) (a : Act) (w : World), wpAnyIn F n P md ops Q fuel listed a w → wpAnyIn (F.inRound l) n P md ops Q fuel listed a w
  | 0, _, _, _, h => h
  | fuel + 1, listed, a, w, h => ⟨h.1, fun i hi => wpOpIn_mono (fun a' w' h' => wpAnyIn_round l hro hnd fuel _ a' w' h') (wpOpIn_round l hro hnd (h.2 i hi))⟩
theorem region_round_any {l id : Nat} {a : Act} {w : World} (hro : F.round = none) (hnd : ∀ (j : Nat) (o : Oper), ops[j]? = some o → ∀ c, o.op ≠ .defer c) (hm : P.follows .mixedOrders = true)
    (h : wpAnyIn F n P .any ops Q ops.size (Array.replicate ops.size false) a w.drew) : (Code.region id ops true).wpIn (F.inRound l) n P Q a w :=
  wpIn_region_any hm (wpAnyIn_round l hro hnd _ _ _ _ h)
theorem region_round_quiet {l id : Nat} {a : Act} {w : World} {C : World → Prop} (hro : F.round = none) (hnd : ∀ (j : Nat) (o : Oper), ops[j]? = some o → ∀ c, o.op ≠ .defer c) (hm : P.follows .mixedOrders = true) (hB : Region.lexB .any ops = true) (hC : C w.drew)
    (h : wpQuietIn F n P ops C (fun a' => ∀ w', C w' → Q .normal a' w') ops.toList a) : (Code.region id ops true).wpIn (F.inRound l) n P Q a w := by
  simp only [Region.lexB, Bool.and_eq_true] at hB
  refine region_round_any hro hnd hm (wpAnyIn_of_quiet (Q := fun a' => ∀ w', C w' → Q .normal a' w') hro (fun _ w' hw' h => h w' hw') _ _ _ _ hC ?_)
  have := wpAnyQIn_lex (F := F) (n := n) (C := C) (md := .any) hB.1 ops.toList 0 (Array.replicate ops.size false) a (by simp) (by simpa using hB.2) h
  simpa using this
end
section
variable {n : Nat} {P : Program} {ops : Array Oper} {Q : Exit → Act → World → Prop}
theorem about_wide {o : Oper} {w : World} {ρ : Operand → Value} : ∀ f, o.about P w ρ = some f → Fence.wide.fn f := fun f _ => trivial
/-- An operation of a quiet walk. -/
theorem quietIn_runTo {C : World → Prop} {R : Act → Prop} {a : Act} {o : Oper} {rest : List Oper} (hw : Region.wanted o (yielded ops a.tmps) = true) (dst : Option Tmp) (hdst : o.dst = dst) (v : Value)
    (hrun : ∀ w, C w → (execOp a.eval o).run P w = .ok (.value v) w) (h : wpQuietIn Fence.wide n P ops C R rest (a.put dst v)) : wpQuietIn Fence.wide n P ops C R (o :: rest) a :=
  wpQuietIn_step (fun _ _ _ _ => trivial) fun K hK => by
    rw [if_pos hw]
    exact ⟨v, fun w hw => by unfold Oper.quietAtIn; rw [hrun w hw]; exact ⟨rfl, rfl⟩, by subst hdst; exact hK _ h⟩
/-- An operation that comes up in a region that draws its order. -/
theorem valIn {op : Oper} {a : Act} {w w' : World} {K : Act → World → Prop} {d : Option Tmp} (hd : op.dst = d) (hnd : ∀ c, op.op ≠ .defer c) (v : Value)
    (hrun : (execOp a.eval op).run P w = .ok (.value v) w') (h : K (a.put d v) w') : Oper.wpIn Fence.wide n P op a w K Q := by
  subst hd
  refine ⟨fun _ _ => trivial, ?_⟩
  rw [Oper.semAt_eq _ _ _ hnd, hrun]
  exact h
theorem skipIn {op : Oper} {a : Act} {w w' : World} {K : Act → World → Prop} {d : Option Tmp} (hd : op.dst = d) (hnd : ∀ c, op.op ≠ .defer c)
    (hrun : (execOp a.eval op).run P w = .ok .skip w') (h : K (a.put d undef) w') : Oper.wpIn Fence.wide n P op a w K Q := by
  subst hd
  refine ⟨fun _ _ => trivial, ?_⟩
  rw [Oper.semAt_eq _ _ _ hnd, hrun]
  exact h
end
end Go.Proofs.YtkpoheknmcepnaaGreatDoor

namespace Go.Proofs.YtkpoheknmcepnaaGreatDoor
set_option linter.unusedVariables false
set_option linter.unusedSimpArgs false
open Go.RowKit Go.Great Go.Shelf

attribute [local go_sem] Oper.semAt_some

set_option maxRecDepth 100000 in
theorem Chunk_any (a : Option Addr) (n c : Nat) (w : World) :
    Calls Tryz.prog 21 #[.slice a n c, .int .i64 1024] w fun e w' => e = .returned (.func (.func 53) #[] #[.pointer (some ⟨w.heap.size, 0, none⟩), .pointer (some ⟨w.heap.size + 1, 0, none⟩)]) ∧ w' = (w.alloc (.cells #[.slice a n c] 22)).alloc (.cells #[.int .i64 1024] 3) := by
  go_enter Tryz.func21, Tryz.ntmps21
  go_wp2
  go_ret
  exact ⟨rfl, rfl⟩
/-- A place where a piece begins. -/
abbrev Pc (n : Nat) := { i : Nat // i < n }
def pcLen (n i : Nat) : Nat := min 1024 (n - i)
def encP (g o n : Nat) (x : Pc n) : Array Value := #[.slice (some ⟨g, o + x.1, none⟩) (pcLen n x.1) (pcLen n x.1)]
/-- The places of the first k pieces. -/
def pcs (n : Nat) : Nat → List (Pc n)
  | 0 => []
  | k + 1 => if h : 1024 * k < n then pcs n k ++ [⟨1024 * k, h⟩] else pcs n k
theorem pcs_succ {n k : Nat} (h : 1024 * k < n) : pcs n (k + 1) = pcs n k ++ [⟨1024 * k, h⟩] := by show (if h : 1024 * k < n then _ else _) = _; rw [dif_pos h]
theorem pcs_len (n : Nat) : ∀ k, (pcs n k).length ≤ k
  | 0 => Nat.le_refl _
  | k + 1 => by
    have := pcs_len n k
    show (if h : 1024 * k < n then pcs n k ++ [⟨1024 * k, h⟩] else pcs n k).length ≤ k + 1
    split
    · rw [List.length_append]; simp; omega
    · omega
theorem grownBy_drewN (W : World) (q : Nat) : W.grownBy (W.drewN q) none := by
  first
    | exact ⟨rfl, rfl, rfl, Nat.le_refl _, fun _ _ _ => rfl⟩
    | exact World.grownBy_refl _ _
    | (constructor <;> simp)
def KpC (Bs Bn : Nat) (W W' : World) : Prop := W'.cell? ⟨Bs, 0, none⟩ = W.cell? ⟨Bs, 0, none⟩ ∧ W'.cell? ⟨Bn, 0, none⟩ = W.cell? ⟨Bn, 0, none⟩
set_option maxRecDepth 100000 in
set_option maxHeartbeats 2000000 in
theorem chunk1_in (m l Bs Bn g o n c : Nat) (a : Option Addr) (ha : 0 < n → a = some ⟨g, o, none⟩) (hn : n ≤ c) (hc : n ≤ 9000000000000000000) (J Jx : List (Pc n) → World → Prop)
    (hY : ∀ pre x W, J pre W → pre.length < (n + 1023) / 1024 → YieldAt Fence.wide (m - 1) Tryz.prog l (encP g o n x) W fun e W' => (e = .returned (.bool true) ∧ J (pre ++ [x]) W' ∧ KpC Bs Bn W W') ∨ (e = .returned (.bool false) ∧ Jx (pre ++ [x]) W'))
    (W : World) (hs : W.cell? ⟨Bs, 0, none⟩ = some (.slice a n c)) (hb : W.cell? ⟨Bn, 0, none⟩ = some (.int .i64 1024)) (h0 : J [] W) (hJd : ∀ pre W q, J pre W → J pre (W.drewN q)) :
    CallsIn Fence.wide m Tryz.prog 53 #[.func (.yield l) #[] #[], .pointer (some ⟨Bs, 0, none⟩), .pointer (some ⟨Bn, 0, none⟩)] W fun e W' => (∃ v, e = .returned v) ∧
      ((∃ ys, ys = pcs n ((n + 1023) / 1024) ∧ J ys W') ∨ (∃ pre, (∃ k, pre = pcs n k) ∧ Jx pre W')) := by
  refine callsIn_of_wp Tryz.func53 rfl trivial ?_ rfl
  simp only [Tryz.ntmps53, List.size_toArray, List.length_cons, List.length_nil, Nat.reduceAdd, Nat.reduceSub, Array.replicate_succ, Array.replicate_zero, List.push_toArray, List.append_toArray, List.nil_append, List.cons_append]
  gi_wp2
  gi_loopw [4, 5] (fun i _ wr => ∃ k : Nat, 1024 * k ≤ n + 1023 ∧ i = .int .i64 ((1024 * k : Nat) : Int) ∧ Hid (J (pcs n k) wr) ∧ wr.cell? ⟨Bs, 0, none⟩ = some (.slice a n c) ∧ wr.cell? ⟨Bn, 0, none⟩ = some (.int .i64 1024)) (fun i _ _ => n + 1024 - (intOf i).toNat)
  case atStart => exact ⟨0, by omega, rfl, h0, hs, hb⟩
  case round =>
    obtain ⟨k, hk, rfl, hJ, hs', hb'⟩ := hrel
    by_cases hlt : 1024 * k < n
    · obtain rfl := ha (by omega)
      have hlt' : ((1024 * k : Nat) : Int) < (n : Int) := by omega
      obtain ⟨i, hi⟩ : ∃ i, 1024 * k = i := ⟨_, rfl⟩
      have hHi : Hid (1024 * k = i) := hi
      have hps := pcs_succ hlt
      have hHps : Hid _ := hps
      have hlk : k < (n + 1023) / 1024 := by omega
      simp only [hi] at hlt hlt' ⊢
      clear hi hps
      obtain ⟨e, he⟩ : ∃ e, pcLen n i = e := ⟨_, rfl⟩
      have he1 : 1 ≤ e ∧ e ≤ 1024 ∧ i + e ≤ n := by unfold pcLen at he; omega
      have hmin : min (1024 : Int) ((n - i : Nat) : Int) = (e : Int) := by unfold pcLen at he; omega
      have hic : ¬ c = i := by omega
      have hicl : (i : Int) ≤ (n : Int) := by omega
      have hiew : IntKind.i64.wrap ((i : Int) + (e : Int)) = (i : Int) + (e : Int) := by rw [IntKind.wrap_i64]; omega
      have hie1 : (i : Int) ≤ (i : Int) + (e : Int) := by omega
      have hie2 : (i : Int) + (e : Int) ≤ (c : Int) := by omega
      have hi1 : IntKind.i64.wrap ((i : Int) + 1024) = (i : Int) + 1024 := by rw [IntKind.wrap_i64]; omega
      gi_wp2
      rename_i K0 h0K K1 h1K
      refine wpIn_region_quiet_lit rfl (by kernel_rfl) (by kernel_rfl) ?_
      refine quietIn_runTo (by kernel_rfl) (some 13) rfl (.int .i64 1024) (fun w' hw => by obtain ⟨q, rfl⟩ := hw; have q0 : (wr.drewN q).cell? ⟨Bn, 0, none⟩ = some (.int .i64 1024) := hb'; go_simp) ?_
      simp only [Act.put, List.setIfInBounds_toArray, List.set_cons_zero, List.set_cons_succ]
      refine quietIn_runTo (by kernel_rfl) (some 14) rfl (.slice (some ⟨g, o, none⟩) n c) (fun w' hw => by obtain ⟨q, rfl⟩ := hw; have q0 : (wr.drewN q).cell? ⟨Bs, 0, none⟩ = some (.slice (some ⟨g, o, none⟩) n c) := hs'; go_simp) ?_
      simp only [Act.put, List.setIfInBounds_toArray, List.set_cons_zero, List.set_cons_succ]
      refine quietIn_runTo (by kernel_rfl) (some 15) rfl (.int .i64 (i : Int)) (fun w' hw => by kernel_rfl) ?_
      simp only [Act.put, List.setIfInBounds_toArray, List.set_cons_zero, List.set_cons_succ]
      refine quietIn_runTo (by kernel_rfl) (some 16) rfl (.slice (some ⟨g, o + i, none⟩) (n - i) (c - i)) (fun w' hw => by clear hw; go_simp) ?_
      simp only [Act.put, List.setIfInBounds_toArray, List.set_cons_zero, List.set_cons_succ]
      refine quietIn_runTo (by kernel_rfl) (some 17) rfl (.int .i64 ((n - i : Nat) : Int)) (fun w' hw => by clear hw; go_simp) ?_
      simp only [Act.put, List.setIfInBounds_toArray, List.set_cons_zero, List.set_cons_succ]
      refine quietIn_runTo (by kernel_rfl) (some 18) rfl (.int .i64 (e : Int)) (fun w' hw => by clear hw; go_simp) ?_
      simp only [Act.put, List.setIfInBounds_toArray, List.set_cons_zero, List.set_cons_succ]
      refine quietIn_runTo (by kernel_rfl) (some 5) rfl (.int .i64 (e : Int)) (fun w' hw => by kernel_rfl) ?_
      simp only [Act.put, List.setIfInBounds_toArray, List.set_cons_zero, List.set_cons_succ]
      refine wpQuietIn_nil ?_
      rintro _ ⟨q, rfl⟩
      have hJ2 := hJd _ _ q hJ.out
      have q1 : (wr.drewN q).cell? ⟨Bs, 0, none⟩ = some (.slice (some ⟨g, o, none⟩) n c) := hs'
      have q2 : (wr.drewN q).cell? ⟨Bn, 0, none⟩ = some (.int .i64 1024) := hb'
      generalize wr.drewN q = w2 at *
      obtain ⟨fn, tmps, assign, body, hy, hR⟩ := hY (pcs n k) ⟨i, hlt⟩ w2 hJ2 (Nat.lt_of_le_of_lt (pcs_len n k) hlk)
      unfold encP at hy
      dsimp only at hy
      rw [he] at hy
      have HPC : Hid (pcs n (k + 1) = pcs n k ++ [⟨i, hlt⟩]) := by
        have e1 := hHps.out
        rw [show (⟨1024 * k, by have := hHi.out; omega⟩ : Pc n) = ⟨i, hlt⟩ from Subtype.ext hHi.out] at e1
        exact e1
      clear hHps
      refine h1K _ _ ?_
      gi_wp2
      refine ⟨fun h => by simp [Fence.wide] at h, ?_⟩
      refine hR.mono ?_
      rintro e3 W3 (⟨rfl, hJ3, hk3⟩ | ⟨rfl, hJx3⟩)
      · have q3 : W3.cell? ⟨Bs, 0, none⟩ = some (.slice (some ⟨g, o, none⟩) n c) := hk3.1.trans q1
        have q4 : W3.cell? ⟨Bn, 0, none⟩ = some (.int .i64 1024) := hk3.2.trans q2
        have HJ3 : Hid (J (pcs n (k + 1)) W3) := by
          show J (pcs n (k + 1)) W3
          rw [HPC.out]; exact hJ3
        have HI3 : Hid (1024 * k = i) := hHi
        clear hJ3 hk3 hR hy
        gi_wp2
        go_roundw
        case rel => exact ⟨k + 1, by have := HI3.out; omega, by have := HI3.out; first | (congr 1; omega) | (rw [show ((1024 * (k + 1) : Nat) : Int) = (i : Int) + 1024 by omega]), HJ3, q3, q4⟩
        case measure => have := HI3.out; simp [intOf]; omega
      · gi_wp2
        refine bodyPost_ret (results_none rfl _ _ _) rfl ?_
        exact ⟨⟨_, rfl⟩, .inr ⟨_, ⟨k + 1, HPC.out.symm⟩, hJx3⟩⟩
    · have hge : ¬ ((1024 * k : Nat) : Int) < (n : Int) := by omega
      have hkk : k = (n + 1023) / 1024 := by omega
      obtain ⟨i, hi⟩ : ∃ i, 1024 * k = i := ⟨_, rfl⟩
      simp only [hi] at hge ⊢
      clear hi
      gi_wp2
      go_end0
      have hJe : J (pcs n ((n + 1023) / 1024)) wr := by rw [← hkk]; exact hJ.out
      first | exact ⟨⟨_, rfl⟩, .inl hJe⟩ | exact ⟨⟨_, rfl⟩, .inl ⟨_, rfl, hJe⟩⟩
theorem chunk_stops (m Bs Bn g o n c : Nat) (a : Option Addr) (ha : 0 < n → a = some ⟨g, o, none⟩) (hn : n ≤ c) (hc : n ≤ 9000000000000000000) (w : World) (hBs : Bs < w.heap.size) (hBn : Bn < w.heap.size) (hs : w.cell? ⟨Bs, 0, none⟩ = some (.slice a n c)) (hb : w.cell? ⟨Bn, 0, none⟩ = some (.int .i64 1024)) :
    SeqStopsK Fence.wide m Tryz.prog 53 #[.pointer (some ⟨Bs, 0, none⟩), .pointer (some ⟨Bn, 0, none⟩)] (encP g o n) (KpC Bs Bn) (fun ys => ys = pcs n ((n + 1023) / 1024)) (fun pre => ∃ k, pre = pcs n k) ((n + 1023) / 1024) w := fun l J Jx W hW hJ _ hY h0 =>
  chunk1_in m l Bs Bn g o n c a ha hn hc J Jx hY W ((hW.cell (p := ⟨Bs, 0, none⟩) hBs).trans hs) ((hW.cell (p := ⟨Bn, 0, none⟩) hBn).trans hb) h0 fun pre W' q h' => hJ pre W' _ none h' (grownBy_drewN W' q) (fun r e => by cases e)
end Go.Proofs.YtkpoheknmcepnaaGreatDoor

namespace Go.Proofs.YtkpoheknmcepnaaGreatDoor
set_option linter.unusedVariables false
set_option linter.unusedSimpArgs false
open Go.RowKit Go.Great Go.Shelf

theorem KeepsOthers.of_fr {W W' : World} {ex : Nat → Prop} (h : Fr W W' ex) (hx : ∀ b, ex b → ∃ cur e, W.heap[b]? = some (.cells cur e (0, 0))) : KeepsOthers W W' :=
  ⟨h.size, fun k o hk ho => by
    refine (h.block k (Array.getElem?_eq_some_iff.1 hk).1 fun q => ?_).trans hk
    obtain ⟨cur, e, hc⟩ := hx k q
    rw [hc] at hk
    injection hk with hk
    subst hk
    cases ho⟩
/-- Feed's state. -/
structure FG (w W : World) (p B2 B5 : Nat) (lk : FuncId) (vb0 vb v : Value) (wants told K j : Nat) (r : List UInt8) (fs : List Fm) : Prop where
  blk : FmB W p (.func (.func lk) #[] #[]) vb wants K told
  tj : told + j = K
  row : ByAt W vb r
  b2 : W.heap[B2]? = some (.cells #[.pointer (some ⟨p, 0, none⟩)] 25 (0, 0))
  b5 : W.heap[B5]? = some (.cells #[v] 30 (0, 0))
  found : FoundAt W v fs
  news : ∀ x, x ∈ fs → ∀ b, x.v.ownBlock = some b → w.heap.size ≤ b
  apart : ∀ x, x ∈ fs → ∀ b, x.v.ownBlock = some b → vb.ownBlock ≠ some b
  nvb : newer w vb0 vb
  nv : ∀ b, v.ownBlock = some b → w.heap.size ≤ b
  fr : Fr w W (fun b => b = p ∨ vb0.ownBlock = some b)
  l2 : w.heap.size ≤ B2
  l5 : w.heap.size ≤ B5
section
variable {w W W' : World} {p B2 B5 : Nat} {lk : FuncId} {vb0 vb v : Value} {wants told K j : Nat} {r : List UInt8} {fs : List Fm}
/-- What is no cells may turn. -/
theorem FG.grown (h : FG w W p B2 B5 lk vb0 vb v wants told K j r fs) {row : Option Nat} {B : Nat} (hg : W.grownBy W' row) (hr : ∀ b, row = some b → B ≤ b ∧ ∃ o : Obj, W.heap[b]? = some o ∧ o.isCells = false) (hB : w.heap.size ≤ B) (hfr : Fr W W' (fun b => row = some b)) : FG w W' p B2 B5 lk vb0 vb v wants told K j r fs := by
  have key : ∀ (b : Nat) (cur : Array Value) (e : TypeId), W.heap[b]? = some (.cells cur e (0, 0)) → ¬ row = some b := fun b cur e hb q => by
    obtain ⟨_, o, h1, h2⟩ := hr b q
    rw [hb] at h1
    injection h1 with h1
    subst h1
    cases h2
  have rk : ∀ {e : TypeId} {size n : Nat} {u : Value} {xs : List Value}, RowAt W e size u n xs → RowAt W' e size u n xs := fun hrow => hrow.fr hfr fun b hb => by
    obtain ⟨_, cur, hc⟩ := hrow.lt hb
    exact key b cur _ hc
  have bk : ∀ {b : Nat} {cur : Array Value} {e : TypeId}, W.heap[b]? = some (.cells cur e (0, 0)) → W'.heap[b]? = some (.cells cur e (0, 0)) := fun hb => (hfr.block _ (Array.getElem?_eq_some_iff.1 hb).1 (key _ _ _ hb)).trans hb
  exact ⟨bk h.blk, h.tj, rk h.row, bk h.b2, bk h.b5, ⟨rk h.found.row, fun x hx => rk (h.found.each x hx), h.found.sep⟩, h.news, h.apart, h.nvb, h.nv, h.fr.trans hfr fun b hb q => by
    rcases q with q | q
    · exact q
    · have := (hr b q).1; omega, h.l2, h.l5⟩
theorem FG.ne (h : FG w W p B2 B5 lk vb0 vb v wants told K j r fs) : p ≠ B2 ∧ p ≠ B5 ∧ B2 ≠ B5 ∧ vb.ownBlock ≠ some p ∧ vb.ownBlock ≠ some B2 ∧ vb.ownBlock ≠ some B5 ∧ v.ownBlock ≠ some p ∧ v.ownBlock ≠ some B2 ∧ v.ownBlock ≠ some B5 ∧ (∀ b, v.ownBlock = some b → vb.ownBlock ≠ some b) ∧ ∀ x, x ∈ fs → ∀ b, x.v.ownBlock = some b → b ≠ p ∧ b ≠ B2 ∧ b ≠ B5 ∧ v.ownBlock ≠ some b := by
  have t : ∀ {b1 b2 : Nat} {c1 c2 : Array Value} {e1 e2 : TypeId}, W.heap[b1]? = some (.cells c1 e1 (0, 0)) → W.heap[b2]? = some (.cells c2 e2 (0, 0)) → e1 ≠ e2 → b1 ≠ b2 := fun h1 h2 hn e => by subst e; exact hn (obj_type h1 h2)
  refine ⟨t h.blk h.b2 (by decide), t h.blk h.b5 (by decide), t h.b2 h.b5 (by decide), h.row.ne_type h.blk (by decide), h.row.ne_type h.b2 (by decide), h.row.ne_type h.b5 (by decide), h.found.row.ne_type h.blk (by decide), h.found.row.ne_type h.b2 (by decide), h.found.row.ne_type h.b5 (by decide), fun b hb => ?_, fun x hx b hb => ?_⟩
  · obtain ⟨_, cur, hc⟩ := h.found.row.lt hb
    exact h.row.ne_type hc (by decide)
  · obtain ⟨_, cur, hc⟩ := RowAt.lt (h.found.each x hx) hb
    exact ⟨t hc h.blk (by decide), t hc h.b2 (by decide), t hc h.b5 (by decide), h.found.row.ne_type hc (by decide)⟩
/-- A piece is put behind what waits. -/
theorem FG.app (h : FG w W p B2 B5 lk vb0 vb v wants told K j r fs) {gs os m c : Nat} {cs : List UInt8} (hs : LSrc W (some ⟨gs, os, none⟩) cs) (hm : cs.length = m) (hm0 : 0 < m) (hm1 : m ≤ 4096) (hr : r.length ≤ 4096) (ty : TypeId) :
    ∃ vb1 W1, (Builtin.append_ #[22, 22] ty #[vb, .slice (some ⟨gs, os, none⟩) m c]).run Tryz.prog W = .ok vb1 W1 ∧ W1.heap[B2]? = some (.cells #[.pointer (some ⟨p, 0, none⟩)] 25 (0, 0)) ∧ FmB W1 p (.func (.func lk) #[] #[]) vb wants K told ∧
      FG w (W1.setCell ⟨p, 1, none⟩ vb1) p B2 B5 lk vb0 vb1 v wants told K j (r ++ cs) fs ∧ Fr W (W1.setCell ⟨p, 1, none⟩ vb1) (fun b => b = p ∨ vb.ownBlock = some b) ∧ ∃ g off cap, vb1 = .slice (some ⟨g, off, none⟩) (r.length + m) cap := by
  obtain ⟨i, hi, hz, hsz, hby⟩ := infoB
  obtain ⟨v', w', hrun, hrow, hfa, hnw⟩ := run_append_row (P := Tryz.prog) W 22 ty 5 i _ 1 1 Tryz.underlying22 hi hz hsz hby (by rfl) vb r.length (flatL u8V r) h.row ⟨gs, os, none⟩ m c (flatL u8V cs) (by rw [flatL_len u8V_len, hm]) (lsrc_cells hs) (u8_one cs) (.inl hm0) (by unfold maxLen; omega) (by omega)
  obtain ⟨n1, n2, n3, n4, n5, n6, n7, n8, n9, n10, n11⟩ := h.ne
  have hb1 : FmB w' p (.func (.func lk) #[] #[]) vb wants K told := h.blk.fr hfa n4
  have hb2 := (hfa.block B2 (Array.getElem?_eq_some_iff.1 h.b2).1 n5).trans h.b2
  have hb5 := (hfa.block B5 (Array.getElem?_eq_some_iff.1 h.b5).1 n6).trans h.b5
  have hset : Fr w' (w'.setCell ⟨p, 1, none⟩ v') (fun b => b = p) := Fr.setCell _ _ _ _ rfl
  have hall : Fr W (w'.setCell ⟨p, 1, none⟩ v') (fun b => b = p ∨ vb.ownBlock = some b) := hfa.trans hset fun b _ q => by
    rcases q with q | q
    · exact .inr q
    · exact .inl q
  have hv'p : v'.ownBlock ≠ some p := fun e => by
    rcases hnw with q | ⟨q, _⟩
    · rw [q] at e; exact n4 e
    · rw [q] at e; injection e with e; have := h.blk.lt; omega
  refine ⟨v', w', hrun, hb2, hb1, ⟨hb1.set1 v', h.tj, ?_, (hset.block B2 (Array.getElem?_eq_some_iff.1 hb2).1 fun e => n1 e.symm).trans hb2, (hset.block B5 (Array.getElem?_eq_some_iff.1 hb5).1 fun e => n2 e.symm).trans hb5, ⟨h.found.row.fr hall fun b hb q => ?_, fun x hx => RowAt.fr (h.found.each x hx) hall fun b hb q => ?_, h.found.sep⟩, h.news, fun x hx b hb q => ?_, ?_, h.nv, h.fr.trans hall fun b hb q => ?_, h.l2, h.l5⟩, hall, ?_⟩
  · unfold ByAt
    rw [List.length_append, hm, flatL_app]
    exact hrow.fr hset fun b hb e => hv'p (e ▸ hb)
  · rcases q with q | q
    · exact n7 (q ▸ hb)
    · exact n10 b hb q
  · rcases q with q | q
    · exact (n11 x hx b hb).1 q
    · exact h.apart x hx b hb q
  · rcases hnw with e | ⟨e, _⟩
    · rw [e] at q; exact h.apart x hx b hb q
    · rw [e] at q; injection q with q
      have := (RowAt.lt (h.found.each x hx) hb).1; omega
  · refine h.nvb.trans (w2 := W) ?_ h.fr.size
    rcases hnw with e | ⟨e, _⟩
    · exact .inl e
    · exact .inr ⟨_, e, Nat.le_refl _⟩
  · rcases q with q | q | q
    · exact q
    · exact .inl q
    · rcases h.nvb with e | ⟨g, e, hg⟩
      · rw [e] at q; exact .inr q
      · rw [e] at q; injection q with q; omega
  · obtain ⟨g, off, cap, cur, e, _⟩ := hrow.more (by omega)
    exact ⟨g, off, cap, e⟩
/-- walk has gone over it. -/
theorem FG.walked {f : List UInt8 → Sight} {g off n cap : Nat} {v' : Value} (h : FG w W p B2 B5 lk vb0 (.slice (some ⟨g, off, none⟩) n cap) v wants told K j r fs) (hw : WE f W W' p g off cap (.func (.func lk) #[] #[]) v v' K j r fs) :
    ∃ n' fs' wants' told', FG w (W'.setCell ⟨B5, 0, none⟩ v') p B2 B5 lk vb0 (.slice (some ⟨g, off, none⟩) n' cap) v' wants' told' (K + (walkL f r j).k) (walkL f r j).j (walkL f r j).r fs' ∧ fsOf fs' = fsOf fs ++ (walkL f r j).fs ∧ f (walkL f r j).r = .begun wants' ∧ W'.heap[B5]? = some (.cells #[v] 30 (0, 0)) ∧ Fr W (W'.setCell ⟨B5, 0, none⟩ v') (fun b => b = p ∨ b = g ∨ v.ownBlock = some b ∨ b = B5) ∧ n' = (walkL f r j).r.length := by
  obtain ⟨fs', wants', K', told', n', h1, h2, h3, h4, h5, h6, h7, h8, h9, h10, h11⟩ := hw.out
  obtain ⟨n1, n2, n3, n4, n5, n6, n7, n8, n9, n10, n11⟩ := h.ne
  have hgB2 : B2 ≠ g := fun e => n5 (by rw [e]; rfl)
  have hgB5 : B5 ≠ g := fun e => n6 (by rw [e]; rfl)
  have hb2 := (hw.fr.block B2 (Array.getElem?_eq_some_iff.1 h.b2).1 fun q => by rcases q with q | q | q; exact n1 q.symm; exact hgB2 q; exact n8 q).trans h.b2
  have hb5 := (hw.fr.block B5 (Array.getElem?_eq_some_iff.1 h.b5).1 fun q => by rcases q with q | q | q; exact n2 q.symm; exact hgB5 q; exact n9 q).trans h.b5
  have hset : Fr W' (W'.setCell ⟨B5, 0, none⟩ v') (fun b => b = B5) := Fr.setCell _ _ _ _ rfl
  have hall : Fr W (W'.setCell ⟨B5, 0, none⟩ v') (fun b => b = p ∨ b = g ∨ v.ownBlock = some b ∨ b = B5) := hw.fr.trans hset fun b _ q => by
    rcases q with (q | q | q) | q
    · exact .inl q
    · exact .inr (.inl q)
    · exact .inr (.inr (.inl q))
    · exact .inr (.inr (.inr q))
  have hnw : ∀ b, v'.ownBlock = some b → w.heap.size ≤ b ∧ b ≠ B5 := fun b hb => by
    rcases h9 with e | ⟨g', e, hg'⟩
    · rw [e] at hb; exact ⟨h.nv b hb, fun q => n9 (q ▸ hb)⟩
    · rw [e] at hb; injection hb with hb
      have h5lt := (Array.getElem?_eq_some_iff.1 h.b5).1
      exact ⟨by have := h.fr.size; omega, by omega⟩
  have hnf : ∀ x, x ∈ fs' → ∀ b, x.v.ownBlock = some b → w.heap.size ≤ b ∧ b ≠ B5 := fun x hx b hb => by
    rcases h10 x hx with q | q
    · exact ⟨h.news x q b hb, (n11 x q b hb).2.2.1⟩
    · have h5lt := (Array.getElem?_eq_some_iff.1 h.b5).1
      have := q b hb
      exact ⟨by have := h.fr.size; omega, by omega⟩
  refine ⟨n', fs', wants', told', ⟨h3 ▸ h1.fr hset n2, by rw [← h3]; exact h2, RowAt.fr h5 hset fun b hb e => ?_, (hset.block B2 (Array.getElem?_eq_some_iff.1 hb2).1 n3).trans hb2, ?_, ⟨h7.row.fr hset fun b hb e => (hnw b hb).2 e, fun x hx => RowAt.fr (h7.each x hx) hset fun b hb e => (hnf x hx b hb).2 e, h7.sep⟩, fun x hx b hb => (hnf x hx b hb).1, fun x hx b hb q => ?_, ?_, fun b hb => (hnw b hb).1, h.fr.trans hall fun b hb q => ?_, h.l2, h.l5⟩, h8, h6, hb5, hall, h4⟩
  · have : (some g : Option Nat) = some b := hb
    injection this with this
    exact hgB5 (by rw [← e, ← this])
  · rw [setCell_eq_setRow W' B5 0 _ _ _ _ hb5]; exact setRow_heap _ _ _ _ _ _ hb5
  · have : (some g : Option Nat) = some b := q
    injection this with this
    subst this
    exact h11 x hx hb
  · rcases h.nvb with e | ⟨g', e, hg'⟩
    · exact .inl e
    · exact .inr ⟨g', e, hg'⟩
  · rcases q with q | q | q | q | q
    · exact q
    · exact .inl q
    · rcases h.nvb with e | ⟨g', e, hg'⟩
      · right; rw [← e, q]; rfl
      · have : (some g : Option Nat) = some g' := e
        injection this with this; omega
    · have := h.nv b q; omega
    · have := h.l5; omega
end
end Go.Proofs.YtkpoheknmcepnaaGreatDoor

namespace Go.Proofs.YtkpoheknmcepnaaGreatDoor
set_option linter.unusedVariables false
set_option linter.unusedSimpArgs false
open Go.RowKit Go.Great

section
variable {n : Nat} {P : Program} {ops : Array Oper} {Q : Exit → Act → World → Prop}
theorem operIn_of_wp {o : Oper} {a : Act} {w : World} {K : Act → World → Prop} (h : o.wp P a w K Q) : o.wpIn Fence.wide n P a w K Q := by
  refine ⟨fun _ _ => trivial, ?_⟩
  unfold Oper.wp at h
  rw [Fence.wide_round, Oper.semAt_none]
  generalize (execOp a.eval o).run P w = r at *
  cases r with
  | ok x w' =>
    cases x <;> simp only [Oper.upon, Oper.uponIn] at h ⊢ <;>
      first
        | exact h
        | exact ⟨fun h0 => by simp [Fence.wide] at h0, callsIn_wide.2 h⟩
        | exact ⟨fun h0 => by simp [Fence.wide] at h0, fun c cs _ => let ⟨v, w2, r, s⟩ := h c cs; ⟨v, w2, r, stepsIn_wide.2 s⟩⟩
        | exact ⟨trivial, callsIn_wide.2 h⟩
  | halt x w' => cases x <;> simp only [Oper.upon, Oper.uponIn] at h ⊢ <;> exact h
theorem wpOpIn_of_wp (hno : ¬ LetsOut Q) {i : Nat} {a : Act} {w : World} {K : Act → World → Prop} (h : wpOp P ops Q i K a w) : wpOpIn Fence.wide n P ops Q i K a w := by
  unfold wpOp at h
  unfold wpOpIn
  cases ho : ops[i]? with
  | none => simp only [ho] at h ⊢; exact h
  | some o =>
    simp only [ho] at h ⊢
    split
    · rename_i hw
      simp only [hw, if_true] at h
      exact operIn_of_wp (h.resolve_right fun q => hno q.2)
    · rename_i hw
      simp only [hw] at h
      exact ⟨fun _ _ => trivial, h⟩
theorem wpAnyIn_of_any (hno : ¬ LetsOut Q) {md : Region.Mode} : ∀ (fuel : Nat) (listed : Array Bool) (a : Act) (w : World), wpAny P md ops Q fuel listed a w → wpAnyIn Fence.wide n P md ops Q fuel listed a w
  | 0, _, _, _, h => h
  | fuel + 1, listed, a, w, h => ⟨h.1, fun i hi => wpOpIn_mono (fun a' w' h' => wpAnyIn_of_any hno fuel _ a' w' h') (wpOpIn_of_wp hno (h.2 i hi))⟩
/-- A region that draws its order, in a round, by the laws that hold a fact. -/
theorem region_round_held (hno : ¬ LetsOut Q) {l id : Nat} {a : Act} {w : World} {S : World → Prop} (hnd : ∀ (j : Nat) (o : Oper), ops[j]? = some o → ∀ c, o.op ≠ .defer c) (hm : P.follows .mixedOrders = true)
    (h : wpAnyH P .any ops Q S ops.size (Array.replicate ops.size false) a w.drew) : (Code.region id ops true).wpIn (Fence.wide.inRound l) n P Q a w :=
  region_round_any rfl hnd hm (wpAnyIn_of_any hno _ _ _ _ (wpAny_of_held _ _ _ _ h))
end
end Go.Proofs.YtkpoheknmcepnaaGreatDoor

namespace Go.Proofs.YtkpoheknmcepnaaGreatDoor
set_option linter.unusedVariables false
set_option linter.unusedSimpArgs false
open Go.RowKit Go.Great Go.Shelf

def catP (l : List UInt8) {n : Nat} (pre : List (Pc n)) : List UInt8 := (pre.map fun x => (l.drop x.1).take 1024).flatten
theorem catP_snoc (l : List UInt8) {n : Nat} (pre : List (Pc n)) (x : Pc n) : catP l (pre ++ [x]) = catP l pre ++ (l.drop x.1).take 1024 := by simp [catP]
theorem catP_len (l : List UInt8) {n : Nat} : ∀ pre : List (Pc n), (catP l pre).length ≤ 1024 * pre.length
  | [] => by simp [catP]
  | x :: xs => by
    have := catP_len l xs
    have e : catP l (x :: xs) = (l.drop x.1).take 1024 ++ catP l xs := by simp [catP]
    rw [e, List.length_append, List.length_take, List.length_cons]
    omega
theorem catP_pcs {l : List UInt8} {n : Nat} (hl : l.length = n) : ∀ k, catP l (pcs n k) = l.take (1024 * k)
  | 0 => by simp [catP, pcs]
  | k + 1 => by
    have ih := catP_pcs hl k
    by_cases h : 1024 * k < n
    · rw [pcs_succ h, catP_snoc, ih, show 1024 * (k + 1) = 1024 * k + 1024 by omega, List.take_add]
    · have e : pcs n (k + 1) = pcs n k := by show (if h : 1024 * k < n then _ else _) = _; rw [dif_neg h]
      rw [e, ih, List.take_of_length_le (by omega), List.take_of_length_le (by omega)]
theorem catP_all {l : List UInt8} {n : Nat} (hl : l.length = n) : catP l (pcs n ((n + 1023) / 1024)) = l := by rw [catP_pcs hl, List.take_of_length_le (by omega)]
theorem walk_step {f : List UInt8 → Sight} (hf : Steady f) (a c : List UInt8) (j : Nat) : (walkL f (a ++ c) j).fs = (walkL f a j).fs ++ (walkL f ((walkL f a j).r ++ c) (walkL f a j).j).fs ∧ (walkL f (a ++ c) j).j = (walkL f ((walkL f a j).r ++ c) (walkL f a j).j).j ∧ (walkL f (a ++ c) j).k = (walkL f a j).k + (walkL f ((walkL f a j).r ++ c) (walkL f a j).j).k ∧ (walkL f (a ++ c) j).r = (walkL f ((walkL f a j).r ++ c) (walkL f a j).j).r := by
  rw [walk_pieces hf a.length a c j (Nat.le_refl _)]
  exact ⟨rfl, rfl, rfl, rfl⟩
theorem walk_count {f : List UInt8 → Sight} (hf : Steady f) : ∀ (n : Nat) (b : List UInt8) (j : Nat), b.length ≤ n → (walkL f b j).fs.length + (walkL f b j).k ≤ b.length := fun n => by
  induction n with
  | zero =>
    intro b j hb
    obtain rfl : b = [] := List.length_eq_zero_iff.1 (by omega)
    cases h : f [] with
    | begun s => rw [walkL_begun h]; simp
    | whole s => obtain ⟨g1, g2, _⟩ := hf.whole h; simp at g2; omega
    | wrong => exact absurd rfl (hf.wrong h).1
  | succ n ih =>
    intro b j hb
    cases h : f b with
    | begun s => rw [walkL_begun h]; simp
    | whole s =>
      obtain ⟨g1, g2, g3⟩ := hf.whole h
      have i := ih (b.drop s) 0 (by rw [List.length_drop]; omega)
      rw [walkL_whole hf h]
      rw [List.length_drop] at i
      simp only [List.length_cons] at i ⊢
      omega
    | wrong =>
      have hl : 1 ≤ b.length := List.length_pos_iff.2 (hf.wrong h).1
      have i := ih (b.drop 1) (j + 1) (by rw [List.length_drop]; omega)
      rw [walkL_wrong hf h]
      rw [List.length_drop] at i
      simp only at i ⊢
      omega
/-- What a step of the body leaves alone. -/
structure Kept (w W W' : World) : Prop where
  others : KeepsOthers W W'
  bs : W'.heap[w.heap.size + 2]? = W.heap[w.heap.size + 2]?
  bn : W'.heap[w.heap.size + 3]? = W.heap[w.heap.size + 3]?
theorem Kept.trans {w A B C : World} (h : Kept w A B) (k : Kept w B C) : Kept w A C := ⟨h.others.trans k.others, k.bs.trans h.bs, k.bn.trans h.bn⟩
theorem Kept.drew (w W : World) : Kept w W W.drew := ⟨KeepsOthers.drew _, rfl, rfl⟩
theorem Kept.kp {w W W' : World} (h : Kept w W W') : KpC (w.heap.size + 2) (w.heap.size + 3) W W' := ⟨World.cell?_of_block h.bs, World.cell?_of_block h.bn⟩
structure FH (sv : Value) (w W : World) (p : Nat) (lk : FuncId) (vb0 vb v : Value) (wants told K j : Nat) (r : List UInt8) (fs : List Fm) : Prop where
  G : FG w W p w.heap.size (w.heap.size + 1) lk vb0 vb v wants told K j r fs
  bs : W.heap[w.heap.size + 2]? = some (.cells #[sv] 22 (0, 0))
  bn : W.heap[w.heap.size + 3]? = some (.cells #[.int .i64 1024] 3 (0, 0))
section
variable {sv : Value} {w W W' : World} {p : Nat} {lk : FuncId} {vb0 vb v : Value} {wants told K j : Nat} {r : List UInt8} {fs : List Fm}
theorem FH.kept (h : FH sv w W p lk vb0 vb v wants told K j r fs) {ex : Nat → Prop} (hfr : Fr W W' ex) (hex : ∀ b, ex b → b = p ∨ vb.ownBlock = some b ∨ v.ownBlock = some b ∨ b = w.heap.size + 1) : Kept w W W' := by
  have key : ∀ b, ex b → ∃ cur e, W.heap[b]? = some (.cells cur e (0, 0)) ∧ e ≠ 22 ∧ e ≠ 3 := fun b hb => by
    rcases hex b hb with rfl | q | q | rfl
    · exact ⟨_, _, h.G.blk, by decide, by decide⟩
    · obtain ⟨_, cur, hc⟩ := RowAt.lt h.G.row q
      exact ⟨_, _, hc, by decide, by decide⟩
    · obtain ⟨_, cur, hc⟩ := h.G.found.row.lt q
      exact ⟨_, _, hc, by decide, by decide⟩
    · exact ⟨_, _, h.G.b5, by decide, by decide⟩
  refine ⟨KeepsOthers.of_fr hfr fun b hb => ?_, hfr.block _ (Array.getElem?_eq_some_iff.1 h.bs).1 fun q => ?_, hfr.block _ (Array.getElem?_eq_some_iff.1 h.bn).1 fun q => ?_⟩
  · obtain ⟨cur, e, hc, _⟩ := key b hb; exact ⟨cur, e, hc⟩
  · obtain ⟨cur, e, hc, h1, _⟩ := key _ q; exact h1 (obj_type hc h.bs)
  · obtain ⟨cur, e, hc, _, h1⟩ := key _ q; exact h1 (obj_type hc h.bn)
theorem grownBy.toFr {row : Option Nat} (hg : W.grownBy W' row) : Fr W W' (fun b => row = some b) := ⟨hg.os, hg.tape, hg.output, hg.size, fun b hb hn => hg.block b hb fun e => hn e.symm⟩
theorem FH.grown (h : FH sv w W p lk vb0 vb v wants told K j r fs) {row : Option Nat} {B : Nat} (hg : W.grownBy W' row) (hr : ∀ b, row = some b → B ≤ b ∧ ∃ o : Obj, W.heap[b]? = some o ∧ o.isCells = false) (hB : w.heap.size ≤ B) : FH sv w W' p lk vb0 vb v wants told K j r fs := by
  have bk : ∀ {b : Nat} {cur : Array Value} {e : TypeId}, W.heap[b]? = some (.cells cur e (0, 0)) → W'.heap[b]? = some (.cells cur e (0, 0)) := fun {b cur e} hb => (hg.block b (Array.getElem?_eq_some_iff.1 hb).1 fun q => by
    obtain ⟨_, o, h1, h2⟩ := hr b q.symm
    rw [hb] at h1
    injection h1 with h1
    subst h1
    cases h2).trans hb
  exact ⟨h.G.grown hg hr hB (grownBy.toFr hg), bk h.bs, bk h.bn⟩
theorem FH.drew (h : FH sv w W p lk vb0 vb v wants told K j r fs) : FH sv w W.drew p lk vb0 vb v wants told K j r fs :=
  h.grown (row := none) (B := w.heap.size) ⟨rfl, rfl, rfl, Nat.le_refl _, fun _ _ _ => rfl⟩ (fun b e => by cases e) (Nat.le_refl _)
theorem FH.app (h : FH sv w W p lk vb0 vb v wants told K j r fs) {gs os m c' : Nat} {cs : List UInt8} (hs : LSrc W (some ⟨gs, os, none⟩) cs) (hm : cs.length = m) (hm0 : 0 < m) (hm1 : m ≤ 4096) (hr : r.length ≤ 4096) (ty : TypeId) :
    ∃ g1 off1 cap1 W1, (Builtin.append_ #[22, 22] ty #[vb, .slice (some ⟨gs, os, none⟩) m c']).run Tryz.prog W = .ok (.slice (some ⟨g1, off1, none⟩) (r.length + m) cap1) W1 ∧ W1.heap[w.heap.size]? = some (.cells #[.pointer (some ⟨p, 0, none⟩)] 25 (0, 0)) ∧ FmB W1 p (.func (.func lk) #[] #[]) vb wants K told ∧
      FH sv w (W1.setCell ⟨p, 1, none⟩ (.slice (some ⟨g1, off1, none⟩) (r.length + m) cap1)) p lk vb0 (.slice (some ⟨g1, off1, none⟩) (r.length + m) cap1) v wants told K j (r ++ cs) fs ∧ Kept w W (W1.setCell ⟨p, 1, none⟩ (.slice (some ⟨g1, off1, none⟩) (r.length + m) cap1)) := by
  obtain ⟨vb1, W1, h1, h2, h3, h4, h5, g1, off1, cap1, rfl⟩ := h.G.app (c := c') hs hm hm0 hm1 hr ty
  have hk := h.kept h5 fun b q => by rcases q with q | q; exact .inl q; exact .inr (.inl q)
  exact ⟨g1, off1, cap1, W1, h1, h2, h3, ⟨h4, hk.bs.trans h.bs, hk.bn.trans h.bn⟩, hk⟩
theorem FH.walked {f : List UInt8 → Sight} {g1 off1 n1 cap1 : Nat} {v' : Value} (h : FH sv w W p lk vb0 (.slice (some ⟨g1, off1, none⟩) n1 cap1) v wants told K j r fs) (hw : WE f W W' p g1 off1 cap1 (.func (.func lk) #[] #[]) v v' K j r fs) :
    ∃ n' fs' wants' told' av nv cv, v' = .slice av nv cv ∧ FH sv w (W'.setCell ⟨w.heap.size + 1, 0, none⟩ v') p lk vb0 (.slice (some ⟨g1, off1, none⟩) n' cap1) v' wants' told' (K + (walkL f r j).k) (walkL f r j).j (walkL f r j).r fs' ∧ fsOf fs' = fsOf fs ++ (walkL f r j).fs ∧ f (walkL f r j).r = .begun wants' ∧ W'.heap[w.heap.size + 1]? = some (.cells #[v] 30 (0, 0)) ∧ Kept w W (W'.setCell ⟨w.heap.size + 1, 0, none⟩ v') := by
  obtain ⟨n', fs', wants', told', h1, h2, h3, h4, h5, h6⟩ := h.G.walked hw
  have hk := h.kept h5 fun b q => by
    rcases q with q | q | q | q
    · exact .inl q
    · exact .inr (.inl (by rw [q]; rfl))
    · exact .inr (.inr (.inl q))
    · exact .inr (.inr (.inr q))
  obtain ⟨av, cv, hv, _⟩ := h1.found.row.form
  exact ⟨n', fs', wants', told', av, _, cv, hv, ⟨h1, hk.bs.trans h.bs, hk.bn.trans h.bn⟩, h2, h3, h4, hk⟩
end
/-- Feed between two pieces. -/
def FI (f : List UInt8 → Sight) (w : World) (p : Nat) (lk : FuncId) (vb0 sv : Value) (K0 : Nat) (a : List UInt8) (j0 : Nat) (W : World) : Prop :=
  ∃ vb v wants told fs, FH sv w W p lk vb0 vb v wants told (K0 + (walkL f a j0).k) (walkL f a j0).j (walkL f a j0).r fs ∧ fsOf fs = (walkL f a j0).fs ∧ (walkL f a j0).r.length < 1024 ∧ wants ≤ 1024 ∧ ∀ c, ((walkL f a j0).r ++ c).length < wants → ∃ m, f ((walkL f a j0).r ++ c) = .begun m
end Go.Proofs.YtkpoheknmcepnaaGreatDoor
