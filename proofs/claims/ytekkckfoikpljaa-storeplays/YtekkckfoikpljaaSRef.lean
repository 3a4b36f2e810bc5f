/-
  store, the reference: New, Next, count.
-/
import Derived.Test.YtekkckfoikpljaaSRefM
namespace Go.Proofs.Ytekkckfoikpljaa
set_option linter.unusedVariables false
set_option linter.unusedSimpArgs false
open Go.RowKit Go.Great

def cdV (c : Nat) : List Value := [.int .i64 (c : Int)]
theorem cdV_len (c : Nat) : (cdV c).length = 1 := rfl
def rfC (K : Nat) (vW vL : Value) : Array Value := #[.int .i64 (K : Int), vW, vL]
/-- The reference's block. -/
def RfB (w : World) (p K : Nat) (vW vL : Value) : Prop := w.heap[p]? = some (.cells (rfC K vW vL) 77 (0, 0))
section
variable {w : World} {p K : Nat} {vW vL : Value}
theorem RfB.at (h : RfB w p K vW vL) : w.cell? ⟨p, 0, none⟩ = some (.int .i64 (K : Int)) ∧ w.cell? ⟨p, 1, none⟩ = some vW ∧ w.cell? ⟨p, 2, none⟩ = some vL := ⟨cell_at h rfl, cell_at h rfl, cell_at h rfl⟩
theorem RfB.frz (h : RfB w p K vW vL) (i : Nat) : w.frozen? ⟨p, i, none⟩ = false := frozen_of_row w p i _ _ h
theorem RfB.set1 (h : RfB w p K vW vL) (v : Value) : RfB (w.setCell ⟨p, 1, none⟩ v) p K v vL := by
  unfold RfB; rw [setCell_eq_setRow w p 1 _ _ _ _ h]; exact setRow_heap _ _ _ _ _ _ h
theorem RfB.set2 (h : RfB w p K vW vL) (v : Value) : RfB (w.setCell ⟨p, 2, none⟩ v) p K vW v := by
  unfold RfB; rw [setCell_eq_setRow w p 2 _ _ _ _ h]; exact setRow_heap _ _ _ _ _ _ h
theorem RfB.lt (h : RfB w p K vW vL) : p < w.heap.size := (Array.getElem?_eq_some_iff.1 h).1
theorem RfB.fr {w' : World} {ex : Nat → Prop} (h : RfB w p K vW vL) (hf : Fr w w' ex) (hn : ¬ ex p) : RfB w' p K vW vL := (hf.block p h.lt hn).trans h
end
/-- The reference. -/
structure RfAt (w : World) (p K : Nat) (cs : List Nat) (ms : List Msg) (vW vL : Value) : Prop where
  blk : RfB w p K vW vL
  len : cs.length = ms.length
  what : RowAt w 3 1 vW cs.length (flatL cdV cs)
  msgs : RowAt w 34 42 vL cs.length (flatL msgV ms)
theorem RfAt.fr {w w' : World} {p K : Nat} {cs : List Nat} {ms : List Msg} {vW vL : Value} {ex : Nat → Prop} (h : RfAt w p K cs ms vW vL) (hf : Fr w w' ex) (hn : ∀ b, ownS p vW vL b → ¬ ex b) : RfAt w' p K cs ms vW vL :=
  ⟨h.blk.fr hf (hn p (.inl rfl)), h.len, h.what.fr hf fun g hg => hn g (.inr (.inl hg)), h.msgs.fr hf fun g hg => hn g (.inr (.inr hg))⟩
theorem rf_new (w : World) (K : Nat) : RfAt (w.alloc (.cells (rfC K (.slice none 0 0) (.slice none 0 0)) 77)) w.heap.size K [] [] (.slice none 0 0) (.slice none 0 0) :=
  ⟨heap_alloc_new w _, rfl, RowAt.none0 _ _ _, RowAt.none0 _ _ _⟩
theorem refNew_yes (keep : Nat) (z : Int) (hz : z = keep) (h1 : 1 ≤ keep) (h2 : keep ≤ 200) (w : World) :
    Calls Try.prog 23 #[.int .i64 z] w fun e w' => e = .returned (.tuple #[.pointer (some ⟨w.heap.size, 0, none⟩), .int .i64 0]) ∧ w' = w.alloc (.cells (rfC keep (.slice none 0 0) (.slice none 0 0)) 77) := by
  subst hz
  go_enter Try.func23, Try.ntmps23
  go_wp2
  go_ret2
  exact ⟨rfl, rfl⟩
theorem refNew_no (z : Int) (h : z < 1 ∨ 200 < z) (w : World) :
    Calls Try.prog 23 #[.int .i64 z] w fun e w' => e = .returned (.tuple #[.pointer none, .int .i64 1]) ∧ w' = w := by
  by_cases h1 : z < 1
  · go_enter Try.func23, Try.ntmps23
    go_wp2
    go_ret2
    exact ⟨rfl, rfl⟩
  · have h2 : 200 < z := by omega
    go_enter Try.func23, Try.ntmps23
    go_wp2
    go_ret2
    exact ⟨rfl, rfl⟩
theorem refNext_any {w : World} {p K : Nat} {cs : List Nat} {ms : List Msg} {vW vL : Value} (h : RfAt w p K cs ms vW vL) (hn : cs.length ≤ 1000000000) :
    Calls Try.prog 25 #[.pointer (some ⟨p, 0, none⟩)] w fun e w' => e = .returned (.int .i64 ((cs.length : Int) + 1)) ∧ w' = w := by
  obtain ⟨c0, c1, c2⟩ := h.blk.at
  obtain ⟨ao, cap, rfl, -⟩ := h.what.form
  clear h
  generalize cs.length = n at *
  have hw : IntKind.i64.wrap ((n : Int) + 1) = (n : Int) + 1 := by rw [IntKind.wrap_i64]; omega
  go_enter Try.func25, Try.ntmps25
  go_wp2
  go_ret
  exact ⟨rfl, rfl⟩
/-- How many are of a kind. -/
def cntL (cs : List Nat) (c : Nat) : Nat := (cs.filter fun x => x == c).length
theorem cntL_snoc (cs : List Nat) (x c : Nat) : cntL (cs ++ [x]) c = cntL cs c + (if x = c then 1 else 0) := by
  unfold cntL
  rw [List.filter_append, List.length_append]
  by_cases h : x = c
  · simp [h]
  · simp [h]
theorem cntL_le (cs : List Nat) (c : Nat) : cntL cs c ≤ cs.length := List.length_filter_le _ _
theorem count_any {w : World} {p K : Nat} {cs : List Nat} {ms : List Msg} {vW vL : Value} (c : Nat) (z : Int) (hz : z = c) (h : RfAt w p K cs ms vW vL) (hn : cs.length ≤ 1000000000) :
    Calls Try.prog 35 #[.pointer (some ⟨p, 0, none⟩), .int .i64 z] w fun e w' => e = .returned (.int .i64 (cntL cs c : Nat)) ∧ w' = w := by
  subst hz
  obtain ⟨c0, c1, c2⟩ := h.blk.at
  obtain ⟨ao, cap, rfl, -⟩ := h.what.form
  have HW : Hid (RowAt w 3 1 (.slice ao cs.length cap) cs.length (flatL cdV cs)) := h.what
  clear h
  obtain ⟨n, hn'⟩ : ∃ n, cs.length = n := ⟨_, rfl⟩
  rw [hn'] at c1 HW hn
  have HN : Hid (cs.length = n) := hn'
  clear hn'
  go_enter Try.func35, Try.ntmps35
  go_wp2
  go_loopw [5, 6] (fun x5 x6 wr => ∃ i k : Nat, i ≤ n ∧ x6 = .int .i64 (i : Int) ∧ x5 = .int .i64 (k : Int) ∧ Hid (k = cntL (cs.take i) c) ∧ wr = w) (fun _ x6 _ => n - (intOf x6).toNat)
  case atStart => exact ⟨0, 0, Nat.zero_le _, rfl, rfl, rfl, rfl⟩
  case round =>
    obtain ⟨i, k, hi, rfl, rfl, hk, ew⟩ := hrel
    replace ew := ew.symm
    subst ew
    have hkb : k ≤ i := by have h1 := hk.out; have h2 := cntL_le (cs.take i) c; rw [List.length_take] at h2; omega
    have hiw : IntKind.i64.wrap ((i : Int) + 1) = (i : Int) + 1 := by rw [IntKind.wrap_i64]; omega
    have hkw : IntKind.i64.wrap ((k : Int) + 1) = (k : Int) + 1 := by rw [IntKind.wrap_i64]; omega
    by_cases hlt : i < n
    · have hlt' : (i : Int) < (n : Int) := by omega
      obtain ⟨x, hx⟩ : ∃ x, cs[i]? = some x := ⟨_, List.getElem?_eq_getElem (by have := HN.out; omega)⟩
      obtain ⟨g, off, cap', cur, e1, -⟩ := HW.out.more (by omega)
      injection e1 with e1 _ e2
      subst e1
      clear e2
      have cx : w.cell? ⟨g, off + i, none⟩ = some (.int .i64 (x : Int)) := HW.out.cell rfl (by have := flatL_get (f := cdV) cdV_len hx (k := 0) (by decide); rw [Nat.mul_one, Nat.add_zero] at this; rw [this]; rfl)
      have hT : cs.take (i + 1) = cs.take i ++ [x] := by
        obtain ⟨q1, q2⟩ := List.getElem?_eq_some_iff.1 hx
        rw [List.take_succ_eq_append_getElem q1, q2]
      have HT : Hid (cntL (cs.take (i + 1)) c = cntL (cs.take i) c + (if x = c then 1 else 0)) := by show cntL (cs.take (i + 1)) c = _; rw [hT, cntL_snoc]
      clear hT hx
      by_cases hc : x = c
      · subst hc
        go_wp2
        go_roundw
        case rel => exact ⟨i + 1, k + 1, by omega, by go_num, by go_num, by show k + 1 = _; rw [HT.out, if_pos rfl, ← hk.out], by first | rfl | trivial⟩
        case measure => simp [intOf]; omega
      · have hc' : ¬ (x : Int) = (c : Int) := by omega
        go_wp2
        go_roundw
        case rel => exact ⟨i + 1, k, by omega, by go_num, rfl, by show k = _; rw [HT.out, if_neg hc, ← hk.out]; rfl, by first | rfl | trivial⟩
        case measure => simp [intOf]; omega
    · obtain rfl : i = n := by omega
      have hnl : ¬ (i : Int) < (i : Int) := by omega
      go_wp2
      go_ret
      refine ⟨?_, rfl⟩
      have := hk.out
      rw [List.take_of_length_le (by have := HN.out; omega)] at this
      rw [← this]
      rfl
end Go.Proofs.Ytekkckfoikpljaa
