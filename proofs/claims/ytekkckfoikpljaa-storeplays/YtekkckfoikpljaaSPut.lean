/-
  store: a store in memory; New, Next, Kept, pass, Skip.
-/
import Derived.Test.YtekkckfoikpljaaSMem
import Derived.Great.Walk
import Derived.Deep.WholeRow
import Derived.Deep.RegionHeld3
import Derived.Deep.DeepCutAuto
import Derived.RegionTactic
namespace Go.Proofs.Ytekkckfoikpljaa
set_option linter.unusedVariables false
set_option linter.unusedSimpArgs false
open Go.RowKit Go.Great

def seqM (M : Msg) : Nat := (M.z 3).toNat
def rowV (r : Nat × Nat) : List Value := [.int .i64 (r.1 : Int), .int .i64 (r.2 : Int)]
def msgV (M : Msg) : List Value := M.cs.toList
theorem rowV_len (r : Nat × Nat) : (rowV r).length = 2 := rfl
theorem msgV_len (M : Msg) : (msgV M).length = 42 := M.cs_len
/-- Of each number: the message that was put, or none. -/
def EvM (ev : List (Option Msg)) : Prop := ∀ (i : Nat) (M : Msg), ev[i]? = some (some M) → M.z 3 = ((i + 1 : Nat) : Int)
theorem EvM.ok {ev : List (Option Msg)} (h : EvM ev) : EvOk seqM ev := fun i M hM => by unfold seqM; rw [h i M hM]; rfl
theorem EvM.seq {ev : List (Option Msg)} (h : EvM ev) {M : Msg} (hM : M ∈ putL ev) : M.z 3 = ((seqM M : Nat) : Int) := by
  obtain ⟨j, hj⟩ := List.getElem?_of_mem hM
  obtain ⟨i, h1, _⟩ := at_putL ev j M hj
  unfold seqM
  rw [h i M h1]; rfl
theorem EvM.put {ev : List (Option Msg)} (h : EvM ev) {M : Msg} (hM : M.z 3 = ((ev.length + 1 : Nat) : Int)) : EvM (ev ++ [some M]) := fun i M' hi => by
  rcases get_snoc hi with ⟨_, h1⟩ | ⟨h1, h2⟩
  · exact h i M' h1
  · injection h2 with h2; rw [h2, h1]; exact hM
theorem EvM.skip {ev : List (Option Msg)} (h : EvM ev) : EvM (ev ++ [none]) := fun i M' hi => by
  rcases get_snoc hi with ⟨_, h1⟩ | ⟨h1, h2⟩
  · exact h i M' h1
  · cases h2
def stC (keep next d : Nat) (vk vl : Value) : Array Value := #[.int .i64 (keep : Int), .int .i64 (next : Int), .int .i64 (d : Int), vk, vl]
/-- A store. -/
structure StAt (w : World) (p keep : Nat) (ev : List (Option Msg)) (vk vl : Value) : Prop where
  blk : w.heap[p]? = some (.cells (stC keep (ev.length + 1) (over keep ev) vk vl) 59 (0, 0))
  kept : RowAt w 34 42 vk (keptL keep ev).length (flatL msgV (keptL keep ev))
  lost : RowAt w 62 2 vl (lostL seqM keep ev).length (flatL rowV (lostL seqM keep ev))
  evm : EvM ev
/-- The blocks of a store. -/
def ownS (p : Nat) (vk vl : Value) (b : Nat) : Prop := b = p ∨ vk.ownBlock = some b ∨ vl.ownBlock = some b
theorem StAt.lt {w : World} {p keep : Nat} {ev : List (Option Msg)} {vk vl : Value} (h : StAt w p keep ev vk vl) : p < w.heap.size := (Array.getElem?_eq_some_iff.1 h.blk).1
theorem StAt.own_lt {w : World} {p keep : Nat} {ev : List (Option Msg)} {vk vl : Value} (h : StAt w p keep ev vk vl) {b : Nat} (hb : ownS p vk vl b) : b < w.heap.size := by
  rcases hb with rfl | hb | hb
  · exact h.lt
  · exact (h.kept.lt hb).1
  · exact (h.lost.lt hb).1
theorem StAt.fr {w w' : World} {p keep : Nat} {ev : List (Option Msg)} {vk vl : Value} {ex : Nat → Prop} (h : StAt w p keep ev vk vl) (hf : Fr w w' ex) (hn : ∀ b, ownS p vk vl b → ¬ ex b) : StAt w' p keep ev vk vl :=
  ⟨(hf.block p h.lt (hn p (.inl rfl))).trans h.blk, h.kept.fr hf fun g hg => hn g (.inr (.inl hg)), h.lost.fr hf fun g hg => hn g (.inr (.inr hg)), h.evm⟩
theorem StAt.drew {w : World} {p keep : Nat} {ev : List (Option Msg)} {vk vl : Value} (h : StAt w p keep ev vk vl) : StAt w.drew p keep ev vk vl := h.fr ((Fr.refl w fun _ => False).drew) fun _ _ h => h
theorem cell_at {w : World} {p i : Nat} {cur : Array Value} {e : TypeId} {u : Value} (h : w.heap[p]? = some (.cells cur e (0, 0))) (hu : cur[i]? = some u) : w.cell? ⟨p, i, none⟩ = some u := by rw [cell_of_row _ _ _ _ _ _ h]; exact hu
theorem StAt.at {w : World} {p keep : Nat} {ev : List (Option Msg)} {vk vl : Value} (h : StAt w p keep ev vk vl) :
    w.cell? ⟨p, 0, none⟩ = some (.int .i64 (keep : Int)) ∧ w.cell? ⟨p, 1, none⟩ = some (.int .i64 ((ev.length + 1 : Nat) : Int)) ∧ w.cell? ⟨p, 2, none⟩ = some (.int .i64 (over keep ev : Nat)) ∧ w.cell? ⟨p, 3, none⟩ = some vk ∧ w.cell? ⟨p, 4, none⟩ = some vl :=
  ⟨cell_at h.blk rfl, cell_at h.blk rfl, cell_at h.blk rfl, cell_at h.blk rfl, cell_at h.blk rfl⟩
theorem StAt.frz {w : World} {p keep : Nat} {ev : List (Option Msg)} {vk vl : Value} (h : StAt w p keep ev vk vl) (i : Nat) : w.frozen? ⟨p, i, none⟩ = false := frozen_of_row w p i _ _ h.blk
theorem keptL_len (keep : Nat) (ev : List (Option Msg)) : (keptL keep ev).length = min (putL ev).length keep := by
  unfold keptL over; rw [List.length_drop]; omega
theorem st_new (w : World) (keep : Nat) : StAt (w.alloc (.cells (stC keep 1 0 (.slice none 0 0) (.slice none 0 0)) 59)) w.heap.size keep [] (.slice none 0 0) (.slice none 0 0) :=
  ⟨(heap_alloc_new w _).trans (by rw [show over keep ([] : List (Option Msg)) = 0 by simp [over, putL]]; rfl), by simpa [keptL, over, putL, flatL] using RowAt.none0 _ _ _, by simpa [lostL, over, putL, runs, flatL] using RowAt.none0 _ _ _, fun i M h => by simp at h⟩
theorem New_yes (keep : Nat) (z : Int) (hz : z = keep) (h1 : 1 ≤ keep) (h2 : keep ≤ 200) (w : World) :
    Calls Try.prog 14 #[.int .i64 z] w fun e w' => e = .returned (.tuple #[.pointer (some ⟨w.heap.size, 0, none⟩), .int .i64 0]) ∧ w' = w.alloc (.cells (stC keep 1 0 (.slice none 0 0) (.slice none 0 0)) 59) := by
  subst hz
  go_enter Try.func14, Try.ntmps14
  go_wp2
  go_ret2
  exact ⟨rfl, rfl⟩
theorem New_no (z : Int) (h : z < 1 ∨ 200 < z) (w : World) :
    Calls Try.prog 14 #[.int .i64 z] w fun e w' => e = .returned (.tuple #[.pointer none, .int .i64 1]) ∧ w' = w := by
  by_cases h1 : z < 1
  · go_enter Try.func14, Try.ntmps14
    go_wp2
    go_ret2
    exact ⟨rfl, rfl⟩
  · have h2 : 200 < z := by omega
    go_enter Try.func14, Try.ntmps14
    go_wp2
    go_ret2
    exact ⟨rfl, rfl⟩
theorem Next_any {w : World} {p keep : Nat} {ev : List (Option Msg)} {vk vl : Value} (h : StAt w p keep ev vk vl) :
    Calls Try.prog 11 #[.pointer (some ⟨p, 0, none⟩)] w fun e w' => e = .returned (.int .i64 ((ev.length + 1 : Nat) : Int)) ∧ w' = w := by
  obtain ⟨c0, c1, c2, c3, c4⟩ := h.at
  clear h
  generalize ((ev.length + 1 : Nat) : Int) = N at *
  go_enter Try.func11, Try.ntmps11
  go_wp2
  go_ret
  exact ⟨rfl, rfl⟩
theorem Kept_any {w : World} {p keep : Nat} {ev : List (Option Msg)} {vk vl : Value} (h : StAt w p keep ev vk vl) :
    Calls Try.prog 12 #[.pointer (some ⟨p, 0, none⟩)] w fun e w' => e = .returned (.tuple #[.int .i64 ((keptL keep ev).length : Nat), .int .i64 (over keep ev : Nat)]) ∧ ∃ q, w' = w.drewN q := by
  obtain ⟨c0, c1, c2, c3, c4⟩ := h.at
  obtain ⟨ao, cap, rfl, hc⟩ := h.kept.form
  clear h
  generalize (keptL keep ev).length = N at *
  generalize over keep ev = D at *
  go_enter Try.func12, Try.ntmps12
  go_wp2
  go_quiet (fail)
  go_wp2
  go_ret2
  exact ⟨rfl, ⟨_, rfl⟩⟩
end Go.Proofs.Ytekkckfoikpljaa
