/-
  tape: the parts of a command, by their methods.
-/
import Derived.Test.YtjnnecoikcmaeaaTP1
import Derived.Deep.RegionHeld3
namespace Go.Proofs.Ytjnnecoikcmaeaa
set_option linter.unusedVariables false
set_option linter.unusedSimpArgs false
open Go.RowKit Go.Great

def mbZ (z : Int) : Bool := decide (0 ≤ z ∧ z ≤ 1000000000000000000)
def pMay (c : Cm) (i : Nat) : Bool := if isT i then decide ((c.s i).size ≤ 60) else mbZ (c.n i)
def pZer (c : Cm) (i : Nat) : Bool := if isT i then decide ((c.s i).size = 0) else decide (c.n i = 0)
def sB (s : ByteArray) : List Nat := s.data.toList.map (·.toNat)
def pBy (c : Cm) (i : Nat) : List Nat := if isT i then varL (foldN ((c.s i).size : Int)) ++ sB (c.s i) else varL (foldN (c.n i))
theorem sB_bb (s : ByteArray) : BB (sB s) := fun x hx => by
  obtain ⟨c, _, rfl⟩ := List.mem_map.1 hx
  exact c.toNat_lt
theorem cell_alloc {w : World} {a : Addr} {v : Value} (h : w.cell? a = some v) (o : Obj) : (w.alloc o).cell? a = some v := by
  have hb := ((Below.refl _ w).alloc (Nat.le_refl _) o).cell (p := a) (World.block_lt_of_cell? _ _ h)
  rw [hb]; exact h
theorem sB_len (s : ByteArray) : (sB s).length = s.size := by simp [sB]
set_option maxRecDepth 100000 in
theorem nl_may (B k : Nat) (z : Int) (w : World) (hc : w.cell? ⟨B, k, none⟩ = some (.int .i64 z)) : Calls Try.prog 78 #[.agg #[.pointer (some ⟨B, k, none⟩)]] w fun e w' => e = .returned (.bool (mbZ z)) ∧ Below w.heap.size w w' := by
  have HB : Hid (∀ o, Below w.heap.size w (w.alloc o)) := fun o => (Below.refl _ w).alloc (Nat.le_refl _) o
  have hc2 : ∀ o, (w.alloc o).cell? ⟨B, k, none⟩ = some (.int .i64 z) := fun o => cell_alloc hc o
  by_cases h0 : 0 ≤ z
  · by_cases h1 : z ≤ 1000000000000000000
    · rw [show mbZ z = true from decide_eq_true ⟨h0, h1⟩]
      go_enter Try.func78, Try.ntmps78
      go_wp2
      go_ret
      exact ⟨rfl, HB.out _⟩
    · rw [show mbZ z = false from decide_eq_false (fun e => h1 e.2)]
      go_enter Try.func78, Try.ntmps78
      go_wp2
      go_ret
      exact ⟨rfl, HB.out _⟩
  · rw [show mbZ z = false from decide_eq_false (fun e => h0 e.1)]
    go_enter Try.func78, Try.ntmps78
    go_wp2
    go_ret
    exact ⟨rfl, HB.out _⟩
set_option maxRecDepth 100000 in
theorem nl_zer (B k : Nat) (z : Int) (w : World) (hc : w.cell? ⟨B, k, none⟩ = some (.int .i64 z)) : Calls Try.prog 77 #[.agg #[.pointer (some ⟨B, k, none⟩)]] w fun e w' => e = .returned (.bool (decide (z = 0))) ∧ Below w.heap.size w w' := by
  have HB : Hid (∀ o, Below w.heap.size w (w.alloc o)) := fun o => (Below.refl _ w).alloc (Nat.le_refl _) o
  have hc2 : ∀ o, (w.alloc o).cell? ⟨B, k, none⟩ = some (.int .i64 z) := fun o => cell_alloc hc o
  by_cases h0 : z = 0
  · rw [decide_eq_true h0]
    have h0' : (z == 0) = true := by simp [h0]
    go_enter Try.func77, Try.ntmps77
    go_wp2
    go_ret
    exact ⟨rfl, HB.out _⟩
  · rw [decide_eq_false h0]
    have h0' : (z == 0) = false := by simp [h0]
    go_enter Try.func77, Try.ntmps77
    go_wp2
    go_ret
    exact ⟨rfl, HB.out _⟩
set_option maxRecDepth 100000 in
theorem nl_wri (B k : Nat) (z : Int) (w : World) (v : Value) (l : List Nat) (hc : w.cell? ⟨B, k, none⟩ = some (.int .i64 z)) (h : By w v l) (hl : l.length ≤ 1000000) (h0 : -9223372036854775808 ≤ z) (h1 : z ≤ 9223372036854775807) : Calls Try.prog 80 #[.agg #[.pointer (some ⟨B, k, none⟩)], v] w fun e w' => ∃ v', e = .returned v' ∧ Hid (OwnB w w' v' (l ++ varL (foldN z))) := by
  have hb : Below w.heap.size w (w.alloc (.cells #[.pointer (some ⟨B, k, none⟩)] 98)) := (Below.refl _ w).alloc (Nat.le_refl _) _
  have HB : Hid (Below w.heap.size w (w.alloc (.cells #[.pointer (some ⟨B, k, none⟩)] 98))) := hb
  have hc2 : ∀ o, (w.alloc o).cell? ⟨B, k, none⟩ = some (.int .i64 z) := fun o => cell_alloc hc o
  have hp := PutVar_by (h.below hb) hl z h0 h1
  clear hb h
  go_enter Try.func80, Try.ntmps80
  go_wp2_with (go_at_call 30; fail)
  refine hp.mono ?_
  rintro e w1 ⟨v', rfl, hx⟩
  have HF : Hid (OwnB w w1 v' (l ++ varL (foldN z))) := hx.out.since HB.out
  clear hx hp
  go_wp2
  go_ret
  exact ⟨v', rfl, HF⟩
set_option maxRecDepth 100000 in
theorem ni_may (B k : Nat) (z : Int) (w : World) (hc : w.cell? ⟨B, k, none⟩ = some (.int .i64 z)) : Calls Try.prog 82 #[.agg #[.pointer (some ⟨B, k, none⟩)]] w fun e w' => e = .returned (.bool (mbZ z)) ∧ Below w.heap.size w w' := by
  have HB : Hid (∀ o, Below w.heap.size w (w.alloc o)) := fun o => (Below.refl _ w).alloc (Nat.le_refl _) o
  have hc2 : ∀ o, (w.alloc o).cell? ⟨B, k, none⟩ = some (.int .i64 z) := fun o => cell_alloc hc o
  by_cases h0 : 0 ≤ z
  · by_cases h1 : z ≤ 1000000000000000000
    · rw [show mbZ z = true from decide_eq_true ⟨h0, h1⟩]
      go_enter Try.func82, Try.ntmps82
      go_wp2
      go_ret
      exact ⟨rfl, HB.out _⟩
    · rw [show mbZ z = false from decide_eq_false (fun e => h1 e.2)]
      go_enter Try.func82, Try.ntmps82
      go_wp2
      go_ret
      exact ⟨rfl, HB.out _⟩
  · rw [show mbZ z = false from decide_eq_false (fun e => h0 e.1)]
    go_enter Try.func82, Try.ntmps82
    go_wp2
    go_ret
    exact ⟨rfl, HB.out _⟩
set_option maxRecDepth 100000 in
theorem ni_zer (B k : Nat) (z : Int) (w : World) (hc : w.cell? ⟨B, k, none⟩ = some (.int .i64 z)) : Calls Try.prog 81 #[.agg #[.pointer (some ⟨B, k, none⟩)]] w fun e w' => e = .returned (.bool (decide (z = 0))) ∧ Below w.heap.size w w' := by
  have HB : Hid (∀ o, Below w.heap.size w (w.alloc o)) := fun o => (Below.refl _ w).alloc (Nat.le_refl _) o
  have hc2 : ∀ o, (w.alloc o).cell? ⟨B, k, none⟩ = some (.int .i64 z) := fun o => cell_alloc hc o
  by_cases h0 : z = 0
  · rw [decide_eq_true h0]
    have h0' : (z == 0) = true := by simp [h0]
    go_enter Try.func81, Try.ntmps81
    go_wp2
    go_ret
    exact ⟨rfl, HB.out _⟩
  · rw [decide_eq_false h0]
    have h0' : (z == 0) = false := by simp [h0]
    go_enter Try.func81, Try.ntmps81
    go_wp2
    go_ret
    exact ⟨rfl, HB.out _⟩
set_option maxRecDepth 100000 in
theorem ni_wri (B k : Nat) (z : Int) (w : World) (v : Value) (l : List Nat) (hc : w.cell? ⟨B, k, none⟩ = some (.int .i64 z)) (h : By w v l) (hl : l.length ≤ 1000000) (h0 : -9223372036854775808 ≤ z) (h1 : z ≤ 9223372036854775807) : Calls Try.prog 84 #[.agg #[.pointer (some ⟨B, k, none⟩)], v] w fun e w' => ∃ v', e = .returned v' ∧ Hid (OwnB w w' v' (l ++ varL (foldN z))) := by
  have hb : Below w.heap.size w (w.alloc (.cells #[.pointer (some ⟨B, k, none⟩)] 101)) := (Below.refl _ w).alloc (Nat.le_refl _) _
  have HB : Hid (Below w.heap.size w (w.alloc (.cells #[.pointer (some ⟨B, k, none⟩)] 101))) := hb
  have hc2 : ∀ o, (w.alloc o).cell? ⟨B, k, none⟩ = some (.int .i64 z) := fun o => cell_alloc hc o
  have hp := PutVar_by (h.below hb) hl z h0 h1
  clear hb h
  go_enter Try.func84, Try.ntmps84
  go_wp2_with (go_at_call 30; fail)
  refine hp.mono ?_
  rintro e w1 ⟨v', rfl, hx⟩
  have HF : Hid (OwnB w w1 v' (l ++ varL (foldN z))) := hx.out.since HB.out
  clear hx hp
  go_wp2
  go_ret
  exact ⟨v', rfl, HF⟩
set_option maxRecDepth 100000 in
theorem tx_may (B k : Nat) (s : ByteArray) (w : World) (hc : w.cell? ⟨B, k, none⟩ = some (.string s)) (hs : s.size ≤ maxLen) : Calls Try.prog 86 #[.agg #[.pointer (some ⟨B, k, none⟩)]] w fun e w' => e = .returned (.bool (decide (s.size ≤ 60))) ∧ Below w.heap.size w w' := by
  have HB : Hid (∀ o, Below w.heap.size w (w.alloc o)) := fun o => (Below.refl _ w).alloc (Nat.le_refl _) o
  have hc2 : ∀ o, (w.alloc o).cell? ⟨B, k, none⟩ = some (.string s) := fun o => cell_alloc hc o
  by_cases h0 : s.size ≤ 60
  · have h0' : (s.size : Int) ≤ 60 := by omega
    rw [decide_eq_true h0]
    go_enter Try.func86, Try.ntmps86
    go_wp2
    go_ret
    exact ⟨rfl, HB.out _⟩
  · have h0' : ¬ (s.size : Int) ≤ 60 := by omega
    rw [decide_eq_false h0]
    go_enter Try.func86, Try.ntmps86
    go_wp2
    go_ret
    exact ⟨rfl, HB.out _⟩
set_option maxRecDepth 100000 in
theorem tx_zer (B k : Nat) (s : ByteArray) (w : World) (hc : w.cell? ⟨B, k, none⟩ = some (.string s)) : Calls Try.prog 85 #[.agg #[.pointer (some ⟨B, k, none⟩)]] w fun e w' => e = .returned (.bool (decide (s.size = 0))) ∧ Below w.heap.size w w' := by
  have HB : Hid (∀ o, Below w.heap.size w (w.alloc o)) := fun o => (Below.refl _ w).alloc (Nat.le_refl _) o
  have hc2 : ∀ o, (w.alloc o).cell? ⟨B, k, none⟩ = some (.string s) := fun o => cell_alloc hc o
  have e0 : (s.size = 0) ↔ s.toList = [] := by
    rw [Lib.toList_data, Lib.size_eq, List.length_eq_zero_iff]
  by_cases h0 : s.size = 0
  · have h1 : (s.toList == []) = true := by rw [e0.1 h0]; rfl
    rw [decide_eq_true h0]
    go_enter Try.func85, Try.ntmps85
    go_wp2
    go_ret
    exact ⟨rfl, HB.out _⟩
  · have h1 : (s.toList == []) = false := by
      rw [← Bool.not_eq_true]
      intro e
      exact h0 (e0.2 (by simpa using e))
    rw [decide_eq_false h0]
    go_enter Try.func85, Try.ntmps85
    go_wp2
    go_ret
    exact ⟨rfl, HB.out _⟩
end Go.Proofs.Ytjnnecoikcmaeaa
