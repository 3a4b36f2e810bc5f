/-
  tape, the reference: put (laid by gentd2.py).
-/
import Derived.Test.YtjnnecoikcmaeaaTP9
namespace Go.Proofs.Ytjnnecoikcmaeaa
set_option linter.unusedVariables false
set_option linter.unusedSimpArgs false
open Go.RowKit Go.Great

set_option maxRecDepth 100000 in
set_option maxHeartbeats 1000000 in
theorem put_0 (B : Nat) (w : World) (n : Int) (s : ByteArray) (o : Int) (hc : w.cell? ⟨B, 1, none⟩ = some (.int .i64 o)) (hf : w.frozen? ⟨B, 1, none⟩ = false) (hz0 : -9223372036854775808 ≤ n) (hz1 : n ≤ 9223372036854775807) : Calls Try.prog 39 #[.pointer (some ⟨B, 0, none⟩), .int .i64 0, .int .i64 n, .string s] w fun e w' => e = .returned (.tuple #[]) ∧ w' = w.setCell ⟨B, 1, none⟩ (.int .i64 n) := by
  go_enter Try.func39, Try.ntmps39
  go_wp2
  refine ⟨by rfl, .tuple #[], results_none (by rfl) _ _ _, rfl, ?_⟩
  rfl
set_option maxRecDepth 100000 in
set_option maxHeartbeats 1000000 in
theorem put_1 (B : Nat) (w : World) (n : Int) (s : ByteArray) (o : Int) (hc : w.cell? ⟨B, 2, none⟩ = some (.int .i64 o)) (hf : w.frozen? ⟨B, 2, none⟩ = false) (hz0 : -9223372036854775808 ≤ n) (hz1 : n ≤ 9223372036854775807) : Calls Try.prog 39 #[.pointer (some ⟨B, 0, none⟩), .int .i64 1, .int .i64 n, .string s] w fun e w' => e = .returned (.tuple #[]) ∧ w' = w.setCell ⟨B, 2, none⟩ (.int .i64 n) := by
  go_enter Try.func39, Try.ntmps39
  go_wp2
  refine ⟨by rfl, .tuple #[], results_none (by rfl) _ _ _, rfl, ?_⟩
  rfl
set_option maxRecDepth 100000 in
set_option maxHeartbeats 1000000 in
theorem put_2 (B : Nat) (w : World) (n : Int) (s : ByteArray) (o : ByteArray) (hc : w.cell? ⟨B, 18, none⟩ = some (.string o)) (hf : w.frozen? ⟨B, 18, none⟩ = false) (hz0 : -9223372036854775808 ≤ n) (hz1 : n ≤ 9223372036854775807) : Calls Try.prog 39 #[.pointer (some ⟨B, 0, none⟩), .int .i64 2, .int .i64 n, .string s] w fun e w' => e = .returned (.tuple #[]) ∧ w' = w.setCell ⟨B, 18, none⟩ (.string s) := by
  go_enter Try.func39, Try.ntmps39
  go_wp2
  refine ⟨by rfl, .tuple #[], results_none (by rfl) _ _ _, rfl, ?_⟩
  rfl
set_option maxRecDepth 100000 in
set_option maxHeartbeats 1000000 in
theorem put_3 (B : Nat) (w : World) (n : Int) (s : ByteArray) (o : Int) (hc : w.cell? ⟨B, 3, none⟩ = some (.int .i64 o)) (hf : w.frozen? ⟨B, 3, none⟩ = false) (hz0 : -9223372036854775808 ≤ n) (hz1 : n ≤ 9223372036854775807) : Calls Try.prog 39 #[.pointer (some ⟨B, 0, none⟩), .int .i64 3, .int .i64 n, .string s] w fun e w' => e = .returned (.tuple #[]) ∧ w' = w.setCell ⟨B, 3, none⟩ (.int .i64 n) := by
  go_enter Try.func39, Try.ntmps39
  go_wp2
  refine ⟨by rfl, .tuple #[], results_none (by rfl) _ _ _, rfl, ?_⟩
  rfl
set_option maxRecDepth 100000 in
set_option maxHeartbeats 1000000 in
theorem put_4 (B : Nat) (w : World) (n : Int) (s : ByteArray) (o : ByteArray) (hc : w.cell? ⟨B, 4, none⟩ = some (.string o)) (hf : w.frozen? ⟨B, 4, none⟩ = false) (hz0 : -9223372036854775808 ≤ n) (hz1 : n ≤ 9223372036854775807) : Calls Try.prog 39 #[.pointer (some ⟨B, 0, none⟩), .int .i64 4, .int .i64 n, .string s] w fun e w' => e = .returned (.tuple #[]) ∧ w' = w.setCell ⟨B, 4, none⟩ (.string s) := by
  go_enter Try.func39, Try.ntmps39
  go_wp2
  refine ⟨by rfl, .tuple #[], results_none (by rfl) _ _ _, rfl, ?_⟩
  rfl
set_option maxRecDepth 100000 in
set_option maxHeartbeats 1000000 in
theorem put_5 (B : Nat) (w : World) (n : Int) (s : ByteArray) (o : ByteArray) (hc : w.cell? ⟨B, 5, none⟩ = some (.string o)) (hf : w.frozen? ⟨B, 5, none⟩ = false) (hz0 : -9223372036854775808 ≤ n) (hz1 : n ≤ 9223372036854775807) : Calls Try.prog 39 #[.pointer (some ⟨B, 0, none⟩), .int .i64 5, .int .i64 n, .string s] w fun e w' => e = .returned (.tuple #[]) ∧ w' = w.setCell ⟨B, 5, none⟩ (.string s) := by
  go_enter Try.func39, Try.ntmps39
  go_wp2
  refine ⟨by rfl, .tuple #[], results_none (by rfl) _ _ _, rfl, ?_⟩
  rfl
set_option maxRecDepth 100000 in
set_option maxHeartbeats 1000000 in
theorem put_6 (B : Nat) (w : World) (n : Int) (s : ByteArray) (o : ByteArray) (hc : w.cell? ⟨B, 6, none⟩ = some (.string o)) (hf : w.frozen? ⟨B, 6, none⟩ = false) (hz0 : -9223372036854775808 ≤ n) (hz1 : n ≤ 9223372036854775807) : Calls Try.prog 39 #[.pointer (some ⟨B, 0, none⟩), .int .i64 6, .int .i64 n, .string s] w fun e w' => e = .returned (.tuple #[]) ∧ w' = w.setCell ⟨B, 6, none⟩ (.string s) := by
  go_enter Try.func39, Try.ntmps39
  go_wp2
  refine ⟨by rfl, .tuple #[], results_none (by rfl) _ _ _, rfl, ?_⟩
  rfl
set_option maxRecDepth 100000 in
set_option maxHeartbeats 1000000 in
theorem put_7 (B : Nat) (w : World) (n : Int) (s : ByteArray) (o : Int) (hc : w.cell? ⟨B, 7, none⟩ = some (.int .i64 o)) (hf : w.frozen? ⟨B, 7, none⟩ = false) (hz0 : -9223372036854775808 ≤ n) (hz1 : n ≤ 9223372036854775807) : Calls Try.prog 39 #[.pointer (some ⟨B, 0, none⟩), .int .i64 7, .int .i64 n, .string s] w fun e w' => e = .returned (.tuple #[]) ∧ w' = w.setCell ⟨B, 7, none⟩ (.int .i64 n) := by
  go_enter Try.func39, Try.ntmps39
  go_wp2
  refine ⟨by rfl, .tuple #[], results_none (by rfl) _ _ _, rfl, ?_⟩
  rfl
set_option maxRecDepth 100000 in
set_option maxHeartbeats 1000000 in
theorem put_8 (B : Nat) (w : World) (n : Int) (s : ByteArray) (o : Int) (hc : w.cell? ⟨B, 8, none⟩ = some (.int .i64 o)) (hf : w.frozen? ⟨B, 8, none⟩ = false) (hz0 : -9223372036854775808 ≤ n) (hz1 : n ≤ 9223372036854775807) : Calls Try.prog 39 #[.pointer (some ⟨B, 0, none⟩), .int .i64 8, .int .i64 n, .string s] w fun e w' => e = .returned (.tuple #[]) ∧ w' = w.setCell ⟨B, 8, none⟩ (.int .i64 n) := by
  go_enter Try.func39, Try.ntmps39
  go_wp2
  refine ⟨by rfl, .tuple #[], results_none (by rfl) _ _ _, rfl, ?_⟩
  rfl
set_option maxRecDepth 100000 in
set_option maxHeartbeats 1000000 in
theorem put_9 (B : Nat) (w : World) (n : Int) (s : ByteArray) (o : Int) (hc : w.cell? ⟨B, 9, none⟩ = some (.int .i64 o)) (hf : w.frozen? ⟨B, 9, none⟩ = false) (hz0 : -9223372036854775808 ≤ n) (hz1 : n ≤ 9223372036854775807) : Calls Try.prog 39 #[.pointer (some ⟨B, 0, none⟩), .int .i64 9, .int .i64 n, .string s] w fun e w' => e = .returned (.tuple #[]) ∧ w' = w.setCell ⟨B, 9, none⟩ (.int .i64 n) := by
  go_enter Try.func39, Try.ntmps39
  go_wp2
  refine ⟨by rfl, .tuple #[], results_none (by rfl) _ _ _, rfl, ?_⟩
  rfl
set_option maxRecDepth 100000 in
set_option maxHeartbeats 1000000 in
theorem put_10 (B : Nat) (w : World) (n : Int) (s : ByteArray) (o : Int) (hc : w.cell? ⟨B, 10, none⟩ = some (.int .i64 o)) (hf : w.frozen? ⟨B, 10, none⟩ = false) (hz0 : -9223372036854775808 ≤ n) (hz1 : n ≤ 9223372036854775807) : Calls Try.prog 39 #[.pointer (some ⟨B, 0, none⟩), .int .i64 10, .int .i64 n, .string s] w fun e w' => e = .returned (.tuple #[]) ∧ w' = w.setCell ⟨B, 10, none⟩ (.int .i64 n) := by
  go_enter Try.func39, Try.ntmps39
  go_wp2
  refine ⟨by rfl, .tuple #[], results_none (by rfl) _ _ _, rfl, ?_⟩
  rfl
set_option maxRecDepth 100000 in
set_option maxHeartbeats 1000000 in
theorem put_11 (B : Nat) (w : World) (n : Int) (s : ByteArray) (o : Int) (hc : w.cell? ⟨B, 11, none⟩ = some (.int .i64 o)) (hf : w.frozen? ⟨B, 11, none⟩ = false) (hz0 : -9223372036854775808 ≤ n) (hz1 : n ≤ 9223372036854775807) : Calls Try.prog 39 #[.pointer (some ⟨B, 0, none⟩), .int .i64 11, .int .i64 n, .string s] w fun e w' => e = .returned (.tuple #[]) ∧ w' = w.setCell ⟨B, 11, none⟩ (.int .i64 n) := by
  go_enter Try.func39, Try.ntmps39
  go_wp2
  refine ⟨by rfl, .tuple #[], results_none (by rfl) _ _ _, rfl, ?_⟩
  rfl
set_option maxRecDepth 100000 in
set_option maxHeartbeats 1000000 in
theorem put_12 (B : Nat) (w : World) (n : Int) (s : ByteArray) (o : Int) (hc : w.cell? ⟨B, 12, none⟩ = some (.int .i64 o)) (hf : w.frozen? ⟨B, 12, none⟩ = false) (hz0 : -9223372036854775808 ≤ n) (hz1 : n ≤ 9223372036854775807) : Calls Try.prog 39 #[.pointer (some ⟨B, 0, none⟩), .int .i64 12, .int .i64 n, .string s] w fun e w' => e = .returned (.tuple #[]) ∧ w' = w.setCell ⟨B, 12, none⟩ (.int .i64 n) := by
  go_enter Try.func39, Try.ntmps39
  go_wp2
  refine ⟨by rfl, .tuple #[], results_none (by rfl) _ _ _, rfl, ?_⟩
  rfl
set_option maxRecDepth 100000 in
set_option maxHeartbeats 1000000 in
theorem put_13 (B : Nat) (w : World) (n : Int) (s : ByteArray) (o : Int) (hc : w.cell? ⟨B, 13, none⟩ = some (.int .i64 o)) (hf : w.frozen? ⟨B, 13, none⟩ = false) (hz0 : -9223372036854775808 ≤ n) (hz1 : n ≤ 9223372036854775807) : Calls Try.prog 39 #[.pointer (some ⟨B, 0, none⟩), .int .i64 13, .int .i64 n, .string s] w fun e w' => e = .returned (.tuple #[]) ∧ w' = w.setCell ⟨B, 13, none⟩ (.int .i64 n) := by
  go_enter Try.func39, Try.ntmps39
  go_wp2
  refine ⟨by rfl, .tuple #[], results_none (by rfl) _ _ _, rfl, ?_⟩
  rfl
set_option maxRecDepth 100000 in
set_option maxHeartbeats 1000000 in
theorem put_14 (B : Nat) (w : World) (n : Int) (s : ByteArray) (o : Int) (hc : w.cell? ⟨B, 15, none⟩ = some (.int .i64 o)) (hf : w.frozen? ⟨B, 15, none⟩ = false) (hz0 : -9223372036854775808 ≤ n) (hz1 : n ≤ 9223372036854775807) : Calls Try.prog 39 #[.pointer (some ⟨B, 0, none⟩), .int .i64 14, .int .i64 n, .string s] w fun e w' => e = .returned (.tuple #[]) ∧ w' = w.setCell ⟨B, 15, none⟩ (.int .i64 n) := by
  go_enter Try.func39, Try.ntmps39
  go_wp2
  refine ⟨by rfl, .tuple #[], results_none (by rfl) _ _ _, rfl, ?_⟩
  rfl
set_option maxRecDepth 100000 in
set_option maxHeartbeats 1000000 in
theorem put_15 (B : Nat) (w : World) (n : Int) (s : ByteArray) (o : Int) (hc : w.cell? ⟨B, 16, none⟩ = some (.int .i64 o)) (hf : w.frozen? ⟨B, 16, none⟩ = false) (hz0 : -9223372036854775808 ≤ n) (hz1 : n ≤ 9223372036854775807) : Calls Try.prog 39 #[.pointer (some ⟨B, 0, none⟩), .int .i64 15, .int .i64 n, .string s] w fun e w' => e = .returned (.tuple #[]) ∧ w' = w.setCell ⟨B, 16, none⟩ (.int .i64 n) := by
  go_enter Try.func39, Try.ntmps39
  go_wp2
  refine ⟨by rfl, .tuple #[], results_none (by rfl) _ _ _, rfl, ?_⟩
  rfl
set_option maxRecDepth 100000 in
set_option maxHeartbeats 1000000 in
theorem put_16 (B : Nat) (w : World) (n : Int) (s : ByteArray) (o : Int) (hc : w.cell? ⟨B, 17, none⟩ = some (.int .i64 o)) (hf : w.frozen? ⟨B, 17, none⟩ = false) (hz0 : -9223372036854775808 ≤ n) (hz1 : n ≤ 9223372036854775807) : Calls Try.prog 39 #[.pointer (some ⟨B, 0, none⟩), .int .i64 16, .int .i64 n, .string s] w fun e w' => e = .returned (.tuple #[]) ∧ w' = w.setCell ⟨B, 17, none⟩ (.int .i64 n) := by
  go_enter Try.func39, Try.ntmps39
  go_wp2
  refine ⟨by rfl, .tuple #[], results_none (by rfl) _ _ _, rfl, ?_⟩
  rfl
set_option maxRecDepth 100000 in
set_option maxHeartbeats 1000000 in
theorem put_17 (B : Nat) (w : World) (n : Int) (s : ByteArray) (o : Int) (hc : w.cell? ⟨B, 14, none⟩ = some (.int .i64 o)) (hf : w.frozen? ⟨B, 14, none⟩ = false) (hz0 : -9223372036854775808 ≤ n) (hz1 : n ≤ 9223372036854775807) : Calls Try.prog 39 #[.pointer (some ⟨B, 0, none⟩), .int .i64 17, .int .i64 n, .string s] w fun e w' => e = .returned (.tuple #[]) ∧ w' = w.setCell ⟨B, 14, none⟩ (.int .i64 n) := by
  go_enter Try.func39, Try.ntmps39
  go_wp2
  refine ⟨by rfl, .tuple #[], results_none (by rfl) _ _ _, rfl, ?_⟩
  rfl
set_option maxRecDepth 100000 in
set_option maxHeartbeats 1000000 in
theorem put_18 (B : Nat) (w : World) (n : Int) (s : ByteArray) (o : ByteArray) (hc : w.cell? ⟨B, 19, none⟩ = some (.string o)) (hf : w.frozen? ⟨B, 19, none⟩ = false) (hz0 : -9223372036854775808 ≤ n) (hz1 : n ≤ 9223372036854775807) : Calls Try.prog 39 #[.pointer (some ⟨B, 0, none⟩), .int .i64 18, .int .i64 n, .string s] w fun e w' => e = .returned (.tuple #[]) ∧ w' = w.setCell ⟨B, 19, none⟩ (.string s) := by
  go_enter Try.func39, Try.ntmps39
  go_wp2
  refine ⟨by rfl, .tuple #[], results_none (by rfl) _ _ _, rfl, ?_⟩
  rfl
set_option maxRecDepth 100000 in
set_option maxHeartbeats 1000000 in
theorem put_19 (B : Nat) (w : World) (n : Int) (s : ByteArray) (o : Int) (hc : w.cell? ⟨B, 20, none⟩ = some (.int .i64 o)) (hf : w.frozen? ⟨B, 20, none⟩ = false) (hz0 : -9223372036854775808 ≤ n) (hz1 : n ≤ 9223372036854775807) : Calls Try.prog 39 #[.pointer (some ⟨B, 0, none⟩), .int .i64 19, .int .i64 n, .string s] w fun e w' => e = .returned (.tuple #[]) ∧ w' = w.setCell ⟨B, 20, none⟩ (.int .i64 n) := by
  go_enter Try.func39, Try.ntmps39
  go_wp2
  refine ⟨by rfl, .tuple #[], results_none (by rfl) _ _ _, rfl, ?_⟩
  rfl
set_option maxRecDepth 100000 in
set_option maxHeartbeats 1000000 in
theorem put_20 (B : Nat) (w : World) (n : Int) (s : ByteArray) (o : Int) (hc : w.cell? ⟨B, 21, none⟩ = some (.int .i64 o)) (hf : w.frozen? ⟨B, 21, none⟩ = false) (hz0 : -9223372036854775808 ≤ n) (hz1 : n ≤ 9223372036854775807) : Calls Try.prog 39 #[.pointer (some ⟨B, 0, none⟩), .int .i64 20, .int .i64 n, .string s] w fun e w' => e = .returned (.tuple #[]) ∧ w' = w.setCell ⟨B, 21, none⟩ (.int .i64 n) := by
  go_enter Try.func39, Try.ntmps39
  go_wp2
  refine ⟨by rfl, .tuple #[], results_none (by rfl) _ _ _, rfl, ?_⟩
  rfl
set_option maxRecDepth 100000 in
set_option maxHeartbeats 1000000 in
theorem put_21 (B : Nat) (w : World) (n : Int) (s : ByteArray) (o : Int) (hc : w.cell? ⟨B, 22, none⟩ = some (.int .i64 o)) (hf : w.frozen? ⟨B, 22, none⟩ = false) (hz0 : -9223372036854775808 ≤ n) (hz1 : n ≤ 9223372036854775807) : Calls Try.prog 39 #[.pointer (some ⟨B, 0, none⟩), .int .i64 21, .int .i64 n, .string s] w fun e w' => e = .returned (.tuple #[]) ∧ w' = w.setCell ⟨B, 22, none⟩ (.int .i64 n) := by
  go_enter Try.func39, Try.ntmps39
  go_wp2
  refine ⟨by rfl, .tuple #[], results_none (by rfl) _ _ _, rfl, ?_⟩
  rfl
set_option maxRecDepth 100000 in
set_option maxHeartbeats 1000000 in
theorem put_22 (B : Nat) (w : World) (n : Int) (s : ByteArray) (o : Int) (hc : w.cell? ⟨B, 23, none⟩ = some (.int .i64 o)) (hf : w.frozen? ⟨B, 23, none⟩ = false) (hz0 : -9223372036854775808 ≤ n) (hz1 : n ≤ 9223372036854775807) : Calls Try.prog 39 #[.pointer (some ⟨B, 0, none⟩), .int .i64 22, .int .i64 n, .string s] w fun e w' => e = .returned (.tuple #[]) ∧ w' = w.setCell ⟨B, 23, none⟩ (.int .i64 n) := by
  go_enter Try.func39, Try.ntmps39
  go_wp2
  refine ⟨by rfl, .tuple #[], results_none (by rfl) _ _ _, rfl, ?_⟩
  rfl
set_option maxRecDepth 100000 in
set_option maxHeartbeats 1000000 in
theorem put_23 (B : Nat) (w : World) (n : Int) (s : ByteArray) (o : Int) (hc : w.cell? ⟨B, 24, none⟩ = some (.int .i64 o)) (hf : w.frozen? ⟨B, 24, none⟩ = false) (hz0 : -9223372036854775808 ≤ n) (hz1 : n ≤ 9223372036854775807) : Calls Try.prog 39 #[.pointer (some ⟨B, 0, none⟩), .int .i64 23, .int .i64 n, .string s] w fun e w' => e = .returned (.tuple #[]) ∧ w' = w.setCell ⟨B, 24, none⟩ (.int .i64 n) := by
  go_enter Try.func39, Try.ntmps39
  go_wp2
  refine ⟨by rfl, .tuple #[], results_none (by rfl) _ _ _, rfl, ?_⟩
  rfl
theorem put_any {B : Nat} {w : World} {c : Cm} (hb : Blk w B 27 c.cs) {i : Nat} (h : i < 24) (n : Int) (s : ByteArray) (hz0 : -9223372036854775808 ≤ n) (hz1 : n ≤ 9223372036854775807) : Calls Try.prog 39 #[.pointer (some ⟨B, 0, none⟩), .int .i64 (i : Int), .int .i64 n, .string s] w fun e w' => e = .returned (.tuple #[]) ∧ w' = w.setCell ⟨B, cOf i, none⟩ (if isT i then .string s else .int .i64 n) := by
  have hp := part_cell hb h
  have hf : w.frozen? ⟨B, cOf i, none⟩ = false := hb.frozen _
  rcases cases24 h with rfl | rfl | rfl | rfl | rfl | rfl | rfl | rfl | rfl | rfl | rfl | rfl | rfl | rfl | rfl | rfl | rfl | rfl | rfl | rfl | rfl | rfl | rfl | rfl
  · exact put_0 B w n s _ hp hf hz0 hz1
  · exact put_1 B w n s _ hp hf hz0 hz1
  · exact put_2 B w n s _ hp hf hz0 hz1
  · exact put_3 B w n s _ hp hf hz0 hz1
  · exact put_4 B w n s _ hp hf hz0 hz1
  · exact put_5 B w n s _ hp hf hz0 hz1
  · exact put_6 B w n s _ hp hf hz0 hz1
  · exact put_7 B w n s _ hp hf hz0 hz1
  · exact put_8 B w n s _ hp hf hz0 hz1
  · exact put_9 B w n s _ hp hf hz0 hz1
  · exact put_10 B w n s _ hp hf hz0 hz1
  · exact put_11 B w n s _ hp hf hz0 hz1
  · exact put_12 B w n s _ hp hf hz0 hz1
  · exact put_13 B w n s _ hp hf hz0 hz1
  · exact put_14 B w n s _ hp hf hz0 hz1
  · exact put_15 B w n s _ hp hf hz0 hz1
  · exact put_16 B w n s _ hp hf hz0 hz1
  · exact put_17 B w n s _ hp hf hz0 hz1
  · exact put_18 B w n s _ hp hf hz0 hz1
  · exact put_19 B w n s _ hp hf hz0 hz1
  · exact put_20 B w n s _ hp hf hz0 hz1
  · exact put_21 B w n s _ hp hf hz0 hz1
  · exact put_22 B w n s _ hp hf hz0 hz1
  · exact put_23 B w n s _ hp hf hz0 hz1
end Go.Proofs.Ytjnnecoikcmaeaa
