/-
  The reference of bin: Put, of what is made absent.
-/
import Derived.Test.YtdlmaeieoiocdaaDoorMsgUpd
namespace Go.Proofs.YtdlmaeieoiocdaaDoor
set_option linter.unusedVariables false
open Go.RowKit

set_option maxRecDepth 100000 in
set_option maxHeartbeats 1000000 in
theorem put10 (z : Int) (B : Nat) (w : World) (hc : w.cell? ⟨B, 10, none⟩ = some (.int .i64 z)) (hf : w.frozen? ⟨B, 10, none⟩ = false) :
    Calls Tryd.prog 15 #[.pointer (some ⟨B, 0, none⟩), .int .i64 7, .int .u64 0, .string ⟨#[]⟩] w fun e w' => e = .returned (.tuple #[]) ∧ w' = w.setCell ⟨B, 10, none⟩ (.int .i64 0) := by
  go_enter Tryd.func15, Tryd.ntmps15
  go_wp2
  go_end0
  exact ⟨rfl, rfl⟩
set_option maxRecDepth 100000 in
set_option maxHeartbeats 1000000 in
theorem put12 (z : Int) (B : Nat) (w : World) (hc : w.cell? ⟨B, 12, none⟩ = some (.int .i64 z)) (hf : w.frozen? ⟨B, 12, none⟩ = false) :
    Calls Tryd.prog 15 #[.pointer (some ⟨B, 0, none⟩), .int .i64 36, .int .u64 0, .string ⟨#[]⟩] w fun e w' => e = .returned (.tuple #[]) ∧ w' = w.setCell ⟨B, 12, none⟩ (.int .i64 0) := by
  go_enter Tryd.func15, Tryd.ntmps15
  go_wp2
  go_end0
  exact ⟨rfl, rfl⟩
set_option maxRecDepth 100000 in
set_option maxHeartbeats 1000000 in
theorem put13 (b : Bool) (B : Nat) (w : World) (hc : w.cell? ⟨B, 13, none⟩ = some (.bool b)) (hf : w.frozen? ⟨B, 13, none⟩ = false) :
    Calls Tryd.prog 15 #[.pointer (some ⟨B, 0, none⟩), .int .i64 123, .int .u64 0, .string ⟨#[]⟩] w fun e w' => e = .returned (.tuple #[]) ∧ w' = w.setCell ⟨B, 13, none⟩ (.bool false) := by
  go_enter Tryd.func15, Tryd.ntmps15
  go_wp2
  go_end0
  exact ⟨rfl, rfl⟩
set_option maxRecDepth 100000 in
set_option maxHeartbeats 1000000 in
theorem put14 (z : Int) (B : Nat) (w : World) (hc : w.cell? ⟨B, 14, none⟩ = some (.int .i64 z)) (hf : w.frozen? ⟨B, 14, none⟩ = false) :
    Calls Tryd.prog 15 #[.pointer (some ⟨B, 0, none⟩), .int .i64 45, .int .u64 0, .string ⟨#[]⟩] w fun e w' => e = .returned (.tuple #[]) ∧ w' = w.setCell ⟨B, 14, none⟩ (.int .i64 0) := by
  go_enter Tryd.func15, Tryd.ntmps15
  go_wp2
  go_end0
  exact ⟨rfl, rfl⟩
set_option maxRecDepth 100000 in
set_option maxHeartbeats 1000000 in
theorem put15 (z : Int) (B : Nat) (w : World) (hc : w.cell? ⟨B, 15, none⟩ = some (.int .i64 z)) (hf : w.frozen? ⟨B, 15, none⟩ = false) :
    Calls Tryd.prog 15 #[.pointer (some ⟨B, 0, none⟩), .int .i64 372, .int .u64 0, .string ⟨#[]⟩] w fun e w' => e = .returned (.tuple #[]) ∧ w' = w.setCell ⟨B, 15, none⟩ (.int .i64 0) := by
  go_enter Tryd.func15, Tryd.ntmps15
  go_wp2
  go_end0
  exact ⟨rfl, rfl⟩
set_option maxRecDepth 100000 in
set_option maxHeartbeats 1000000 in
theorem put16 (z : Int) (B : Nat) (w : World) (hc : w.cell? ⟨B, 16, none⟩ = some (.int .i64 z)) (hf : w.frozen? ⟨B, 16, none⟩ = false) :
    Calls Tryd.prog 15 #[.pointer (some ⟨B, 0, none⟩), .int .i64 371, .int .u64 0, .string ⟨#[]⟩] w fun e w' => e = .returned (.tuple #[]) ∧ w' = w.setCell ⟨B, 16, none⟩ (.int .i64 0) := by
  go_enter Tryd.func15, Tryd.ntmps15
  go_wp2
  go_end0
  exact ⟨rfl, rfl⟩

end Go.Proofs.YtdlmaeieoiocdaaDoor
