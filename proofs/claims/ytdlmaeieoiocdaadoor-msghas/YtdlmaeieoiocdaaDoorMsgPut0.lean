/-
  The reference of bin: Put, of what is made absent.
-/
import Derived.Test.YtdlmaeieoiocdaaDoorMsgUpd
namespace Go.Proofs.YtdlmaeieoiocdaaDoor
set_option linter.unusedVariables false
open Go.RowKit

set_option maxRecDepth 100000 in
set_option maxHeartbeats 1000000 in
theorem put1 (s : ByteArray) (B : Nat) (w : World) (hc : w.cell? ⟨B, 1, none⟩ = some (.string s)) (hf : w.frozen? ⟨B, 1, none⟩ = false) :
    Calls Tryd.prog 15 #[.pointer (some ⟨B, 0, none⟩), .int .i64 49, .int .u64 0, .string ⟨#[]⟩] w fun e w' => e = .returned (.tuple #[]) ∧ w' = w.setCell ⟨B, 1, none⟩ (.string ⟨#[]⟩) := by
  go_enter Tryd.func15, Tryd.ntmps15
  go_wp2
  go_end0
  exact ⟨rfl, rfl⟩
set_option maxRecDepth 100000 in
set_option maxHeartbeats 1000000 in
theorem put2 (s : ByteArray) (B : Nat) (w : World) (hc : w.cell? ⟨B, 2, none⟩ = some (.string s)) (hf : w.frozen? ⟨B, 2, none⟩ = false) :
    Calls Tryd.prog 15 #[.pointer (some ⟨B, 0, none⟩), .int .i64 56, .int .u64 0, .string ⟨#[]⟩] w fun e w' => e = .returned (.tuple #[]) ∧ w' = w.setCell ⟨B, 2, none⟩ (.string ⟨#[]⟩) := by
  go_enter Tryd.func15, Tryd.ntmps15
  go_wp2
  go_end0
  exact ⟨rfl, rfl⟩
set_option maxRecDepth 100000 in
set_option maxHeartbeats 1000000 in
theorem put3 (z : Int) (B : Nat) (w : World) (hc : w.cell? ⟨B, 3, none⟩ = some (.int .i64 z)) (hf : w.frozen? ⟨B, 3, none⟩ = false) :
    Calls Tryd.prog 15 #[.pointer (some ⟨B, 0, none⟩), .int .i64 34, .int .u64 0, .string ⟨#[]⟩] w fun e w' => e = .returned (.tuple #[]) ∧ w' = w.setCell ⟨B, 3, none⟩ (.int .i64 0) := by
  go_enter Tryd.func15, Tryd.ntmps15
  go_wp2
  go_end0
  exact ⟨rfl, rfl⟩
set_option maxRecDepth 100000 in
set_option maxHeartbeats 1000000 in
theorem put5 (z : Int) (B : Nat) (w : World) (hc : w.cell? ⟨B, 5, none⟩ = some (.int .i64 z)) (hf : w.frozen? ⟨B, 5, none⟩ = false) :
    Calls Tryd.prog 15 #[.pointer (some ⟨B, 0, none⟩), .int .i64 52, .int .u64 0, .string ⟨#[]⟩] w fun e w' => e = .returned (.tuple #[]) ∧ w' = w.setCell ⟨B, 5, none⟩ (.int .i64 0) := by
  go_enter Tryd.func15, Tryd.ntmps15
  go_wp2
  go_end0
  exact ⟨rfl, rfl⟩
set_option maxRecDepth 100000 in
set_option maxHeartbeats 1000000 in
theorem put7 (z : Int) (B : Nat) (w : World) (hc : w.cell? ⟨B, 7, none⟩ = some (.int .i64 z)) (hf : w.frozen? ⟨B, 7, none⟩ = false) :
    Calls Tryd.prog 15 #[.pointer (some ⟨B, 0, none⟩), .int .i64 108, .int .u64 0, .string ⟨#[]⟩] w fun e w' => e = .returned (.tuple #[]) ∧ w' = w.setCell ⟨B, 7, none⟩ (.int .i64 0) := by
  go_enter Tryd.func15, Tryd.ntmps15
  go_wp2
  go_end0
  exact ⟨rfl, rfl⟩
set_option maxRecDepth 100000 in
set_option maxHeartbeats 1000000 in
theorem put8 (b : Bool) (B : Nat) (w : World) (hc : w.cell? ⟨B, 8, none⟩ = some (.bool b)) (hf : w.frozen? ⟨B, 8, none⟩ = false) :
    Calls Tryd.prog 15 #[.pointer (some ⟨B, 0, none⟩), .int .i64 141, .int .u64 0, .string ⟨#[]⟩] w fun e w' => e = .returned (.tuple #[]) ∧ w' = w.setCell ⟨B, 8, none⟩ (.bool false) := by
  go_enter Tryd.func15, Tryd.ntmps15
  go_wp2
  go_end0
  exact ⟨rfl, rfl⟩
set_option maxRecDepth 100000 in
set_option maxHeartbeats 1000000 in
theorem put9 (s : ByteArray) (B : Nat) (w : World) (hc : w.cell? ⟨B, 9, none⟩ = some (.string s)) (hf : w.frozen? ⟨B, 9, none⟩ = false) :
    Calls Tryd.prog 15 #[.pointer (some ⟨B, 0, none⟩), .int .i64 112, .int .u64 0, .string ⟨#[]⟩] w fun e w' => e = .returned (.tuple #[]) ∧ w' = w.setCell ⟨B, 9, none⟩ (.string ⟨#[]⟩) := by
  go_enter Tryd.func15, Tryd.ntmps15
  go_wp2
  go_end0
  exact ⟨rfl, rfl⟩

end Go.Proofs.YtdlmaeieoiocdaaDoor
