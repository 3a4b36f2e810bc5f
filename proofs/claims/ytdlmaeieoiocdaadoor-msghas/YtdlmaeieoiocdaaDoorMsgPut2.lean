/-
  The reference of bin: Put, of what is made absent.
-/
import Derived.Test.YtdlmaeieoiocdaaDoorMsgUpd
namespace Go.Proofs.YtdlmaeieoiocdaaDoor
set_option linter.unusedVariables false
open Go.RowKit

set_option maxRecDepth 100000 in
set_option maxHeartbeats 1000000 in
theorem put17 (z : Int) (B : Nat) (w : World) (hc : w.cell? ⟨B, 17, none⟩ = some (.int .i64 z)) (hf : w.frozen? ⟨B, 17, none⟩ = false) :
    Calls Tryd.prog 15 #[.pointer (some ⟨B, 0, none⟩), .int .i64 373, .int .u64 0, .string ⟨#[]⟩] w fun e w' => e = .returned (.tuple #[]) ∧ w' = w.setCell ⟨B, 17, none⟩ (.int .i64 0) := by
  go_enter Tryd.func15, Tryd.ntmps15
  go_wp2
  go_end0
  exact ⟨rfl, rfl⟩
set_option maxRecDepth 100000 in
set_option maxHeartbeats 1000000 in
theorem put18 (s : ByteArray) (B : Nat) (w : World) (hc : w.cell? ⟨B, 18, none⟩ = some (.string s)) (hf : w.frozen? ⟨B, 18, none⟩ = false) :
    Calls Tryd.prog 15 #[.pointer (some ⟨B, 0, none⟩), .int .i64 58, .int .u64 0, .string ⟨#[]⟩] w fun e w' => e = .returned (.tuple #[]) ∧ w' = w.setCell ⟨B, 18, none⟩ (.string ⟨#[]⟩) := by
  go_enter Tryd.func15, Tryd.ntmps15
  go_wp2
  go_end0
  exact ⟨rfl, rfl⟩
set_option maxRecDepth 100000 in
set_option maxHeartbeats 1000000 in
theorem put19 (s : ByteArray) (B : Nat) (w : World) (hc : w.cell? ⟨B, 19, none⟩ = some (.string s)) (hf : w.frozen? ⟨B, 19, none⟩ = false) :
    Calls Tryd.prog 15 #[.pointer (some ⟨B, 0, none⟩), .int .i64 11, .int .u64 0, .string ⟨#[]⟩] w fun e w' => e = .returned (.tuple #[]) ∧ w' = w.setCell ⟨B, 19, none⟩ (.string ⟨#[]⟩) := by
  go_enter Tryd.func15, Tryd.ntmps15
  go_wp2
  go_end0
  exact ⟨rfl, rfl⟩
set_option maxRecDepth 100000 in
set_option maxHeartbeats 1000000 in
theorem put20 (s : ByteArray) (B : Nat) (w : World) (hc : w.cell? ⟨B, 20, none⟩ = some (.string s)) (hf : w.frozen? ⟨B, 20, none⟩ = false) :
    Calls Tryd.prog 15 #[.pointer (some ⟨B, 0, none⟩), .int .i64 41, .int .u64 0, .string ⟨#[]⟩] w fun e w' => e = .returned (.tuple #[]) ∧ w' = w.setCell ⟨B, 20, none⟩ (.string ⟨#[]⟩) := by
  go_enter Tryd.func15, Tryd.ntmps15
  go_wp2
  go_end0
  exact ⟨rfl, rfl⟩
set_option maxRecDepth 100000 in
set_option maxHeartbeats 1000000 in
theorem put21 (s : ByteArray) (B : Nat) (w : World) (hc : w.cell? ⟨B, 21, none⟩ = some (.string s)) (hf : w.frozen? ⟨B, 21, none⟩ = false) :
    Calls Tryd.prog 15 #[.pointer (some ⟨B, 0, none⟩), .int .i64 1, .int .u64 0, .string ⟨#[]⟩] w fun e w' => e = .returned (.tuple #[]) ∧ w' = w.setCell ⟨B, 21, none⟩ (.string ⟨#[]⟩) := by
  go_enter Tryd.func15, Tryd.ntmps15
  go_wp2
  go_end0
  exact ⟨rfl, rfl⟩
set_option maxRecDepth 100000 in
set_option maxHeartbeats 1000000 in
theorem put22 (s : ByteArray) (B : Nat) (w : World) (hc : w.cell? ⟨B, 22, none⟩ = some (.string s)) (hf : w.frozen? ⟨B, 22, none⟩ = false) :
    Calls Tryd.prog 15 #[.pointer (some ⟨B, 0, none⟩), .int .i64 55, .int .u64 0, .string ⟨#[]⟩] w fun e w' => e = .returned (.tuple #[]) ∧ w' = w.setCell ⟨B, 22, none⟩ (.string ⟨#[]⟩) := by
  go_enter Tryd.func15, Tryd.ntmps15
  go_wp2
  go_end0
  exact ⟨rfl, rfl⟩

end Go.Proofs.YtdlmaeieoiocdaaDoor
