/-
  The reference of bin: Put, of what is made absent.
-/
import Derived.Test.YtdlmaeieoiocdaaDoorMsgUpd
namespace Go.Proofs.YtdlmaeieoiocdaaDoor
set_option linter.unusedVariables false
open Go.RowKit

set_option maxRecDepth 100000 in
set_option maxHeartbeats 1000000 in
theorem ord23 (z : Int) (B : Nat) (w : World) (hc : w.cell? ⟨B, 23, none⟩ = some (.int .i64 z)) (hf : w.frozen? ⟨B, 23, none⟩ = false) :
    Calls Tryd.prog 37 #[.pointer (some ⟨B, 0, none⟩), .int .i64 54, .int .i64 0, .int .i64 0] w fun e w' => e = .returned (.tuple #[]) ∧ w' = w.setCell ⟨B, 23, none⟩ (.int .i64 0) := by
  go_enter Tryd.func37, Tryd.ntmps37
  go_wp2
  go_end0
  exact ⟨rfl, rfl⟩
set_option maxRecDepth 100000 in
set_option maxHeartbeats 1000000 in
theorem put23 (z : Int) (B : Nat) (w : World) (hc : w.cell? ⟨B, 23, none⟩ = some (.int .i64 z)) (hf : w.frozen? ⟨B, 23, none⟩ = false) :
    Calls Tryd.prog 15 #[.pointer (some ⟨B, 0, none⟩), .int .i64 54, .int .u64 0, .string ⟨#[]⟩] w fun e w' => e = .returned (.tuple #[]) ∧ w' = w.setCell ⟨B, 23, none⟩ (.int .i64 0) := by
  have ho := ord23 _ B w hc hf
  go_enter Tryd.func15, Tryd.ntmps15
  go_wp2_with (go_at_call 37; refine ho.mono ?_; rintro e w' ⟨rfl, rfl⟩)
  go_end0
  exact ⟨rfl, rfl⟩
set_option maxRecDepth 100000 in
set_option maxHeartbeats 1000000 in
theorem ord32 (z : Int) (B : Nat) (w : World) (hc : w.cell? ⟨B, 32, none⟩ = some (.int .i64 z)) (hf : w.frozen? ⟨B, 32, none⟩ = false) :
    Calls Tryd.prog 37 #[.pointer (some ⟨B, 0, none⟩), .int .i64 37, .int .i64 0, .int .i64 0] w fun e w' => e = .returned (.tuple #[]) ∧ w' = w.setCell ⟨B, 32, none⟩ (.int .i64 0) := by
  go_enter Tryd.func37, Tryd.ntmps37
  go_wp2
  go_end0
  exact ⟨rfl, rfl⟩
set_option maxRecDepth 100000 in
set_option maxHeartbeats 1000000 in
theorem put32 (z : Int) (B : Nat) (w : World) (hc : w.cell? ⟨B, 32, none⟩ = some (.int .i64 z)) (hf : w.frozen? ⟨B, 32, none⟩ = false) :
    Calls Tryd.prog 15 #[.pointer (some ⟨B, 0, none⟩), .int .i64 37, .int .u64 0, .string ⟨#[]⟩] w fun e w' => e = .returned (.tuple #[]) ∧ w' = w.setCell ⟨B, 32, none⟩ (.int .i64 0) := by
  have ho := ord32 _ B w hc hf
  go_enter Tryd.func15, Tryd.ntmps15
  go_wp2_with (go_at_call 37; refine ho.mono ?_; rintro e w' ⟨rfl, rfl⟩)
  go_end0
  exact ⟨rfl, rfl⟩
set_option maxRecDepth 100000 in
set_option maxHeartbeats 1000000 in
theorem ord33 (z : Int) (B : Nat) (w : World) (hc : w.cell? ⟨B, 33, none⟩ = some (.int .i64 z)) (hf : w.frozen? ⟨B, 33, none⟩ = false) :
    Calls Tryd.prog 37 #[.pointer (some ⟨B, 0, none⟩), .int .i64 17, .int .i64 0, .int .i64 0] w fun e w' => e = .returned (.tuple #[]) ∧ w' = w.setCell ⟨B, 33, none⟩ (.int .i64 0) := by
  go_enter Tryd.func37, Tryd.ntmps37
  go_wp2
  go_end0
  exact ⟨rfl, rfl⟩
set_option maxRecDepth 100000 in
set_option maxHeartbeats 1000000 in
theorem put33 (z : Int) (B : Nat) (w : World) (hc : w.cell? ⟨B, 33, none⟩ = some (.int .i64 z)) (hf : w.frozen? ⟨B, 33, none⟩ = false) :
    Calls Tryd.prog 15 #[.pointer (some ⟨B, 0, none⟩), .int .i64 17, .int .u64 0, .string ⟨#[]⟩] w fun e w' => e = .returned (.tuple #[]) ∧ w' = w.setCell ⟨B, 33, none⟩ (.int .i64 0) := by
  have ho := ord33 _ B w hc hf
  go_enter Tryd.func15, Tryd.ntmps15
  go_wp2_with (go_at_call 37; refine ho.mono ?_; rintro e w' ⟨rfl, rfl⟩)
  go_end0
  exact ⟨rfl, rfl⟩
set_option maxRecDepth 100000 in
set_option maxHeartbeats 1000000 in
theorem ord35 (z : Int) (B : Nat) (w : World) (hc : w.cell? ⟨B, 35, none⟩ = some (.int .i64 z)) (hf : w.frozen? ⟨B, 35, none⟩ = false) :
    Calls Tryd.prog 37 #[.pointer (some ⟨B, 0, none⟩), .int .i64 39, .int .i64 0, .int .i64 0] w fun e w' => e = .returned (.tuple #[]) ∧ w' = w.setCell ⟨B, 35, none⟩ (.int .i64 0) := by
  go_enter Tryd.func37, Tryd.ntmps37
  go_wp2
  go_end0
  exact ⟨rfl, rfl⟩
set_option maxRecDepth 100000 in
set_option maxHeartbeats 1000000 in
theorem put35 (z : Int) (B : Nat) (w : World) (hc : w.cell? ⟨B, 35, none⟩ = some (.int .i64 z)) (hf : w.frozen? ⟨B, 35, none⟩ = false) :
    Calls Tryd.prog 15 #[.pointer (some ⟨B, 0, none⟩), .int .i64 39, .int .u64 0, .string ⟨#[]⟩] w fun e w' => e = .returned (.tuple #[]) ∧ w' = w.setCell ⟨B, 35, none⟩ (.int .i64 0) := by
  have ho := ord35 _ B w hc hf
  go_enter Tryd.func15, Tryd.ntmps15
  go_wp2_with (go_at_call 37; refine ho.mono ?_; rintro e w' ⟨rfl, rfl⟩)
  go_end0
  exact ⟨rfl, rfl⟩
set_option maxRecDepth 100000 in
set_option maxHeartbeats 1000000 in
theorem ord40 (z : Int) (B : Nat) (w : World) (hc : w.cell? ⟨B, 40, none⟩ = some (.int .i64 z)) (hf : w.frozen? ⟨B, 40, none⟩ = false) :
    Calls Tryd.prog 37 #[.pointer (some ⟨B, 0, none⟩), .int .i64 326, .int .i64 0, .int .i64 0] w fun e w' => e = .returned (.tuple #[]) ∧ w' = w.setCell ⟨B, 40, none⟩ (.int .i64 0) := by
  go_enter Tryd.func37, Tryd.ntmps37
  go_wp2
  go_end0
  exact ⟨rfl, rfl⟩
set_option maxRecDepth 100000 in
set_option maxHeartbeats 1000000 in
theorem put40 (z : Int) (B : Nat) (w : World) (hc : w.cell? ⟨B, 40, none⟩ = some (.int .i64 z)) (hf : w.frozen? ⟨B, 40, none⟩ = false) :
    Calls Tryd.prog 15 #[.pointer (some ⟨B, 0, none⟩), .int .i64 326, .int .u64 0, .string ⟨#[]⟩] w fun e w' => e = .returned (.tuple #[]) ∧ w' = w.setCell ⟨B, 40, none⟩ (.int .i64 0) := by
  have ho := ord40 _ B w hc hf
  go_enter Tryd.func15, Tryd.ntmps15
  go_wp2_with (go_at_call 37; refine ho.mono ?_; rintro e w' ⟨rfl, rfl⟩)
  go_end0
  exact ⟨rfl, rfl⟩
set_option maxRecDepth 100000 in
set_option maxHeartbeats 1000000 in
theorem ord41 (z : Int) (B : Nat) (w : World) (hc : w.cell? ⟨B, 41, none⟩ = some (.int .i64 z)) (hf : w.frozen? ⟨B, 41, none⟩ = false) :
    Calls Tryd.prog 37 #[.pointer (some ⟨B, 0, none⟩), .int .i64 533, .int .i64 0, .int .i64 0] w fun e w' => e = .returned (.tuple #[]) ∧ w' = w.setCell ⟨B, 41, none⟩ (.int .i64 0) := by
  go_enter Tryd.func37, Tryd.ntmps37
  go_wp2
  go_end0
  exact ⟨rfl, rfl⟩
set_option maxRecDepth 100000 in
set_option maxHeartbeats 1000000 in
theorem put41 (z : Int) (B : Nat) (w : World) (hc : w.cell? ⟨B, 41, none⟩ = some (.int .i64 z)) (hf : w.frozen? ⟨B, 41, none⟩ = false) :
    Calls Tryd.prog 15 #[.pointer (some ⟨B, 0, none⟩), .int .i64 533, .int .u64 0, .string ⟨#[]⟩] w fun e w' => e = .returned (.tuple #[]) ∧ w' = w.setCell ⟨B, 41, none⟩ (.int .i64 0) := by
  have ho := ord41 _ B w hc hf
  go_enter Tryd.func15, Tryd.ntmps15
  go_wp2_with (go_at_call 37; refine ho.mono ?_; rintro e w' ⟨rfl, rfl⟩)
  go_end0
  exact ⟨rfl, rfl⟩

end Go.Proofs.YtdlmaeieoiocdaaDoor
