/-
  The reference of msg: what stands in a field.
-/
import Derived.Test.YtdlmaeieoiocdabDoorMsgValB
namespace Go.Proofs.YtdlmaeieoiocdabDoor
set_option linter.unusedVariables false
set_option linter.unusedSimpArgs false
open Go.RowKit Go.Great

set_option maxRecDepth 100000 in
set_option maxHeartbeats 1000000 in
theorem val0 (M : Msg) (w : World) : Calls Tryd.prog 13 #[.agg M.cs, .int .i64 35] w fun e w' => e = .returned (.tuple #[.int .i64 (M.z 0), .string ⟨#[]⟩]) ∧ Below w.heap.size w w' := by
  have HO := box_own M w
  go_enter Tryd.func13, Tryd.ntmps13
  go_upto_region 1 with fail
  generalize w.alloc (.cells M.cs 23) = w1 at *
  have c : w1.cell? ⟨w.heap.size, 0, none⟩ = some (.int .i64 (M.z 0)) := HO.out.1.cell 0 (by decide)
  generalize M.cs = CS at *
  go_wp2
  go_ret2
  exact ⟨rfl, HO.out.2⟩
set_option maxRecDepth 100000 in
set_option maxHeartbeats 1000000 in
theorem val1 (M : Msg) (w : World) : Calls Tryd.prog 13 #[.agg M.cs, .int .i64 49] w fun e w' => e = .returned (.tuple #[.int .i64 0, .string (M.s 1)]) ∧ Below w.heap.size w w' := by
  have HO := box_own M w
  go_enter Tryd.func13, Tryd.ntmps13
  go_upto_region 1 with fail
  generalize w.alloc (.cells M.cs 23) = w1 at *
  have c : w1.cell? ⟨w.heap.size, 1, none⟩ = some (.string (M.s 1)) := HO.out.1.cell 1 (by decide)
  generalize M.cs = CS at *
  go_wp2
  go_quiet (fail)
  go_wp2
  go_ret2
  exact ⟨rfl, below_drewN HO.out.2 _⟩
set_option maxRecDepth 100000 in
set_option maxHeartbeats 1000000 in
theorem val2 (M : Msg) (w : World) : Calls Tryd.prog 13 #[.agg M.cs, .int .i64 56] w fun e w' => e = .returned (.tuple #[.int .i64 0, .string (M.s 2)]) ∧ Below w.heap.size w w' := by
  have HO := box_own M w
  go_enter Tryd.func13, Tryd.ntmps13
  go_upto_region 1 with fail
  generalize w.alloc (.cells M.cs 23) = w1 at *
  have c : w1.cell? ⟨w.heap.size, 2, none⟩ = some (.string (M.s 2)) := HO.out.1.cell 2 (by decide)
  generalize M.cs = CS at *
  go_wp2
  go_quiet (fail)
  go_wp2
  go_ret2
  exact ⟨rfl, below_drewN HO.out.2 _⟩
set_option maxRecDepth 100000 in
set_option maxHeartbeats 1000000 in
theorem val3 (M : Msg) (w : World) : Calls Tryd.prog 13 #[.agg M.cs, .int .i64 34] w fun e w' => e = .returned (.tuple #[.int .i64 (M.z 3), .string ⟨#[]⟩]) ∧ Below w.heap.size w w' := by
  have HO := box_own M w
  go_enter Tryd.func13, Tryd.ntmps13
  go_upto_region 1 with fail
  generalize w.alloc (.cells M.cs 23) = w1 at *
  have c : w1.cell? ⟨w.heap.size, 3, none⟩ = some (.int .i64 (M.z 3)) := HO.out.1.cell 3 (by decide)
  generalize M.cs = CS at *
  go_wp2
  go_ret2
  exact ⟨rfl, HO.out.2⟩
set_option maxRecDepth 100000 in
set_option maxHeartbeats 1000000 in
theorem val4 (M : Msg) (w : World) : Calls Tryd.prog 13 #[.agg M.cs, .int .i64 43] w fun e w' => e = .returned (.tuple #[.int .i64 (trN (M.b 4)), .string ⟨#[]⟩]) ∧ Below w.heap.size w w' := by
  have HO := box_own M w
  go_enter Tryd.func13, Tryd.ntmps13
  go_upto_region 1 with fail
  generalize w.alloc (.cells M.cs 23) = w1 at *
  have c : w1.cell? ⟨w.heap.size, 4, none⟩ = some (.bool (M.b 4)) := HO.out.1.cell 4 (by decide)
  generalize M.cs = CS at *
  go_wp2_with (go_at_call 73; refine (truth_any _ _).mono ?_; rintro e w1 ⟨rfl, rfl⟩)
  go_ret2
  exact ⟨rfl, HO.out.2⟩
set_option maxRecDepth 100000 in
set_option maxHeartbeats 1000000 in
theorem val5 (M : Msg) (w : World) : Calls Tryd.prog 13 #[.agg M.cs, .int .i64 52] w fun e w' => e = .returned (.tuple #[.int .i64 (M.z 5), .string ⟨#[]⟩]) ∧ Below w.heap.size w w' := by
  have HO := box_own M w
  go_enter Tryd.func13, Tryd.ntmps13
  go_upto_region 1 with fail
  generalize w.alloc (.cells M.cs 23) = w1 at *
  have c : w1.cell? ⟨w.heap.size, 5, none⟩ = some (.int .i64 (M.z 5)) := HO.out.1.cell 5 (by decide)
  generalize M.cs = CS at *
  go_wp2
  go_ret2
  exact ⟨rfl, HO.out.2⟩
set_option maxRecDepth 100000 in
set_option maxHeartbeats 1000000 in
theorem val6 (M : Msg) (w : World) : Calls Tryd.prog 13 #[.agg M.cs, .int .i64 122] w fun e w' => e = .returned (.tuple #[.int .i64 (M.z 6), .string ⟨#[]⟩]) ∧ Below w.heap.size w w' := by
  have HO := box_own M w
  go_enter Tryd.func13, Tryd.ntmps13
  go_upto_region 1 with fail
  generalize w.alloc (.cells M.cs 23) = w1 at *
  have c : w1.cell? ⟨w.heap.size, 6, none⟩ = some (.int .i64 (M.z 6)) := HO.out.1.cell 6 (by decide)
  generalize M.cs = CS at *
  go_wp2
  go_ret2
  exact ⟨rfl, HO.out.2⟩
set_option maxRecDepth 100000 in
set_option maxHeartbeats 1000000 in
theorem val7 (M : Msg) (w : World) : Calls Tryd.prog 13 #[.agg M.cs, .int .i64 108] w fun e w' => e = .returned (.tuple #[.int .i64 (M.z 7), .string ⟨#[]⟩]) ∧ Below w.heap.size w w' := by
  have HO := box_own M w
  go_enter Tryd.func13, Tryd.ntmps13
  go_upto_region 1 with fail
  generalize w.alloc (.cells M.cs 23) = w1 at *
  have c : w1.cell? ⟨w.heap.size, 7, none⟩ = some (.int .i64 (M.z 7)) := HO.out.1.cell 7 (by decide)
  generalize M.cs = CS at *
  go_wp2
  go_ret2
  exact ⟨rfl, HO.out.2⟩
set_option maxRecDepth 100000 in
set_option maxHeartbeats 1000000 in
theorem val8 (M : Msg) (w : World) : Calls Tryd.prog 13 #[.agg M.cs, .int .i64 141] w fun e w' => e = .returned (.tuple #[.int .i64 (trN (M.b 8)), .string ⟨#[]⟩]) ∧ Below w.heap.size w w' := by
  have HO := box_own M w
  go_enter Tryd.func13, Tryd.ntmps13
  go_upto_region 1 with fail
  generalize w.alloc (.cells M.cs 23) = w1 at *
  have c : w1.cell? ⟨w.heap.size, 8, none⟩ = some (.bool (M.b 8)) := HO.out.1.cell 8 (by decide)
  generalize M.cs = CS at *
  go_wp2_with (go_at_call 73; refine (truth_any _ _).mono ?_; rintro e w1 ⟨rfl, rfl⟩)
  go_ret2
  exact ⟨rfl, HO.out.2⟩
set_option maxRecDepth 100000 in
set_option maxHeartbeats 1000000 in
theorem val9 (M : Msg) (w : World) : Calls Tryd.prog 13 #[.agg M.cs, .int .i64 112] w fun e w' => e = .returned (.tuple #[.int .i64 0, .string (M.s 9)]) ∧ Below w.heap.size w w' := by
  have HO := box_own M w
  go_enter Tryd.func13, Tryd.ntmps13
  go_upto_region 1 with fail
  generalize w.alloc (.cells M.cs 23) = w1 at *
  have c : w1.cell? ⟨w.heap.size, 9, none⟩ = some (.string (M.s 9)) := HO.out.1.cell 9 (by decide)
  generalize M.cs = CS at *
  go_wp2
  go_quiet (fail)
  go_wp2
  go_ret2
  exact ⟨rfl, below_drewN HO.out.2 _⟩
set_option maxRecDepth 100000 in
set_option maxHeartbeats 1000000 in
theorem val10 (M : Msg) (w : World) : Calls Tryd.prog 13 #[.agg M.cs, .int .i64 7] w fun e w' => e = .returned (.tuple #[.int .i64 (M.z 10), .string ⟨#[]⟩]) ∧ Below w.heap.size w w' := by
  have HO := box_own M w
  go_enter Tryd.func13, Tryd.ntmps13
  go_upto_region 1 with fail
  generalize w.alloc (.cells M.cs 23) = w1 at *
  have c : w1.cell? ⟨w.heap.size, 10, none⟩ = some (.int .i64 (M.z 10)) := HO.out.1.cell 10 (by decide)
  generalize M.cs = CS at *
  go_wp2
  go_ret2
  exact ⟨rfl, HO.out.2⟩
set_option maxRecDepth 100000 in
set_option maxHeartbeats 1000000 in
theorem val11 (M : Msg) (w : World) : Calls Tryd.prog 13 #[.agg M.cs, .int .i64 16] w fun e w' => e = .returned (.tuple #[.int .i64 (M.z 11), .string ⟨#[]⟩]) ∧ Below w.heap.size w w' := by
  have HO := box_own M w
  go_enter Tryd.func13, Tryd.ntmps13
  go_upto_region 1 with fail
  generalize w.alloc (.cells M.cs 23) = w1 at *
  have c : w1.cell? ⟨w.heap.size, 11, none⟩ = some (.int .i64 (M.z 11)) := HO.out.1.cell 11 (by decide)
  generalize M.cs = CS at *
  go_wp2
  go_ret2
  exact ⟨rfl, HO.out.2⟩

end Go.Proofs.YtdlmaeieoiocdabDoor
