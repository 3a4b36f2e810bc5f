import Derived.Test.YtchkpggdndnpjabGreatDoorG34

namespace Go.Proofs.YtchkpggdndnpjabGreatDoor
set_option linter.unusedVariables false
set_option linter.unusedSimpArgs false
open Go.RowKit Go.Great

set_option maxRecDepth 100000 in
set_option maxHeartbeats 1000000 in
theorem val12 (M : Msg) (w : World) : Calls Tryz.prog 47 #[.agg M.cs, .int .i64 36] w fun e w' => e = .returned (.tuple #[.int .i64 (M.z 12), .string ⟨#[]⟩]) ∧ Below w.heap.size w w' := by
  have HO := box_own M w
  go_enter Tryz.func47, Tryz.ntmps47
  go_upto_region 1 with fail
  generalize w.alloc (.cells M.cs 23) = w1 at *
  have c : w1.cell? ⟨w.heap.size, 12, none⟩ = some (.int .i64 (M.z 12)) := HO.out.1.cell 12 (by decide)
  generalize M.cs = CS at *
  go_wp2
  go_ret2
  exact ⟨rfl, HO.out.2⟩
set_option maxRecDepth 100000 in
set_option maxHeartbeats 1000000 in
theorem val13 (M : Msg) (w : World) : Calls Tryz.prog 47 #[.agg M.cs, .int .i64 123] w fun e w' => e = .returned (.tuple #[.int .i64 (trN (M.b 13)), .string ⟨#[]⟩]) ∧ Below w.heap.size w w' := by
  have HO := box_own M w
  go_enter Tryz.func47, Tryz.ntmps47
  go_upto_region 1 with fail
  generalize w.alloc (.cells M.cs 23) = w1 at *
  have c : w1.cell? ⟨w.heap.size, 13, none⟩ = some (.bool (M.b 13)) := HO.out.1.cell 13 (by decide)
  generalize M.cs = CS at *
  go_wp2_with (go_at_call 183; refine (truth_any _ _).mono ?_; rintro e w1 ⟨rfl, rfl⟩)
  go_ret2
  exact ⟨rfl, HO.out.2⟩
set_option maxRecDepth 100000 in
set_option maxHeartbeats 1000000 in
theorem val14 (M : Msg) (w : World) : Calls Tryz.prog 47 #[.agg M.cs, .int .i64 45] w fun e w' => e = .returned (.tuple #[.int .i64 (M.z 14), .string ⟨#[]⟩]) ∧ Below w.heap.size w w' := by
  have HO := box_own M w
  go_enter Tryz.func47, Tryz.ntmps47
  go_upto_region 1 with fail
  generalize w.alloc (.cells M.cs 23) = w1 at *
  have c : w1.cell? ⟨w.heap.size, 14, none⟩ = some (.int .i64 (M.z 14)) := HO.out.1.cell 14 (by decide)
  generalize M.cs = CS at *
  go_wp2
  go_ret2
  exact ⟨rfl, HO.out.2⟩
set_option maxRecDepth 100000 in
set_option maxHeartbeats 1000000 in
theorem val15 (M : Msg) (w : World) : Calls Tryz.prog 47 #[.agg M.cs, .int .i64 372] w fun e w' => e = .returned (.tuple #[.int .i64 (M.z 15), .string ⟨#[]⟩]) ∧ Below w.heap.size w w' := by
  have HO := box_own M w
  go_enter Tryz.func47, Tryz.ntmps47
  go_upto_region 1 with fail
  generalize w.alloc (.cells M.cs 23) = w1 at *
  have c : w1.cell? ⟨w.heap.size, 15, none⟩ = some (.int .i64 (M.z 15)) := HO.out.1.cell 15 (by decide)
  generalize M.cs = CS at *
  go_wp2
  go_ret2
  exact ⟨rfl, HO.out.2⟩
set_option maxRecDepth 100000 in
set_option maxHeartbeats 1000000 in
theorem val16 (M : Msg) (w : World) : Calls Tryz.prog 47 #[.agg M.cs, .int .i64 371] w fun e w' => e = .returned (.tuple #[.int .i64 (M.z 16), .string ⟨#[]⟩]) ∧ Below w.heap.size w w' := by
  have HO := box_own M w
  go_enter Tryz.func47, Tryz.ntmps47
  go_upto_region 1 with fail
  generalize w.alloc (.cells M.cs 23) = w1 at *
  have c : w1.cell? ⟨w.heap.size, 16, none⟩ = some (.int .i64 (M.z 16)) := HO.out.1.cell 16 (by decide)
  generalize M.cs = CS at *
  go_wp2
  go_ret2
  exact ⟨rfl, HO.out.2⟩
set_option maxRecDepth 100000 in
set_option maxHeartbeats 1000000 in
theorem val17 (M : Msg) (w : World) : Calls Tryz.prog 47 #[.agg M.cs, .int .i64 373] w fun e w' => e = .returned (.tuple #[.int .i64 (M.z 17), .string ⟨#[]⟩]) ∧ Below w.heap.size w w' := by
  have HO := box_own M w
  go_enter Tryz.func47, Tryz.ntmps47
  go_upto_region 1 with fail
  generalize w.alloc (.cells M.cs 23) = w1 at *
  have c : w1.cell? ⟨w.heap.size, 17, none⟩ = some (.int .i64 (M.z 17)) := HO.out.1.cell 17 (by decide)
  generalize M.cs = CS at *
  go_wp2
  go_ret2
  exact ⟨rfl, HO.out.2⟩
set_option maxRecDepth 100000 in
set_option maxHeartbeats 1000000 in
theorem val18 (M : Msg) (w : World) : Calls Tryz.prog 47 #[.agg M.cs, .int .i64 58] w fun e w' => e = .returned (.tuple #[.int .i64 0, .string (M.s 18)]) ∧ Below w.heap.size w w' := by
  have HO := box_own M w
  go_enter Tryz.func47, Tryz.ntmps47
  go_upto_region 1 with fail
  generalize w.alloc (.cells M.cs 23) = w1 at *
  have c : w1.cell? ⟨w.heap.size, 18, none⟩ = some (.string (M.s 18)) := HO.out.1.cell 18 (by decide)
  generalize M.cs = CS at *
  go_wp2
  go_quiet (fail)
  go_wp2
  go_ret2
  exact ⟨rfl, below_drewN HO.out.2 _⟩
set_option maxRecDepth 100000 in
set_option maxHeartbeats 1000000 in
theorem val19 (M : Msg) (w : World) : Calls Tryz.prog 47 #[.agg M.cs, .int .i64 11] w fun e w' => e = .returned (.tuple #[.int .i64 0, .string (M.s 19)]) ∧ Below w.heap.size w w' := by
  have HO := box_own M w
  go_enter Tryz.func47, Tryz.ntmps47
  go_upto_region 1 with fail
  generalize w.alloc (.cells M.cs 23) = w1 at *
  have c : w1.cell? ⟨w.heap.size, 19, none⟩ = some (.string (M.s 19)) := HO.out.1.cell 19 (by decide)
  generalize M.cs = CS at *
  go_wp2
  go_quiet (fail)
  go_wp2
  go_ret2
  exact ⟨rfl, below_drewN HO.out.2 _⟩
set_option maxRecDepth 100000 in
set_option maxHeartbeats 1000000 in
theorem val20 (M : Msg) (w : World) : Calls Tryz.prog 47 #[.agg M.cs, .int .i64 41] w fun e w' => e = .returned (.tuple #[.int .i64 0, .string (M.s 20)]) ∧ Below w.heap.size w w' := by
  have HO := box_own M w
  go_enter Tryz.func47, Tryz.ntmps47
  go_upto_region 1 with fail
  generalize w.alloc (.cells M.cs 23) = w1 at *
  have c : w1.cell? ⟨w.heap.size, 20, none⟩ = some (.string (M.s 20)) := HO.out.1.cell 20 (by decide)
  generalize M.cs = CS at *
  go_wp2
  go_quiet (fail)
  go_wp2
  go_ret2
  exact ⟨rfl, below_drewN HO.out.2 _⟩
set_option maxRecDepth 100000 in
set_option maxHeartbeats 1000000 in
theorem val21 (M : Msg) (w : World) : Calls Tryz.prog 47 #[.agg M.cs, .int .i64 1] w fun e w' => e = .returned (.tuple #[.int .i64 0, .string (M.s 21)]) ∧ Below w.heap.size w w' := by
  have HO := box_own M w
  go_enter Tryz.func47, Tryz.ntmps47
  go_upto_region 1 with fail
  generalize w.alloc (.cells M.cs 23) = w1 at *
  have c : w1.cell? ⟨w.heap.size, 21, none⟩ = some (.string (M.s 21)) := HO.out.1.cell 21 (by decide)
  generalize M.cs = CS at *
  go_wp2
  go_quiet (fail)
  go_wp2
  go_ret2
  exact ⟨rfl, below_drewN HO.out.2 _⟩
set_option maxRecDepth 100000 in
set_option maxHeartbeats 1000000 in
theorem val22 (M : Msg) (w : World) : Calls Tryz.prog 47 #[.agg M.cs, .int .i64 55] w fun e w' => e = .returned (.tuple #[.int .i64 0, .string (M.s 22)]) ∧ Below w.heap.size w w' := by
  have HO := box_own M w
  go_enter Tryz.func47, Tryz.ntmps47
  go_upto_region 1 with fail
  generalize w.alloc (.cells M.cs 23) = w1 at *
  have c : w1.cell? ⟨w.heap.size, 22, none⟩ = some (.string (M.s 22)) := HO.out.1.cell 22 (by decide)
  generalize M.cs = CS at *
  go_wp2
  go_quiet (fail)
  go_wp2
  go_ret2
  exact ⟨rfl, below_drewN HO.out.2 _⟩

end Go.Proofs.YtchkpggdndnpjabGreatDoor
