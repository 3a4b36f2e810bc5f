import Derived.Test.YtchkpggdndnpjabGreatDoorG34

namespace Go.Proofs.YtchkpggdndnpjabGreatDoor
set_option linter.unusedVariables false
set_option linter.unusedSimpArgs false
open Go.RowKit Go.Great

set_option maxRecDepth 100000 in
set_option maxHeartbeats 1000000 in
theorem ordv23 (M : Msg) (w : World) : Calls Tryz.prog 184 #[.agg M.cs, .int .i64 54] w fun e w' => e = .returned (.int .i64 (M.z 23)) ∧ Below w.heap.size w w' := by
  have HO := box_own M w
  go_enter Tryz.func184, Tryz.ntmps184
  go_upto_region 1 with fail
  generalize w.alloc (.cells M.cs 23) = w1 at *
  have c : w1.cell? ⟨w.heap.size, 23, none⟩ = some (.int .i64 (M.z 23)) := HO.out.1.cell 23 (by decide)
  generalize M.cs = CS at *
  go_wp2
  go_ret
  exact ⟨rfl, HO.out.2⟩
set_option maxRecDepth 100000 in
set_option maxHeartbeats 1000000 in
theorem val23 (M : Msg) (w : World) : Calls Tryz.prog 47 #[.agg M.cs, .int .i64 54] w fun e w' => e = .returned (.tuple #[.int .i64 (M.z 23), .string ⟨#[]⟩]) ∧ Below w.heap.size w w' := by
  have HO := box_own M w
  go_enter Tryz.func47, Tryz.ntmps47
  go_upto_region 1 with fail
  generalize w.alloc (.cells M.cs 23) = w1 at *
  go_upto_region 48 with fail
  refine wp_region_lit ?_
  refine wpList_loadM HO.out.1 (.tmp 2) rfl rfl rfl ?_
  simp only [Act.put, List.setIfInBounds_toArray, List.set_cons_zero, List.set_cons_succ]
  go_wp2_with (go_at_call 184; fail)
  refine (ordv23 M w1).mono ?_
  rintro e w2 ⟨rfl, hb⟩
  go_wp2
  go_ret2
  exact ⟨rfl, HO.out.2.trans (hb.mono HO.out.2.size)⟩
set_option maxRecDepth 100000 in
set_option maxHeartbeats 1000000 in
theorem ordv24 (M : Msg) (w : World) : Calls Tryz.prog 184 #[.agg M.cs, .int .i64 40] w fun e w' => e = .returned (.int .i64 (M.z 24)) ∧ Below w.heap.size w w' := by
  have HO := box_own M w
  go_enter Tryz.func184, Tryz.ntmps184
  go_upto_region 1 with fail
  generalize w.alloc (.cells M.cs 23) = w1 at *
  have c : w1.cell? ⟨w.heap.size, 24, none⟩ = some (.int .i64 (M.z 24)) := HO.out.1.cell 24 (by decide)
  generalize M.cs = CS at *
  go_wp2
  go_ret
  exact ⟨rfl, HO.out.2⟩
set_option maxRecDepth 100000 in
set_option maxHeartbeats 1000000 in
theorem val24 (M : Msg) (w : World) : Calls Tryz.prog 47 #[.agg M.cs, .int .i64 40] w fun e w' => e = .returned (.tuple #[.int .i64 (M.z 24), .string ⟨#[]⟩]) ∧ Below w.heap.size w w' := by
  have HO := box_own M w
  go_enter Tryz.func47, Tryz.ntmps47
  go_upto_region 1 with fail
  generalize w.alloc (.cells M.cs 23) = w1 at *
  go_upto_region 48 with fail
  refine wp_region_lit ?_
  refine wpList_loadM HO.out.1 (.tmp 2) rfl rfl rfl ?_
  simp only [Act.put, List.setIfInBounds_toArray, List.set_cons_zero, List.set_cons_succ]
  go_wp2_with (go_at_call 184; fail)
  refine (ordv24 M w1).mono ?_
  rintro e w2 ⟨rfl, hb⟩
  go_wp2
  go_ret2
  exact ⟨rfl, HO.out.2.trans (hb.mono HO.out.2.size)⟩
set_option maxRecDepth 100000 in
set_option maxHeartbeats 1000000 in
theorem ordv25 (M : Msg) (w : World) : Calls Tryz.prog 184 #[.agg M.cs, .int .i64 59] w fun e w' => e = .returned (.int .i64 (M.z 25)) ∧ Below w.heap.size w w' := by
  have HO := box_own M w
  go_enter Tryz.func184, Tryz.ntmps184
  go_upto_region 1 with fail
  generalize w.alloc (.cells M.cs 23) = w1 at *
  have c : w1.cell? ⟨w.heap.size, 25, none⟩ = some (.int .i64 (M.z 25)) := HO.out.1.cell 25 (by decide)
  generalize M.cs = CS at *
  go_wp2
  go_ret
  exact ⟨rfl, HO.out.2⟩
set_option maxRecDepth 100000 in
set_option maxHeartbeats 1000000 in
theorem val25 (M : Msg) (w : World) : Calls Tryz.prog 47 #[.agg M.cs, .int .i64 59] w fun e w' => e = .returned (.tuple #[.int .i64 (M.z 25), .string ⟨#[]⟩]) ∧ Below w.heap.size w w' := by
  have HO := box_own M w
  go_enter Tryz.func47, Tryz.ntmps47
  go_upto_region 1 with fail
  generalize w.alloc (.cells M.cs 23) = w1 at *
  go_upto_region 48 with fail
  refine wp_region_lit ?_
  refine wpList_loadM HO.out.1 (.tmp 2) rfl rfl rfl ?_
  simp only [Act.put, List.setIfInBounds_toArray, List.set_cons_zero, List.set_cons_succ]
  go_wp2_with (go_at_call 184; fail)
  refine (ordv25 M w1).mono ?_
  rintro e w2 ⟨rfl, hb⟩
  go_wp2
  go_ret2
  exact ⟨rfl, HO.out.2.trans (hb.mono HO.out.2.size)⟩
set_option maxRecDepth 100000 in
set_option maxHeartbeats 1000000 in
theorem ordv26 (M : Msg) (w : World) : Calls Tryz.prog 184 #[.agg M.cs, .int .i64 44] w fun e w' => e = .returned (.int .i64 (M.z 26)) ∧ Below w.heap.size w w' := by
  have HO := box_own M w
  go_enter Tryz.func184, Tryz.ntmps184
  go_upto_region 1 with fail
  generalize w.alloc (.cells M.cs 23) = w1 at *
  have c : w1.cell? ⟨w.heap.size, 26, none⟩ = some (.int .i64 (M.z 26)) := HO.out.1.cell 26 (by decide)
  generalize M.cs = CS at *
  go_wp2
  go_ret
  exact ⟨rfl, HO.out.2⟩
set_option maxRecDepth 100000 in
set_option maxHeartbeats 1000000 in
theorem val26 (M : Msg) (w : World) : Calls Tryz.prog 47 #[.agg M.cs, .int .i64 44] w fun e w' => e = .returned (.tuple #[.int .i64 (M.z 26), .string ⟨#[]⟩]) ∧ Below w.heap.size w w' := by
  have HO := box_own M w
  go_enter Tryz.func47, Tryz.ntmps47
  go_upto_region 1 with fail
  generalize w.alloc (.cells M.cs 23) = w1 at *
  go_upto_region 48 with fail
  refine wp_region_lit ?_
  refine wpList_loadM HO.out.1 (.tmp 2) rfl rfl rfl ?_
  simp only [Act.put, List.setIfInBounds_toArray, List.set_cons_zero, List.set_cons_succ]
  go_wp2_with (go_at_call 184; fail)
  refine (ordv26 M w1).mono ?_
  rintro e w2 ⟨rfl, hb⟩
  go_wp2
  go_ret2
  exact ⟨rfl, HO.out.2.trans (hb.mono HO.out.2.size)⟩
set_option maxRecDepth 100000 in
set_option maxHeartbeats 1000000 in
theorem ordv27 (M : Msg) (w : World) : Calls Tryz.prog 184 #[.agg M.cs, .int .i64 99] w fun e w' => e = .returned (.int .i64 (M.z 27)) ∧ Below w.heap.size w w' := by
  have HO := box_own M w
  go_enter Tryz.func184, Tryz.ntmps184
  go_upto_region 1 with fail
  generalize w.alloc (.cells M.cs 23) = w1 at *
  have c : w1.cell? ⟨w.heap.size, 27, none⟩ = some (.int .i64 (M.z 27)) := HO.out.1.cell 27 (by decide)
  generalize M.cs = CS at *
  go_wp2
  go_ret
  exact ⟨rfl, HO.out.2⟩
set_option maxRecDepth 100000 in
set_option maxHeartbeats 1000000 in
theorem val27 (M : Msg) (w : World) : Calls Tryz.prog 47 #[.agg M.cs, .int .i64 99] w fun e w' => e = .returned (.tuple #[.int .i64 (M.z 27), .string ⟨#[]⟩]) ∧ Below w.heap.size w w' := by
  have HO := box_own M w
  go_enter Tryz.func47, Tryz.ntmps47
  go_upto_region 1 with fail
  generalize w.alloc (.cells M.cs 23) = w1 at *
  go_upto_region 48 with fail
  refine wp_region_lit ?_
  refine wpList_loadM HO.out.1 (.tmp 2) rfl rfl rfl ?_
  simp only [Act.put, List.setIfInBounds_toArray, List.set_cons_zero, List.set_cons_succ]
  go_wp2_with (go_at_call 184; fail)
  refine (ordv27 M w1).mono ?_
  rintro e w2 ⟨rfl, hb⟩
  go_wp2
  go_ret2
  exact ⟨rfl, HO.out.2.trans (hb.mono HO.out.2.size)⟩
set_option maxRecDepth 100000 in
set_option maxHeartbeats 1000000 in
theorem ordv28 (M : Msg) (w : World) : Calls Tryz.prog 184 #[.agg M.cs, .int .i64 38] w fun e w' => e = .returned (.int .i64 (M.z 28)) ∧ Below w.heap.size w w' := by
  have HO := box_own M w
  go_enter Tryz.func184, Tryz.ntmps184
  go_upto_region 1 with fail
  generalize w.alloc (.cells M.cs 23) = w1 at *
  have c : w1.cell? ⟨w.heap.size, 28, none⟩ = some (.int .i64 (M.z 28)) := HO.out.1.cell 28 (by decide)
  generalize M.cs = CS at *
  go_wp2
  go_ret
  exact ⟨rfl, HO.out.2⟩
set_option maxRecDepth 100000 in
set_option maxHeartbeats 1000000 in
theorem val28 (M : Msg) (w : World) : Calls Tryz.prog 47 #[.agg M.cs, .int .i64 38] w fun e w' => e = .returned (.tuple #[.int .i64 (M.z 28), .string ⟨#[]⟩]) ∧ Below w.heap.size w w' := by
  have HO := box_own M w
  go_enter Tryz.func47, Tryz.ntmps47
  go_upto_region 1 with fail
  generalize w.alloc (.cells M.cs 23) = w1 at *
  go_upto_region 48 with fail
  refine wp_region_lit ?_
  refine wpList_loadM HO.out.1 (.tmp 2) rfl rfl rfl ?_
  simp only [Act.put, List.setIfInBounds_toArray, List.set_cons_zero, List.set_cons_succ]
  go_wp2_with (go_at_call 184; fail)
  refine (ordv28 M w1).mono ?_
  rintro e w2 ⟨rfl, hb⟩
  go_wp2
  go_ret2
  exact ⟨rfl, HO.out.2.trans (hb.mono HO.out.2.size)⟩
set_option maxRecDepth 100000 in
set_option maxHeartbeats 1000000 in
theorem ordv29 (M : Msg) (w : World) : Calls Tryz.prog 184 #[.agg M.cs, .int .i64 111] w fun e w' => e = .returned (.int .i64 (M.z 29)) ∧ Below w.heap.size w w' := by
  have HO := box_own M w
  go_enter Tryz.func184, Tryz.ntmps184
  go_upto_region 1 with fail
  generalize w.alloc (.cells M.cs 23) = w1 at *
  have c : w1.cell? ⟨w.heap.size, 29, none⟩ = some (.int .i64 (M.z 29)) := HO.out.1.cell 29 (by decide)
  generalize M.cs = CS at *
  go_wp2
  go_ret
  exact ⟨rfl, HO.out.2⟩
set_option maxRecDepth 100000 in
set_option maxHeartbeats 1000000 in
theorem val29 (M : Msg) (w : World) : Calls Tryz.prog 47 #[.agg M.cs, .int .i64 111] w fun e w' => e = .returned (.tuple #[.int .i64 (M.z 29), .string ⟨#[]⟩]) ∧ Below w.heap.size w w' := by
  have HO := box_own M w
  go_enter Tryz.func47, Tryz.ntmps47
  go_upto_region 1 with fail
  generalize w.alloc (.cells M.cs 23) = w1 at *
  go_upto_region 48 with fail
  refine wp_region_lit ?_
  refine wpList_loadM HO.out.1 (.tmp 2) rfl rfl rfl ?_
  simp only [Act.put, List.setIfInBounds_toArray, List.set_cons_zero, List.set_cons_succ]
  go_wp2_with (go_at_call 184; fail)
  refine (ordv29 M w1).mono ?_
  rintro e w2 ⟨rfl, hb⟩
  go_wp2
  go_ret2
  exact ⟨rfl, HO.out.2.trans (hb.mono HO.out.2.size)⟩
set_option maxRecDepth 100000 in
set_option maxHeartbeats 1000000 in
theorem ordv30 (M : Msg) (w : World) : Calls Tryz.prog 184 #[.agg M.cs, .int .i64 110] w fun e w' => e = .returned (.int .i64 (M.z 30)) ∧ Below w.heap.size w w' := by
  have HO := box_own M w
  go_enter Tryz.func184, Tryz.ntmps184
  go_upto_region 1 with fail
  generalize w.alloc (.cells M.cs 23) = w1 at *
  have c : w1.cell? ⟨w.heap.size, 30, none⟩ = some (.int .i64 (M.z 30)) := HO.out.1.cell 30 (by decide)
  generalize M.cs = CS at *
  go_wp2
  go_ret
  exact ⟨rfl, HO.out.2⟩
set_option maxRecDepth 100000 in
set_option maxHeartbeats 1000000 in
theorem val30 (M : Msg) (w : World) : Calls Tryz.prog 47 #[.agg M.cs, .int .i64 110] w fun e w' => e = .returned (.tuple #[.int .i64 (M.z 30), .string ⟨#[]⟩]) ∧ Below w.heap.size w w' := by
  have HO := box_own M w
  go_enter Tryz.func47, Tryz.ntmps47
  go_upto_region 1 with fail
  generalize w.alloc (.cells M.cs 23) = w1 at *
  go_upto_region 48 with fail
  refine wp_region_lit ?_
  refine wpList_loadM HO.out.1 (.tmp 2) rfl rfl rfl ?_
  simp only [Act.put, List.setIfInBounds_toArray, List.set_cons_zero, List.set_cons_succ]
  go_wp2_with (go_at_call 184; fail)
  refine (ordv30 M w1).mono ?_
  rintro e w2 ⟨rfl, hb⟩
  go_wp2
  go_ret2
  exact ⟨rfl, HO.out.2.trans (hb.mono HO.out.2.size)⟩
set_option maxRecDepth 100000 in
set_option maxHeartbeats 1000000 in
theorem ordv31 (M : Msg) (w : World) : Calls Tryz.prog 184 #[.agg M.cs, .int .i64 432] w fun e w' => e = .returned (.int .i64 (M.z 31)) ∧ Below w.heap.size w w' := by
  have HO := box_own M w
  go_enter Tryz.func184, Tryz.ntmps184
  go_upto_region 1 with fail
  generalize w.alloc (.cells M.cs 23) = w1 at *
  have c : w1.cell? ⟨w.heap.size, 31, none⟩ = some (.int .i64 (M.z 31)) := HO.out.1.cell 31 (by decide)
  generalize M.cs = CS at *
  go_wp2
  go_ret
  exact ⟨rfl, HO.out.2⟩
set_option maxRecDepth 100000 in
set_option maxHeartbeats 1000000 in
theorem val31 (M : Msg) (w : World) : Calls Tryz.prog 47 #[.agg M.cs, .int .i64 432] w fun e w' => e = .returned (.tuple #[.int .i64 (M.z 31), .string ⟨#[]⟩]) ∧ Below w.heap.size w w' := by
  have HO := box_own M w
  go_enter Tryz.func47, Tryz.ntmps47
  go_upto_region 1 with fail
  generalize w.alloc (.cells M.cs 23) = w1 at *
  go_upto_region 48 with fail
  refine wp_region_lit ?_
  refine wpList_loadM HO.out.1 (.tmp 2) rfl rfl rfl ?_
  simp only [Act.put, List.setIfInBounds_toArray, List.set_cons_zero, List.set_cons_succ]
  go_wp2_with (go_at_call 184; fail)
  refine (ordv31 M w1).mono ?_
  rintro e w2 ⟨rfl, hb⟩
  go_wp2
  go_ret2
  exact ⟨rfl, HO.out.2.trans (hb.mono HO.out.2.size)⟩
set_option maxRecDepth 100000 in
set_option maxHeartbeats 1000000 in
theorem ordv32 (M : Msg) (w : World) : Calls Tryz.prog 184 #[.agg M.cs, .int .i64 37] w fun e w' => e = .returned (.int .i64 (M.z 32)) ∧ Below w.heap.size w w' := by
  have HO := box_own M w
  go_enter Tryz.func184, Tryz.ntmps184
  go_upto_region 1 with fail
  generalize w.alloc (.cells M.cs 23) = w1 at *
  have c : w1.cell? ⟨w.heap.size, 32, none⟩ = some (.int .i64 (M.z 32)) := HO.out.1.cell 32 (by decide)
  generalize M.cs = CS at *
  go_wp2
  go_ret
  exact ⟨rfl, HO.out.2⟩
set_option maxRecDepth 100000 in
set_option maxHeartbeats 1000000 in
theorem val32 (M : Msg) (w : World) : Calls Tryz.prog 47 #[.agg M.cs, .int .i64 37] w fun e w' => e = .returned (.tuple #[.int .i64 (M.z 32), .string ⟨#[]⟩]) ∧ Below w.heap.size w w' := by
  have HO := box_own M w
  go_enter Tryz.func47, Tryz.ntmps47
  go_upto_region 1 with fail
  generalize w.alloc (.cells M.cs 23) = w1 at *
  go_upto_region 48 with fail
  refine wp_region_lit ?_
  refine wpList_loadM HO.out.1 (.tmp 2) rfl rfl rfl ?_
  simp only [Act.put, List.setIfInBounds_toArray, List.set_cons_zero, List.set_cons_succ]
  go_wp2_with (go_at_call 184; fail)
  refine (ordv32 M w1).mono ?_
  rintro e w2 ⟨rfl, hb⟩
  go_wp2
  go_ret2
  exact ⟨rfl, HO.out.2.trans (hb.mono HO.out.2.size)⟩

end Go.Proofs.YtchkpggdndnpjabGreatDoor
