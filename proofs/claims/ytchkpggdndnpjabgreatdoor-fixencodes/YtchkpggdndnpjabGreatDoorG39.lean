import Derived.Test.YtchkpggdndnpjabGreatDoorG34

namespace Go.Proofs.YtchkpggdndnpjabGreatDoor
set_option linter.unusedVariables false
set_option linter.unusedSimpArgs false
open Go.RowKit Go.Great

set_option maxRecDepth 100000 in
set_option maxHeartbeats 1000000 in
theorem ordv33 (M : Msg) (w : World) : Calls Tryz.prog 184 #[.agg M.cs, .int .i64 17] w fun e w' => e = .returned (.int .i64 (M.z 33)) ∧ Below w.heap.size w w' := by
  have HO := box_own M w
  go_enter Tryz.func184, Tryz.ntmps184
  go_upto_region 1 with fail
  generalize w.alloc (.cells M.cs 23) = w1 at *
  have c : w1.cell? ⟨w.heap.size, 33, none⟩ = some (.int .i64 (M.z 33)) := HO.out.1.cell 33 (by decide)
  generalize M.cs = CS at *
  go_wp2
  go_ret
  exact ⟨rfl, HO.out.2⟩
set_option maxRecDepth 100000 in
set_option maxHeartbeats 1000000 in
theorem val33 (M : Msg) (w : World) : Calls Tryz.prog 47 #[.agg M.cs, .int .i64 17] w fun e w' => e = .returned (.tuple #[.int .i64 (M.z 33), .string ⟨#[]⟩]) ∧ Below w.heap.size w w' := by
  have HO := box_own M w
  go_enter Tryz.func47, Tryz.ntmps47
  go_upto_region 1 with fail
  generalize w.alloc (.cells M.cs 23) = w1 at *
  go_upto_region 48 with fail
  refine wp_region_lit ?_
  refine wpList_loadM HO.out.1 (.tmp 2) rfl rfl rfl ?_
  simp only [Act.put, List.setIfInBounds_toArray, List.set_cons_zero, List.set_cons_succ]
  go_wp2_with (go_at_call 184; fail)
  refine (ordv33 M w1).mono ?_
  rintro e w2 ⟨rfl, hb⟩
  go_wp2
  go_ret2
  exact ⟨rfl, HO.out.2.trans (hb.mono HO.out.2.size)⟩
set_option maxRecDepth 100000 in
set_option maxHeartbeats 1000000 in
theorem ordv34 (M : Msg) (w : World) : Calls Tryz.prog 184 #[.agg M.cs, .int .i64 150] w fun e w' => e = .returned (.int .i64 (M.z 34)) ∧ Below w.heap.size w w' := by
  have HO := box_own M w
  go_enter Tryz.func184, Tryz.ntmps184
  go_upto_region 1 with fail
  generalize w.alloc (.cells M.cs 23) = w1 at *
  have c : w1.cell? ⟨w.heap.size, 34, none⟩ = some (.int .i64 (M.z 34)) := HO.out.1.cell 34 (by decide)
  generalize M.cs = CS at *
  go_wp2
  go_ret
  exact ⟨rfl, HO.out.2⟩
set_option maxRecDepth 100000 in
set_option maxHeartbeats 1000000 in
theorem val34 (M : Msg) (w : World) : Calls Tryz.prog 47 #[.agg M.cs, .int .i64 150] w fun e w' => e = .returned (.tuple #[.int .i64 (M.z 34), .string ⟨#[]⟩]) ∧ Below w.heap.size w w' := by
  have HO := box_own M w
  go_enter Tryz.func47, Tryz.ntmps47
  go_upto_region 1 with fail
  generalize w.alloc (.cells M.cs 23) = w1 at *
  go_upto_region 48 with fail
  refine wp_region_lit ?_
  refine wpList_loadM HO.out.1 (.tmp 2) rfl rfl rfl ?_
  simp only [Act.put, List.setIfInBounds_toArray, List.set_cons_zero, List.set_cons_succ]
  go_wp2_with (go_at_call 184; fail)
  refine (ordv34 M w1).mono ?_
  rintro e w2 ⟨rfl, hb⟩
  go_wp2
  go_ret2
  exact ⟨rfl, HO.out.2.trans (hb.mono HO.out.2.size)⟩
set_option maxRecDepth 100000 in
set_option maxHeartbeats 1000000 in
theorem ordv35 (M : Msg) (w : World) : Calls Tryz.prog 184 #[.agg M.cs, .int .i64 39] w fun e w' => e = .returned (.int .i64 (M.z 35)) ∧ Below w.heap.size w w' := by
  have HO := box_own M w
  go_enter Tryz.func184, Tryz.ntmps184
  go_upto_region 1 with fail
  generalize w.alloc (.cells M.cs 23) = w1 at *
  have c : w1.cell? ⟨w.heap.size, 35, none⟩ = some (.int .i64 (M.z 35)) := HO.out.1.cell 35 (by decide)
  generalize M.cs = CS at *
  go_wp2
  go_ret
  exact ⟨rfl, HO.out.2⟩
set_option maxRecDepth 100000 in
set_option maxHeartbeats 1000000 in
theorem val35 (M : Msg) (w : World) : Calls Tryz.prog 47 #[.agg M.cs, .int .i64 39] w fun e w' => e = .returned (.tuple #[.int .i64 (M.z 35), .string ⟨#[]⟩]) ∧ Below w.heap.size w w' := by
  have HO := box_own M w
  go_enter Tryz.func47, Tryz.ntmps47
  go_upto_region 1 with fail
  generalize w.alloc (.cells M.cs 23) = w1 at *
  go_upto_region 48 with fail
  refine wp_region_lit ?_
  refine wpList_loadM HO.out.1 (.tmp 2) rfl rfl rfl ?_
  simp only [Act.put, List.setIfInBounds_toArray, List.set_cons_zero, List.set_cons_succ]
  go_wp2_with (go_at_call 184; fail)
  refine (ordv35 M w1).mono ?_
  rintro e w2 ⟨rfl, hb⟩
  go_wp2
  go_ret2
  exact ⟨rfl, HO.out.2.trans (hb.mono HO.out.2.size)⟩
set_option maxRecDepth 100000 in
set_option maxHeartbeats 1000000 in
theorem ordv36 (M : Msg) (w : World) : Calls Tryz.prog 184 #[.agg M.cs, .int .i64 31] w fun e w' => e = .returned (.int .i64 (M.z 36)) ∧ Below w.heap.size w w' := by
  have HO := box_own M w
  go_enter Tryz.func184, Tryz.ntmps184
  go_upto_region 1 with fail
  generalize w.alloc (.cells M.cs 23) = w1 at *
  have c : w1.cell? ⟨w.heap.size, 36, none⟩ = some (.int .i64 (M.z 36)) := HO.out.1.cell 36 (by decide)
  generalize M.cs = CS at *
  go_wp2
  go_ret
  exact ⟨rfl, HO.out.2⟩
set_option maxRecDepth 100000 in
set_option maxHeartbeats 1000000 in
theorem val36 (M : Msg) (w : World) : Calls Tryz.prog 47 #[.agg M.cs, .int .i64 31] w fun e w' => e = .returned (.tuple #[.int .i64 (M.z 36), .string ⟨#[]⟩]) ∧ Below w.heap.size w w' := by
  have HO := box_own M w
  go_enter Tryz.func47, Tryz.ntmps47
  go_upto_region 1 with fail
  generalize w.alloc (.cells M.cs 23) = w1 at *
  go_upto_region 48 with fail
  refine wp_region_lit ?_
  refine wpList_loadM HO.out.1 (.tmp 2) rfl rfl rfl ?_
  simp only [Act.put, List.setIfInBounds_toArray, List.set_cons_zero, List.set_cons_succ]
  go_wp2_with (go_at_call 184; fail)
  refine (ordv36 M w1).mono ?_
  rintro e w2 ⟨rfl, hb⟩
  go_wp2
  go_ret2
  exact ⟨rfl, HO.out.2.trans (hb.mono HO.out.2.size)⟩
set_option maxRecDepth 100000 in
set_option maxHeartbeats 1000000 in
theorem ordv37 (M : Msg) (w : World) : Calls Tryz.prog 184 #[.agg M.cs, .int .i64 32] w fun e w' => e = .returned (.int .i64 (M.z 37)) ∧ Below w.heap.size w w' := by
  have HO := box_own M w
  go_enter Tryz.func184, Tryz.ntmps184
  go_upto_region 1 with fail
  generalize w.alloc (.cells M.cs 23) = w1 at *
  have c : w1.cell? ⟨w.heap.size, 37, none⟩ = some (.int .i64 (M.z 37)) := HO.out.1.cell 37 (by decide)
  generalize M.cs = CS at *
  go_wp2
  go_ret
  exact ⟨rfl, HO.out.2⟩
set_option maxRecDepth 100000 in
set_option maxHeartbeats 1000000 in
theorem val37 (M : Msg) (w : World) : Calls Tryz.prog 47 #[.agg M.cs, .int .i64 32] w fun e w' => e = .returned (.tuple #[.int .i64 (M.z 37), .string ⟨#[]⟩]) ∧ Below w.heap.size w w' := by
  have HO := box_own M w
  go_enter Tryz.func47, Tryz.ntmps47
  go_upto_region 1 with fail
  generalize w.alloc (.cells M.cs 23) = w1 at *
  go_upto_region 48 with fail
  refine wp_region_lit ?_
  refine wpList_loadM HO.out.1 (.tmp 2) rfl rfl rfl ?_
  simp only [Act.put, List.setIfInBounds_toArray, List.set_cons_zero, List.set_cons_succ]
  go_wp2_with (go_at_call 184; fail)
  refine (ordv37 M w1).mono ?_
  rintro e w2 ⟨rfl, hb⟩
  go_wp2
  go_ret2
  exact ⟨rfl, HO.out.2.trans (hb.mono HO.out.2.size)⟩
set_option maxRecDepth 100000 in
set_option maxHeartbeats 1000000 in
theorem ordv38 (M : Msg) (w : World) : Calls Tryz.prog 184 #[.agg M.cs, .int .i64 151] w fun e w' => e = .returned (.int .i64 (M.z 38)) ∧ Below w.heap.size w w' := by
  have HO := box_own M w
  go_enter Tryz.func184, Tryz.ntmps184
  go_upto_region 1 with fail
  generalize w.alloc (.cells M.cs 23) = w1 at *
  have c : w1.cell? ⟨w.heap.size, 38, none⟩ = some (.int .i64 (M.z 38)) := HO.out.1.cell 38 (by decide)
  generalize M.cs = CS at *
  go_wp2
  go_ret
  exact ⟨rfl, HO.out.2⟩
set_option maxRecDepth 100000 in
set_option maxHeartbeats 1000000 in
theorem val38 (M : Msg) (w : World) : Calls Tryz.prog 47 #[.agg M.cs, .int .i64 151] w fun e w' => e = .returned (.tuple #[.int .i64 (M.z 38), .string ⟨#[]⟩]) ∧ Below w.heap.size w w' := by
  have HO := box_own M w
  go_enter Tryz.func47, Tryz.ntmps47
  go_upto_region 1 with fail
  generalize w.alloc (.cells M.cs 23) = w1 at *
  go_upto_region 48 with fail
  refine wp_region_lit ?_
  refine wpList_loadM HO.out.1 (.tmp 2) rfl rfl rfl ?_
  simp only [Act.put, List.setIfInBounds_toArray, List.set_cons_zero, List.set_cons_succ]
  go_wp2_with (go_at_call 184; fail)
  refine (ordv38 M w1).mono ?_
  rintro e w2 ⟨rfl, hb⟩
  go_wp2
  go_ret2
  exact ⟨rfl, HO.out.2.trans (hb.mono HO.out.2.size)⟩
set_option maxRecDepth 100000 in
set_option maxHeartbeats 1000000 in
theorem ordv39 (M : Msg) (w : World) : Calls Tryz.prog 184 #[.agg M.cs, .int .i64 14] w fun e w' => e = .returned (.int .i64 (M.z 39)) ∧ Below w.heap.size w w' := by
  have HO := box_own M w
  go_enter Tryz.func184, Tryz.ntmps184
  go_upto_region 1 with fail
  generalize w.alloc (.cells M.cs 23) = w1 at *
  have c : w1.cell? ⟨w.heap.size, 39, none⟩ = some (.int .i64 (M.z 39)) := HO.out.1.cell 39 (by decide)
  generalize M.cs = CS at *
  go_wp2
  go_ret
  exact ⟨rfl, HO.out.2⟩
set_option maxRecDepth 100000 in
set_option maxHeartbeats 1000000 in
theorem val39 (M : Msg) (w : World) : Calls Tryz.prog 47 #[.agg M.cs, .int .i64 14] w fun e w' => e = .returned (.tuple #[.int .i64 (M.z 39), .string ⟨#[]⟩]) ∧ Below w.heap.size w w' := by
  have HO := box_own M w
  go_enter Tryz.func47, Tryz.ntmps47
  go_upto_region 1 with fail
  generalize w.alloc (.cells M.cs 23) = w1 at *
  go_upto_region 48 with fail
  refine wp_region_lit ?_
  refine wpList_loadM HO.out.1 (.tmp 2) rfl rfl rfl ?_
  simp only [Act.put, List.setIfInBounds_toArray, List.set_cons_zero, List.set_cons_succ]
  go_wp2_with (go_at_call 184; fail)
  refine (ordv39 M w1).mono ?_
  rintro e w2 ⟨rfl, hb⟩
  go_wp2
  go_ret2
  exact ⟨rfl, HO.out.2.trans (hb.mono HO.out.2.size)⟩
set_option maxRecDepth 100000 in
set_option maxHeartbeats 1000000 in
theorem ordv40 (M : Msg) (w : World) : Calls Tryz.prog 184 #[.agg M.cs, .int .i64 326] w fun e w' => e = .returned (.int .i64 (M.z 40)) ∧ Below w.heap.size w w' := by
  have HO := box_own M w
  go_enter Tryz.func184, Tryz.ntmps184
  go_upto_region 1 with fail
  generalize w.alloc (.cells M.cs 23) = w1 at *
  have c : w1.cell? ⟨w.heap.size, 40, none⟩ = some (.int .i64 (M.z 40)) := HO.out.1.cell 40 (by decide)
  generalize M.cs = CS at *
  go_wp2
  go_ret
  exact ⟨rfl, HO.out.2⟩
set_option maxRecDepth 100000 in
set_option maxHeartbeats 1000000 in
theorem val40 (M : Msg) (w : World) : Calls Tryz.prog 47 #[.agg M.cs, .int .i64 326] w fun e w' => e = .returned (.tuple #[.int .i64 (M.z 40), .string ⟨#[]⟩]) ∧ Below w.heap.size w w' := by
  have HO := box_own M w
  go_enter Tryz.func47, Tryz.ntmps47
  go_upto_region 1 with fail
  generalize w.alloc (.cells M.cs 23) = w1 at *
  go_upto_region 48 with fail
  refine wp_region_lit ?_
  refine wpList_loadM HO.out.1 (.tmp 2) rfl rfl rfl ?_
  simp only [Act.put, List.setIfInBounds_toArray, List.set_cons_zero, List.set_cons_succ]
  go_wp2_with (go_at_call 184; fail)
  refine (ordv40 M w1).mono ?_
  rintro e w2 ⟨rfl, hb⟩
  go_wp2
  go_ret2
  exact ⟨rfl, HO.out.2.trans (hb.mono HO.out.2.size)⟩
set_option maxRecDepth 100000 in
set_option maxHeartbeats 1000000 in
theorem ordv41 (M : Msg) (w : World) : Calls Tryz.prog 184 #[.agg M.cs, .int .i64 533] w fun e w' => e = .returned (.int .i64 (M.z 41)) ∧ Below w.heap.size w w' := by
  have HO := box_own M w
  go_enter Tryz.func184, Tryz.ntmps184
  go_upto_region 1 with fail
  generalize w.alloc (.cells M.cs 23) = w1 at *
  have c : w1.cell? ⟨w.heap.size, 41, none⟩ = some (.int .i64 (M.z 41)) := HO.out.1.cell 41 (by decide)
  generalize M.cs = CS at *
  go_wp2
  go_ret
  exact ⟨rfl, HO.out.2⟩
set_option maxRecDepth 100000 in
set_option maxHeartbeats 1000000 in
theorem val41 (M : Msg) (w : World) : Calls Tryz.prog 47 #[.agg M.cs, .int .i64 533] w fun e w' => e = .returned (.tuple #[.int .i64 (M.z 41), .string ⟨#[]⟩]) ∧ Below w.heap.size w w' := by
  have HO := box_own M w
  go_enter Tryz.func47, Tryz.ntmps47
  go_upto_region 1 with fail
  generalize w.alloc (.cells M.cs 23) = w1 at *
  go_upto_region 48 with fail
  refine wp_region_lit ?_
  refine wpList_loadM HO.out.1 (.tmp 2) rfl rfl rfl ?_
  simp only [Act.put, List.setIfInBounds_toArray, List.set_cons_zero, List.set_cons_succ]
  go_wp2_with (go_at_call 184; fail)
  refine (ordv41 M w1).mono ?_
  rintro e w2 ⟨rfl, hb⟩
  go_wp2
  go_ret2
  exact ⟨rfl, HO.out.2.trans (hb.mono HO.out.2.size)⟩

end Go.Proofs.YtchkpggdndnpjabGreatDoor
