import Derived.Test.YtchkpggdndnpjabGreatDoorG03
import Derived.Deep.DeepCutAuto
import Derived.Laws.Rows
import Derived.Laws.Tables
import Derived.Laws.CopyOwn

namespace Go.Proofs.YtchkpggdndnpjabGreatDoor
set_option linter.unusedVariables false
open Go.RowKit

def tNum : List Int := [35, 49, 56, 34, 43, 52, 122, 108, 141, 112, 7, 16, 36, 123, 45, 372, 371, 373, 58, 11, 41, 1, 55, 54, 40, 59, 44, 99, 38, 111, 110, 432, 37, 17, 150, 39, 31, 32, 151, 14, 326, 533]
def tMust : List Nat := [262142, 262142, 262142, 262142, 0, 262142, 0, 128, 0, 4, 8, 8, 32, 0, 65552, 65536, 0, 81936, 0, 65280, 17920, 8448, 145152, 14080, 256, 256, 0, 0, 9472, 0, 0, 0, 24576, 8192, 8192, 24576, 0, 0, 8192, 8192, 131072, 32768]
def tMay : List Nat := [0, 0, 0, 0, 262142, 0, 262142, 0, 128, 2, 0, 0, 0, 32, 0, 16, 16, 40960, 254064, 0, 8192, 2048, 34816, 2048, 8192, 8192, 9472, 9472, 0, 8448, 256, 256, 0, 0, 0, 0, 8192, 8192, 0, 0, 0, 0]
def tOz : List Bool := [false, false, false, false, false, true, false, false, false, false, false, true, false, false, false, false, false, true, false, false, false, false, false, false, false, false, false, false, false, false, false, false, true, false, false, false, false, false, true, true, true, true]
def tFn : List Nat := [71, 73, 76, 77, 78, 80, 82, 83, 84, 85, 87, 88, 89, 90, 91, 92, 93, 94, 95, 97, 99, 100, 101, 103, 104, 105, 106, 107, 108, 109, 110, 111, 113, 114, 115, 116, 117, 118, 119, 120, 121, 122]
def rowCs (i : Nat) : List Value := [.int .i64 (tNum.getD i 0), .int .u32 (tMust.getD i 0 : Nat), .int .u32 (tMay.getD i 0 : Nat), .bool (tOz.getD i false), .func (.func (tFn.getD i 0)) #[] #[]]
def rowsCs : List Value := [.int .i64 35, .int .u32 262142, .int .u32 0, .bool false, .func (.func 71) #[] #[], .int .i64 49, .int .u32 262142, .int .u32 0, .bool false, .func (.func 73) #[] #[], .int .i64 56, .int .u32 262142, .int .u32 0, .bool false, .func (.func 76) #[] #[], .int .i64 34, .int .u32 262142, .int .u32 0, .bool false, .func (.func 77) #[] #[], .int .i64 43, .int .u32 0, .int .u32 262142, .bool false, .func (.func 78) #[] #[], .int .i64 52, .int .u32 262142, .int .u32 0, .bool true, .func (.func 80) #[] #[], .int .i64 122, .int .u32 0, .int .u32 262142, .bool false, .func (.func 82) #[] #[], .int .i64 108, .int .u32 128, .int .u32 0, .bool false, .func (.func 83) #[] #[], .int .i64 141, .int .u32 0, .int .u32 128, .bool false, .func (.func 84) #[] #[], .int .i64 112, .int .u32 4, .int .u32 2, .bool false, .func (.func 85) #[] #[], .int .i64 7, .int .u32 8, .int .u32 0, .bool false, .func (.func 87) #[] #[], .int .i64 16, .int .u32 8, .int .u32 0, .bool true, .func (.func 88) #[] #[], .int .i64 36, .int .u32 32, .int .u32 0, .bool false, .func (.func 89) #[] #[], .int .i64 123, .int .u32 0, .int .u32 32, .bool false, .func (.func 90) #[] #[], .int .i64 45, .int .u32 65552, .int .u32 0, .bool false, .func (.func 91) #[] #[], .int .i64 372, .int .u32 65536, .int .u32 16, .bool false, .func (.func 92) #[] #[], .int .i64 371, .int .u32 0, .int .u32 16, .bool false, .func (.func 93) #[] #[], .int .i64 373, .int .u32 81936, .int .u32 40960, .bool true, .func (.func 94) #[] #[], .int .i64 58, .int .u32 0, .int .u32 254064, .bool false, .func (.func 95) #[] #[], .int .i64 11, .int .u32 65280, .int .u32 0, .bool false, .func (.func 97) #[] #[], .int .i64 41, .int .u32 17920, .int .u32 8192, .bool false, .func (.func 99) #[] #[], .int .i64 1, .int .u32 8448, .int .u32 2048, .bool false, .func (.func 100) #[] #[], .int .i64 55, .int .u32 145152, .int .u32 34816, .bool false, .func (.func 101) #[] #[], .int .i64 54, .int .u32 14080, .int .u32 2048, .bool false, .func (.func 103) #[] #[], .int .i64 40, .int .u32 256, .int .u32 8192, .bool false, .func (.func 104) #[] #[], .int .i64 59, .int .u32 256, .int .u32 8192, .bool false, .func (.func 105) #[] #[], .int .i64 44, .int .u32 0, .int .u32 9472, .bool false, .func (.func 106) #[] #[], .int .i64 99, .int .u32 0, .int .u32 9472, .bool false, .func (.func 107) #[] #[], .int .i64 38, .int .u32 9472, .int .u32 0, .bool false, .func (.func 108) #[] #[], .int .i64 111, .int .u32 0, .int .u32 8448, .bool false, .func (.func 109) #[] #[], .int .i64 110, .int .u32 0, .int .u32 256, .bool false, .func (.func 110) #[] #[], .int .i64 432, .int .u32 0, .int .u32 256, .bool false, .func (.func 111) #[] #[], .int .i64 37, .int .u32 24576, .int .u32 0, .bool true, .func (.func 113) #[] #[], .int .i64 17, .int .u32 8192, .int .u32 0, .bool false, .func (.func 114) #[] #[], .int .i64 150, .int .u32 8192, .int .u32 0, .bool false, .func (.func 115) #[] #[], .int .i64 39, .int .u32 24576, .int .u32 0, .bool false, .func (.func 116) #[] #[], .int .i64 31, .int .u32 0, .int .u32 8192, .bool false, .func (.func 117) #[] #[], .int .i64 32, .int .u32 0, .int .u32 8192, .bool false, .func (.func 118) #[] #[], .int .i64 151, .int .u32 8192, .int .u32 0, .bool true, .func (.func 119) #[] #[], .int .i64 14, .int .u32 8192, .int .u32 0, .bool true, .func (.func 120) #[] #[], .int .i64 326, .int .u32 131072, .int .u32 0, .bool true, .func (.func 121) #[] #[], .int .i64 533, .int .u32 32768, .int .u32 0, .bool true, .func (.func 122) #[] #[]]
set_option maxRecDepth 100000 in
set_option maxHeartbeats 800000 in
theorem rows_any (w : World) :
    Calls Tryz.prog 32 #[] w fun e w' => e = .returned (.agg rowsCs.toArray) ∧ Below w.heap.size w w' := by
  go_enter Tryz.func32, Tryz.ntmps32
  go_upto_region 1 with fail
  rename_i K hK
  refine wp_region_lit ?_
  iterate 43 (refine wpList_build rfl _ _ rfl (by kernel_rfl) ?_)
  refine wpList_store_row rfl 78 (.tmp 0) (.tmp 43) rfl w.heap.size rowsCs.toArray (by kernel_rfl) (by kernel_rfl) 78 _ (heap_alloc_new w _) (by kernel_rfl) (by kernel_rfl) (by kernel_rfl) ?_
  refine wpList_nil ?_
  refine hK _ _ ?_
  apply wp_ret
  show bodyPost Tryz.prog Tryz.f32 _ Exit.ret _ _
  refine bodyPost_ret (results_cell_row (fn := Tryz.f32) (p := 0) (ty := 78) rfl _ _ w.heap.size 78 rowsCs.toArray (0, 0) _ (by kernel_rfl) (setRow_heap _ _ _ _ _ _ (heap_alloc_new w _)) Tryz.underlying78 rfl (by kernel_rfl)) (by kernel_rfl) ⟨rfl, below_setRow ((Below.refl _ w).alloc (Nat.le_refl _) _) (Nat.le_refl _) _⟩

end Go.Proofs.YtchkpggdndnpjabGreatDoor

namespace Go.Proofs.YtchkpggdndnpjabGreatDoor
set_option linter.unusedVariables false
open Go.RowKit

set_option maxRecDepth 100000 in
set_option maxHeartbeats 400000 in
theorem look0 (z : Int) (B : Nat) (w : World) (hc : w.cell? ⟨B, 0, none⟩ = some (.int .i64 z)) :
    Calls Tryz.prog 71 #[.pointer (some ⟨B, 0, none⟩)] w fun e w' => e = .returned (.int .i64 (stN z 17 : Int)) ∧ w' = w := by
  go_enter Tryz.func71, Tryz.ntmps71
  go_wp2_with (go_at_call 72; refine (number_int_any _ _ _).mono ?_; rintro e w ⟨rfl, rfl⟩)
  go_ret
  exact ⟨rfl, rfl⟩
set_option maxRecDepth 100000 in
set_option maxHeartbeats 400000 in
theorem look1 (s : ByteArray) (B : Nat) (w : World) (hc : w.cell? ⟨B, 1, none⟩ = some (.string s)) :
    Calls Tryz.prog 73 #[.pointer (some ⟨B, 0, none⟩)] w fun e w' => e = .returned (.int .i64 (stT nmS s : Int)) ∧ w' = w := by
  go_enter Tryz.func73, Tryz.ntmps73
  go_wp2_with (go_at_call 74; refine (text_nmS _ _).mono ?_; rintro e w ⟨rfl, rfl⟩)
  go_ret
  exact ⟨rfl, rfl⟩
set_option maxRecDepth 100000 in
set_option maxHeartbeats 400000 in
theorem look2 (s : ByteArray) (B : Nat) (w : World) (hc : w.cell? ⟨B, 2, none⟩ = some (.string s)) :
    Calls Tryz.prog 76 #[.pointer (some ⟨B, 0, none⟩)] w fun e w' => e = .returned (.int .i64 (stT nmS s : Int)) ∧ w' = w := by
  go_enter Tryz.func76, Tryz.ntmps76
  go_wp2_with (go_at_call 74; refine (text_nmS _ _).mono ?_; rintro e w ⟨rfl, rfl⟩)
  go_ret
  exact ⟨rfl, rfl⟩
set_option maxRecDepth 100000 in
set_option maxHeartbeats 400000 in
theorem look3 (z : Int) (B : Nat) (w : World) (hc : w.cell? ⟨B, 3, none⟩ = some (.int .i64 z)) :
    Calls Tryz.prog 77 #[.pointer (some ⟨B, 0, none⟩)] w fun e w' => e = .returned (.int .i64 (stN z 999999999 : Int)) ∧ w' = w := by
  go_enter Tryz.func77, Tryz.ntmps77
  go_wp2_with (go_at_call 72; refine (number_int_any _ _ _).mono ?_; rintro e w ⟨rfl, rfl⟩)
  go_ret
  exact ⟨rfl, rfl⟩
set_option maxRecDepth 100000 in
set_option maxHeartbeats 400000 in
theorem look4 (b : Bool) (B : Nat) (w : World) (hc : w.cell? ⟨B, 4, none⟩ = some (.bool b)) :
    Calls Tryz.prog 78 #[.pointer (some ⟨B, 0, none⟩)] w fun e w' => e = .returned (.int .i64 (stB b : Int)) ∧ w' = w := by
  go_enter Tryz.func78, Tryz.ntmps78
  go_wp2_with (go_at_call 79; refine (flag_any _ _).mono ?_; rintro e w ⟨rfl, rfl⟩)
  go_ret
  exact ⟨rfl, rfl⟩
set_option maxRecDepth 100000 in
set_option maxHeartbeats 400000 in
theorem look5 (z : Int) (B : Nat) (w : World) (hc : w.cell? ⟨B, 5, none⟩ = some (.int .i64 z)) :
    Calls Tryz.prog 80 #[.pointer (some ⟨B, 0, none⟩)] w fun e w' => e = .returned (.int .i64 (stN z 253402300799999 : Int)) ∧ w' = w := by
  go_enter Tryz.func80, Tryz.ntmps80
  go_wp2_with (go_at_call 81; refine (number_int64_any _ _ _).mono ?_; rintro e w ⟨rfl, rfl⟩)
  go_ret
  exact ⟨rfl, rfl⟩
set_option maxRecDepth 100000 in
set_option maxHeartbeats 400000 in
theorem look6 (z : Int) (B : Nat) (w : World) (hc : w.cell? ⟨B, 6, none⟩ = some (.int .i64 z)) :
    Calls Tryz.prog 82 #[.pointer (some ⟨B, 0, none⟩)] w fun e w' => e = .returned (.int .i64 (stN z 253402300799999 : Int)) ∧ w' = w := by
  go_enter Tryz.func82, Tryz.ntmps82
  go_wp2_with (go_at_call 81; refine (number_int64_any _ _ _).mono ?_; rintro e w ⟨rfl, rfl⟩)
  go_ret
  exact ⟨rfl, rfl⟩
set_option maxRecDepth 100000 in
set_option maxHeartbeats 400000 in
theorem look7 (z : Int) (B : Nat) (w : World) (hc : w.cell? ⟨B, 7, none⟩ = some (.int .i64 z)) :
    Calls Tryz.prog 83 #[.pointer (some ⟨B, 0, none⟩)] w fun e w' => e = .returned (.int .i64 (stN z 3600 : Int)) ∧ w' = w := by
  go_enter Tryz.func83, Tryz.ntmps83
  go_wp2_with (go_at_call 72; refine (number_int_any _ _ _).mono ?_; rintro e w ⟨rfl, rfl⟩)
  go_ret
  exact ⟨rfl, rfl⟩
set_option maxRecDepth 100000 in
set_option maxHeartbeats 400000 in
theorem look8 (b : Bool) (B : Nat) (w : World) (hc : w.cell? ⟨B, 8, none⟩ = some (.bool b)) :
    Calls Tryz.prog 84 #[.pointer (some ⟨B, 0, none⟩)] w fun e w' => e = .returned (.int .i64 (stB b : Int)) ∧ w' = w := by
  go_enter Tryz.func84, Tryz.ntmps84
  go_wp2_with (go_at_call 79; refine (flag_any _ _).mono ?_; rintro e w ⟨rfl, rfl⟩)
  go_ret
  exact ⟨rfl, rfl⟩
set_option maxRecDepth 100000 in
set_option maxHeartbeats 400000 in
theorem look9 (s : ByteArray) (B : Nat) (w : World) (hc : w.cell? ⟨B, 9, none⟩ = some (.string s)) :
    Calls Tryz.prog 85 #[.pointer (some ⟨B, 0, none⟩)] w fun e w' => e = .returned (.int .i64 (stT tiS s : Int)) ∧ w' = w := by
  go_enter Tryz.func85, Tryz.ntmps85
  go_wp2_with (go_at_call 74; refine (text_tiS _ _).mono ?_; rintro e w ⟨rfl, rfl⟩)
  go_ret
  exact ⟨rfl, rfl⟩
set_option maxRecDepth 100000 in
set_option maxHeartbeats 400000 in
theorem look10 (z : Int) (B : Nat) (w : World) (hc : w.cell? ⟨B, 10, none⟩ = some (.int .i64 z)) :
    Calls Tryz.prog 87 #[.pointer (some ⟨B, 0, none⟩)] w fun e w' => e = .returned (.int .i64 (stN z 999999999 : Int)) ∧ w' = w := by
  go_enter Tryz.func87, Tryz.ntmps87
  go_wp2_with (go_at_call 72; refine (number_int_any _ _ _).mono ?_; rintro e w ⟨rfl, rfl⟩)
  go_ret
  exact ⟨rfl, rfl⟩
set_option maxRecDepth 100000 in
set_option maxHeartbeats 400000 in
theorem look11 (z : Int) (B : Nat) (w : World) (hc : w.cell? ⟨B, 11, none⟩ = some (.int .i64 z)) :
    Calls Tryz.prog 88 #[.pointer (some ⟨B, 0, none⟩)] w fun e w' => e = .returned (.int .i64 (stN z 999999999 : Int)) ∧ w' = w := by
  go_enter Tryz.func88, Tryz.ntmps88
  go_wp2_with (go_at_call 72; refine (number_int_any _ _ _).mono ?_; rintro e w ⟨rfl, rfl⟩)
  go_ret
  exact ⟨rfl, rfl⟩
set_option maxRecDepth 100000 in
set_option maxHeartbeats 400000 in
theorem look12 (z : Int) (B : Nat) (w : World) (hc : w.cell? ⟨B, 12, none⟩ = some (.int .i64 z)) :
    Calls Tryz.prog 89 #[.pointer (some ⟨B, 0, none⟩)] w fun e w' => e = .returned (.int .i64 (stN z 999999999 : Int)) ∧ w' = w := by
  go_enter Tryz.func89, Tryz.ntmps89
  go_wp2_with (go_at_call 72; refine (number_int_any _ _ _).mono ?_; rintro e w ⟨rfl, rfl⟩)
  go_ret
  exact ⟨rfl, rfl⟩
set_option maxRecDepth 100000 in
set_option maxHeartbeats 400000 in
theorem look13 (b : Bool) (B : Nat) (w : World) (hc : w.cell? ⟨B, 13, none⟩ = some (.bool b)) :
    Calls Tryz.prog 90 #[.pointer (some ⟨B, 0, none⟩)] w fun e w' => e = .returned (.int .i64 (stB b : Int)) ∧ w' = w := by
  go_enter Tryz.func90, Tryz.ntmps90
  go_wp2_with (go_at_call 79; refine (flag_any _ _).mono ?_; rintro e w ⟨rfl, rfl⟩)
  go_ret
  exact ⟨rfl, rfl⟩

end Go.Proofs.YtchkpggdndnpjabGreatDoor
