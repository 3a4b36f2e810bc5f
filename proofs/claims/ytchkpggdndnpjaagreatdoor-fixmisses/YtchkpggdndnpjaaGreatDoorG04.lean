import Derived.Test.YtchkpggdndnpjaaGreatDoorG03
import Derived.Deep.DeepCutAuto
import Derived.Laws.Rows
import Derived.Laws.Tables
import Derived.Laws.CopyOwn

namespace Go.Proofs.YtchkpggdndnpjaaGreatDoor
set_option linter.unusedVariables false
open Go.RowKit

def tNum : List Int := [35, 49, 56, 34, 43, 52, 122, 108, 141, 112, 7, 16, 36, 123, 45, 372, 371, 373, 58, 11, 41, 1, 55, 54, 40, 59, 44, 99, 38, 111, 110, 432, 37, 17, 150, 39, 31, 32, 151, 14, 326, 533]
def tMust : List Nat := [262142, 262142, 262142, 262142, 0, 262142, 0, 128, 0, 4, 8, 8, 32, 0, 65552, 65536, 0, 81936, 0, 65280, 17920, 8448, 145152, 14080, 256, 256, 0, 0, 9472, 0, 0, 0, 24576, 8192, 8192, 24576, 0, 0, 8192, 8192, 131072, 32768]
def tMay : List Nat := [0, 0, 0, 0, 262142, 0, 262142, 0, 128, 2, 0, 0, 0, 32, 0, 16, 16, 40960, 254064, 0, 8192, 2048, 34816, 2048, 8192, 8192, 9472, 9472, 0, 8448, 256, 256, 0, 0, 0, 0, 8192, 8192, 0, 0, 0, 0]
def tOz : List Bool := [false, false, false, false, false, true, false, false, false, false, false, true, false, false, false, false, false, true, false, false, false, false, false, false, false, false, false, false, false, false, false, false, true, false, false, false, false, false, true, true, true, true]
def tFn : List Nat := [51, 53, 56, 57, 58, 60, 62, 63, 64, 65, 67, 68, 69, 70, 71, 72, 73, 74, 75, 77, 79, 80, 81, 83, 84, 85, 86, 87, 88, 89, 90, 91, 93, 94, 95, 96, 97, 98, 99, 100, 101, 102]
def rowCs (i : Nat) : List Value := [.int .i64 (tNum.getD i 0), .int .u32 (tMust.getD i 0 : Nat), .int .u32 (tMay.getD i 0 : Nat), .bool (tOz.getD i false), .func (.func (tFn.getD i 0)) #[] #[]]
def rowsCs : List Value := [.int .i64 35, .int .u32 262142, .int .u32 0, .bool false, .func (.func 51) #[] #[], .int .i64 49, .int .u32 262142, .int .u32 0, .bool false, .func (.func 53) #[] #[], .int .i64 56, .int .u32 262142, .int .u32 0, .bool false, .func (.func 56) #[] #[], .int .i64 34, .int .u32 262142, .int .u32 0, .bool false, .func (.func 57) #[] #[], .int .i64 43, .int .u32 0, .int .u32 262142, .bool false, .func (.func 58) #[] #[], .int .i64 52, .int .u32 262142, .int .u32 0, .bool true, .func (.func 60) #[] #[], .int .i64 122, .int .u32 0, .int .u32 262142, .bool false, .func (.func 62) #[] #[], .int .i64 108, .int .u32 128, .int .u32 0, .bool false, .func (.func 63) #[] #[], .int .i64 141, .int .u32 0, .int .u32 128, .bool false, .func (.func 64) #[] #[], .int .i64 112, .int .u32 4, .int .u32 2, .bool false, .func (.func 65) #[] #[], .int .i64 7, .int .u32 8, .int .u32 0, .bool false, .func (.func 67) #[] #[], .int .i64 16, .int .u32 8, .int .u32 0, .bool true, .func (.func 68) #[] #[], .int .i64 36, .int .u32 32, .int .u32 0, .bool false, .func (.func 69) #[] #[], .int .i64 123, .int .u32 0, .int .u32 32, .bool false, .func (.func 70) #[] #[], .int .i64 45, .int .u32 65552, .int .u32 0, .bool false, .func (.func 71) #[] #[], .int .i64 372, .int .u32 65536, .int .u32 16, .bool false, .func (.func 72) #[] #[], .int .i64 371, .int .u32 0, .int .u32 16, .bool false, .func (.func 73) #[] #[], .int .i64 373, .int .u32 81936, .int .u32 40960, .bool true, .func (.func 74) #[] #[], .int .i64 58, .int .u32 0, .int .u32 254064, .bool false, .func (.func 75) #[] #[], .int .i64 11, .int .u32 65280, .int .u32 0, .bool false, .func (.func 77) #[] #[], .int .i64 41, .int .u32 17920, .int .u32 8192, .bool false, .func (.func 79) #[] #[], .int .i64 1, .int .u32 8448, .int .u32 2048, .bool false, .func (.func 80) #[] #[], .int .i64 55, .int .u32 145152, .int .u32 34816, .bool false, .func (.func 81) #[] #[], .int .i64 54, .int .u32 14080, .int .u32 2048, .bool false, .func (.func 83) #[] #[], .int .i64 40, .int .u32 256, .int .u32 8192, .bool false, .func (.func 84) #[] #[], .int .i64 59, .int .u32 256, .int .u32 8192, .bool false, .func (.func 85) #[] #[], .int .i64 44, .int .u32 0, .int .u32 9472, .bool false, .func (.func 86) #[] #[], .int .i64 99, .int .u32 0, .int .u32 9472, .bool false, .func (.func 87) #[] #[], .int .i64 38, .int .u32 9472, .int .u32 0, .bool false, .func (.func 88) #[] #[], .int .i64 111, .int .u32 0, .int .u32 8448, .bool false, .func (.func 89) #[] #[], .int .i64 110, .int .u32 0, .int .u32 256, .bool false, .func (.func 90) #[] #[], .int .i64 432, .int .u32 0, .int .u32 256, .bool false, .func (.func 91) #[] #[], .int .i64 37, .int .u32 24576, .int .u32 0, .bool true, .func (.func 93) #[] #[], .int .i64 17, .int .u32 8192, .int .u32 0, .bool false, .func (.func 94) #[] #[], .int .i64 150, .int .u32 8192, .int .u32 0, .bool false, .func (.func 95) #[] #[], .int .i64 39, .int .u32 24576, .int .u32 0, .bool false, .func (.func 96) #[] #[], .int .i64 31, .int .u32 0, .int .u32 8192, .bool false, .func (.func 97) #[] #[], .int .i64 32, .int .u32 0, .int .u32 8192, .bool false, .func (.func 98) #[] #[], .int .i64 151, .int .u32 8192, .int .u32 0, .bool true, .func (.func 99) #[] #[], .int .i64 14, .int .u32 8192, .int .u32 0, .bool true, .func (.func 100) #[] #[], .int .i64 326, .int .u32 131072, .int .u32 0, .bool true, .func (.func 101) #[] #[], .int .i64 533, .int .u32 32768, .int .u32 0, .bool true, .func (.func 102) #[] #[]]
set_option maxRecDepth 100000 in
set_option maxHeartbeats 800000 in
theorem rows_any (w : World) :
    Calls Tryz.prog 24 #[] w fun e w' => e = .returned (.agg rowsCs.toArray) ∧ Below w.heap.size w w' := by
  go_enter Tryz.func24, Tryz.ntmps24
  go_upto_region 1 with fail
  rename_i K hK
  refine wp_region_lit ?_
  iterate 43 (refine wpList_build rfl _ _ rfl (by kernel_rfl) ?_)
  refine wpList_store_row rfl 67 (.tmp 0) (.tmp 43) rfl w.heap.size rowsCs.toArray (by kernel_rfl) (by kernel_rfl) 67 _ (heap_alloc_new w _) (by kernel_rfl) (by kernel_rfl) (by kernel_rfl) ?_
  refine wpList_nil ?_
  refine hK _ _ ?_
  apply wp_ret
  show bodyPost Tryz.prog Tryz.f24 _ Exit.ret _ _
  refine bodyPost_ret (results_cell_row (fn := Tryz.f24) (p := 0) (ty := 67) rfl _ _ w.heap.size 67 rowsCs.toArray (0, 0) _ (by kernel_rfl) (setRow_heap _ _ _ _ _ _ (heap_alloc_new w _)) Tryz.underlying67 rfl (by kernel_rfl)) (by kernel_rfl) ⟨rfl, below_setRow ((Below.refl _ w).alloc (Nat.le_refl _) _) (Nat.le_refl _) _⟩

end Go.Proofs.YtchkpggdndnpjaaGreatDoor
