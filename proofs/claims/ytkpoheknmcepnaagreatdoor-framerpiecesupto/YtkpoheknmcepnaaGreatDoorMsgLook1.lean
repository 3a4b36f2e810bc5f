/-
  msg: what the table's rows look at.
-/
import Derived.Test.YtkpoheknmcepnaaGreatDoorMsgCheck
namespace Go.Proofs.YtkpoheknmcepnaaGreatDoor
set_option linter.unusedVariables false
open Go.RowKit

set_option maxRecDepth 100000 in
set_option maxHeartbeats 400000 in
theorem look14 (z : Int) (B : Nat) (w : World) (hc : w.cell? ⟨B, 14, none⟩ = some (.int .i64 z)) :
    Calls Tryz.prog 96 #[.pointer (some ⟨B, 0, none⟩)] w fun e w' => e = .returned (.int .i64 (stN z 999999999 : Int)) ∧ w' = w := by
  go_enter Tryz.func96, Tryz.ntmps96
  go_wp2_with (go_at_call 77; refine (number_int_any _ _ _).mono ?_; rintro e w ⟨rfl, rfl⟩)
  go_ret
  exact ⟨rfl, rfl⟩
set_option maxRecDepth 100000 in
set_option maxHeartbeats 400000 in
theorem look15 (z : Int) (B : Nat) (w : World) (hc : w.cell? ⟨B, 15, none⟩ = some (.int .i64 z)) :
    Calls Tryz.prog 97 #[.pointer (some ⟨B, 0, none⟩)] w fun e w' => e = .returned (.int .i64 (stN z 17 : Int)) ∧ w' = w := by
  go_enter Tryz.func97, Tryz.ntmps97
  go_wp2_with (go_at_call 77; refine (number_int_any _ _ _).mono ?_; rintro e w ⟨rfl, rfl⟩)
  go_ret
  exact ⟨rfl, rfl⟩
set_option maxRecDepth 100000 in
set_option maxHeartbeats 400000 in
theorem look16 (z : Int) (B : Nat) (w : World) (hc : w.cell? ⟨B, 16, none⟩ = some (.int .i64 z)) :
    Calls Tryz.prog 98 #[.pointer (some ⟨B, 0, none⟩)] w fun e w' => e = .returned (.int .i64 (stN z 9999 : Int)) ∧ w' = w := by
  go_enter Tryz.func98, Tryz.ntmps98
  go_wp2_with (go_at_call 77; refine (number_int_any _ _ _).mono ?_; rintro e w ⟨rfl, rfl⟩)
  go_ret
  exact ⟨rfl, rfl⟩
set_option maxRecDepth 100000 in
set_option maxHeartbeats 400000 in
theorem look17 (z : Int) (B : Nat) (w : World) (hc : w.cell? ⟨B, 17, none⟩ = some (.int .i64 z)) :
    Calls Tryz.prog 99 #[.pointer (some ⟨B, 0, none⟩)] w fun e w' => e = .returned (.int .i64 (stN z 999 : Int)) ∧ w' = w := by
  go_enter Tryz.func99, Tryz.ntmps99
  go_wp2_with (go_at_call 77; refine (number_int_any _ _ _).mono ?_; rintro e w ⟨rfl, rfl⟩)
  go_ret
  exact ⟨rfl, rfl⟩
set_option maxRecDepth 100000 in
set_option maxHeartbeats 400000 in
theorem look18 (s : ByteArray) (B : Nat) (w : World) (hc : w.cell? ⟨B, 18, none⟩ = some (.string s)) :
    Calls Tryz.prog 100 #[.pointer (some ⟨B, 0, none⟩)] w fun e w' => e = .returned (.int .i64 (stT txS s : Int)) ∧ w' = w := by
  go_enter Tryz.func100, Tryz.ntmps100
  go_wp2_with (go_at_call 79; refine (text_txS _ _).mono ?_; rintro e w ⟨rfl, rfl⟩)
  go_ret
  exact ⟨rfl, rfl⟩
set_option maxRecDepth 100000 in
set_option maxHeartbeats 400000 in
theorem look19 (s : ByteArray) (B : Nat) (w : World) (hc : w.cell? ⟨B, 19, none⟩ = some (.string s)) :
    Calls Tryz.prog 102 #[.pointer (some ⟨B, 0, none⟩)] w fun e w' => e = .returned (.int .i64 (stT idS s : Int)) ∧ w' = w := by
  go_enter Tryz.func102, Tryz.ntmps102
  go_wp2_with (go_at_call 79; refine (text_idS _ _).mono ?_; rintro e w ⟨rfl, rfl⟩)
  go_ret
  exact ⟨rfl, rfl⟩
set_option maxRecDepth 100000 in
set_option maxHeartbeats 400000 in
theorem look20 (s : ByteArray) (B : Nat) (w : World) (hc : w.cell? ⟨B, 20, none⟩ = some (.string s)) :
    Calls Tryz.prog 104 #[.pointer (some ⟨B, 0, none⟩)] w fun e w' => e = .returned (.int .i64 (stT idS s : Int)) ∧ w' = w := by
  go_enter Tryz.func104, Tryz.ntmps104
  go_wp2_with (go_at_call 79; refine (text_idS _ _).mono ?_; rintro e w ⟨rfl, rfl⟩)
  go_ret
  exact ⟨rfl, rfl⟩
set_option maxRecDepth 100000 in
set_option maxHeartbeats 400000 in
theorem look21 (s : ByteArray) (B : Nat) (w : World) (hc : w.cell? ⟨B, 21, none⟩ = some (.string s)) :
    Calls Tryz.prog 105 #[.pointer (some ⟨B, 0, none⟩)] w fun e w' => e = .returned (.int .i64 (stT nmS s : Int)) ∧ w' = w := by
  go_enter Tryz.func105, Tryz.ntmps105
  go_wp2_with (go_at_call 79; refine (text_nmS _ _).mono ?_; rintro e w ⟨rfl, rfl⟩)
  go_ret
  exact ⟨rfl, rfl⟩
set_option maxRecDepth 100000 in
set_option maxHeartbeats 400000 in
theorem look22 (s : ByteArray) (B : Nat) (w : World) (hc : w.cell? ⟨B, 22, none⟩ = some (.string s)) :
    Calls Tryz.prog 106 #[.pointer (some ⟨B, 0, none⟩)] w fun e w' => e = .returned (.int .i64 (stT syS s : Int)) ∧ w' = w := by
  go_enter Tryz.func106, Tryz.ntmps106
  go_wp2_with (go_at_call 79; refine (text_syS _ _).mono ?_; rintro e w ⟨rfl, rfl⟩)
  go_ret
  exact ⟨rfl, rfl⟩
set_option maxRecDepth 100000 in
set_option maxHeartbeats 400000 in
theorem look23 (z : Int) (B : Nat) (w : World) (hc : w.cell? ⟨B, 23, none⟩ = some (.int .i64 z)) :
    Calls Tryz.prog 108 #[.pointer (some ⟨B, 0, none⟩)] w fun e w' => e = .returned (.int .i64 (stN z 2 : Int)) ∧ w' = w := by
  go_enter Tryz.func108, Tryz.ntmps108
  go_wp2_with (go_at_call 77; refine (number_int_any _ _ _).mono ?_; rintro e w ⟨rfl, rfl⟩)
  go_ret
  exact ⟨rfl, rfl⟩
set_option maxRecDepth 100000 in
set_option maxHeartbeats 400000 in
theorem look24 (z : Int) (B : Nat) (w : World) (hc : w.cell? ⟨B, 24, none⟩ = some (.int .i64 z)) :
    Calls Tryz.prog 109 #[.pointer (some ⟨B, 0, none⟩)] w fun e w' => e = .returned (.int .i64 (stN z 4 : Int)) ∧ w' = w := by
  go_enter Tryz.func109, Tryz.ntmps109
  go_wp2_with (go_at_call 77; refine (number_int_any _ _ _).mono ?_; rintro e w ⟨rfl, rfl⟩)
  go_ret
  exact ⟨rfl, rfl⟩
set_option maxRecDepth 100000 in
set_option maxHeartbeats 400000 in
theorem look25 (z : Int) (B : Nat) (w : World) (hc : w.cell? ⟨B, 25, none⟩ = some (.int .i64 z)) :
    Calls Tryz.prog 110 #[.pointer (some ⟨B, 0, none⟩)] w fun e w' => e = .returned (.int .i64 (stN z 7 : Int)) ∧ w' = w := by
  go_enter Tryz.func110, Tryz.ntmps110
  go_wp2_with (go_at_call 77; refine (number_int_any _ _ _).mono ?_; rintro e w ⟨rfl, rfl⟩)
  go_ret
  exact ⟨rfl, rfl⟩
set_option maxRecDepth 100000 in
set_option maxHeartbeats 400000 in
theorem look26 (z : Int) (B : Nat) (w : World) (hc : w.cell? ⟨B, 26, none⟩ = some (.int .i64 z)) :
    Calls Tryz.prog 111 #[.pointer (some ⟨B, 0, none⟩)] w fun e w' => e = .returned (.int .i64 (stN z 1000000000 : Int)) ∧ w' = w := by
  go_enter Tryz.func111, Tryz.ntmps111
  go_wp2_with (go_at_call 86; refine (number_int64_any _ _ _).mono ?_; rintro e w ⟨rfl, rfl⟩)
  go_ret
  exact ⟨rfl, rfl⟩
set_option maxRecDepth 100000 in
set_option maxHeartbeats 400000 in
theorem look27 (z : Int) (B : Nat) (w : World) (hc : w.cell? ⟨B, 27, none⟩ = some (.int .i64 z)) :
    Calls Tryz.prog 112 #[.pointer (some ⟨B, 0, none⟩)] w fun e w' => e = .returned (.int .i64 (stN z 1000000000 : Int)) ∧ w' = w := by
  go_enter Tryz.func112, Tryz.ntmps112
  go_wp2_with (go_at_call 86; refine (number_int64_any _ _ _).mono ?_; rintro e w ⟨rfl, rfl⟩)
  go_ret
  exact ⟨rfl, rfl⟩

end Go.Proofs.YtkpoheknmcepnaaGreatDoor
