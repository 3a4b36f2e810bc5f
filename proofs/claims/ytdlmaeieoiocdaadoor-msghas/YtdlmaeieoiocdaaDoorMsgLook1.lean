/-
  msg: what the table's rows look at.
-/
import Derived.Test.YtdlmaeieoiocdaaDoorMsgCheck
namespace Go.Proofs.YtdlmaeieoiocdaaDoor
set_option linter.unusedVariables false
open Go.RowKit

set_option maxRecDepth 100000 in
set_option maxHeartbeats 400000 in
theorem look14 (z : Int) (B : Nat) (w : World) (hc : w.cell? ⟨B, 14, none⟩ = some (.int .i64 z)) :
    Calls Tryd.prog 64 #[.pointer (some ⟨B, 0, none⟩)] w fun e w' => e = .returned (.int .i64 (stN z 999999999 : Int)) ∧ w' = w := by
  go_enter Tryd.func64, Tryd.ntmps64
  go_wp2_with (go_at_call 46; refine (number_int_any _ _ _).mono ?_; rintro e w ⟨rfl, rfl⟩)
  go_ret
  exact ⟨rfl, rfl⟩
set_option maxRecDepth 100000 in
set_option maxHeartbeats 400000 in
theorem look15 (z : Int) (B : Nat) (w : World) (hc : w.cell? ⟨B, 15, none⟩ = some (.int .i64 z)) :
    Calls Tryd.prog 65 #[.pointer (some ⟨B, 0, none⟩)] w fun e w' => e = .returned (.int .i64 (stN z 17 : Int)) ∧ w' = w := by
  go_enter Tryd.func65, Tryd.ntmps65
  go_wp2_with (go_at_call 46; refine (number_int_any _ _ _).mono ?_; rintro e w ⟨rfl, rfl⟩)
  go_ret
  exact ⟨rfl, rfl⟩
set_option maxRecDepth 100000 in
set_option maxHeartbeats 400000 in
theorem look16 (z : Int) (B : Nat) (w : World) (hc : w.cell? ⟨B, 16, none⟩ = some (.int .i64 z)) :
    Calls Tryd.prog 66 #[.pointer (some ⟨B, 0, none⟩)] w fun e w' => e = .returned (.int .i64 (stN z 9999 : Int)) ∧ w' = w := by
  go_enter Tryd.func66, Tryd.ntmps66
  go_wp2_with (go_at_call 46; refine (number_int_any _ _ _).mono ?_; rintro e w ⟨rfl, rfl⟩)
  go_ret
  exact ⟨rfl, rfl⟩
set_option maxRecDepth 100000 in
set_option maxHeartbeats 400000 in
theorem look17 (z : Int) (B : Nat) (w : World) (hc : w.cell? ⟨B, 17, none⟩ = some (.int .i64 z)) :
    Calls Tryd.prog 67 #[.pointer (some ⟨B, 0, none⟩)] w fun e w' => e = .returned (.int .i64 (stN z 999 : Int)) ∧ w' = w := by
  go_enter Tryd.func67, Tryd.ntmps67
  go_wp2_with (go_at_call 46; refine (number_int_any _ _ _).mono ?_; rintro e w ⟨rfl, rfl⟩)
  go_ret
  exact ⟨rfl, rfl⟩
set_option maxRecDepth 100000 in
set_option maxHeartbeats 400000 in
theorem look18 (s : ByteArray) (B : Nat) (w : World) (hc : w.cell? ⟨B, 18, none⟩ = some (.string s)) :
    Calls Tryd.prog 68 #[.pointer (some ⟨B, 0, none⟩)] w fun e w' => e = .returned (.int .i64 (stT txS s : Int)) ∧ w' = w := by
  go_enter Tryd.func68, Tryd.ntmps68
  go_wp2_with (go_at_call 48; refine (text_txS _ _).mono ?_; rintro e w ⟨rfl, rfl⟩)
  go_ret
  exact ⟨rfl, rfl⟩
set_option maxRecDepth 100000 in
set_option maxHeartbeats 400000 in
theorem look19 (s : ByteArray) (B : Nat) (w : World) (hc : w.cell? ⟨B, 19, none⟩ = some (.string s)) :
    Calls Tryd.prog 69 #[.pointer (some ⟨B, 0, none⟩)] w fun e w' => e = .returned (.int .i64 (stT idS s : Int)) ∧ w' = w := by
  go_enter Tryd.func69, Tryd.ntmps69
  go_wp2_with (go_at_call 48; refine (text_idS _ _).mono ?_; rintro e w ⟨rfl, rfl⟩)
  go_ret
  exact ⟨rfl, rfl⟩
set_option maxRecDepth 100000 in
set_option maxHeartbeats 400000 in
theorem look20 (s : ByteArray) (B : Nat) (w : World) (hc : w.cell? ⟨B, 20, none⟩ = some (.string s)) :
    Calls Tryd.prog 70 #[.pointer (some ⟨B, 0, none⟩)] w fun e w' => e = .returned (.int .i64 (stT idS s : Int)) ∧ w' = w := by
  go_enter Tryd.func70, Tryd.ntmps70
  go_wp2_with (go_at_call 48; refine (text_idS _ _).mono ?_; rintro e w ⟨rfl, rfl⟩)
  go_ret
  exact ⟨rfl, rfl⟩
set_option maxRecDepth 100000 in
set_option maxHeartbeats 400000 in
theorem look21 (s : ByteArray) (B : Nat) (w : World) (hc : w.cell? ⟨B, 21, none⟩ = some (.string s)) :
    Calls Tryd.prog 71 #[.pointer (some ⟨B, 0, none⟩)] w fun e w' => e = .returned (.int .i64 (stT nmS s : Int)) ∧ w' = w := by
  go_enter Tryd.func71, Tryd.ntmps71
  go_wp2_with (go_at_call 48; refine (text_nmS _ _).mono ?_; rintro e w ⟨rfl, rfl⟩)
  go_ret
  exact ⟨rfl, rfl⟩
set_option maxRecDepth 100000 in
set_option maxHeartbeats 400000 in
theorem look22 (s : ByteArray) (B : Nat) (w : World) (hc : w.cell? ⟨B, 22, none⟩ = some (.string s)) :
    Calls Tryd.prog 72 #[.pointer (some ⟨B, 0, none⟩)] w fun e w' => e = .returned (.int .i64 (stT syS s : Int)) ∧ w' = w := by
  go_enter Tryd.func72, Tryd.ntmps72
  go_wp2_with (go_at_call 48; refine (text_syS _ _).mono ?_; rintro e w ⟨rfl, rfl⟩)
  go_ret
  exact ⟨rfl, rfl⟩
set_option maxRecDepth 100000 in
set_option maxHeartbeats 400000 in
theorem look23 (z : Int) (B : Nat) (w : World) (hc : w.cell? ⟨B, 23, none⟩ = some (.int .i64 z)) :
    Calls Tryd.prog 73 #[.pointer (some ⟨B, 0, none⟩)] w fun e w' => e = .returned (.int .i64 (stN z 2 : Int)) ∧ w' = w := by
  go_enter Tryd.func73, Tryd.ntmps73
  go_wp2_with (go_at_call 46; refine (number_int_any _ _ _).mono ?_; rintro e w ⟨rfl, rfl⟩)
  go_ret
  exact ⟨rfl, rfl⟩
set_option maxRecDepth 100000 in
set_option maxHeartbeats 400000 in
theorem look24 (z : Int) (B : Nat) (w : World) (hc : w.cell? ⟨B, 24, none⟩ = some (.int .i64 z)) :
    Calls Tryd.prog 74 #[.pointer (some ⟨B, 0, none⟩)] w fun e w' => e = .returned (.int .i64 (stN z 4 : Int)) ∧ w' = w := by
  go_enter Tryd.func74, Tryd.ntmps74
  go_wp2_with (go_at_call 46; refine (number_int_any _ _ _).mono ?_; rintro e w ⟨rfl, rfl⟩)
  go_ret
  exact ⟨rfl, rfl⟩
set_option maxRecDepth 100000 in
set_option maxHeartbeats 400000 in
theorem look25 (z : Int) (B : Nat) (w : World) (hc : w.cell? ⟨B, 25, none⟩ = some (.int .i64 z)) :
    Calls Tryd.prog 75 #[.pointer (some ⟨B, 0, none⟩)] w fun e w' => e = .returned (.int .i64 (stN z 7 : Int)) ∧ w' = w := by
  go_enter Tryd.func75, Tryd.ntmps75
  go_wp2_with (go_at_call 46; refine (number_int_any _ _ _).mono ?_; rintro e w ⟨rfl, rfl⟩)
  go_ret
  exact ⟨rfl, rfl⟩
set_option maxRecDepth 100000 in
set_option maxHeartbeats 400000 in
theorem look26 (z : Int) (B : Nat) (w : World) (hc : w.cell? ⟨B, 26, none⟩ = some (.int .i64 z)) :
    Calls Tryd.prog 76 #[.pointer (some ⟨B, 0, none⟩)] w fun e w' => e = .returned (.int .i64 (stN z 1000000000 : Int)) ∧ w' = w := by
  go_enter Tryd.func76, Tryd.ntmps76
  go_wp2_with (go_at_call 54; refine (number_int64_any _ _ _).mono ?_; rintro e w ⟨rfl, rfl⟩)
  go_ret
  exact ⟨rfl, rfl⟩
set_option maxRecDepth 100000 in
set_option maxHeartbeats 400000 in
theorem look27 (z : Int) (B : Nat) (w : World) (hc : w.cell? ⟨B, 27, none⟩ = some (.int .i64 z)) :
    Calls Tryd.prog 77 #[.pointer (some ⟨B, 0, none⟩)] w fun e w' => e = .returned (.int .i64 (stN z 1000000000 : Int)) ∧ w' = w := by
  go_enter Tryd.func77, Tryd.ntmps77
  go_wp2_with (go_at_call 54; refine (number_int64_any _ _ _).mono ?_; rintro e w ⟨rfl, rfl⟩)
  go_ret
  exact ⟨rfl, rfl⟩

end Go.Proofs.YtdlmaeieoiocdaaDoor
