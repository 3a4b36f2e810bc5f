import Derived.Test.YtchkpggdndnpjabGreatDoorG03
import Derived.Test.YtchkpggdndnpjabGreatDoorG04

namespace Go.Proofs.YtchkpggdndnpjabGreatDoor
set_option linter.unusedVariables false
open Go.RowKit

set_option maxRecDepth 100000 in
set_option maxHeartbeats 400000 in
theorem look14 (z : Int) (B : Nat) (w : World) (hc : w.cell? ⟨B, 14, none⟩ = some (.int .i64 z)) :
    Calls Tryz.prog 91 #[.pointer (some ⟨B, 0, none⟩)] w fun e w' => e = .returned (.int .i64 (stN z 999999999 : Int)) ∧ w' = w := by
  go_enter Tryz.func91, Tryz.ntmps91
  go_wp2_with (go_at_call 72; refine (number_int_any _ _ _).mono ?_; rintro e w ⟨rfl, rfl⟩)
  go_ret
  exact ⟨rfl, rfl⟩
set_option maxRecDepth 100000 in
set_option maxHeartbeats 400000 in
theorem look15 (z : Int) (B : Nat) (w : World) (hc : w.cell? ⟨B, 15, none⟩ = some (.int .i64 z)) :
    Calls Tryz.prog 92 #[.pointer (some ⟨B, 0, none⟩)] w fun e w' => e = .returned (.int .i64 (stN z 17 : Int)) ∧ w' = w := by
  go_enter Tryz.func92, Tryz.ntmps92
  go_wp2_with (go_at_call 72; refine (number_int_any _ _ _).mono ?_; rintro e w ⟨rfl, rfl⟩)
  go_ret
  exact ⟨rfl, rfl⟩
set_option maxRecDepth 100000 in
set_option maxHeartbeats 400000 in
theorem look16 (z : Int) (B : Nat) (w : World) (hc : w.cell? ⟨B, 16, none⟩ = some (.int .i64 z)) :
    Calls Tryz.prog 93 #[.pointer (some ⟨B, 0, none⟩)] w fun e w' => e = .returned (.int .i64 (stN z 9999 : Int)) ∧ w' = w := by
  go_enter Tryz.func93, Tryz.ntmps93
  go_wp2_with (go_at_call 72; refine (number_int_any _ _ _).mono ?_; rintro e w ⟨rfl, rfl⟩)
  go_ret
  exact ⟨rfl, rfl⟩
set_option maxRecDepth 100000 in
set_option maxHeartbeats 400000 in
theorem look17 (z : Int) (B : Nat) (w : World) (hc : w.cell? ⟨B, 17, none⟩ = some (.int .i64 z)) :
    Calls Tryz.prog 94 #[.pointer (some ⟨B, 0, none⟩)] w fun e w' => e = .returned (.int .i64 (stN z 999 : Int)) ∧ w' = w := by
  go_enter Tryz.func94, Tryz.ntmps94
  go_wp2_with (go_at_call 72; refine (number_int_any _ _ _).mono ?_; rintro e w ⟨rfl, rfl⟩)
  go_ret
  exact ⟨rfl, rfl⟩
set_option maxRecDepth 100000 in
set_option maxHeartbeats 400000 in
theorem look18 (s : ByteArray) (B : Nat) (w : World) (hc : w.cell? ⟨B, 18, none⟩ = some (.string s)) :
    Calls Tryz.prog 95 #[.pointer (some ⟨B, 0, none⟩)] w fun e w' => e = .returned (.int .i64 (stT txS s : Int)) ∧ w' = w := by
  go_enter Tryz.func95, Tryz.ntmps95
  go_wp2_with (go_at_call 74; refine (text_txS _ _).mono ?_; rintro e w ⟨rfl, rfl⟩)
  go_ret
  exact ⟨rfl, rfl⟩
set_option maxRecDepth 100000 in
set_option maxHeartbeats 400000 in
theorem look19 (s : ByteArray) (B : Nat) (w : World) (hc : w.cell? ⟨B, 19, none⟩ = some (.string s)) :
    Calls Tryz.prog 97 #[.pointer (some ⟨B, 0, none⟩)] w fun e w' => e = .returned (.int .i64 (stT idS s : Int)) ∧ w' = w := by
  go_enter Tryz.func97, Tryz.ntmps97
  go_wp2_with (go_at_call 74; refine (text_idS _ _).mono ?_; rintro e w ⟨rfl, rfl⟩)
  go_ret
  exact ⟨rfl, rfl⟩
set_option maxRecDepth 100000 in
set_option maxHeartbeats 400000 in
theorem look20 (s : ByteArray) (B : Nat) (w : World) (hc : w.cell? ⟨B, 20, none⟩ = some (.string s)) :
    Calls Tryz.prog 99 #[.pointer (some ⟨B, 0, none⟩)] w fun e w' => e = .returned (.int .i64 (stT idS s : Int)) ∧ w' = w := by
  go_enter Tryz.func99, Tryz.ntmps99
  go_wp2_with (go_at_call 74; refine (text_idS _ _).mono ?_; rintro e w ⟨rfl, rfl⟩)
  go_ret
  exact ⟨rfl, rfl⟩
set_option maxRecDepth 100000 in
set_option maxHeartbeats 400000 in
theorem look21 (s : ByteArray) (B : Nat) (w : World) (hc : w.cell? ⟨B, 21, none⟩ = some (.string s)) :
    Calls Tryz.prog 100 #[.pointer (some ⟨B, 0, none⟩)] w fun e w' => e = .returned (.int .i64 (stT nmS s : Int)) ∧ w' = w := by
  go_enter Tryz.func100, Tryz.ntmps100
  go_wp2_with (go_at_call 74; refine (text_nmS _ _).mono ?_; rintro e w ⟨rfl, rfl⟩)
  go_ret
  exact ⟨rfl, rfl⟩
set_option maxRecDepth 100000 in
set_option maxHeartbeats 400000 in
theorem look22 (s : ByteArray) (B : Nat) (w : World) (hc : w.cell? ⟨B, 22, none⟩ = some (.string s)) :
    Calls Tryz.prog 101 #[.pointer (some ⟨B, 0, none⟩)] w fun e w' => e = .returned (.int .i64 (stT syS s : Int)) ∧ w' = w := by
  go_enter Tryz.func101, Tryz.ntmps101
  go_wp2_with (go_at_call 74; refine (text_syS _ _).mono ?_; rintro e w ⟨rfl, rfl⟩)
  go_ret
  exact ⟨rfl, rfl⟩
set_option maxRecDepth 100000 in
set_option maxHeartbeats 400000 in
theorem look23 (z : Int) (B : Nat) (w : World) (hc : w.cell? ⟨B, 23, none⟩ = some (.int .i64 z)) :
    Calls Tryz.prog 103 #[.pointer (some ⟨B, 0, none⟩)] w fun e w' => e = .returned (.int .i64 (stN z 2 : Int)) ∧ w' = w := by
  go_enter Tryz.func103, Tryz.ntmps103
  go_wp2_with (go_at_call 72; refine (number_int_any _ _ _).mono ?_; rintro e w ⟨rfl, rfl⟩)
  go_ret
  exact ⟨rfl, rfl⟩
set_option maxRecDepth 100000 in
set_option maxHeartbeats 400000 in
theorem look24 (z : Int) (B : Nat) (w : World) (hc : w.cell? ⟨B, 24, none⟩ = some (.int .i64 z)) :
    Calls Tryz.prog 104 #[.pointer (some ⟨B, 0, none⟩)] w fun e w' => e = .returned (.int .i64 (stN z 4 : Int)) ∧ w' = w := by
  go_enter Tryz.func104, Tryz.ntmps104
  go_wp2_with (go_at_call 72; refine (number_int_any _ _ _).mono ?_; rintro e w ⟨rfl, rfl⟩)
  go_ret
  exact ⟨rfl, rfl⟩
set_option maxRecDepth 100000 in
set_option maxHeartbeats 400000 in
theorem look25 (z : Int) (B : Nat) (w : World) (hc : w.cell? ⟨B, 25, none⟩ = some (.int .i64 z)) :
    Calls Tryz.prog 105 #[.pointer (some ⟨B, 0, none⟩)] w fun e w' => e = .returned (.int .i64 (stN z 7 : Int)) ∧ w' = w := by
  go_enter Tryz.func105, Tryz.ntmps105
  go_wp2_with (go_at_call 72; refine (number_int_any _ _ _).mono ?_; rintro e w ⟨rfl, rfl⟩)
  go_ret
  exact ⟨rfl, rfl⟩
set_option maxRecDepth 100000 in
set_option maxHeartbeats 400000 in
theorem look26 (z : Int) (B : Nat) (w : World) (hc : w.cell? ⟨B, 26, none⟩ = some (.int .i64 z)) :
    Calls Tryz.prog 106 #[.pointer (some ⟨B, 0, none⟩)] w fun e w' => e = .returned (.int .i64 (stN z 1000000000 : Int)) ∧ w' = w := by
  go_enter Tryz.func106, Tryz.ntmps106
  go_wp2_with (go_at_call 81; refine (number_int64_any _ _ _).mono ?_; rintro e w ⟨rfl, rfl⟩)
  go_ret
  exact ⟨rfl, rfl⟩
set_option maxRecDepth 100000 in
set_option maxHeartbeats 400000 in
theorem look27 (z : Int) (B : Nat) (w : World) (hc : w.cell? ⟨B, 27, none⟩ = some (.int .i64 z)) :
    Calls Tryz.prog 107 #[.pointer (some ⟨B, 0, none⟩)] w fun e w' => e = .returned (.int .i64 (stN z 1000000000 : Int)) ∧ w' = w := by
  go_enter Tryz.func107, Tryz.ntmps107
  go_wp2_with (go_at_call 81; refine (number_int64_any _ _ _).mono ?_; rintro e w ⟨rfl, rfl⟩)
  go_ret
  exact ⟨rfl, rfl⟩

end Go.Proofs.YtchkpggdndnpjabGreatDoor

namespace Go.Proofs.YtchkpggdndnpjabGreatDoor
set_option linter.unusedVariables false
open Go.RowKit

set_option maxRecDepth 100000 in
set_option maxHeartbeats 400000 in
theorem look28 (z : Int) (B : Nat) (w : World) (hc : w.cell? ⟨B, 28, none⟩ = some (.int .i64 z)) :
    Calls Tryz.prog 108 #[.pointer (some ⟨B, 0, none⟩)] w fun e w' => e = .returned (.int .i64 (stN z 1000000 : Int)) ∧ w' = w := by
  go_enter Tryz.func108, Tryz.ntmps108
  go_wp2_with (go_at_call 81; refine (number_int64_any _ _ _).mono ?_; rintro e w ⟨rfl, rfl⟩)
  go_ret
  exact ⟨rfl, rfl⟩
set_option maxRecDepth 100000 in
set_option maxHeartbeats 400000 in
theorem look29 (z : Int) (B : Nat) (w : World) (hc : w.cell? ⟨B, 29, none⟩ = some (.int .i64 z)) :
    Calls Tryz.prog 109 #[.pointer (some ⟨B, 0, none⟩)] w fun e w' => e = .returned (.int .i64 (stN z 1000000 : Int)) ∧ w' = w := by
  go_enter Tryz.func109, Tryz.ntmps109
  go_wp2_with (go_at_call 81; refine (number_int64_any _ _ _).mono ?_; rintro e w ⟨rfl, rfl⟩)
  go_ret
  exact ⟨rfl, rfl⟩
set_option maxRecDepth 100000 in
set_option maxHeartbeats 400000 in
theorem look30 (z : Int) (B : Nat) (w : World) (hc : w.cell? ⟨B, 30, none⟩ = some (.int .i64 z)) :
    Calls Tryz.prog 110 #[.pointer (some ⟨B, 0, none⟩)] w fun e w' => e = .returned (.int .i64 (stN z 1000000 : Int)) ∧ w' = w := by
  go_enter Tryz.func110, Tryz.ntmps110
  go_wp2_with (go_at_call 81; refine (number_int64_any _ _ _).mono ?_; rintro e w ⟨rfl, rfl⟩)
  go_ret
  exact ⟨rfl, rfl⟩
set_option maxRecDepth 100000 in
set_option maxHeartbeats 400000 in
theorem look31 (z : Int) (B : Nat) (w : World) (hM : Mon w) (h0 : -9223372036854775808 ≤ z) (h1 : z ≤ 9223372036854775807) (hc : w.cell? ⟨B, 31, none⟩ = some (.int .i64 z)) :
    Calls Tryz.prog 111 #[.pointer (some ⟨B, 0, none⟩)] w fun e w' => e = .returned (.int .i64 (stD z : Int)) ∧ w' = w := by
  go_enter Tryz.func111, Tryz.ntmps111
  go_wp2_with (go_at_call 112; refine (date_any _ _ hM h0 h1).mono ?_; rintro e w ⟨rfl, rfl⟩)
  go_ret
  exact ⟨rfl, rfl⟩
set_option maxRecDepth 100000 in
set_option maxHeartbeats 400000 in
theorem look32 (z : Int) (B : Nat) (w : World) (hc : w.cell? ⟨B, 32, none⟩ = some (.int .i64 z)) :
    Calls Tryz.prog 113 #[.pointer (some ⟨B, 0, none⟩)] w fun e w' => e = .returned (.int .i64 (stN z 999999999 : Int)) ∧ w' = w := by
  go_enter Tryz.func113, Tryz.ntmps113
  go_wp2_with (go_at_call 72; refine (number_int_any _ _ _).mono ?_; rintro e w ⟨rfl, rfl⟩)
  go_ret
  exact ⟨rfl, rfl⟩
set_option maxRecDepth 100000 in
set_option maxHeartbeats 400000 in
theorem look33 (z : Int) (B : Nat) (w : World) (hc : w.cell? ⟨B, 33, none⟩ = some (.int .i64 z)) :
    Calls Tryz.prog 114 #[.pointer (some ⟨B, 0, none⟩)] w fun e w' => e = .returned (.int .i64 (stN z 999999999 : Int)) ∧ w' = w := by
  go_enter Tryz.func114, Tryz.ntmps114
  go_wp2_with (go_at_call 72; refine (number_int_any _ _ _).mono ?_; rintro e w ⟨rfl, rfl⟩)
  go_ret
  exact ⟨rfl, rfl⟩
set_option maxRecDepth 100000 in
set_option maxHeartbeats 400000 in
theorem look34 (z : Int) (B : Nat) (w : World) (hc : w.cell? ⟨B, 34, none⟩ = some (.int .i64 z)) :
    Calls Tryz.prog 115 #[.pointer (some ⟨B, 0, none⟩)] w fun e w' => e = .returned (.int .i64 (stN z 8 : Int)) ∧ w' = w := by
  go_enter Tryz.func115, Tryz.ntmps115
  go_wp2_with (go_at_call 72; refine (number_int_any _ _ _).mono ?_; rintro e w ⟨rfl, rfl⟩)
  go_ret
  exact ⟨rfl, rfl⟩
set_option maxRecDepth 100000 in
set_option maxHeartbeats 400000 in
theorem look35 (z : Int) (B : Nat) (w : World) (hc : w.cell? ⟨B, 35, none⟩ = some (.int .i64 z)) :
    Calls Tryz.prog 116 #[.pointer (some ⟨B, 0, none⟩)] w fun e w' => e = .returned (.int .i64 (stN z 6 : Int)) ∧ w' = w := by
  go_enter Tryz.func116, Tryz.ntmps116
  go_wp2_with (go_at_call 72; refine (number_int_any _ _ _).mono ?_; rintro e w ⟨rfl, rfl⟩)
  go_ret
  exact ⟨rfl, rfl⟩
set_option maxRecDepth 100000 in
set_option maxHeartbeats 400000 in
theorem look36 (z : Int) (B : Nat) (w : World) (hc : w.cell? ⟨B, 36, none⟩ = some (.int .i64 z)) :
    Calls Tryz.prog 117 #[.pointer (some ⟨B, 0, none⟩)] w fun e w' => e = .returned (.int .i64 (stN z 1000000000 : Int)) ∧ w' = w := by
  go_enter Tryz.func117, Tryz.ntmps117
  go_wp2_with (go_at_call 81; refine (number_int64_any _ _ _).mono ?_; rintro e w ⟨rfl, rfl⟩)
  go_ret
  exact ⟨rfl, rfl⟩
set_option maxRecDepth 100000 in
set_option maxHeartbeats 400000 in
theorem look37 (z : Int) (B : Nat) (w : World) (hc : w.cell? ⟨B, 37, none⟩ = some (.int .i64 z)) :
    Calls Tryz.prog 118 #[.pointer (some ⟨B, 0, none⟩)] w fun e w' => e = .returned (.int .i64 (stN z 1000000 : Int)) ∧ w' = w := by
  go_enter Tryz.func118, Tryz.ntmps118
  go_wp2_with (go_at_call 81; refine (number_int64_any _ _ _).mono ?_; rintro e w ⟨rfl, rfl⟩)
  go_ret
  exact ⟨rfl, rfl⟩
set_option maxRecDepth 100000 in
set_option maxHeartbeats 400000 in
theorem look38 (z : Int) (B : Nat) (w : World) (hc : w.cell? ⟨B, 38, none⟩ = some (.int .i64 z)) :
    Calls Tryz.prog 119 #[.pointer (some ⟨B, 0, none⟩)] w fun e w' => e = .returned (.int .i64 (stN z 1000000 : Int)) ∧ w' = w := by
  go_enter Tryz.func119, Tryz.ntmps119
  go_wp2_with (go_at_call 81; refine (number_int64_any _ _ _).mono ?_; rintro e w ⟨rfl, rfl⟩)
  go_ret
  exact ⟨rfl, rfl⟩
set_option maxRecDepth 100000 in
set_option maxHeartbeats 400000 in
theorem look39 (z : Int) (B : Nat) (w : World) (hc : w.cell? ⟨B, 39, none⟩ = some (.int .i64 z)) :
    Calls Tryz.prog 120 #[.pointer (some ⟨B, 0, none⟩)] w fun e w' => e = .returned (.int .i64 (stN z 1000000 : Int)) ∧ w' = w := by
  go_enter Tryz.func120, Tryz.ntmps120
  go_wp2_with (go_at_call 81; refine (number_int64_any _ _ _).mono ?_; rintro e w ⟨rfl, rfl⟩)
  go_ret
  exact ⟨rfl, rfl⟩
set_option maxRecDepth 100000 in
set_option maxHeartbeats 400000 in
theorem look40 (z : Int) (B : Nat) (w : World) (hc : w.cell? ⟨B, 40, none⟩ = some (.int .i64 z)) :
    Calls Tryz.prog 121 #[.pointer (some ⟨B, 0, none⟩)] w fun e w' => e = .returned (.int .i64 (stN z 5 : Int)) ∧ w' = w := by
  go_enter Tryz.func121, Tryz.ntmps121
  go_wp2_with (go_at_call 72; refine (number_int_any _ _ _).mono ?_; rintro e w ⟨rfl, rfl⟩)
  go_ret
  exact ⟨rfl, rfl⟩
set_option maxRecDepth 100000 in
set_option maxHeartbeats 400000 in
theorem look41 (z : Int) (B : Nat) (w : World) (hc : w.cell? ⟨B, 41, none⟩ = some (.int .i64 z)) :
    Calls Tryz.prog 122 #[.pointer (some ⟨B, 0, none⟩)] w fun e w' => e = .returned (.int .i64 (stN z 999999999 : Int)) ∧ w' = w := by
  go_enter Tryz.func122, Tryz.ntmps122
  go_wp2_with (go_at_call 72; refine (number_int_any _ _ _).mono ?_; rintro e w ⟨rfl, rfl⟩)
  go_ret
  exact ⟨rfl, rfl⟩

end Go.Proofs.YtchkpggdndnpjabGreatDoor

namespace Go.Proofs.YtchkpggdndnpjabGreatDoor
set_option linter.unusedVariables false
open Go.RowKit

/-- What there is of each field. -/
def stOf (M : Msg) : Nat → Nat
  | 0 => stN (M.z 0) 17
  | 1 => stT nmS (M.s 1)
  | 2 => stT nmS (M.s 2)
  | 3 => stN (M.z 3) 999999999
  | 4 => stB (M.b 4)
  | 5 => stN (M.z 5) 253402300799999
  | 6 => stN (M.z 6) 253402300799999
  | 7 => stN (M.z 7) 3600
  | 8 => stB (M.b 8)
  | 9 => stT tiS (M.s 9)
  | 10 => stN (M.z 10) 999999999
  | 11 => stN (M.z 11) 999999999
  | 12 => stN (M.z 12) 999999999
  | 13 => stB (M.b 13)
  | 14 => stN (M.z 14) 999999999
  | 15 => stN (M.z 15) 17
  | 16 => stN (M.z 16) 9999
  | 17 => stN (M.z 17) 999
  | 18 => stT txS (M.s 18)
  | 19 => stT idS (M.s 19)
  | 20 => stT idS (M.s 20)
  | 21 => stT nmS (M.s 21)
  | 22 => stT syS (M.s 22)
  | 23 => stN (M.z 23) 2
  | 24 => stN (M.z 24) 4
  | 25 => stN (M.z 25) 7
  | 26 => stN (M.z 26) 1000000000
  | 27 => stN (M.z 27) 1000000000
  | 28 => stN (M.z 28) 1000000
  | 29 => stN (M.z 29) 1000000
  | 30 => stN (M.z 30) 1000000
  | 31 => stD (M.z 31)
  | 32 => stN (M.z 32) 999999999
  | 33 => stN (M.z 33) 999999999
  | 34 => stN (M.z 34) 8
  | 35 => stN (M.z 35) 6
  | 36 => stN (M.z 36) 1000000000
  | 37 => stN (M.z 37) 1000000
  | 38 => stN (M.z 38) 1000000
  | 39 => stN (M.z 39) 1000000
  | 40 => stN (M.z 40) 5
  | 41 => stN (M.z 41) 999999999
  | _ => 0
theorem cases42 {k : Nat} (h : k < 42) : k = 0 ∨ k = 1 ∨ k = 2 ∨ k = 3 ∨ k = 4 ∨ k = 5 ∨ k = 6 ∨ k = 7 ∨ k = 8 ∨ k = 9 ∨ k = 10 ∨ k = 11 ∨ k = 12 ∨ k = 13 ∨ k = 14 ∨ k = 15 ∨ k = 16 ∨ k = 17 ∨ k = 18 ∨ k = 19 ∨ k = 20 ∨ k = 21 ∨ k = 22 ∨ k = 23 ∨ k = 24 ∨ k = 25 ∨ k = 26 ∨ k = 27 ∨ k = 28 ∨ k = 29 ∨ k = 30 ∨ k = 31 ∨ k = 32 ∨ k = 33 ∨ k = 34 ∨ k = 35 ∨ k = 36 ∨ k = 37 ∨ k = 38 ∨ k = 39 ∨ k = 40 ∨ k = 41 := by omega
/-- Numbers are numbers of 64 bits. -/
def Msg.ok (M : Msg) : Prop := ∀ i, -9223372036854775808 ≤ M.z i ∧ M.z i ≤ 9223372036854775807
theorem look_at (M : Msg) (k : Nat) (hk : k < 42) (B : Nat) (w : World) (hM : Mon w) (hz : M.ok) (h : MsgAt w B M) :
    Calls Tryz.prog (tFn.getD k 0) #[.pointer (some ⟨B, 0, none⟩)] w fun e w' => e = .returned (.int .i64 (stOf M k : Int)) ∧ w' = w := by
  rcases cases42 hk with rfl | rfl | rfl | rfl | rfl | rfl | rfl | rfl | rfl | rfl | rfl | rfl | rfl | rfl | rfl | rfl | rfl | rfl | rfl | rfl | rfl | rfl | rfl | rfl | rfl | rfl | rfl | rfl | rfl | rfl | rfl | rfl | rfl | rfl | rfl | rfl | rfl | rfl | rfl | rfl | rfl | rfl
  · exact look0 (M.z 0) B w (h 0 (by decide))
  · exact look1 (M.s 1) B w (h 1 (by decide))
  · exact look2 (M.s 2) B w (h 2 (by decide))
  · exact look3 (M.z 3) B w (h 3 (by decide))
  · exact look4 (M.b 4) B w (h 4 (by decide))
  · exact look5 (M.z 5) B w (h 5 (by decide))
  · exact look6 (M.z 6) B w (h 6 (by decide))
  · exact look7 (M.z 7) B w (h 7 (by decide))
  · exact look8 (M.b 8) B w (h 8 (by decide))
  · exact look9 (M.s 9) B w (h 9 (by decide))
  · exact look10 (M.z 10) B w (h 10 (by decide))
  · exact look11 (M.z 11) B w (h 11 (by decide))
  · exact look12 (M.z 12) B w (h 12 (by decide))
  · exact look13 (M.b 13) B w (h 13 (by decide))
  · exact look14 (M.z 14) B w (h 14 (by decide))
  · exact look15 (M.z 15) B w (h 15 (by decide))
  · exact look16 (M.z 16) B w (h 16 (by decide))
  · exact look17 (M.z 17) B w (h 17 (by decide))
  · exact look18 (M.s 18) B w (h 18 (by decide))
  · exact look19 (M.s 19) B w (h 19 (by decide))
  · exact look20 (M.s 20) B w (h 20 (by decide))
  · exact look21 (M.s 21) B w (h 21 (by decide))
  · exact look22 (M.s 22) B w (h 22 (by decide))
  · exact look23 (M.z 23) B w (h 23 (by decide))
  · exact look24 (M.z 24) B w (h 24 (by decide))
  · exact look25 (M.z 25) B w (h 25 (by decide))
  · exact look26 (M.z 26) B w (h 26 (by decide))
  · exact look27 (M.z 27) B w (h 27 (by decide))
  · exact look28 (M.z 28) B w (h 28 (by decide))
  · exact look29 (M.z 29) B w (h 29 (by decide))
  · exact look30 (M.z 30) B w (h 30 (by decide))
  · exact look31 (M.z 31) B w hM (hz 31).1 (hz 31).2 (h 31 (by decide))
  · exact look32 (M.z 32) B w (h 32 (by decide))
  · exact look33 (M.z 33) B w (h 33 (by decide))
  · exact look34 (M.z 34) B w (h 34 (by decide))
  · exact look35 (M.z 35) B w (h 35 (by decide))
  · exact look36 (M.z 36) B w (h 36 (by decide))
  · exact look37 (M.z 37) B w (h 37 (by decide))
  · exact look38 (M.z 38) B w (h 38 (by decide))
  · exact look39 (M.z 39) B w (h 39 (by decide))
  · exact look40 (M.z 40) B w (h 40 (by decide))
  · exact look41 (M.z 41) B w (h 41 (by decide))
set_option maxRecDepth 100000 in
theorem cf_at (k : Nat) (hk : k < 42) (a : Array Value) (w : World) : Sem.run Tryz.prog (callFunc (tFn.getD k 0) a) w = .ok (.enter (tFn.getD k 0) a) w := by
  rcases cases42 hk with rfl | rfl | rfl | rfl | rfl | rfl | rfl | rfl | rfl | rfl | rfl | rfl | rfl | rfl | rfl | rfl | rfl | rfl | rfl | rfl | rfl | rfl | rfl | rfl | rfl | rfl | rfl | rfl | rfl | rfl | rfl | rfl | rfl | rfl | rfl | rfl | rfl | rfl | rfl | rfl | rfl | rfl <;> kernel_rfl
theorem stN_le (z m : Int) : stN z m ≤ 2 := by unfold stN; split <;> (try split) <;> omega
theorem stT_le (p : ByteArray → Bool) (s : ByteArray) : stT p s ≤ 2 := by unfold stT; split <;> (try split) <;> omega
theorem stB_le (b : Bool) : stB b ≤ 2 := by cases b <;> decide
theorem stD_le (z : Int) : stD z ≤ 2 := by unfold stD; split <;> (try split) <;> omega
theorem stOf_le (M : Msg) (k : Nat) (hk : k < 42) : stOf M k ≤ 2 := by
  rcases cases42 hk with rfl | rfl | rfl | rfl | rfl | rfl | rfl | rfl | rfl | rfl | rfl | rfl | rfl | rfl | rfl | rfl | rfl | rfl | rfl | rfl | rfl | rfl | rfl | rfl | rfl | rfl | rfl | rfl | rfl | rfl | rfl | rfl | rfl | rfl | rfl | rfl | rfl | rfl | rfl | rfl | rfl | rfl <;> first | exact stN_le _ _ | exact stT_le _ _ | exact stB_le _ | exact stD_le _
theorem must_lt : ∀ k, tMust.getD k 0 < 4294967296 := fun k => by
  by_cases h : k < 42
  · rcases cases42 h with rfl | rfl | rfl | rfl | rfl | rfl | rfl | rfl | rfl | rfl | rfl | rfl | rfl | rfl | rfl | rfl | rfl | rfl | rfl | rfl | rfl | rfl | rfl | rfl | rfl | rfl | rfl | rfl | rfl | rfl | rfl | rfl | rfl | rfl | rfl | rfl | rfl | rfl | rfl | rfl | rfl | rfl <;> decide
  · rw [List.getD_eq_getElem?_getD, List.getElem?_eq_none (by show 42 ≤ k; omega)]; decide
theorem may_lt : ∀ k, tMay.getD k 0 < 4294967296 := fun k => by
  by_cases h : k < 42
  · rcases cases42 h with rfl | rfl | rfl | rfl | rfl | rfl | rfl | rfl | rfl | rfl | rfl | rfl | rfl | rfl | rfl | rfl | rfl | rfl | rfl | rfl | rfl | rfl | rfl | rfl | rfl | rfl | rfl | rfl | rfl | rfl | rfl | rfl | rfl | rfl | rfl | rfl | rfl | rfl | rfl | rfl | rfl | rfl <;> decide
  · rw [List.getD_eq_getElem?_getD, List.getElem?_eq_none (by show 42 ≤ k; omega)]; decide
/-- What is wrong with each field. -/
def errAt (M : Msg) (k : Nat) : Int := rowErr ((tMust.getD k 0).testBit (M.z 0).toNat) ((tMay.getD k 0).testBit (M.z 0).toNat) (tOz.getD k false) (stOf M k)
theorem MsgAt.below {w w' : World} {B C : Nat} {M : Msg} (h : MsgAt w B M) (hb : Below C w w') (hB : B < C) : MsgAt w' B M := fun k hk => by rw [hb.cell (p := ⟨B, k, none⟩) hB]; exact h k hk
theorem MsgAt.lt {w : World} {B : Nat} {M : Msg} (h : MsgAt w B M) : B < w.heap.size := World.block_lt_of_cell? _ _ (h 0 (by decide))
theorem check_at (M : Msg) (k : Nat) (hk : k < 42) (B : Nat) (w : World) (hM : Mon w) (hg : 2 < w.heap.size) (hz : M.ok) (h : MsgAt w B M) (hK : isK (M.z 0) = true) :
    Calls Tryz.prog 33 #[.agg #[.int .i64 (tNum.getD k 0), .int .u32 (tMust.getD k 0 : Nat), .int .u32 (tMay.getD k 0 : Nat), .bool (tOz.getD k false), .func (.func (tFn.getD k 0)) #[] #[]], .pointer (some ⟨B, 0, none⟩)] w fun e w' => e = .returned (.int .i64 (errAt M k)) ∧ Below w.heap.size w w' := by
  have hk2 : 1 ≤ M.z 0 ∧ M.z 0 ≤ 17 := by simpa [isK] using hK
  have e : M.z 0 = ((M.z 0).toNat : Int) := by omega
  have hc : w.cell? ⟨B, 0, none⟩ = some (.int .i64 ((M.z 0).toNat : Int)) := by rw [← e]; exact h 0 (by decide)
  exact check_any _ _ _ (M.z 0).toNat _ _ (stOf M k) B w (must_lt k) (may_lt k) (by omega) (stOf_le M k hk) hc (fun w' => cf_at k hk _ w') (fun w' hb => look_at M k hk B w' (hM.below hb hg) hz (h.below hb h.lt))
theorem rows_at (k : Nat) (hk : k < 42) : rowsCs.toArray.extract (k * 5) (k * 5 + 5) = (rowCs k).toArray := by
  rcases cases42 hk with rfl | rfl | rfl | rfl | rfl | rfl | rfl | rfl | rfl | rfl | rfl | rfl | rfl | rfl | rfl | rfl | rfl | rfl | rfl | rfl | rfl | rfl | rfl | rfl | rfl | rfl | rfl | rfl | rfl | rfl | rfl | rfl | rfl | rfl | rfl | rfl | rfl | rfl | rfl | rfl | rfl | rfl <;> kernel_rfl
set_option maxRecDepth 100000 in
theorem index_at (k : Nat) (hk : k < 42) (w : World) : Sem.run Tryz.prog (Instr.index 78 (.agg rowsCs.toArray) (.int .i64 k)) w = .ok (.agg #[.int .i64 (tNum.getD k 0), .int .u32 (tMust.getD k 0 : Nat), .int .u32 (tMay.getD k 0 : Nat), .bool (tOz.getD k false), .func (.func (tFn.getD k 0)) #[] #[]]) w := by
  rcases cases42 hk with rfl | rfl | rfl | rfl | rfl | rfl | rfl | rfl | rfl | rfl | rfl | rfl | rfl | rfl | rfl | rfl | rfl | rfl | rfl | rfl | rfl | rfl | rfl | rfl | rfl | rfl | rfl | rfl | rfl | rfl | rfl | rfl | rfl | rfl | rfl | rfl | rfl | rfl | rfl | rfl | rfl | rfl <;> kernel_rfl

end Go.Proofs.YtchkpggdndnpjabGreatDoor
