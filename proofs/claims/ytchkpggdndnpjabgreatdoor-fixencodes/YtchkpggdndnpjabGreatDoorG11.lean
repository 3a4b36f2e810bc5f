import Derived.Test.YtchkpggdndnpjabGreatDoorG10
import Derived.Deep.RegionHeld

namespace Go.Proofs.YtchkpggdndnpjabGreatDoor
set_option linter.unusedVariables false
open Go.RowKit

def wordsO (l : List ByteArray) : Obj := .cells (l.map Value.string).toArray 9
theorem wd_alloc (w : World) (r : Nat) : WdAt (w.alloc (wordsO (xWords.getD r []))) r w.heap.size := fun j s hj => by
  unfold wordsO
  rw [World.cell?_alloc_at _ _ _ _ rfl]
  simpa using hj
set_option maxRecDepth 100000 in
theorem types_any (w : World) : Calls Tryz.prog 127 #[] w fun e w' => e = .returned (.slice (some ⟨w.heap.size, 0, none⟩) 17 17) ∧ w' = w.alloc (wordsO (xWords.getD 0 [])) := by
  go_enter Tryz.func127, Tryz.ntmps127
  go_wp2
  go_ret
  exact ⟨rfl, rfl⟩
set_option maxRecDepth 100000 in
theorem clo_0 (g : Nat) (w : World) :
    Calls Tryz.prog 126 #[.pointer (some ⟨g, 0, none⟩)] w fun e w' => e = .returned (.iface 145 (xVal 0 g w.heap.size)) ∧ Below w.heap.size w w' ∧ WdAt w' 0 w.heap.size := by
  go_enter Tryz.func126, Tryz.ntmps126
  go_wp2
  go_region_with (go_at_call 127; refine (types_any _).mono ?_; rintro e w2 ⟨rfl, rfl⟩)
  all_goals go_wp2
  all_goals go_ret
  all_goals exact ⟨rfl, below_drewN ((Below.refl _ w).alloc (Nat.le_refl _) _) 1, fun j s hj => wd_alloc w 0 j s hj⟩
set_option maxRecDepth 100000 in
theorem clo_1 (g : Nat) (w : World) :
    Calls Tryz.prog 128 #[.pointer (some ⟨g, 0, none⟩)] w fun e w' => e = .returned (.iface 148 (xVal 1 g 0)) ∧ Below w.heap.size w w' ∧ WdAt w' 1 0 := by
  go_enter Tryz.func128, Tryz.ntmps128
  go_wp2
  go_ret
  exact ⟨rfl, Below.refl _ w, WdAt.nil rfl⟩
set_option maxRecDepth 100000 in
theorem clo_2 (g : Nat) (w : World) :
    Calls Tryz.prog 129 #[.pointer (some ⟨g, 0, none⟩)] w fun e w' => e = .returned (.iface 148 (xVal 2 g 0)) ∧ Below w.heap.size w w' ∧ WdAt w' 2 0 := by
  go_enter Tryz.func129, Tryz.ntmps129
  go_wp2
  go_ret
  exact ⟨rfl, Below.refl _ w, WdAt.nil rfl⟩
set_option maxRecDepth 100000 in
theorem clo_3 (g : Nat) (w : World) :
    Calls Tryz.prog 130 #[.pointer (some ⟨g, 0, none⟩)] w fun e w' => e = .returned (.iface 150 (xVal 3 g 0)) ∧ Below w.heap.size w w' ∧ WdAt w' 3 0 := by
  go_enter Tryz.func130, Tryz.ntmps130
  go_wp2
  go_ret
  exact ⟨rfl, Below.refl _ w, WdAt.nil rfl⟩
set_option maxRecDepth 100000 in
theorem clo_4 (g : Nat) (w : World) :
    Calls Tryz.prog 131 #[.pointer (some ⟨g, 0, none⟩)] w fun e w' => e = .returned (.iface 153 (xVal 4 g 0)) ∧ Below w.heap.size w w' ∧ WdAt w' 4 0 := by
  go_enter Tryz.func131, Tryz.ntmps131
  go_wp2
  go_ret
  exact ⟨rfl, Below.refl _ w, WdAt.nil rfl⟩
set_option maxRecDepth 100000 in
theorem clo_5 (g : Nat) (w : World) :
    Calls Tryz.prog 132 #[.pointer (some ⟨g, 0, none⟩)] w fun e w' => e = .returned (.iface 156 (xVal 5 g 0)) ∧ Below w.heap.size w w' ∧ WdAt w' 5 0 := by
  go_enter Tryz.func132, Tryz.ntmps132
  go_wp2
  go_ret
  exact ⟨rfl, Below.refl _ w, WdAt.nil rfl⟩
set_option maxRecDepth 100000 in
theorem clo_6 (g : Nat) (w : World) :
    Calls Tryz.prog 133 #[.pointer (some ⟨g, 0, none⟩)] w fun e w' => e = .returned (.iface 156 (xVal 6 g 0)) ∧ Below w.heap.size w w' ∧ WdAt w' 6 0 := by
  go_enter Tryz.func133, Tryz.ntmps133
  go_wp2
  go_ret
  exact ⟨rfl, Below.refl _ w, WdAt.nil rfl⟩
set_option maxRecDepth 100000 in
theorem clo_7 (g : Nat) (w : World) :
    Calls Tryz.prog 134 #[.pointer (some ⟨g, 0, none⟩)] w fun e w' => e = .returned (.iface 158 (xVal 7 g 0)) ∧ Below w.heap.size w w' ∧ WdAt w' 7 0 := by
  go_enter Tryz.func134, Tryz.ntmps134
  go_wp2
  go_ret
  exact ⟨rfl, Below.refl _ w, WdAt.nil rfl⟩
set_option maxRecDepth 100000 in
theorem clo_8 (g : Nat) (w : World) :
    Calls Tryz.prog 135 #[.pointer (some ⟨g, 0, none⟩)] w fun e w' => e = .returned (.iface 150 (xVal 8 g 0)) ∧ Below w.heap.size w w' ∧ WdAt w' 8 0 := by
  go_enter Tryz.func135, Tryz.ntmps135
  go_wp2
  go_ret
  exact ⟨rfl, Below.refl _ w, WdAt.nil rfl⟩
set_option maxRecDepth 100000 in
theorem clo_9 (g : Nat) (w : World) :
    Calls Tryz.prog 136 #[.pointer (some ⟨g, 0, none⟩)] w fun e w' => e = .returned (.iface 153 (xVal 9 g 0)) ∧ Below w.heap.size w w' ∧ WdAt w' 9 0 := by
  go_enter Tryz.func136, Tryz.ntmps136
  go_wp2
  go_ret
  exact ⟨rfl, Below.refl _ w, WdAt.nil rfl⟩
set_option maxRecDepth 100000 in
theorem clo_10 (g : Nat) (w : World) :
    Calls Tryz.prog 137 #[.pointer (some ⟨g, 0, none⟩)] w fun e w' => e = .returned (.iface 148 (xVal 10 g 0)) ∧ Below w.heap.size w w' ∧ WdAt w' 10 0 := by
  go_enter Tryz.func137, Tryz.ntmps137
  go_wp2
  go_ret
  exact ⟨rfl, Below.refl _ w, WdAt.nil rfl⟩
set_option maxRecDepth 100000 in
theorem clo_11 (g : Nat) (w : World) :
    Calls Tryz.prog 139 #[.pointer (some ⟨g, 0, none⟩)] w fun e w' => e = .returned (.iface 150 (xVal 11 g 0)) ∧ Below w.heap.size w w' ∧ WdAt w' 11 0 := by
  go_enter Tryz.func139, Tryz.ntmps139
  go_wp2
  go_ret
  exact ⟨rfl, Below.refl _ w, WdAt.nil rfl⟩
set_option maxRecDepth 100000 in
theorem clo_12 (g : Nat) (w : World) :
    Calls Tryz.prog 140 #[.pointer (some ⟨g, 0, none⟩)] w fun e w' => e = .returned (.iface 150 (xVal 12 g 0)) ∧ Below w.heap.size w w' ∧ WdAt w' 12 0 := by
  go_enter Tryz.func140, Tryz.ntmps140
  go_wp2
  go_ret
  exact ⟨rfl, Below.refl _ w, WdAt.nil rfl⟩
set_option maxRecDepth 100000 in
theorem clo_13 (g : Nat) (w : World) :
    Calls Tryz.prog 141 #[.pointer (some ⟨g, 0, none⟩)] w fun e w' => e = .returned (.iface 150 (xVal 13 g 0)) ∧ Below w.heap.size w w' ∧ WdAt w' 13 0 := by
  go_enter Tryz.func141, Tryz.ntmps141
  go_wp2
  go_ret
  exact ⟨rfl, Below.refl _ w, WdAt.nil rfl⟩
set_option maxRecDepth 100000 in
theorem clo_14 (g : Nat) (w : World) :
    Calls Tryz.prog 142 #[.pointer (some ⟨g, 0, none⟩)] w fun e w' => e = .returned (.iface 153 (xVal 14 g 0)) ∧ Below w.heap.size w w' ∧ WdAt w' 14 0 := by
  go_enter Tryz.func142, Tryz.ntmps142
  go_wp2
  go_ret
  exact ⟨rfl, Below.refl _ w, WdAt.nil rfl⟩
set_option maxRecDepth 100000 in
theorem clo_15 (g : Nat) (w : World) :
    Calls Tryz.prog 143 #[.pointer (some ⟨g, 0, none⟩)] w fun e w' => e = .returned (.iface 150 (xVal 15 g 0)) ∧ Below w.heap.size w w' ∧ WdAt w' 15 0 := by
  go_enter Tryz.func143, Tryz.ntmps143
  go_wp2
  go_ret
  exact ⟨rfl, Below.refl _ w, WdAt.nil rfl⟩
set_option maxRecDepth 100000 in
theorem clo_16 (g : Nat) (w : World) :
    Calls Tryz.prog 144 #[.pointer (some ⟨g, 0, none⟩)] w fun e w' => e = .returned (.iface 145 (xVal 16 g w.heap.size)) ∧ Below w.heap.size w w' ∧ WdAt w' 16 w.heap.size := by
  go_enter Tryz.func144, Tryz.ntmps144
  go_wp2
  go_region_with (go_at_call 127; refine (types_any _).mono ?_; rintro e w2 ⟨rfl, rfl⟩)
  all_goals go_wp2
  all_goals go_ret
  all_goals exact ⟨rfl, below_drewN ((Below.refl _ w).alloc (Nat.le_refl _) _) 1, fun j s hj => wd_alloc w 0 j s hj⟩
set_option maxRecDepth 100000 in
theorem clo_17 (g : Nat) (w : World) :
    Calls Tryz.prog 145 #[.pointer (some ⟨g, 0, none⟩)] w fun e w' => e = .returned (.iface 150 (xVal 17 g 0)) ∧ Below w.heap.size w w' ∧ WdAt w' 17 0 := by
  go_enter Tryz.func145, Tryz.ntmps145
  go_wp2
  go_ret
  exact ⟨rfl, Below.refl _ w, WdAt.nil rfl⟩
set_option maxRecDepth 100000 in
theorem clo_18 (g : Nat) (w : World) :
    Calls Tryz.prog 146 #[.pointer (some ⟨g, 0, none⟩)] w fun e w' => e = .returned (.iface 150 (xVal 18 g 0)) ∧ Below w.heap.size w w' ∧ WdAt w' 18 0 := by
  go_enter Tryz.func146, Tryz.ntmps146
  go_wp2
  go_ret
  exact ⟨rfl, Below.refl _ w, WdAt.nil rfl⟩
set_option maxRecDepth 100000 in
theorem clo_19 (g : Nat) (w : World) :
    Calls Tryz.prog 147 #[.pointer (some ⟨g, 0, none⟩)] w fun e w' => e = .returned (.iface 148 (xVal 19 g 0)) ∧ Below w.heap.size w w' ∧ WdAt w' 19 0 := by
  go_enter Tryz.func147, Tryz.ntmps147
  go_wp2
  go_ret
  exact ⟨rfl, Below.refl _ w, WdAt.nil rfl⟩
set_option maxRecDepth 100000 in
theorem clo_20 (g : Nat) (w : World) :
    Calls Tryz.prog 148 #[.pointer (some ⟨g, 0, none⟩)] w fun e w' => e = .returned (.iface 148 (xVal 20 g 0)) ∧ Below w.heap.size w w' ∧ WdAt w' 20 0 := by
  go_enter Tryz.func148, Tryz.ntmps148
  go_wp2
  go_ret
  exact ⟨rfl, Below.refl _ w, WdAt.nil rfl⟩
set_option maxRecDepth 100000 in
theorem clo_21 (g : Nat) (w : World) :
    Calls Tryz.prog 149 #[.pointer (some ⟨g, 0, none⟩)] w fun e w' => e = .returned (.iface 148 (xVal 21 g 0)) ∧ Below w.heap.size w w' ∧ WdAt w' 21 0 := by
  go_enter Tryz.func149, Tryz.ntmps149
  go_wp2
  go_ret
  exact ⟨rfl, Below.refl _ w, WdAt.nil rfl⟩
set_option maxRecDepth 100000 in
theorem clo_22 (g : Nat) (w : World) :
    Calls Tryz.prog 150 #[.pointer (some ⟨g, 0, none⟩)] w fun e w' => e = .returned (.iface 148 (xVal 22 g 0)) ∧ Below w.heap.size w w' ∧ WdAt w' 22 0 := by
  go_enter Tryz.func150, Tryz.ntmps150
  go_wp2
  go_ret
  exact ⟨rfl, Below.refl _ w, WdAt.nil rfl⟩
set_option maxRecDepth 100000 in
theorem clo_23 (g : Nat) (w : World) :
    Calls Tryz.prog 151 #[.pointer (some ⟨g, 0, none⟩)] w fun e w' => e = .returned (.iface 148 (xVal 23 g 0)) ∧ Below w.heap.size w w' ∧ WdAt w' 23 0 := by
  go_enter Tryz.func151, Tryz.ntmps151
  go_wp2
  go_ret
  exact ⟨rfl, Below.refl _ w, WdAt.nil rfl⟩
set_option maxRecDepth 100000 in
theorem clo_24 (g : Nat) (w : World) :
    Calls Tryz.prog 152 #[.pointer (some ⟨g, 0, none⟩)] w fun e w' => e = .returned (.iface 145 (xVal 24 g w.heap.size)) ∧ Below w.heap.size w w' ∧ WdAt w' 24 w.heap.size := by
  go_enter Tryz.func152, Tryz.ntmps152
  go_wp2
  go_ret
  exact ⟨rfl, (Below.refl _ w).alloc (Nat.le_refl _) _, wd_alloc w 24⟩
set_option maxRecDepth 100000 in
theorem clo_25 (g : Nat) (w : World) :
    Calls Tryz.prog 153 #[.pointer (some ⟨g, 0, none⟩)] w fun e w' => e = .returned (.iface 145 (xVal 25 g w.heap.size)) ∧ Below w.heap.size w w' ∧ WdAt w' 25 w.heap.size := by
  go_enter Tryz.func153, Tryz.ntmps153
  go_wp2
  go_ret
  exact ⟨rfl, (Below.refl _ w).alloc (Nat.le_refl _) _, wd_alloc w 25⟩
set_option maxRecDepth 100000 in
theorem clo_26 (g : Nat) (w : World) :
    Calls Tryz.prog 154 #[.pointer (some ⟨g, 0, none⟩)] w fun e w' => e = .returned (.iface 145 (xVal 26 g w.heap.size)) ∧ Below w.heap.size w w' ∧ WdAt w' 26 w.heap.size := by
  go_enter Tryz.func154, Tryz.ntmps154
  go_wp2
  go_ret
  exact ⟨rfl, (Below.refl _ w).alloc (Nat.le_refl _) _, wd_alloc w 26⟩
set_option maxRecDepth 100000 in
theorem clo_27 (g : Nat) (w : World) :
    Calls Tryz.prog 155 #[.pointer (some ⟨g, 0, none⟩)] w fun e w' => e = .returned (.iface 160 (xVal 27 g 0)) ∧ Below w.heap.size w w' ∧ WdAt w' 27 0 := by
  go_enter Tryz.func155, Tryz.ntmps155
  go_wp2
  go_ret
  exact ⟨rfl, Below.refl _ w, WdAt.nil rfl⟩
set_option maxRecDepth 100000 in
theorem clo_28 (g : Nat) (w : World) :
    Calls Tryz.prog 156 #[.pointer (some ⟨g, 0, none⟩)] w fun e w' => e = .returned (.iface 162 (xVal 28 g 0)) ∧ Below w.heap.size w w' ∧ WdAt w' 28 0 := by
  go_enter Tryz.func156, Tryz.ntmps156
  go_wp2
  go_ret
  exact ⟨rfl, Below.refl _ w, WdAt.nil rfl⟩
set_option maxRecDepth 100000 in
theorem clo_29 (g : Nat) (w : World) :
    Calls Tryz.prog 157 #[.pointer (some ⟨g, 0, none⟩)] w fun e w' => e = .returned (.iface 162 (xVal 29 g 0)) ∧ Below w.heap.size w w' ∧ WdAt w' 29 0 := by
  go_enter Tryz.func157, Tryz.ntmps157
  go_wp2
  go_ret
  exact ⟨rfl, Below.refl _ w, WdAt.nil rfl⟩
set_option maxRecDepth 100000 in
theorem clo_30 (g : Nat) (w : World) :
    Calls Tryz.prog 158 #[.pointer (some ⟨g, 0, none⟩)] w fun e w' => e = .returned (.iface 164 (xVal 30 g 0)) ∧ Below w.heap.size w w' ∧ WdAt w' 30 0 := by
  go_enter Tryz.func158, Tryz.ntmps158
  go_wp2
  go_ret
  exact ⟨rfl, Below.refl _ w, WdAt.nil rfl⟩
set_option maxRecDepth 100000 in
theorem clo_31 (g : Nat) (w : World) :
    Calls Tryz.prog 159 #[.pointer (some ⟨g, 0, none⟩)] w fun e w' => e = .returned (.iface 164 (xVal 31 g 0)) ∧ Below w.heap.size w w' ∧ WdAt w' 31 0 := by
  go_enter Tryz.func159, Tryz.ntmps159
  go_wp2
  go_ret
  exact ⟨rfl, Below.refl _ w, WdAt.nil rfl⟩
set_option maxRecDepth 100000 in
theorem clo_32 (g : Nat) (w : World) :
    Calls Tryz.prog 160 #[.pointer (some ⟨g, 0, none⟩)] w fun e w' => e = .returned (.iface 164 (xVal 32 g 0)) ∧ Below w.heap.size w w' ∧ WdAt w' 32 0 := by
  go_enter Tryz.func160, Tryz.ntmps160
  go_wp2
  go_ret
  exact ⟨rfl, Below.refl _ w, WdAt.nil rfl⟩
set_option maxRecDepth 100000 in
theorem clo_33 (g : Nat) (w : World) :
    Calls Tryz.prog 161 #[.pointer (some ⟨g, 0, none⟩)] w fun e w' => e = .returned (.iface 166 (xVal 33 g 0)) ∧ Below w.heap.size w w' ∧ WdAt w' 33 0 := by
  go_enter Tryz.func161, Tryz.ntmps161
  go_wp2
  go_ret
  exact ⟨rfl, Below.refl _ w, WdAt.nil rfl⟩
set_option maxRecDepth 100000 in
theorem clo_34 (g : Nat) (w : World) :
    Calls Tryz.prog 162 #[.pointer (some ⟨g, 0, none⟩)] w fun e w' => e = .returned (.iface 167 (xVal 34 g 0)) ∧ Below w.heap.size w w' ∧ WdAt w' 34 0 := by
  go_enter Tryz.func162, Tryz.ntmps162
  go_wp2
  go_ret
  exact ⟨rfl, Below.refl _ w, WdAt.nil rfl⟩
set_option maxRecDepth 100000 in
theorem clo_35 (g : Nat) (w : World) :
    Calls Tryz.prog 163 #[.pointer (some ⟨g, 0, none⟩)] w fun e w' => e = .returned (.iface 150 (xVal 35 g 0)) ∧ Below w.heap.size w w' ∧ WdAt w' 35 0 := by
  go_enter Tryz.func163, Tryz.ntmps163
  go_wp2
  go_ret
  exact ⟨rfl, Below.refl _ w, WdAt.nil rfl⟩
set_option maxRecDepth 100000 in
theorem clo_36 (g : Nat) (w : World) :
    Calls Tryz.prog 164 #[.pointer (some ⟨g, 0, none⟩)] w fun e w' => e = .returned (.iface 145 (xVal 36 g w.heap.size)) ∧ Below w.heap.size w w' ∧ WdAt w' 36 w.heap.size := by
  go_enter Tryz.func164, Tryz.ntmps164
  go_wp2
  go_ret
  exact ⟨rfl, (Below.refl _ w).alloc (Nat.le_refl _) _, wd_alloc w 36⟩
set_option maxRecDepth 100000 in
theorem clo_37 (g : Nat) (w : World) :
    Calls Tryz.prog 165 #[.pointer (some ⟨g, 0, none⟩)] w fun e w' => e = .returned (.iface 145 (xVal 37 g w.heap.size)) ∧ Below w.heap.size w w' ∧ WdAt w' 37 w.heap.size := by
  go_enter Tryz.func165, Tryz.ntmps165
  go_wp2
  go_ret
  exact ⟨rfl, (Below.refl _ w).alloc (Nat.le_refl _) _, wd_alloc w 37⟩
set_option maxRecDepth 100000 in
theorem clo_38 (g : Nat) (w : World) :
    Calls Tryz.prog 166 #[.pointer (some ⟨g, 0, none⟩)] w fun e w' => e = .returned (.iface 162 (xVal 38 g 0)) ∧ Below w.heap.size w w' ∧ WdAt w' 38 0 := by
  go_enter Tryz.func166, Tryz.ntmps166
  go_wp2
  go_ret
  exact ⟨rfl, Below.refl _ w, WdAt.nil rfl⟩
set_option maxRecDepth 100000 in
theorem clo_39 (g : Nat) (w : World) :
    Calls Tryz.prog 167 #[.pointer (some ⟨g, 0, none⟩)] w fun e w' => e = .returned (.iface 164 (xVal 39 g 0)) ∧ Below w.heap.size w w' ∧ WdAt w' 39 0 := by
  go_enter Tryz.func167, Tryz.ntmps167
  go_wp2
  go_ret
  exact ⟨rfl, Below.refl _ w, WdAt.nil rfl⟩
set_option maxRecDepth 100000 in
theorem clo_40 (g : Nat) (w : World) :
    Calls Tryz.prog 168 #[.pointer (some ⟨g, 0, none⟩)] w fun e w' => e = .returned (.iface 164 (xVal 40 g 0)) ∧ Below w.heap.size w w' ∧ WdAt w' 40 0 := by
  go_enter Tryz.func168, Tryz.ntmps168
  go_wp2
  go_ret
  exact ⟨rfl, Below.refl _ w, WdAt.nil rfl⟩
set_option maxRecDepth 100000 in
theorem clo_41 (g : Nat) (w : World) :
    Calls Tryz.prog 169 #[.pointer (some ⟨g, 0, none⟩)] w fun e w' => e = .returned (.iface 164 (xVal 41 g 0)) ∧ Below w.heap.size w w' ∧ WdAt w' 41 0 := by
  go_enter Tryz.func169, Tryz.ntmps169
  go_wp2
  go_ret
  exact ⟨rfl, Below.refl _ w, WdAt.nil rfl⟩
set_option maxRecDepth 100000 in
theorem clo_42 (g : Nat) (w : World) :
    Calls Tryz.prog 170 #[.pointer (some ⟨g, 0, none⟩)] w fun e w' => e = .returned (.iface 145 (xVal 42 g w.heap.size)) ∧ Below w.heap.size w w' ∧ WdAt w' 42 w.heap.size := by
  go_enter Tryz.func170, Tryz.ntmps170
  go_wp2
  go_ret
  exact ⟨rfl, (Below.refl _ w).alloc (Nat.le_refl _) _, wd_alloc w 42⟩
set_option maxRecDepth 100000 in
theorem clo_43 (g : Nat) (w : World) :
    Calls Tryz.prog 171 #[.pointer (some ⟨g, 0, none⟩)] w fun e w' => e = .returned (.iface 150 (xVal 43 g 0)) ∧ Below w.heap.size w w' ∧ WdAt w' 43 0 := by
  go_enter Tryz.func171, Tryz.ntmps171
  go_wp2
  go_ret
  exact ⟨rfl, Below.refl _ w, WdAt.nil rfl⟩
set_option maxRecDepth 100000 in
theorem clo_44 (g : Nat) (w : World) :
    Calls Tryz.prog 172 #[.pointer (some ⟨g, 0, none⟩)] w fun e w' => e = .returned (.iface 169 (xVal 44 g 0)) ∧ Below w.heap.size w w' ∧ WdAt w' 44 0 := by
  go_enter Tryz.func172, Tryz.ntmps172
  go_wp2
  go_ret
  exact ⟨rfl, Below.refl _ w, WdAt.nil rfl⟩
end Go.Proofs.YtchkpggdndnpjabGreatDoor
