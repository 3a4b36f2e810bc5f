/-
  bin: the forms of places: how great they are; a place of a frame.
-/
import Derived.Test.YtkpoheknmcepnaaGreatDoorBA
import Derived.Test.YtkpoheknmcepnaaGreatDoorByA
import Derived.Deep.RegionHeld3
namespace Go.Proofs.YtkpoheknmcepnaaGreatDoor
set_option linter.unusedVariables false
open Go.RowKit Go.Great

def isL (j : Nat) : Bool := decide (j = 5 ∨ j = 6 ∨ (26 ≤ j ∧ j ≤ 30) ∨ (36 ≤ j ∧ j ≤ 39))
def fSz (j : Nat) : Nat := if isStr j then 187 else if isBoo j then 193 else if isL j then 196 else 190
def fWr (j : Nat) : Nat := if isStr j then 188 else if isBoo j then 194 else if isL j then 197 else 191
def fRd (j : Nat) : Nat := if isStr j then 186 else if isBoo j then 192 else if isL j then 195 else 189
theorem cell_alloc {w : World} {a : Addr} {v : Value} (h : w.cell? a = some v) (o : Obj) : (w.alloc o).cell? a = some v := by
  have hb := ((Below.refl _ w).alloc (Nat.le_refl _) o).cell (p := a) (World.block_lt_of_cell? _ _ h)
  rw [hb]; exact h
theorem frozen_alloc {w : World} {a : Addr} {v : Value} (h : w.cell? a = some v) (hf : w.frozen? a = false) (o : Obj) : (w.alloc o).frozen? a = false := by
  have hb := ((Below.refl _ w).alloc (Nat.le_refl _) o).block a.block (World.block_lt_of_cell? _ _ h)
  unfold World.frozen? at hf ⊢
  rw [hb]; exact hf
theorem txSize (p : Value) (n : Int) (w : World) : Calls Tryz.prog 187 #[.agg #[p, .int .i64 n]] w fun e w' => e = .returned (.int .i64 n) ∧ Below w.heap.size w w' := by
  have HB : Hid (Below w.heap.size w (w.alloc (.cells #[p, .int .i64 n] 151))) := (Below.refl _ w).alloc (Nat.le_refl _) _
  go_enter Tryz.func187, Tryz.ntmps187
  go_wp2
  go_ret
  exact ⟨rfl, HB.out⟩
theorem niSize (p : Value) (n : Int) (w : World) : Calls Tryz.prog 190 #[.agg #[p, .int .i64 n]] w fun e w' => e = .returned (.int .i64 n) ∧ Below w.heap.size w w' := by
  have HB : Hid (Below w.heap.size w (w.alloc (.cells #[p, .int .i64 n] 154))) := (Below.refl _ w).alloc (Nat.le_refl _) _
  go_enter Tryz.func190, Tryz.ntmps190
  go_wp2
  go_ret
  exact ⟨rfl, HB.out⟩
theorem nlSize (p : Value) (n : Int) (w : World) : Calls Tryz.prog 196 #[.agg #[p, .int .i64 n]] w fun e w' => e = .returned (.int .i64 n) ∧ Below w.heap.size w w' := by
  have HB : Hid (Below w.heap.size w (w.alloc (.cells #[p, .int .i64 n] 160))) := (Below.refl _ w).alloc (Nat.le_refl _) _
  go_enter Tryz.func196, Tryz.ntmps196
  go_wp2
  go_ret
  exact ⟨rfl, HB.out⟩
theorem trSize (p : Value) (w : World) : Calls Tryz.prog 193 #[.agg #[p]] w fun e w' => e = .returned (.int .i64 1) ∧ Below w.heap.size w w' := by
  have HB : Hid (Below w.heap.size w (w.alloc (.cells #[p] 157))) := (Below.refl _ w).alloc (Nat.le_refl _) _
  go_enter Tryz.func193, Tryz.ntmps193
  go_wp2
  go_ret
  exact ⟨rfl, HB.out⟩
theorem size_any (j : Nat) (hj : j < 42) (B : Nat) (w : World) : Calls Tryz.prog (fSz j) #[fVal j B] w fun e w' => e = .returned (.int .i64 (wd j : Nat)) ∧ Below w.heap.size w w' := by
  rcases cases42 hj with rfl | rfl | rfl | rfl | rfl | rfl | rfl | rfl | rfl | rfl | rfl | rfl | rfl | rfl | rfl | rfl | rfl | rfl | rfl | rfl | rfl | rfl | rfl | rfl | rfl | rfl | rfl | rfl | rfl | rfl | rfl | rfl | rfl | rfl | rfl | rfl | rfl | rfl | rfl | rfl | rfl | rfl <;>
    first | exact txSize _ _ w | exact trSize _ w | exact nlSize _ _ w | exact niSize _ _ w
theorem cfSz (j : Nat) (hj : j < 42) (a : Array Value) (w : World) : Sem.run Tryz.prog (callFunc (fSz j) a) w = .ok (.enter (fSz j) a) w := by
  rcases cases42 hj with rfl | rfl | rfl | rfl | rfl | rfl | rfl | rfl | rfl | rfl | rfl | rfl | rfl | rfl | rfl | rfl | rfl | rfl | rfl | rfl | rfl | rfl | rfl | rfl | rfl | rfl | rfl | rfl | rfl | rfl | rfl | rfl | rfl | rfl | rfl | rfl | rfl | rfl | rfl | rfl | rfl | rfl <;> kernel_rfl
theorem mSz (j : Nat) (hj : j < 42) (B : Nat) (w : World) : (method 308 (fTy j) (fVal j B) "outcry/bin.size").run Tryz.prog w = .ok (fSz j, fVal j B) w := by
  rcases cases42 hj with rfl | rfl | rfl | rfl | rfl | rfl | rfl | rfl | rfl | rfl | rfl | rfl | rfl | rfl | rfl | rfl | rfl | rfl | rfl | rfl | rfl | rfl | rfl | rfl | rfl | rfl | rfl | rfl | rfl | rfl | rfl | rfl | rfl | rfl | rfl | rfl | rfl | rfl | rfl | rfl | rfl | rfl <;> kernel_rfl
set_option maxRecDepth 100000 in
theorem of_any (j : Nat) (h1 : 1 ≤ wd j) (hj : j < 42) (B : Nat) (n : Int) (at_ : Nat) (g off len cap : Nat) (w : World) (hl : at_ + wd j ≤ len) (hc : len ≤ cap) (hm : cap ≤ 1048576) :
    Calls Tryz.prog 26 #[.agg #[.int .i64 n, fIf j B, .int .i64 at_], .slice (some ⟨g, off, none⟩) len cap] w fun e w' => e = .returned (.slice (some ⟨g, off + at_, none⟩) (wd j) (cap - at_)) ∧ Below w.heap.size w w' := by
  have HS : Hid (∀ w', Calls Tryz.prog (fSz j) #[fVal j B] w' fun e w2 => e = .returned (.int .i64 (wd j : Nat)) ∧ Below w'.heap.size w' w2) := fun w' => size_any j hj B w'
  have hcf := cfSz j hj
  have hmt := mSz j hj B
  have HK : Hid (∀ w', Below w.heap.size w w' → w'.cell? ⟨0, 0, none⟩ = w'.cell? ⟨0, 0, none⟩) := fun _ _ => rfl
  unfold fIf
  generalize fVal j B = V at *
  generalize fTy j = T at *
  generalize fSz j = F at *
  generalize wd j = W at *
  have hx0 : IntKind.i64.wrap ((at_ : Int) + (W : Int)) = (at_ : Int) + (W : Int) := by rw [IntKind.wrap_i64]; omega
  have hx1 : (0 : Int) ≤ (at_ : Int) := by omega
  have hx2 : (0 : Int) ≤ (at_ : Int) + (W : Int) := by omega
  have hx3 : (at_ : Int) ≤ (at_ : Int) + (W : Int) := by omega
  have hx4 : (at_ : Int) + (W : Int) ≤ (cap : Int) := by omega
  have hx5 : (at_ : Int) ≤ (cap : Int) := by omega
  have hx6 : ¬ at_ = cap := by omega
  have hx7 : ¬ cap - at_ = 0 := by omega
  go_enter Tryz.func26, Tryz.ntmps26
  go_upto_region 1 with fail
  generalize hW : w.alloc _ = W0
  have HB0 : Hid (Below w.heap.size w W0) := by rw [← hW]; exact (Below.refl _ w).alloc (Nat.le_refl _) _
  have c0 : W0.cell? ⟨w.heap.size, 0, none⟩ = some (.int .i64 n) := by rw [← hW]; exact World.cell?_alloc_new ..
  have c1 : W0.cell? ⟨w.heap.size, 1, none⟩ = some (.iface T V) := by rw [← hW]; exact World.cell?_alloc_new ..
  have c2 : W0.cell? ⟨w.heap.size, 2, none⟩ = some (.int .i64 at_) := by rw [← hW]; exact World.cell?_alloc_new ..
  have HK2 : Hid (∀ w', Below W0.heap.size W0 w' → w'.cell? ⟨w.heap.size, 1, none⟩ = some (.iface T V) ∧ w'.cell? ⟨w.heap.size, 2, none⟩ = some (.int .i64 at_)) := fun w' hb => by
    rw [hb.cell (p := ⟨w.heap.size, 1, none⟩) (World.block_lt_of_cell? _ _ c1), hb.cell (p := ⟨w.heap.size, 2, none⟩) (World.block_lt_of_cell? _ _ c2)]
    exact ⟨c1, c2⟩
  have hB1 : Below W0.heap.size W0 W0.drew := below_drewN (Below.refl _ _) 1
  clear hW
  go_region_held3 (fun w' => w'.cell? ⟨w.heap.size, 1, none⟩ = some (.iface T V) ∧ w'.cell? ⟨w.heap.size, 2, none⟩ = some (.int .i64 at_)) (first | exact HK2.out _ hB3 | exact HK2.out _ hB1) (first | (refine (HS.out _).mono ?_; rintro e w3 ⟨rfl, hb3⟩; have hB3 : Below W0.heap.size W0 w3 := hB1.trans (hb3.mono hB1.size); clear hb3))
  all_goals go_wp2
  all_goals go_ret
  all_goals exact ⟨congrArg (fun x => Ending.returned (Value.slice (some ⟨g, off + at_, none⟩) x (cap - at_))) (show ((at_ : Int) + (W : Int)).toNat - at_ = W by omega), HB0.out.trans (hB3.mono HB0.out.size)⟩
end Go.Proofs.YtkpoheknmcepnaaGreatDoor
