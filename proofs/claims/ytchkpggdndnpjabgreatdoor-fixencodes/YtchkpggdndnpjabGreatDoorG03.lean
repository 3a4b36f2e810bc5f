import Derived.Test.YtchkpggdndnpjabGreatDoorG02
import Derived.Deep.QuietTactic
import Derived.BigQuiet

namespace Go.Proofs.YtchkpggdndnpjabGreatDoor
set_option linter.unusedVariables false
open Go.RowKit

/-- A message, as numbers, texts and truths by their places. -/
structure Msg where
  z : Nat → Int
  s : Nat → ByteArray
  b : Nat → Bool
def isStr (i : Nat) : Bool := i == 1 || i == 2 || i == 9 || i == 18 || i == 19 || i == 20 || i == 21 || i == 22
def isBoo (i : Nat) : Bool := i == 4 || i == 8 || i == 13
def Msg.cell (M : Msg) (i : Nat) : Value := if isStr i then .string (M.s i) else if isBoo i then .bool (M.b i) else .int .i64 (M.z i)
def MsgAt (w : World) (B : Nat) (M : Msg) : Prop := ∀ i, i < 42 → w.cell? ⟨B, i, none⟩ = some (M.cell i)
/-- What is wrong with a field. -/
def rowErr (must may oz : Bool) (found : Nat) : Int := if !must && !may && found != 0 then 32 else if found == 2 || must && !oz && found == 0 then 31 else 0
set_option maxRecDepth 100000 in
set_option maxHeartbeats 800000 in
theorem check_any (num : Int) (must may k : Nat) (oz : Bool) (f found B : Nat) (w : World) (hmu : must < 4294967296) (hma : may < 4294967296) (hk : k ≤ 17) (hfo : found ≤ 2)
    (hc : w.cell? ⟨B, 0, none⟩ = some (.int .i64 k)) (hcf : ∀ w', Sem.run Tryz.prog (callFunc f #[.pointer (some ⟨B, 0, none⟩)]) w' = .ok (.enter f #[.pointer (some ⟨B, 0, none⟩)]) w')
    (hlook : ∀ w', Below w.heap.size w w' → Calls Tryz.prog f #[.pointer (some ⟨B, 0, none⟩)] w' fun e w2 => e = .returned (.int .i64 (found : Int)) ∧ w2 = w') :
    Calls Tryz.prog 33 #[.agg #[.int .i64 num, .int .u32 must, .int .u32 may, .bool oz, .func (.func f) #[] #[]], .pointer (some ⟨B, 0, none⟩)] w fun e w' => e = .returned (.int .i64 (rowErr (must.testBit k) (may.testBit k) oz found)) ∧ Below w.heap.size w w' := by
  have HL : Hid (∀ w', Below w.heap.size w w' → Calls Tryz.prog f #[.pointer (some ⟨B, 0, none⟩)] w' fun e w2 => e = .returned (.int .i64 (found : Int)) ∧ w2 = w') := hlook
  clear hlook
  have h1 := has_any k (k : Int) must rfl hk hmu
  have h2 := has_any k (k : Int) may rfl hk hma
  generalize must.testBit k = mu at *
  generalize may.testBit k = ma at *
  go_enter Tryz.func33, Tryz.ntmps33
  go_wp2
  refine (HL.out _ ?_).mono ?_
  · exact (Below.refl _ w).alloc (Nat.le_refl _) _
  rintro e w2 ⟨rfl, rfl⟩
  clear HL hcf
  have hb1 : Below w.heap.size w (w.alloc (Obj.cells #[Value.int IntKind.i64 num, Value.int IntKind.u32 ↑must, Value.int IntKind.u32 ↑may, Value.bool oz, Value.func (Fn.func f) #[] #[]] 77)) := (Below.refl _ w).alloc (Nat.le_refl _) _
  have hlt : B < w.heap.size := World.block_lt_of_cell? _ _ hc
  go_wp2
  go_quiet ((go_at_call 123; refine Calls.quiet_of_same (by first | exact h1 _ | exact h2 _)))
  clear hmu hma hc hk h1 h2
  have hf : found = 0 ∨ found = 1 ∨ found = 2 := by omega
  clear hfo
  rcases hf with rfl | rfl | rfl <;> cases mu <;> cases ma <;> cases oz <;> (go_wp2; go_ret; exact ⟨rfl, below_drewN hb1 _⟩)
theorem cf45 (a : Array Value) (w : World) : Sem.run Tryz.prog (callFunc 71 a) w = .ok (.enter 71 a) w := by
  kernel_rfl

end Go.Proofs.YtchkpggdndnpjabGreatDoor
