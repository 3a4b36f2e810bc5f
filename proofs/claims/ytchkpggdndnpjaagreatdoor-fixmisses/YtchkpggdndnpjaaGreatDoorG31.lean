import Derived.Test.YtchkpggdndnpjaaGreatDoorG13
import Derived.Deep.RegionHeld3
import Derived.Test.YtchkpggdndnpjaaGreatDoorG30
import Derived.Test.YtchkpggdndnpjaaGreatDoorG12

namespace Go.Proofs.YtchkpggdndnpjaaGreatDoor
set_option linter.unusedVariables false
open Go.RowKit Go.Great

theorem takeR {P : Program} {md : Region.Mode} {ops : Array Oper} {Q : Exit → Act → World → Prop} {S : World → Prop} {i : Nat} {oi : Oper} {v : Value} {fuel : Nat} {listed : Array Bool} {a : Act} {w : World} (d : Option Tmp) (hi : ops[i]? = some oi) (hd : oi.dst = d)
    (hs : Region.noSelect ops = true) (hf : Region.free md ops listed i = true) (hr : (Region.ready md ops listed).contains i = true)
    (hQ : ∀ c a w, Q (.panic c) (a.put d v) w → Q (.panic c) a w) (hy : YieldsIf P ops S oi v a) (hS : S w)
    (h : wpAnyH P md ops Q S fuel (listed.setIfInBounds i true) (a.put d v) w) : wpAnyH P md ops Q S (fuel + 1) listed a w := by
  subst hd
  exact wpAnyH_take hi hs hf hr hQ hy hS h
theorem callR {P : Program} {op : Oper} {a : Act} {w : World} {K : Act → World → Prop} {Q : Exit → Act → World → Prop} {d : Option Tmp} (hd : op.dst = d)
    (f : FuncId) (args : Array Value) (hrun : (execOp a.eval op).run P w = .ok (.enter f args) w) {R : Ending → World → Prop} (hc : Calls P f args w R)
    (h : ∀ e w', R e w' → ∃ v, e = .returned v ∧ K (a.put d v) w') : op.wp P a w K Q := by
  subst hd
  unfold Oper.wp
  rw [hrun, Oper.upon_enter]
  refine hc.mono fun e w'' hh => ?_
  obtain ⟨v, rfl, hw⟩ := h _ _ hh
  exact hw
theorem valR {P : Program} {op : Oper} {a : Act} {w w' : World} {K : Act → World → Prop} {Q : Exit → Act → World → Prop} {d : Option Tmp} (hd : op.dst = d) (v : Value)
    (hrun : (execOp a.eval op).run P w = .ok (.value v) w') (h : K (a.put d v) w') : op.wp P a w K Q := by
  subst hd
  unfold Oper.wp
  rw [hrun, Oper.upon_value]
  exact h
theorem skipR {P : Program} {op : Oper} {a : Act} {w w' : World} {K : Act → World → Prop} {Q : Exit → Act → World → Prop} {d : Option Tmp} (hd : op.dst = d)
    (hrun : (execOp a.eval op).run P w = .ok .skip w') (h : K (a.put d undef) w') : op.wp P a w K Q := by
  subst hd
  unfold Oper.wp
  rw [hrun]
  exact h
theorem exec_fv {op : Oper} {a : Act} {w : World} {lk : FuncId} {v : Value} {ty : TypeId} (t x : Operand) (ho : op.op = .call { callee := .value t, args := #[x], argTypes := #[ty] }) (ht : a.eval t = .func (.func lk) #[] #[]) (hx : a.eval x = v)
    (hcf : ∀ args w, (callFunc lk args).run Tryz.prog w = .ok (.enter lk args) w) : (execOp a.eval op).run Tryz.prog w = .ok (.enter lk #[v]) w := by
  unfold execOp
  simp only [ho, resolve, invoke, Sem.run_bind, Sem.run_pure, Result.andThen_ok, List.map_toArray, List.map_cons, List.map_nil, ht, hx, Deferred.ofValue, Array.empty_append, Array.append_empty]
  exact hcf #[v] w
end Go.Proofs.YtchkpggdndnpjaaGreatDoor

namespace Go.Proofs.YtchkpggdndnpjaaGreatDoor
set_option linter.unusedVariables false
open Go.RowKit

theorem exec_inv {op : Oper} {a : Act} {w : World} {F : FuncId} {V : Value} {T : TypeId} {nm : String} (t : Operand) (ho : op.op = .call { callee := .invoke t nm, args := #[], argTypes := #[] }) (ht : a.eval t = .iface T V)
    (hc : ∀ w, (callMethod (.iface T V) nm #[]).run Tryz.prog w = .ok (.enter F #[V]) w) : (execOp a.eval op).run Tryz.prog w = .ok (.enter F #[V]) w := by
  unfold execOp
  simp only [ho, resolve, Sem.run_bind, Sem.run_pure, Result.andThen_ok, ht, Array.map_empty, Array.append_empty]
  exact hc w
theorem exec_inv1 {op : Oper} {a : Act} {w : World} {F : FuncId} {V x : Value} {T ty : TypeId} {nm : String} (t u : Operand) (ho : op.op = .call { callee := .invoke t nm, args := #[u], argTypes := #[ty] }) (ht : a.eval t = .iface T V) (hu : a.eval u = x)
    (hc : ∀ w, (callMethod (.iface T V) nm #[x]).run Tryz.prog w = .ok (.enter F #[V, x]) w) : (execOp a.eval op).run Tryz.prog w = .ok (.enter F #[V, x]) w := by
  unfold execOp
  simp only [ho, resolve, Sem.run_bind, Sem.run_pure, Result.andThen_ok, ht, List.map_toArray, List.map_cons, List.map_nil, hu]
  exact hc w
set_option maxRecDepth 100000 in
theorem cm_there (r : Nat) (hr : r < 45) (g b : Nat) (w : World) : (callMethod (.iface (xty r) (xVal r g b)) "outcry/fix.there" #[]).run Tryz.prog w = .ok (.enter (thF r) #[xVal r g b]) w := by
  rcases cases45 hr with rfl | rfl | rfl | rfl | rfl | rfl | rfl | rfl | rfl | rfl | rfl | rfl | rfl | rfl | rfl | rfl | rfl | rfl | rfl | rfl | rfl | rfl | rfl | rfl | rfl | rfl | rfl | rfl | rfl | rfl | rfl | rfl | rfl | rfl | rfl | rfl | rfl | rfl | rfl | rfl | rfl | rfl | rfl | rfl | rfl <;> kernel_rfl
set_option maxRecDepth 100000 in
theorem cm_write (r : Nat) (hr : r < 45) (g b : Nat) (w : World) : (callMethod (.iface (xty r) (xVal r g b)) "outcry/fix.write" #[]).run Tryz.prog w = .ok (.enter (wrF r) #[xVal r g b]) w := by
  rcases cases45 hr with rfl | rfl | rfl | rfl | rfl | rfl | rfl | rfl | rfl | rfl | rfl | rfl | rfl | rfl | rfl | rfl | rfl | rfl | rfl | rfl | rfl | rfl | rfl | rfl | rfl | rfl | rfl | rfl | rfl | rfl | rfl | rfl | rfl | rfl | rfl | rfl | rfl | rfl | rfl | rfl | rfl | rfl | rfl | rfl | rfl <;> kernel_rfl
set_option maxRecDepth 100000 in
theorem cm_read (r : Nat) (hr : r < 45) (g b : Nat) (x : Value) (w : World) : (callMethod (.iface (xty r) (xVal r g b)) "outcry/fix.read" #[x]).run Tryz.prog w = .ok (.enter (rdFn r) #[xVal r g b, x]) w := by
  rcases cases45 hr with rfl | rfl | rfl | rfl | rfl | rfl | rfl | rfl | rfl | rfl | rfl | rfl | rfl | rfl | rfl | rfl | rfl | rfl | rfl | rfl | rfl | rfl | rfl | rfl | rfl | rfl | rfl | rfl | rfl | rfl | rfl | rfl | rfl | rfl | rfl | rfl | rfl | rfl | rfl | rfl | rfl | rfl | rfl | rfl | rfl <;> kernel_rfl
set_option maxRecDepth 100000 in
theorem na_read (r : Nat) (hr : r < 45) (g b : Nat) (w : World) : (nilAhead (Tryz.prog.types.size + Made.depth) (xty r) (xVal r g b) "outcry/fix.read").run Tryz.prog w = .ok (some false) w := by
  rcases cases45 hr with rfl | rfl | rfl | rfl | rfl | rfl | rfl | rfl | rfl | rfl | rfl | rfl | rfl | rfl | rfl | rfl | rfl | rfl | rfl | rfl | rfl | rfl | rfl | rfl | rfl | rfl | rfl | rfl | rfl | rfl | rfl | rfl | rfl | rfl | rfl | rfl | rfl | rfl | rfl | rfl | rfl | rfl | rfl | rfl | rfl <;> kernel_rfl
set_option maxRecDepth 100000 in
theorem exec_nc {op : Oper} {a : Act} {w : World} (r : Nat) (hr : r < 45) (g b : Nat) (t : Operand) (ho : op.op = .nilCheck t) (ht : a.eval t = .func (.method "outcry/fix.read") #[.iface (xty r) (xVal r g b)] #[]) :
    (execOp a.eval op).run Tryz.prog w = .ok (.value (.func (.method "outcry/fix.read") #[.iface (xty r) (xVal r g b)] #[])) w := by
  unfold execOp
  simp only [ho, ht]
  clear ho ht
  rcases cases45 hr with rfl | rfl | rfl | rfl | rfl | rfl | rfl | rfl | rfl | rfl | rfl | rfl | rfl | rfl | rfl | rfl | rfl | rfl | rfl | rfl | rfl | rfl | rfl | rfl | rfl | rfl | rfl | rfl | rfl | rfl | rfl | rfl | rfl | rfl | rfl | rfl | rfl | rfl | rfl | rfl | rfl | rfl | rfl | rfl | rfl <;> kernel_rfl
theorem wd_lt {w : World} {r b : Nat} (hr : r < 45) (hk : xkd r = 8) (h : WdAt w r b) : b < w.heap.size := by
  have hne : ∃ s, (xWords.getD r [])[0]? = some s := by
    rcases cases45 hr with rfl | rfl | rfl | rfl | rfl | rfl | rfl | rfl | rfl | rfl | rfl | rfl | rfl | rfl | rfl | rfl | rfl | rfl | rfl | rfl | rfl | rfl | rfl | rfl | rfl | rfl | rfl | rfl | rfl | rfl | rfl | rfl | rfl | rfl | rfl | rfl | rfl | rfl | rfl | rfl | rfl | rfl | rfl | rfl | rfl <;> first | exact ⟨_, rfl⟩ | exact absurd hk (by decide)
  obtain ⟨s, hs⟩ := hne
  exact World.block_lt_of_cell? _ _ (h 0 s hs)
end Go.Proofs.YtchkpggdndnpjaaGreatDoor

namespace Go.Proofs.YtchkpggdndnpjaaGreatDoor
set_option linter.unusedVariables false
open Go.RowKit

theorem beq_no {a b : Int} (h : ¬ a = b) : (a == b) = false := by simpa using h
theorem bne_no {a b : Int} (h : ¬ a = b) : (a != b) = true := by simpa using h
def hdB (n : Int) : Bool := decide (n = 49) || decide (n = 56) || decide (n = 34) || decide (n = 43) || decide (n = 52) || decide (n = 122)
def hiN (b : Bool) (m : Int) : Int := cond b m 0
set_option maxRecDepth 100000 in
theorem hasIf_any (b : Bool) (m : Int) (w : World) : Calls Tryz.prog 183 #[.bool b, .int .i64 m] w fun e w' => e = .returned (.int .i64 (hiN b m)) ∧ w' = w := by
  cases b
  · show Calls _ _ _ _ fun e w' => e = .returned (.int .i64 0) ∧ w' = w
    go_enter Tryz.func183, Tryz.ntmps183
    go_wp2
    go_ret
    exact ⟨rfl, rfl⟩
  · show Calls _ _ _ _ fun e w' => e = .returned (.int .i64 m) ∧ w' = w
    go_enter Tryz.func183, Tryz.ntmps183
    go_wp2
    go_ret
    exact ⟨rfl, rfl⟩
set_option maxRecDepth 100000 in
theorem isHead_any (n : Int) (w : World) : Calls Tryz.prog 184 #[.int .i64 n] w fun e w' => e = .returned (.bool (hdB n)) ∧ w' = w := by
  by_cases h1 : n = 49
  · subst h1
    go_enter Tryz.func184, Tryz.ntmps184
    go_wp2
    go_ret
    exact ⟨rfl, rfl⟩
  by_cases h2 : n = 56
  · subst h2
    go_enter Tryz.func184, Tryz.ntmps184
    go_wp2
    go_ret
    exact ⟨rfl, rfl⟩
  by_cases h3 : n = 34
  · subst h3
    go_enter Tryz.func184, Tryz.ntmps184
    go_wp2
    go_ret
    exact ⟨rfl, rfl⟩
  by_cases h4 : n = 43
  · subst h4
    go_enter Tryz.func184, Tryz.ntmps184
    go_wp2
    go_ret
    exact ⟨rfl, rfl⟩
  by_cases h5 : n = 52
  · subst h5
    go_enter Tryz.func184, Tryz.ntmps184
    go_wp2
    go_ret
    exact ⟨rfl, rfl⟩
  by_cases h6 : n = 122
  · subst h6
    go_enter Tryz.func184, Tryz.ntmps184
    go_wp2
    go_ret
    exact ⟨rfl, rfl⟩
  rw [show hdB n = false by simp [hdB, h1, h2, h3, h4, h5, h6]]
  have b1 := beq_no h1
  have b2 := beq_no h2
  have b3 := beq_no h3
  have b4 := beq_no h4
  have b5 := beq_no h5
  have b6 := beq_no h6
  clear h1 h2 h3 h4 h5 h6
  go_enter Tryz.func184, Tryz.ntmps184
  go_wp2
  go_ret
  exact ⟨rfl, rfl⟩
/-- Which fields a kind has, by their numbers. -/
def hasR (k n : Int) : Int := if k = 0 then hiN (hdB n) 1 else if n = 98 then hiN (k == 7) 2 else if n = 18 then hiN (k == 8 || k == 13) 1 else if n = 530 then hiN (k == 11 || k == 15) 2 else hasN k n
set_option maxRecDepth 100000 in
set_option maxHeartbeats 800000 in
theorem fhas_any (k n : Int) (w : World) : Calls Tryz.prog 106 #[.int .i64 k, .int .i64 n] w fun e w' => e = .returned (.int .i64 (hasR k n)) ∧ Below w.heap.size w w' := by
  have hI := fun (b : Bool) m w => hasIf_any b m w
  by_cases h0 : k = 0
  · subst h0
    have hH := isHead_any n
    rw [show hasR 0 n = hiN (hdB n) 1 by simp [hasR]]
    generalize hdB n = b at *
    go_enter Tryz.func106, Tryz.ntmps106
    go_wp2_with (first | (go_at_call 184; refine (hH _).mono ?_; rintro e w2 ⟨rfl, rfl⟩) | (go_at_call 183; refine (hI _ _ _).mono ?_; rintro e w2 ⟨rfl, rfl⟩))
    go_ret
    exact ⟨rfl, Below.refl _ _⟩
  have b0 := beq_no h0
  by_cases h1 : n = 98
  · subst h1
    rw [show hasR k 98 = hiN (k == 7) 2 by simp [hasR, h0]]
    clear h0
    go_enter Tryz.func106, Tryz.ntmps106
    go_wp2_with (go_at_call 183; refine (hI _ _ _).mono ?_; rintro e w2 ⟨rfl, rfl⟩)
    go_ret
    exact ⟨rfl, Below.refl _ _⟩
  have b1 := beq_no h1
  by_cases h2 : n = 18
  · subst h2
    rw [show hasR k 18 = hiN (k == 8 || k == 13) 1 by simp [hasR, h0]]
    clear h0 h1
    by_cases h3 : k = 8
    · subst h3
      go_enter Tryz.func106, Tryz.ntmps106
      go_wp2_with (go_at_call 183; refine (hI _ _ _).mono ?_; rintro e w2 ⟨rfl, rfl⟩)
      go_ret
      exact ⟨rfl, Below.refl _ _⟩
    · have b3 := beq_no h3
      rw [b3, Bool.false_or]
      clear h3
      go_enter Tryz.func106, Tryz.ntmps106
      go_wp2_with (go_at_call 183; refine (hI _ _ _).mono ?_; rintro e w2 ⟨rfl, rfl⟩)
      go_ret
      exact ⟨rfl, Below.refl _ _⟩
  have b2 := beq_no h2
  by_cases h4 : n = 530
  · subst h4
    rw [show hasR k 530 = hiN (k == 11 || k == 15) 2 by simp [hasR, h0]]
    clear h0 h1 h2
    by_cases h3 : k = 11
    · subst h3
      go_enter Tryz.func106, Tryz.ntmps106
      go_wp2_with (go_at_call 183; refine (hI _ _ _).mono ?_; rintro e w2 ⟨rfl, rfl⟩)
      go_ret
      exact ⟨rfl, Below.refl _ _⟩
    · have b3 := beq_no h3
      rw [b3, Bool.false_or]
      clear h3
      go_enter Tryz.func106, Tryz.ntmps106
      go_wp2_with (go_at_call 183; refine (hI _ _ _).mono ?_; rintro e w2 ⟨rfl, rfl⟩)
      go_ret
      exact ⟨rfl, Below.refl _ _⟩
  have b4 := beq_no h4
  rw [show hasR k n = hasN k n by simp [hasR, h0, h1, h2, h4]]
  have hN := Has_any k n w
  generalize hasN k n = R at *
  clear h0 h1 h2 h4
  go_enter Tryz.func106, Tryz.ntmps106
  go_wp2_with (go_at_call 19; refine hN.mono ?_; rintro e w2 ⟨rfl, hb2⟩)
  go_ret
  exact ⟨rfl, hb2⟩
/-- The tag of a number. -/
def tagR (k n : Int) : Int := if n = 373 then (if k = 16 then 380 else if k = 14 then 102 else if k = 13 then 103 else if k = 15 then 532 else 373) else n
set_option maxRecDepth 100000 in
theorem tagOf_any (k n : Int) (w : World) : Calls Tryz.prog 107 #[.int .i64 k, .int .i64 n] w fun e w' => e = .returned (.int .i64 (tagR k n)) ∧ w' = w := by
  by_cases h1 : n = 373
  · subst h1
    by_cases h2 : k = 16
    · subst h2
      go_enter Tryz.func107, Tryz.ntmps107
      go_wp2
      go_ret
      exact ⟨rfl, rfl⟩
    by_cases h3 : k = 14
    · subst h3
      go_enter Tryz.func107, Tryz.ntmps107
      go_wp2
      go_ret
      exact ⟨rfl, rfl⟩
    by_cases h4 : k = 13
    · subst h4
      go_enter Tryz.func107, Tryz.ntmps107
      go_wp2
      go_ret
      exact ⟨rfl, rfl⟩
    by_cases h5 : k = 15
    · subst h5
      go_enter Tryz.func107, Tryz.ntmps107
      go_wp2
      go_ret
      exact ⟨rfl, rfl⟩
    rw [show tagR k 373 = 373 by simp [tagR, h2, h3, h4, h5]]
    have b2 := beq_no h2
    have b3 := beq_no h3
    have b4 := beq_no h4
    have b5 := beq_no h5
    clear h2 h3 h4 h5
    go_enter Tryz.func107, Tryz.ntmps107
    go_wp2
    go_ret
    exact ⟨rfl, rfl⟩
  · rw [show tagR k n = n by simp [tagR, h1]]
    have b1 := bne_no h1
    clear h1
    go_enter Tryz.func107, Tryz.ntmps107
    go_wp2
    go_ret
    exact ⟨rfl, rfl⟩
end Go.Proofs.YtchkpggdndnpjaaGreatDoor
