import Derived.Test.YtchkpggdndnpjabGreatDoorG09
import Derived.Test.YtchkpggdndnpjabGreatDoorG02
import Derived.Deep.DeepCutAuto

namespace Go.Proofs.YtchkpggdndnpjabGreatDoor
set_option linter.unusedVariables false
set_option linter.unusedSimpArgs false
open Go.RowKit Go.Great

theorem wpList_callW {P : Program} {ops : Array Oper} {rest : List Oper} {op : Oper} {a : Act} {w : World} {Q : Exit → Act → World → Prop} (hg : op.guard = none) (d : Option Tmp) (hd : op.dst = d)
    (f : FuncId) (args : Array Value) (hrun : (execOp a.eval op).run P w = .ok (.enter f args) w) {R : Ending → World → Prop} (hc : Calls P f args w R)
    (h : ∀ e w', R e w' → ∃ v, e = .returned v ∧ wpList P ops Q rest (a.put d v) w') : wpList P ops Q (op :: rest) a w := by
  subst hd
  refine wpList_plain hg fun K hK => ?_
  unfold Oper.wp
  rw [hrun, Oper.upon_enter]
  refine hc.mono fun e w'' hh => ?_
  obtain ⟨v, rfl, hw⟩ := h _ _ hh
  exact hK _ _ hw
/-- A list of numbers in memory. -/
def SlI (w : World) (v : Value) (l : List Int) : Prop := (l = [] ∧ v = .slice none 0 0) ∨ ∃ g, v = .slice (some ⟨g, 0, none⟩) l.length l.length ∧ g < w.heap.size ∧ ∀ k, k < l.length → w.cell? ⟨g, k, none⟩ = some (.int .i64 (l.getD k 0))
theorem SlI.below {w w' : World} {v : Value} {l : List Int} (h : SlI w v l) (hb : Below w.heap.size w w') : SlI w' v l := by
  rcases h with h | ⟨g, h1, h2, h3⟩
  · exact .inl h
  · exact .inr ⟨g, h1, Nat.lt_of_lt_of_le h2 hb.size, fun k hk => by rw [hb.cell (p := ⟨g, k, none⟩) h2]; exact h3 k hk⟩
theorem sli_alloc {w : World} {cs : Array Value} {n : Nat} (l : List Int) (h : (l.map fun z => Value.int .i64 z).toArray = cs) (hn : l.length = n := by rfl) : SlI (w.alloc (.cells cs 3)) (.slice (some ⟨w.heap.size, 0, none⟩) n n) l := by
  subst h hn
  refine .inr ⟨w.heap.size, rfl, by simp, fun k hk => ?_⟩
  rw [cell_of_row _ _ _ _ _ _ (heap_alloc_new w _)]
  simp [List.getD_eq_getElem?_getD, hk]
set_option maxRecDepth 100000 in
set_option maxHeartbeats 400000 in
theorem rall_any (w : World) : Calls Tryz.prog 182 #[] w fun e w' => ∃ g, e = .returned (.slice (some ⟨g, 0, none⟩) 1 1) ∧ SlI w' (.slice (some ⟨g, 0, none⟩) 1 1) [0] ∧ Below w.heap.size w w' := by
  have hb : Below w.heap.size w (w.alloc (.cells #[.int .i64 0] 3)) := (Below.refl _ w).alloc (Nat.le_refl _) _
  have hf : SlI (w.alloc (.cells #[.int .i64 0] 3)) (.slice (some ⟨w.heap.size, 0, none⟩) 1 1) [0] := sli_alloc [0] rfl
  have HB : Hid _ := And.intro hf hb
  clear hb hf
  go_enter Tryz.func182, Tryz.ntmps182
  go_upto_region 1 with fail
  refine wp_region_lit ?_
  refine wpList_runTo rfl (some 1) rfl (.slice (some ⟨w.heap.size, 0, none⟩) 1 1) (w.alloc (.cells #[.int .i64 0] 3)) (by kernel_rfl) ?_
  simp only [Act.put, List.setIfInBounds_toArray, List.set_cons_zero, List.set_cons_succ]
  generalize w.alloc (.cells #[.int .i64 0] 3) = w1 at *
  go_wp2
  go_ret
  exact ⟨w.heap.size, rfl, HB.out⟩
def rWhat : List Int := [0, 2, 2, 0, 1, 0, 0, 0, 1, 6, 0, 0, 0, 1, 0, 0, 0, 0, 5, 3, 3, 2, 4, 0, 0, 0, 0, 0, 0, 0, 0, 7, 0, 0, 0, 0, 0, 0, 0, 0, 0, 0]
def rLeast : List Int := [1, 0, 0, 1, 0, 0, 1, 1, 0, 0, 1, 0, 1, 0, 1, 1, 1, 0, 0, 0, 0, 0, 0, 1, 1, 1, 1, 1, 1, 1, 1, 0, 0, 1, 1, 1, 1, 1, 0, 0, 0, 0]
def rMost : List Int := [17, 0, 0, 999999999, 0, 253402300799999, 253402300799999, 3600, 0, 0, 999999999, 999999999, 999999999, 0, 999999999, 17, 9999, 999, 0, 0, 0, 0, 0, 2, 4, 7, 1000000000, 1000000000, 1000000, 1000000, 1000000, 0, 999999999, 999999999, 8, 6, 1000000000, 1000000, 1000000, 1000000, 5, 999999999]
def rMust : List (List Int) := [[0], [0], [0], [0], [], [0], [], [7], [], [2], [3], [3], [5], [], [4, 16], [16], [], [4, 16, 14], [], [8, 9, 10, 11, 12, 13, 14, 15], [9, 10, 14], [8, 13], [8, 9, 10, 12, 13, 17], [8, 9, 10, 12, 13], [8], [8], [], [], [8, 10, 13], [], [], [], [13, 14], [13], [13], [13, 14], [], [], [13], [13], [17], [15]]
def rMay : List (List Int) := [[], [], [], [], [0], [], [0], [], [7], [1], [], [], [], [5], [], [4], [4], [13, 15], [5, 4, 6, 13, 14, 15, 16, 17], [], [13], [11], [11, 15], [11], [13], [13], [8, 10, 13], [8, 10, 13], [], [8, 13], [8], [8], [], [], [], [], [13], [13], [], [], [], []]
def refRow (j : Nat) (mu ma : Value) : List Value := [.int .i64 (tNum.getD j 0), .int .i64 (rWhat.getD j 0), .int .i64 (rLeast.getD j 0), .int .i64 (rMost.getD j 0), .bool (tOz.getD j false), mu, ma]
/-- The table lies in memory. -/
def TabAt (w : World) (G : Nat) (mu ma : Nat → Value) : Prop := (∀ j, j < 42 → w.rangeAt G (j * 7) (refRow j (mu j) (ma j))) ∧ ∀ j, j < 42 → SlI w (mu j) (rMust.getD j []) ∧ SlI w (ma j) (rMay.getD j [])
def rcL (g : Nat → Nat) : List Value := [.int .i64 35, .int .i64 0, .int .i64 1, .int .i64 17, .bool false, .slice (some ⟨g 2, 0, none⟩) 1 1, .slice none 0 0, .int .i64 49, .int .i64 2, .int .i64 0, .int .i64 0, .bool false, .slice (some ⟨g 3, 0, none⟩) 1 1, .slice none 0 0, .int .i64 56, .int .i64 2, .int .i64 0, .int .i64 0, .bool false, .slice (some ⟨g 4, 0, none⟩) 1 1, .slice none 0 0, .int .i64 34, .int .i64 0, .int .i64 1, .int .i64 999999999, .bool false, .slice (some ⟨g 5, 0, none⟩) 1 1, .slice none 0 0, .int .i64 43, .int .i64 1, .int .i64 0, .int .i64 0, .bool false, .slice none 0 0, .slice (some ⟨g 6, 0, none⟩) 1 1, .int .i64 52, .int .i64 0, .int .i64 0, .int .i64 253402300799999, .bool true, .slice (some ⟨g 7, 0, none⟩) 1 1, .slice none 0 0, .int .i64 122, .int .i64 0, .int .i64 1, .int .i64 253402300799999, .bool false, .slice none 0 0, .slice (some ⟨g 8, 0, none⟩) 1 1, .int .i64 108, .int .i64 0, .int .i64 1, .int .i64 3600, .bool false, .slice (some ⟨g 9, 0, none⟩) 1 1, .slice none 0 0, .int .i64 141, .int .i64 1, .int .i64 0, .int .i64 0, .bool false, .slice none 0 0, .slice (some ⟨g 10, 0, none⟩) 1 1, .int .i64 112, .int .i64 6, .int .i64 0, .int .i64 0, .bool false, .slice (some ⟨g 11, 0, none⟩) 1 1, .slice (some ⟨g 12, 0, none⟩) 1 1, .int .i64 7, .int .i64 0, .int .i64 1, .int .i64 999999999, .bool false, .slice (some ⟨g 13, 0, none⟩) 1 1, .slice none 0 0, .int .i64 16, .int .i64 0, .int .i64 0, .int .i64 999999999, .bool true, .slice (some ⟨g 14, 0, none⟩) 1 1, .slice none 0 0, .int .i64 36, .int .i64 0, .int .i64 1, .int .i64 999999999, .bool false, .slice (some ⟨g 15, 0, none⟩) 1 1, .slice none 0 0, .int .i64 123, .int .i64 1, .int .i64 0, .int .i64 0, .bool false, .slice none 0 0, .slice (some ⟨g 16, 0, none⟩) 1 1, .int .i64 45, .int .i64 0, .int .i64 1, .int .i64 999999999, .bool false, .slice (some ⟨g 17, 0, none⟩) 2 2, .slice none 0 0, .int .i64 372, .int .i64 0, .int .i64 1, .int .i64 17, .bool false, .slice (some ⟨g 18, 0, none⟩) 1 1, .slice (some ⟨g 19, 0, none⟩) 1 1, .int .i64 371, .int .i64 0, .int .i64 1, .int .i64 9999, .bool false, .slice none 0 0, .slice (some ⟨g 20, 0, none⟩) 1 1, .int .i64 373, .int .i64 0, .int .i64 0, .int .i64 999, .bool true, .slice (some ⟨g 21, 0, none⟩) 3 3, .slice (some ⟨g 22, 0, none⟩) 2 2, .int .i64 58, .int .i64 5, .int .i64 0, .int .i64 0, .bool false, .slice none 0 0, .slice (some ⟨g 23, 0, none⟩) 8 8, .int .i64 11, .int .i64 3, .int .i64 0, .int .i64 0, .bool false, .slice (some ⟨g 24, 0, none⟩) 8 8, .slice none 0 0, .int .i64 41, .int .i64 3, .int .i64 0, .int .i64 0, .bool false, .slice (some ⟨g 25, 0, none⟩) 3 3, .slice (some ⟨g 26, 0, none⟩) 1 1, .int .i64 1, .int .i64 2, .int .i64 0, .int .i64 0, .bool false, .slice (some ⟨g 27, 0, none⟩) 2 2, .slice (some ⟨g 28, 0, none⟩) 1 1, .int .i64 55, .int .i64 4, .int .i64 0, .int .i64 0, .bool false, .slice (some ⟨g 29, 0, none⟩) 6 6, .slice (some ⟨g 30, 0, none⟩) 2 2, .int .i64 54, .int .i64 0, .int .i64 1, .int .i64 2, .bool false, .slice (some ⟨g 1, 0, none⟩) 5 5, .slice (some ⟨g 31, 0, none⟩) 1 1, .int .i64 40, .int .i64 0, .int .i64 1, .int .i64 4, .bool false, .slice (some ⟨g 32, 0, none⟩) 1 1, .slice (some ⟨g 33, 0, none⟩) 1 1, .int .i64 59, .int .i64 0, .int .i64 1, .int .i64 7, .bool false, .slice (some ⟨g 34, 0, none⟩) 1 1, .slice (some ⟨g 35, 0, none⟩) 1 1, .int .i64 44, .int .i64 0, .int .i64 1, .int .i64 1000000000, .bool false, .slice none 0 0, .slice (some ⟨g 36, 0, none⟩) 3 3, .int .i64 99, .int .i64 0, .int .i64 1, .int .i64 1000000000, .bool false, .slice none 0 0, .slice (some ⟨g 37, 0, none⟩) 3 3, .int .i64 38, .int .i64 0, .int .i64 1, .int .i64 1000000, .bool false, .slice (some ⟨g 38, 0, none⟩) 3 3, .slice none 0 0, .int .i64 111, .int .i64 0, .int .i64 1, .int .i64 1000000, .bool false, .slice none 0 0, .slice (some ⟨g 39, 0, none⟩) 2 2, .int .i64 110, .int .i64 0, .int .i64 1, .int .i64 1000000, .bool false, .slice none 0 0, .slice (some ⟨g 40, 0, none⟩) 1 1, .int .i64 432, .int .i64 7, .int .i64 0, .int .i64 0, .bool false, .slice none 0 0, .slice (some ⟨g 41, 0, none⟩) 1 1, .int .i64 37, .int .i64 0, .int .i64 0, .int .i64 999999999, .bool true, .slice (some ⟨g 42, 0, none⟩) 2 2, .slice none 0 0, .int .i64 17, .int .i64 0, .int .i64 1, .int .i64 999999999, .bool false, .slice (some ⟨g 43, 0, none⟩) 1 1, .slice none 0 0, .int .i64 150, .int .i64 0, .int .i64 1, .int .i64 8, .bool false, .slice (some ⟨g 44, 0, none⟩) 1 1, .slice none 0 0, .int .i64 39, .int .i64 0, .int .i64 1, .int .i64 6, .bool false, .slice (some ⟨g 45, 0, none⟩) 2 2, .slice none 0 0, .int .i64 31, .int .i64 0, .int .i64 1, .int .i64 1000000000, .bool false, .slice none 0 0, .slice (some ⟨g 46, 0, none⟩) 1 1, .int .i64 32, .int .i64 0, .int .i64 1, .int .i64 1000000, .bool false, .slice none 0 0, .slice (some ⟨g 47, 0, none⟩) 1 1, .int .i64 151, .int .i64 0, .int .i64 0, .int .i64 1000000, .bool true, .slice (some ⟨g 48, 0, none⟩) 1 1, .slice none 0 0, .int .i64 14, .int .i64 0, .int .i64 0, .int .i64 1000000, .bool true, .slice (some ⟨g 49, 0, none⟩) 1 1, .slice none 0 0, .int .i64 326, .int .i64 0, .int .i64 0, .int .i64 5, .bool true, .slice (some ⟨g 50, 0, none⟩) 1 1, .slice none 0 0, .int .i64 533, .int .i64 0, .int .i64 0, .int .i64 999999999, .bool true, .slice (some ⟨g 51, 0, none⟩) 1 1, .slice none 0 0]
def muV (g : Nat → Nat) (j : Nat) : Value := ([.slice (some ⟨g 2, 0, none⟩) 1 1, .slice (some ⟨g 3, 0, none⟩) 1 1, .slice (some ⟨g 4, 0, none⟩) 1 1, .slice (some ⟨g 5, 0, none⟩) 1 1, .slice none 0 0, .slice (some ⟨g 7, 0, none⟩) 1 1, .slice none 0 0, .slice (some ⟨g 9, 0, none⟩) 1 1, .slice none 0 0, .slice (some ⟨g 11, 0, none⟩) 1 1, .slice (some ⟨g 13, 0, none⟩) 1 1, .slice (some ⟨g 14, 0, none⟩) 1 1, .slice (some ⟨g 15, 0, none⟩) 1 1, .slice none 0 0, .slice (some ⟨g 17, 0, none⟩) 2 2, .slice (some ⟨g 18, 0, none⟩) 1 1, .slice none 0 0, .slice (some ⟨g 21, 0, none⟩) 3 3, .slice none 0 0, .slice (some ⟨g 24, 0, none⟩) 8 8, .slice (some ⟨g 25, 0, none⟩) 3 3, .slice (some ⟨g 27, 0, none⟩) 2 2, .slice (some ⟨g 29, 0, none⟩) 6 6, .slice (some ⟨g 1, 0, none⟩) 5 5, .slice (some ⟨g 32, 0, none⟩) 1 1, .slice (some ⟨g 34, 0, none⟩) 1 1, .slice none 0 0, .slice none 0 0, .slice (some ⟨g 38, 0, none⟩) 3 3, .slice none 0 0, .slice none 0 0, .slice none 0 0, .slice (some ⟨g 42, 0, none⟩) 2 2, .slice (some ⟨g 43, 0, none⟩) 1 1, .slice (some ⟨g 44, 0, none⟩) 1 1, .slice (some ⟨g 45, 0, none⟩) 2 2, .slice none 0 0, .slice none 0 0, .slice (some ⟨g 48, 0, none⟩) 1 1, .slice (some ⟨g 49, 0, none⟩) 1 1, .slice (some ⟨g 50, 0, none⟩) 1 1, .slice (some ⟨g 51, 0, none⟩) 1 1] : List Value).getD j (.slice none 0 0)
def maV (g : Nat → Nat) (j : Nat) : Value := ([.slice none 0 0, .slice none 0 0, .slice none 0 0, .slice none 0 0, .slice (some ⟨g 6, 0, none⟩) 1 1, .slice none 0 0, .slice (some ⟨g 8, 0, none⟩) 1 1, .slice none 0 0, .slice (some ⟨g 10, 0, none⟩) 1 1, .slice (some ⟨g 12, 0, none⟩) 1 1, .slice none 0 0, .slice none 0 0, .slice none 0 0, .slice (some ⟨g 16, 0, none⟩) 1 1, .slice none 0 0, .slice (some ⟨g 19, 0, none⟩) 1 1, .slice (some ⟨g 20, 0, none⟩) 1 1, .slice (some ⟨g 22, 0, none⟩) 2 2, .slice (some ⟨g 23, 0, none⟩) 8 8, .slice none 0 0, .slice (some ⟨g 26, 0, none⟩) 1 1, .slice (some ⟨g 28, 0, none⟩) 1 1, .slice (some ⟨g 30, 0, none⟩) 2 2, .slice (some ⟨g 31, 0, none⟩) 1 1, .slice (some ⟨g 33, 0, none⟩) 1 1, .slice (some ⟨g 35, 0, none⟩) 1 1, .slice (some ⟨g 36, 0, none⟩) 3 3, .slice (some ⟨g 37, 0, none⟩) 3 3, .slice none 0 0, .slice (some ⟨g 39, 0, none⟩) 2 2, .slice (some ⟨g 40, 0, none⟩) 1 1, .slice (some ⟨g 41, 0, none⟩) 1 1, .slice none 0 0, .slice none 0 0, .slice none 0 0, .slice none 0 0, .slice (some ⟨g 46, 0, none⟩) 1 1, .slice (some ⟨g 47, 0, none⟩) 1 1, .slice none 0 0, .slice none 0 0, .slice none 0 0, .slice none 0 0] : List Value).getD j (.slice none 0 0)
set_option maxRecDepth 100000 in
theorem rc_at (g : Nat → Nat) (j : Nat) (hj : j < 42) : (rcL g).drop (j * 7) = refRow j (muV g j) (maV g j) ++ (rcL g).drop (j * 7 + 7) := by
  rcases cases42 hj with rfl | rfl | rfl | rfl | rfl | rfl | rfl | rfl | rfl | rfl | rfl | rfl | rfl | rfl | rfl | rfl | rfl | rfl | rfl | rfl | rfl | rfl | rfl | rfl | rfl | rfl | rfl | rfl | rfl | rfl | rfl | rfl | rfl | rfl | rfl | rfl | rfl | rfl | rfl | rfl | rfl | rfl <;> kernel_rfl
set_option maxRecDepth 100000 in
theorem tab_sl (wF : World) (g : Nat → Nat) (h1 : SlI wF (.slice (some ⟨g 1, 0, none⟩) 5 5) [8, 9, 10, 12, 13]) (h2 : SlI wF (.slice (some ⟨g 2, 0, none⟩) 1 1) [0]) (h3 : SlI wF (.slice (some ⟨g 3, 0, none⟩) 1 1) [0]) (h4 : SlI wF (.slice (some ⟨g 4, 0, none⟩) 1 1) [0]) (h5 : SlI wF (.slice (some ⟨g 5, 0, none⟩) 1 1) [0]) (h6 : SlI wF (.slice (some ⟨g 6, 0, none⟩) 1 1) [0]) (h7 : SlI wF (.slice (some ⟨g 7, 0, none⟩) 1 1) [0]) (h8 : SlI wF (.slice (some ⟨g 8, 0, none⟩) 1 1) [0]) (h9 : SlI wF (.slice (some ⟨g 9, 0, none⟩) 1 1) [7]) (h10 : SlI wF (.slice (some ⟨g 10, 0, none⟩) 1 1) [7]) (h11 : SlI wF (.slice (some ⟨g 11, 0, none⟩) 1 1) [2]) (h12 : SlI wF (.slice (some ⟨g 12, 0, none⟩) 1 1) [1]) (h13 : SlI wF (.slice (some ⟨g 13, 0, none⟩) 1 1) [3]) (h14 : SlI wF (.slice (some ⟨g 14, 0, none⟩) 1 1) [3]) (h15 : SlI wF (.slice (some ⟨g 15, 0, none⟩) 1 1) [5]) (h16 : SlI wF (.slice (some ⟨g 16, 0, none⟩) 1 1) [5]) (h17 : SlI wF (.slice (some ⟨g 17, 0, none⟩) 2 2) [4, 16]) (h18 : SlI wF (.slice (some ⟨g 18, 0, none⟩) 1 1) [16]) (h19 : SlI wF (.slice (some ⟨g 19, 0, none⟩) 1 1) [4]) (h20 : SlI wF (.slice (some ⟨g 20, 0, none⟩) 1 1) [4]) (h21 : SlI wF (.slice (some ⟨g 21, 0, none⟩) 3 3) [4, 16, 14]) (h22 : SlI wF (.slice (some ⟨g 22, 0, none⟩) 2 2) [13, 15]) (h23 : SlI wF (.slice (some ⟨g 23, 0, none⟩) 8 8) [5, 4, 6, 13, 14, 15, 16, 17]) (h24 : SlI wF (.slice (some ⟨g 24, 0, none⟩) 8 8) [8, 9, 10, 11, 12, 13, 14, 15]) (h25 : SlI wF (.slice (some ⟨g 25, 0, none⟩) 3 3) [9, 10, 14]) (h26 : SlI wF (.slice (some ⟨g 26, 0, none⟩) 1 1) [13]) (h27 : SlI wF (.slice (some ⟨g 27, 0, none⟩) 2 2) [8, 13]) (h28 : SlI wF (.slice (some ⟨g 28, 0, none⟩) 1 1) [11]) (h29 : SlI wF (.slice (some ⟨g 29, 0, none⟩) 6 6) [8, 9, 10, 12, 13, 17]) (h30 : SlI wF (.slice (some ⟨g 30, 0, none⟩) 2 2) [11, 15]) (h31 : SlI wF (.slice (some ⟨g 31, 0, none⟩) 1 1) [11]) (h32 : SlI wF (.slice (some ⟨g 32, 0, none⟩) 1 1) [8]) (h33 : SlI wF (.slice (some ⟨g 33, 0, none⟩) 1 1) [13]) (h34 : SlI wF (.slice (some ⟨g 34, 0, none⟩) 1 1) [8]) (h35 : SlI wF (.slice (some ⟨g 35, 0, none⟩) 1 1) [13]) (h36 : SlI wF (.slice (some ⟨g 36, 0, none⟩) 3 3) [8, 10, 13]) (h37 : SlI wF (.slice (some ⟨g 37, 0, none⟩) 3 3) [8, 10, 13]) (h38 : SlI wF (.slice (some ⟨g 38, 0, none⟩) 3 3) [8, 10, 13]) (h39 : SlI wF (.slice (some ⟨g 39, 0, none⟩) 2 2) [8, 13]) (h40 : SlI wF (.slice (some ⟨g 40, 0, none⟩) 1 1) [8]) (h41 : SlI wF (.slice (some ⟨g 41, 0, none⟩) 1 1) [8]) (h42 : SlI wF (.slice (some ⟨g 42, 0, none⟩) 2 2) [13, 14]) (h43 : SlI wF (.slice (some ⟨g 43, 0, none⟩) 1 1) [13]) (h44 : SlI wF (.slice (some ⟨g 44, 0, none⟩) 1 1) [13]) (h45 : SlI wF (.slice (some ⟨g 45, 0, none⟩) 2 2) [13, 14]) (h46 : SlI wF (.slice (some ⟨g 46, 0, none⟩) 1 1) [13]) (h47 : SlI wF (.slice (some ⟨g 47, 0, none⟩) 1 1) [13]) (h48 : SlI wF (.slice (some ⟨g 48, 0, none⟩) 1 1) [13]) (h49 : SlI wF (.slice (some ⟨g 49, 0, none⟩) 1 1) [13]) (h50 : SlI wF (.slice (some ⟨g 50, 0, none⟩) 1 1) [17]) (h51 : SlI wF (.slice (some ⟨g 51, 0, none⟩) 1 1) [15]) (j : Nat) (hj : j < 42) : SlI wF (muV g j) (rMust.getD j []) ∧ SlI wF (maV g j) (rMay.getD j []) := by
  rcases cases42 hj with rfl | rfl | rfl | rfl | rfl | rfl | rfl | rfl | rfl | rfl | rfl | rfl | rfl | rfl | rfl | rfl | rfl | rfl | rfl | rfl | rfl | rfl | rfl | rfl | rfl | rfl | rfl | rfl | rfl | rfl | rfl | rfl | rfl | rfl | rfl | rfl | rfl | rfl | rfl | rfl | rfl | rfl
  · exact ⟨h2, .inl ⟨rfl, rfl⟩⟩
  · exact ⟨h3, .inl ⟨rfl, rfl⟩⟩
  · exact ⟨h4, .inl ⟨rfl, rfl⟩⟩
  · exact ⟨h5, .inl ⟨rfl, rfl⟩⟩
  · exact ⟨.inl ⟨rfl, rfl⟩, h6⟩
  · exact ⟨h7, .inl ⟨rfl, rfl⟩⟩
  · exact ⟨.inl ⟨rfl, rfl⟩, h8⟩
  · exact ⟨h9, .inl ⟨rfl, rfl⟩⟩
  · exact ⟨.inl ⟨rfl, rfl⟩, h10⟩
  · exact ⟨h11, h12⟩
  · exact ⟨h13, .inl ⟨rfl, rfl⟩⟩
  · exact ⟨h14, .inl ⟨rfl, rfl⟩⟩
  · exact ⟨h15, .inl ⟨rfl, rfl⟩⟩
  · exact ⟨.inl ⟨rfl, rfl⟩, h16⟩
  · exact ⟨h17, .inl ⟨rfl, rfl⟩⟩
  · exact ⟨h18, h19⟩
  · exact ⟨.inl ⟨rfl, rfl⟩, h20⟩
  · exact ⟨h21, h22⟩
  · exact ⟨.inl ⟨rfl, rfl⟩, h23⟩
  · exact ⟨h24, .inl ⟨rfl, rfl⟩⟩
  · exact ⟨h25, h26⟩
  · exact ⟨h27, h28⟩
  · exact ⟨h29, h30⟩
  · exact ⟨h1, h31⟩
  · exact ⟨h32, h33⟩
  · exact ⟨h34, h35⟩
  · exact ⟨.inl ⟨rfl, rfl⟩, h36⟩
  · exact ⟨.inl ⟨rfl, rfl⟩, h37⟩
  · exact ⟨h38, .inl ⟨rfl, rfl⟩⟩
  · exact ⟨.inl ⟨rfl, rfl⟩, h39⟩
  · exact ⟨.inl ⟨rfl, rfl⟩, h40⟩
  · exact ⟨.inl ⟨rfl, rfl⟩, h41⟩
  · exact ⟨h42, .inl ⟨rfl, rfl⟩⟩
  · exact ⟨h43, .inl ⟨rfl, rfl⟩⟩
  · exact ⟨h44, .inl ⟨rfl, rfl⟩⟩
  · exact ⟨h45, .inl ⟨rfl, rfl⟩⟩
  · exact ⟨.inl ⟨rfl, rfl⟩, h46⟩
  · exact ⟨.inl ⟨rfl, rfl⟩, h47⟩
  · exact ⟨h48, .inl ⟨rfl, rfl⟩⟩
  · exact ⟨h49, .inl ⟨rfl, rfl⟩⟩
  · exact ⟨h50, .inl ⟨rfl, rfl⟩⟩
  · exact ⟨h51, .inl ⟨rfl, rfl⟩⟩
theorem tab_at {w : World} {G : Nat} {g : Nat → Nat} (hrow : w.heap[G]? = some (.cells (rcL g).toArray 95 (0, 0))) (hs : ∀ j, j < 42 → SlI w (muV g j) (rMust.getD j []) ∧ SlI w (maV g j) (rMay.getD j [])) : TabAt w G (muV g) (maV g) := by
  refine ⟨fun j hj i v hv => ?_, hs⟩
  rw [cell_of_row _ _ _ _ _ _ hrow]
  have h1 : (rcL g)[j * 7 + i]? = some v := by
    rw [← List.getElem?_drop, rc_at g j hj, List.getElem?_append_left (List.getElem?_eq_some_iff.1 hv).1]
    exact hv
  simpa using h1
def RowsRet (w : World) (e : Ending) (w' : World) : Prop := ∃ G mu ma, e = .returned (.slice (some ⟨G, 0, none⟩) 42 42) ∧ G < w'.heap.size ∧ TabAt w' G mu ma ∧ Below w.heap.size w w'
set_option maxRecDepth 1000000 in
set_option maxHeartbeats 8000000 in
theorem Rows_any (w : World) : Calls Tryz.prog 46 #[] w fun e w' => RowsRet w e w' := by
  go_enter Tryz.func46, Tryz.ntmps46
  go_upto_region 1 with fail
  rename_i K hK
  refine wp_region_lit ?_
  refine wpList_runTo rfl (some 2) rfl (.slice (some ⟨w.heap.size, 0, none⟩) 5 5) (w.alloc (.cells #[.int .i64 8, .int .i64 9, .int .i64 10, .int .i64 12, .int .i64 13] 3)) (by kernel_rfl) ?_
  have h1 : Below w.heap.size w (w.alloc (.cells #[.int .i64 8, .int .i64 9, .int .i64 10, .int .i64 12, .int .i64 13] 3)) := (Below.refl _ _).alloc (Nat.le_refl _) _
  have f1 : SlI (w.alloc (.cells #[.int .i64 8, .int .i64 9, .int .i64 10, .int .i64 12, .int .i64 13] 3)) (.slice (some ⟨w.heap.size, 0, none⟩) 5 5) [8, 9, 10, 12, 13] := sli_alloc [8, 9, 10, 12, 13] rfl
  generalize hg1 : w.heap.size = g1 at h1 f1 ⊢
  generalize w.alloc (.cells #[.int .i64 8, .int .i64 9, .int .i64 10, .int .i64 12, .int .i64 13] 3) = w1 at *
  simp only [Act.put, List.setIfInBounds_toArray, List.set_cons_zero, List.set_cons_succ]
  refine wpList_runTo rfl (some 1) rfl (.slice (some ⟨g1, 0, none⟩) 5 5) w1 (by kernel_rfl) ?_
  simp only [Act.put, List.setIfInBounds_toArray, List.set_cons_zero, List.set_cons_succ]
  refine wpList_nil ?_
  refine hK _ _ ?_
  clear hK K
  go_upto_region 2 with fail
  refine wp_region_lit ?_
  refine wpList_callW rfl (some 3) rfl 182 #[] (by kernel_rfl) (rall_any w1) ?_
  rintro e w2 ⟨g2, rfl, f2, h2⟩
  refine ⟨_, rfl, ?_⟩
  simp only [Act.put, List.setIfInBounds_toArray, List.set_cons_zero, List.set_cons_succ]
  refine wpList_runTo rfl (some 4) rfl (.agg #[.int .i64 35, .int .i64 0, .int .i64 1, .int .i64 17, .bool false, .slice (some ⟨g2, 0, none⟩) 1 1, .slice none 0 0]) w2 (by kernel_rfl) ?_
  simp only [Act.put, List.setIfInBounds_toArray, List.set_cons_zero, List.set_cons_succ]
  refine wpList_callW rfl (some 5) rfl 182 #[] (by kernel_rfl) (rall_any w2) ?_
  rintro e w3 ⟨g3, rfl, f3, h3⟩
  refine ⟨_, rfl, ?_⟩
  simp only [Act.put, List.setIfInBounds_toArray, List.set_cons_zero, List.set_cons_succ]
  refine wpList_runTo rfl (some 6) rfl (.agg #[.int .i64 49, .int .i64 2, .int .i64 0, .int .i64 0, .bool false, .slice (some ⟨g3, 0, none⟩) 1 1, .slice none 0 0]) w3 (by kernel_rfl) ?_
  simp only [Act.put, List.setIfInBounds_toArray, List.set_cons_zero, List.set_cons_succ]
  refine wpList_callW rfl (some 7) rfl 182 #[] (by kernel_rfl) (rall_any w3) ?_
  rintro e w4 ⟨g4, rfl, f4, h4⟩
  refine ⟨_, rfl, ?_⟩
  simp only [Act.put, List.setIfInBounds_toArray, List.set_cons_zero, List.set_cons_succ]
  refine wpList_runTo rfl (some 8) rfl (.agg #[.int .i64 56, .int .i64 2, .int .i64 0, .int .i64 0, .bool false, .slice (some ⟨g4, 0, none⟩) 1 1, .slice none 0 0]) w4 (by kernel_rfl) ?_
  simp only [Act.put, List.setIfInBounds_toArray, List.set_cons_zero, List.set_cons_succ]
  refine wpList_callW rfl (some 9) rfl 182 #[] (by kernel_rfl) (rall_any w4) ?_
  rintro e w5 ⟨g5, rfl, f5, h5⟩
  refine ⟨_, rfl, ?_⟩
  simp only [Act.put, List.setIfInBounds_toArray, List.set_cons_zero, List.set_cons_succ]
  refine wpList_runTo rfl (some 10) rfl (.agg #[.int .i64 34, .int .i64 0, .int .i64 1, .int .i64 999999999, .bool false, .slice (some ⟨g5, 0, none⟩) 1 1, .slice none 0 0]) w5 (by kernel_rfl) ?_
  simp only [Act.put, List.setIfInBounds_toArray, List.set_cons_zero, List.set_cons_succ]
  refine wpList_callW rfl (some 11) rfl 182 #[] (by kernel_rfl) (rall_any w5) ?_
  rintro e w6 ⟨g6, rfl, f6, h6⟩
  refine ⟨_, rfl, ?_⟩
  simp only [Act.put, List.setIfInBounds_toArray, List.set_cons_zero, List.set_cons_succ]
  refine wpList_runTo rfl (some 12) rfl (.agg #[.int .i64 43, .int .i64 1, .int .i64 0, .int .i64 0, .bool false, .slice none 0 0, .slice (some ⟨g6, 0, none⟩) 1 1]) w6 (by kernel_rfl) ?_
  simp only [Act.put, List.setIfInBounds_toArray, List.set_cons_zero, List.set_cons_succ]
  refine wpList_callW rfl (some 13) rfl 182 #[] (by kernel_rfl) (rall_any w6) ?_
  rintro e w7 ⟨g7, rfl, f7, h7⟩
  refine ⟨_, rfl, ?_⟩
  simp only [Act.put, List.setIfInBounds_toArray, List.set_cons_zero, List.set_cons_succ]
  refine wpList_runTo rfl (some 14) rfl (.agg #[.int .i64 52, .int .i64 0, .int .i64 0, .int .i64 253402300799999, .bool true, .slice (some ⟨g7, 0, none⟩) 1 1, .slice none 0 0]) w7 (by kernel_rfl) ?_
  simp only [Act.put, List.setIfInBounds_toArray, List.set_cons_zero, List.set_cons_succ]
  refine wpList_callW rfl (some 15) rfl 182 #[] (by kernel_rfl) (rall_any w7) ?_
  rintro e w8 ⟨g8, rfl, f8, h8⟩
  refine ⟨_, rfl, ?_⟩
  simp only [Act.put, List.setIfInBounds_toArray, List.set_cons_zero, List.set_cons_succ]
  refine wpList_runTo rfl (some 16) rfl (.agg #[.int .i64 122, .int .i64 0, .int .i64 1, .int .i64 253402300799999, .bool false, .slice none 0 0, .slice (some ⟨g8, 0, none⟩) 1 1]) w8 (by kernel_rfl) ?_
  simp only [Act.put, List.setIfInBounds_toArray, List.set_cons_zero, List.set_cons_succ]
  refine wpList_runTo rfl (some 17) rfl (.slice (some ⟨w8.heap.size, 0, none⟩) 1 1) (w8.alloc (.cells #[.int .i64 7] 3)) (by kernel_rfl) ?_
  have h9 : Below w8.heap.size w8 (w8.alloc (.cells #[.int .i64 7] 3)) := (Below.refl _ _).alloc (Nat.le_refl _) _
  have f9 : SlI (w8.alloc (.cells #[.int .i64 7] 3)) (.slice (some ⟨w8.heap.size, 0, none⟩) 1 1) [7] := sli_alloc [7] rfl
  generalize hg9 : w8.heap.size = g9 at h9 f9 ⊢
  generalize w8.alloc (.cells #[.int .i64 7] 3) = w9 at *
  simp only [Act.put, List.setIfInBounds_toArray, List.set_cons_zero, List.set_cons_succ]
  refine wpList_runTo rfl (some 18) rfl (.agg #[.int .i64 108, .int .i64 0, .int .i64 1, .int .i64 3600, .bool false, .slice (some ⟨g9, 0, none⟩) 1 1, .slice none 0 0]) w9 (by kernel_rfl) ?_
  simp only [Act.put, List.setIfInBounds_toArray, List.set_cons_zero, List.set_cons_succ]
  refine wpList_runTo rfl (some 19) rfl (.slice (some ⟨w9.heap.size, 0, none⟩) 1 1) (w9.alloc (.cells #[.int .i64 7] 3)) (by kernel_rfl) ?_
  have h10 : Below w9.heap.size w9 (w9.alloc (.cells #[.int .i64 7] 3)) := (Below.refl _ _).alloc (Nat.le_refl _) _
  have f10 : SlI (w9.alloc (.cells #[.int .i64 7] 3)) (.slice (some ⟨w9.heap.size, 0, none⟩) 1 1) [7] := sli_alloc [7] rfl
  generalize hg10 : w9.heap.size = g10 at h10 f10 ⊢
  generalize w9.alloc (.cells #[.int .i64 7] 3) = w10 at *
  simp only [Act.put, List.setIfInBounds_toArray, List.set_cons_zero, List.set_cons_succ]
  refine wpList_runTo rfl (some 20) rfl (.agg #[.int .i64 141, .int .i64 1, .int .i64 0, .int .i64 0, .bool false, .slice none 0 0, .slice (some ⟨g10, 0, none⟩) 1 1]) w10 (by kernel_rfl) ?_
  simp only [Act.put, List.setIfInBounds_toArray, List.set_cons_zero, List.set_cons_succ]
  refine wpList_runTo rfl (some 21) rfl (.slice (some ⟨w10.heap.size, 0, none⟩) 1 1) (w10.alloc (.cells #[.int .i64 2] 3)) (by kernel_rfl) ?_
  have h11 : Below w10.heap.size w10 (w10.alloc (.cells #[.int .i64 2] 3)) := (Below.refl _ _).alloc (Nat.le_refl _) _
  have f11 : SlI (w10.alloc (.cells #[.int .i64 2] 3)) (.slice (some ⟨w10.heap.size, 0, none⟩) 1 1) [2] := sli_alloc [2] rfl
  generalize hg11 : w10.heap.size = g11 at h11 f11 ⊢
  generalize w10.alloc (.cells #[.int .i64 2] 3) = w11 at *
  simp only [Act.put, List.setIfInBounds_toArray, List.set_cons_zero, List.set_cons_succ]
  refine wpList_runTo rfl (some 22) rfl (.slice (some ⟨w11.heap.size, 0, none⟩) 1 1) (w11.alloc (.cells #[.int .i64 1] 3)) (by kernel_rfl) ?_
  have h12 : Below w11.heap.size w11 (w11.alloc (.cells #[.int .i64 1] 3)) := (Below.refl _ _).alloc (Nat.le_refl _) _
  have f12 : SlI (w11.alloc (.cells #[.int .i64 1] 3)) (.slice (some ⟨w11.heap.size, 0, none⟩) 1 1) [1] := sli_alloc [1] rfl
  generalize hg12 : w11.heap.size = g12 at h12 f12 ⊢
  generalize w11.alloc (.cells #[.int .i64 1] 3) = w12 at *
  simp only [Act.put, List.setIfInBounds_toArray, List.set_cons_zero, List.set_cons_succ]
  refine wpList_runTo rfl (some 23) rfl (.agg #[.int .i64 112, .int .i64 6, .int .i64 0, .int .i64 0, .bool false, .slice (some ⟨g11, 0, none⟩) 1 1, .slice (some ⟨g12, 0, none⟩) 1 1]) w12 (by kernel_rfl) ?_
  simp only [Act.put, List.setIfInBounds_toArray, List.set_cons_zero, List.set_cons_succ]
  refine wpList_runTo rfl (some 24) rfl (.slice (some ⟨w12.heap.size, 0, none⟩) 1 1) (w12.alloc (.cells #[.int .i64 3] 3)) (by kernel_rfl) ?_
  have h13 : Below w12.heap.size w12 (w12.alloc (.cells #[.int .i64 3] 3)) := (Below.refl _ _).alloc (Nat.le_refl _) _
  have f13 : SlI (w12.alloc (.cells #[.int .i64 3] 3)) (.slice (some ⟨w12.heap.size, 0, none⟩) 1 1) [3] := sli_alloc [3] rfl
  generalize hg13 : w12.heap.size = g13 at h13 f13 ⊢
  generalize w12.alloc (.cells #[.int .i64 3] 3) = w13 at *
  simp only [Act.put, List.setIfInBounds_toArray, List.set_cons_zero, List.set_cons_succ]
  refine wpList_runTo rfl (some 25) rfl (.agg #[.int .i64 7, .int .i64 0, .int .i64 1, .int .i64 999999999, .bool false, .slice (some ⟨g13, 0, none⟩) 1 1, .slice none 0 0]) w13 (by kernel_rfl) ?_
  simp only [Act.put, List.setIfInBounds_toArray, List.set_cons_zero, List.set_cons_succ]
  refine wpList_runTo rfl (some 26) rfl (.slice (some ⟨w13.heap.size, 0, none⟩) 1 1) (w13.alloc (.cells #[.int .i64 3] 3)) (by kernel_rfl) ?_
  have h14 : Below w13.heap.size w13 (w13.alloc (.cells #[.int .i64 3] 3)) := (Below.refl _ _).alloc (Nat.le_refl _) _
  have f14 : SlI (w13.alloc (.cells #[.int .i64 3] 3)) (.slice (some ⟨w13.heap.size, 0, none⟩) 1 1) [3] := sli_alloc [3] rfl
  generalize hg14 : w13.heap.size = g14 at h14 f14 ⊢
  generalize w13.alloc (.cells #[.int .i64 3] 3) = w14 at *
  simp only [Act.put, List.setIfInBounds_toArray, List.set_cons_zero, List.set_cons_succ]
  refine wpList_runTo rfl (some 27) rfl (.agg #[.int .i64 16, .int .i64 0, .int .i64 0, .int .i64 999999999, .bool true, .slice (some ⟨g14, 0, none⟩) 1 1, .slice none 0 0]) w14 (by kernel_rfl) ?_
  simp only [Act.put, List.setIfInBounds_toArray, List.set_cons_zero, List.set_cons_succ]
  refine wpList_runTo rfl (some 28) rfl (.slice (some ⟨w14.heap.size, 0, none⟩) 1 1) (w14.alloc (.cells #[.int .i64 5] 3)) (by kernel_rfl) ?_
  have h15 : Below w14.heap.size w14 (w14.alloc (.cells #[.int .i64 5] 3)) := (Below.refl _ _).alloc (Nat.le_refl _) _
  have f15 : SlI (w14.alloc (.cells #[.int .i64 5] 3)) (.slice (some ⟨w14.heap.size, 0, none⟩) 1 1) [5] := sli_alloc [5] rfl
  generalize hg15 : w14.heap.size = g15 at h15 f15 ⊢
  generalize w14.alloc (.cells #[.int .i64 5] 3) = w15 at *
  simp only [Act.put, List.setIfInBounds_toArray, List.set_cons_zero, List.set_cons_succ]
  refine wpList_runTo rfl (some 29) rfl (.agg #[.int .i64 36, .int .i64 0, .int .i64 1, .int .i64 999999999, .bool false, .slice (some ⟨g15, 0, none⟩) 1 1, .slice none 0 0]) w15 (by kernel_rfl) ?_
  simp only [Act.put, List.setIfInBounds_toArray, List.set_cons_zero, List.set_cons_succ]
  refine wpList_runTo rfl (some 30) rfl (.slice (some ⟨w15.heap.size, 0, none⟩) 1 1) (w15.alloc (.cells #[.int .i64 5] 3)) (by kernel_rfl) ?_
  have h16 : Below w15.heap.size w15 (w15.alloc (.cells #[.int .i64 5] 3)) := (Below.refl _ _).alloc (Nat.le_refl _) _
  have f16 : SlI (w15.alloc (.cells #[.int .i64 5] 3)) (.slice (some ⟨w15.heap.size, 0, none⟩) 1 1) [5] := sli_alloc [5] rfl
  generalize hg16 : w15.heap.size = g16 at h16 f16 ⊢
  generalize w15.alloc (.cells #[.int .i64 5] 3) = w16 at *
  simp only [Act.put, List.setIfInBounds_toArray, List.set_cons_zero, List.set_cons_succ]
  refine wpList_runTo rfl (some 31) rfl (.agg #[.int .i64 123, .int .i64 1, .int .i64 0, .int .i64 0, .bool false, .slice none 0 0, .slice (some ⟨g16, 0, none⟩) 1 1]) w16 (by kernel_rfl) ?_
  simp only [Act.put, List.setIfInBounds_toArray, List.set_cons_zero, List.set_cons_succ]
  refine wpList_runTo rfl (some 32) rfl (.slice (some ⟨w16.heap.size, 0, none⟩) 2 2) (w16.alloc (.cells #[.int .i64 4, .int .i64 16] 3)) (by kernel_rfl) ?_
  have h17 : Below w16.heap.size w16 (w16.alloc (.cells #[.int .i64 4, .int .i64 16] 3)) := (Below.refl _ _).alloc (Nat.le_refl _) _
  have f17 : SlI (w16.alloc (.cells #[.int .i64 4, .int .i64 16] 3)) (.slice (some ⟨w16.heap.size, 0, none⟩) 2 2) [4, 16] := sli_alloc [4, 16] rfl
  generalize hg17 : w16.heap.size = g17 at h17 f17 ⊢
  generalize w16.alloc (.cells #[.int .i64 4, .int .i64 16] 3) = w17 at *
  simp only [Act.put, List.setIfInBounds_toArray, List.set_cons_zero, List.set_cons_succ]
  refine wpList_runTo rfl (some 33) rfl (.agg #[.int .i64 45, .int .i64 0, .int .i64 1, .int .i64 999999999, .bool false, .slice (some ⟨g17, 0, none⟩) 2 2, .slice none 0 0]) w17 (by kernel_rfl) ?_
  simp only [Act.put, List.setIfInBounds_toArray, List.set_cons_zero, List.set_cons_succ]
  refine wpList_runTo rfl (some 34) rfl (.slice (some ⟨w17.heap.size, 0, none⟩) 1 1) (w17.alloc (.cells #[.int .i64 16] 3)) (by kernel_rfl) ?_
  have h18 : Below w17.heap.size w17 (w17.alloc (.cells #[.int .i64 16] 3)) := (Below.refl _ _).alloc (Nat.le_refl _) _
  have f18 : SlI (w17.alloc (.cells #[.int .i64 16] 3)) (.slice (some ⟨w17.heap.size, 0, none⟩) 1 1) [16] := sli_alloc [16] rfl
  generalize hg18 : w17.heap.size = g18 at h18 f18 ⊢
  generalize w17.alloc (.cells #[.int .i64 16] 3) = w18 at *
  simp only [Act.put, List.setIfInBounds_toArray, List.set_cons_zero, List.set_cons_succ]
  refine wpList_runTo rfl (some 35) rfl (.slice (some ⟨w18.heap.size, 0, none⟩) 1 1) (w18.alloc (.cells #[.int .i64 4] 3)) (by kernel_rfl) ?_
  have h19 : Below w18.heap.size w18 (w18.alloc (.cells #[.int .i64 4] 3)) := (Below.refl _ _).alloc (Nat.le_refl _) _
  have f19 : SlI (w18.alloc (.cells #[.int .i64 4] 3)) (.slice (some ⟨w18.heap.size, 0, none⟩) 1 1) [4] := sli_alloc [4] rfl
  generalize hg19 : w18.heap.size = g19 at h19 f19 ⊢
  generalize w18.alloc (.cells #[.int .i64 4] 3) = w19 at *
  simp only [Act.put, List.setIfInBounds_toArray, List.set_cons_zero, List.set_cons_succ]
  refine wpList_runTo rfl (some 36) rfl (.agg #[.int .i64 372, .int .i64 0, .int .i64 1, .int .i64 17, .bool false, .slice (some ⟨g18, 0, none⟩) 1 1, .slice (some ⟨g19, 0, none⟩) 1 1]) w19 (by kernel_rfl) ?_
  simp only [Act.put, List.setIfInBounds_toArray, List.set_cons_zero, List.set_cons_succ]
  refine wpList_runTo rfl (some 37) rfl (.slice (some ⟨w19.heap.size, 0, none⟩) 1 1) (w19.alloc (.cells #[.int .i64 4] 3)) (by kernel_rfl) ?_
  have h20 : Below w19.heap.size w19 (w19.alloc (.cells #[.int .i64 4] 3)) := (Below.refl _ _).alloc (Nat.le_refl _) _
  have f20 : SlI (w19.alloc (.cells #[.int .i64 4] 3)) (.slice (some ⟨w19.heap.size, 0, none⟩) 1 1) [4] := sli_alloc [4] rfl
  generalize hg20 : w19.heap.size = g20 at h20 f20 ⊢
  generalize w19.alloc (.cells #[.int .i64 4] 3) = w20 at *
  simp only [Act.put, List.setIfInBounds_toArray, List.set_cons_zero, List.set_cons_succ]
  refine wpList_runTo rfl (some 38) rfl (.agg #[.int .i64 371, .int .i64 0, .int .i64 1, .int .i64 9999, .bool false, .slice none 0 0, .slice (some ⟨g20, 0, none⟩) 1 1]) w20 (by kernel_rfl) ?_
  simp only [Act.put, List.setIfInBounds_toArray, List.set_cons_zero, List.set_cons_succ]
  refine wpList_runTo rfl (some 39) rfl (.slice (some ⟨w20.heap.size, 0, none⟩) 3 3) (w20.alloc (.cells #[.int .i64 4, .int .i64 16, .int .i64 14] 3)) (by kernel_rfl) ?_
  have h21 : Below w20.heap.size w20 (w20.alloc (.cells #[.int .i64 4, .int .i64 16, .int .i64 14] 3)) := (Below.refl _ _).alloc (Nat.le_refl _) _
  have f21 : SlI (w20.alloc (.cells #[.int .i64 4, .int .i64 16, .int .i64 14] 3)) (.slice (some ⟨w20.heap.size, 0, none⟩) 3 3) [4, 16, 14] := sli_alloc [4, 16, 14] rfl
  generalize hg21 : w20.heap.size = g21 at h21 f21 ⊢
  generalize w20.alloc (.cells #[.int .i64 4, .int .i64 16, .int .i64 14] 3) = w21 at *
  simp only [Act.put, List.setIfInBounds_toArray, List.set_cons_zero, List.set_cons_succ]
  refine wpList_runTo rfl (some 40) rfl (.slice (some ⟨w21.heap.size, 0, none⟩) 2 2) (w21.alloc (.cells #[.int .i64 13, .int .i64 15] 3)) (by kernel_rfl) ?_
  have h22 : Below w21.heap.size w21 (w21.alloc (.cells #[.int .i64 13, .int .i64 15] 3)) := (Below.refl _ _).alloc (Nat.le_refl _) _
  have f22 : SlI (w21.alloc (.cells #[.int .i64 13, .int .i64 15] 3)) (.slice (some ⟨w21.heap.size, 0, none⟩) 2 2) [13, 15] := sli_alloc [13, 15] rfl
  generalize hg22 : w21.heap.size = g22 at h22 f22 ⊢
  generalize w21.alloc (.cells #[.int .i64 13, .int .i64 15] 3) = w22 at *
  simp only [Act.put, List.setIfInBounds_toArray, List.set_cons_zero, List.set_cons_succ]
  refine wpList_runTo rfl (some 41) rfl (.agg #[.int .i64 373, .int .i64 0, .int .i64 0, .int .i64 999, .bool true, .slice (some ⟨g21, 0, none⟩) 3 3, .slice (some ⟨g22, 0, none⟩) 2 2]) w22 (by kernel_rfl) ?_
  simp only [Act.put, List.setIfInBounds_toArray, List.set_cons_zero, List.set_cons_succ]
  refine wpList_runTo rfl (some 42) rfl (.slice (some ⟨w22.heap.size, 0, none⟩) 8 8) (w22.alloc (.cells #[.int .i64 5, .int .i64 4, .int .i64 6, .int .i64 13, .int .i64 14, .int .i64 15, .int .i64 16, .int .i64 17] 3)) (by kernel_rfl) ?_
  have h23 : Below w22.heap.size w22 (w22.alloc (.cells #[.int .i64 5, .int .i64 4, .int .i64 6, .int .i64 13, .int .i64 14, .int .i64 15, .int .i64 16, .int .i64 17] 3)) := (Below.refl _ _).alloc (Nat.le_refl _) _
  have f23 : SlI (w22.alloc (.cells #[.int .i64 5, .int .i64 4, .int .i64 6, .int .i64 13, .int .i64 14, .int .i64 15, .int .i64 16, .int .i64 17] 3)) (.slice (some ⟨w22.heap.size, 0, none⟩) 8 8) [5, 4, 6, 13, 14, 15, 16, 17] := sli_alloc [5, 4, 6, 13, 14, 15, 16, 17] rfl
  generalize hg23 : w22.heap.size = g23 at h23 f23 ⊢
  generalize w22.alloc (.cells #[.int .i64 5, .int .i64 4, .int .i64 6, .int .i64 13, .int .i64 14, .int .i64 15, .int .i64 16, .int .i64 17] 3) = w23 at *
  simp only [Act.put, List.setIfInBounds_toArray, List.set_cons_zero, List.set_cons_succ]
  refine wpList_runTo rfl (some 43) rfl (.agg #[.int .i64 58, .int .i64 5, .int .i64 0, .int .i64 0, .bool false, .slice none 0 0, .slice (some ⟨g23, 0, none⟩) 8 8]) w23 (by kernel_rfl) ?_
  simp only [Act.put, List.setIfInBounds_toArray, List.set_cons_zero, List.set_cons_succ]
  refine wpList_runTo rfl (some 44) rfl (.slice (some ⟨w23.heap.size, 0, none⟩) 8 8) (w23.alloc (.cells #[.int .i64 8, .int .i64 9, .int .i64 10, .int .i64 11, .int .i64 12, .int .i64 13, .int .i64 14, .int .i64 15] 3)) (by kernel_rfl) ?_
  have h24 : Below w23.heap.size w23 (w23.alloc (.cells #[.int .i64 8, .int .i64 9, .int .i64 10, .int .i64 11, .int .i64 12, .int .i64 13, .int .i64 14, .int .i64 15] 3)) := (Below.refl _ _).alloc (Nat.le_refl _) _
  have f24 : SlI (w23.alloc (.cells #[.int .i64 8, .int .i64 9, .int .i64 10, .int .i64 11, .int .i64 12, .int .i64 13, .int .i64 14, .int .i64 15] 3)) (.slice (some ⟨w23.heap.size, 0, none⟩) 8 8) [8, 9, 10, 11, 12, 13, 14, 15] := sli_alloc [8, 9, 10, 11, 12, 13, 14, 15] rfl
  generalize hg24 : w23.heap.size = g24 at h24 f24 ⊢
  generalize w23.alloc (.cells #[.int .i64 8, .int .i64 9, .int .i64 10, .int .i64 11, .int .i64 12, .int .i64 13, .int .i64 14, .int .i64 15] 3) = w24 at *
  simp only [Act.put, List.setIfInBounds_toArray, List.set_cons_zero, List.set_cons_succ]
  refine wpList_runTo rfl (some 45) rfl (.agg #[.int .i64 11, .int .i64 3, .int .i64 0, .int .i64 0, .bool false, .slice (some ⟨g24, 0, none⟩) 8 8, .slice none 0 0]) w24 (by kernel_rfl) ?_
  simp only [Act.put, List.setIfInBounds_toArray, List.set_cons_zero, List.set_cons_succ]
  refine wpList_runTo rfl (some 46) rfl (.slice (some ⟨w24.heap.size, 0, none⟩) 3 3) (w24.alloc (.cells #[.int .i64 9, .int .i64 10, .int .i64 14] 3)) (by kernel_rfl) ?_
  have h25 : Below w24.heap.size w24 (w24.alloc (.cells #[.int .i64 9, .int .i64 10, .int .i64 14] 3)) := (Below.refl _ _).alloc (Nat.le_refl _) _
  have f25 : SlI (w24.alloc (.cells #[.int .i64 9, .int .i64 10, .int .i64 14] 3)) (.slice (some ⟨w24.heap.size, 0, none⟩) 3 3) [9, 10, 14] := sli_alloc [9, 10, 14] rfl
  generalize hg25 : w24.heap.size = g25 at h25 f25 ⊢
  generalize w24.alloc (.cells #[.int .i64 9, .int .i64 10, .int .i64 14] 3) = w25 at *
  simp only [Act.put, List.setIfInBounds_toArray, List.set_cons_zero, List.set_cons_succ]
  refine wpList_runTo rfl (some 47) rfl (.slice (some ⟨w25.heap.size, 0, none⟩) 1 1) (w25.alloc (.cells #[.int .i64 13] 3)) (by kernel_rfl) ?_
  have h26 : Below w25.heap.size w25 (w25.alloc (.cells #[.int .i64 13] 3)) := (Below.refl _ _).alloc (Nat.le_refl _) _
  have f26 : SlI (w25.alloc (.cells #[.int .i64 13] 3)) (.slice (some ⟨w25.heap.size, 0, none⟩) 1 1) [13] := sli_alloc [13] rfl
  generalize hg26 : w25.heap.size = g26 at h26 f26 ⊢
  generalize w25.alloc (.cells #[.int .i64 13] 3) = w26 at *
  simp only [Act.put, List.setIfInBounds_toArray, List.set_cons_zero, List.set_cons_succ]
  refine wpList_runTo rfl (some 48) rfl (.agg #[.int .i64 41, .int .i64 3, .int .i64 0, .int .i64 0, .bool false, .slice (some ⟨g25, 0, none⟩) 3 3, .slice (some ⟨g26, 0, none⟩) 1 1]) w26 (by kernel_rfl) ?_
  simp only [Act.put, List.setIfInBounds_toArray, List.set_cons_zero, List.set_cons_succ]
  refine wpList_runTo rfl (some 49) rfl (.slice (some ⟨w26.heap.size, 0, none⟩) 2 2) (w26.alloc (.cells #[.int .i64 8, .int .i64 13] 3)) (by kernel_rfl) ?_
  have h27 : Below w26.heap.size w26 (w26.alloc (.cells #[.int .i64 8, .int .i64 13] 3)) := (Below.refl _ _).alloc (Nat.le_refl _) _
  have f27 : SlI (w26.alloc (.cells #[.int .i64 8, .int .i64 13] 3)) (.slice (some ⟨w26.heap.size, 0, none⟩) 2 2) [8, 13] := sli_alloc [8, 13] rfl
  generalize hg27 : w26.heap.size = g27 at h27 f27 ⊢
  generalize w26.alloc (.cells #[.int .i64 8, .int .i64 13] 3) = w27 at *
  simp only [Act.put, List.setIfInBounds_toArray, List.set_cons_zero, List.set_cons_succ]
  refine wpList_runTo rfl (some 50) rfl (.slice (some ⟨w27.heap.size, 0, none⟩) 1 1) (w27.alloc (.cells #[.int .i64 11] 3)) (by kernel_rfl) ?_
  have h28 : Below w27.heap.size w27 (w27.alloc (.cells #[.int .i64 11] 3)) := (Below.refl _ _).alloc (Nat.le_refl _) _
  have f28 : SlI (w27.alloc (.cells #[.int .i64 11] 3)) (.slice (some ⟨w27.heap.size, 0, none⟩) 1 1) [11] := sli_alloc [11] rfl
  generalize hg28 : w27.heap.size = g28 at h28 f28 ⊢
  generalize w27.alloc (.cells #[.int .i64 11] 3) = w28 at *
  simp only [Act.put, List.setIfInBounds_toArray, List.set_cons_zero, List.set_cons_succ]
  refine wpList_runTo rfl (some 51) rfl (.agg #[.int .i64 1, .int .i64 2, .int .i64 0, .int .i64 0, .bool false, .slice (some ⟨g27, 0, none⟩) 2 2, .slice (some ⟨g28, 0, none⟩) 1 1]) w28 (by kernel_rfl) ?_
  simp only [Act.put, List.setIfInBounds_toArray, List.set_cons_zero, List.set_cons_succ]
  refine wpList_runTo rfl (some 52) rfl (.slice (some ⟨w28.heap.size, 0, none⟩) 6 6) (w28.alloc (.cells #[.int .i64 8, .int .i64 9, .int .i64 10, .int .i64 12, .int .i64 13, .int .i64 17] 3)) (by kernel_rfl) ?_
  have h29 : Below w28.heap.size w28 (w28.alloc (.cells #[.int .i64 8, .int .i64 9, .int .i64 10, .int .i64 12, .int .i64 13, .int .i64 17] 3)) := (Below.refl _ _).alloc (Nat.le_refl _) _
  have f29 : SlI (w28.alloc (.cells #[.int .i64 8, .int .i64 9, .int .i64 10, .int .i64 12, .int .i64 13, .int .i64 17] 3)) (.slice (some ⟨w28.heap.size, 0, none⟩) 6 6) [8, 9, 10, 12, 13, 17] := sli_alloc [8, 9, 10, 12, 13, 17] rfl
  generalize hg29 : w28.heap.size = g29 at h29 f29 ⊢
  generalize w28.alloc (.cells #[.int .i64 8, .int .i64 9, .int .i64 10, .int .i64 12, .int .i64 13, .int .i64 17] 3) = w29 at *
  simp only [Act.put, List.setIfInBounds_toArray, List.set_cons_zero, List.set_cons_succ]
  refine wpList_runTo rfl (some 53) rfl (.slice (some ⟨w29.heap.size, 0, none⟩) 2 2) (w29.alloc (.cells #[.int .i64 11, .int .i64 15] 3)) (by kernel_rfl) ?_
  have h30 : Below w29.heap.size w29 (w29.alloc (.cells #[.int .i64 11, .int .i64 15] 3)) := (Below.refl _ _).alloc (Nat.le_refl _) _
  have f30 : SlI (w29.alloc (.cells #[.int .i64 11, .int .i64 15] 3)) (.slice (some ⟨w29.heap.size, 0, none⟩) 2 2) [11, 15] := sli_alloc [11, 15] rfl
  generalize hg30 : w29.heap.size = g30 at h30 f30 ⊢
  generalize w29.alloc (.cells #[.int .i64 11, .int .i64 15] 3) = w30 at *
  simp only [Act.put, List.setIfInBounds_toArray, List.set_cons_zero, List.set_cons_succ]
  refine wpList_runTo rfl (some 54) rfl (.agg #[.int .i64 55, .int .i64 4, .int .i64 0, .int .i64 0, .bool false, .slice (some ⟨g29, 0, none⟩) 6 6, .slice (some ⟨g30, 0, none⟩) 2 2]) w30 (by kernel_rfl) ?_
  simp only [Act.put, List.setIfInBounds_toArray, List.set_cons_zero, List.set_cons_succ]
  refine wpList_runTo rfl (some 55) rfl (.slice (some ⟨g1, 0, none⟩) 5 5) w30 (by kernel_rfl) ?_
  simp only [Act.put, List.setIfInBounds_toArray, List.set_cons_zero, List.set_cons_succ]
  refine wpList_runTo rfl (some 56) rfl (.slice (some ⟨w30.heap.size, 0, none⟩) 1 1) (w30.alloc (.cells #[.int .i64 11] 3)) (by kernel_rfl) ?_
  have h31 : Below w30.heap.size w30 (w30.alloc (.cells #[.int .i64 11] 3)) := (Below.refl _ _).alloc (Nat.le_refl _) _
  have f31 : SlI (w30.alloc (.cells #[.int .i64 11] 3)) (.slice (some ⟨w30.heap.size, 0, none⟩) 1 1) [11] := sli_alloc [11] rfl
  generalize hg31 : w30.heap.size = g31 at h31 f31 ⊢
  generalize w30.alloc (.cells #[.int .i64 11] 3) = w31 at *
  simp only [Act.put, List.setIfInBounds_toArray, List.set_cons_zero, List.set_cons_succ]
  refine wpList_runTo rfl (some 57) rfl (.agg #[.int .i64 54, .int .i64 0, .int .i64 1, .int .i64 2, .bool false, .slice (some ⟨g1, 0, none⟩) 5 5, .slice (some ⟨g31, 0, none⟩) 1 1]) w31 (by kernel_rfl) ?_
  simp only [Act.put, List.setIfInBounds_toArray, List.set_cons_zero, List.set_cons_succ]
  refine wpList_runTo rfl (some 58) rfl (.slice (some ⟨w31.heap.size, 0, none⟩) 1 1) (w31.alloc (.cells #[.int .i64 8] 3)) (by kernel_rfl) ?_
  have h32 : Below w31.heap.size w31 (w31.alloc (.cells #[.int .i64 8] 3)) := (Below.refl _ _).alloc (Nat.le_refl _) _
  have f32 : SlI (w31.alloc (.cells #[.int .i64 8] 3)) (.slice (some ⟨w31.heap.size, 0, none⟩) 1 1) [8] := sli_alloc [8] rfl
  generalize hg32 : w31.heap.size = g32 at h32 f32 ⊢
  generalize w31.alloc (.cells #[.int .i64 8] 3) = w32 at *
  simp only [Act.put, List.setIfInBounds_toArray, List.set_cons_zero, List.set_cons_succ]
  refine wpList_runTo rfl (some 59) rfl (.slice (some ⟨w32.heap.size, 0, none⟩) 1 1) (w32.alloc (.cells #[.int .i64 13] 3)) (by kernel_rfl) ?_
  have h33 : Below w32.heap.size w32 (w32.alloc (.cells #[.int .i64 13] 3)) := (Below.refl _ _).alloc (Nat.le_refl _) _
  have f33 : SlI (w32.alloc (.cells #[.int .i64 13] 3)) (.slice (some ⟨w32.heap.size, 0, none⟩) 1 1) [13] := sli_alloc [13] rfl
  generalize hg33 : w32.heap.size = g33 at h33 f33 ⊢
  generalize w32.alloc (.cells #[.int .i64 13] 3) = w33 at *
  simp only [Act.put, List.setIfInBounds_toArray, List.set_cons_zero, List.set_cons_succ]
  refine wpList_runTo rfl (some 60) rfl (.agg #[.int .i64 40, .int .i64 0, .int .i64 1, .int .i64 4, .bool false, .slice (some ⟨g32, 0, none⟩) 1 1, .slice (some ⟨g33, 0, none⟩) 1 1]) w33 (by kernel_rfl) ?_
  simp only [Act.put, List.setIfInBounds_toArray, List.set_cons_zero, List.set_cons_succ]
  refine wpList_runTo rfl (some 61) rfl (.slice (some ⟨w33.heap.size, 0, none⟩) 1 1) (w33.alloc (.cells #[.int .i64 8] 3)) (by kernel_rfl) ?_
  have h34 : Below w33.heap.size w33 (w33.alloc (.cells #[.int .i64 8] 3)) := (Below.refl _ _).alloc (Nat.le_refl _) _
  have f34 : SlI (w33.alloc (.cells #[.int .i64 8] 3)) (.slice (some ⟨w33.heap.size, 0, none⟩) 1 1) [8] := sli_alloc [8] rfl
  generalize hg34 : w33.heap.size = g34 at h34 f34 ⊢
  generalize w33.alloc (.cells #[.int .i64 8] 3) = w34 at *
  simp only [Act.put, List.setIfInBounds_toArray, List.set_cons_zero, List.set_cons_succ]
  refine wpList_runTo rfl (some 62) rfl (.slice (some ⟨w34.heap.size, 0, none⟩) 1 1) (w34.alloc (.cells #[.int .i64 13] 3)) (by kernel_rfl) ?_
  have h35 : Below w34.heap.size w34 (w34.alloc (.cells #[.int .i64 13] 3)) := (Below.refl _ _).alloc (Nat.le_refl _) _
  have f35 : SlI (w34.alloc (.cells #[.int .i64 13] 3)) (.slice (some ⟨w34.heap.size, 0, none⟩) 1 1) [13] := sli_alloc [13] rfl
  generalize hg35 : w34.heap.size = g35 at h35 f35 ⊢
  generalize w34.alloc (.cells #[.int .i64 13] 3) = w35 at *
  simp only [Act.put, List.setIfInBounds_toArray, List.set_cons_zero, List.set_cons_succ]
  refine wpList_runTo rfl (some 63) rfl (.agg #[.int .i64 59, .int .i64 0, .int .i64 1, .int .i64 7, .bool false, .slice (some ⟨g34, 0, none⟩) 1 1, .slice (some ⟨g35, 0, none⟩) 1 1]) w35 (by kernel_rfl) ?_
  simp only [Act.put, List.setIfInBounds_toArray, List.set_cons_zero, List.set_cons_succ]
  refine wpList_runTo rfl (some 64) rfl (.slice (some ⟨w35.heap.size, 0, none⟩) 3 3) (w35.alloc (.cells #[.int .i64 8, .int .i64 10, .int .i64 13] 3)) (by kernel_rfl) ?_
  have h36 : Below w35.heap.size w35 (w35.alloc (.cells #[.int .i64 8, .int .i64 10, .int .i64 13] 3)) := (Below.refl _ _).alloc (Nat.le_refl _) _
  have f36 : SlI (w35.alloc (.cells #[.int .i64 8, .int .i64 10, .int .i64 13] 3)) (.slice (some ⟨w35.heap.size, 0, none⟩) 3 3) [8, 10, 13] := sli_alloc [8, 10, 13] rfl
  generalize hg36 : w35.heap.size = g36 at h36 f36 ⊢
  generalize w35.alloc (.cells #[.int .i64 8, .int .i64 10, .int .i64 13] 3) = w36 at *
  simp only [Act.put, List.setIfInBounds_toArray, List.set_cons_zero, List.set_cons_succ]
  refine wpList_runTo rfl (some 65) rfl (.agg #[.int .i64 44, .int .i64 0, .int .i64 1, .int .i64 1000000000, .bool false, .slice none 0 0, .slice (some ⟨g36, 0, none⟩) 3 3]) w36 (by kernel_rfl) ?_
  simp only [Act.put, List.setIfInBounds_toArray, List.set_cons_zero, List.set_cons_succ]
  refine wpList_runTo rfl (some 66) rfl (.slice (some ⟨w36.heap.size, 0, none⟩) 3 3) (w36.alloc (.cells #[.int .i64 8, .int .i64 10, .int .i64 13] 3)) (by kernel_rfl) ?_
  have h37 : Below w36.heap.size w36 (w36.alloc (.cells #[.int .i64 8, .int .i64 10, .int .i64 13] 3)) := (Below.refl _ _).alloc (Nat.le_refl _) _
  have f37 : SlI (w36.alloc (.cells #[.int .i64 8, .int .i64 10, .int .i64 13] 3)) (.slice (some ⟨w36.heap.size, 0, none⟩) 3 3) [8, 10, 13] := sli_alloc [8, 10, 13] rfl
  generalize hg37 : w36.heap.size = g37 at h37 f37 ⊢
  generalize w36.alloc (.cells #[.int .i64 8, .int .i64 10, .int .i64 13] 3) = w37 at *
  simp only [Act.put, List.setIfInBounds_toArray, List.set_cons_zero, List.set_cons_succ]
  refine wpList_runTo rfl (some 67) rfl (.agg #[.int .i64 99, .int .i64 0, .int .i64 1, .int .i64 1000000000, .bool false, .slice none 0 0, .slice (some ⟨g37, 0, none⟩) 3 3]) w37 (by kernel_rfl) ?_
  simp only [Act.put, List.setIfInBounds_toArray, List.set_cons_zero, List.set_cons_succ]
  refine wpList_runTo rfl (some 68) rfl (.slice (some ⟨w37.heap.size, 0, none⟩) 3 3) (w37.alloc (.cells #[.int .i64 8, .int .i64 10, .int .i64 13] 3)) (by kernel_rfl) ?_
  have h38 : Below w37.heap.size w37 (w37.alloc (.cells #[.int .i64 8, .int .i64 10, .int .i64 13] 3)) := (Below.refl _ _).alloc (Nat.le_refl _) _
  have f38 : SlI (w37.alloc (.cells #[.int .i64 8, .int .i64 10, .int .i64 13] 3)) (.slice (some ⟨w37.heap.size, 0, none⟩) 3 3) [8, 10, 13] := sli_alloc [8, 10, 13] rfl
  generalize hg38 : w37.heap.size = g38 at h38 f38 ⊢
  generalize w37.alloc (.cells #[.int .i64 8, .int .i64 10, .int .i64 13] 3) = w38 at *
  simp only [Act.put, List.setIfInBounds_toArray, List.set_cons_zero, List.set_cons_succ]
  refine wpList_runTo rfl (some 69) rfl (.agg #[.int .i64 38, .int .i64 0, .int .i64 1, .int .i64 1000000, .bool false, .slice (some ⟨g38, 0, none⟩) 3 3, .slice none 0 0]) w38 (by kernel_rfl) ?_
  simp only [Act.put, List.setIfInBounds_toArray, List.set_cons_zero, List.set_cons_succ]
  refine wpList_runTo rfl (some 70) rfl (.slice (some ⟨w38.heap.size, 0, none⟩) 2 2) (w38.alloc (.cells #[.int .i64 8, .int .i64 13] 3)) (by kernel_rfl) ?_
  have h39 : Below w38.heap.size w38 (w38.alloc (.cells #[.int .i64 8, .int .i64 13] 3)) := (Below.refl _ _).alloc (Nat.le_refl _) _
  have f39 : SlI (w38.alloc (.cells #[.int .i64 8, .int .i64 13] 3)) (.slice (some ⟨w38.heap.size, 0, none⟩) 2 2) [8, 13] := sli_alloc [8, 13] rfl
  generalize hg39 : w38.heap.size = g39 at h39 f39 ⊢
  generalize w38.alloc (.cells #[.int .i64 8, .int .i64 13] 3) = w39 at *
  simp only [Act.put, List.setIfInBounds_toArray, List.set_cons_zero, List.set_cons_succ]
  refine wpList_runTo rfl (some 71) rfl (.agg #[.int .i64 111, .int .i64 0, .int .i64 1, .int .i64 1000000, .bool false, .slice none 0 0, .slice (some ⟨g39, 0, none⟩) 2 2]) w39 (by kernel_rfl) ?_
  simp only [Act.put, List.setIfInBounds_toArray, List.set_cons_zero, List.set_cons_succ]
  refine wpList_runTo rfl (some 72) rfl (.slice (some ⟨w39.heap.size, 0, none⟩) 1 1) (w39.alloc (.cells #[.int .i64 8] 3)) (by kernel_rfl) ?_
  have h40 : Below w39.heap.size w39 (w39.alloc (.cells #[.int .i64 8] 3)) := (Below.refl _ _).alloc (Nat.le_refl _) _
  have f40 : SlI (w39.alloc (.cells #[.int .i64 8] 3)) (.slice (some ⟨w39.heap.size, 0, none⟩) 1 1) [8] := sli_alloc [8] rfl
  generalize hg40 : w39.heap.size = g40 at h40 f40 ⊢
  generalize w39.alloc (.cells #[.int .i64 8] 3) = w40 at *
  simp only [Act.put, List.setIfInBounds_toArray, List.set_cons_zero, List.set_cons_succ]
  refine wpList_runTo rfl (some 73) rfl (.agg #[.int .i64 110, .int .i64 0, .int .i64 1, .int .i64 1000000, .bool false, .slice none 0 0, .slice (some ⟨g40, 0, none⟩) 1 1]) w40 (by kernel_rfl) ?_
  simp only [Act.put, List.setIfInBounds_toArray, List.set_cons_zero, List.set_cons_succ]
  refine wpList_runTo rfl (some 74) rfl (.slice (some ⟨w40.heap.size, 0, none⟩) 1 1) (w40.alloc (.cells #[.int .i64 8] 3)) (by kernel_rfl) ?_
  have h41 : Below w40.heap.size w40 (w40.alloc (.cells #[.int .i64 8] 3)) := (Below.refl _ _).alloc (Nat.le_refl _) _
  have f41 : SlI (w40.alloc (.cells #[.int .i64 8] 3)) (.slice (some ⟨w40.heap.size, 0, none⟩) 1 1) [8] := sli_alloc [8] rfl
  generalize hg41 : w40.heap.size = g41 at h41 f41 ⊢
  generalize w40.alloc (.cells #[.int .i64 8] 3) = w41 at *
  simp only [Act.put, List.setIfInBounds_toArray, List.set_cons_zero, List.set_cons_succ]
  refine wpList_runTo rfl (some 75) rfl (.agg #[.int .i64 432, .int .i64 7, .int .i64 0, .int .i64 0, .bool false, .slice none 0 0, .slice (some ⟨g41, 0, none⟩) 1 1]) w41 (by kernel_rfl) ?_
  simp only [Act.put, List.setIfInBounds_toArray, List.set_cons_zero, List.set_cons_succ]
  refine wpList_runTo rfl (some 76) rfl (.slice (some ⟨w41.heap.size, 0, none⟩) 2 2) (w41.alloc (.cells #[.int .i64 13, .int .i64 14] 3)) (by kernel_rfl) ?_
  have h42 : Below w41.heap.size w41 (w41.alloc (.cells #[.int .i64 13, .int .i64 14] 3)) := (Below.refl _ _).alloc (Nat.le_refl _) _
  have f42 : SlI (w41.alloc (.cells #[.int .i64 13, .int .i64 14] 3)) (.slice (some ⟨w41.heap.size, 0, none⟩) 2 2) [13, 14] := sli_alloc [13, 14] rfl
  generalize hg42 : w41.heap.size = g42 at h42 f42 ⊢
  generalize w41.alloc (.cells #[.int .i64 13, .int .i64 14] 3) = w42 at *
  simp only [Act.put, List.setIfInBounds_toArray, List.set_cons_zero, List.set_cons_succ]
  refine wpList_runTo rfl (some 77) rfl (.agg #[.int .i64 37, .int .i64 0, .int .i64 0, .int .i64 999999999, .bool true, .slice (some ⟨g42, 0, none⟩) 2 2, .slice none 0 0]) w42 (by kernel_rfl) ?_
  simp only [Act.put, List.setIfInBounds_toArray, List.set_cons_zero, List.set_cons_succ]
  refine wpList_runTo rfl (some 78) rfl (.slice (some ⟨w42.heap.size, 0, none⟩) 1 1) (w42.alloc (.cells #[.int .i64 13] 3)) (by kernel_rfl) ?_
  have h43 : Below w42.heap.size w42 (w42.alloc (.cells #[.int .i64 13] 3)) := (Below.refl _ _).alloc (Nat.le_refl _) _
  have f43 : SlI (w42.alloc (.cells #[.int .i64 13] 3)) (.slice (some ⟨w42.heap.size, 0, none⟩) 1 1) [13] := sli_alloc [13] rfl
  generalize hg43 : w42.heap.size = g43 at h43 f43 ⊢
  generalize w42.alloc (.cells #[.int .i64 13] 3) = w43 at *
  simp only [Act.put, List.setIfInBounds_toArray, List.set_cons_zero, List.set_cons_succ]
  refine wpList_runTo rfl (some 79) rfl (.agg #[.int .i64 17, .int .i64 0, .int .i64 1, .int .i64 999999999, .bool false, .slice (some ⟨g43, 0, none⟩) 1 1, .slice none 0 0]) w43 (by kernel_rfl) ?_
  simp only [Act.put, List.setIfInBounds_toArray, List.set_cons_zero, List.set_cons_succ]
  refine wpList_runTo rfl (some 80) rfl (.slice (some ⟨w43.heap.size, 0, none⟩) 1 1) (w43.alloc (.cells #[.int .i64 13] 3)) (by kernel_rfl) ?_
  have h44 : Below w43.heap.size w43 (w43.alloc (.cells #[.int .i64 13] 3)) := (Below.refl _ _).alloc (Nat.le_refl _) _
  have f44 : SlI (w43.alloc (.cells #[.int .i64 13] 3)) (.slice (some ⟨w43.heap.size, 0, none⟩) 1 1) [13] := sli_alloc [13] rfl
  generalize hg44 : w43.heap.size = g44 at h44 f44 ⊢
  generalize w43.alloc (.cells #[.int .i64 13] 3) = w44 at *
  simp only [Act.put, List.setIfInBounds_toArray, List.set_cons_zero, List.set_cons_succ]
  refine wpList_runTo rfl (some 81) rfl (.agg #[.int .i64 150, .int .i64 0, .int .i64 1, .int .i64 8, .bool false, .slice (some ⟨g44, 0, none⟩) 1 1, .slice none 0 0]) w44 (by kernel_rfl) ?_
  simp only [Act.put, List.setIfInBounds_toArray, List.set_cons_zero, List.set_cons_succ]
  refine wpList_runTo rfl (some 82) rfl (.slice (some ⟨w44.heap.size, 0, none⟩) 2 2) (w44.alloc (.cells #[.int .i64 13, .int .i64 14] 3)) (by kernel_rfl) ?_
  have h45 : Below w44.heap.size w44 (w44.alloc (.cells #[.int .i64 13, .int .i64 14] 3)) := (Below.refl _ _).alloc (Nat.le_refl _) _
  have f45 : SlI (w44.alloc (.cells #[.int .i64 13, .int .i64 14] 3)) (.slice (some ⟨w44.heap.size, 0, none⟩) 2 2) [13, 14] := sli_alloc [13, 14] rfl
  generalize hg45 : w44.heap.size = g45 at h45 f45 ⊢
  generalize w44.alloc (.cells #[.int .i64 13, .int .i64 14] 3) = w45 at *
  simp only [Act.put, List.setIfInBounds_toArray, List.set_cons_zero, List.set_cons_succ]
  refine wpList_runTo rfl (some 83) rfl (.agg #[.int .i64 39, .int .i64 0, .int .i64 1, .int .i64 6, .bool false, .slice (some ⟨g45, 0, none⟩) 2 2, .slice none 0 0]) w45 (by kernel_rfl) ?_
  simp only [Act.put, List.setIfInBounds_toArray, List.set_cons_zero, List.set_cons_succ]
  refine wpList_runTo rfl (some 84) rfl (.slice (some ⟨w45.heap.size, 0, none⟩) 1 1) (w45.alloc (.cells #[.int .i64 13] 3)) (by kernel_rfl) ?_
  have h46 : Below w45.heap.size w45 (w45.alloc (.cells #[.int .i64 13] 3)) := (Below.refl _ _).alloc (Nat.le_refl _) _
  have f46 : SlI (w45.alloc (.cells #[.int .i64 13] 3)) (.slice (some ⟨w45.heap.size, 0, none⟩) 1 1) [13] := sli_alloc [13] rfl
  generalize hg46 : w45.heap.size = g46 at h46 f46 ⊢
  generalize w45.alloc (.cells #[.int .i64 13] 3) = w46 at *
  simp only [Act.put, List.setIfInBounds_toArray, List.set_cons_zero, List.set_cons_succ]
  refine wpList_runTo rfl (some 85) rfl (.agg #[.int .i64 31, .int .i64 0, .int .i64 1, .int .i64 1000000000, .bool false, .slice none 0 0, .slice (some ⟨g46, 0, none⟩) 1 1]) w46 (by kernel_rfl) ?_
  simp only [Act.put, List.setIfInBounds_toArray, List.set_cons_zero, List.set_cons_succ]
  refine wpList_runTo rfl (some 86) rfl (.slice (some ⟨w46.heap.size, 0, none⟩) 1 1) (w46.alloc (.cells #[.int .i64 13] 3)) (by kernel_rfl) ?_
  have h47 : Below w46.heap.size w46 (w46.alloc (.cells #[.int .i64 13] 3)) := (Below.refl _ _).alloc (Nat.le_refl _) _
  have f47 : SlI (w46.alloc (.cells #[.int .i64 13] 3)) (.slice (some ⟨w46.heap.size, 0, none⟩) 1 1) [13] := sli_alloc [13] rfl
  generalize hg47 : w46.heap.size = g47 at h47 f47 ⊢
  generalize w46.alloc (.cells #[.int .i64 13] 3) = w47 at *
  simp only [Act.put, List.setIfInBounds_toArray, List.set_cons_zero, List.set_cons_succ]
  refine wpList_runTo rfl (some 87) rfl (.agg #[.int .i64 32, .int .i64 0, .int .i64 1, .int .i64 1000000, .bool false, .slice none 0 0, .slice (some ⟨g47, 0, none⟩) 1 1]) w47 (by kernel_rfl) ?_
  simp only [Act.put, List.setIfInBounds_toArray, List.set_cons_zero, List.set_cons_succ]
  refine wpList_runTo rfl (some 88) rfl (.slice (some ⟨w47.heap.size, 0, none⟩) 1 1) (w47.alloc (.cells #[.int .i64 13] 3)) (by kernel_rfl) ?_
  have h48 : Below w47.heap.size w47 (w47.alloc (.cells #[.int .i64 13] 3)) := (Below.refl _ _).alloc (Nat.le_refl _) _
  have f48 : SlI (w47.alloc (.cells #[.int .i64 13] 3)) (.slice (some ⟨w47.heap.size, 0, none⟩) 1 1) [13] := sli_alloc [13] rfl
  generalize hg48 : w47.heap.size = g48 at h48 f48 ⊢
  generalize w47.alloc (.cells #[.int .i64 13] 3) = w48 at *
  simp only [Act.put, List.setIfInBounds_toArray, List.set_cons_zero, List.set_cons_succ]
  refine wpList_runTo rfl (some 89) rfl (.agg #[.int .i64 151, .int .i64 0, .int .i64 0, .int .i64 1000000, .bool true, .slice (some ⟨g48, 0, none⟩) 1 1, .slice none 0 0]) w48 (by kernel_rfl) ?_
  simp only [Act.put, List.setIfInBounds_toArray, List.set_cons_zero, List.set_cons_succ]
  refine wpList_runTo rfl (some 90) rfl (.slice (some ⟨w48.heap.size, 0, none⟩) 1 1) (w48.alloc (.cells #[.int .i64 13] 3)) (by kernel_rfl) ?_
  have h49 : Below w48.heap.size w48 (w48.alloc (.cells #[.int .i64 13] 3)) := (Below.refl _ _).alloc (Nat.le_refl _) _
  have f49 : SlI (w48.alloc (.cells #[.int .i64 13] 3)) (.slice (some ⟨w48.heap.size, 0, none⟩) 1 1) [13] := sli_alloc [13] rfl
  generalize hg49 : w48.heap.size = g49 at h49 f49 ⊢
  generalize w48.alloc (.cells #[.int .i64 13] 3) = w49 at *
  simp only [Act.put, List.setIfInBounds_toArray, List.set_cons_zero, List.set_cons_succ]
  refine wpList_runTo rfl (some 91) rfl (.agg #[.int .i64 14, .int .i64 0, .int .i64 0, .int .i64 1000000, .bool true, .slice (some ⟨g49, 0, none⟩) 1 1, .slice none 0 0]) w49 (by kernel_rfl) ?_
  simp only [Act.put, List.setIfInBounds_toArray, List.set_cons_zero, List.set_cons_succ]
  refine wpList_runTo rfl (some 92) rfl (.slice (some ⟨w49.heap.size, 0, none⟩) 1 1) (w49.alloc (.cells #[.int .i64 17] 3)) (by kernel_rfl) ?_
  have h50 : Below w49.heap.size w49 (w49.alloc (.cells #[.int .i64 17] 3)) := (Below.refl _ _).alloc (Nat.le_refl _) _
  have f50 : SlI (w49.alloc (.cells #[.int .i64 17] 3)) (.slice (some ⟨w49.heap.size, 0, none⟩) 1 1) [17] := sli_alloc [17] rfl
  generalize hg50 : w49.heap.size = g50 at h50 f50 ⊢
  generalize w49.alloc (.cells #[.int .i64 17] 3) = w50 at *
  simp only [Act.put, List.setIfInBounds_toArray, List.set_cons_zero, List.set_cons_succ]
  refine wpList_runTo rfl (some 93) rfl (.agg #[.int .i64 326, .int .i64 0, .int .i64 0, .int .i64 5, .bool true, .slice (some ⟨g50, 0, none⟩) 1 1, .slice none 0 0]) w50 (by kernel_rfl) ?_
  simp only [Act.put, List.setIfInBounds_toArray, List.set_cons_zero, List.set_cons_succ]
  refine wpList_runTo rfl (some 94) rfl (.slice (some ⟨w50.heap.size, 0, none⟩) 1 1) (w50.alloc (.cells #[.int .i64 15] 3)) (by kernel_rfl) ?_
  have h51 : Below w50.heap.size w50 (w50.alloc (.cells #[.int .i64 15] 3)) := (Below.refl _ _).alloc (Nat.le_refl _) _
  have f51 : SlI (w50.alloc (.cells #[.int .i64 15] 3)) (.slice (some ⟨w50.heap.size, 0, none⟩) 1 1) [15] := sli_alloc [15] rfl
  generalize hg51 : w50.heap.size = g51 at h51 f51 ⊢
  generalize w50.alloc (.cells #[.int .i64 15] 3) = w51 at *
  simp only [Act.put, List.setIfInBounds_toArray, List.set_cons_zero, List.set_cons_succ]
  refine wpList_runTo rfl (some 95) rfl (.agg #[.int .i64 533, .int .i64 0, .int .i64 0, .int .i64 999999999, .bool true, .slice (some ⟨g51, 0, none⟩) 1 1, .slice none 0 0]) w51 (by kernel_rfl) ?_
  simp only [Act.put, List.setIfInBounds_toArray, List.set_cons_zero, List.set_cons_succ]
  obtain ⟨G0, hG0⟩ : ∃ G0 : Nat → Nat, G0 = (fun k => ([0, g1, g2, g3, g4, g5, g6, g7, g8, g9, g10, g11, g12, g13, g14, g15, g16, g17, g18, g19, g20, g21, g22, g23, g24, g25, g26, g27, g28, g29, g30, g31, g32, g33, g34, g35, g36, g37, g38, g39, g40, g41, g42, g43, g44, g45, g46, g47, g48, g49, g50, g51] : List Nat).getD k 0) := ⟨_, rfl⟩
  refine wpList_runTo rfl (some 96) rfl (.slice (some ⟨w51.heap.size, 0, none⟩) 42 42) (w51.alloc (.cells (rcL G0).toArray 95)) (by rw [hG0]; kernel_rfl) ?_
  simp only [Act.put, List.setIfInBounds_toArray, List.set_cons_zero, List.set_cons_succ]
  have hrow := heap_alloc_new w51 (.cells (rcL G0).toArray 95)
  have T51 : Below w51.heap.size w51 (w51.alloc (.cells (rcL G0).toArray 95)) := (Below.refl _ _).alloc (Nat.le_refl _) _
  have hGl : w51.heap.size < (w51.alloc (.cells (rcL G0).toArray 95)).heap.size := by simp
  generalize w51.heap.size = G at hrow hGl ⊢
  generalize w51.alloc (.cells (rcL G0).toArray 95) = wF at *
  rw [← hg51] at h51
  have T50 : Below w50.heap.size w50 wF := h51.trans (T51.mono h51.size)
  have F51 := f51.below T51
  rw [← hg50] at h50
  have T49 : Below w49.heap.size w49 wF := h50.trans (T50.mono h50.size)
  have F50 := f50.below T50
  rw [← hg49] at h49
  have T48 : Below w48.heap.size w48 wF := h49.trans (T49.mono h49.size)
  have F49 := f49.below T49
  rw [← hg48] at h48
  have T47 : Below w47.heap.size w47 wF := h48.trans (T48.mono h48.size)
  have F48 := f48.below T48
  rw [← hg47] at h47
  have T46 : Below w46.heap.size w46 wF := h47.trans (T47.mono h47.size)
  have F47 := f47.below T47
  rw [← hg46] at h46
  have T45 : Below w45.heap.size w45 wF := h46.trans (T46.mono h46.size)
  have F46 := f46.below T46
  rw [← hg45] at h45
  have T44 : Below w44.heap.size w44 wF := h45.trans (T45.mono h45.size)
  have F45 := f45.below T45
  rw [← hg44] at h44
  have T43 : Below w43.heap.size w43 wF := h44.trans (T44.mono h44.size)
  have F44 := f44.below T44
  rw [← hg43] at h43
  have T42 : Below w42.heap.size w42 wF := h43.trans (T43.mono h43.size)
  have F43 := f43.below T43
  rw [← hg42] at h42
  have T41 : Below w41.heap.size w41 wF := h42.trans (T42.mono h42.size)
  have F42 := f42.below T42
  rw [← hg41] at h41
  have T40 : Below w40.heap.size w40 wF := h41.trans (T41.mono h41.size)
  have F41 := f41.below T41
  rw [← hg40] at h40
  have T39 : Below w39.heap.size w39 wF := h40.trans (T40.mono h40.size)
  have F40 := f40.below T40
  rw [← hg39] at h39
  have T38 : Below w38.heap.size w38 wF := h39.trans (T39.mono h39.size)
  have F39 := f39.below T39
  rw [← hg38] at h38
  have T37 : Below w37.heap.size w37 wF := h38.trans (T38.mono h38.size)
  have F38 := f38.below T38
  rw [← hg37] at h37
  have T36 : Below w36.heap.size w36 wF := h37.trans (T37.mono h37.size)
  have F37 := f37.below T37
  rw [← hg36] at h36
  have T35 : Below w35.heap.size w35 wF := h36.trans (T36.mono h36.size)
  have F36 := f36.below T36
  rw [← hg35] at h35
  have T34 : Below w34.heap.size w34 wF := h35.trans (T35.mono h35.size)
  have F35 := f35.below T35
  rw [← hg34] at h34
  have T33 : Below w33.heap.size w33 wF := h34.trans (T34.mono h34.size)
  have F34 := f34.below T34
  rw [← hg33] at h33
  have T32 : Below w32.heap.size w32 wF := h33.trans (T33.mono h33.size)
  have F33 := f33.below T33
  rw [← hg32] at h32
  have T31 : Below w31.heap.size w31 wF := h32.trans (T32.mono h32.size)
  have F32 := f32.below T32
  rw [← hg31] at h31
  have T30 : Below w30.heap.size w30 wF := h31.trans (T31.mono h31.size)
  have F31 := f31.below T31
  rw [← hg30] at h30
  have T29 : Below w29.heap.size w29 wF := h30.trans (T30.mono h30.size)
  have F30 := f30.below T30
  rw [← hg29] at h29
  have T28 : Below w28.heap.size w28 wF := h29.trans (T29.mono h29.size)
  have F29 := f29.below T29
  rw [← hg28] at h28
  have T27 : Below w27.heap.size w27 wF := h28.trans (T28.mono h28.size)
  have F28 := f28.below T28
  rw [← hg27] at h27
  have T26 : Below w26.heap.size w26 wF := h27.trans (T27.mono h27.size)
  have F27 := f27.below T27
  rw [← hg26] at h26
  have T25 : Below w25.heap.size w25 wF := h26.trans (T26.mono h26.size)
  have F26 := f26.below T26
  rw [← hg25] at h25
  have T24 : Below w24.heap.size w24 wF := h25.trans (T25.mono h25.size)
  have F25 := f25.below T25
  rw [← hg24] at h24
  have T23 : Below w23.heap.size w23 wF := h24.trans (T24.mono h24.size)
  have F24 := f24.below T24
  rw [← hg23] at h23
  have T22 : Below w22.heap.size w22 wF := h23.trans (T23.mono h23.size)
  have F23 := f23.below T23
  rw [← hg22] at h22
  have T21 : Below w21.heap.size w21 wF := h22.trans (T22.mono h22.size)
  have F22 := f22.below T22
  rw [← hg21] at h21
  have T20 : Below w20.heap.size w20 wF := h21.trans (T21.mono h21.size)
  have F21 := f21.below T21
  rw [← hg20] at h20
  have T19 : Below w19.heap.size w19 wF := h20.trans (T20.mono h20.size)
  have F20 := f20.below T20
  rw [← hg19] at h19
  have T18 : Below w18.heap.size w18 wF := h19.trans (T19.mono h19.size)
  have F19 := f19.below T19
  rw [← hg18] at h18
  have T17 : Below w17.heap.size w17 wF := h18.trans (T18.mono h18.size)
  have F18 := f18.below T18
  rw [← hg17] at h17
  have T16 : Below w16.heap.size w16 wF := h17.trans (T17.mono h17.size)
  have F17 := f17.below T17
  rw [← hg16] at h16
  have T15 : Below w15.heap.size w15 wF := h16.trans (T16.mono h16.size)
  have F16 := f16.below T16
  rw [← hg15] at h15
  have T14 : Below w14.heap.size w14 wF := h15.trans (T15.mono h15.size)
  have F15 := f15.below T15
  rw [← hg14] at h14
  have T13 : Below w13.heap.size w13 wF := h14.trans (T14.mono h14.size)
  have F14 := f14.below T14
  rw [← hg13] at h13
  have T12 : Below w12.heap.size w12 wF := h13.trans (T13.mono h13.size)
  have F13 := f13.below T13
  rw [← hg12] at h12
  have T11 : Below w11.heap.size w11 wF := h12.trans (T12.mono h12.size)
  have F12 := f12.below T12
  rw [← hg11] at h11
  have T10 : Below w10.heap.size w10 wF := h11.trans (T11.mono h11.size)
  have F11 := f11.below T11
  rw [← hg10] at h10
  have T9 : Below w9.heap.size w9 wF := h10.trans (T10.mono h10.size)
  have F10 := f10.below T10
  rw [← hg9] at h9
  have T8 : Below w8.heap.size w8 wF := h9.trans (T9.mono h9.size)
  have F9 := f9.below T9
  have T7 : Below w7.heap.size w7 wF := h8.trans (T8.mono h8.size)
  have F8 := f8.below T8
  have T6 : Below w6.heap.size w6 wF := h7.trans (T7.mono h7.size)
  have F7 := f7.below T7
  have T5 : Below w5.heap.size w5 wF := h6.trans (T6.mono h6.size)
  have F6 := f6.below T6
  have T4 : Below w4.heap.size w4 wF := h5.trans (T5.mono h5.size)
  have F5 := f5.below T5
  have T3 : Below w3.heap.size w3 wF := h4.trans (T4.mono h4.size)
  have F4 := f4.below T4
  have T2 : Below w2.heap.size w2 wF := h3.trans (T3.mono h3.size)
  have F3 := f3.below T3
  have T1 : Below w1.heap.size w1 wF := h2.trans (T2.mono h2.size)
  have F2 := f2.below T2
  rw [← hg1] at h1
  have T0 : Below w.heap.size w wF := h1.trans (T1.mono h1.size)
  have F1 := f1.below T1
  have htab : TabAt wF G (muV G0) (maV G0) := by
    refine tab_at hrow (tab_sl wF G0 ?_ ?_ ?_ ?_ ?_ ?_ ?_ ?_ ?_ ?_ ?_ ?_ ?_ ?_ ?_ ?_ ?_ ?_ ?_ ?_ ?_ ?_ ?_ ?_ ?_ ?_ ?_ ?_ ?_ ?_ ?_ ?_ ?_ ?_ ?_ ?_ ?_ ?_ ?_ ?_ ?_ ?_ ?_ ?_ ?_ ?_ ?_ ?_ ?_ ?_ ?_)
    · rw [hG0]; exact F1
    · rw [hG0]; exact F2
    · rw [hG0]; exact F3
    · rw [hG0]; exact F4
    · rw [hG0]; exact F5
    · rw [hG0]; exact F6
    · rw [hG0]; exact F7
    · rw [hG0]; exact F8
    · rw [hG0]; exact F9
    · rw [hG0]; exact F10
    · rw [hG0]; exact F11
    · rw [hG0]; exact F12
    · rw [hG0]; exact F13
    · rw [hG0]; exact F14
    · rw [hG0]; exact F15
    · rw [hG0]; exact F16
    · rw [hG0]; exact F17
    · rw [hG0]; exact F18
    · rw [hG0]; exact F19
    · rw [hG0]; exact F20
    · rw [hG0]; exact F21
    · rw [hG0]; exact F22
    · rw [hG0]; exact F23
    · rw [hG0]; exact F24
    · rw [hG0]; exact F25
    · rw [hG0]; exact F26
    · rw [hG0]; exact F27
    · rw [hG0]; exact F28
    · rw [hG0]; exact F29
    · rw [hG0]; exact F30
    · rw [hG0]; exact F31
    · rw [hG0]; exact F32
    · rw [hG0]; exact F33
    · rw [hG0]; exact F34
    · rw [hG0]; exact F35
    · rw [hG0]; exact F36
    · rw [hG0]; exact F37
    · rw [hG0]; exact F38
    · rw [hG0]; exact F39
    · rw [hG0]; exact F40
    · rw [hG0]; exact F41
    · rw [hG0]; exact F42
    · rw [hG0]; exact F43
    · rw [hG0]; exact F44
    · rw [hG0]; exact F45
    · rw [hG0]; exact F46
    · rw [hG0]; exact F47
    · rw [hG0]; exact F48
    · rw [hG0]; exact F49
    · rw [hG0]; exact F50
    · rw [hG0]; exact F51
  have HR : Hid (G < wF.heap.size ∧ TabAt wF G (muV G0) (maV G0) ∧ Below w.heap.size w wF) := ⟨hGl, htab, T0⟩
  clear hrow hGl htab hG0 h1 f1 h2 f2 h3 f3 h4 f4 h5 f5 h6 f6 h7 f7 h8 f8 h9 f9 h10 f10 h11 f11 h12 f12 h13 f13 h14 f14 h15 f15 h16 f16 h17 f17 h18 f18 h19 f19 h20 f20 h21 f21 h22 f22 h23 f23 h24 f24 h25 f25 h26 f26 h27 f27 h28 f28 h29 f29 h30 f30 h31 f31 h32 f32 h33 f33 h34 f34 h35 f35 h36 f36 h37 f37 h38 f38 h39 f39 h40 f40 h41 f41 h42 f42 h43 f43 h44 f44 h45 f45 h46 f46 h47 f47 h48 f48 h49 f49 h50 f50 h51 f51 F1 F2 F3 F4 F5 F6 F7 F8 F9 F10 F11 F12 F13 F14 F15 F16 F17 F18 F19 F20 F21 F22 F23 F24 F25 F26 F27 F28 F29 F30 F31 F32 F33 F34 F35 F36 F37 F38 F39 F40 F41 F42 F43 F44 F45 F46 F47 F48 F49 F50 F51 T0 T1 T2 T3 T4 T5 T6 T7 T8 T9 T10 T11 T12 T13 T14 T15 T16 T17 T18 T19 T20 T21 T22 T23 T24 T25 T26 T27 T28 T29 T30 T31 T32 T33 T34 T35 T36 T37 T38 T39 T40 T41 T42 T43 T44 T45 T46 T47 T48 T49 T50 T51
  go_wp2
  go_ret
  exact ⟨G, muV G0, maV G0, rfl, HR.out⟩

end Go.Proofs.YtchkpggdndnpjabGreatDoor

namespace Go.Proofs.YtchkpggdndnpjabGreatDoor
set_option linter.unusedVariables false
set_option linter.unusedSimpArgs false
open Go.RowKit Go.Great

def trN (b : Bool) : Int := if b then 1 else 0
set_option maxRecDepth 100000 in
set_option maxHeartbeats 400000 in
theorem truth_any (b : Bool) (w : World) : Calls Tryz.prog 183 #[.bool b] w fun e w' => e = .returned (.int .i64 (trN b)) ∧ w' = w := by
  cases b
  · go_enter Tryz.func183, Tryz.ntmps183
    go_wp2
    go_ret
    exact ⟨rfl, rfl⟩
  · go_enter Tryz.func183, Tryz.ntmps183
    go_wp2
    go_ret
    exact ⟨rfl, rfl⟩
theorem box_own (M : Msg) (w : World) : Hid (OwnM (w.alloc (.cells M.cs 23)) w.heap.size M ∧ Below w.heap.size w (w.alloc (.cells M.cs 23))) := ⟨heap_alloc_new w _, (Below.refl _ w).alloc (Nat.le_refl _) _⟩

end Go.Proofs.YtchkpggdndnpjabGreatDoor

namespace Go.Proofs.YtchkpggdndnpjabGreatDoor
set_option linter.unusedVariables false
set_option linter.unusedSimpArgs false
open Go.RowKit

def othTo (oth : ByteArray) (c k : Nat) : Bool := (oth.data.toList.take k).any fun d => d.toNat == c
def othHas (oth : ByteArray) (c : Nat) : Bool := oth.data.toList.any fun d => d.toNat == c
theorem othTo_succ (s : ByteArray) (c k : Nat) (h : k < s.size) : othTo s c (k + 1) = (othTo s c k || s[k].toNat == c) := by
  unfold othTo; rw [take_snoc s k h]; simp
theorem othTo_all (s : ByteArray) (c : Nat) : othTo s c s.size = othHas s c := by
  unfold othTo othHas; rw [List.take_of_length_le (by simp)]
def refOk (oth : ByteArray) (c : Nat) : Bool := isNm c || othHas oth c
def refOf (s : ByteArray) (least most : Int) (oth : ByteArray) : Bool := allB (refOk oth) s && (decide (least ≤ (s.size : Int)) && decide ((s.size : Int) ≤ most))
set_option maxRecDepth 100000 in
set_option maxHeartbeats 2000000 in
theorem ofT_any (s oth : ByteArray) (least most : Int) (w : World) (hs : s.size ≤ 9223372036854775807) (ho : oth.size ≤ 100) :
    Calls Tryz.prog 230 #[.string s, .int .i64 least, .int .i64 most, .string oth] w fun e w' => e = .returned (.bool (refOf s least most oth)) ∧ w' = w := by
  go_enter Tryz.func230, Tryz.ntmps230
  go_wp2
  go_loopw [9, 10, 11, 12] (fun i x10 x11 x12 wr => ∃ k : Nat, k ≤ s.size ∧ i = .int .i64 k ∧ Hid (allTo (refOk oth) s k = true) ∧ wr = w) (fun i _ _ _ _ => s.size - (intOf i).toNat)
  case atStart => exact ⟨0, by omega, rfl, by show allTo _ _ _ = _; simp [allTo], rfl⟩
  case round =>
    obtain ⟨k, hk, rfl, ha, rfl⟩ := hrel
    by_cases hlt : k < s.size
    · have hlt' : (k : Int) < (s.size : Int) := by omega
      have HF : Hid (refOk oth s[k].toNat = false → allB (refOk oth) s = false) := fun hp => allB_false hlt hp
      have HT : Hid (refOk oth s[k].toNat = true → allTo (refOk oth) s (k + 1) = true) := fun hp => by rw [allTo_succ _ _ _ hlt, hp, ha.out]; rfl
      clear ha
      go_upto_region 5 with fail
      have hc0 : (0 : Int) ≤ (s[k].toNat : Int) := by omega
      generalize s[k].toNat = c at *
      go_cut [11] from 13 to 51 (fun b wx => b = .bool (isNm c) ∧ wx = wr)
      case first =>
        clear HF HT
        by_cases h1 : 65 ≤ c
        · have h1' : (65 : Int) ≤ (c : Int) := by omega
          by_cases h2 : c ≤ 90
          · have h2' : (c : Int) ≤ 90 := by omega
            have EN : Hid (isNm c = true) := by show isNm c = true; simp [isNm, isCap, h1, h2]
            go_wp2_with fail
            go_meet
            exact ⟨by rw [EN.out]; try simp, rfl⟩
          · have h2' : ¬ (c : Int) ≤ 90 := by omega
            have h3' : (48 : Int) ≤ (c : Int) := by omega
            have h4' : ¬ (c : Int) ≤ 57 := by omega
            have EN : Hid (isNm c = false) := by show isNm c = false; simp [isNm, isCap]; omega
            go_wp2_with fail
            go_meet
            exact ⟨by rw [EN.out]; try simp, rfl⟩
        · have h1' : ¬ (65 : Int) ≤ (c : Int) := by omega
          by_cases h3 : 48 ≤ c
          · have h3' : (48 : Int) ≤ (c : Int) := by omega
            by_cases h4 : c ≤ 57
            · have h4' : (c : Int) ≤ 57 := by omega
              have EN : Hid (isNm c = true) := by show isNm c = true; simp [isNm, h3, h4]
              go_wp2_with fail
              go_meet
              exact ⟨by rw [EN.out]; try simp, rfl⟩
            · have h4' : ¬ (c : Int) ≤ 57 := by omega
              have EN : Hid (isNm c = false) := by show isNm c = false; simp [isNm, isCap]; omega
              go_wp2_with fail
              go_meet
              exact ⟨by rw [EN.out]; try simp, rfl⟩
          · have h3' : ¬ (48 : Int) ≤ (c : Int) := by omega
            have EN : Hid (isNm c = false) := by show isNm c = false; simp [isNm, isCap]; omega
            go_wp2_with fail
            go_meet
            exact ⟨by rw [EN.out]; try simp, rfl⟩
      case rest =>
        obtain ⟨rfl, rfl⟩ := hcut
        have HE : Hid (refOk oth c = (isNm c || othTo oth c oth.size)) := by show refOk oth c = _; rw [othTo_all]; rfl
        go_wp2
        go_loopw [11, 12] (fun b i wr => ∃ j : Nat, j ≤ oth.size ∧ i = .int .i64 j ∧ b = .bool (isNm c || othTo oth c j) ∧ wr = wc) (fun _ i _ => oth.size - (intOf i).toNat)
        case atStart => exact ⟨0, by omega, rfl, by simp [othTo], rfl⟩
        case round =>
          obtain ⟨j, hj, rfl, rfl, rfl⟩ := hrel
          by_cases hlj : j < oth.size
          · have hlj' : (j : Int) < (oth.size : Int) := by omega
            have e1 := othTo_succ oth c j hlj
            cases hb : (isNm c || othTo oth c j)
            · have e2 : (isNm c || othTo oth c (j + 1)) = ((oth[j].toNat : Int) == (c : Int)) := by
                rw [e1, ← Bool.or_assoc, hb, Bool.false_or]
                generalize oth[j].toNat = d
                rw [Bool.eq_iff_iff]
                simp only [beq_iff_eq]
                omega
              have E2 : Hid ((isNm c || othTo oth c (j + 1)) = ((oth[j].toNat : Int) == (c : Int))) := e2
              clear e1 e2 hb
              go_wp2
              go_roundw
              case rel => exact ⟨j + 1, by omega, by go_num, congrArg Value.bool E2.out.symm, by first | rfl | trivial⟩
              case measure => simp [intOf]; omega
            · have E2 : Hid ((isNm c || othTo oth c (j + 1)) = true) := by show (_ || _) = true; rw [e1, ← Bool.or_assoc, hb, Bool.true_or]
              clear e1 hb
              go_wp2
              go_roundw
              case rel => exact ⟨j + 1, by omega, by go_num, congrArg Value.bool E2.out.symm, by first | rfl | trivial⟩
              case measure => simp [intOf]; omega
          · obtain rfl : j = oth.size := by omega
            cases hb : (isNm c || othTo oth c oth.size)
            · have HF2 : Hid (allB (refOk oth) s = false) := HF.out (HE.out.trans hb)
              clear HF HT HE hb
              go_wp2
              go_ret
              exact ⟨ret_bool (by simp [refOf, HF2.out]), rfl⟩
            · have HT2 : Hid (allTo (refOk oth) s (k + 1) = true) := HT.out (HE.out.trans hb)
              clear HF HT HE hb
              go_wp2
              go_roundw
              case rel => exact ⟨k + 1, by omega, by go_num, HT2, by first | rfl | trivial⟩
              case measure => simp [intOf]; omega
    · obtain rfl : k = s.size := by omega
      have HA : Hid (allB (refOk oth) s = true) := by show allB _ _ = _; rw [← allTo_all]; exact ha.out
      clear ha
      by_cases h1 : least ≤ (s.size : Int)
      · go_wp2
        go_ret
        exact ⟨ret_bool (by simp [refOf, HA.out, h1]), by first | rfl | trivial⟩
      · go_wp2
        go_ret
        exact ⟨ret_bool (by simp [refOf, HA.out]; intro h; omega), by first | rfl | trivial⟩

theorem allB_congr {p q : Nat → Bool} (h : ∀ c, c < 256 → p c = q c) (s : ByteArray) : allB p s = allB q s := by
  unfold allB
  have : (fun c : UInt8 => p c.toNat) = fun c : UInt8 => q c.toNat := by
    funext c; exact h _ (UInt8.toNat_lt c)
  rw [this]
def idOth : ByteArray := ⟨#[97, 98, 99, 100, 101, 102, 103, 104, 105, 106, 107, 108, 109, 110, 111, 112, 113, 114, 115, 116, 117, 118, 119, 120, 121, 122, 46, 95, 45]⟩
set_option maxRecDepth 100000 in
theorem refOk_id : ∀ c, c < 256 → refOk idOth c = isIdb c := by decide
theorem refOk_nm (c : Nat) : refOk ⟨#[]⟩ c = isNm c := by unfold refOk othHas; simp
theorem refNm (s : ByteArray) : refOf s 1 12 ⟨#[]⟩ = nmS s := by
  unfold refOf nmS
  rw [allB_congr (fun c _ => refOk_nm c), Bool.and_comm]
  rw [show decide ((1 : Int) ≤ (s.size : Int)) = decide (1 ≤ s.size) by rw [Bool.eq_iff_iff]; simp; omega, show decide ((s.size : Int) ≤ 12) = decide (s.size ≤ 12) by rw [Bool.eq_iff_iff]; simp; omega]
theorem refId (s : ByteArray) : refOf s 1 20 idOth = idS s := by
  unfold refOf idS
  rw [allB_congr refOk_id, Bool.and_comm]
  rw [show decide ((1 : Int) ≤ (s.size : Int)) = decide (1 ≤ s.size) by rw [Bool.eq_iff_iff]; simp; omega, show decide ((s.size : Int) ≤ 20) = decide (s.size ≤ 20) by rw [Bool.eq_iff_iff]; simp; omega]
theorem all0 {p : Nat → Bool} {s : ByteArray} (h : allB p s = true) (h1 : 1 ≤ s.size) : p (byte0 s) = true := by
  rw [byte0_eq s h1]
  unfold allB at h
  rw [List.all_eq_true] at h
  exact h s[0] (by simp [ByteArray.getElem_eq_getElem_data])
theorem refSy (s : ByteArray) : (refOf s 1 8 ⟨#[]⟩ && decide (65 ≤ byte0 s)) = syS s := by
  unfold refOf syS
  rw [allB_congr (fun c _ => refOk_nm c)]
  rw [show decide ((1 : Int) ≤ (s.size : Int)) = decide (1 ≤ s.size) by rw [Bool.eq_iff_iff]; simp; omega, show decide ((s.size : Int) ≤ 8) = decide (s.size ≤ 8) by rw [Bool.eq_iff_iff]; simp; omega]
  by_cases h1 : 1 ≤ s.size
  · cases ha : allB isNm s
    · simp
    · have := all0 ha h1
      have e : decide (65 ≤ byte0 s) = isCap (byte0 s) := by
        rw [Bool.eq_iff_iff]
        unfold isNm at this
        simp [isCap] at this ⊢
        omega
      rw [e]
      simp
  · simp [h1]
set_option maxRecDepth 100000 in
set_option maxHeartbeats 400000 in
theorem refIsName (s : ByteArray) (w : World) (hs : s.size ≤ 9223372036854775807) :
    Calls Tryz.prog 186 #[.string s] w fun e w' => e = .returned (.bool (nmS s)) ∧ w' = w := by
  have hc := ofT_any s ⟨#[]⟩ 1 12 w hs (by decide)
  rw [refNm] at hc
  go_enter Tryz.func186, Tryz.ntmps186
  go_wp2_with (go_at_call 230; refine hc.mono ?_; rintro e w ⟨rfl, rfl⟩)
  go_ret
  exact ⟨rfl, rfl⟩
set_option maxRecDepth 100000 in
set_option maxHeartbeats 400000 in
theorem refIsID (s : ByteArray) (w : World) (hs : s.size ≤ 9223372036854775807) :
    Calls Tryz.prog 187 #[.string s] w fun e w' => e = .returned (.bool (idS s)) ∧ w' = w := by
  have hc := ofT_any s idOth 1 20 w hs (by decide)
  rw [refId] at hc
  go_enter Tryz.func187, Tryz.ntmps187
  go_wp2_with (go_at_call 230; refine hc.mono ?_; rintro e w ⟨rfl, rfl⟩)
  go_ret
  exact ⟨rfl, rfl⟩
set_option maxRecDepth 100000 in
set_option maxHeartbeats 400000 in
theorem refIsSymbol (s : ByteArray) (w : World) (hs : s.size ≤ 9223372036854775807) :
    Calls Tryz.prog 188 #[.string s] w fun e w' => e = .returned (.bool (syS s)) ∧ w' = w := by
  have hc := ofT_any s ⟨#[]⟩ 1 8 w hs (by decide)
  rw [← refSy]
  cases hp : refOf s 1 8 ⟨#[]⟩
  · rw [hp] at hc
    clear hp
    go_enter Tryz.func188, Tryz.ntmps188
    go_wp2_with (go_at_call 230; refine hc.mono ?_; rintro e w ⟨rfl, rfl⟩)
    go_ret
    exact ⟨rfl, rfl⟩
  · rw [hp] at hc
    have h0 : 0 < s.size := by
      unfold refOf at hp
      simp at hp
      omega
    have h0' : (0 : Int) < (s.size : Int) := by omega
    have E : Hid ((true && decide (65 ≤ byte0 s)) = decide ((65 : Int) ≤ (s[0].toNat : Int))) := by
      show (true && decide (65 ≤ byte0 s)) = decide ((65 : Int) ≤ (s[0].toNat : Int))
      rw [byte0_eq s h0, Bool.eq_iff_iff]
      simp
      omega
    clear hp
    go_enter Tryz.func188, Tryz.ntmps188
    go_wp2_with (go_at_call 230; refine hc.mono ?_; rintro e w ⟨rfl, rfl⟩)
    go_ret
    exact ⟨by rw [E.out]; try simp, rfl⟩
set_option maxRecDepth 100000 in
set_option maxHeartbeats 400000 in
theorem refIsText (s : ByteArray) (w : World) (hs : s.size ≤ 9223372036854775807) :
    Calls Tryz.prog 189 #[.string s] w fun e w' => e = .returned (.bool (txS s)) ∧ w' = w := by
  go_enter Tryz.func189, Tryz.ntmps189
  go_wp2
  go_loopw [3] (fun i wr => ∃ k : Nat, k ≤ s.size ∧ i = .int .i64 k ∧ Hid (allTo isTxt s k = true) ∧ wr = w) (fun i _ => s.size - (intOf i).toNat)
  case atStart => exact ⟨0, by omega, rfl, by show allTo _ _ _ = _; simp [allTo], rfl⟩
  case round =>
    obtain ⟨k, hk, rfl, ha, rfl⟩ := hrel
    by_cases hlt : k < s.size
    · have hlt' : (k : Int) < (s.size : Int) := by omega
      have HF : Hid (isTxt s[k].toNat = false → txS s = false) := fun hp => by
        have := allB_false hlt hp
        simp [txS, this]
      have HT : Hid (isTxt s[k].toNat = true → allTo isTxt s (k + 1) = true) := fun hp => by rw [allTo_succ _ _ _ hlt, hp, ha.out]; rfl
      clear ha
      by_cases h1 : s[k].toNat < 32
      · have h1' : (s[k].toNat : Int) < 32 := by omega
        have HR : Hid (txS s = false) := HF.out (by simp [isTxt]; omega)
        clear HF HT
        go_wp2
        go_ret
        exact ⟨ret_bool HR.out.symm, by first | rfl | trivial⟩
      · have h1' : ¬ (s[k].toNat : Int) < 32 := by omega
        by_cases h2 : 126 < s[k].toNat
        · have h2' : (126 : Int) < (s[k].toNat : Int) := by omega
          have HR : Hid (txS s = false) := HF.out (by simp [isTxt]; omega)
          clear HF HT
          go_wp2
          go_ret
          exact ⟨ret_bool HR.out.symm, by first | rfl | trivial⟩
        · have h2' : ¬ (126 : Int) < (s[k].toNat : Int) := by omega
          by_cases h3 : s[k].toNat = 124
          · have h3' : (s[k].toNat : Int) = 124 := by omega
            have h3b : ((s[k].toNat : Int) == 124) = true := by simp [h3]
            have HR : Hid (txS s = false) := HF.out (by rw [h3]; decide)
            clear HF HT
            go_wp2
            go_ret
            exact ⟨ret_bool HR.out.symm, by first | rfl | trivial⟩
          · have h3' : ¬ (s[k].toNat : Int) = 124 := by omega
            have h3b : ((s[k].toNat : Int) == 124) = false := by simp; omega
            have HR : Hid (allTo isTxt s (k + 1) = true) := HT.out (by simp [isTxt, h3]; omega)
            clear HF HT
            go_wp2
            go_roundw
            case rel => exact ⟨k + 1, by omega, by go_num, HR, by first | rfl | trivial⟩
            case measure => simp [intOf]; omega
    · obtain rfl : k = s.size := by omega
      have HA : Hid (txS s = decide ((s.size : Int) ≤ 60)) := by
        have h := ha.out
        rw [allTo_all] at h
        show txS s = _
        unfold txS
        rw [h, Bool.and_true, Bool.eq_iff_iff]
        simp
        omega
      clear ha
      go_wp2
      go_ret
      exact ⟨ret_bool HA.out.symm, by first | rfl | trivial⟩

end Go.Proofs.YtchkpggdndnpjabGreatDoor
