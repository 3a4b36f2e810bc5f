import Derived.Test.YtjnnecoikcmaeaaTCa
import Derived.Test.YtjnnecoikcmaeaaRfA
import Derived.Test.YtjnnecoikcmaeaaTR0
import Derived.Test.YtjnnecoikcmaeaaTQ7

namespace Go.Proofs.Ytjnnecoikcmaeaa
set_option linter.unusedVariables false
set_option linter.unusedSimpArgs false
open Go.RowKit Go.Great

theorem refPutVar_by {w : World} {v : Value} {l : List Nat} (h : By w v l) (hl : l.length ≤ 140737488351232) (m : Int) (hm0 : -9223372036854775808 ≤ m) (hm1 : m ≤ 9223372036854775807) :
    Calls Try.prog 53 #[v, .int .i64 m] w fun e w' => ∃ v', e = .returned v' ∧ Hid (OwnB w w' v' (l ++ varL (foldN m))) := by
  obtain ⟨a, cap, rfl, _⟩ := h.form
  obtain ⟨_, _, hs, ha⟩ := h.src
  have key : Calls Try.prog 53 #[.slice a l.length cap, .int .i64 m] w fun e w' => ∃ v, e = .returned v ∧ w'.ownsRow w.heap.size 5 1 v (l.length + (varL (foldN m)).length) (bvals (rowL (dN l) l.length ++ varL (foldN m))) ∧ Below w.heap.size w w' := by
    by_cases hz : m < 0
    · exact refPutVar_lo a l.length cap (dN l) m hz w hl hm0 hm1 hs ha
    · exact refPutVar_hi a l.length cap (dN l) m (by omega) w hl hm0 hm1 hs ha
  refine key.mono fun e w' ⟨v', e1, h2, h3⟩ => ⟨v', e1, ?_⟩
  rw [rowL_dN] at h2
  exact OwnB.of h2 h3 (h.bb.app (varL_bb _))
theorem refPut_by {w : World} {v : Value} {l : List Nat} (h : By w v l) (hl : l.length ≤ 140737488351232) (u s : Nat) (hs8 : s ≤ 8) (hu : u < 18446744073709551616) :
    Calls Try.prog 54 #[v, .int .u64 (u : Int), .int .i64 (s : Int)] w fun e w' => ∃ v', e = .returned v' ∧ Hid (OwnB w w' v' (l ++ putTo u s s)) := by
  obtain ⟨a, cap, rfl, _⟩ := h.form
  obtain ⟨_, _, hs, ha⟩ := h.src
  refine (refPut_in a l.length cap (dN l) u s hs8 w hl hu hs ha).mono fun e w' ⟨v', e1, h2, h3⟩ => ⟨v', e1, ?_⟩
  rw [rowL_dN] at h2
  exact OwnB.of h2 h3 (h.bb.app (putTo_bb _ _ _))
theorem refCrc_by {w : World} {v : Value} {l : List Nat} (h : By w v l) (hl : l.length ≤ 140737488351232) : Calls Try.prog 55 #[v] w fun e w' => e = .returned (.int .u32 (crcN l : Int)) ∧ w' = w := by
  obtain ⟨a, cap, rfl, _⟩ := h.form
  obtain ⟨_, _, hs, _⟩ := h.src
  exact refCrc_any a l.length cap (dN l) w hl hs
def pN (c : Cm) (i : Nat) : Int := if isT i then 0 else c.n i
def pS (c : Cm) (i : Nat) : ByteArray := if isT i then c.s i else ⟨#[]⟩
def ptsC (c : Cm) : Array Value := #[.bool false, .int .i64 (c.n 0), .string ⟨#[]⟩, .bool false, .int .i64 (c.n 1), .string ⟨#[]⟩, .bool true, .int .i64 0, .string (c.s 2), .bool false, .int .i64 (c.n 3), .string ⟨#[]⟩, .bool true, .int .i64 0, .string (c.s 4), .bool true, .int .i64 0, .string (c.s 5), .bool true, .int .i64 0, .string (c.s 6), .bool false, .int .i64 (c.n 7), .string ⟨#[]⟩, .bool false, .int .i64 (c.n 8), .string ⟨#[]⟩, .bool false, .int .i64 (c.n 9), .string ⟨#[]⟩, .bool false, .int .i64 (c.n 10), .string ⟨#[]⟩, .bool false, .int .i64 (c.n 11), .string ⟨#[]⟩, .bool false, .int .i64 (c.n 12), .string ⟨#[]⟩, .bool false, .int .i64 (c.n 13), .string ⟨#[]⟩, .bool false, .int .i64 (c.n 14), .string ⟨#[]⟩, .bool false, .int .i64 (c.n 15), .string ⟨#[]⟩, .bool false, .int .i64 (c.n 16), .string ⟨#[]⟩, .bool false, .int .i64 (c.n 17), .string ⟨#[]⟩, .bool true, .int .i64 0, .string (c.s 18), .bool false, .int .i64 (c.n 19), .string ⟨#[]⟩, .bool false, .int .i64 (c.n 20), .string ⟨#[]⟩, .bool false, .int .i64 (c.n 21), .string ⟨#[]⟩, .bool false, .int .i64 (c.n 22), .string ⟨#[]⟩, .bool false, .int .i64 (c.n 23), .string ⟨#[]⟩]
theorem ptsC_at (c : Cm) {i : Nat} (h : i < 24) : (ptsC c)[i * 3 + 0]? = some (.bool (isT i)) ∧ (ptsC c)[i * 3 + 1]? = some (.int .i64 (pN c i)) ∧ (ptsC c)[i * 3 + 2]? = some (.string (pS c i)) := by
  rcases cases24 h with rfl | rfl | rfl | rfl | rfl | rfl | rfl | rfl | rfl | rfl | rfl | rfl | rfl | rfl | rfl | rfl | rfl | rfl | rfl | rfl | rfl | rfl | rfl | rfl <;> exact ⟨rfl, rfl, rfl⟩
def ordC (c : Cm) : Array Value := #[.int .i64 (c.n 3), .string (c.s 4), .string (c.s 5), .string (c.s 6), .int .i64 (c.n 7), .int .i64 (c.n 8), .int .i64 (c.n 9), .int .i64 (c.n 10), .int .i64 (c.n 11), .int .i64 (c.n 12), .int .i64 (c.n 13), .int .i64 (c.n 17), .int .i64 (c.n 14), .int .i64 (c.n 15), .int .i64 (c.n 16)]
def accC (c : Cm) : Array Value := #[.string (c.s 18), .int .i64 (c.n 19), .int .i64 (c.n 20), .int .i64 (c.n 21), .int .i64 (c.n 22), .int .i64 (c.n 23)]
theorem ldN_run {op : Oper} {a : Act} {w : World} {g o : Nat} {z : Int} {T : TypeId} (hT : T = 2 ∨ T = 3) (x : Operand) (ho : op.op = .load T x) (hx : a.eval x = .pointer (some ⟨g, o, none⟩)) (h : w.cell? ⟨g, o, none⟩ = some (.int .i64 z)) : (execOp a.eval op).run Try.prog w = .ok (.value (.int .i64 z)) w := by
  unfold execOp
  simp only [ho, hx]
  rcases hT with rfl | rfl <;> go_simp
theorem ldS_run {op : Oper} {a : Act} {w : World} {g o : Nat} {s : ByteArray} (x : Operand) (ho : op.op = .load 9 x) (hx : a.eval x = .pointer (some ⟨g, o, none⟩)) (h : w.cell? ⟨g, o, none⟩ = some (.string s)) : (execOp a.eval op).run Try.prog w = .ok (.value (.string s)) w := by
  unfold execOp
  simp only [ho, hx]
  go_simp
theorem ldA_run {op : Oper} {a : Act} {w : World} {g o : Nat} {T : TypeId} {cs : Array Value} {d : TypeDesc} (h : w.rangeAt g o cs.toList) (hu : Try.prog.underlying T = some d) (hd : d.isRow = true) (hi : (Try.prog.info? T).map (·.size) = some cs.size) (x : Operand) (ho : op.op = .load T x) (hx : a.eval x = .pointer (some ⟨g, o, none⟩)) : (execOp a.eval op).run Try.prog w = .ok (.value (.agg cs)) w := by
  have hl := run_loadVar_mid (P := Try.prog) w g o T cs.toList _ h hu hd (by rw [Array.length_toList]; exact hi)
  unfold execOp
  simp only [ho, hx, Instr.loadAt, Instr.sureAddr, Sem.run_bind, Sem.run_pure, Result.andThen_ok, hl]
theorem infoO : (Try.prog.info? 23).map (·.size) = some 15 := by kernel_rfl
theorem infoA : (Try.prog.info? 25).map (·.size) = some 6 := by kernel_rfl
def zOrd : Array Value := #[.int .i64 0, .string ⟨#[]⟩, .string ⟨#[]⟩, .string ⟨#[]⟩, .int .i64 0, .int .i64 0, .int .i64 0, .int .i64 0, .int .i64 0, .int .i64 0, .int .i64 0, .int .i64 0, .int .i64 0, .int .i64 0, .int .i64 0]
def zAcc : Array Value := #[.string ⟨#[]⟩, .int .i64 0, .int .i64 0, .int .i64 0, .int .i64 0, .int .i64 0]
theorem sub_range {w : World} {g : Nat} {T : TypeId} {cs : Array Value} (h : Blk w g T cs) (o : Nat) (l : List Value) (hl : ∀ j v, l[j]? = some v → cs[o + j]? = some v) : w.rangeAt g o l := fun j v hv => by rw [h.cell]; exact hl j v hv
theorem ord_sub (c : Cm) (j : Nat) (v : Value) (h : (ordC c).toList[j]? = some v) : c.cs[3 + j]? = some v := by
  have hj : j < 15 := (List.getElem?_eq_some_iff.1 h).1
  have : j = 0 ∨ j = 1 ∨ j = 2 ∨ j = 3 ∨ j = 4 ∨ j = 5 ∨ j = 6 ∨ j = 7 ∨ j = 8 ∨ j = 9 ∨ j = 10 ∨ j = 11 ∨ j = 12 ∨ j = 13 ∨ j = 14 := by omega
  rcases this with rfl | rfl | rfl | rfl | rfl | rfl | rfl | rfl | rfl | rfl | rfl | rfl | rfl | rfl | rfl <;> exact h
theorem acc_sub (c : Cm) (j : Nat) (v : Value) (h : (accC c).toList[j]? = some v) : c.cs[19 + j]? = some v := by
  have hj : j < 6 := (List.getElem?_eq_some_iff.1 h).1
  have : j = 0 ∨ j = 1 ∨ j = 2 ∨ j = 3 ∨ j = 4 ∨ j = 5 := by omega
  rcases this with rfl | rfl | rfl | rfl | rfl | rfl <;> exact h
/-- A variable of a struct, made and set. -/
theorem new_set {W : World} {T : TypeId} {z cs : Array Value} : Below W.heap.size W ((W.alloc (.cells z T)).setRow W.heap.size cs) ∧ Blk ((W.alloc (.cells z T)).setRow W.heap.size cs) W.heap.size T cs := ⟨below_setRow ((Below.refl _ W).alloc (Nat.le_refl _) _) (Nat.le_refl _) _, (Blk.new W _ _).row⟩
set_option maxRecDepth 100000 in
set_option maxHeartbeats 4000000 in
theorem parts_any (c : Cm) (w : World) : Calls Try.prog 52 #[.agg c.cs] w fun e w' => ∃ g, e = .returned (.slice (some ⟨g, 0, none⟩) 24 24) ∧ Hid (Blk w' g 121 (ptsC c) ∧ Below w.heap.size w w' ∧ w.heap.size ≤ g) := by
  obtain ⟨X, hX⟩ : ∃ X, X = c.cs := ⟨_, rfl⟩
  have HB0 : Hid (Below w.heap.size w (w.alloc (.cells X 27)) ∧ Blk (w.alloc (.cells X 27)) w.heap.size 27 c.cs) := ⟨(Below.refl _ w).alloc (Nat.le_refl _) _, by rw [← hX]; exact Blk.new _ _ _⟩
  rw [← hX]
  clear hX
  go_enter Try.func52, Try.ntmps52
  go_upto_region 1 with fail
  rename_i K hK
  generalize w.alloc (.cells X 27) = W0 at *
  refine wp_region_lit ?_
  refine wpList_runTo rfl (some 5) rfl (.pointer (some ⟨w.heap.size, 3, none⟩)) W0 (by kernel_rfl) ?_
  simp only [Act.put, List.setIfInBounds_toArray, List.set_cons_zero, List.set_cons_succ]
  obtain ⟨OC, hOC⟩ : ∃ OC, OC = ordC c := ⟨_, rfl⟩
  refine wpList_runTo rfl (some 6) rfl (.agg OC) W0 (by rw [hOC]; exact ldA_run (sub_range HB0.out.2 3 _ (ord_sub c)) Try.underlying23 rfl infoO (.tmp 5) rfl (by kernel_rfl)) ?_
  simp only [Act.put, List.setIfInBounds_toArray, List.set_cons_zero, List.set_cons_succ]
  refine wpList_runTo rfl (some 3) rfl (.pointer (some ⟨W0.heap.size, 0, none⟩)) (W0.alloc (.cells zOrd 23)) (by kernel_rfl) ?_
  simp only [Act.put, List.setIfInBounds_toArray, List.set_cons_zero, List.set_cons_succ]
  refine wpList_store_row rfl 23 (.tmp 3) (.tmp 6) rfl W0.heap.size OC (by kernel_rfl) (by kernel_rfl) 23 zOrd (Blk.new W0 _ _) (by rw [hOC]; exact infoO) (by rw [hOC]; rfl) (by rw [hOC]; kernel_rfl) ?_
  simp only [Act.put, List.setIfInBounds_toArray, List.set_cons_zero, List.set_cons_succ]
  have HB1 : Hid (Below w.heap.size w ((W0.alloc (.cells zOrd 23)).setRow W0.heap.size OC) ∧ Blk ((W0.alloc (.cells zOrd 23)).setRow W0.heap.size OC) w.heap.size 27 c.cs ∧ Blk ((W0.alloc (.cells zOrd 23)).setRow W0.heap.size OC) W0.heap.size 23 (ordC c)) := ⟨below_step HB0.out.1 new_set.1, HB0.out.2.below new_set.1 HB0.out.2.lt, by rw [← hOC]; exact new_set.2⟩
  clear HB0
  generalize (W0.alloc (.cells zOrd 23)).setRow W0.heap.size OC = W1 at *
  generalize W0.heap.size = bo at *
  refine wpList_nil ?_
  refine hK _ _ ?_
  clear hK hOC
  go_upto_region 2 with fail
  rename_i K hK
  refine wp_region_lit ?_
  refine wpList_runTo rfl (some 7) rfl (.pointer (some ⟨w.heap.size, 19, none⟩)) W1 (by kernel_rfl) ?_
  simp only [Act.put, List.setIfInBounds_toArray, List.set_cons_zero, List.set_cons_succ]
  obtain ⟨AC, hAC⟩ : ∃ AC, AC = accC c := ⟨_, rfl⟩
  refine wpList_runTo rfl (some 8) rfl (.agg AC) W1 (by rw [hAC]; exact ldA_run (sub_range HB1.out.2.1 19 _ (acc_sub c)) Try.underlying25 rfl infoA (.tmp 7) rfl (by kernel_rfl)) ?_
  simp only [Act.put, List.setIfInBounds_toArray, List.set_cons_zero, List.set_cons_succ]
  refine wpList_runTo rfl (some 4) rfl (.pointer (some ⟨W1.heap.size, 0, none⟩)) (W1.alloc (.cells zAcc 25)) (by kernel_rfl) ?_
  simp only [Act.put, List.setIfInBounds_toArray, List.set_cons_zero, List.set_cons_succ]
  refine wpList_store_row rfl 25 (.tmp 4) (.tmp 8) rfl W1.heap.size AC (by kernel_rfl) (by kernel_rfl) 25 zAcc (Blk.new W1 _ _) (by rw [hAC]; exact infoA) (by rw [hAC]; rfl) (by rw [hAC]; kernel_rfl) ?_
  simp only [Act.put, List.setIfInBounds_toArray, List.set_cons_zero, List.set_cons_succ]
  have HB2 : Hid (Below w.heap.size w ((W1.alloc (.cells zAcc 25)).setRow W1.heap.size AC) ∧ Blk ((W1.alloc (.cells zAcc 25)).setRow W1.heap.size AC) w.heap.size 27 c.cs ∧ Blk ((W1.alloc (.cells zAcc 25)).setRow W1.heap.size AC) bo 23 (ordC c) ∧ Blk ((W1.alloc (.cells zAcc 25)).setRow W1.heap.size AC) W1.heap.size 25 (accC c)) := ⟨below_step HB1.out.1 new_set.1, HB1.out.2.1.below new_set.1 HB1.out.2.1.lt, HB1.out.2.2.below new_set.1 HB1.out.2.2.lt, by rw [← hAC]; exact new_set.2⟩
  clear HB1
  generalize (W1.alloc (.cells zAcc 25)).setRow W1.heap.size AC = W2 at *
  generalize W1.heap.size = ba at *
  clear hAC
  refine wpList_nil ?_
  refine hK _ _ ?_
  clear hK
  go_upto_region 3 with fail
  rename_i K hK
  refine wp_region_lit ?_
  refine wpList_runTo rfl (some 9) rfl (.pointer (some ⟨w.heap.size, 1, none⟩)) W2 (by kernel_rfl) ?_
  simp only [Act.put, List.setIfInBounds_toArray, List.set_cons_zero, List.set_cons_succ]
  refine wpList_runTo rfl (some 10) rfl (.int .i64 (c.n 0)) W2 (by exact ldN_run (.inl rfl) (.tmp 9) rfl (by kernel_rfl) (HB2.out.2.1.cell 1)) ?_
  simp only [Act.put, List.setIfInBounds_toArray, List.set_cons_zero, List.set_cons_succ]
  refine wpList_runTo rfl (some 11) rfl (.agg #[.bool false, .int .i64 (c.n 0), .string ⟨#[]⟩]) W2 (by kernel_rfl) ?_
  simp only [Act.put, List.setIfInBounds_toArray, List.set_cons_zero, List.set_cons_succ]
  refine wpList_runTo rfl (some 12) rfl (.pointer (some ⟨w.heap.size, 2, none⟩)) W2 (by kernel_rfl) ?_
  simp only [Act.put, List.setIfInBounds_toArray, List.set_cons_zero, List.set_cons_succ]
  refine wpList_runTo rfl (some 13) rfl (.int .i64 (c.n 1)) W2 (by exact ldN_run (.inr rfl) (.tmp 12) rfl (by kernel_rfl) (HB2.out.2.1.cell 2)) ?_
  simp only [Act.put, List.setIfInBounds_toArray, List.set_cons_zero, List.set_cons_succ]
  refine wpList_runTo rfl (some 14) rfl (.agg #[.bool false, .int .i64 (c.n 1), .string ⟨#[]⟩]) W2 (by kernel_rfl) ?_
  simp only [Act.put, List.setIfInBounds_toArray, List.set_cons_zero, List.set_cons_succ]
  refine wpList_runTo rfl (some 15) rfl (.pointer (some ⟨w.heap.size, 18, none⟩)) W2 (by kernel_rfl) ?_
  simp only [Act.put, List.setIfInBounds_toArray, List.set_cons_zero, List.set_cons_succ]
  refine wpList_runTo rfl (some 16) rfl (.string (c.s 2)) W2 (by exact ldS_run (.tmp 15) rfl (by kernel_rfl) (HB2.out.2.1.cell 18)) ?_
  simp only [Act.put, List.setIfInBounds_toArray, List.set_cons_zero, List.set_cons_succ]
  refine wpList_runTo rfl (some 17) rfl (.agg #[.bool true, .int .i64 0, .string (c.s 2)]) W2 (by kernel_rfl) ?_
  simp only [Act.put, List.setIfInBounds_toArray, List.set_cons_zero, List.set_cons_succ]
  refine wpList_runTo rfl (some 18) rfl (.pointer (some ⟨bo, 0, none⟩)) W2 (by kernel_rfl) ?_
  simp only [Act.put, List.setIfInBounds_toArray, List.set_cons_zero, List.set_cons_succ]
  refine wpList_runTo rfl (some 19) rfl (.int .i64 (c.n 3)) W2 (by exact ldN_run (.inr rfl) (.tmp 18) rfl (by kernel_rfl) (HB2.out.2.2.1.cell 0)) ?_
  simp only [Act.put, List.setIfInBounds_toArray, List.set_cons_zero, List.set_cons_succ]
  refine wpList_runTo rfl (some 20) rfl (.agg #[.bool false, .int .i64 (c.n 3), .string ⟨#[]⟩]) W2 (by kernel_rfl) ?_
  simp only [Act.put, List.setIfInBounds_toArray, List.set_cons_zero, List.set_cons_succ]
  refine wpList_runTo rfl (some 21) rfl (.pointer (some ⟨bo, 1, none⟩)) W2 (by kernel_rfl) ?_
  simp only [Act.put, List.setIfInBounds_toArray, List.set_cons_zero, List.set_cons_succ]
  refine wpList_runTo rfl (some 22) rfl (.string (c.s 4)) W2 (by exact ldS_run (.tmp 21) rfl (by kernel_rfl) (HB2.out.2.2.1.cell 1)) ?_
  simp only [Act.put, List.setIfInBounds_toArray, List.set_cons_zero, List.set_cons_succ]
  refine wpList_runTo rfl (some 23) rfl (.agg #[.bool true, .int .i64 0, .string (c.s 4)]) W2 (by kernel_rfl) ?_
  simp only [Act.put, List.setIfInBounds_toArray, List.set_cons_zero, List.set_cons_succ]
  refine wpList_runTo rfl (some 24) rfl (.pointer (some ⟨bo, 2, none⟩)) W2 (by kernel_rfl) ?_
  simp only [Act.put, List.setIfInBounds_toArray, List.set_cons_zero, List.set_cons_succ]
  refine wpList_runTo rfl (some 25) rfl (.string (c.s 5)) W2 (by exact ldS_run (.tmp 24) rfl (by kernel_rfl) (HB2.out.2.2.1.cell 2)) ?_
  simp only [Act.put, List.setIfInBounds_toArray, List.set_cons_zero, List.set_cons_succ]
  refine wpList_runTo rfl (some 26) rfl (.agg #[.bool true, .int .i64 0, .string (c.s 5)]) W2 (by kernel_rfl) ?_
  simp only [Act.put, List.setIfInBounds_toArray, List.set_cons_zero, List.set_cons_succ]
  refine wpList_runTo rfl (some 27) rfl (.pointer (some ⟨bo, 3, none⟩)) W2 (by kernel_rfl) ?_
  simp only [Act.put, List.setIfInBounds_toArray, List.set_cons_zero, List.set_cons_succ]
  refine wpList_runTo rfl (some 28) rfl (.string (c.s 6)) W2 (by exact ldS_run (.tmp 27) rfl (by kernel_rfl) (HB2.out.2.2.1.cell 3)) ?_
  simp only [Act.put, List.setIfInBounds_toArray, List.set_cons_zero, List.set_cons_succ]
  refine wpList_runTo rfl (some 29) rfl (.agg #[.bool true, .int .i64 0, .string (c.s 6)]) W2 (by kernel_rfl) ?_
  simp only [Act.put, List.setIfInBounds_toArray, List.set_cons_zero, List.set_cons_succ]
  refine wpList_runTo rfl (some 30) rfl (.pointer (some ⟨bo, 4, none⟩)) W2 (by kernel_rfl) ?_
  simp only [Act.put, List.setIfInBounds_toArray, List.set_cons_zero, List.set_cons_succ]
  refine wpList_runTo rfl (some 31) rfl (.int .i64 (c.n 7)) W2 (by exact ldN_run (.inr rfl) (.tmp 30) rfl (by kernel_rfl) (HB2.out.2.2.1.cell 4)) ?_
  simp only [Act.put, List.setIfInBounds_toArray, List.set_cons_zero, List.set_cons_succ]
  refine wpList_runTo rfl (some 32) rfl (.agg #[.bool false, .int .i64 (c.n 7), .string ⟨#[]⟩]) W2 (by kernel_rfl) ?_
  simp only [Act.put, List.setIfInBounds_toArray, List.set_cons_zero, List.set_cons_succ]
  refine wpList_runTo rfl (some 33) rfl (.pointer (some ⟨bo, 5, none⟩)) W2 (by kernel_rfl) ?_
  simp only [Act.put, List.setIfInBounds_toArray, List.set_cons_zero, List.set_cons_succ]
  refine wpList_runTo rfl (some 34) rfl (.int .i64 (c.n 8)) W2 (by exact ldN_run (.inr rfl) (.tmp 33) rfl (by kernel_rfl) (HB2.out.2.2.1.cell 5)) ?_
  simp only [Act.put, List.setIfInBounds_toArray, List.set_cons_zero, List.set_cons_succ]
  refine wpList_runTo rfl (some 35) rfl (.agg #[.bool false, .int .i64 (c.n 8), .string ⟨#[]⟩]) W2 (by kernel_rfl) ?_
  simp only [Act.put, List.setIfInBounds_toArray, List.set_cons_zero, List.set_cons_succ]
  refine wpList_runTo rfl (some 36) rfl (.pointer (some ⟨bo, 6, none⟩)) W2 (by kernel_rfl) ?_
  simp only [Act.put, List.setIfInBounds_toArray, List.set_cons_zero, List.set_cons_succ]
  refine wpList_runTo rfl (some 37) rfl (.int .i64 (c.n 9)) W2 (by exact ldN_run (.inr rfl) (.tmp 36) rfl (by kernel_rfl) (HB2.out.2.2.1.cell 6)) ?_
  simp only [Act.put, List.setIfInBounds_toArray, List.set_cons_zero, List.set_cons_succ]
  refine wpList_runTo rfl (some 38) rfl (.agg #[.bool false, .int .i64 (c.n 9), .string ⟨#[]⟩]) W2 (by kernel_rfl) ?_
  simp only [Act.put, List.setIfInBounds_toArray, List.set_cons_zero, List.set_cons_succ]
  refine wpList_runTo rfl (some 39) rfl (.pointer (some ⟨bo, 7, none⟩)) W2 (by kernel_rfl) ?_
  simp only [Act.put, List.setIfInBounds_toArray, List.set_cons_zero, List.set_cons_succ]
  refine wpList_runTo rfl (some 40) rfl (.int .i64 (c.n 10)) W2 (by exact ldN_run (.inl rfl) (.tmp 39) rfl (by kernel_rfl) (HB2.out.2.2.1.cell 7)) ?_
  simp only [Act.put, List.setIfInBounds_toArray, List.set_cons_zero, List.set_cons_succ]
  refine wpList_runTo rfl (some 41) rfl (.agg #[.bool false, .int .i64 (c.n 10), .string ⟨#[]⟩]) W2 (by kernel_rfl) ?_
  simp only [Act.put, List.setIfInBounds_toArray, List.set_cons_zero, List.set_cons_succ]
  refine wpList_runTo rfl (some 42) rfl (.pointer (some ⟨bo, 8, none⟩)) W2 (by kernel_rfl) ?_
  simp only [Act.put, List.setIfInBounds_toArray, List.set_cons_zero, List.set_cons_succ]
  refine wpList_runTo rfl (some 43) rfl (.int .i64 (c.n 11)) W2 (by exact ldN_run (.inl rfl) (.tmp 42) rfl (by kernel_rfl) (HB2.out.2.2.1.cell 8)) ?_
  simp only [Act.put, List.setIfInBounds_toArray, List.set_cons_zero, List.set_cons_succ]
  refine wpList_runTo rfl (some 44) rfl (.agg #[.bool false, .int .i64 (c.n 11), .string ⟨#[]⟩]) W2 (by kernel_rfl) ?_
  simp only [Act.put, List.setIfInBounds_toArray, List.set_cons_zero, List.set_cons_succ]
  refine wpList_runTo rfl (some 45) rfl (.pointer (some ⟨bo, 9, none⟩)) W2 (by kernel_rfl) ?_
  simp only [Act.put, List.setIfInBounds_toArray, List.set_cons_zero, List.set_cons_succ]
  refine wpList_runTo rfl (some 46) rfl (.int .i64 (c.n 12)) W2 (by exact ldN_run (.inl rfl) (.tmp 45) rfl (by kernel_rfl) (HB2.out.2.2.1.cell 9)) ?_
  simp only [Act.put, List.setIfInBounds_toArray, List.set_cons_zero, List.set_cons_succ]
  refine wpList_runTo rfl (some 47) rfl (.agg #[.bool false, .int .i64 (c.n 12), .string ⟨#[]⟩]) W2 (by kernel_rfl) ?_
  simp only [Act.put, List.setIfInBounds_toArray, List.set_cons_zero, List.set_cons_succ]
  refine wpList_runTo rfl (some 48) rfl (.pointer (some ⟨bo, 10, none⟩)) W2 (by kernel_rfl) ?_
  simp only [Act.put, List.setIfInBounds_toArray, List.set_cons_zero, List.set_cons_succ]
  refine wpList_runTo rfl (some 49) rfl (.int .i64 (c.n 13)) W2 (by exact ldN_run (.inl rfl) (.tmp 48) rfl (by kernel_rfl) (HB2.out.2.2.1.cell 10)) ?_
  simp only [Act.put, List.setIfInBounds_toArray, List.set_cons_zero, List.set_cons_succ]
  refine wpList_runTo rfl (some 50) rfl (.agg #[.bool false, .int .i64 (c.n 13), .string ⟨#[]⟩]) W2 (by kernel_rfl) ?_
  simp only [Act.put, List.setIfInBounds_toArray, List.set_cons_zero, List.set_cons_succ]
  refine wpList_runTo rfl (some 51) rfl (.pointer (some ⟨bo, 12, none⟩)) W2 (by kernel_rfl) ?_
  simp only [Act.put, List.setIfInBounds_toArray, List.set_cons_zero, List.set_cons_succ]
  refine wpList_runTo rfl (some 52) rfl (.int .i64 (c.n 14)) W2 (by exact ldN_run (.inl rfl) (.tmp 51) rfl (by kernel_rfl) (HB2.out.2.2.1.cell 12)) ?_
  simp only [Act.put, List.setIfInBounds_toArray, List.set_cons_zero, List.set_cons_succ]
  refine wpList_runTo rfl (some 53) rfl (.agg #[.bool false, .int .i64 (c.n 14), .string ⟨#[]⟩]) W2 (by kernel_rfl) ?_
  simp only [Act.put, List.setIfInBounds_toArray, List.set_cons_zero, List.set_cons_succ]
  refine wpList_runTo rfl (some 54) rfl (.pointer (some ⟨bo, 13, none⟩)) W2 (by kernel_rfl) ?_
  simp only [Act.put, List.setIfInBounds_toArray, List.set_cons_zero, List.set_cons_succ]
  refine wpList_runTo rfl (some 55) rfl (.int .i64 (c.n 15)) W2 (by exact ldN_run (.inr rfl) (.tmp 54) rfl (by kernel_rfl) (HB2.out.2.2.1.cell 13)) ?_
  simp only [Act.put, List.setIfInBounds_toArray, List.set_cons_zero, List.set_cons_succ]
  refine wpList_runTo rfl (some 56) rfl (.agg #[.bool false, .int .i64 (c.n 15), .string ⟨#[]⟩]) W2 (by kernel_rfl) ?_
  simp only [Act.put, List.setIfInBounds_toArray, List.set_cons_zero, List.set_cons_succ]
  refine wpList_runTo rfl (some 57) rfl (.pointer (some ⟨bo, 14, none⟩)) W2 (by kernel_rfl) ?_
  simp only [Act.put, List.setIfInBounds_toArray, List.set_cons_zero, List.set_cons_succ]
  refine wpList_runTo rfl (some 58) rfl (.int .i64 (c.n 16)) W2 (by exact ldN_run (.inr rfl) (.tmp 57) rfl (by kernel_rfl) (HB2.out.2.2.1.cell 14)) ?_
  simp only [Act.put, List.setIfInBounds_toArray, List.set_cons_zero, List.set_cons_succ]
  refine wpList_runTo rfl (some 59) rfl (.agg #[.bool false, .int .i64 (c.n 16), .string ⟨#[]⟩]) W2 (by kernel_rfl) ?_
  simp only [Act.put, List.setIfInBounds_toArray, List.set_cons_zero, List.set_cons_succ]
  refine wpList_runTo rfl (some 60) rfl (.pointer (some ⟨bo, 11, none⟩)) W2 (by kernel_rfl) ?_
  simp only [Act.put, List.setIfInBounds_toArray, List.set_cons_zero, List.set_cons_succ]
  refine wpList_runTo rfl (some 61) rfl (.int .i64 (c.n 17)) W2 (by exact ldN_run (.inl rfl) (.tmp 60) rfl (by kernel_rfl) (HB2.out.2.2.1.cell 11)) ?_
  simp only [Act.put, List.setIfInBounds_toArray, List.set_cons_zero, List.set_cons_succ]
  refine wpList_runTo rfl (some 62) rfl (.agg #[.bool false, .int .i64 (c.n 17), .string ⟨#[]⟩]) W2 (by kernel_rfl) ?_
  simp only [Act.put, List.setIfInBounds_toArray, List.set_cons_zero, List.set_cons_succ]
  refine wpList_runTo rfl (some 63) rfl (.pointer (some ⟨ba, 0, none⟩)) W2 (by kernel_rfl) ?_
  simp only [Act.put, List.setIfInBounds_toArray, List.set_cons_zero, List.set_cons_succ]
  refine wpList_runTo rfl (some 64) rfl (.string (c.s 18)) W2 (by exact ldS_run (.tmp 63) rfl (by kernel_rfl) (HB2.out.2.2.2.cell 0)) ?_
  simp only [Act.put, List.setIfInBounds_toArray, List.set_cons_zero, List.set_cons_succ]
  refine wpList_runTo rfl (some 65) rfl (.agg #[.bool true, .int .i64 0, .string (c.s 18)]) W2 (by kernel_rfl) ?_
  simp only [Act.put, List.setIfInBounds_toArray, List.set_cons_zero, List.set_cons_succ]
  refine wpList_runTo rfl (some 66) rfl (.pointer (some ⟨ba, 1, none⟩)) W2 (by kernel_rfl) ?_
  simp only [Act.put, List.setIfInBounds_toArray, List.set_cons_zero, List.set_cons_succ]
  refine wpList_runTo rfl (some 67) rfl (.int .i64 (c.n 19)) W2 (by exact ldN_run (.inl rfl) (.tmp 66) rfl (by kernel_rfl) (HB2.out.2.2.2.cell 1)) ?_
  simp only [Act.put, List.setIfInBounds_toArray, List.set_cons_zero, List.set_cons_succ]
  refine wpList_runTo rfl (some 68) rfl (.agg #[.bool false, .int .i64 (c.n 19), .string ⟨#[]⟩]) W2 (by kernel_rfl) ?_
  simp only [Act.put, List.setIfInBounds_toArray, List.set_cons_zero, List.set_cons_succ]
  refine wpList_runTo rfl (some 69) rfl (.pointer (some ⟨ba, 2, none⟩)) W2 (by kernel_rfl) ?_
  simp only [Act.put, List.setIfInBounds_toArray, List.set_cons_zero, List.set_cons_succ]
  refine wpList_runTo rfl (some 70) rfl (.int .i64 (c.n 20)) W2 (by exact ldN_run (.inl rfl) (.tmp 69) rfl (by kernel_rfl) (HB2.out.2.2.2.cell 2)) ?_
  simp only [Act.put, List.setIfInBounds_toArray, List.set_cons_zero, List.set_cons_succ]
  refine wpList_runTo rfl (some 71) rfl (.agg #[.bool false, .int .i64 (c.n 20), .string ⟨#[]⟩]) W2 (by kernel_rfl) ?_
  simp only [Act.put, List.setIfInBounds_toArray, List.set_cons_zero, List.set_cons_succ]
  refine wpList_runTo rfl (some 72) rfl (.pointer (some ⟨ba, 3, none⟩)) W2 (by kernel_rfl) ?_
  simp only [Act.put, List.setIfInBounds_toArray, List.set_cons_zero, List.set_cons_succ]
  refine wpList_runTo rfl (some 73) rfl (.int .i64 (c.n 21)) W2 (by exact ldN_run (.inl rfl) (.tmp 72) rfl (by kernel_rfl) (HB2.out.2.2.2.cell 3)) ?_
  simp only [Act.put, List.setIfInBounds_toArray, List.set_cons_zero, List.set_cons_succ]
  refine wpList_runTo rfl (some 74) rfl (.agg #[.bool false, .int .i64 (c.n 21), .string ⟨#[]⟩]) W2 (by kernel_rfl) ?_
  simp only [Act.put, List.setIfInBounds_toArray, List.set_cons_zero, List.set_cons_succ]
  refine wpList_runTo rfl (some 75) rfl (.pointer (some ⟨ba, 4, none⟩)) W2 (by kernel_rfl) ?_
  simp only [Act.put, List.setIfInBounds_toArray, List.set_cons_zero, List.set_cons_succ]
  refine wpList_runTo rfl (some 76) rfl (.int .i64 (c.n 22)) W2 (by exact ldN_run (.inr rfl) (.tmp 75) rfl (by kernel_rfl) (HB2.out.2.2.2.cell 4)) ?_
  simp only [Act.put, List.setIfInBounds_toArray, List.set_cons_zero, List.set_cons_succ]
  refine wpList_runTo rfl (some 77) rfl (.agg #[.bool false, .int .i64 (c.n 22), .string ⟨#[]⟩]) W2 (by kernel_rfl) ?_
  simp only [Act.put, List.setIfInBounds_toArray, List.set_cons_zero, List.set_cons_succ]
  refine wpList_runTo rfl (some 78) rfl (.pointer (some ⟨ba, 5, none⟩)) W2 (by kernel_rfl) ?_
  simp only [Act.put, List.setIfInBounds_toArray, List.set_cons_zero, List.set_cons_succ]
  refine wpList_runTo rfl (some 79) rfl (.int .i64 (c.n 23)) W2 (by exact ldN_run (.inr rfl) (.tmp 78) rfl (by kernel_rfl) (HB2.out.2.2.2.cell 5)) ?_
  simp only [Act.put, List.setIfInBounds_toArray, List.set_cons_zero, List.set_cons_succ]
  refine wpList_runTo rfl (some 80) rfl (.agg #[.bool false, .int .i64 (c.n 23), .string ⟨#[]⟩]) W2 (by kernel_rfl) ?_
  simp only [Act.put, List.setIfInBounds_toArray, List.set_cons_zero, List.set_cons_succ]
  refine wpList_runTo rfl (some 81) rfl (.slice (some ⟨W2.heap.size, 0, none⟩) 24 24) (W2.alloc (.cells (ptsC c) 121)) (by kernel_rfl) ?_
  simp only [Act.put, List.setIfInBounds_toArray, List.set_cons_zero, List.set_cons_succ]
  have HF : Hid (Blk (W2.alloc (.cells (ptsC c) 121)) W2.heap.size 121 (ptsC c) ∧ Below w.heap.size w (W2.alloc (.cells (ptsC c) 121)) ∧ w.heap.size ≤ W2.heap.size) := ⟨Blk.new _ _ _, HB2.out.1.alloc HB2.out.1.size _, HB2.out.1.size⟩
  generalize W2.alloc (.cells (ptsC c) 121) = W3 at *
  generalize W2.heap.size = gp at *
  refine wpList_runTo rfl (some 2) rfl (.slice (some ⟨gp, 0, none⟩) 24 24) W3 (by kernel_rfl) ?_
  simp only [Act.put, List.setIfInBounds_toArray, List.set_cons_zero, List.set_cons_succ]
  refine wpList_nil ?_
  refine hK _ _ ?_
  clear hK HB2
  go_wp2
  go_ret
  exact ⟨gp, rfl, HF⟩
end Go.Proofs.Ytjnnecoikcmaeaa

namespace Go.Proofs.Ytjnnecoikcmaeaa
set_option linter.unusedVariables false
set_option linter.unusedSimpArgs false
open Go.RowKit Go.Great

theorem pMay_iff (c : Cm) (i : Nat) : pMay c i = true ↔ (pS c i).size ≤ 60 ∧ 0 ≤ pN c i ∧ pN c i ≤ 1000000000000000000 := by
  unfold pMay pS pN mbZ
  cases isT i with
  | true => simp
  | false =>
    simp
    intro _ _
    decide
theorem pZer_iff (c : Cm) (i : Nat) : pZer c i = true ↔ pN c i = 0 ∧ (pS c i).size = 0 := by
  unfold pZer pS pN
  cases isT i with
  | true => simp
  | false =>
    simp
    intro _
    rfl
theorem pS_len {c : Cm} (hc : c.ok) {i : Nat} (h : i < 24) : (pS c i).size ≤ maxLen := by
  unfold pS
  split
  · exact hc.s1 i h
  · exact Nat.zero_le _
theorem pN_bd {c : Cm} (hc : c.ok) {i : Nat} (h : i < 24) : -9223372036854775808 ≤ pN c i ∧ pN c i ≤ 9223372036854775807 := by
  unfold pN
  split
  · exact ⟨by decide, by decide⟩
  · exact ⟨hc.n0 i h, hc.n1 i h⟩
theorem allM_step {c : Cm} {i : Nat} (h : allM c i = true) (k : pMay c i = true) : allM c (i + 1) = true := by
  show (allM c i && pMay c i) = true
  rw [h, k]; rfl
set_option maxRecDepth 100000 in
set_option maxHeartbeats 4000000 in
theorem May_any (c : Cm) (hc : c.ok) (w : World) : Calls Try.prog 40 #[.agg c.cs] w fun e w' => e = .returned (.int .i64 (encE c)) ∧ Hid (Below w.heap.size w w') := by
  obtain ⟨X, hX⟩ : ∃ X, X = c.cs := ⟨_, rfl⟩
  have HX : Hid (X = c.cs) := hX
  have HB0 : Hid (Below w.heap.size w (w.alloc (.cells X 27)) ∧ Blk (w.alloc (.cells X 27)) w.heap.size 27 X) := ⟨(Below.refl _ w).alloc (Nat.le_refl _) _, Blk.new _ _ _⟩
  have HOK : Hid c.ok := hc
  rw [← hX]
  clear hX hc
  obtain ⟨k, hk⟩ : ∃ k, k = c.k := ⟨_, rfl⟩
  obtain ⟨E, hE⟩ : ∃ E, E = encE c := ⟨_, rfl⟩
  have HE : Hid (E = encE c) := hE
  rw [← hE]
  have HK : Hid (E = if 1 ≤ k ∧ k ≤ 9 then (if allM c 24 then 0 else 1) else 30) := by
    show E = _
    rw [hE, hk]; rfl
  clear hE
  have c0 : (w.alloc (.cells X 27)).cell? ⟨w.heap.size, 0, none⟩ = some (.int .i64 k) := (HB0.out.2.cell 0).trans (by rw [HX.out, hk]; rfl)
  clear hk
  go_enter Try.func40, Try.ntmps40
  go_upto_region 1 with fail
  generalize w.alloc (.cells X 27) = W0 at *
  by_cases h1 : k < 1
  · have HF : Hid (E = 30 ∧ Below w.heap.size w W0) := ⟨by rw [HK.out, if_neg (by omega)], HB0.out.1⟩
    clear HK HB0
    go_wp2
    go_ret
    exact ⟨by rw [HF.out.1]; rfl, HF.out.2⟩
  by_cases h9 : 9 < k
  · have HF : Hid (E = 30 ∧ Below w.heap.size w W0) := ⟨by rw [HK.out, if_neg (by omega)], HB0.out.1⟩
    clear HK HB0
    go_wp2
    go_ret
    exact ⟨by rw [HF.out.1]; rfl, HF.out.2⟩
  have HK2 : Hid (E = if allM c 24 then 0 else 1) := by
    show E = _
    rw [HK.out, if_pos (by omega)]
  clear HK
  have hpa := parts_any c W0
  rw [← HX.out] at hpa
  go_upto_region 3 with fail
  rename_i K hK
  refine wp_region_lit ?_
  refine wpList_load_row rfl 27 (.tmp 1) rfl w.heap.size (by kernel_rfl) 27 X (0, 0) _ HB0.out.2 Try.underlying27 rfl (by rw [HX.out, Cm.cs_size]; exact info27) ?_
  simp only [Act.put, List.setIfInBounds_toArray, List.set_cons_zero, List.set_cons_succ]
  refine wpList_callW rfl (some 14) rfl 52 #[.agg X] (by kernel_rfl) hpa ?_
  clear hpa
  rintro e W1 ⟨g, rfl, hx⟩
  refine ⟨_, rfl, ?_⟩
  simp only [Act.put, List.setIfInBounds_toArray, List.set_cons_zero, List.set_cons_succ]
  have HB1 : Hid (Below w.heap.size w W1 ∧ Blk W1 g 121 (ptsC c)) := ⟨below_step HB0.out.1 hx.out.2.1, hx.out.1⟩
  clear hx HB0 c0
  refine wpList_runTo rfl (some 3) rfl (.slice (some ⟨g, 0, none⟩) 24 24) W1 (by kernel_rfl) ?_
  simp only [Act.put, List.setIfInBounds_toArray, List.set_cons_zero, List.set_cons_succ]
  refine wpList_nil ?_
  refine hK _ _ ?_
  clear hK
  go_wp2
  go_loopw [4] (fun x wr => ∃ i : Nat, i ≤ 24 ∧ x = .int .i64 (i : Int) ∧ Hid (wr = W1 ∧ allM c i = true)) (fun x _ => 24 - (intOf x).toNat)
  case atStart => exact ⟨0, Nat.zero_le _, rfl, rfl, rfl⟩
  case round =>
    obtain ⟨i, hi24, rfl, HR⟩ := hrel
    have hw := HR.out.1
    have HA : Hid (allM c i = true) := HR.out.2
    clear HR
    subst hw
    by_cases hi : i < 24
    · have hi' : (i : Int) < 24 := by omega
      obtain ⟨p0, p1, p2⟩ := ptsC_at c hi
      have hS : wr.cell? ⟨g, i * 3 + 2, none⟩ = some (.string (pS c i)) := (HB1.out.2.cell _).trans p2
      have hN : wr.cell? ⟨g, i * 3 + 1, none⟩ = some (.int .i64 (pN c i)) := (HB1.out.2.cell _).trans p1
      have HM : Hid (pMay c i = true ↔ (pS c i).size ≤ 60 ∧ 0 ≤ pN c i ∧ pN c i ≤ 1000000000000000000) := pMay_iff c i
      have hsl := pS_len HOK.out hi
      have hsl' : (pS c i).size ≤ 9223372036854775807 := Nat.le_trans hsl (by decide)
      clear p0 p1 p2
      generalize pS c i = s at *
      generalize pN c i = n at *
      have HNo : Hid (¬ (s.size ≤ 60 ∧ 0 ≤ n ∧ n ≤ 1000000000000000000) → E = 1) := fun h => by
        have hf : pMay c i = false := by
          cases hp : pMay c i with
          | false => rfl
          | true => exact absurd (HM.out.1 hp) h
        rw [HK2.out, allM_no hi hf]; rfl
      by_cases hA : 60 < s.size
      · have hA' : (60 : Int) < (s.size : Int) := by omega
        have HF : Hid (E = 1 ∧ Below w.heap.size w wr) := ⟨HNo.out (by omega), HB1.out.1⟩
        clear HNo HM HB1
        go_wp2
        go_ret
        exact ⟨by rw [HF.out.1]; rfl, HF.out.2⟩
      have hA' : ¬ (60 : Int) < (s.size : Int) := by omega
      by_cases hB : n < 0
      · have HF : Hid (E = 1 ∧ Below w.heap.size w wr) := ⟨HNo.out (by omega), HB1.out.1⟩
        clear HNo HM HB1
        go_wp2
        go_ret
        exact ⟨by rw [HF.out.1]; rfl, HF.out.2⟩
      by_cases hC : 1000000000000000000 < n
      · have HF : Hid (E = 1 ∧ Below w.heap.size w wr) := ⟨HNo.out (by omega), HB1.out.1⟩
        clear HNo HM HB1
        go_wp2
        go_ret
        exact ⟨by rw [HF.out.1]; rfl, HF.out.2⟩
      have HAn : Hid (allM c (i + 1) = true) := allM_step HA.out (HM.out.2 ⟨by omega, by omega, by omega⟩)
      clear HNo HM
      go_wp2
      exact ⟨⟨i + 1, by omega, by go_num, trivial, HAn.out⟩, by simp [intOf]; omega⟩
    · obtain rfl : i = 24 := by omega
      have HF : Hid (E = 0 ∧ Below w.heap.size w wr) := ⟨by rw [HK2.out, HA.out]; rfl, HB1.out.1⟩
      clear HB1
      go_wp2
      go_ret
      exact ⟨by rw [HF.out.1]; rfl, HF.out.2⟩
end Go.Proofs.Ytjnnecoikcmaeaa

namespace Go.Proofs.Ytjnnecoikcmaeaa
set_option linter.unusedVariables false
set_option linter.unusedSimpArgs false
open Go.RowKit Go.Great

/-- Where Raw stands. -/
structure RW (w W : World) (c : Cm) (g : Nat) (rv : Value) (l : List Nat) : Prop where
  blk : Blk W g 121 (ptsC c)
  own : OwnB w W rv l
theorem RW.put {w W W' : World} {c : Cm} {g : Nat} {rv v : Value} {l m : List Nat} (h : RW w W c g rv l) (hx : OwnB W W' v m) : RW w W' c g v m :=
  ⟨h.blk.below hx.bel h.blk.lt, hx.since h.own.bel⟩
theorem RW.str {w W : World} {c : Cm} {g : Nat} {rv : Value} {l : List Nat} (h : RW w W c g rv l) (s : ByteArray) (hl : l.length + s.size ≤ 1000000) (ty : TypeId) : ∃ v' W', (Builtin.append_ #[28, 9] ty #[rv, .string s]).run Try.prog W = .ok v' W' ∧ RW w W' c g v' (l ++ sB s) ∧ ∀ b T' cs', Blk W b T' cs' → (5 : TypeId) ≠ T' → Blk W' b T' cs' := by
  obtain ⟨i0, hi, hz0, hz1, hz2⟩ := info_parts info5
  have hmx : 3000000 ≤ maxLen := by decide
  obtain ⟨v2, Y2, hr, ho2, hg2, _⟩ := Lib.run_append_own_string (P := Try.prog) W w.heap.size 28 9 ty 5 i0 Try.underlying28 Try.underlying9 hi hz0 hz1 hz2 rv _ _ h.own.own s (by omega) (by omega) h.own.bel.size
  have hb2 : Below w.heap.size w Y2 := below_grownBy h.own.bel hg2 (Nat.le_refl _) (fun k e => h.own.low k e)
  refine ⟨v2, Y2, hr, ⟨?_, ?_⟩, fun b T' cs' hb hne => (hg2.block b hb.lt (fun e => h.own.row.ne_type hb hne e.symm)).trans hb⟩
  · exact (hg2.block g h.blk.lt (fun e => h.own.row.ne_type h.blk (by decide) e.symm)).trans h.blk
  · rw [strCells_sB, ← bvals_append] at ho2
    exact OwnB.of ho2 hb2 (h.own.bb.app (sB_bb s))
theorem neSE_run {op : Oper} {a : Act} {s : ByteArray} (x y : Operand) (ho : op.op = .binOp .neq 9 x y 9) (hx : a.eval x = .string s) (hy : a.eval y = .string ⟨#[]⟩) (hs : s.size ≠ 0) (w : World) : (execOp a.eval op).run Try.prog w = .ok (.value (.bool true)) w := by
  have h0 : s.toList ≠ [] := fun e => hs (by
    rw [ByteArray.toList_eq] at e
    have := congrArg List.length e
    simpa using this)
  have h1 : (s.toList == []) = false := by simpa using h0
  have h2 : (s.toList != []) = true := by simpa using h0
  have h3 : (⟨#[]⟩ : ByteArray).toList = [] := by rw [ByteArray.toList_eq]
  unfold execOp
  simp only [ho, hx, hy]
  go_simp
theorem wpList_skipE {P : Program} {ops : Array Oper} {rest : List Oper} {o : Oper} {a : Act} {w : World} {Q : Exit → Act → World → Prop} {un : Value} (hun : un = undef) (hw : Region.wanted o (yielded ops a.tmps) = false) (dst : Option Tmp) (hdst : o.dst = dst) (h : wpList P ops Q rest (a.put dst un) w) : wpList P ops Q (o :: rest) a w := by
  subst hdst hun
  exact wpList_skip hw h
theorem addP_run {op : Oper} {a : Act} {p q : Nat} (x y : Operand) (ho : op.op = .binOp .add 2 x y 2) (hx : a.eval x = .int .i64 (p : Int)) (hy : a.eval y = .int .i64 (q : Int)) (h : p + q ≤ 9223372036854775807) (w : World) : (execOp a.eval op).run Try.prog w = .ok (.value (.int .i64 ((p + q : Nat) : Int))) w := by
  have hw : IntKind.i64.wrap ((p : Int) + (q : Int)) = ((p + q : Nat) : Int) := by rw [IntKind.wrap_i64]; omega
  have hw' : wrap64 ((p : Int) + (q : Int)) = ((p + q : Nat) : Int) := by unfold wrap64; omega
  generalize p + q = r at *
  unfold execOp
  simp only [ho, hx, hy]
  go_simp
theorem ixP_run {op : Oper} {a : Act} {g n c i : Nat} (x y : Operand) (ho : op.op = .indexAddr 118 x y) (hx : a.eval x = .slice (some ⟨g, 0, none⟩) n c) (hy : a.eval y = .int .i64 (i : Int)) (hi : i < n) (w : World) : (execOp a.eval op).run Try.prog w = .ok (.value (.pointer (some ⟨g, i * 3, none⟩))) w := by
  have h1 : (i : Int) < (n : Int) := by omega
  have h2 : ¬ (n : Int) ≤ (i : Int) := by omega
  unfold execOp
  simp only [ho, hx, hy]
  go_simp
theorem neZ_run {op : Oper} {a : Act} {z : Int} {r : Bool} (x y : Operand) (ho : op.op = .binOp .neq 2 x y 2) (hx : a.eval x = .int .i64 z) (hy : a.eval y = .int .i64 0) (hr : (z != 0) = r) (w : World) : (execOp a.eval op).run Try.prog w = .ok (.value (.bool r)) w := by
  have hr2 : (!(z == 0)) = r := hr
  unfold execOp
  simp only [ho, hx, hy]
  go_simp
theorem ldT_run {op : Oper} {a : Act} {w : World} {g o : Nat} {b : Bool} (x : Operand) (ho : op.op = .load 4 x) (hx : a.eval x = .pointer (some ⟨g, o, none⟩)) (h : w.cell? ⟨g, o, none⟩ = some (.bool b)) : (execOp a.eval op).run Try.prog w = .ok (.value (.bool b)) w := by
  unfold execOp
  simp only [ho, hx]
  go_simp
theorem vlU_bd {c : Cm} (h : allM c 24 = true) {i : Nat} (hi : i ≤ 24) : (vlU c i).length ≤ 2000 := by
  have hi' : allM c i = true := by
    obtain ⟨t, ht⟩ := vlU_pre c i 24 hi
    cases ha : allM c i with
    | true => rfl
    | false =>
      exfalso
      have : ∀ n, i ≤ n → allM c n = false := fun n => by
        induction n with
        | zero => intro h; rw [show i = 0 by omega] at ha; cases ha
        | succ n ih =>
          intro h
          by_cases e : i = n + 1
          · rw [← e]; exact ha
          · show (allM c n && pMay c n) = false
            rw [ih (by omega)]; rfl
      rw [this 24 hi] at h
      cases h
  have := vlU_len hi'
  omega
set_option maxRecDepth 100000 in
set_option maxHeartbeats 8000000 in
theorem Raw_any (c : Cm) (hc : c.ok) (hE : encE c = 0) (w : World) : Calls Try.prog 41 #[.agg c.cs] w fun e w' => ∃ v, e = .returned v ∧ Hid (RowB w w' v (encL c)) := by
  have HAll : Hid (allM c 24 = true) := (encE_zero hE).2
  obtain ⟨X, hX⟩ : ∃ X, X = c.cs := ⟨_, rfl⟩
  have HX : Hid (X = c.cs) := hX
  have HB0 : Hid (Below w.heap.size w (w.alloc (.cells X 27)) ∧ Blk (w.alloc (.cells X 27)) w.heap.size 27 X) := ⟨(Below.refl _ w).alloc (Nat.le_refl _) _, Blk.new _ _ _⟩
  have HOK : Hid c.ok := hc
  rw [← hX]
  clear hX hc hE
  go_enter Try.func41, Try.ntmps41
  go_upto_region 1 with fail
  generalize w.alloc (.cells X 27) = W0 at *
  rename_i K hK
  have hpa := parts_any c W0
  rw [← HX.out] at hpa
  refine wp_region_lit ?_
  refine wpList_load_row rfl 27 (.tmp 1) rfl w.heap.size (by kernel_rfl) 27 X (0, 0) _ HB0.out.2 Try.underlying27 rfl (by rw [HX.out, Cm.cs_size]; exact info27) ?_
  simp only [Act.put, List.setIfInBounds_toArray, List.set_cons_zero, List.set_cons_succ]
  refine wpList_callW rfl (some 10) rfl 52 #[.agg X] (by kernel_rfl) hpa ?_
  clear hpa
  rintro e W1 ⟨g, rfl, hx⟩
  refine ⟨_, rfl, ?_⟩
  simp only [Act.put, List.setIfInBounds_toArray, List.set_cons_zero, List.set_cons_succ]
  have HR0 : Hid (RW w W1 c g (.slice none 0 0) [] ∧ Blk W1 w.heap.size 27 X ∧ W0.heap.size ≤ W1.heap.size ∧ w.heap.size < W0.heap.size) := ⟨⟨hx.out.1, (OwnB.of (l := []) (n := 0) ⟨rfl, .inl ⟨rfl, rfl⟩⟩ (below_step HB0.out.1 hx.out.2.1) (fun x hx => by cases hx))⟩, HB0.out.2.below hx.out.2.1 HB0.out.2.lt, hx.out.2.1.size, HB0.out.2.lt⟩
  clear hx HB0
  refine wpList_runTo rfl (some 3) rfl (.slice (some ⟨g, 0, none⟩) 24 24) W1 (by kernel_rfl) ?_
  simp only [Act.put, List.setIfInBounds_toArray, List.set_cons_zero, List.set_cons_succ]
  refine wpList_nil ?_
  refine hK _ _ ?_
  clear hK
  go_wp2
  go_loopw [4, 5, 6, 7] (fun x y z u wr => ∃ (i M Bt : Nat) (rv : Value), i ≤ 24 ∧ M < 16777216 ∧ Bt ≤ 16777216 ∧ x = .int .i64 (M : Int) ∧ y = .int .i64 (Bt : Int) ∧ rv = z ∧ u = .int .i64 (i : Int) ∧ Hid (RW w wr c g rv (vlU c i) ∧ M = mkU c i ∧ Bt = 2 ^ i ∧ Blk wr w.heap.size 27 X)) (fun _ _ _ u _ => 24 - (intOf u).toNat)
  case atStart => exact ⟨0, 0, 1, _, Nat.zero_le _, by decide, by decide, rfl, rfl, rfl, rfl, HR0.out.1, rfl, rfl, HR0.out.2.1⟩
  case round =>
    clear HR0
    obtain ⟨i, M, Bt, rv, hi24, hM, hBt, rfl, rfl, hz, rfl, HR⟩ := hrel
    subst hz
    by_cases hi : i < 24
    · have hi' : (i : Int) < 24 := by omega
      obtain ⟨p0, p1, p2⟩ := ptsC_at c hi
      have hT : wr.cell? ⟨g, i * 3, none⟩ = some (.bool (isT i)) := (HR.out.1.blk.cell _).trans p0
      have hS : wr.cell? ⟨g, i * 3 + 2, none⟩ = some (.string (pS c i)) := (HR.out.1.blk.cell _).trans p2
      have hN : wr.cell? ⟨g, i * 3 + 1, none⟩ = some (.int .i64 (pN c i)) := (HR.out.1.blk.cell _).trans p1
      have HBt : Hid (2 * Bt = 2 ^ (i + 1) ∧ 2 * Bt ≤ 16777216) := by
        have e : 2 * Bt = 2 ^ (i + 1) := by rw [HR.out.2.2.1, Nat.pow_succ]; omega
        have : 2 ^ (i + 1) ≤ 2 ^ 24 := Nat.pow_le_pow_right (by decide) (by omega)
        exact ⟨e, by rw [e]; exact this⟩
      have hB2 : 2 * Bt ≤ 16777216 := HBt.out.2
      have HMs : Hid (mkU c (i + 1) = M + (if pZer c i then 0 else Bt) ∧ mkU c (i + 1) < 16777216) := by
        refine ⟨by rw [HR.out.2.1, HR.out.2.2.1]; rfl, ?_⟩
        have h1 := mkU_lt c (i + 1)
        have : 2 ^ (i + 1) ≤ 2 ^ 24 := Nat.pow_le_pow_right (by decide) (by omega)
        have e : (2 : Nat) ^ 24 = 16777216 := by decide
        omega
      have HVs : Hid (vlU c (i + 1) = vlU c i ++ (if pZer c i then [] else pBy c i)) := rfl
      have hZ := pZer_iff c i
      have hMay := (pMay_iff c i).1 (allM_lt HAll.out i hi)
      have HL : Hid ((vlU c i).length ≤ 2000) := vlU_bd HAll.out (by omega)
      have hPB : Hid (isT i = true → pBy c i = varL (foldN ((pS c i).size : Int)) ++ sB (pS c i)) := fun h => by unfold pBy pS; rw [h]; rfl
      have hPN : Hid (isT i = false → pBy c i = varL (foldN (pN c i))) := fun h => by unfold pBy pN; rw [h]; rfl
      have HTn : Hid (isT i = true → pN c i = 0) := fun h => by unfold pN; rw [h]; rfl
      have HTs : Hid (isT i = false → (pS c i).size = 0) := fun h => by unfold pS; rw [h]; rfl
      clear p0 p1 p2
      generalize pS c i = s at *
      generalize pN c i = n at *
      generalize pBy c i = pb at *
      cases hz : pZer c i with
      | true =>
        obtain ⟨hn0, hs0⟩ := hZ.1 hz
        have HM2 : Hid (mkU c (i + 1) = M) := by
          show _ = _
          rw [HMs.out.1, hz]; rfl
        have HV2 : Hid (vlU c (i + 1) = vlU c i) := by
          show _ = _
          rw [HVs.out, hz]; exact List.append_nil _
        obtain rfl := ba_nil hs0
        subst hn0
        clear hZ hMay hPB hPN HTn HTs HMs HVs hz
        go_upto_region 8 with fail
        rename_i K hK
        refine wp_region_lit ?_
        refine wpList_runTo rfl (some 17) rfl (.slice (some ⟨g, 0, none⟩) 24 24) wr (by kernel_rfl) ?_
        simp only [Act.put, List.setIfInBounds_toArray, List.set_cons_zero, List.set_cons_succ]
        refine wpList_runTo rfl (some 18) rfl (.int .i64 (i : Int)) wr (by kernel_rfl) ?_
        simp only [Act.put, List.setIfInBounds_toArray, List.set_cons_zero, List.set_cons_succ]
        refine wpList_runTo rfl (some 19) rfl (.pointer (some ⟨g, i * 3, none⟩)) wr (by exact ixP_run (n := 24) (c := 24) (.tmp 17) (.tmp 18) rfl (by kernel_rfl) (by kernel_rfl) hi _) ?_
        simp only [Act.put, List.setIfInBounds_toArray, List.set_cons_zero, List.set_cons_succ]
        refine wpList_runTo rfl (some 20) rfl (.pointer (some ⟨g, i * 3 + 1, none⟩)) wr (by kernel_rfl) ?_
        simp only [Act.put, List.setIfInBounds_toArray, List.set_cons_zero, List.set_cons_succ]
        refine wpList_runTo rfl (some 21) rfl (.int .i64 0) wr (by exact ldN_run (.inl rfl) (.tmp 20) rfl (by kernel_rfl) hN) ?_
        simp only [Act.put, List.setIfInBounds_toArray, List.set_cons_zero, List.set_cons_succ]
        refine wpList_runTo rfl (some 22) rfl (.bool false) wr (by kernel_rfl) ?_
        simp only [Act.put, List.setIfInBounds_toArray, List.set_cons_zero, List.set_cons_succ]
        refine wpList_runTo rfl (some 23) rfl (.bool false) wr (by kernel_rfl) ?_
        simp only [Act.put, List.setIfInBounds_toArray, List.set_cons_zero, List.set_cons_succ]
        refine wpList_runToG (by kernel_rfl) (some 24) rfl (.slice (some ⟨g, 0, none⟩) 24 24) wr (by kernel_rfl) ?_
        simp only [Act.put, List.setIfInBounds_toArray, List.set_cons_zero, List.set_cons_succ]
        refine wpList_runToG (by kernel_rfl) (some 25) rfl (.int .i64 (i : Int)) wr (by kernel_rfl) ?_
        simp only [Act.put, List.setIfInBounds_toArray, List.set_cons_zero, List.set_cons_succ]
        refine wpList_runToG (by kernel_rfl) (some 26) rfl (.pointer (some ⟨g, i * 3, none⟩)) wr (by exact ixP_run (n := 24) (c := 24) (.tmp 24) (.tmp 25) rfl (by kernel_rfl) (by kernel_rfl) hi _) ?_
        simp only [Act.put, List.setIfInBounds_toArray, List.set_cons_zero, List.set_cons_succ]
        refine wpList_runToG (by kernel_rfl) (some 27) rfl (.pointer (some ⟨g, i * 3 + 2, none⟩)) wr (by kernel_rfl) ?_
        simp only [Act.put, List.setIfInBounds_toArray, List.set_cons_zero, List.set_cons_succ]
        refine wpList_runToG (by kernel_rfl) (some 28) rfl (.string ⟨#[]⟩) wr (by exact ldS_run (.tmp 27) rfl (by kernel_rfl) hS) ?_
        simp only [Act.put, List.setIfInBounds_toArray, List.set_cons_zero, List.set_cons_succ]
        refine wpList_runToG (by kernel_rfl) (some 29) rfl (.bool false) wr (by exact neS_run (s := ⟨#[]⟩) (t := ⟨#[]⟩) (.tmp 28) (.const (.string ⟨#[]⟩)) rfl (by kernel_rfl) rfl rfl _) ?_
        simp only [Act.put, List.setIfInBounds_toArray, List.set_cons_zero, List.set_cons_succ]
        refine wpList_runTo rfl (some 30) rfl (.bool false) wr (by kernel_rfl) ?_
        simp only [Act.put, List.setIfInBounds_toArray, List.set_cons_zero, List.set_cons_succ]
        refine wpList_nil ?_
        refine hK _ _ ?_
        clear hK hT hS hN
        go_wp2
        exact ⟨⟨i + 1, M, 2 * Bt, rv, by omega, hM, hB2, rfl, by go_num, rfl, by go_num, by rw [HV2.out]; exact ⟨HR.out.1, HM2.out.symm, HBt.out.1, HR.out.2.2.2⟩⟩, by simp [intOf]; omega⟩
      | false =>
        have hnz : ¬ (n = 0 ∧ s.size = 0) := fun h => by rw [hZ.2 h] at hz; cases hz
        have HM2 : Hid (mkU c (i + 1) = M + Bt ∧ M + Bt < 16777216) := by
          have h1 := HMs.out.1
          rw [hz] at h1
          have h2 : mkU c (i + 1) = M + Bt := h1
          exact ⟨h2, by rw [← h2]; exact HMs.out.2⟩
        have hMB : M + Bt < 16777216 := HM2.out.2
        have HV2 : Hid (vlU c (i + 1) = vlU c i ++ pb) := by
          show _ = _
          rw [HVs.out, hz]; rfl
        clear hZ HMs HVs hz
        cases hIt : isT i with
        | true =>
          rw [hIt] at hT
          have hn0 := HTn.out hIt
          have hpb := hPB.out hIt
          subst hn0
          subst hpb
          have hs0 : s.size ≠ 0 := fun e => hnz ⟨rfl, e⟩
          clear hPB hPN HTn HTs hIt hnz
          go_upto_region 8 with fail
          rename_i K hK
          refine wp_region_lit ?_
          refine wpList_runTo rfl (some 17) rfl (.slice (some ⟨g, 0, none⟩) 24 24) wr (by kernel_rfl) ?_
          simp only [Act.put, List.setIfInBounds_toArray, List.set_cons_zero, List.set_cons_succ]
          refine wpList_runTo rfl (some 18) rfl (.int .i64 (i : Int)) wr (by kernel_rfl) ?_
          simp only [Act.put, List.setIfInBounds_toArray, List.set_cons_zero, List.set_cons_succ]
          refine wpList_runTo rfl (some 19) rfl (.pointer (some ⟨g, i * 3, none⟩)) wr (by exact ixP_run (n := 24) (c := 24) (.tmp 17) (.tmp 18) rfl (by kernel_rfl) (by kernel_rfl) hi _) ?_
          simp only [Act.put, List.setIfInBounds_toArray, List.set_cons_zero, List.set_cons_succ]
          refine wpList_runTo rfl (some 20) rfl (.pointer (some ⟨g, i * 3 + 1, none⟩)) wr (by kernel_rfl) ?_
          simp only [Act.put, List.setIfInBounds_toArray, List.set_cons_zero, List.set_cons_succ]
          refine wpList_runTo rfl (some 21) rfl (.int .i64 0) wr (by exact ldN_run (.inl rfl) (.tmp 20) rfl (by kernel_rfl) hN) ?_
          simp only [Act.put, List.setIfInBounds_toArray, List.set_cons_zero, List.set_cons_succ]
          refine wpList_runTo rfl (some 22) rfl (.bool false) wr (by kernel_rfl) ?_
          simp only [Act.put, List.setIfInBounds_toArray, List.set_cons_zero, List.set_cons_succ]
          refine wpList_runTo rfl (some 23) rfl (.bool false) wr (by kernel_rfl) ?_
          simp only [Act.put, List.setIfInBounds_toArray, List.set_cons_zero, List.set_cons_succ]
          refine wpList_runToG (by kernel_rfl) (some 24) rfl (.slice (some ⟨g, 0, none⟩) 24 24) wr (by kernel_rfl) ?_
          simp only [Act.put, List.setIfInBounds_toArray, List.set_cons_zero, List.set_cons_succ]
          refine wpList_runToG (by kernel_rfl) (some 25) rfl (.int .i64 (i : Int)) wr (by kernel_rfl) ?_
          simp only [Act.put, List.setIfInBounds_toArray, List.set_cons_zero, List.set_cons_succ]
          refine wpList_runToG (by kernel_rfl) (some 26) rfl (.pointer (some ⟨g, i * 3, none⟩)) wr (by exact ixP_run (n := 24) (c := 24) (.tmp 24) (.tmp 25) rfl (by kernel_rfl) (by kernel_rfl) hi _) ?_
          simp only [Act.put, List.setIfInBounds_toArray, List.set_cons_zero, List.set_cons_succ]
          refine wpList_runToG (by kernel_rfl) (some 27) rfl (.pointer (some ⟨g, i * 3 + 2, none⟩)) wr (by kernel_rfl) ?_
          simp only [Act.put, List.setIfInBounds_toArray, List.set_cons_zero, List.set_cons_succ]
          refine wpList_runToG (by kernel_rfl) (some 28) rfl (.string s) wr (by exact ldS_run (.tmp 27) rfl (by kernel_rfl) hS) ?_
          simp only [Act.put, List.setIfInBounds_toArray, List.set_cons_zero, List.set_cons_succ]
          refine wpList_runToG (by kernel_rfl) (some 29) rfl (.bool true) wr (by exact neSE_run (.tmp 28) (.const (.string ⟨#[]⟩)) rfl (by kernel_rfl) rfl hs0 _) ?_
          simp only [Act.put, List.setIfInBounds_toArray, List.set_cons_zero, List.set_cons_succ]
          refine wpList_runTo rfl (some 30) rfl (.bool true) wr (by kernel_rfl) ?_
          simp only [Act.put, List.setIfInBounds_toArray, List.set_cons_zero, List.set_cons_succ]
          refine wpList_nil ?_
          refine hK _ _ ?_
          clear hK
          go_upto_region 9 with fail
          rename_i K hK
          refine wp_region_lit ?_
          refine wpList_runTo rfl (some 31) rfl (.int .i64 (M : Int)) wr (by kernel_rfl) ?_
          simp only [Act.put, List.setIfInBounds_toArray, List.set_cons_zero, List.set_cons_succ]
          refine wpList_runTo rfl (some 32) rfl (.int .i64 (Bt : Int)) wr (by kernel_rfl) ?_
          simp only [Act.put, List.setIfInBounds_toArray, List.set_cons_zero, List.set_cons_succ]
          refine wpList_runTo rfl (some 33) rfl (.int .i64 ((M + Bt : Nat) : Int)) wr (by exact addP_run (.tmp 31) (.tmp 32) rfl (by kernel_rfl) (by kernel_rfl) (by omega) _) ?_
          simp only [Act.put, List.setIfInBounds_toArray, List.set_cons_zero, List.set_cons_succ]
          generalize M + Bt = M2 at *
          refine wpList_runTo rfl (some 4) rfl (.int .i64 (M2 : Int)) wr (by kernel_rfl) ?_
          simp only [Act.put, List.setIfInBounds_toArray, List.set_cons_zero, List.set_cons_succ]
          refine wpList_nil ?_
          refine hK _ _ ?_
          clear hK
          go_upto_region 10 with fail
          rename_i K hK
          refine wp_region_lit ?_
          refine wpList_runTo rfl (some 34) rfl (.slice (some ⟨g, 0, none⟩) 24 24) wr (by kernel_rfl) ?_
          simp only [Act.put, List.setIfInBounds_toArray, List.set_cons_zero, List.set_cons_succ]
          refine wpList_runTo rfl (some 35) rfl (.int .i64 (i : Int)) wr (by kernel_rfl) ?_
          simp only [Act.put, List.setIfInBounds_toArray, List.set_cons_zero, List.set_cons_succ]
          refine wpList_runTo rfl (some 36) rfl (.pointer (some ⟨g, i * 3, none⟩)) wr (by exact ixP_run (n := 24) (c := 24) (.tmp 34) (.tmp 35) rfl (by kernel_rfl) (by kernel_rfl) hi _) ?_
          simp only [Act.put, List.setIfInBounds_toArray, List.set_cons_zero, List.set_cons_succ]
          refine wpList_runTo rfl (some 37) rfl (.pointer (some ⟨g, i * 3, none⟩)) wr (by kernel_rfl) ?_
          simp only [Act.put, List.setIfInBounds_toArray, List.set_cons_zero, List.set_cons_succ]
          refine wpList_runTo rfl (some 38) rfl (.bool true) wr (by exact ldT_run (.tmp 37) rfl (by kernel_rfl) hT) ?_
          simp only [Act.put, List.setIfInBounds_toArray, List.set_cons_zero, List.set_cons_succ]
          refine wpList_nil ?_
          refine hK _ _ ?_
          clear hK hT
          have hpv := refPutVar_by HR.out.1.own.by' (by have := HL.out; omega) (s.size : Int) (by omega) (by omega)
          go_upto_region 11 with fail
          rename_i K hK
          refine wp_region_lit ?_
          refine wpList_runTo rfl (some 39) rfl (rv) wr (by kernel_rfl) ?_
          simp only [Act.put, List.setIfInBounds_toArray, List.set_cons_zero, List.set_cons_succ]
          refine wpList_runTo rfl (some 40) rfl (.slice (some ⟨g, 0, none⟩) 24 24) wr (by kernel_rfl) ?_
          simp only [Act.put, List.setIfInBounds_toArray, List.set_cons_zero, List.set_cons_succ]
          refine wpList_runTo rfl (some 41) rfl (.int .i64 (i : Int)) wr (by kernel_rfl) ?_
          simp only [Act.put, List.setIfInBounds_toArray, List.set_cons_zero, List.set_cons_succ]
          refine wpList_runTo rfl (some 42) rfl (.pointer (some ⟨g, i * 3, none⟩)) wr (by exact ixP_run (n := 24) (c := 24) (.tmp 40) (.tmp 41) rfl (by kernel_rfl) (by kernel_rfl) hi _) ?_
          simp only [Act.put, List.setIfInBounds_toArray, List.set_cons_zero, List.set_cons_succ]
          refine wpList_runTo rfl (some 43) rfl (.pointer (some ⟨g, i * 3 + 2, none⟩)) wr (by kernel_rfl) ?_
          simp only [Act.put, List.setIfInBounds_toArray, List.set_cons_zero, List.set_cons_succ]
          refine wpList_runTo rfl (some 44) rfl (.string s) wr (by exact ldS_run (.tmp 43) rfl (by kernel_rfl) hS) ?_
          simp only [Act.put, List.setIfInBounds_toArray, List.set_cons_zero, List.set_cons_succ]
          refine wpList_runTo rfl (some 45) rfl (.int .i64 (s.size : Int)) wr (by kernel_rfl) ?_
          simp only [Act.put, List.setIfInBounds_toArray, List.set_cons_zero, List.set_cons_succ]
          refine wpList_callW rfl (some 46) rfl 53 #[rv, .int .i64 (s.size : Int)] (by kernel_rfl) hpv ?_
          clear hpv
          rintro e W3 ⟨v3, rfl, hx⟩
          refine ⟨_, rfl, ?_⟩
          simp only [Act.put, List.setIfInBounds_toArray, List.set_cons_zero, List.set_cons_succ]
          have HR3 : Hid (RW w W3 c g v3 (vlU c i ++ varL (foldN (s.size : Int))) ∧ Blk W3 w.heap.size 27 X) := ⟨HR.out.1.put hx.out, HR.out.2.2.2.below hx.out.bel HR.out.2.2.2.lt⟩
          have hS3 : W3.cell? ⟨g, i * 3 + 2, none⟩ = some (.string s) := (hx.out.bel.cell (p := ⟨g, _, none⟩) (World.block_lt_of_cell? _ _ hS)).trans hS
          clear hx HR hS hN
          refine wpList_runTo rfl (some 6) rfl (v3) W3 (by kernel_rfl) ?_
          simp only [Act.put, List.setIfInBounds_toArray, List.set_cons_zero, List.set_cons_succ]
          refine wpList_nil ?_
          refine hK _ _ ?_
          clear hK
          have hvl := varL_length10 (foldN_lt (n := (s.size : Int)) (by omega) (by omega))
          obtain ⟨v4, W4, hr4, hc4⟩ := HR3.out.1.str s (by rw [List.length_append]; have := HL.out; omega) 28
          go_upto_region 12 with fail
          refine wp_region_lit ?_
          refine wpList_runTo rfl (some 47) rfl (v3) W3 (by kernel_rfl) ?_
          simp only [Act.put, List.setIfInBounds_toArray, List.set_cons_zero, List.set_cons_succ]
          refine wpList_runTo rfl (some 48) rfl (.slice (some ⟨g, 0, none⟩) 24 24) W3 (by kernel_rfl) ?_
          simp only [Act.put, List.setIfInBounds_toArray, List.set_cons_zero, List.set_cons_succ]
          refine wpList_runTo rfl (some 49) rfl (.int .i64 (i : Int)) W3 (by kernel_rfl) ?_
          simp only [Act.put, List.setIfInBounds_toArray, List.set_cons_zero, List.set_cons_succ]
          refine wpList_runTo rfl (some 50) rfl (.pointer (some ⟨g, i * 3, none⟩)) W3 (by exact ixP_run (n := 24) (c := 24) (.tmp 48) (.tmp 49) rfl (by kernel_rfl) (by kernel_rfl) hi _) ?_
          simp only [Act.put, List.setIfInBounds_toArray, List.set_cons_zero, List.set_cons_succ]
          refine wpList_runTo rfl (some 51) rfl (.pointer (some ⟨g, i * 3 + 2, none⟩)) W3 (by kernel_rfl) ?_
          simp only [Act.put, List.setIfInBounds_toArray, List.set_cons_zero, List.set_cons_succ]
          refine wpList_runTo rfl (some 52) rfl (.string s) W3 (by exact ldS_run (.tmp 51) rfl (by kernel_rfl) hS3) ?_
          simp only [Act.put, List.setIfInBounds_toArray, List.set_cons_zero, List.set_cons_succ]
          refine wpList_plain rfl fun K1 hK1 => ?_
          refine valR (d := some 53) rfl (w' := W4) v4 (exec_append (v1 := v3) (v2 := .string s) (.tmp 47) (.tmp 52) rfl (by kernel_rfl) (by kernel_rfl) hr4) ?_
          refine hK1 _ _ ?_
          clear hK1
          simp only [Act.put, List.setIfInBounds_toArray, List.set_cons_zero, List.set_cons_succ]
          have HR4 : Hid (RW w W4 c g v4 (vlU c (i + 1)) ∧ Blk W4 w.heap.size 27 X) := by
            rw [HV2.out, ← List.append_assoc]
            exact ⟨hc4.1, hc4.2 _ _ _ HR3.out.2 (by decide)⟩
          clear HR3 hS3 hr4 hc4 hvl
          refine wpList_runTo rfl (some 6) rfl (v4) W4 (by kernel_rfl) ?_
          simp only [Act.put, List.setIfInBounds_toArray, List.set_cons_zero, List.set_cons_succ]
          refine wpList_nil ?_
          go_wp2
          exact ⟨⟨i + 1, M2, 2 * Bt, v4, by omega, hMB, hB2, rfl, by go_num, rfl, by go_num, HR4.out.1, HM2.out.1.symm, HBt.out.1, HR4.out.2⟩, by simp [intOf]; omega⟩
        | false =>
          rw [hIt] at hT
          have hs0 := HTs.out hIt
          have hpb := hPN.out hIt
          subst hpb
          have hn0 : n ≠ 0 := fun e => hnz ⟨e, hs0⟩
          have hnb : (n != 0) = true := by simpa using hn0
          clear hPB hPN HTn HTs hIt hnz
          obtain ⟨bt, hbt⟩ : ∃ bt, bt = Value.bool true := ⟨_, rfl⟩
          obtain ⟨un, hun⟩ : ∃ un, un = undef := ⟨_, rfl⟩
          go_upto_region 8 with fail
          rename_i K hK
          refine wp_region_lit ?_
          refine wpList_runTo rfl (some 17) rfl (.slice (some ⟨g, 0, none⟩) 24 24) wr (by kernel_rfl) ?_
          simp only [Act.put, List.setIfInBounds_toArray, List.set_cons_zero, List.set_cons_succ]
          refine wpList_runTo rfl (some 18) rfl (.int .i64 (i : Int)) wr (by kernel_rfl) ?_
          simp only [Act.put, List.setIfInBounds_toArray, List.set_cons_zero, List.set_cons_succ]
          refine wpList_runTo rfl (some 19) rfl (.pointer (some ⟨g, i * 3, none⟩)) wr (by exact ixP_run (n := 24) (c := 24) (.tmp 17) (.tmp 18) rfl (by kernel_rfl) (by kernel_rfl) hi _) ?_
          simp only [Act.put, List.setIfInBounds_toArray, List.set_cons_zero, List.set_cons_succ]
          refine wpList_runTo rfl (some 20) rfl (.pointer (some ⟨g, i * 3 + 1, none⟩)) wr (by kernel_rfl) ?_
          simp only [Act.put, List.setIfInBounds_toArray, List.set_cons_zero, List.set_cons_succ]
          refine wpList_runTo rfl (some 21) rfl (.int .i64 n) wr (by exact ldN_run (.inl rfl) (.tmp 20) rfl (by kernel_rfl) hN) ?_
          simp only [Act.put, List.setIfInBounds_toArray, List.set_cons_zero, List.set_cons_succ]
          refine wpList_runTo rfl (some 22) rfl (.bool true) wr (by exact neZ_run (.tmp 21) (.const (.int .i64 0)) rfl (by kernel_rfl) rfl hnb _) ?_
          simp only [Act.put, List.setIfInBounds_toArray, List.set_cons_zero, List.set_cons_succ]
          refine wpList_runTo rfl (some 23) rfl (bt) wr (by subst hbt; kernel_rfl) ?_
          simp only [Act.put, List.setIfInBounds_toArray, List.set_cons_zero, List.set_cons_succ]
          refine wpList_skipE hun (by subst hbt; subst hun; kernel_rfl) (some 24) rfl ?_
          simp only [Act.put, List.setIfInBounds_toArray, List.set_cons_zero, List.set_cons_succ]
          refine wpList_skipE hun (by subst hbt; subst hun; kernel_rfl) (some 25) rfl ?_
          simp only [Act.put, List.setIfInBounds_toArray, List.set_cons_zero, List.set_cons_succ]
          refine wpList_skipE hun (by subst hbt; subst hun; kernel_rfl) (some 26) rfl ?_
          simp only [Act.put, List.setIfInBounds_toArray, List.set_cons_zero, List.set_cons_succ]
          refine wpList_skipE hun (by subst hbt; subst hun; kernel_rfl) (some 27) rfl ?_
          simp only [Act.put, List.setIfInBounds_toArray, List.set_cons_zero, List.set_cons_succ]
          refine wpList_skipE hun (by subst hbt; subst hun; kernel_rfl) (some 28) rfl ?_
          simp only [Act.put, List.setIfInBounds_toArray, List.set_cons_zero, List.set_cons_succ]
          refine wpList_skipE hun (by subst hbt; subst hun; kernel_rfl) (some 29) rfl ?_
          simp only [Act.put, List.setIfInBounds_toArray, List.set_cons_zero, List.set_cons_succ]
          refine wpList_runTo rfl (some 30) rfl (.bool true) wr (by subst hbt; subst hun; kernel_rfl) ?_
          simp only [Act.put, List.setIfInBounds_toArray, List.set_cons_zero, List.set_cons_succ]
          refine wpList_nil ?_
          refine hK _ _ ?_
          clear hK
          go_upto_region 9 with fail
          rename_i K hK
          refine wp_region_lit ?_
          refine wpList_runTo rfl (some 31) rfl (.int .i64 (M : Int)) wr (by kernel_rfl) ?_
          simp only [Act.put, List.setIfInBounds_toArray, List.set_cons_zero, List.set_cons_succ]
          refine wpList_runTo rfl (some 32) rfl (.int .i64 (Bt : Int)) wr (by kernel_rfl) ?_
          simp only [Act.put, List.setIfInBounds_toArray, List.set_cons_zero, List.set_cons_succ]
          refine wpList_runTo rfl (some 33) rfl (.int .i64 ((M + Bt : Nat) : Int)) wr (by exact addP_run (.tmp 31) (.tmp 32) rfl (by kernel_rfl) (by kernel_rfl) (by omega) _) ?_
          simp only [Act.put, List.setIfInBounds_toArray, List.set_cons_zero, List.set_cons_succ]
          generalize M + Bt = M2 at *
          refine wpList_runTo rfl (some 4) rfl (.int .i64 (M2 : Int)) wr (by kernel_rfl) ?_
          simp only [Act.put, List.setIfInBounds_toArray, List.set_cons_zero, List.set_cons_succ]
          refine wpList_nil ?_
          refine hK _ _ ?_
          clear hK
          go_upto_region 10 with fail
          rename_i K hK
          refine wp_region_lit ?_
          refine wpList_runTo rfl (some 34) rfl (.slice (some ⟨g, 0, none⟩) 24 24) wr (by kernel_rfl) ?_
          simp only [Act.put, List.setIfInBounds_toArray, List.set_cons_zero, List.set_cons_succ]
          refine wpList_runTo rfl (some 35) rfl (.int .i64 (i : Int)) wr (by kernel_rfl) ?_
          simp only [Act.put, List.setIfInBounds_toArray, List.set_cons_zero, List.set_cons_succ]
          refine wpList_runTo rfl (some 36) rfl (.pointer (some ⟨g, i * 3, none⟩)) wr (by exact ixP_run (n := 24) (c := 24) (.tmp 34) (.tmp 35) rfl (by kernel_rfl) (by kernel_rfl) hi _) ?_
          simp only [Act.put, List.setIfInBounds_toArray, List.set_cons_zero, List.set_cons_succ]
          refine wpList_runTo rfl (some 37) rfl (.pointer (some ⟨g, i * 3, none⟩)) wr (by kernel_rfl) ?_
          simp only [Act.put, List.setIfInBounds_toArray, List.set_cons_zero, List.set_cons_succ]
          refine wpList_runTo rfl (some 38) rfl (.bool false) wr (by exact ldT_run (.tmp 37) rfl (by kernel_rfl) hT) ?_
          simp only [Act.put, List.setIfInBounds_toArray, List.set_cons_zero, List.set_cons_succ]
          refine wpList_nil ?_
          refine hK _ _ ?_
          clear hK hT
          have hpv := refPutVar_by HR.out.1.own.by' (by have := HL.out; omega) n (by omega) (by omega)
          go_upto_region 13 with fail
          refine wp_region_lit ?_
          refine wpList_runTo rfl (some 54) rfl (rv) wr (by kernel_rfl) ?_
          simp only [Act.put, List.setIfInBounds_toArray, List.set_cons_zero, List.set_cons_succ]
          refine wpList_runTo rfl (some 55) rfl (.slice (some ⟨g, 0, none⟩) 24 24) wr (by kernel_rfl) ?_
          simp only [Act.put, List.setIfInBounds_toArray, List.set_cons_zero, List.set_cons_succ]
          refine wpList_runTo rfl (some 56) rfl (.int .i64 (i : Int)) wr (by kernel_rfl) ?_
          simp only [Act.put, List.setIfInBounds_toArray, List.set_cons_zero, List.set_cons_succ]
          refine wpList_runTo rfl (some 57) rfl (.pointer (some ⟨g, i * 3, none⟩)) wr (by exact ixP_run (n := 24) (c := 24) (.tmp 55) (.tmp 56) rfl (by kernel_rfl) (by kernel_rfl) hi _) ?_
          simp only [Act.put, List.setIfInBounds_toArray, List.set_cons_zero, List.set_cons_succ]
          refine wpList_runTo rfl (some 58) rfl (.pointer (some ⟨g, i * 3 + 1, none⟩)) wr (by kernel_rfl) ?_
          simp only [Act.put, List.setIfInBounds_toArray, List.set_cons_zero, List.set_cons_succ]
          refine wpList_runTo rfl (some 59) rfl (.int .i64 n) wr (by exact ldN_run (.inl rfl) (.tmp 58) rfl (by kernel_rfl) hN) ?_
          simp only [Act.put, List.setIfInBounds_toArray, List.set_cons_zero, List.set_cons_succ]
          refine wpList_callW rfl (some 60) rfl 53 #[rv, .int .i64 n] (by kernel_rfl) hpv ?_
          clear hpv
          rintro e W3 ⟨v3, rfl, hx⟩
          refine ⟨_, rfl, ?_⟩
          simp only [Act.put, List.setIfInBounds_toArray, List.set_cons_zero, List.set_cons_succ]
          have HR4 : Hid (RW w W3 c g v3 (vlU c (i + 1)) ∧ Blk W3 w.heap.size 27 X) := by
            rw [HV2.out]
            exact ⟨HR.out.1.put hx.out, HR.out.2.2.2.below hx.out.bel HR.out.2.2.2.lt⟩
          clear hx HR hS hN
          refine wpList_runTo rfl (some 6) rfl (v3) W3 (by kernel_rfl) ?_
          simp only [Act.put, List.setIfInBounds_toArray, List.set_cons_zero, List.set_cons_succ]
          refine wpList_nil ?_
          go_wp2
          exact ⟨⟨i + 1, M2, 2 * Bt, v3, by omega, hMB, hB2, rfl, by go_num, rfl, by go_num, HR4.out.1, HM2.out.1.symm, HBt.out.1, HR4.out.2⟩, by simp [intOf]; omega⟩
    · obtain rfl : i = 24 := by omega
      have hk := (HR.out.2.2.2.cell 0).trans (show X[0]? = some (.int .i64 c.k) by rw [HX.out]; rfl)
      obtain ⟨k, hkk⟩ : ∃ k, k = c.k := ⟨_, rfl⟩
      have HK : Hid (k = c.k ∧ -9223372036854775808 ≤ k ∧ k ≤ 9223372036854775807) := ⟨hkk, by rw [hkk]; exact HOK.out.k0, by rw [hkk]; exact HOK.out.k1⟩
      rw [← hkk] at hk
      clear hkk
      have hp1 := refPutVar_by (By.nil wr) (by decide) k HK.out.2.1 HK.out.2.2
      go_upto_region 16 with fail
      rename_i K hK
      refine wp_region_lit ?_
      refine wpList_runTo rfl (some 63) rfl (.slice none 0 0) wr (by kernel_rfl) ?_
      simp only [Act.put, List.setIfInBounds_toArray, List.set_cons_zero, List.set_cons_succ]
      refine wpList_runTo rfl (some 64) rfl (.pointer (some ⟨w.heap.size, 0, none⟩)) wr (by kernel_rfl) ?_
      simp only [Act.put, List.setIfInBounds_toArray, List.set_cons_zero, List.set_cons_succ]
      refine wpList_runTo rfl (some 65) rfl (.int .i64 k) wr (by exact ldN_run (.inr rfl) (.tmp 64) rfl (by kernel_rfl) hk) ?_
      simp only [Act.put, List.setIfInBounds_toArray, List.set_cons_zero, List.set_cons_succ]
      refine wpList_callW rfl (some 66) rfl 53 #[.slice none 0 0, .int .i64 k] (by kernel_rfl) hp1 ?_
      clear hp1
      rintro e W5 ⟨v5, rfl, hx5⟩
      refine ⟨_, rfl, ?_⟩
      simp only [Act.put, List.setIfInBounds_toArray, List.set_cons_zero, List.set_cons_succ]
      refine wpList_runTo rfl (some 8) rfl (v5) W5 (by kernel_rfl) ?_
      simp only [Act.put, List.setIfInBounds_toArray, List.set_cons_zero, List.set_cons_succ]
      refine wpList_nil ?_
      refine hK _ _ ?_
      clear hK hk
      have hv1 := varL_length10 (foldN_lt HK.out.2.1 HK.out.2.2)
      have hp2 := refPutVar_by hx5.out.by' (by rw [List.nil_append]; omega) (M : Int) (by omega) (by omega)
      go_upto_region 17 with fail
      rename_i K hK
      refine wp_region_lit ?_
      refine wpList_runTo rfl (some 67) rfl (v5) W5 (by kernel_rfl) ?_
      simp only [Act.put, List.setIfInBounds_toArray, List.set_cons_zero, List.set_cons_succ]
      refine wpList_runTo rfl (some 68) rfl (.int .i64 (M : Int)) W5 (by kernel_rfl) ?_
      simp only [Act.put, List.setIfInBounds_toArray, List.set_cons_zero, List.set_cons_succ]
      refine wpList_callW rfl (some 69) rfl 53 #[v5, .int .i64 (M : Int)] (by kernel_rfl) hp2 ?_
      clear hp2
      rintro e W6 ⟨v6, rfl, hx6⟩
      refine ⟨_, rfl, ?_⟩
      simp only [Act.put, List.setIfInBounds_toArray, List.set_cons_zero, List.set_cons_succ]
      refine wpList_runTo rfl (some 8) rfl (v6) W6 (by kernel_rfl) ?_
      simp only [Act.put, List.setIfInBounds_toArray, List.set_cons_zero, List.set_cons_succ]
      refine wpList_nil ?_
      refine hK _ _ ?_
      clear hK
      have hv2 := varL_length10 (foldN_lt (n := (M : Int)) (by omega) (by omega))
      have hrow : RowB w W6 v6 ([] ++ varL (foldN k) ++ varL (foldN (M : Int))) := (hx6.out.since hx5.out.bel).rowB.since HR.out.1.own.bel
      obtain ⟨v7, W7, hr7, hrow7⟩ := hrow.app ((HR.out.1.own.by'.below hx5.out.bel).below hx6.out.bel) (by rw [List.length_append, List.length_append]; have := vlU_bd HAll.out (Nat.le_refl 24); simp only [List.length_nil]; omega) 28
      have HF : Hid (RowB w W7 v7 (encL c)) := by
        have e : encL c = [] ++ varL (foldN k) ++ varL (foldN (M : Int)) ++ vlU c 24 := by rw [HK.out.1, HR.out.2.1]; rfl
        rw [e]
        exact hrow7
      clear hrow hrow7 hx5 hx6 HR hv1 hv2
      go_upto_region 18 with fail
      rename_i K hK
      refine wp_region_lit ?_
      refine wpList_runTo rfl (some 70) rfl (v6) W6 (by kernel_rfl) ?_
      simp only [Act.put, List.setIfInBounds_toArray, List.set_cons_zero, List.set_cons_succ]
      refine wpList_runTo rfl (some 71) rfl (rv) W6 (by kernel_rfl) ?_
      simp only [Act.put, List.setIfInBounds_toArray, List.set_cons_zero, List.set_cons_succ]
      refine wpList_plain rfl fun K1 hK1 => ?_
      refine valR (d := some 72) rfl (w' := W7) v7 (exec_append (v1 := v6) (v2 := rv) (.tmp 70) (.tmp 71) rfl (by kernel_rfl) (by kernel_rfl) hr7) ?_
      refine hK1 _ _ ?_
      clear hK1 hr7
      simp only [Act.put, List.setIfInBounds_toArray, List.set_cons_zero, List.set_cons_succ]
      refine wpList_runTo rfl (some 2) rfl (v7) W7 (by kernel_rfl) ?_
      simp only [Act.put, List.setIfInBounds_toArray, List.set_cons_zero, List.set_cons_succ]
      refine wpList_nil ?_
      refine hK _ _ ?_
      clear hK
      go_wp2
      go_ret
      exact ⟨v7, rfl, HF⟩
end Go.Proofs.Ytjnnecoikcmaeaa

namespace Go.Proofs.Ytjnnecoikcmaeaa
set_option linter.unusedVariables false
set_option linter.unusedSimpArgs false
open Go.RowKit Go.Great

set_option maxRecDepth 100000 in
set_option maxHeartbeats 4000000 in
theorem refRecord_any {w : World} {v : Value} {l : List Nat} (h : By w v l) (hl : l.length ≤ 60000) (k : Nat) (hk : k < 1000000000) : Calls Try.prog 42 #[.int .i64 (k : Int), v] w fun e w' => ∃ v', e = .returned v' ∧ Hid (RowB w w' v' (recL k l)) := by
  have HL : Hid (l.length ≤ 60000) := hl
  obtain ⟨va, vc, hvf, _⟩ := h.form
  have HY : Hid (By w v l) := h
  have hp1 := refPut_by (By.nil w) (by decide) l.length 2 (by decide) (by omega)
  rw [List.nil_append] at hp1
  clear h
  subst hvf
  go_enter Try.func42, Try.ntmps42
  go_upto_region 2 with fail
  rename_i K hK
  refine wp_region_lit ?_
  refine wpList_runTo rfl (some 7) rfl (.slice none 0 0) w (by kernel_rfl) ?_
  simp only [Act.put, List.setIfInBounds_toArray, List.set_cons_zero, List.set_cons_succ]
  refine wpList_runTo rfl (some 8) rfl (.slice va l.length vc) w (by kernel_rfl) ?_
  simp only [Act.put, List.setIfInBounds_toArray, List.set_cons_zero, List.set_cons_succ]
  refine wpList_runTo rfl (some 9) rfl (.int .i64 (l.length : Int)) w (by kernel_rfl) ?_
  simp only [Act.put, List.setIfInBounds_toArray, List.set_cons_zero, List.set_cons_succ]
  refine wpList_runTo rfl (some 10) rfl (.int .u64 (l.length : Int)) w (by exact cvu_run (.tmp 9) rfl (by kernel_rfl) (by omega) _) ?_
  simp only [Act.put, List.setIfInBounds_toArray, List.set_cons_zero, List.set_cons_succ]
  refine wpList_callW rfl (some 11) rfl 54 #[.slice none 0 0, .int .u64 (l.length : Int), .int .i64 2] (by kernel_rfl) hp1 ?_
  clear hp1
  rintro e W1 ⟨v1, rfl, hx⟩
  refine ⟨_, rfl, ?_⟩
  simp only [Act.put, List.setIfInBounds_toArray, List.set_cons_zero, List.set_cons_succ]
  have HY1 : Hid (OwnB w W1 v1 (putTo l.length 2 2) ∧ By W1 (.slice va l.length vc) l) := ⟨hx.out, HY.out.below hx.out.bel⟩
  clear hx HY
  refine wpList_runTo rfl (some 5) rfl (v1) W1 (by kernel_rfl) ?_
  simp only [Act.put, List.setIfInBounds_toArray, List.set_cons_zero, List.set_cons_succ]
  refine wpList_nil ?_
  refine hK _ _ ?_
  clear hK
  have hA : (putTo l.length 2 2).length = 2 := putTo_length _ _ _
  obtain ⟨A, hAe⟩ : ∃ A, A = putTo l.length 2 2 := ⟨_, rfl⟩
  rw [← hAe] at HY1 hA
  have hnil : RowB W1 W1 (.slice none 0 0) [] := ⟨RowAt.none0 _ _ _, fun x hx => (by cases hx), Below.refl _ _, fun g hg => (by cases hg)⟩
  obtain ⟨v2, W2, hr2, hrow2⟩ := hnil.app HY1.out.1.by' (by simp only [List.length_nil]; omega) 28
  rw [List.nil_append] at hrow2
  clear hnil
  go_upto_region 4 with fail
  rename_i K hK
  refine wp_region_lit ?_
  refine wpList_runTo rfl (some 12) rfl (.slice none 0 0) W1 (by kernel_rfl) ?_
  simp only [Act.put, List.setIfInBounds_toArray, List.set_cons_zero, List.set_cons_succ]
  refine wpList_runTo rfl (some 13) rfl (v1) W1 (by kernel_rfl) ?_
  simp only [Act.put, List.setIfInBounds_toArray, List.set_cons_zero, List.set_cons_succ]
  refine wpList_plain rfl fun K1 hK1 => ?_
  refine valR (d := some 14) rfl (w' := W2) v2 (exec_append (v1 := .slice none 0 0) (v2 := v1) (.tmp 12) (.tmp 13) rfl (by kernel_rfl) (by kernel_rfl) hr2) ?_
  refine hK1 _ _ ?_
  clear hK1 hr2
  simp only [Act.put, List.setIfInBounds_toArray, List.set_cons_zero, List.set_cons_succ]
  refine wpList_runTo rfl (some 6) rfl (v2) W2 (by kernel_rfl) ?_
  simp only [Act.put, List.setIfInBounds_toArray, List.set_cons_zero, List.set_cons_succ]
  refine wpList_nil ?_
  refine hK _ _ ?_
  clear hK
  have HY2 : Hid (OwnB w W1 v1 A ∧ Below W1.heap.size W1 W2 ∧ By W2 v1 A ∧ By W2 (.slice va l.length vc) l ∧ By W2 v2 A) := ⟨HY1.out.1, hrow2.bel, HY1.out.1.by'.below hrow2.bel, HY1.out.2.below hrow2.bel, hrow2.by'⟩
  clear HY1 hrow2
  have hp3 := refPut_by HY2.out.2.2.2.2 (by omega) k 4 (by decide) (by omega)
  go_upto_region 5 with fail
  rename_i K hK
  refine wp_region_lit ?_
  refine wpList_runTo rfl (some 15) rfl (v2) W2 (by kernel_rfl) ?_
  simp only [Act.put, List.setIfInBounds_toArray, List.set_cons_zero, List.set_cons_succ]
  refine wpList_runTo rfl (some 16) rfl (.int .i64 (k : Int)) W2 (by kernel_rfl) ?_
  simp only [Act.put, List.setIfInBounds_toArray, List.set_cons_zero, List.set_cons_succ]
  refine wpList_runTo rfl (some 17) rfl (.int .u64 (k : Int)) W2 (by exact cvu_run (.tmp 16) rfl (by kernel_rfl) (by omega) _) ?_
  simp only [Act.put, List.setIfInBounds_toArray, List.set_cons_zero, List.set_cons_succ]
  refine wpList_callW rfl (some 18) rfl 54 #[v2, .int .u64 (k : Int), .int .i64 4] (by kernel_rfl) hp3 ?_
  clear hp3
  rintro e W3 ⟨v3, rfl, hx⟩
  refine ⟨_, rfl, ?_⟩
  simp only [Act.put, List.setIfInBounds_toArray, List.set_cons_zero, List.set_cons_succ]
  have HY3 : Hid (Below w.heap.size w W2 ∧ RowB W2 W3 v3 (A ++ putTo k 4 4) ∧ By W2 v1 A ∧ By W2 (.slice va l.length vc) l) := ⟨below_step HY2.out.1.bel HY2.out.2.1, hx.out.rowB, HY2.out.2.2.1, HY2.out.2.2.2.1⟩
  clear hx HY2
  refine wpList_runTo rfl (some 6) rfl (v3) W3 (by kernel_rfl) ?_
  simp only [Act.put, List.setIfInBounds_toArray, List.set_cons_zero, List.set_cons_succ]
  refine wpList_nil ?_
  refine hK _ _ ?_
  clear hK
  obtain ⟨v4, W4, hr4, hrow4⟩ := HY3.out.2.1.app (HY3.out.2.2.2.below HY3.out.2.1.bel) (by rw [List.length_append, hA, putTo_length]; omega) 28
  go_upto_region 6 with fail
  rename_i K hK
  refine wp_region_lit ?_
  refine wpList_runTo rfl (some 19) rfl (v3) W3 (by kernel_rfl) ?_
  simp only [Act.put, List.setIfInBounds_toArray, List.set_cons_zero, List.set_cons_succ]
  refine wpList_runTo rfl (some 20) rfl (.slice va l.length vc) W3 (by kernel_rfl) ?_
  simp only [Act.put, List.setIfInBounds_toArray, List.set_cons_zero, List.set_cons_succ]
  refine wpList_plain rfl fun K1 hK1 => ?_
  refine valR (d := some 21) rfl (w' := W4) v4 (exec_append (v1 := v3) (v2 := .slice va l.length vc) (.tmp 19) (.tmp 20) rfl (by kernel_rfl) (by kernel_rfl) hr4) ?_
  refine hK1 _ _ ?_
  clear hK1 hr4
  simp only [Act.put, List.setIfInBounds_toArray, List.set_cons_zero, List.set_cons_succ]
  refine wpList_runTo rfl (some 6) rfl (v4) W4 (by kernel_rfl) ?_
  simp only [Act.put, List.setIfInBounds_toArray, List.set_cons_zero, List.set_cons_succ]
  refine wpList_nil ?_
  refine hK _ _ ?_
  clear hK
  have HY4 : Hid (Below w.heap.size w W4 ∧ By W4 v4 (A ++ putTo k 4 4 ++ l) ∧ By W4 v1 A ∧ By W4 (.slice va l.length vc) l) := ⟨below_step HY3.out.1 hrow4.bel, hrow4.by', HY3.out.2.2.1.below hrow4.bel, HY3.out.2.2.2.below hrow4.bel⟩
  clear HY3 hrow4
  have hcr := refCrc_by HY4.out.2.1 (by rw [List.length_append, List.length_append, hA, putTo_length]; omega)
  have hclt := crcN_lt HY4.out.2.1.bb
  obtain ⟨C, hC⟩ : ∃ C, C = crcN (A ++ putTo k 4 4 ++ l) := ⟨_, rfl⟩
  rw [← hC] at hcr hclt
  have hp5 := refPut_by HY4.out.2.2.1 (by omega) C 4 (by decide) (by omega)
  go_upto_region 7 with fail
  rename_i K hK
  refine wp_region_lit ?_
  refine wpList_runTo rfl (some 22) rfl (v1) W4 (by kernel_rfl) ?_
  simp only [Act.put, List.setIfInBounds_toArray, List.set_cons_zero, List.set_cons_succ]
  refine wpList_runTo rfl (some 23) rfl (v4) W4 (by kernel_rfl) ?_
  simp only [Act.put, List.setIfInBounds_toArray, List.set_cons_zero, List.set_cons_succ]
  refine wpList_callW rfl (some 24) rfl 55 #[v4] (by kernel_rfl) hcr ?_
  clear hcr
  rintro e w5 ⟨rfl, ew⟩
  replace ew := ew.symm
  subst ew
  refine ⟨_, rfl, ?_⟩
  simp only [Act.put, List.setIfInBounds_toArray, List.set_cons_zero, List.set_cons_succ]
  refine wpList_runTo rfl (some 25) rfl (.int .u64 (C : Int)) W4 (by exact cv3_run (.tmp 24) rfl (by kernel_rfl) hclt _) ?_
  simp only [Act.put, List.setIfInBounds_toArray, List.set_cons_zero, List.set_cons_succ]
  refine wpList_callW rfl (some 26) rfl 54 #[v1, .int .u64 (C : Int), .int .i64 4] (by kernel_rfl) hp5 ?_
  clear hp5
  rintro e W5 ⟨v5, rfl, hx⟩
  refine ⟨_, rfl, ?_⟩
  simp only [Act.put, List.setIfInBounds_toArray, List.set_cons_zero, List.set_cons_succ]
  have HY5 : Hid (Below w.heap.size w W4 ∧ RowB W4 W5 v5 (A ++ putTo C 4 4) ∧ By W5 (.slice va l.length vc) l) := ⟨HY4.out.1, hx.out.rowB, HY4.out.2.2.2.below hx.out.bel⟩
  clear hx HY4
  refine wpList_runTo rfl (some 5) rfl (v5) W5 (by kernel_rfl) ?_
  simp only [Act.put, List.setIfInBounds_toArray, List.set_cons_zero, List.set_cons_succ]
  refine wpList_nil ?_
  refine hK _ _ ?_
  clear hK
  obtain ⟨v6, W6, hr6, hrow6⟩ := HY5.out.2.1.app HY5.out.2.2 (by rw [List.length_append, hA, putTo_length]; omega) 28
  have HF : Hid (RowB w W6 v6 (recL k l)) := by
    have e : recL k l = A ++ putTo C 4 4 ++ l := by rw [hC, hAe]; rfl
    rw [e]
    exact hrow6.since HY5.out.1
  clear hrow6 HY5 hC hAe
  go_upto_region 8 with fail
  rename_i K hK
  refine wp_region_lit ?_
  refine wpList_runTo rfl (some 27) rfl (v5) W5 (by kernel_rfl) ?_
  simp only [Act.put, List.setIfInBounds_toArray, List.set_cons_zero, List.set_cons_succ]
  refine wpList_runTo rfl (some 28) rfl (.slice va l.length vc) W5 (by kernel_rfl) ?_
  simp only [Act.put, List.setIfInBounds_toArray, List.set_cons_zero, List.set_cons_succ]
  refine wpList_plain rfl fun K1 hK1 => ?_
  refine valR (d := some 29) rfl (w' := W6) v6 (exec_append (v1 := v5) (v2 := .slice va l.length vc) (.tmp 27) (.tmp 28) rfl (by kernel_rfl) (by kernel_rfl) hr6) ?_
  refine hK1 _ _ ?_
  clear hK1 hr6
  simp only [Act.put, List.setIfInBounds_toArray, List.set_cons_zero, List.set_cons_succ]
  refine wpList_runTo rfl (some 4) rfl (v6) W6 (by kernel_rfl) ?_
  simp only [Act.put, List.setIfInBounds_toArray, List.set_cons_zero, List.set_cons_succ]
  refine wpList_nil ?_
  refine hK _ _ ?_
  clear hK
  go_wp2
  go_ret
  exact ⟨v6, rfl, HF⟩
set_option maxRecDepth 100000 in
set_option maxHeartbeats 1000000 in
/-- The reference's Encode. -/
theorem refEncode_any (c : Cm) (hc : c.ok) (w : World) : Calls Try.prog 22 #[.agg c.cs] w fun e w' => ∃ v, e = .returned (.tuple #[v, .int .i64 (encE c)]) ∧ Hid (Below w.heap.size w w' ∧ (encE c = 0 → RowB w w' v (encL c)) ∧ (encE c ≠ 0 → v = .slice none 0 0)) := by
  obtain ⟨X, hX⟩ : ∃ X, X = c.cs := ⟨_, rfl⟩
  have HX : Hid (X = c.cs) := hX
  have HB0 : Hid (Below w.heap.size w (w.alloc (.cells X 27)) ∧ Blk (w.alloc (.cells X 27)) w.heap.size 27 X) := ⟨(Below.refl _ w).alloc (Nat.le_refl _) _, Blk.new _ _ _⟩
  have HM : Hid (∀ W, Calls Try.prog 40 #[.agg X] W fun e w' => e = .returned (.int .i64 (encE c)) ∧ Hid (Below W.heap.size W w')) := fun W => by rw [hX]; exact May_any c hc W
  have HR : Hid (encE c = 0 → ∀ W, Calls Try.prog 41 #[.agg X] W fun e w' => ∃ v, e = .returned v ∧ Hid (RowB W w' v (encL c))) := fun h W => by rw [hX]; exact Raw_any c hc h W
  rw [← hX]
  clear hX hc
  go_enter Try.func22, Try.ntmps22
  go_upto_region 1 with fail
  rename_i K hK
  generalize w.alloc (.cells X 27) = W0 at *
  have hm := HM.out W0
  refine wp_region_lit ?_
  refine wpList_load_row rfl 27 (.tmp 1) rfl w.heap.size (by kernel_rfl) 27 X (0, 0) _ HB0.out.2 Try.underlying27 rfl (by rw [HX.out, Cm.cs_size]; exact info27) ?_
  simp only [Act.put, List.setIfInBounds_toArray, List.set_cons_zero, List.set_cons_succ]
  refine wpList_callW rfl (some 6) rfl 40 #[.agg X] (by kernel_rfl) hm ?_
  clear hm
  rintro e W1 ⟨rfl, hx⟩
  refine ⟨_, rfl, ?_⟩
  simp only [Act.put, List.setIfInBounds_toArray, List.set_cons_zero, List.set_cons_succ]
  have HB1 : Hid (Below w.heap.size w W1 ∧ Blk W1 w.heap.size 27 X) := ⟨below_step HB0.out.1 hx.out, HB0.out.2.below hx.out HB0.out.2.lt⟩
  clear hx HB0
  obtain ⟨E, hE⟩ : ∃ E, E = encE c := ⟨_, rfl⟩
  have HE : Hid (E = encE c) := hE
  rw [← hE]
  clear hE
  refine wpList_runTo rfl (some 4) rfl (.int .i64 E) W1 (by kernel_rfl) ?_
  simp only [Act.put, List.setIfInBounds_toArray, List.set_cons_zero, List.set_cons_succ]
  refine wpList_nil ?_
  refine hK _ _ ?_
  clear hK
  by_cases h0 : E = 0
  · have hr := HR.out (by rw [← HE.out]; exact h0) W1
    have HE0 : Hid (encE c = 0) := by
      show encE c = 0
      rw [← HE.out]; exact h0
    subst h0
    go_upto_region 4 with fail
    rename_i K hK
    refine wp_region_lit ?_
    refine wpList_load_row rfl 27 (.tmp 1) rfl w.heap.size (by kernel_rfl) 27 X (0, 0) _ HB1.out.2 Try.underlying27 rfl (by rw [HX.out, Cm.cs_size]; exact info27) ?_
    simp only [Act.put, List.setIfInBounds_toArray, List.set_cons_zero, List.set_cons_succ]
    refine wpList_callW rfl (some 11) rfl 41 #[.agg X] (by kernel_rfl) hr ?_
    clear hr
    rintro e W2 ⟨v, rfl, hx⟩
    refine ⟨_, rfl, ?_⟩
    simp only [Act.put, List.setIfInBounds_toArray, List.set_cons_zero, List.set_cons_succ]
    have HF : Hid (RowB w W2 v (encL c)) := hx.out.since HB1.out.1
    clear hx HB1
    refine wpList_runTo rfl (some 2) rfl (v) W2 (by kernel_rfl) ?_
    simp only [Act.put, List.setIfInBounds_toArray, List.set_cons_zero, List.set_cons_succ]
    refine wpList_runTo rfl (some 3) rfl (.int .i64 0) W2 (by kernel_rfl) ?_
    simp only [Act.put, List.setIfInBounds_toArray, List.set_cons_zero, List.set_cons_succ]
    refine wpList_nil ?_
    refine hK _ _ ?_
    clear hK
    go_wp2
    go_ret2
    exact ⟨v, by rw [HE0.out]; rfl, HF.out.bel, fun _ => HF.out, fun h => absurd HE0.out h⟩
  · have hb1 : (E == 0) = false := by simpa using h0
    have hb2 : (E != 0) = true := by simpa using h0
    have HF : Hid (Below w.heap.size w W1 ∧ encE c ≠ 0) := ⟨HB1.out.1, by rw [← HE.out]; exact h0⟩
    clear HB1 h0
    go_wp2
    go_ret2
    exact ⟨.slice none 0 0, by rw [← HE.out]; rfl, HF.out.1, fun h => absurd h HF.out.2, fun _ => rfl⟩
end Go.Proofs.Ytjnnecoikcmaeaa

namespace Go.Proofs.Ytjnnecoikcmaeaa
set_option linter.unusedVariables false
set_option linter.unusedSimpArgs false
open Go.RowKit Go.Great

theorem blk_rng {w : World} {g : Nat} {T : TypeId} {c : Cm} (h : Blk w g T c.cs) : w.rangeAt g 0 c.cs.toList := fun j v hv => by rw [Nat.zero_add, h.cell, ← Array.getElem?_toList]; exact hv
def csL (L : List Cm) : Nat → Cm := fun j => L.getD j zeroC
theorem csL_get {L : List Cm} {j : Nat} {c : Cm} (h : L[j]? = some c) : csL L j = c := by
  unfold csL
  rw [List.getD_eq_getElem?_getD, h]; rfl
/-- The reference's tape. -/
structure RtAt (w : World) (g : Nat) (lv : Value) (L : List Cm) : Prop where
  blk : Blk w g 89 #[lv]
  row : RowAt w 27 25 lv L.length (flatL cmC L)
  ok : ∀ c ∈ L, encE c = 0 ∧ c.ok
def rtOwn (g : Nat) (lv : Value) (b : Nat) : Prop := b = g ∨ lv.ownBlock = some b
section
variable {w w' : World} {g : Nat} {lv : Value} {L : List Cm}
theorem RtAt.fr {ex : Nat → Prop} (h : RtAt w g lv L) (hf : Fr w w' ex) (hn : ∀ b, rtOwn g lv b → ¬ ex b) : RtAt w' g lv L := ⟨h.blk.fr hf (hn _ (.inl rfl)), h.row.fr hf fun q hq => hn q (.inr hq), h.ok⟩
theorem RtAt.below (h : RtAt w g lv L) (hb : Below w.heap.size w w') : RtAt w' g lv L := h.fr (Fr.of_below hb (fun _ => False)) fun _ _ => id
theorem RtAt.ltO (h : RtAt w g lv L) {b : Nat} (hb : rtOwn g lv b) : b < w.heap.size := by
  rcases hb with e | e
  · rw [e]; exact h.blk.lt
  · exact (h.row.lt e).1
theorem RtAt.get (h : RtAt w g lv L) {j : Nat} {c : Cm} (hj : L[j]? = some c) : encE c = 0 ∧ c.ok := h.ok c (List.mem_of_getElem? hj)
end
set_option maxRecDepth 100000 in
theorem refNew_any (w : World) : Calls Try.prog 20 #[] w fun e w' => ∃ g, e = .returned (.pointer (some ⟨g, 0, none⟩)) ∧ Hid (RtAt w' g (.slice none 0 0) [] ∧ Below w.heap.size w w' ∧ w.heap.size ≤ g) := by
  have HF : Hid (RtAt (w.alloc (.cells #[.slice none 0 0] 89)) w.heap.size (.slice none 0 0) [] ∧ Below w.heap.size w (w.alloc (.cells #[.slice none 0 0] 89)) ∧ w.heap.size ≤ w.heap.size) := ⟨⟨Blk.new _ _ _, RowAt.none0 _ _ _, fun c hc => (by cases hc)⟩, (Below.refl _ w).alloc (Nat.le_refl _) _, Nat.le_refl _⟩
  go_enter Try.func20, Try.ntmps20
  go_wp2
  go_ret
  exact ⟨_, rfl, HF⟩
theorem refLen_any {w : World} {g : Nat} {lv : Value} {L : List Cm} (h : RtAt w g lv L) (hl : L.length ≤ 9223372036854775807) : Calls Try.prog 23 #[.pointer (some ⟨g, 0, none⟩)] w fun e w' => e = .returned (.int .i64 (L.length : Int)) ∧ w' = w := by
  obtain ⟨ea, ec, he, _⟩ := h.row.form
  have c1 : w.cell? ⟨g, 0, none⟩ = some lv := h.blk.cell 0
  rw [he] at c1
  clear h he
  generalize L.length = n at *
  go_enter Try.func23, Try.ntmps23
  go_wp2
  go_ret
  exact ⟨rfl, rfl⟩
/-- One command more. -/
theorem RtAt.app {w : World} {g : Nat} {lv : Value} {L : List Cm} (h : RtAt w g lv L) (hl : L.length ≤ 1000000) {c : Cm} {zb : Nat} (hc : w.rangeAt zb 0 c.cs.toList) (ty : TypeId) : ∃ v' w', (Builtin.append_ #[38, 38] ty #[lv, .slice (some ⟨zb, 0, none⟩) 1 1]).run Try.prog w = .ok v' w' ∧ RowAt w' 27 25 v' (L ++ [c]).length (flatL cmC (L ++ [c])) ∧ Fr w w' (fun b => lv.ownBlock = some b) ∧ (v'.ownBlock = lv.ownBlock ∨ v'.ownBlock = some w.heap.size) := by
  obtain ⟨i0, hi, hz0, hz1, hz2⟩ := info_parts infoC
  have hmx : 100000000000 ≤ maxLen := by decide
  obtain ⟨v', W', k1, k2, k3, k4⟩ := run_append_row (P := Try.prog) w 38 ty 27 i0 _ 25 240 Try.underlying38 hi hz0 hz1 hz2 (by rw [Value.cells]; exact zeroC.cs_size) lv L.length _ h.row ⟨zb, 0, none⟩ 1 1 (cmC c) (by rw [cmC_len]) (fun j x hj => by
    rw [Addr.add_mid]
    exact hc j x hj) (cmC_one _) (.inl (by decide)) (by omega) (by omega)
  refine ⟨v', W', k1, ?_, k3, ?_⟩
  · rw [List.length_append, flatL_app, flatL_one]; exact k2
  · rcases k4 with k4 | ⟨k4, _⟩
    · exact .inl k4
    · exact .inr k4
/-- What the reference's Append leaves. -/
def RApR (w : World) (g : Nat) (lv : Value) (L : List Cm) (c : Cm) (e : Ending) (w' : World) : Prop :=
  (encE c ≠ 0 ∧ e = .returned (.int .i64 (encE c)) ∧ Hid (Below w.heap.size w w')) ∨
  (encE c = 0 ∧ e = .returned (.int .i64 0) ∧ Hid (∃ lv', RtAt w' g lv' (L ++ [c]) ∧ Fr w w' (rtOwn g lv) ∧ ∀ b, rtOwn g lv' b → rtOwn g lv b ∨ w.heap.size ≤ b))
set_option maxRecDepth 100000 in
set_option maxHeartbeats 4000000 in
theorem refAppend_any {w : World} {g : Nat} {lv : Value} {L : List Cm} (h : RtAt w g lv L) (c : Cm) (hc : c.ok) (hl : L.length < 1000000) : Calls Try.prog 21 #[.pointer (some ⟨g, 0, none⟩), .agg c.cs] w fun e w' => RApR w g lv L c e w' := by
  obtain ⟨X, hX⟩ : ∃ X, X = c.cs := ⟨_, rfl⟩
  have HX : Hid (X = c.cs) := hX
  have hb0 : Below w.heap.size w (w.alloc (.cells X 27)) := (Below.refl _ w).alloc (Nat.le_refl _) _
  have HB0 : Hid (Below w.heap.size w (w.alloc (.cells X 27)) ∧ Blk (w.alloc (.cells X 27)) w.heap.size 27 X ∧ RtAt (w.alloc (.cells X 27)) g lv L) := ⟨hb0, Blk.new _ _ _, h.below hb0⟩
  have HM : Hid (∀ W, Calls Try.prog 40 #[.agg X] W fun e w' => e = .returned (.int .i64 (encE c)) ∧ Hid (Below W.heap.size W w')) := fun W => by rw [hX]; exact May_any c hc W
  have HOK : Hid (c.ok ∧ L.length < 1000000) := ⟨hc, hl⟩
  rw [← hX]
  clear hX hc hb0
  obtain ⟨lva, lvc, hlf, _⟩ := h.row.form
  have HT : Hid (RtAt w g lv L) := h
  clear h
  go_enter Try.func21, Try.ntmps21
  go_upto_region 1 with fail
  rename_i K hK
  generalize w.alloc (.cells X 27) = W0 at *
  have hm := HM.out W0
  refine wp_region_lit ?_
  refine wpList_load_row rfl 27 (.tmp 3) rfl w.heap.size (by kernel_rfl) 27 X (0, 0) _ HB0.out.2.1 Try.underlying27 rfl (by rw [HX.out, Cm.cs_size]; exact info27) ?_
  simp only [Act.put, List.setIfInBounds_toArray, List.set_cons_zero, List.set_cons_succ]
  refine wpList_callW rfl (some 7) rfl 40 #[.agg X] (by kernel_rfl) hm ?_
  clear hm
  rintro e W1 ⟨rfl, hx⟩
  refine ⟨_, rfl, ?_⟩
  simp only [Act.put, List.setIfInBounds_toArray, List.set_cons_zero, List.set_cons_succ]
  have HB1 : Hid (Below w.heap.size w W1 ∧ Blk W1 w.heap.size 27 X ∧ RtAt W1 g lv L) := ⟨below_step HB0.out.1 hx.out, HB0.out.2.1.below hx.out HB0.out.2.1.lt, HB0.out.2.2.below hx.out⟩
  clear hx HB0
  obtain ⟨E, hE⟩ : ∃ E, E = encE c := ⟨_, rfl⟩
  have HE : Hid (E = encE c) := hE
  rw [← hE]
  clear hE
  refine wpList_runTo rfl (some 5) rfl (.int .i64 E) W1 (by kernel_rfl) ?_
  simp only [Act.put, List.setIfInBounds_toArray, List.set_cons_zero, List.set_cons_succ]
  refine wpList_nil ?_
  refine hK _ _ ?_
  clear hK
  by_cases h0 : E = 0
  · have HE0 : Hid (encE c = 0) := by
      show encE c = 0
      rw [← HE.out]; exact h0
    subst h0
    go_upto_region 4 with fail
    rename_i K hK
    have c1 : W1.cell? ⟨g, 0, none⟩ = some (.slice lva L.length lvc) := by rw [← hlf]; exact HB1.out.2.2.blk.cell 0
    refine wp_region_lit ?_
    refine wpList_runTo rfl (some 13) rfl (.pointer (some ⟨g, 0, none⟩)) W1 (by kernel_rfl) ?_
    simp only [Act.put, List.setIfInBounds_toArray, List.set_cons_zero, List.set_cons_succ]
    refine wpList_runTo rfl (some 14) rfl (.pointer (some ⟨g, 0, none⟩)) W1 (by kernel_rfl) ?_
    simp only [Act.put, List.setIfInBounds_toArray, List.set_cons_zero, List.set_cons_succ]
    refine wpList_runTo rfl (some 15) rfl (.pointer (some ⟨g, 0, none⟩)) W1 (by kernel_rfl) ?_
    simp only [Act.put, List.setIfInBounds_toArray, List.set_cons_zero, List.set_cons_succ]
    refine wpList_runTo rfl (some 16) rfl (.slice lva L.length lvc) W1 (by go_simp) ?_
    simp only [Act.put, List.setIfInBounds_toArray, List.set_cons_zero, List.set_cons_succ]
    refine wpList_runTo rfl (some 17) rfl (.int .i64 (L.length : Int)) W1 (by kernel_rfl) ?_
    simp only [Act.put, List.setIfInBounds_toArray, List.set_cons_zero, List.set_cons_succ]
    refine wpList_runTo rfl (some 18) rfl (.bool false) W1 (by exact geqM_run (.tmp 17) (.const (.int .i64 1000000)) rfl (by kernel_rfl) rfl HOK.out.2 _) ?_
    simp only [Act.put, List.setIfInBounds_toArray, List.set_cons_zero, List.set_cons_succ]
    refine wpList_runTo rfl (some 12) rfl (.bool false) W1 (by kernel_rfl) ?_
    simp only [Act.put, List.setIfInBounds_toArray, List.set_cons_zero, List.set_cons_succ]
    refine wpList_nil ?_
    refine hK _ _ ?_
    clear hK c1
    generalize L.length = n0
    go_upto_region 6 with fail
    rename_i K hK
    have hbd : Below W1.heap.size W1 W1.drew := ⟨rfl, rfl, rfl, Nat.le_refl _, fun _ _ => rfl⟩
    have HZ : Hid (Below w.heap.size w W1.drew ∧ Blk W1.drew w.heap.size 27 c.cs ∧ RtAt W1.drew g lv L) := ⟨below_step HB1.out.1 hbd, by have := HB1.out.2.1.below hbd HB1.out.2.1.lt; rw [HX.out] at this; exact this, HB1.out.2.2.below hbd⟩
    clear hbd HB1
    refine wp_region_late (fun w' => w'.cell? ⟨g, 0, none⟩ = some lv ∧ Blk w' w.heap.size 27 c.cs) 10 (by kernel_rfl) ?_
    intro hCl
    generalize W1.drew = Z at *
    change wpAnyL _ _ _ _ _ _ 11 _ _ _
    have hS : Z.cell? ⟨g, 0, none⟩ = some lv ∧ Blk Z w.heap.size 27 c.cs := ⟨HZ.out.2.2.blk.cell 0, HZ.out.2.1⟩
    refine takeL (i := 0) (v := .pointer (some ⟨g, 0, none⟩)) 10 (some 19) rfl rfl (by kernel_rfl) (by kernel_rfl) (by kernel_rfl) (by kernel_rfl) hCl (fun _ _ _ h => h) (Or.inl ⟨by kernel_rfl, fun w' hSw => by kernel_rfl⟩) hS ?_
    clear hCl
    intro hCl
    simp only [Act.put, List.setIfInBounds_toArray, List.set_cons_zero, List.set_cons_succ]
    refine takeL (i := 1) (v := .pointer (some ⟨g, 0, none⟩)) 10 (some 20) rfl rfl (by kernel_rfl) (by kernel_rfl) (by kernel_rfl) (by kernel_rfl) hCl (fun _ _ _ h => h) (Or.inl ⟨by kernel_rfl, fun w' hSw => by kernel_rfl⟩) hS ?_
    clear hCl
    intro hCl
    simp only [Act.put, List.setIfInBounds_toArray, List.set_cons_zero, List.set_cons_succ]
    refine takeL (i := 2) (v := .pointer (some ⟨g, 0, none⟩)) 10 (some 21) rfl rfl (by kernel_rfl) (by kernel_rfl) (by kernel_rfl) (by kernel_rfl) hCl (fun _ _ _ h => h) (Or.inl ⟨by kernel_rfl, fun w' hSw => by kernel_rfl⟩) hS ?_
    clear hCl
    intro hCl
    simp only [Act.put, List.setIfInBounds_toArray, List.set_cons_zero, List.set_cons_succ]
    refine takeL (i := 3) (v := .pointer (some ⟨g, 0, none⟩)) 10 (some 22) rfl rfl (by kernel_rfl) (by kernel_rfl) (by kernel_rfl) (by kernel_rfl) hCl (fun _ _ _ h => h) (Or.inl ⟨by kernel_rfl, fun w' hSw => by kernel_rfl⟩) hS ?_
    clear hCl
    intro hCl
    simp only [Act.put, List.setIfInBounds_toArray, List.set_cons_zero, List.set_cons_succ]
    refine takeL (i := 4) (v := lv) 10 (some 23) rfl rfl (by kernel_rfl) (by kernel_rfl) (by kernel_rfl) (by kernel_rfl) hCl (fun _ _ _ h => h) (Or.inl ⟨by kernel_rfl, fun w' hSw => by have q0 := hSw.1; clear hSw; rw [hlf] at q0 ⊢; go_simp⟩) hS ?_
    clear hCl
    intro hCl
    simp only [Act.put, List.setIfInBounds_toArray, List.set_cons_zero, List.set_cons_succ]
    refine takeL (i := 5) (v := .agg c.cs) 10 (some 24) rfl rfl (by kernel_rfl) (by kernel_rfl) (by kernel_rfl) (by kernel_rfl) hCl (fun _ _ _ h => h) (Or.inl ⟨by kernel_rfl, fun w' hSw => by exact ldC_run (blk_rng hSw.2) (.tmp 3) rfl (by kernel_rfl)⟩) hS ?_
    clear hCl
    intro hCl
    simp only [Act.put, List.setIfInBounds_toArray, List.set_cons_zero, List.set_cons_succ]
    refine oneL (i := 6) rfl (by kernel_rfl) hCl (by kernel_rfl) (fun K1 hK1 => ?_)
    refine valR (d := some 25) rfl (w' := Z.alloc (.cells c.cs 27)) (.slice (some ⟨Z.heap.size, 0, none⟩) 1 1) (by kernel_rfl) ?_
    have hal : Below Z.heap.size Z (Z.alloc (.cells c.cs 27)) := (Below.refl _ Z).alloc (Nat.le_refl _) _
    have HZ2 : Hid (Below w.heap.size w (Z.alloc (.cells c.cs 27)) ∧ Blk (Z.alloc (.cells c.cs 27)) w.heap.size 27 c.cs ∧ RtAt (Z.alloc (.cells c.cs 27)) g lv L ∧ (Z.alloc (.cells c.cs 27)).rangeAt Z.heap.size 0 c.cs.toList) := ⟨below_step HZ.out.1 hal, HZ.out.2.1.below hal HZ.out.2.1.lt, HZ.out.2.2.below hal, blk_rng (Blk.new Z 27 c.cs)⟩
    refine hK1.out _ _ (fun _ => ⟨HZ2.out.2.2.1.blk.cell 0, HZ2.out.2.1⟩) ?_
    clear hK1 hCl hS HZ hal
    intro hCl
    simp only [Act.put, List.setIfInBounds_toArray, List.set_cons_zero, List.set_cons_succ]
    generalize Z.alloc (.cells c.cs 27) = Z2 at *
    generalize Z.heap.size = zb at *
    obtain ⟨nv, Y2, hr, hrow, hfr, hob⟩ := HZ2.out.2.2.1.app (by have := HOK.out.2; omega) HZ2.out.2.2.2 38
    have hgb : lv.ownBlock ≠ some g := HZ2.out.2.2.1.row.ne_type HZ2.out.2.2.1.blk (by decide)
    have hnb : lv.ownBlock ≠ some w.heap.size := fun e => by
      have := HT.out.row.lt e
      omega
    have HBk : Hid (Blk Y2 g 89 #[lv] ∧ Blk Y2 w.heap.size 27 c.cs) := ⟨HZ2.out.2.2.1.blk.fr hfr hgb, HZ2.out.2.1.fr hfr hnb⟩
    have hS2 : Y2.cell? ⟨g, 0, none⟩ = some lv ∧ Blk Y2 w.heap.size 27 c.cs := ⟨HBk.out.1.cell 0, HBk.out.2⟩
    have hF2 : Y2.frozen? ⟨g, 0, none⟩ = false := HBk.out.1.frozen 0
    obtain ⟨na, nc, hnf, _⟩ := hrow.form
    refine oneL (i := 7) rfl (by kernel_rfl) hCl (by kernel_rfl) (fun K1 hK1 => ?_)
    refine valR (d := some 26) rfl (w' := Y2) nv (exec_append (v1 := lv) (v2 := .slice (some ⟨zb, 0, none⟩) 1 1) (.tmp 23) (.tmp 25) rfl (by kernel_rfl) (by kernel_rfl) hr) ?_
    refine hK1.out _ _ (fun _ => hS2) ?_
    clear hK1 hCl hr
    intro hCl
    simp only [Act.put, List.setIfInBounds_toArray, List.set_cons_zero, List.set_cons_succ]
    refine takeL (i := 8) (v := .pointer (some ⟨g, 0, none⟩)) 10 (some 27) rfl rfl (by kernel_rfl) (by kernel_rfl) (by kernel_rfl) (by kernel_rfl) hCl (fun _ _ _ h => h) (Or.inl ⟨by kernel_rfl, fun w' hSw => by kernel_rfl⟩) hS2 ?_
    clear hCl
    intro hCl
    simp only [Act.put, List.setIfInBounds_toArray, List.set_cons_zero, List.set_cons_succ]
    refine takeL (i := 9) (v := .pointer (some ⟨g, 0, none⟩)) 10 (some 28) rfl rfl (by kernel_rfl) (by kernel_rfl) (by kernel_rfl) (by kernel_rfl) hCl (fun _ _ _ h => h) (Or.inl ⟨by kernel_rfl, fun w' hSw => by kernel_rfl⟩) hS2 ?_
    clear hCl
    intro hCl
    simp only [Act.put, List.setIfInBounds_toArray, List.set_cons_zero, List.set_cons_succ]
    refine oneL (i := 10) rfl (by kernel_rfl) hCl (by kernel_rfl) (fun K1 hK1 => ?_)
    refine skipR (d := none) rfl (w' := Y2.setCell ⟨g, 0, none⟩ nv) (by have q1 := hS2.1; clear hS2; rw [hlf] at q1; subst hnf; go_simp) ?_
    refine hK1.out _ _ (fun h => absurd rfl h) ?_
    clear hK1 hCl
    intro hCl
    simp only [Act.put, List.setIfInBounds_toArray, List.set_cons_zero, List.set_cons_succ]
    refine doneL (by kernel_rfl) ?_
    clear hCl
    refine hK _ _ ?_
    clear hK hS2 hF2
    have HF : Hid (encE c = 0 ∧ RtAt (Y2.setCell ⟨g, 0, none⟩ nv) g nv (L ++ [c]) ∧ Fr w (Y2.setCell ⟨g, 0, none⟩ nv) (rtOwn g lv) ∧ ∀ b, rtOwn g nv b → rtOwn g lv b ∨ w.heap.size ≤ b) := by
      have hnew : nv.ownBlock ≠ some g := hrow.ne_type HBk.out.1 (by decide)
      have hsz : w.heap.size ≤ Z2.heap.size := HZ2.out.1.size
      refine ⟨HE0.out, ⟨HBk.out.1.set 0 nv, hrow.fr (Fr.setCell _ _ _ (fun b => b = g) rfl) fun q hq e => hnew (e ▸ hq), fun d hd => ?_⟩, ?_, fun b hb => ?_⟩
      · rcases List.mem_append.1 hd with h | h
        · exact HZ2.out.2.2.1.ok d h
        · rw [List.mem_singleton.1 h]; exact ⟨HE0.out, HOK.out.1⟩
      · have f1 : Fr w Y2 (rtOwn g lv) := (Fr.of_below HZ2.out.1 (rtOwn g lv)).trans hfr fun i _ q => by
          rcases q with q | q
          · exact q
          · exact .inr q
        exact f1.trans (Fr.setCell Y2 ⟨g, 0, none⟩ nv (fun b => b = g) rfl) fun i _ q => by
          rcases q with q | q
          · exact q
          · exact .inl q
      · rcases hb with e | e
        · exact .inl (.inl e)
        · rcases hob with o | o
          · exact .inl (.inr (o ▸ e))
          · rw [o] at e
            injection e with e
            exact .inr (by omega)
    clear hrow hfr hob HBk HZ2 hgb hnb hnf
    generalize Y2.setCell ⟨g, 0, none⟩ nv = Y3 at *
    go_wp2
    go_ret
    exact .inr ⟨HF.out.1, rfl, nv, HF.out.2⟩
  · have hb1 : (E == 0) = false := by simpa using h0
    have hb2 : (E != 0) = true := by simpa using h0
    have HF : Hid (encE c ≠ 0 ∧ Below w.heap.size w W1) := ⟨by rw [← HE.out]; exact h0, HB1.out.1⟩
    clear HB1 h0
    go_wp2
    go_ret
    exact .inl ⟨HF.out.1, by rw [← HE.out]; rfl, HF.out.2⟩
set_option maxRecDepth 100000 in
set_option maxHeartbeats 2000000 in
/-- A command that there is. -/
theorem refCommand_yes {w : World} {g : Nat} {lv : Value} {L : List Cm} (h : RtAt w g lv L) (hl : L.length ≤ 1000000) {i : Nat} {c : Cm} (hi : L[i]? = some c) : Calls Try.prog 26 #[.pointer (some ⟨g, 0, none⟩), .int .i64 (i : Int)] w fun e w' => e = .returned (.tuple #[.agg c.cs, .int .i64 0]) ∧ Hid (Below w.heap.size w w') := by
  have hlt := (List.getElem?_eq_some_iff.1 hi).1
  obtain ⟨ga, oa, ca, cur, hlf, _⟩ := h.row.more (by omega)
  obtain ⟨W0, hW0⟩ : ∃ W0, W0 = w.alloc (.cells zeroC.cs 27) := ⟨_, rfl⟩
  have hb0 : Below w.heap.size w W0 := by rw [hW0]; exact (Below.refl _ w).alloc (Nat.le_refl _) _
  have hk0 : Blk W0 w.heap.size 27 zeroC.cs := by rw [hW0]; exact Blk.new _ _ _
  have hrg : W0.rangeAt ga (oa + i * 25) c.cs.toList := row_cmd (h.below hb0).row hlf hi
  have c1 : W0.cell? ⟨g, 0, none⟩ = some (.slice (some ⟨ga, oa, none⟩) L.length ca) := by rw [← hlf]; exact (h.below hb0).blk.cell 0
  have HB0 : Hid (Below w.heap.size w W0 ∧ Blk W0 w.heap.size 27 zeroC.cs) := ⟨hb0, hk0⟩
  have h0 : ¬ (i : Int) < 0 := by omega
  clear hb0 hk0 h hi hlf
  generalize L.length = n at *
  go_enter Try.func26, Try.ntmps26
  go_upto_region 0 with fail
  rename_i K hK
  refine wp_region_lit ?_
  refine wpList_runTo rfl (some 4) rfl (.pointer (some ⟨w.heap.size, 0, none⟩)) (w.alloc (.cells zeroC.cs 27)) (by kernel_rfl) ?_
  simp only [Act.put, List.setIfInBounds_toArray, List.set_cons_zero, List.set_cons_succ]
  rw [← hW0]
  clear hW0
  refine wpList_runTo rfl (some 5) rfl (.int .i64 0) W0 (by kernel_rfl) ?_
  simp only [Act.put, List.setIfInBounds_toArray, List.set_cons_zero, List.set_cons_succ]
  refine wpList_nil ?_
  refine hK _ _ ?_
  clear hK
  go_upto_region 1 with fail
  rename_i K hK
  refine wp_region_lit ?_
  refine wpList_runTo rfl (some 6) rfl (.int .i64 (i : Int)) W0 (by kernel_rfl) ?_
  simp only [Act.put, List.setIfInBounds_toArray, List.set_cons_zero, List.set_cons_succ]
  refine wpList_runTo rfl (some 7) rfl (.bool false) W0 (by go_simp) ?_
  simp only [Act.put, List.setIfInBounds_toArray, List.set_cons_zero, List.set_cons_succ]
  refine wpList_runTo rfl (some 8) rfl (.bool false) W0 (by kernel_rfl) ?_
  simp only [Act.put, List.setIfInBounds_toArray, List.set_cons_zero, List.set_cons_succ]
  refine wpList_runToG (by kernel_rfl) (some 9) rfl (.int .i64 (i : Int)) W0 (by kernel_rfl) ?_
  simp only [Act.put, List.setIfInBounds_toArray, List.set_cons_zero, List.set_cons_succ]
  refine wpList_runToG (by kernel_rfl) (some 10) rfl (.pointer (some ⟨g, 0, none⟩)) W0 (by kernel_rfl) ?_
  simp only [Act.put, List.setIfInBounds_toArray, List.set_cons_zero, List.set_cons_succ]
  refine wpList_runToG (by kernel_rfl) (some 11) rfl (.pointer (some ⟨g, 0, none⟩)) W0 (by kernel_rfl) ?_
  simp only [Act.put, List.setIfInBounds_toArray, List.set_cons_zero, List.set_cons_succ]
  refine wpList_runToG (by kernel_rfl) (some 12) rfl (.pointer (some ⟨g, 0, none⟩)) W0 (by kernel_rfl) ?_
  simp only [Act.put, List.setIfInBounds_toArray, List.set_cons_zero, List.set_cons_succ]
  refine wpList_runToG (by kernel_rfl) (some 13) rfl (.slice (some ⟨ga, oa, none⟩) n ca) W0 (by go_simp) ?_
  simp only [Act.put, List.setIfInBounds_toArray, List.set_cons_zero, List.set_cons_succ]
  refine wpList_runToG (by kernel_rfl) (some 14) rfl (.int .i64 (n : Int)) W0 (by kernel_rfl) ?_
  simp only [Act.put, List.setIfInBounds_toArray, List.set_cons_zero, List.set_cons_succ]
  refine wpList_runToG (by kernel_rfl) (some 15) rfl (.bool false) W0 (by exact geN_run (.tmp 9) (.tmp 14) rfl (by kernel_rfl) (by kernel_rfl) hlt _) ?_
  simp only [Act.put, List.setIfInBounds_toArray, List.set_cons_zero, List.set_cons_succ]
  refine wpList_runTo rfl (some 16) rfl (.bool false) W0 (by kernel_rfl) ?_
  simp only [Act.put, List.setIfInBounds_toArray, List.set_cons_zero, List.set_cons_succ]
  refine wpList_nil ?_
  refine hK _ _ ?_
  clear hK
  go_upto_region 3 with fail
  rename_i K hK
  refine wp_region_lit ?_
  refine wpList_runTo rfl (some 18) rfl (.pointer (some ⟨g, 0, none⟩)) W0 (by kernel_rfl) ?_
  simp only [Act.put, List.setIfInBounds_toArray, List.set_cons_zero, List.set_cons_succ]
  refine wpList_runTo rfl (some 19) rfl (.pointer (some ⟨g, 0, none⟩)) W0 (by kernel_rfl) ?_
  simp only [Act.put, List.setIfInBounds_toArray, List.set_cons_zero, List.set_cons_succ]
  refine wpList_runTo rfl (some 20) rfl (.pointer (some ⟨g, 0, none⟩)) W0 (by kernel_rfl) ?_
  simp only [Act.put, List.setIfInBounds_toArray, List.set_cons_zero, List.set_cons_succ]
  refine wpList_runTo rfl (some 21) rfl (.slice (some ⟨ga, oa, none⟩) n ca) W0 (by go_simp) ?_
  simp only [Act.put, List.setIfInBounds_toArray, List.set_cons_zero, List.set_cons_succ]
  refine wpList_runTo rfl (some 22) rfl (.int .i64 (i : Int)) W0 (by kernel_rfl) ?_
  simp only [Act.put, List.setIfInBounds_toArray, List.set_cons_zero, List.set_cons_succ]
  refine wpList_runTo rfl (some 23) rfl (.pointer (some ⟨ga, oa + i * 25, none⟩)) W0 (by exact ixC_run (c := ca) (.tmp 21) (.tmp 22) rfl (by kernel_rfl) (by kernel_rfl) hlt _) ?_
  simp only [Act.put, List.setIfInBounds_toArray, List.set_cons_zero, List.set_cons_succ]
  refine wpList_runTo rfl (some 24) rfl (.agg c.cs) W0 (by exact ldC_run hrg (.tmp 23) rfl (by kernel_rfl)) ?_
  simp only [Act.put, List.setIfInBounds_toArray, List.set_cons_zero, List.set_cons_succ]
  refine store_cmd (c := c) HB0.out.2 (.tmp 4) (.tmp 24) rfl rfl (by kernel_rfl) (by kernel_rfl) ?_
  simp only [Act.put, List.setIfInBounds_toArray, List.set_cons_zero, List.set_cons_succ]
  refine wpList_runTo rfl (some 5) rfl (.int .i64 0) (W0.setRow w.heap.size c.cs) (by kernel_rfl) ?_
  simp only [Act.put, List.setIfInBounds_toArray, List.set_cons_zero, List.set_cons_succ]
  refine wpList_nil ?_
  refine hK _ _ ?_
  apply wp_ret
  try simp only [Exit.then]
  refine bodyPost_ret (results_cr2 (fn := Try.f26) (p := 4) (u := 5) (ty := 27) rfl _ _ w.heap.size 27 c.cs (0, 0) _ (by kernel_rfl) HB0.out.2.row Try.underlying27 rfl (by rw [Cm.cs_size]; exact info27)) (by kernel_rfl) ?_
  exact ⟨rfl, below_setRow HB0.out.1 (Nat.le_refl _) _⟩
end Go.Proofs.Ytjnnecoikcmaeaa
