/-
  ledger: a booking is added to lines.
-/
import Derived.Test.YtidhahooebepfaaJKey
import Derived.Laws.StructEq
namespace Go.Proofs.Ytidhahooebepfaa
set_option linter.unusedVariables false
set_option linter.unusedSimpArgs false
open Go.RowKit Go.Great Go.Maps

theorem zeroA (w : World) : (zeroValue 73).run Try.prog w = .ok (.agg Am.zero.cs) w := by kernel_rfl
theorem zeroT (w : World) : (zeroValue 77).run Try.prog w = .ok (.agg #[.int .i64 0, .int .i64 0]) w := by kernel_rfl
def i64R (x : Int) : Prop := -9223372036854775808 ≤ x ∧ x ≤ 9223372036854775807
theorem lnAdd_nil {L : List Bk} {b : Bk} (h : ((amt L b.ac b.sy).add b.am).nil) : lnAdd L b = but L b.ac b.sy := if_pos h
theorem lnAdd_more {L : List Bk} {b : Bk} (h : ¬ ((amt L b.ac b.sy).add b.am).nil) : lnAdd L b = mkB b.ac b.sy ((amt L b.ac b.sy).add b.am) :: but L b.ac b.sy := if_neg h
theorem ldA_run {op : Oper} {a : Act} {w : World} {g o : Nat} {cs : Array Value} (h : w.rangeAt g o cs.toList) (hs : cs.size = 3) (x : Operand) (ho : op.op = .load 73 x) (hx : a.eval x = .pointer (some ⟨g, o, none⟩)) : (execOp a.eval op).run Try.prog w = .ok (.value (.agg cs)) w := by
  have hl := run_loadVar_mid (P := Try.prog) w g o 73 cs.toList _ h Try.underlying73 rfl (by rw [Array.length_toList, hs]; kernel_rfl)
  unfold execOp
  simp only [ho, hx, Instr.loadAt, Instr.sureAddr, Sem.run_bind, Sem.run_pure, Result.andThen_ok, hl]
theorem ldP_run {op : Oper} {a : Act} {w : World} {g o : Nat} {cs : Array Value} (h : w.rangeAt g o cs.toList) (hs : cs.size = 2) (x : Operand) (ho : op.op = .load 75 x) (hx : a.eval x = .pointer (some ⟨g, o, none⟩)) : (execOp a.eval op).run Try.prog w = .ok (.value (.agg cs)) w := by
  have hl := run_loadVar_mid (P := Try.prog) w g o 75 cs.toList _ h Try.underlying75 rfl (by rw [Array.length_toList, hs]; kernel_rfl)
  unfold execOp
  simp only [ho, hx, Instr.loadAt, Instr.sureAddr, Sem.run_bind, Sem.run_pure, Result.andThen_ok, hl]
theorem ldT_run {op : Oper} {a : Act} {w : World} {g o : Nat} {cs : Array Value} (h : w.rangeAt g o cs.toList) (hs : cs.size = 2) (x : Operand) (ho : op.op = .load 77 x) (hx : a.eval x = .pointer (some ⟨g, o, none⟩)) : (execOp a.eval op).run Try.prog w = .ok (.value (.agg cs)) w := by
  have hl := run_loadVar_mid (P := Try.prog) w g o 77 cs.toList _ h Try.underlying77 rfl (by rw [Array.length_toList, hs]; kernel_rfl)
  unfold execOp
  simp only [ho, hx, Instr.loadAt, Instr.sureAddr, Sem.run_bind, Sem.run_pure, Result.andThen_ok, hl]
theorem ldK_run {op : Oper} {a : Act} {w : World} {g o : Nat} {cs : Array Value} (h : w.rangeAt g o cs.toList) (hs : cs.size = 5) (x : Operand) (ho : op.op = .load 42 x) (hx : a.eval x = .pointer (some ⟨g, o, none⟩)) : (execOp a.eval op).run Try.prog w = .ok (.value (.agg cs)) w := by
  have hl := run_loadVar_mid (P := Try.prog) w g o 42 cs.toList _ h Try.underlying42 rfl (by rw [Array.length_toList, hs]; kernel_rfl)
  unfold execOp
  simp only [ho, hx, Instr.loadAt, Instr.sureAddr, Sem.run_bind, Sem.run_pure, Result.andThen_ok, hl]
theorem ldR_run {op : Oper} {a : Act} {w : World} {g o : Nat} {cs : Array Value} (h : w.rangeAt g o cs.toList) (hs : cs.size = 7) (x : Operand) (ho : op.op = .load 69 x) (hx : a.eval x = .pointer (some ⟨g, o, none⟩)) : (execOp a.eval op).run Try.prog w = .ok (.value (.agg cs)) w := by
  have hl := run_loadVar_mid (P := Try.prog) w g o 69 cs.toList _ h Try.underlying69 rfl (by rw [Array.length_toList, hs]; kernel_rfl)
  unfold execOp
  simp only [ho, hx, Instr.loadAt, Instr.sureAddr, Sem.run_bind, Sem.run_pure, Result.andThen_ok, hl]
theorem Blk.range {w : World} {g : Nat} {T : TypeId} {cs : Array Value} (h : Blk w g T cs) : w.rangeAt g 0 cs.toList := fun j v hv => by rw [Nat.zero_add, h.cell, ← Array.getElem?_toList]; exact hv
theorem eqA_run {op : Oper} {a : Act} {x y z : Int} (p q : Operand) (ho : op.op = .binOp .eql 73 p q 73) (hp : a.eval p = .agg #[.int .i64 x, .int .i64 y, .int .i64 z]) (hq : a.eval q = .agg #[.int .i64 0, .int .i64 0, .int .i64 0]) (h : ¬ (x = 0 ∧ y = 0 ∧ z = 0)) (w : World) : (execOp a.eval op).run Try.prog w = .ok (.value (.bool false)) w := by
  unfold execOp
  simp only [ho, hp, hq]
  by_cases hx : x = 0
  · subst hx
    by_cases hy : y = 0
    · subst hy
      have hz : ¬ z = 0 := fun e => h ⟨rfl, rfl, e⟩
      clear h
      go_simp
    · clear h
      go_simp
  · clear h
    go_simp
theorem eqT_run {op : Oper} {a : Act} {x y : Int} (p q : Operand) (ho : op.op = .binOp .eql 77 p q 77) (hp : a.eval p = .agg #[.int .i64 x, .int .i64 y]) (hq : a.eval q = .agg #[.int .i64 0, .int .i64 0]) (h : ¬ (x = 0 ∧ y = 0)) (w : World) : (execOp a.eval op).run Try.prog w = .ok (.value (.bool false)) w := by
  unfold execOp
  simp only [ho, hp, hq]
  by_cases hx : x = 0
  · subst hx
    have hy : ¬ y = 0 := fun e => h ⟨rfl, e⟩
    clear h
    go_simp
  · clear h
    go_simp
set_option maxRecDepth 100000 in
set_option maxHeartbeats 1000000 in
theorem lnadd_any (L : List Bk) (b : Bk) (mb : Nat) (w : World) (h : MapL Try.prog w 75 mb (L.map Bk.ent)) (hL : SzL L) (hb : b.sz) (hl : L.length < maxLen)
    (r1 : i64R ((amt L b.ac b.sy).q + b.q)) (r2 : i64R ((amt L b.ac b.sy).c + b.c)) (r3 : i64R ((amt L b.ac b.sy).f + b.f)) :
    Calls Try.prog 54 #[.map (some mb), .agg b.cs] w fun e w' => e = .returned (.tuple #[]) ∧ MapL Try.prog w' 75 mb ((lnAdd L b).map Bk.ent) ∧ Fr w w' (fun x => x = mb) := by
  have hkey := keyP b.ac b.sy hb.1 hb.2
  have hlk : ∀ o1 o2, (Instr.lookup 63 (.map (some mb)) (.agg #[.string b.ac, .string b.sy]) false).run Try.prog ((w.alloc o1).alloc o2) = .ok (.agg (amt L b.ac b.sy).cs) ((w.alloc o1).alloc o2) := fun o1 o2 => by
    rw [(((h.alloc o1).alloc o2).look lawP Try.underlying63 (zeroA _) hkey).2, atL_amt hL hb.1 hb.2]
  have HM : Hid (MapL Try.prog w 75 mb (L.map Bk.ent) ∧ (L.map Bk.ent).length < maxLen) := ⟨h, by rw [List.length_map]; exact hl⟩
  have HB : Hid (butL (L.map Bk.ent) (plK b.ac b.sy) = (but L b.ac b.sy).map Bk.ent) := butL_but hL hb.1 hb.2
  have HN : Hid (((amt L b.ac b.sy).add b.am).nil → lnAdd L b = but L b.ac b.sy) := lnAdd_nil
  have HP : Hid (¬ ((amt L b.ac b.sy).add b.am).nil → lnAdd L b = mkB b.ac b.sy ((amt L b.ac b.sy).add b.am) :: but L b.ac b.sy) := lnAdd_more
  have HLt : Hid (mb < w.heap.size) := h.lt
  clear h hL hb hl
  generalize amt L b.ac b.sy = s at *
  obtain ⟨q0, c0, f0⟩ := s
  obtain ⟨ac, sy, q, c, f⟩ := b
  simp only [Am.cs, Am.add, Bk.am, Am.nil, i64R] at *
  unfold Bk.cs
  simp only
  go_enter Try.func54, Try.ntmps54
  go_upto_region 6 with fail
  have HM3 : Hid (MapL Try.prog (((w.alloc (.cells #[.string ac, .string sy, .int .i64 q, .int .i64 c, .int .i64 f] 42)).alloc (.cells #[.string ac, .string sy] 75)).alloc (.cells #[.int .i64 (q0 + q), .int .i64 (c0 + c), .int .i64 (f0 + f)] 73)) 75 mb (L.map Bk.ent)) := ((HM.out.1.alloc _).alloc _).alloc _
  have HF3 : Hid (Fr w (((w.alloc (.cells #[.string ac, .string sy, .int .i64 q, .int .i64 c, .int .i64 f] 42)).alloc (.cells #[.string ac, .string sy] 75)).alloc (.cells #[.int .i64 (q0 + q), .int .i64 (c0 + c), .int .i64 (f0 + f)] 73)) (fun x => x = mb)) := ((Fr.alloc w _ _).trans (Fr.alloc _ _ (fun x => x = mb)) (fun _ _ h => by rcases h with h | h <;> exact h)).trans (Fr.alloc _ _ (fun x => x = mb)) (fun _ _ h => by rcases h with h | h <;> exact h)
  clear hlk r1 r2 r3
  generalize q0 + q = x at *
  generalize c0 + c = y at *
  generalize f0 + f = z at *
  by_cases hn : x = 0 ∧ y = 0 ∧ z = 0
  · have HE : Hid (lnAdd L { ac := ac, sy := sy, q := q, c := c, f := f } = but L ac sy) := HN.out hn
    obtain ⟨rfl, rfl, rfl⟩ := hn
    clear HN HP
    go_wp2_with (at_delete; refine wpL_delete _ rfl _ _ 63 75 rfl 73 lawP Try.underlying63 mb (L.map Bk.ent) rfl HM3.out _ (plK ac sy) rfl hkey ?_; intro w2 hm2 hf2 hs2)
    refine ⟨by rfl, .tuple #[], results_none (by rfl) _ _ _, rfl, ?_, HF3.out.trans hf2 (fun _ _ h => by rcases h with h | h <;> exact h)⟩
    rw [HB.out, ← HE.out] at hm2
    exact hm2
  · have HE : Hid (lnAdd L { ac := ac, sy := sy, q := q, c := c, f := f } = mkB ac sy { q := x, c := y, f := z } :: but L ac sy) := HP.out hn
    clear HN HP
    generalize hW : ((w.alloc (.cells #[.string ac, .string sy, .int .i64 q, .int .i64 c, .int .i64 f] 42)).alloc (.cells #[.string ac, .string sy] 75)).alloc (.cells #[.int .i64 x, .int .i64 y, .int .i64 z] 73) = W3 at *
    have hld : Blk W3 (w.heap.size + 1 + 1) 73 #[.int .i64 x, .int .i64 y, .int .i64 z] := by
      rw [← hW]
      exact Blk.new' _ _ _ (by simp)
    have hpl : Blk W3 (w.heap.size + 1) 75 #[.string ac, .string sy] := by
      rw [← hW]
      exact (Blk.new' _ _ _ (by simp)).alloc _
    clear hW
    rename_i K1 hK1
    refine wp_region_lit ?_
    refine wpList_runTo rfl (some 32) rfl (.agg #[.int .i64 x, .int .i64 y, .int .i64 z]) W3 (by exact ldA_run hld.range rfl (.tmp 5) rfl (by kernel_rfl)) ?_
    simp only [Act.put, List.setIfInBounds_toArray, List.set_cons_zero, List.set_cons_succ]
    refine wpList_runTo rfl (some 33) rfl (.agg #[.int .i64 0, .int .i64 0, .int .i64 0]) W3 (by kernel_rfl) ?_
    simp only [Act.put, List.setIfInBounds_toArray, List.set_cons_zero, List.set_cons_succ]
    refine wpList_runTo rfl (some 34) rfl (.bool false) W3 (by exact eqA_run (.tmp 32) (.tmp 33) rfl (by kernel_rfl) (by kernel_rfl) hn W3) ?_
    simp only [Act.put, List.setIfInBounds_toArray, List.set_cons_zero, List.set_cons_succ]
    refine wpList_nil ?_
    refine hK1 _ _ ?_
    go_upto_region 8 with fail
    refine wp_region_lit ?_
    refine wpList_runTo rfl (some 37) rfl (.map (some mb)) W3 (by kernel_rfl) ?_
    simp only [Act.put, List.setIfInBounds_toArray, List.set_cons_zero, List.set_cons_succ]
    refine wpList_runTo rfl (some 38) rfl (.agg #[.string ac, .string sy]) W3 (by exact ldP_run hpl.range rfl (.tmp 4) rfl (by kernel_rfl)) ?_
    simp only [Act.put, List.setIfInBounds_toArray, List.set_cons_zero, List.set_cons_succ]
    refine wpList_runTo rfl (some 39) rfl (.agg #[.int .i64 x, .int .i64 y, .int .i64 z]) W3 (by exact ldA_run hld.range rfl (.tmp 5) rfl (by kernel_rfl)) ?_
    simp only [Act.put, List.setIfInBounds_toArray, List.set_cons_zero, List.set_cons_succ]
    refine wpL_update _ rfl (.tmp 37) (.tmp 38) (.tmp 39) 63 rfl 75 73 lawP Try.underlying63 mb (L.map Bk.ent) (by kernel_rfl) HM3.out HM.out.2 (.agg #[.string ac, .string sy]) (.agg #[.int .i64 x, .int .i64 y, .int .i64 z]) (plK ac sy) (by kernel_rfl) (by kernel_rfl) hkey ?_
    intro w2 hm2 hf2 hs2
    refine wpList_nil ?_
    refine ⟨by rfl, .tuple #[], results_none (by rfl) _ _ _, rfl, ?_, HF3.out.trans hf2 (fun _ _ h => by rcases h with h | h <;> exact h)⟩
    rw [HB.out] at hm2
    rw [HE.out]
    exact hm2
end Go.Proofs.Ytidhahooebepfaa
