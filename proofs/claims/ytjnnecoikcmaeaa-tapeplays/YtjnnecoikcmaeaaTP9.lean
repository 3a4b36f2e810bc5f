/-
  tape: Decode.
-/
import Derived.Test.YtjnnecoikcmaeaaTP8
namespace Go.Proofs.Ytjnnecoikcmaeaa
set_option linter.unusedVariables false
set_option linter.unusedSimpArgs false
open Go.RowKit Go.Great

theorem results_cr2 {P : Program} {fn : Func} {p u : Tmp} {ty : TypeId} (h : fn.results = #[.cell p ty, .tmp u]) (tmps : Array Value) (w : World) (g : Nat) (t : TypeId) (cs : Array Value) (fr : Nat × Nat) (d : TypeDesc)
    (hp : tmps.getD p undef = .pointer (some ⟨g, 0, none⟩)) (hg : w.heap[g]? = some (.cells cs t fr))
    (hu : P.underlying ty = some d) (hd : (match d with | .struct _ | .array _ _ => true | _ => false) = true) (hi : (P.info? ty).map (·.size) = some cs.size) :
    (results fn tmps).run P w = .ok (.tuple #[.agg cs, tmps.getD u undef]) w := by
  rw [results_cell_tmp h, hp]
  simp [asAddr, run_loadVar_row w g t ty cs fr d hg hu hd hi, Result.andThen]
/-- What Decode answers, in memory. -/
def DecR (w : World) (x : Except Nat Cm) (e : Ending) (w' : World) : Prop := match x with
  | .error p => ∃ g, e = .returned (.tuple #[.agg zeroC.cs, .iface 54 (.pointer (some ⟨g, 0, none⟩))]) ∧ Hid (Below w.heap.size w w' ∧ w.heap.size ≤ g ∧ Blk w' g 57 #[.int .i64 (p : Int), .int .i64 180])
  | .ok c => e = .returned (.tuple #[.agg c.cs, .nilIface]) ∧ Hid (Below w.heap.size w w')
theorem Cm.cs_size (c : Cm) : c.cs.size = 25 := rfl
theorem Cm.cs_one (c : Cm) : c.cs.all (·.oneCell') = true := by rw [← Array.all_toList]; rfl
theorem info27 : (Try.prog.info? 27).map (·.size) = some 25 := by kernel_rfl
theorem load_cmd {w : World} {g : Nat} {c : Cm} {ops : Array Oper} {rest : List Oper} {o : Oper} {a : Act} {Q : Exit → Act → World → Prop} (hb : Blk w g 27 c.cs) (x : Operand) (hgd : o.guard = none) (ho : o.op = .load 27 x) (hx : a.eval x = .pointer (some ⟨g, 0, none⟩)) (h : wpList Try.prog ops Q rest (a.put o.dst (.agg c.cs)) w) : wpList Try.prog ops Q (o :: rest) a w :=
  wpList_load_row hgd 27 x ho g hx 27 _ (0, 0) _ hb Try.underlying27 rfl (by rw [Cm.cs_size]; exact info27) h
theorem store_cmd {w : World} {g : Nat} {c c' : Cm} {ops : Array Oper} {rest : List Oper} {o : Oper} {a : Act} {Q : Exit → Act → World → Prop} (hb : Blk w g 27 c'.cs) (x y : Operand) (hgd : o.guard = none) (ho : o.op = .store 27 x y) (hx : a.eval x = .pointer (some ⟨g, 0, none⟩)) (hy : a.eval y = .agg c.cs) (h : wpList Try.prog ops Q rest (a.put o.dst undef) (w.setRow g c.cs)) : wpList Try.prog ops Q (o :: rest) a w :=
  wpList_store_row hgd 27 x y ho g c.cs hx hy 27 _ hb (by rw [Cm.cs_size]; exact info27) (by rw [Cm.cs_size, Cm.cs_size]) (Cm.cs_one c) h
theorem Blk.row {w : World} {g : Nat} {T : TypeId} {cs cs' : Array Value} (b : Blk w g T cs) : Blk (w.setRow g cs') g T cs' := setRow_heap _ _ _ _ _ _ b
theorem Blk.other {w : World} {g h : Nat} {T : TypeId} {cs cs' : Array Value} (b : Blk w g T cs) (hne : g ≠ h) : Blk (w.setRow h cs') g T cs := (setRow_other _ _ _ _ hne).trans b
set_option maxRecDepth 100000 in
set_option maxHeartbeats 4000000 in
theorem Decode_any {w : World} {v : Value} {l : List Nat} (h : By w v l) (hl : l.length ≤ 9223372036854775807) :
    Calls Try.prog 10 #[v] w fun e w' => DecR w (dec l) e w' := by
  obtain ⟨W0, hW0⟩ : ∃ W0, W0 = (w.alloc (.cells zeroC.cs 27)).alloc (.cells zeroC.cs 27) := ⟨_, rfl⟩
  have hsz : (w.alloc (.cells zeroC.cs 27)).heap.size = w.heap.size + 1 := by simp
  have HB0 : Hid (Below w.heap.size w W0 ∧ Blk W0 w.heap.size 27 zeroC.cs ∧ Blk W0 (w.heap.size + 1) 27 zeroC.cs ∧ By W0 v l) := by
    have b1 : Below w.heap.size w (w.alloc (.cells zeroC.cs 27)) := (Below.refl _ w).alloc (Nat.le_refl _) _
    have b2 : Below (w.alloc (.cells zeroC.cs 27)).heap.size (w.alloc (.cells zeroC.cs 27)) W0 := by rw [hW0]; exact (Below.refl _ _).alloc (Nat.le_refl _) _
    refine ⟨below_step b1 b2, (Blk.new w _ _).below b2 (by rw [hsz]; omega), ?_, (h.below b1).below b2⟩
    rw [hW0, ← hsz]
    exact Blk.new _ _ _
  have hrc := readCommand_any HB0.out.2.2.1 HB0.out.2.2.2 hl (by
    by_cases e : l = []
    · exact .inl e
    · refine .inr fun q hq e2 => ?_
      rcases h.lt hq with h1 | h1
      · exact e h1
      · omega)
  obtain ⟨va, vc, hvf, _⟩ := h.form
  have HL : Hid (l.length ≤ 9223372036854775807) := hl
  have hln : (l.length : Int) ≤ 9223372036854775807 := by omega
  have hsz2 : w.heap.size + 1 < W0.heap.size := HB0.out.2.2.1.lt
  clear h hl
  obtain ⟨X, hX⟩ : ∃ X, X = dec l := ⟨_, rfl⟩
  rw [← hX]
  unfold dec at hX
  subst hvf
  go_enter Try.func10, Try.ntmps10
  go_upto_region 0 with fail
  rename_i K0 hK0
  refine wp_region_lit ?_
  refine wpList_runTo rfl (some 2) rfl (.pointer (some ⟨w.heap.size, 0, none⟩)) (w.alloc (.cells zeroC.cs 27)) (by kernel_rfl) ?_
  simp only [Act.put, List.setIfInBounds_toArray, List.set_cons_zero, List.set_cons_succ]
  refine wpList_runTo rfl (some 3) rfl (.nilIface) (w.alloc (.cells zeroC.cs 27)) (by kernel_rfl) ?_
  simp only [Act.put, List.setIfInBounds_toArray, List.set_cons_zero, List.set_cons_succ]
  refine wpList_nil ?_
  refine hK0 _ _ ?_
  clear hK0
  generalize hWa : w.alloc (.cells zeroC.cs 27) = Wa at *
  clear hWa
  go_upto_region 1 with fail
  rename_i K1 hK1
  refine wp_region_lit ?_
  refine wpList_runTo rfl (some 4) rfl (.pointer (some ⟨Wa.heap.size, 0, none⟩)) (Wa.alloc (.cells zeroC.cs 27)) (by kernel_rfl) ?_
  simp only [Act.put, List.setIfInBounds_toArray, List.set_cons_zero, List.set_cons_succ]
  refine wpList_nil ?_
  refine hK1 _ _ ?_
  clear hK1
  rw [← hW0, hsz]
  clear hW0 hsz
  go_upto_region 2 with fail
  rename_i K2 hK2
  refine wp_region_lit ?_
  refine wpList_runTo rfl (some 8) rfl (.slice va l.length vc) W0 (by kernel_rfl) ?_
  simp only [Act.put, List.setIfInBounds_toArray, List.set_cons_zero, List.set_cons_succ]
  refine wpList_callW rfl (some 9) rfl 31 #[.slice va l.length vc, .pointer (some ⟨w.heap.size + 1, 0, none⟩)] (by kernel_rfl) hrc ?_
  clear hrc
  intro e W1 hx
  cases hq : rdC l with
  | error p =>
    rw [hq] at hx hX
    obtain ⟨rfl, hx2⟩ := hx
    simp only at hX
    subst hX
    have HB1 : Hid (Below w.heap.size w W1 ∧ Blk W1 w.heap.size 27 zeroC.cs) := ⟨⟨hx2.out.os.trans HB0.out.1.os, hx2.out.tape.trans HB0.out.1.tape, hx2.out.output.trans HB0.out.1.output, Nat.le_trans HB0.out.1.size hx2.out.size, fun q hq => (hx2.out.block q (by have := HB0.out.1.size; omega) (fun e => by omega)).trans (HB0.out.1.block q hq)⟩, HB0.out.2.1.fr hx2.out (fun e => by omega)⟩
    refine ⟨_, rfl, ?_⟩
    clear hx2 HB0 hq
    simp only [Act.put, List.setIfInBounds_toArray, List.set_cons_zero, List.set_cons_succ]
    refine wpList_runTo rfl (some 7) rfl (.tuple #[.int .i64 (p : Int), .bool false]) W1 (by kernel_rfl) ?_
    simp only [Act.put, List.setIfInBounds_toArray, List.set_cons_zero, List.set_cons_succ]
    refine wpList_runTo rfl (some 10) rfl (.int .i64 (p : Int)) W1 (by kernel_rfl) ?_
    simp only [Act.put, List.setIfInBounds_toArray, List.set_cons_zero, List.set_cons_succ]
    refine wpList_runTo rfl (some 11) rfl (.bool false) W1 (by kernel_rfl) ?_
    simp only [Act.put, List.setIfInBounds_toArray, List.set_cons_zero, List.set_cons_succ]
    refine wpList_runTo rfl (some 5) rfl (.int .i64 (p : Int)) W1 (by kernel_rfl) ?_
    simp only [Act.put, List.setIfInBounds_toArray, List.set_cons_zero, List.set_cons_succ]
    refine wpList_runTo rfl (some 6) rfl (.bool false) W1 (by kernel_rfl) ?_
    simp only [Act.put, List.setIfInBounds_toArray, List.set_cons_zero, List.set_cons_succ]
    refine wpList_nil ?_
    refine hK2 _ _ ?_
    clear hK2
    go_upto_region 4 with fail
    rename_i K4 hK4
    refine wp_region_lit ?_
    refine wpList_runTo rfl (some 20) rfl (.agg zeroC.cs) W1 (by kernel_rfl) ?_
    simp only [Act.put, List.setIfInBounds_toArray, List.set_cons_zero, List.set_cons_succ]
    refine wpList_runTo rfl (some 21) rfl (.int .i64 (p : Int)) W1 (by kernel_rfl) ?_
    simp only [Act.put, List.setIfInBounds_toArray, List.set_cons_zero, List.set_cons_succ]
    refine wpList_runTo rfl (some 22) rfl (.agg #[.int .i64 (p : Int), .int .i64 180]) W1 (by kernel_rfl) ?_
    simp only [Act.put, List.setIfInBounds_toArray, List.set_cons_zero, List.set_cons_succ]
    refine wpList_runTo rfl (some 23) rfl (.pointer (some ⟨W1.heap.size, 0, none⟩)) (W1.alloc (.cells #[.int .i64 (p : Int), .int .i64 180] 57)) (by kernel_rfl) ?_
    simp only [Act.put, List.setIfInBounds_toArray, List.set_cons_zero, List.set_cons_succ]
    refine wpList_runTo rfl (some 24) rfl (.iface 54 (.pointer (some ⟨W1.heap.size, 0, none⟩))) (W1.alloc (.cells #[.int .i64 (p : Int), .int .i64 180] 57)) (by kernel_rfl) ?_
    simp only [Act.put, List.setIfInBounds_toArray, List.set_cons_zero, List.set_cons_succ]
    have hbR : Blk (W1.alloc (.cells #[.int .i64 (p : Int), .int .i64 180] 57)) w.heap.size 27 zeroC.cs := HB1.out.2.alloc _
    have hbF := Blk.new W1 57 #[.int .i64 (p : Int), .int .i64 180]
    have hbB : Below w.heap.size w (W1.alloc (.cells #[.int .i64 (p : Int), .int .i64 180] 57)) := below_step HB1.out.1 ((Below.refl _ W1).alloc (Nat.le_refl _) _)
    have hbS : w.heap.size < W1.heap.size := HB1.out.2.lt
    generalize W1.alloc (.cells #[.int .i64 (p : Int), .int .i64 180] 57) = W2 at *
    refine store_cmd (c := zeroC) hbR (.tmp 2) (.tmp 20) rfl rfl (by kernel_rfl) (by kernel_rfl) ?_
    simp only [Act.put, List.setIfInBounds_toArray, List.set_cons_zero, List.set_cons_succ]
    refine wpList_runTo rfl (some 3) rfl (.iface 54 (.pointer (some ⟨W1.heap.size, 0, none⟩))) (W2.setRow w.heap.size zeroC.cs) (by kernel_rfl) ?_
    simp only [Act.put, List.setIfInBounds_toArray, List.set_cons_zero, List.set_cons_succ]
    refine wpList_nil ?_
    refine hK4 _ _ ?_
    apply wp_ret
    try simp only [Exit.then]
    refine bodyPost_ret (results_cr2 (fn := Try.f10) (p := 2) (u := 3) (ty := 27) rfl _ _ w.heap.size 27 zeroC.cs (0, 0) _ (by kernel_rfl) hbR.row Try.underlying27 rfl (by rw [Cm.cs_size]; exact info27)) (by kernel_rfl) ?_
    exact ⟨W1.heap.size, rfl, below_setRow hbB (Nat.le_refl _) _, by omega, hbF.other (by omega)⟩
  | ok q =>
    obtain ⟨at_, c⟩ := q
    rw [hq] at hx hX
    obtain ⟨rfl, hx2⟩ := hx
    simp only at hX hx2
    have HB1 : Hid (Below w.heap.size w W1 ∧ Blk W1 w.heap.size 27 zeroC.cs ∧ Blk W1 (w.heap.size + 1) 27 c.cs) := ⟨⟨hx2.out.2.os.trans HB0.out.1.os, hx2.out.2.tape.trans HB0.out.1.tape, hx2.out.2.output.trans HB0.out.1.output, Nat.le_trans HB0.out.1.size hx2.out.2.size, fun q hq => (hx2.out.2.block q (by have := HB0.out.1.size; omega) (fun e => by omega)).trans (HB0.out.1.block q hq)⟩, HB0.out.2.1.fr hx2.out.2 (fun e => by omega), hx2.out.1⟩
    refine ⟨_, rfl, ?_⟩
    clear hx2 HB0 hq
    simp only [Act.put, List.setIfInBounds_toArray, List.set_cons_zero, List.set_cons_succ]
    refine wpList_runTo rfl (some 7) rfl (.tuple #[.int .i64 (at_ : Int), .bool true]) W1 (by kernel_rfl) ?_
    simp only [Act.put, List.setIfInBounds_toArray, List.set_cons_zero, List.set_cons_succ]
    refine wpList_runTo rfl (some 10) rfl (.int .i64 (at_ : Int)) W1 (by kernel_rfl) ?_
    simp only [Act.put, List.setIfInBounds_toArray, List.set_cons_zero, List.set_cons_succ]
    refine wpList_runTo rfl (some 11) rfl (.bool true) W1 (by kernel_rfl) ?_
    simp only [Act.put, List.setIfInBounds_toArray, List.set_cons_zero, List.set_cons_succ]
    refine wpList_runTo rfl (some 5) rfl (.int .i64 (at_ : Int)) W1 (by kernel_rfl) ?_
    simp only [Act.put, List.setIfInBounds_toArray, List.set_cons_zero, List.set_cons_succ]
    refine wpList_runTo rfl (some 6) rfl (.bool true) W1 (by kernel_rfl) ?_
    simp only [Act.put, List.setIfInBounds_toArray, List.set_cons_zero, List.set_cons_succ]
    refine wpList_nil ?_
    refine hK2 _ _ ?_
    clear hK2
    by_cases hlt : at_ < l.length
    · rw [if_pos hlt] at hX
      subst hX
      have hlt' : (at_ : Int) < (l.length : Int) := by omega
      go_upto_region 4 with fail
      rename_i K4 hK4
      refine wp_region_lit ?_
      refine wpList_runTo rfl (some 20) rfl (.agg zeroC.cs) W1 (by kernel_rfl) ?_
      simp only [Act.put, List.setIfInBounds_toArray, List.set_cons_zero, List.set_cons_succ]
      refine wpList_runTo rfl (some 21) rfl (.int .i64 (at_ : Int)) W1 (by kernel_rfl) ?_
      simp only [Act.put, List.setIfInBounds_toArray, List.set_cons_zero, List.set_cons_succ]
      refine wpList_runTo rfl (some 22) rfl (.agg #[.int .i64 (at_ : Int), .int .i64 180]) W1 (by kernel_rfl) ?_
      simp only [Act.put, List.setIfInBounds_toArray, List.set_cons_zero, List.set_cons_succ]
      refine wpList_runTo rfl (some 23) rfl (.pointer (some ⟨W1.heap.size, 0, none⟩)) (W1.alloc (.cells #[.int .i64 (at_ : Int), .int .i64 180] 57)) (by kernel_rfl) ?_
      simp only [Act.put, List.setIfInBounds_toArray, List.set_cons_zero, List.set_cons_succ]
      refine wpList_runTo rfl (some 24) rfl (.iface 54 (.pointer (some ⟨W1.heap.size, 0, none⟩))) (W1.alloc (.cells #[.int .i64 (at_ : Int), .int .i64 180] 57)) (by kernel_rfl) ?_
      simp only [Act.put, List.setIfInBounds_toArray, List.set_cons_zero, List.set_cons_succ]
      have hbR : Blk (W1.alloc (.cells #[.int .i64 (at_ : Int), .int .i64 180] 57)) w.heap.size 27 zeroC.cs := HB1.out.2.1.alloc _
      have hbF := Blk.new W1 57 #[.int .i64 (at_ : Int), .int .i64 180]
      have hbB : Below w.heap.size w (W1.alloc (.cells #[.int .i64 (at_ : Int), .int .i64 180] 57)) := below_step HB1.out.1 ((Below.refl _ W1).alloc (Nat.le_refl _) _)
      have hbS : w.heap.size < W1.heap.size := HB1.out.2.1.lt
      generalize W1.alloc (.cells #[.int .i64 (at_ : Int), .int .i64 180] 57) = W2 at *
      refine store_cmd (c := zeroC) hbR (.tmp 2) (.tmp 20) rfl rfl (by kernel_rfl) (by kernel_rfl) ?_
      simp only [Act.put, List.setIfInBounds_toArray, List.set_cons_zero, List.set_cons_succ]
      refine wpList_runTo rfl (some 3) rfl (.iface 54 (.pointer (some ⟨W1.heap.size, 0, none⟩))) (W2.setRow w.heap.size zeroC.cs) (by kernel_rfl) ?_
      simp only [Act.put, List.setIfInBounds_toArray, List.set_cons_zero, List.set_cons_succ]
      refine wpList_nil ?_
      refine hK4 _ _ ?_
      apply wp_ret
      try simp only [Exit.then]
      refine bodyPost_ret (results_cr2 (fn := Try.f10) (p := 2) (u := 3) (ty := 27) rfl _ _ w.heap.size 27 zeroC.cs (0, 0) _ (by kernel_rfl) hbR.row Try.underlying27 rfl (by rw [Cm.cs_size]; exact info27)) (by kernel_rfl) ?_
      exact ⟨W1.heap.size, rfl, below_setRow hbB (Nat.le_refl _) _, by omega, hbF.other (by omega)⟩
    · rw [if_neg hlt] at hX
      subst hX
      have hlt' : ¬ (at_ : Int) < (l.length : Int) := by omega
      go_upto_region 5 with fail
      rename_i K5 hK5
      refine wp_region_lit ?_
      refine load_cmd HB1.out.2.2 (.tmp 4) rfl rfl (by kernel_rfl) ?_
      simp only [Act.put, List.setIfInBounds_toArray, List.set_cons_zero, List.set_cons_succ]
      refine store_cmd (c := c) HB1.out.2.1 (.tmp 2) (.tmp 25) rfl rfl (by kernel_rfl) (by kernel_rfl) ?_
      simp only [Act.put, List.setIfInBounds_toArray, List.set_cons_zero, List.set_cons_succ]
      refine wpList_runTo rfl (some 3) rfl (.nilIface) (W1.setRow w.heap.size c.cs) (by kernel_rfl) ?_
      simp only [Act.put, List.setIfInBounds_toArray, List.set_cons_zero, List.set_cons_succ]
      refine wpList_nil ?_
      refine hK5 _ _ ?_
      apply wp_ret
      try simp only [Exit.then]
      refine bodyPost_ret (results_cr2 (fn := Try.f10) (p := 2) (u := 3) (ty := 27) rfl _ _ w.heap.size 27 c.cs (0, 0) _ (by kernel_rfl) HB1.out.2.1.row Try.underlying27 rfl (by rw [Cm.cs_size]; exact info27)) (by kernel_rfl) ?_
      exact ⟨rfl, below_setRow HB1.out.1 (Nat.le_refl _) _⟩
end Go.Proofs.Ytjnnecoikcmaeaa
