/-
  tape, the reference: Decode.
-/
import Derived.Test.YtjnnecoikcmaeaaTDa
import Derived.Test.YtjnnecoikcmaeaaTQ5
namespace Go.Proofs.Ytjnnecoikcmaeaa
set_option linter.unusedVariables false
set_option linter.unusedSimpArgs false
open Go.RowKit Go.Great

theorem results_c3 {P : Program} {fn : Func} {p u x : Tmp} {ty : TypeId} (h : fn.results = #[.cell p ty, .tmp u, .tmp x]) (tmps : Array Value) (w : World) (g : Nat) (t : TypeId) (cs : Array Value) (fr : Nat × Nat) (d : TypeDesc)
    (hp : tmps.getD p undef = .pointer (some ⟨g, 0, none⟩)) (hg : w.heap[g]? = some (.cells cs t fr))
    (hu : P.underlying ty = some d) (hd : (match d with | .struct _ | .array _ _ => true | _ => false) = true) (hi : (P.info? ty).map (·.size) = some cs.size) :
    (results fn tmps).run P w = .ok (.tuple #[.agg cs, tmps.getD u undef, tmps.getD x undef]) w := by
  have e : (results fn tmps).run P w = ((asAddr (tmps.getD p undef)).run P w).andThen fun a w₁ => ((loadVar ty a).run P w₁).andThen fun z w₂ => .ok (.tuple #[z, tmps.getD u undef, tmps.getD x undef]) w₂ := by
    simp only [results, h]
    simp [Sem.run_bind, Result.andThen]
  rw [e, hp]
  simp [asAddr, run_loadVar_row w g t ty cs fr d hg hu hd hi, Result.andThen]
/-- What the reference's Decode answers. -/
def RefR (w : World) (x : Except Nat Cm) (e : Ending) (w' : World) : Prop := match x with
  | .error p => e = .returned (.tuple #[.agg zeroC.cs, .int .i64 (p : Int), .int .i64 180]) ∧ Hid (Below w.heap.size w w')
  | .ok c => e = .returned (.tuple #[.agg c.cs, .int .i64 0, .int .i64 0]) ∧ Hid (Below w.heap.size w w')
theorem rem2_run {op : Oper} {a : Act} {m : Nat} (x y : Operand) (ho : op.op = .binOp .rem 2 x y 2) (hx : a.eval x = .int .i64 (m : Int)) (hy : a.eval y = .int .i64 2) (hm : m < 16777216) (w : World) : (execOp a.eval op).run Try.prog w = .ok (.value (.int .i64 ((m % 2 : Nat) : Int))) w := by
  have e : Int.tmod (m : Int) 2 = ((m % 2 : Nat) : Int) := (Int.ofNat_tmod m 2).symm
  unfold execOp
  simp only [ho, hx, hy]
  go_simp
theorem quo2_run {op : Oper} {a : Act} {m : Nat} (x y : Operand) (ho : op.op = .binOp .quo 2 x y 2) (hx : a.eval x = .int .i64 (m : Int)) (hy : a.eval y = .int .i64 2) (hm : m < 16777216) (w : World) : (execOp a.eval op).run Try.prog w = .ok (.value (.int .i64 ((m / 2 : Nat) : Int))) w := by
  unfold execOp
  simp only [ho, hx, hy]
  go_simp
  rw [IntKind.wrap_i64]
  omega
theorem eqI_run {op : Oper} {a : Act} {z y0 : Int} {b : Bool} {T : TypeId} (hT : T = 2 ∨ T = 3) (x y : Operand) (ho : op.op = .binOp .eql T x y T) (hx : a.eval x = .int .i64 z) (hy : a.eval y = .int .i64 y0) (hb : (z == y0) = b) (w : World) : (execOp a.eval op).run Try.prog w = .ok (.value (.bool b)) w := by
  subst hb
  unfold execOp
  rcases hT with rfl | rfl <;> simp only [ho, hx, hy] <;> go_simp
theorem sliceB_run {op : Oper} {a : Act} {ao : Option Addr} {n cap lo hi : Nat} (x y z : Operand) (ho : op.op = .slice 28 x (some y) (some z) none) (hx : a.eval x = .slice ao n cap) (hy : a.eval y = .int .i64 (lo : Int)) (hz : a.eval z = .int .i64 (hi : Int)) (h1 : lo ≤ hi) (h2 : hi ≤ cap) (w : World) : (execOp a.eval op).run Try.prog w = .ok (.value (cutV (.slice ao n cap) lo hi cap)) w := by
  have HS : (Instr.sliceAt 28 (.slice ao n cap) (some (.int .i64 (lo : Int))) (some (.int .i64 (hi : Int))) none).run Try.prog w = .ok (cutV (.slice ao n cap) lo hi cap) w := by
    rw [run_sliceAt_slice _ _ _ _ _ _ undB, run_slice_lh _ _ _ _ _ undB .i64 .i64 (lo : Int) (hi : Int) (by omega) (by omega) (by omega), size5']
    show Result.ok _ w = _
    unfold sliced cutV
    simp
  unfold execOp
  simp only [ho, hx, hy, hz, Option.map_some, Option.map_none]
  simp only [HS, Sem.run_bind, Result.andThen_ok]
  rfl
theorem gtN_run {op : Oper} {a : Act} {n k : Nat} {r : Bool} (x y : Operand) (ho : op.op = .binOp .gtr 3 x y 3) (hx : a.eval x = .int .i64 (n : Int)) (hy : a.eval y = .int .i64 (k : Int)) (hr : decide (k < n) = r) (w : World) : (execOp a.eval op).run Try.prog w = .ok (.value (.bool r)) w := by
  have h1 : decide ((k : Int) < (n : Int)) = r := by
    rw [← hr]
    by_cases h : k < n
    · rw [decide_eq_true h, decide_eq_true (by omega)]
    · rw [decide_eq_false h, decide_eq_false (by omega)]
  unfold execOp
  simp only [ho, hx, hy]
  go_simp
theorem ltN_run {op : Oper} {a : Act} {n k : Nat} {r : Bool} (x y : Operand) (ho : op.op = .binOp .lss 3 x y 3) (hx : a.eval x = .int .i64 (n : Int)) (hy : a.eval y = .int .i64 (k : Int)) (hr : decide (n < k) = r) (w : World) : (execOp a.eval op).run Try.prog w = .ok (.value (.bool r)) w := by
  have h1 : decide ((n : Int) < (k : Int)) = r := by
    rw [← hr]
    by_cases h : n < k
    · rw [decide_eq_true h, decide_eq_true (by omega)]
    · rw [decide_eq_false h, decide_eq_false (by omega)]
  unfold execOp
  simp only [ho, hx, hy]
  go_simp
structure RZ (w W : World) (pz pr : Nat) (v : Value) (l : List Nat) : Prop where
  bel : Below w.heap.size w W
  z : Blk W pz 27 zeroC.cs
  r : Blk W pr 27 zeroC.cs
  by' : By W v l
  hv : l = [] ∨ ∀ q, v.ownBlock = some q → q < w.heap.size
  gr : w.heap.size ≤ pr
theorem RZ.below {w W W' : World} {pz pr : Nat} {v : Value} {l : List Nat} (h : RZ w W pz pr v l) (hb : Below W.heap.size W W') : RZ w W' pz pr v l := ⟨below_step h.bel hb, h.z.below hb h.z.lt, h.r.below hb h.r.lt, h.by'.below hb, h.hv, h.gr⟩
structure RD (w W : World) (pz pr pc : Nat) (c : Cm) (v : Value) (l : List Nat) : Prop where
  o : RZ w W pz pr v l
  cb : Blk W pc 27 c.cs
  gc : w.heap.size ≤ pc
  n1 : pz ≠ pc
  n2 : pr ≠ pc
theorem RD.put {w W : World} {pz pr pc : Nat} {c c' : Cm} {v : Value} {l : List Nat} (h : RD w W pz pr pc c v l) {k : Nat} {x : Value} (hc : c'.cs = c.cs.setIfInBounds k x) : RD w (W.setCell ⟨pc, k, none⟩ x) pz pr pc c' v l := by
  have hf : Fr W (W.setCell ⟨pc, k, none⟩ x) (fun b => b = pc) := Fr.setCell W ⟨pc, k, none⟩ x (fun b => b = pc) rfl
  refine ⟨⟨⟨hf.os.trans h.o.bel.os, hf.tape.trans h.o.bel.tape, hf.output.trans h.o.bel.output, Nat.le_trans h.o.bel.size hf.size, fun q hq => (hf.block q (Nat.lt_of_lt_of_le hq h.o.bel.size) fun e => ?_).trans (h.o.bel.block q hq)⟩, h.o.z.fr hf h.n1, h.o.r.fr hf h.n2, h.o.by'.frE hf ?_, h.o.hv, h.o.gr⟩, ?_, h.gc, h.n1, h.n2⟩
  · have := h.gc; omega
  · rcases h.o.hv with e | e
    · exact .inl e
    · refine .inr fun q hq e2 => ?_
      have := e q hq
      have := h.gc
      omega
  · rw [hc]; exact h.cb.set k x
set_option maxRecDepth 100000 in
set_option maxHeartbeats 16000000 in
theorem refDecode_any {w : World} {v : Value} {l : List Nat} (h : By w v l) (hl : l.length ≤ 140737488351232) : Calls Try.prog 19 #[v] w fun e w' => RefR w (dec l) e w' := by
  have hbb := h.bb
  have hv : l = [] ∨ ∀ q, v.ownBlock = some q → q < w.heap.size := by
    by_cases e : l = []
    · exact .inl e
    · exact .inr fun q hq => (h.lt hq).resolve_left e
  obtain ⟨X, hX⟩ : ∃ X, X = dec l := ⟨_, rfl⟩
  rw [← hX]
  unfold dec rdC at hX
  obtain ⟨W0, hW0⟩ : ∃ W0, W0 = w.alloc (.cells zeroC.cs 27) := ⟨_, rfl⟩
  obtain ⟨pr, hpr⟩ : ∃ pr, pr = w.heap.size := ⟨_, rfl⟩
  have hb0 : Below w.heap.size w W0 := by rw [hW0]; exact (Below.refl _ w).alloc (Nat.le_refl _) _
  have hk0 : Blk W0 pr 27 zeroC.cs := by rw [hW0, hpr]; exact Blk.new _ _ _
  obtain ⟨W1, hW1⟩ : ∃ W1, W1 = (W0.alloc (.cells zeroC.cs 27)).setRow W0.heap.size zeroC.cs := ⟨_, rfl⟩
  obtain ⟨pz, hpz⟩ : ∃ pz, pz = W0.heap.size := ⟨_, rfl⟩
  have hb1 : Below W0.heap.size W0 W1 := by rw [hW1]; exact below_setRow ((Below.refl _ W0).alloc (Nat.le_refl _) _) (Nat.le_refl _) _
  have HZ : Hid (RZ w W1 pz pr v l ∧ pz < W1.heap.size ∧ pr < W1.heap.size) := by
    have hz1 : Blk W1 pz 27 zeroC.cs := by rw [hW1, hpz]; exact (Blk.new W0 _ _).row
    have hr1 := hk0.below hb1 hk0.lt
    exact ⟨⟨below_step hb0 hb1, hz1, hr1, (h.below hb0).below hb1, hv, by rw [hpr]; exact Nat.le_refl _⟩, hz1.lt, hr1.lt⟩
  have hn0 := number_any HZ.out.1.by' (by omega) 0 1 9 (Nat.zero_le _) (by decide) (by decide)
  clear h hv hb0 hk0 hb1
  go_enter Try.func19, Try.ntmps19
  go_upto_region 0 with fail
  rename_i K0 hK0
  refine wp_region_lit ?_
  refine wpList_runTo rfl (some 2) rfl (.pointer (some ⟨w.heap.size, 0, none⟩)) (w.alloc (.cells zeroC.cs 27)) (by kernel_rfl) ?_
  simp only [Act.put, List.setIfInBounds_toArray, List.set_cons_zero, List.set_cons_succ]
  rw [← hW0, ← hpr]
  clear hW0 hpr
  refine wpList_runTo rfl (some 3) rfl (.int .i64 0) W0 (by kernel_rfl) ?_
  simp only [Act.put, List.setIfInBounds_toArray, List.set_cons_zero, List.set_cons_succ]
  refine wpList_runTo rfl (some 4) rfl (.int .i64 0) W0 (by kernel_rfl) ?_
  simp only [Act.put, List.setIfInBounds_toArray, List.set_cons_zero, List.set_cons_succ]
  refine wpList_nil ?_
  refine hK0 _ _ ?_
  clear hK0
  go_upto_region 1 with fail
  rename_i K1 hK1
  refine wp_region_lit ?_
  refine wpList_runTo rfl (some 18) rfl (.agg zeroC.cs) W0 (by kernel_rfl) ?_
  simp only [Act.put, List.setIfInBounds_toArray, List.set_cons_zero, List.set_cons_succ]
  refine wpList_runTo rfl (some 5) rfl (.pointer (some ⟨W0.heap.size, 0, none⟩)) (W0.alloc (.cells zeroC.cs 27)) (by kernel_rfl) ?_
  simp only [Act.put, List.setIfInBounds_toArray, List.set_cons_zero, List.set_cons_succ]
  refine store_cmd (c := zeroC) (c' := zeroC) (Blk.new W0 _ _) (.tmp 5) (.tmp 18) rfl rfl (by kernel_rfl) (by kernel_rfl) ?_
  simp only [Act.put, List.setIfInBounds_toArray, List.set_cons_zero, List.set_cons_succ]
  rw [← hW1, ← hpz]
  clear hW1 hpz
  refine wpList_nil ?_
  refine hK1 _ _ ?_
  clear hK1
  generalize zeroC.cs = cz0
  go_upto_region 2 with fail
  rename_i K2 hK2
  refine wp_region_lit ?_
  refine wpList_runTo rfl (some 20) rfl (v) W1 (by kernel_rfl) ?_
  simp only [Act.put, List.setIfInBounds_toArray, List.set_cons_zero, List.set_cons_succ]
  refine wpList_callW rfl (some 21) rfl 37 #[v, .int .i64 0, .int .i64 1, .int .i64 9] (by kernel_rfl) hn0 ?_
  clear hn0
  rintro e w2 ⟨rfl, ew⟩
  replace ew := ew.symm
  subst ew
  refine ⟨_, rfl, ?_⟩
  simp only [Act.put, List.setIfInBounds_toArray, List.set_cons_zero, List.set_cons_succ]
  cases h0 : rn l 0 1 9 with
  | none =>
    rw [h0] at hX
    simp only at hX
    simp only [rnZ, rnK]
    refine wpList_runTo rfl (some 19) rfl (.tuple #[.int .i64 0, .int .i64 ((0 : Nat) : Int)]) W1 (by kernel_rfl) ?_
    simp only [Act.put, List.setIfInBounds_toArray, List.set_cons_zero, List.set_cons_succ]
    refine wpList_runTo rfl (some 22) rfl (.int .i64 0) W1 (by kernel_rfl) ?_
    simp only [Act.put, List.setIfInBounds_toArray, List.set_cons_zero, List.set_cons_succ]
    refine wpList_runTo rfl (some 23) rfl (.int .i64 0) W1 (by kernel_rfl) ?_
    simp only [Act.put, List.setIfInBounds_toArray, List.set_cons_zero, List.set_cons_succ]
    refine wpList_runTo rfl (some 6) rfl (.int .i64 0) W1 (by kernel_rfl) ?_
    simp only [Act.put, List.setIfInBounds_toArray, List.set_cons_zero, List.set_cons_succ]
    refine wpList_runTo rfl (some 7) rfl (.int .i64 0) W1 (by kernel_rfl) ?_
    simp only [Act.put, List.setIfInBounds_toArray, List.set_cons_zero, List.set_cons_succ]
    refine wpList_nil ?_
    refine hK2 _ _ ?_
    clear hK2
    go_upto_region 4 with fail
    refine wp_region_lit ?_
    refine load_cmd HZ.out.1.z (.tmp 5) rfl rfl (by kernel_rfl) ?_
    simp only [Act.put, List.setIfInBounds_toArray, List.set_cons_zero, List.set_cons_succ]
    refine store_cmd (c := zeroC) HZ.out.1.r (.tmp 2) (.tmp 26) rfl rfl (by kernel_rfl) (by kernel_rfl) ?_
    simp only [Act.put, List.setIfInBounds_toArray, List.set_cons_zero, List.set_cons_succ]
    refine wpList_runTo rfl (some 3) rfl (.int .i64 (((0 : Nat)) : Int)) (W1.setRow pr zeroC.cs) (by kernel_rfl) ?_
    simp only [Act.put, List.setIfInBounds_toArray, List.set_cons_zero, List.set_cons_succ]
    refine wpList_runTo rfl (some 4) rfl (.int .i64 180) (W1.setRow pr zeroC.cs) (by kernel_rfl) ?_
    simp only [Act.put, List.setIfInBounds_toArray, List.set_cons_zero, List.set_cons_succ]
    refine wpList_nil ?_
    rename_i KX hKX
    refine hKX _ _ ?_
    apply wp_ret
    try simp only [Exit.then]
    subst hX
    refine bodyPost_ret (results_c3 (fn := Try.f19) (p := 2) (u := 3) (x := 4) (ty := 27) rfl _ _ pr 27 zeroC.cs (0, 0) _ (by kernel_rfl) HZ.out.1.r.row Try.underlying27 rfl (by rw [Cm.cs_size]; exact info27)) (by kernel_rfl) ?_
    exact ⟨rfl, below_setRow HZ.out.1.bel HZ.out.1.gr _⟩
  | some p =>
    obtain ⟨kz, a1⟩ := p
    have hb0 := rn_bd hbb h0
    have hb0' := rn_bd10 hbb h0
    rw [h0] at hX
    simp only at hX
    simp only [rnZ, rnK, Nat.sub_zero]
    have ha1 : ((a1 : Int) == 0) = false := by
      rw [← Bool.not_eq_true]
      intro e
      have := eq_of_beq e
      omega
    refine wpList_runTo rfl (some 19) rfl (.tuple #[.int .i64 kz, .int .i64 (a1 : Int)]) W1 (by kernel_rfl) ?_
    simp only [Act.put, List.setIfInBounds_toArray, List.set_cons_zero, List.set_cons_succ]
    refine wpList_runTo rfl (some 22) rfl (.int .i64 kz) W1 (by kernel_rfl) ?_
    simp only [Act.put, List.setIfInBounds_toArray, List.set_cons_zero, List.set_cons_succ]
    refine wpList_runTo rfl (some 23) rfl (.int .i64 (a1 : Int)) W1 (by kernel_rfl) ?_
    simp only [Act.put, List.setIfInBounds_toArray, List.set_cons_zero, List.set_cons_succ]
    refine wpList_runTo rfl (some 6) rfl (.int .i64 kz) W1 (by kernel_rfl) ?_
    simp only [Act.put, List.setIfInBounds_toArray, List.set_cons_zero, List.set_cons_succ]
    refine wpList_runTo rfl (some 7) rfl (.int .i64 (a1 : Int)) W1 (by kernel_rfl) ?_
    simp only [Act.put, List.setIfInBounds_toArray, List.set_cons_zero, List.set_cons_succ]
    refine wpList_nil ?_
    refine hK2 _ _ ?_
    clear hK2
    have hn1 := number_any HZ.out.1.by' (by omega) a1 0 16777215 hb0.2.2.2 (by decide) (by decide)
    go_upto_region 6 with fail
    rename_i K6 hK6
    refine wp_region_lit ?_
    refine wpList_runTo rfl (some 29) rfl (v) W1 (by kernel_rfl) ?_
    simp only [Act.put, List.setIfInBounds_toArray, List.set_cons_zero, List.set_cons_succ]
    refine wpList_runTo rfl (some 30) rfl (.int .i64 (a1 : Int)) W1 (by kernel_rfl) ?_
    simp only [Act.put, List.setIfInBounds_toArray, List.set_cons_zero, List.set_cons_succ]
    refine wpList_callW rfl (some 31) rfl 37 #[v, .int .i64 (a1 : Int), .int .i64 0, .int .i64 16777215] (by kernel_rfl) hn1 ?_
    clear hn1
    rintro e w2 ⟨rfl, ew⟩
    replace ew := ew.symm
    subst ew
    refine ⟨_, rfl, ?_⟩
    simp only [Act.put, List.setIfInBounds_toArray, List.set_cons_zero, List.set_cons_succ]
    cases h1 : rn l a1 0 16777215 with
    | none =>
      rw [h1] at hX
      simp only at hX
      simp only [rnZ, rnK]
      refine wpList_runTo rfl (some 28) rfl (.tuple #[.int .i64 0, .int .i64 ((0 : Nat) : Int)]) W1 (by kernel_rfl) ?_
      simp only [Act.put, List.setIfInBounds_toArray, List.set_cons_zero, List.set_cons_succ]
      refine wpList_runTo rfl (some 32) rfl (.int .i64 0) W1 (by kernel_rfl) ?_
      simp only [Act.put, List.setIfInBounds_toArray, List.set_cons_zero, List.set_cons_succ]
      refine wpList_runTo rfl (some 33) rfl (.int .i64 0) W1 (by kernel_rfl) ?_
      simp only [Act.put, List.setIfInBounds_toArray, List.set_cons_zero, List.set_cons_succ]
      refine wpList_runTo rfl (some 9) rfl (.int .i64 0) W1 (by kernel_rfl) ?_
      simp only [Act.put, List.setIfInBounds_toArray, List.set_cons_zero, List.set_cons_succ]
      refine wpList_runTo rfl (some 7) rfl (.int .i64 0) W1 (by kernel_rfl) ?_
      simp only [Act.put, List.setIfInBounds_toArray, List.set_cons_zero, List.set_cons_succ]
      refine wpList_nil ?_
      refine hK6 _ _ ?_
      clear hK6 ha1
      go_upto_region 8 with fail
      refine wp_region_lit ?_
      refine load_cmd HZ.out.1.z (.tmp 5) rfl rfl (by kernel_rfl) ?_
      simp only [Act.put, List.setIfInBounds_toArray, List.set_cons_zero, List.set_cons_succ]
      refine wpList_runTo rfl (some 37) rfl (.int .i64 (a1 : Int)) W1 (by kernel_rfl) ?_
      simp only [Act.put, List.setIfInBounds_toArray, List.set_cons_zero, List.set_cons_succ]
      refine store_cmd (c := zeroC) HZ.out.1.r (.tmp 2) (.tmp 36) rfl rfl (by kernel_rfl) (by kernel_rfl) ?_
      simp only [Act.put, List.setIfInBounds_toArray, List.set_cons_zero, List.set_cons_succ]
      refine wpList_runTo rfl (some 3) rfl (.int .i64 (a1 : Int)) (W1.setRow pr zeroC.cs) (by kernel_rfl) ?_
      simp only [Act.put, List.setIfInBounds_toArray, List.set_cons_zero, List.set_cons_succ]
      refine wpList_runTo rfl (some 4) rfl (.int .i64 180) (W1.setRow pr zeroC.cs) (by kernel_rfl) ?_
      simp only [Act.put, List.setIfInBounds_toArray, List.set_cons_zero, List.set_cons_succ]
      refine wpList_nil ?_
      rename_i KX hKX
      refine hKX _ _ ?_
      apply wp_ret
      try simp only [Exit.then]
      subst hX
      refine bodyPost_ret (results_c3 (fn := Try.f19) (p := 2) (u := 3) (x := 4) (ty := 27) rfl _ _ pr 27 zeroC.cs (0, 0) _ (by kernel_rfl) HZ.out.1.r.row Try.underlying27 rfl (by rw [Cm.cs_size]; exact info27)) (by kernel_rfl) ?_
      exact ⟨rfl, below_setRow HZ.out.1.bel HZ.out.1.gr _⟩
    | some p =>
      obtain ⟨mz, a2⟩ := p
      have hb1 := rn_bd hbb h1
      have hb1' := rn_bd10 hbb h1
      obtain ⟨m, rfl⟩ : ∃ m : Nat, mz = m := ⟨mz.toNat, by omega⟩
      rw [h1] at hX
      simp only [Int.toNat_natCast] at hX
      simp only [rnZ, rnK]
      have ha2 : (((a2 - a1 : Nat) : Int) == 0) = false := by
        rw [← Bool.not_eq_true]
        intro e
        have := eq_of_beq e
        omega
      refine wpList_runTo rfl (some 28) rfl (.tuple #[.int .i64 (m : Int), .int .i64 ((a2 - a1 : Nat) : Int)]) W1 (by kernel_rfl) ?_
      simp only [Act.put, List.setIfInBounds_toArray, List.set_cons_zero, List.set_cons_succ]
      refine wpList_runTo rfl (some 32) rfl (.int .i64 (m : Int)) W1 (by kernel_rfl) ?_
      simp only [Act.put, List.setIfInBounds_toArray, List.set_cons_zero, List.set_cons_succ]
      refine wpList_runTo rfl (some 33) rfl (.int .i64 ((a2 - a1 : Nat) : Int)) W1 (by kernel_rfl) ?_
      simp only [Act.put, List.setIfInBounds_toArray, List.set_cons_zero, List.set_cons_succ]
      refine wpList_runTo rfl (some 9) rfl (.int .i64 (m : Int)) W1 (by kernel_rfl) ?_
      simp only [Act.put, List.setIfInBounds_toArray, List.set_cons_zero, List.set_cons_succ]
      refine wpList_runTo rfl (some 7) rfl (.int .i64 ((a2 - a1 : Nat) : Int)) W1 (by kernel_rfl) ?_
      simp only [Act.put, List.setIfInBounds_toArray, List.set_cons_zero, List.set_cons_succ]
      refine wpList_nil ?_
      refine hK6 _ _ ?_
      clear hK6 ha1
      go_upto_region 7 with fail
      rename_i K7 hK7
      refine wp_region_lit ?_
      refine wpList_runTo rfl (some 34) rfl (.int .i64 ((a2 - a1 : Nat) : Int)) W1 (by kernel_rfl) ?_
      simp only [Act.put, List.setIfInBounds_toArray, List.set_cons_zero, List.set_cons_succ]
      refine wpList_runTo rfl (some 35) rfl (.bool false) W1 (by exact eqI_run (.inr rfl) (.tmp 34) (.const (.int .i64 0)) rfl (by kernel_rfl) rfl ha2 _) ?_
      simp only [Act.put, List.setIfInBounds_toArray, List.set_cons_zero, List.set_cons_succ]
      refine wpList_nil ?_
      refine hK7 _ _ ?_
      clear hK7 ha2
      go_upto_region 9 with fail
      rename_i K9 hK9
      refine wp_region_lit ?_
      refine wpList_runTo rfl (some 38) rfl (.int .i64 (a1 : Int)) W1 (by kernel_rfl) ?_
      simp only [Act.put, List.setIfInBounds_toArray, List.set_cons_zero, List.set_cons_succ]
      refine wpList_runTo rfl (some 39) rfl (.int .i64 ((a2 - a1 : Nat) : Int)) W1 (by kernel_rfl) ?_
      simp only [Act.put, List.setIfInBounds_toArray, List.set_cons_zero, List.set_cons_succ]
      refine wpList_runTo rfl (some 40) rfl (.int .i64 ((a1 + (a2 - a1) : Nat) : Int)) W1 (by exact addN_run (.tmp 38) (.tmp 39) rfl (by kernel_rfl) (by kernel_rfl) (by omega) _) ?_
      simp only [Act.put, List.setIfInBounds_toArray, List.set_cons_zero, List.set_cons_succ]
      rw [show a1 + (a2 - a1) = a2 by omega]
      refine wpList_runTo rfl (some 8) rfl (.int .i64 (a2 : Int)) W1 (by kernel_rfl) ?_
      simp only [Act.put, List.setIfInBounds_toArray, List.set_cons_zero, List.set_cons_succ]
      refine wpList_nil ?_
      refine hK9 _ _ ?_
      clear hK9
      generalize a2 - a1 = a21 at *
      go_upto_region 10 with fail
      rename_i K10 hK10
      refine wp_region_lit ?_
      refine wpList_runTo rfl (some 41) rfl (.int .i64 kz) W1 (by kernel_rfl) ?_
      simp only [Act.put, List.setIfInBounds_toArray, List.set_cons_zero, List.set_cons_succ]
      refine wpList_runTo rfl (some 42) rfl (.agg ({ zeroC with k := kz } : Cm).cs) W1 (by kernel_rfl) ?_
      simp only [Act.put, List.setIfInBounds_toArray, List.set_cons_zero, List.set_cons_succ]
      refine wpList_runTo rfl (some 10) rfl (.pointer (some ⟨W1.heap.size, 0, none⟩)) (W1.alloc (.cells zeroC.cs 27)) (by kernel_rfl) ?_
      simp only [Act.put, List.setIfInBounds_toArray, List.set_cons_zero, List.set_cons_succ]
      refine store_cmd (c := { zeroC with k := kz }) (c' := zeroC) (Blk.new W1 _ _) (.tmp 10) (.tmp 42) rfl rfl (by kernel_rfl) (by kernel_rfl) ?_
      simp only [Act.put, List.setIfInBounds_toArray, List.set_cons_zero, List.set_cons_succ]
      obtain ⟨W2, hW2⟩ : ∃ W2, W2 = (W1.alloc (.cells zeroC.cs 27)).setRow W1.heap.size ({ zeroC with k := kz } : Cm).cs := ⟨_, rfl⟩
      have hbB : Below W1.heap.size W1 W2 := by rw [hW2]; exact below_setRow ((Below.refl _ W1).alloc (Nat.le_refl _) _) (Nat.le_refl _) _
      have hB : Blk W2 W1.heap.size 27 ({ zeroC with k := kz } : Cm).cs := by rw [hW2]; exact (Blk.new W1 _ _).row
      rw [← hW2]
      obtain ⟨c0, hc0⟩ : ∃ c0 : Cm, c0 = { zeroC with k := kz } := ⟨_, rfl⟩
      rw [← hc0] at hX hB ⊢
      clear hc0
      have HD0 : Hid (RD w W2 pz pr W1.heap.size c0 v l) := ⟨HZ.out.1.below hbB, hB, HZ.out.1.bel.size, by have := HZ.out.2.1; omega, by have := HZ.out.2.2; omega⟩
      clear HZ hbB hB hW2
      generalize W1.heap.size = pc at *
      refine wpList_nil ?_
      refine hK10 _ _ ?_
      clear hK10
      generalize c0.cs = cc0
      have hm24 : m < 16777216 := by omega
      have HX : Hid (X = (match rdU l m a2 c0 24 with
        | .error p => .error p
        | .ok (a, c) => if a < l.length then .error a else .ok c)) := hX
      have HA : Hid (a2 ≤ 20 ∧ a2 ≤ l.length) := ⟨by omega, hb1.2.2.2⟩
      have hp0 : m = m / 2 ^ 0 := by simp
      clear hX hb0 hb0' hb1 hb1' h0 h1
      go_wp2
      go_loopw [8, 9, 11] (fun a q x wr => ∃ (i at_ : Nat) (c : Cm), i ≤ 24 ∧ x = .int .i64 i ∧ a = .int .i64 at_ ∧ q = .int .i64 ((m / 2 ^ i : Nat) : Int) ∧ at_ ≤ l.length ∧ Hid (rdU l m a2 c0 i = .ok (at_, c) ∧ RD w wr pz pr pc c v l)) (fun _ _ x _ => 24 - (intOf x).toNat)
      case atStart => exact ⟨0, a2, c0, by omega, rfl, rfl, by rw [← hp0], HA.out.2, rfl, HD0.out⟩
      case round =>
        clear HD0 hp0
        obtain ⟨i, at_, c, hi, rfl, rfl, rfl, hat, HR⟩ := hrel
        by_cases hlt : i < 24
        · have hlt' : (i : Int) < 24 := by omega
          have hmd : m / 2 ^ i < 16777216 := Nat.lt_of_le_of_lt (Nat.div_le_self _ _) hm24
          have hq2 : m / 2 ^ i / 2 = m / 2 ^ (i + 1) := by rw [Nat.div_div_eq_div_mul, Nat.pow_succ]
          have hb7 : at_ ≤ 2000 := by have h1 := rdU_bd70 hbb HR.out.1; have h2 := HA.out.1; omega
          have htx := texts_any hlt wr
          have HU : Hid (rdU l m a2 c0 (i + 1) = if m / 2 ^ i % 2 = 0 then .ok (at_, c) else rdF l i at_ c) := by
            show rdU l m a2 c0 (i + 1) = _
            simp only [rdU, HR.out.1]
          have HErr : Hid (∀ p, rdU l m a2 c0 (i + 1) = .error p → X = .error p) := fun p hp => by
            have : ∀ n, i + 1 ≤ n → rdU l m a2 c0 n = .error p := fun n hn => by
              induction n with
              | zero => omega
              | succ n ih =>
                by_cases e : i + 1 = n + 1
                · rw [← e]; exact hp
                · have := ih (by omega)
                  show (match rdU l m a2 c0 n with
                    | .error p => Except.error p
                    | .ok (a, c) => if m / 2 ^ n % 2 = 0 then .ok (a, c) else rdF l n a c) = _
                  rw [this]
            rw [HX.out, this 24 (by omega)]
          go_upto_region 14 with fail
          rename_i K14 hK14
          refine wp_region_lit ?_
          refine wpList_runTo rfl (some 47) rfl (.int .i64 ((m / 2 ^ i : Nat) : Int)) wr (by kernel_rfl) ?_
          simp only [Act.put, List.setIfInBounds_toArray, List.set_cons_zero, List.set_cons_succ]
          refine wpList_runTo rfl (some 48) rfl (.int .i64 ((m / 2 ^ i % 2 : Nat) : Int)) wr (by exact rem2_run (.tmp 47) (.const (.int .i64 2)) rfl (by kernel_rfl) rfl hmd _) ?_
          simp only [Act.put, List.setIfInBounds_toArray, List.set_cons_zero, List.set_cons_succ]
          by_cases hz : m / 2 ^ i % 2 = 0
          · have HF : Hid (rdU l m a2 c0 (i + 1) = .ok (at_, c) ∧ RD w wr pz pr pc c v l) := ⟨by rw [HU.out, if_pos hz], HR.out.2⟩
            have hz' : (((m / 2 ^ i % 2 : Nat) : Int) == 1) = false := by rw [hz]; rfl
            refine wpList_runTo rfl (some 49) rfl (.bool false) wr (by exact eqI_run (.inl rfl) (.tmp 48) (.const (.int .i64 1)) rfl (by kernel_rfl) rfl hz' _) ?_
            simp only [Act.put, List.setIfInBounds_toArray, List.set_cons_zero, List.set_cons_succ]
            refine wpList_runTo rfl (some 12) rfl (.bool false) wr (by kernel_rfl) ?_
            simp only [Act.put, List.setIfInBounds_toArray, List.set_cons_zero, List.set_cons_succ]
            refine wpList_nil ?_
            refine hK14 _ _ ?_
            clear hK14
            go_upto_region 15 with fail
            rename_i K15 hK15
            refine wp_region_lit ?_
            refine wpList_runTo rfl (some 50) rfl (.int .i64 ((m / 2 ^ i : Nat) : Int)) wr (by kernel_rfl) ?_
            simp only [Act.put, List.setIfInBounds_toArray, List.set_cons_zero, List.set_cons_succ]
            refine wpList_runTo rfl (some 51) rfl (.int .i64 ((m / 2 ^ i / 2 : Nat) : Int)) wr (by exact quo2_run (.tmp 50) (.const (.int .i64 2)) rfl (by kernel_rfl) rfl hmd _) ?_
            simp only [Act.put, List.setIfInBounds_toArray, List.set_cons_zero, List.set_cons_succ]
            rw [hq2]
            refine wpList_runTo rfl (some 9) rfl (.int .i64 ((m / 2 ^ (i + 1) : Nat) : Int)) wr (by kernel_rfl) ?_
            simp only [Act.put, List.setIfInBounds_toArray, List.set_cons_zero, List.set_cons_succ]
            refine wpList_nil ?_
            refine hK15 _ _ ?_
            clear hK15 hz'
            clear hz hmd hq2
            generalize hM : m / 2 ^ (i + 1) = M1 at *
            generalize m / 2 ^ i % 2 = z1 at *
            generalize m / 2 ^ i = z2 at *
            clear HU HErr HR HX htx
            go_wp2
            exact ⟨⟨i + 1, at_, c, by omega, by go_num, rfl, by rw [hM], hat, HF⟩, by simp [intOf]; omega⟩
          · have hz1 : m / 2 ^ i % 2 = 1 := by omega
            have HU2 : Hid (rdU l m a2 c0 (i + 1) = rdF l i at_ c) := by
              show _ = _
              rw [HU.out, if_neg hz]
            have hz' : (((m / 2 ^ i % 2 : Nat) : Int) == 1) = true := by rw [hz1]; rfl
            refine wpList_runTo rfl (some 49) rfl (.bool true) wr (by exact eqI_run (.inl rfl) (.tmp 48) (.const (.int .i64 1)) rfl (by kernel_rfl) rfl hz' _) ?_
            simp only [Act.put, List.setIfInBounds_toArray, List.set_cons_zero, List.set_cons_succ]
            refine wpList_runTo rfl (some 12) rfl (.bool true) wr (by kernel_rfl) ?_
            simp only [Act.put, List.setIfInBounds_toArray, List.set_cons_zero, List.set_cons_succ]
            refine wpList_nil ?_
            refine hK14 _ _ ?_
            clear hK14
            go_upto_region 15 with fail
            rename_i K15 hK15
            refine wp_region_lit ?_
            refine wpList_runTo rfl (some 50) rfl (.int .i64 ((m / 2 ^ i : Nat) : Int)) wr (by kernel_rfl) ?_
            simp only [Act.put, List.setIfInBounds_toArray, List.set_cons_zero, List.set_cons_succ]
            refine wpList_runTo rfl (some 51) rfl (.int .i64 ((m / 2 ^ i / 2 : Nat) : Int)) wr (by exact quo2_run (.tmp 50) (.const (.int .i64 2)) rfl (by kernel_rfl) rfl hmd _) ?_
            simp only [Act.put, List.setIfInBounds_toArray, List.set_cons_zero, List.set_cons_succ]
            rw [hq2]
            refine wpList_runTo rfl (some 9) rfl (.int .i64 ((m / 2 ^ (i + 1) : Nat) : Int)) wr (by kernel_rfl) ?_
            simp only [Act.put, List.setIfInBounds_toArray, List.set_cons_zero, List.set_cons_succ]
            refine wpList_nil ?_
            refine hK15 _ _ ?_
            clear hK15 hz'
            clear HU hz1
            clear hz hmd hq2
            generalize hM : m / 2 ^ (i + 1) = M1 at *
            generalize m / 2 ^ i % 2 = z1 at *
            generalize m / 2 ^ i = z2 at *
            obtain ⟨va, vc, hvf, hvc⟩ := HR.out.2.o.by'.form
            cases hT : isT i with
            | true =>
              rw [hT] at htx
              have hnu := number_any HR.out.2.o.by' (by omega) at_ 1 60 hat (by decide) (by decide)
              go_upto_region 17 with fail
              rename_i K17 hK17
              refine wp_region_lit ?_
              refine wpList_runTo rfl (some 54) rfl (.int .i64 (i : Int)) wr (by kernel_rfl) ?_
              simp only [Act.put, List.setIfInBounds_toArray, List.set_cons_zero, List.set_cons_succ]
              refine wpList_callW rfl (some 55) rfl 38 #[.int .i64 (i : Int)] (by kernel_rfl) htx ?_
              clear htx
              rintro e w2 ⟨rfl, ew⟩
              replace ew := ew.symm
              subst ew
              refine ⟨_, rfl, ?_⟩
              simp only [Act.put, List.setIfInBounds_toArray, List.set_cons_zero, List.set_cons_succ]
              refine wpList_runTo rfl (some 13) rfl (.bool true) wr (by kernel_rfl) ?_
              simp only [Act.put, List.setIfInBounds_toArray, List.set_cons_zero, List.set_cons_succ]
              refine wpList_nil ?_
              refine hK17 _ _ ?_
              clear hK17
              go_upto_region 21 with fail
              rename_i K21 hK21
              refine wp_region_lit ?_
              refine wpList_runTo rfl (some 58) rfl (v) wr (by kernel_rfl) ?_
              simp only [Act.put, List.setIfInBounds_toArray, List.set_cons_zero, List.set_cons_succ]
              refine wpList_runTo rfl (some 59) rfl (.int .i64 (at_ : Int)) wr (by kernel_rfl) ?_
              simp only [Act.put, List.setIfInBounds_toArray, List.set_cons_zero, List.set_cons_succ]
              refine wpList_runTo rfl (some 60) rfl (.int .i64 60) wr (by kernel_rfl) ?_
              simp only [Act.put, List.setIfInBounds_toArray, List.set_cons_zero, List.set_cons_succ]
              refine wpList_callW rfl (some 61) rfl 37 #[v, .int .i64 (at_ : Int), .int .i64 1, .int .i64 60] (by kernel_rfl) hnu ?_
              clear hnu
              rintro e w2 ⟨rfl, ew⟩
              replace ew := ew.symm
              subst ew
              refine ⟨_, rfl, ?_⟩
              simp only [Act.put, List.setIfInBounds_toArray, List.set_cons_zero, List.set_cons_succ]
              cases hq : rn l at_ 1 60 with
              | none =>
                have hX : X = .error at_ := HErr.out at_ (by rw [HU2.out]; unfold rdF rt; rw [hT, if_pos rfl, hq])
                simp only [rnZ, rnK]
                refine wpList_runTo rfl (some 57) rfl (.tuple #[.int .i64 0, .int .i64 ((0 : Nat) : Int)]) wr (by kernel_rfl) ?_
                simp only [Act.put, List.setIfInBounds_toArray, List.set_cons_zero, List.set_cons_succ]
                refine wpList_runTo rfl (some 62) rfl (.int .i64 0) wr (by kernel_rfl) ?_
                simp only [Act.put, List.setIfInBounds_toArray, List.set_cons_zero, List.set_cons_succ]
                refine wpList_runTo rfl (some 63) rfl (.int .i64 0) wr (by kernel_rfl) ?_
                simp only [Act.put, List.setIfInBounds_toArray, List.set_cons_zero, List.set_cons_succ]
                refine wpList_runTo rfl (some 15) rfl (.int .i64 0) wr (by kernel_rfl) ?_
                simp only [Act.put, List.setIfInBounds_toArray, List.set_cons_zero, List.set_cons_succ]
                refine wpList_runTo rfl (some 16) rfl (.int .i64 0) wr (by kernel_rfl) ?_
                simp only [Act.put, List.setIfInBounds_toArray, List.set_cons_zero, List.set_cons_succ]
                refine wpList_nil ?_
                refine hK21 _ _ ?_
                clear hK21 HErr HU2 HX hq
                go_upto_region 23 with fail
                refine wp_region_lit ?_
                refine load_cmd HR.out.2.o.z (.tmp 5) rfl rfl (by kernel_rfl) ?_
                simp only [Act.put, List.setIfInBounds_toArray, List.set_cons_zero, List.set_cons_succ]
                refine wpList_runTo rfl (some 67) rfl (.int .i64 (at_ : Int)) wr (by kernel_rfl) ?_
                simp only [Act.put, List.setIfInBounds_toArray, List.set_cons_zero, List.set_cons_succ]
                refine store_cmd (c := zeroC) HR.out.2.o.r (.tmp 2) (.tmp 66) rfl rfl (by kernel_rfl) (by kernel_rfl) ?_
                simp only [Act.put, List.setIfInBounds_toArray, List.set_cons_zero, List.set_cons_succ]
                refine wpList_runTo rfl (some 3) rfl (.int .i64 (at_ : Int)) (wr.setRow pr zeroC.cs) (by kernel_rfl) ?_
                simp only [Act.put, List.setIfInBounds_toArray, List.set_cons_zero, List.set_cons_succ]
                refine wpList_runTo rfl (some 4) rfl (.int .i64 180) (wr.setRow pr zeroC.cs) (by kernel_rfl) ?_
                simp only [Act.put, List.setIfInBounds_toArray, List.set_cons_zero, List.set_cons_succ]
                refine wpList_nil ?_
                rename_i KX hKX
                refine hKX _ _ ?_
                apply wp_ret
                try simp only [Exit.then]
                subst hX
                refine bodyPost_ret (results_c3 (fn := Try.f19) (p := 2) (u := 3) (x := 4) (ty := 27) rfl _ _ pr 27 zeroC.cs (0, 0) _ (by kernel_rfl) HR.out.2.o.r.row Try.underlying27 rfl (by rw [Cm.cs_size]; exact info27)) (by kernel_rfl) ?_
                exact ⟨rfl, below_setRow HR.out.2.o.bel HR.out.2.o.gr _⟩
              | some p =>
                obtain ⟨zz, b⟩ := p
                obtain ⟨j1, j2, j3, j4⟩ := rn_bd hbb hq
                have j5 := rn_bd10 hbb hq
                obtain ⟨k, rfl⟩ : ∃ k : Nat, zz = k := ⟨zz.toNat, by omega⟩
                have hkz : (((b - at_ : Nat) : Int) == 0) = false := by
                  rw [← Bool.not_eq_true]
                  intro e
                  have := eq_of_beq e
                  omega
                simp only [rnZ, rnK]
                refine wpList_runTo rfl (some 57) rfl (.tuple #[.int .i64 (k : Int), .int .i64 ((b - at_ : Nat) : Int)]) wr (by kernel_rfl) ?_
                simp only [Act.put, List.setIfInBounds_toArray, List.set_cons_zero, List.set_cons_succ]
                refine wpList_runTo rfl (some 62) rfl (.int .i64 (k : Int)) wr (by kernel_rfl) ?_
                simp only [Act.put, List.setIfInBounds_toArray, List.set_cons_zero, List.set_cons_succ]
                refine wpList_runTo rfl (some 63) rfl (.int .i64 ((b - at_ : Nat) : Int)) wr (by kernel_rfl) ?_
                simp only [Act.put, List.setIfInBounds_toArray, List.set_cons_zero, List.set_cons_succ]
                refine wpList_runTo rfl (some 15) rfl (.int .i64 (k : Int)) wr (by kernel_rfl) ?_
                simp only [Act.put, List.setIfInBounds_toArray, List.set_cons_zero, List.set_cons_succ]
                refine wpList_runTo rfl (some 16) rfl (.int .i64 ((b - at_ : Nat) : Int)) wr (by kernel_rfl) ?_
                simp only [Act.put, List.setIfInBounds_toArray, List.set_cons_zero, List.set_cons_succ]
                refine wpList_nil ?_
                refine hK21 _ _ ?_
                clear hK21
                go_upto_region 22 with fail
                rename_i K22 hK22
                refine wp_region_lit ?_
                refine wpList_runTo rfl (some 64) rfl (.int .i64 ((b - at_ : Nat) : Int)) wr (by kernel_rfl) ?_
                simp only [Act.put, List.setIfInBounds_toArray, List.set_cons_zero, List.set_cons_succ]
                refine wpList_runTo rfl (some 65) rfl (.bool false) wr (by exact eqI_run (.inr rfl) (.tmp 64) (.const (.int .i64 0)) rfl (by kernel_rfl) rfl hkz _) ?_
                simp only [Act.put, List.setIfInBounds_toArray, List.set_cons_zero, List.set_cons_succ]
                refine wpList_nil ?_
                refine hK22 _ _ ?_
                clear hK22 hkz
                go_upto_region 24 with fail
                rename_i K24 hK24
                refine wp_region_lit ?_
                refine wpList_runTo rfl (some 68) rfl (.int .i64 (at_ : Int)) wr (by kernel_rfl) ?_
                simp only [Act.put, List.setIfInBounds_toArray, List.set_cons_zero, List.set_cons_succ]
                refine wpList_runTo rfl (some 69) rfl (.int .i64 ((b - at_ : Nat) : Int)) wr (by kernel_rfl) ?_
                simp only [Act.put, List.setIfInBounds_toArray, List.set_cons_zero, List.set_cons_succ]
                refine wpList_runTo rfl (some 70) rfl (.int .i64 ((at_ + (b - at_) : Nat) : Int)) wr (by exact addN_run (.tmp 68) (.tmp 69) rfl (by kernel_rfl) (by kernel_rfl) (by omega) _) ?_
                simp only [Act.put, List.setIfInBounds_toArray, List.set_cons_zero, List.set_cons_succ]
                rw [show at_ + (b - at_) = b by omega]
                refine wpList_runTo rfl (some 8) rfl (.int .i64 (b : Int)) wr (by kernel_rfl) ?_
                simp only [Act.put, List.setIfInBounds_toArray, List.set_cons_zero, List.set_cons_succ]
                refine wpList_nil ?_
                refine hK24 _ _ ?_
                clear hK24
                generalize b - at_ = ba at *
                go_upto_region 27 with fail
                rename_i K27 hK27
                refine wp_region_lit ?_
                refine wpList_runTo rfl (some 72) rfl (.int .i64 (b : Int)) wr (by kernel_rfl) ?_
                simp only [Act.put, List.setIfInBounds_toArray, List.set_cons_zero, List.set_cons_succ]
                refine wpList_runTo rfl (some 73) rfl (.int .i64 (k : Int)) wr (by kernel_rfl) ?_
                simp only [Act.put, List.setIfInBounds_toArray, List.set_cons_zero, List.set_cons_succ]
                refine wpList_runTo rfl (some 74) rfl (.int .i64 ((b + k : Nat) : Int)) wr (by exact addN_run (.tmp 72) (.tmp 73) rfl (by kernel_rfl) (by kernel_rfl) (by omega) _) ?_
                simp only [Act.put, List.setIfInBounds_toArray, List.set_cons_zero, List.set_cons_succ]
                refine wpList_runTo rfl (some 75) rfl (v) wr (by kernel_rfl) ?_
                simp only [Act.put, List.setIfInBounds_toArray, List.set_cons_zero, List.set_cons_succ]
                rw [hvf]
                refine wpList_runTo rfl (some 76) rfl (.int .i64 (l.length : Int)) wr (by kernel_rfl) ?_
                simp only [Act.put, List.setIfInBounds_toArray, List.set_cons_zero, List.set_cons_succ]
                rw [← hvf]
                by_cases hle : b + k ≤ l.length
                · have hgt : decide (l.length < b + k) = false := decide_eq_false (by omega)
                  refine wpList_runTo rfl (some 77) rfl (.bool false) wr (by exact gtN_run (n := b + k) (k := l.length) (.tmp 74) (.tmp 76) rfl (by kernel_rfl) (by kernel_rfl) hgt _) ?_
                  simp only [Act.put, List.setIfInBounds_toArray, List.set_cons_zero, List.set_cons_succ]
                  refine wpList_nil ?_
                  refine hK27 _ _ ?_
                  clear hK27 hgt
                  have hcut : By wr (cutV (.slice va l.length vc) b (b + k) vc) ((l.drop b).take k) := by
                    have hy := HR.out.2.o.by'
                    rw [hvf] at hy
                    have := hy.cut (lo := b) (hi := b + k) (mx := vc) (by omega) hle (by omega) (Nat.le_refl _)
                    rw [Nat.add_sub_cancel_left] at this
                    exact this
                  go_upto_region 29 with fail
                  rename_i K29 hK29
                  refine wp_region_lit ?_
                  refine wpList_runTo rfl (some 81) rfl (v) wr (by kernel_rfl) ?_
                  simp only [Act.put, List.setIfInBounds_toArray, List.set_cons_zero, List.set_cons_succ]
                  refine wpList_runTo rfl (some 82) rfl (.int .i64 (b : Int)) wr (by kernel_rfl) ?_
                  simp only [Act.put, List.setIfInBounds_toArray, List.set_cons_zero, List.set_cons_succ]
                  refine wpList_runTo rfl (some 83) rfl (.int .i64 (b : Int)) wr (by kernel_rfl) ?_
                  simp only [Act.put, List.setIfInBounds_toArray, List.set_cons_zero, List.set_cons_succ]
                  refine wpList_runTo rfl (some 84) rfl (.int .i64 (k : Int)) wr (by kernel_rfl) ?_
                  simp only [Act.put, List.setIfInBounds_toArray, List.set_cons_zero, List.set_cons_succ]
                  refine wpList_runTo rfl (some 85) rfl (.int .i64 ((b + k : Nat) : Int)) wr (by exact addN_run (.tmp 83) (.tmp 84) rfl (by kernel_rfl) (by kernel_rfl) (by omega) _) ?_
                  simp only [Act.put, List.setIfInBounds_toArray, List.set_cons_zero, List.set_cons_succ]
                  rw [hvf]
                  refine wpList_runTo rfl (some 86) rfl (cutV (.slice va l.length vc) b (b + k) vc) wr (by exact sliceB_run (lo := b) (hi := b + k) (.tmp 81) (.tmp 82) (.tmp 85) rfl (by kernel_rfl) (by kernel_rfl) (by kernel_rfl) (by omega) (by omega) _) ?_
                  simp only [Act.put, List.setIfInBounds_toArray, List.set_cons_zero, List.set_cons_succ]
                  refine wpList_runTo rfl (some 87) rfl (.string (ofN ((l.drop b).take k))) wr (by exact conv_run (.tmp 86) rfl (by kernel_rfl) hcut) ?_
                  simp only [Act.put, List.setIfInBounds_toArray, List.set_cons_zero, List.set_cons_succ]
                  generalize cutV (.slice va l.length vc) b (b + k) vc = cv at *
                  rw [← hvf]
                  refine wpList_runTo rfl (some 17) rfl (.string (ofN ((l.drop b).take k))) wr (by kernel_rfl) ?_
                  simp only [Act.put, List.setIfInBounds_toArray, List.set_cons_zero, List.set_cons_succ]
                  refine wpList_nil ?_
                  refine hK29 _ _ ?_
                  clear hK29 hcut
                  have hput := put_any HR.out.2.cb hlt (k : Int) (ofN ((l.drop b).take k)) (by omega) (by omega)
                  rw [hT, if_pos rfl] at hput
                  have HF : Hid (rdU l m a2 c0 (i + 1) = .ok (b + k, c.setS i (ofN ((l.drop b).take k))) ∧ RD w (wr.setCell ⟨pc, cOf i, none⟩ (.string (ofN ((l.drop b).take k)))) pz pr pc (c.setS i (ofN ((l.drop b).take k))) v l) := ⟨by rw [HU2.out]; unfold rdF rt; rw [hT, if_pos rfl, hq]; simp only [Int.toNat_natCast]; rw [if_pos hle], HR.out.2.put (setS_cs c hlt hT _)⟩
                  clear HR HU2 HErr HX hq
                  generalize ofN ((l.drop b).take k) = str at *
                  go_upto_region 30 with fail
                  rename_i K30 hK30
                  refine wp_region_lit ?_
                  refine wpList_runTo rfl (some 88) rfl (.int .i64 (b : Int)) wr (by kernel_rfl) ?_
                  simp only [Act.put, List.setIfInBounds_toArray, List.set_cons_zero, List.set_cons_succ]
                  refine wpList_runTo rfl (some 89) rfl (.int .i64 (k : Int)) wr (by kernel_rfl) ?_
                  simp only [Act.put, List.setIfInBounds_toArray, List.set_cons_zero, List.set_cons_succ]
                  refine wpList_runTo rfl (some 90) rfl (.int .i64 ((b + k : Nat) : Int)) wr (by exact addN_run (.tmp 88) (.tmp 89) rfl (by kernel_rfl) (by kernel_rfl) (by omega) _) ?_
                  simp only [Act.put, List.setIfInBounds_toArray, List.set_cons_zero, List.set_cons_succ]
                  refine wpList_runTo rfl (some 8) rfl (.int .i64 ((b + k : Nat) : Int)) wr (by kernel_rfl) ?_
                  simp only [Act.put, List.setIfInBounds_toArray, List.set_cons_zero, List.set_cons_succ]
                  refine wpList_nil ?_
                  refine hK30 _ _ ?_
                  clear hK30
                  generalize b + k = bk at *
                  go_upto_region 31 with fail
                  rename_i K31 hK31
                  refine wp_region_lit ?_
                  refine wpList_runTo rfl (some 91) rfl (.int .i64 (i : Int)) wr (by kernel_rfl) ?_
                  simp only [Act.put, List.setIfInBounds_toArray, List.set_cons_zero, List.set_cons_succ]
                  refine wpList_runTo rfl (some 92) rfl (.int .i64 (k : Int)) wr (by kernel_rfl) ?_
                  simp only [Act.put, List.setIfInBounds_toArray, List.set_cons_zero, List.set_cons_succ]
                  refine wpList_runTo rfl (some 93) rfl (.string str) wr (by kernel_rfl) ?_
                  simp only [Act.put, List.setIfInBounds_toArray, List.set_cons_zero, List.set_cons_succ]
                  refine wpList_callW rfl (some 94) rfl 39 #[.pointer (some ⟨pc, 0, none⟩), .int .i64 (i : Int), .int .i64 (k : Int), .string str] (by kernel_rfl) hput ?_
                  clear hput
                  rintro e W3 ⟨rfl, eW⟩
                  rw [← eW] at HF
                  clear eW
                  refine ⟨_, rfl, ?_⟩
                  simp only [Act.put, List.setIfInBounds_toArray, List.set_cons_zero, List.set_cons_succ]
                  refine wpList_nil ?_
                  refine hK31 _ _ ?_
                  clear hK31
                  go_wp2
                  exact ⟨⟨i + 1, bk, _, by omega, by go_num, rfl, by rw [hM], hle, HF⟩, by simp [intOf]; omega⟩
                · have hgt : decide (l.length < b + k) = true := decide_eq_true (by omega)
                  have hX : X = .error l.length := HErr.out l.length (by rw [HU2.out]; unfold rdF rt; rw [hT, if_pos rfl, hq]; simp only [Int.toNat_natCast]; rw [if_neg hle])
                  refine wpList_runTo rfl (some 77) rfl (.bool true) wr (by exact gtN_run (n := b + k) (k := l.length) (.tmp 74) (.tmp 76) rfl (by kernel_rfl) (by kernel_rfl) hgt _) ?_
                  simp only [Act.put, List.setIfInBounds_toArray, List.set_cons_zero, List.set_cons_succ]
                  refine wpList_nil ?_
                  refine hK27 _ _ ?_
                  clear hK27 hgt HErr HU2 HX hq
                  generalize b + k = bk at *
                  go_upto_region 28 with fail
                  refine wp_region_lit ?_
                  refine load_cmd HR.out.2.o.z (.tmp 5) rfl rfl (by kernel_rfl) ?_
                  simp only [Act.put, List.setIfInBounds_toArray, List.set_cons_zero, List.set_cons_succ]
                  refine wpList_runTo rfl (some 79) rfl (v) wr (by kernel_rfl) ?_
                  simp only [Act.put, List.setIfInBounds_toArray, List.set_cons_zero, List.set_cons_succ]
                  rw [hvf]
                  refine wpList_runTo rfl (some 80) rfl (.int .i64 (l.length : Int)) wr (by kernel_rfl) ?_
                  simp only [Act.put, List.setIfInBounds_toArray, List.set_cons_zero, List.set_cons_succ]
                  rw [← hvf]
                  refine store_cmd (c := zeroC) HR.out.2.o.r (.tmp 2) (.tmp 78) rfl rfl (by kernel_rfl) (by kernel_rfl) ?_
                  simp only [Act.put, List.setIfInBounds_toArray, List.set_cons_zero, List.set_cons_succ]
                  refine wpList_runTo rfl (some 3) rfl (.int .i64 (l.length : Int)) (wr.setRow pr zeroC.cs) (by kernel_rfl) ?_
                  simp only [Act.put, List.setIfInBounds_toArray, List.set_cons_zero, List.set_cons_succ]
                  refine wpList_runTo rfl (some 4) rfl (.int .i64 180) (wr.setRow pr zeroC.cs) (by kernel_rfl) ?_
                  simp only [Act.put, List.setIfInBounds_toArray, List.set_cons_zero, List.set_cons_succ]
                  refine wpList_nil ?_
                  rename_i KX hKX
                  refine hKX _ _ ?_
                  apply wp_ret
                  try simp only [Exit.then]
                  subst hX
                  refine bodyPost_ret (results_c3 (fn := Try.f19) (p := 2) (u := 3) (x := 4) (ty := 27) rfl _ _ pr 27 zeroC.cs (0, 0) _ (by kernel_rfl) HR.out.2.o.r.row Try.underlying27 rfl (by rw [Cm.cs_size]; exact info27)) (by kernel_rfl) ?_
                  exact ⟨rfl, below_setRow HR.out.2.o.bel HR.out.2.o.gr _⟩
            | false =>
              rw [hT] at htx
              have hnu := number_any HR.out.2.o.by' (by omega) at_ 1 1000000000000000000 hat (by decide) (by decide)
              go_upto_region 17 with fail
              rename_i K17 hK17
              refine wp_region_lit ?_
              refine wpList_runTo rfl (some 54) rfl (.int .i64 (i : Int)) wr (by kernel_rfl) ?_
              simp only [Act.put, List.setIfInBounds_toArray, List.set_cons_zero, List.set_cons_succ]
              refine wpList_callW rfl (some 55) rfl 38 #[.int .i64 (i : Int)] (by kernel_rfl) htx ?_
              clear htx
              rintro e w2 ⟨rfl, ew⟩
              replace ew := ew.symm
              subst ew
              refine ⟨_, rfl, ?_⟩
              simp only [Act.put, List.setIfInBounds_toArray, List.set_cons_zero, List.set_cons_succ]
              refine wpList_runTo rfl (some 13) rfl (.bool false) wr (by kernel_rfl) ?_
              simp only [Act.put, List.setIfInBounds_toArray, List.set_cons_zero, List.set_cons_succ]
              refine wpList_nil ?_
              refine hK17 _ _ ?_
              clear hK17
              go_upto_region 21 with fail
              rename_i K21 hK21
              refine wp_region_lit ?_
              refine wpList_runTo rfl (some 58) rfl (v) wr (by kernel_rfl) ?_
              simp only [Act.put, List.setIfInBounds_toArray, List.set_cons_zero, List.set_cons_succ]
              refine wpList_runTo rfl (some 59) rfl (.int .i64 (at_ : Int)) wr (by kernel_rfl) ?_
              simp only [Act.put, List.setIfInBounds_toArray, List.set_cons_zero, List.set_cons_succ]
              refine wpList_runTo rfl (some 60) rfl (.int .i64 1000000000000000000) wr (by kernel_rfl) ?_
              simp only [Act.put, List.setIfInBounds_toArray, List.set_cons_zero, List.set_cons_succ]
              refine wpList_callW rfl (some 61) rfl 37 #[v, .int .i64 (at_ : Int), .int .i64 1, .int .i64 1000000000000000000] (by kernel_rfl) hnu ?_
              clear hnu
              rintro e w2 ⟨rfl, ew⟩
              replace ew := ew.symm
              subst ew
              refine ⟨_, rfl, ?_⟩
              simp only [Act.put, List.setIfInBounds_toArray, List.set_cons_zero, List.set_cons_succ]
              cases hq : rn l at_ 1 1000000000000000000 with
              | none =>
                have hX : X = .error at_ := HErr.out at_ (by rw [HU2.out]; unfold rdF; rw [hT, if_neg (by simp), hq])
                simp only [rnZ, rnK]
                refine wpList_runTo rfl (some 57) rfl (.tuple #[.int .i64 0, .int .i64 ((0 : Nat) : Int)]) wr (by kernel_rfl) ?_
                simp only [Act.put, List.setIfInBounds_toArray, List.set_cons_zero, List.set_cons_succ]
                refine wpList_runTo rfl (some 62) rfl (.int .i64 0) wr (by kernel_rfl) ?_
                simp only [Act.put, List.setIfInBounds_toArray, List.set_cons_zero, List.set_cons_succ]
                refine wpList_runTo rfl (some 63) rfl (.int .i64 0) wr (by kernel_rfl) ?_
                simp only [Act.put, List.setIfInBounds_toArray, List.set_cons_zero, List.set_cons_succ]
                refine wpList_runTo rfl (some 15) rfl (.int .i64 0) wr (by kernel_rfl) ?_
                simp only [Act.put, List.setIfInBounds_toArray, List.set_cons_zero, List.set_cons_succ]
                refine wpList_runTo rfl (some 16) rfl (.int .i64 0) wr (by kernel_rfl) ?_
                simp only [Act.put, List.setIfInBounds_toArray, List.set_cons_zero, List.set_cons_succ]
                refine wpList_nil ?_
                refine hK21 _ _ ?_
                clear hK21 HErr HU2 HX hq
                go_upto_region 23 with fail
                refine wp_region_lit ?_
                refine load_cmd HR.out.2.o.z (.tmp 5) rfl rfl (by kernel_rfl) ?_
                simp only [Act.put, List.setIfInBounds_toArray, List.set_cons_zero, List.set_cons_succ]
                refine wpList_runTo rfl (some 67) rfl (.int .i64 (at_ : Int)) wr (by kernel_rfl) ?_
                simp only [Act.put, List.setIfInBounds_toArray, List.set_cons_zero, List.set_cons_succ]
                refine store_cmd (c := zeroC) HR.out.2.o.r (.tmp 2) (.tmp 66) rfl rfl (by kernel_rfl) (by kernel_rfl) ?_
                simp only [Act.put, List.setIfInBounds_toArray, List.set_cons_zero, List.set_cons_succ]
                refine wpList_runTo rfl (some 3) rfl (.int .i64 (at_ : Int)) (wr.setRow pr zeroC.cs) (by kernel_rfl) ?_
                simp only [Act.put, List.setIfInBounds_toArray, List.set_cons_zero, List.set_cons_succ]
                refine wpList_runTo rfl (some 4) rfl (.int .i64 180) (wr.setRow pr zeroC.cs) (by kernel_rfl) ?_
                simp only [Act.put, List.setIfInBounds_toArray, List.set_cons_zero, List.set_cons_succ]
                refine wpList_nil ?_
                rename_i KX hKX
                refine hKX _ _ ?_
                apply wp_ret
                try simp only [Exit.then]
                subst hX
                refine bodyPost_ret (results_c3 (fn := Try.f19) (p := 2) (u := 3) (x := 4) (ty := 27) rfl _ _ pr 27 zeroC.cs (0, 0) _ (by kernel_rfl) HR.out.2.o.r.row Try.underlying27 rfl (by rw [Cm.cs_size]; exact info27)) (by kernel_rfl) ?_
                exact ⟨rfl, below_setRow HR.out.2.o.bel HR.out.2.o.gr _⟩
              | some p =>
                obtain ⟨zz, b⟩ := p
                obtain ⟨j1, j2, j3, j4⟩ := rn_bd hbb hq
                have j5 := rn_bd10 hbb hq
                obtain ⟨k, rfl⟩ : ∃ k : Nat, zz = k := ⟨zz.toNat, by omega⟩
                have hkz : (((b - at_ : Nat) : Int) == 0) = false := by
                  rw [← Bool.not_eq_true]
                  intro e
                  have := eq_of_beq e
                  omega
                simp only [rnZ, rnK]
                refine wpList_runTo rfl (some 57) rfl (.tuple #[.int .i64 (k : Int), .int .i64 ((b - at_ : Nat) : Int)]) wr (by kernel_rfl) ?_
                simp only [Act.put, List.setIfInBounds_toArray, List.set_cons_zero, List.set_cons_succ]
                refine wpList_runTo rfl (some 62) rfl (.int .i64 (k : Int)) wr (by kernel_rfl) ?_
                simp only [Act.put, List.setIfInBounds_toArray, List.set_cons_zero, List.set_cons_succ]
                refine wpList_runTo rfl (some 63) rfl (.int .i64 ((b - at_ : Nat) : Int)) wr (by kernel_rfl) ?_
                simp only [Act.put, List.setIfInBounds_toArray, List.set_cons_zero, List.set_cons_succ]
                refine wpList_runTo rfl (some 15) rfl (.int .i64 (k : Int)) wr (by kernel_rfl) ?_
                simp only [Act.put, List.setIfInBounds_toArray, List.set_cons_zero, List.set_cons_succ]
                refine wpList_runTo rfl (some 16) rfl (.int .i64 ((b - at_ : Nat) : Int)) wr (by kernel_rfl) ?_
                simp only [Act.put, List.setIfInBounds_toArray, List.set_cons_zero, List.set_cons_succ]
                refine wpList_nil ?_
                refine hK21 _ _ ?_
                clear hK21
                go_upto_region 22 with fail
                rename_i K22 hK22
                refine wp_region_lit ?_
                refine wpList_runTo rfl (some 64) rfl (.int .i64 ((b - at_ : Nat) : Int)) wr (by kernel_rfl) ?_
                simp only [Act.put, List.setIfInBounds_toArray, List.set_cons_zero, List.set_cons_succ]
                refine wpList_runTo rfl (some 65) rfl (.bool false) wr (by exact eqI_run (.inr rfl) (.tmp 64) (.const (.int .i64 0)) rfl (by kernel_rfl) rfl hkz _) ?_
                simp only [Act.put, List.setIfInBounds_toArray, List.set_cons_zero, List.set_cons_succ]
                refine wpList_nil ?_
                refine hK22 _ _ ?_
                clear hK22 hkz
                go_upto_region 24 with fail
                rename_i K24 hK24
                refine wp_region_lit ?_
                refine wpList_runTo rfl (some 68) rfl (.int .i64 (at_ : Int)) wr (by kernel_rfl) ?_
                simp only [Act.put, List.setIfInBounds_toArray, List.set_cons_zero, List.set_cons_succ]
                refine wpList_runTo rfl (some 69) rfl (.int .i64 ((b - at_ : Nat) : Int)) wr (by kernel_rfl) ?_
                simp only [Act.put, List.setIfInBounds_toArray, List.set_cons_zero, List.set_cons_succ]
                refine wpList_runTo rfl (some 70) rfl (.int .i64 ((at_ + (b - at_) : Nat) : Int)) wr (by exact addN_run (.tmp 68) (.tmp 69) rfl (by kernel_rfl) (by kernel_rfl) (by omega) _) ?_
                simp only [Act.put, List.setIfInBounds_toArray, List.set_cons_zero, List.set_cons_succ]
                rw [show at_ + (b - at_) = b by omega]
                refine wpList_runTo rfl (some 8) rfl (.int .i64 (b : Int)) wr (by kernel_rfl) ?_
                simp only [Act.put, List.setIfInBounds_toArray, List.set_cons_zero, List.set_cons_succ]
                refine wpList_nil ?_
                refine hK24 _ _ ?_
                clear hK24
                generalize b - at_ = ba at *
                have hput := put_any HR.out.2.cb hlt (k : Int) ⟨#[]⟩ (by omega) (by omega)
                rw [hT, if_neg (by simp)] at hput
                have HF : Hid (rdU l m a2 c0 (i + 1) = .ok (b, c.setN i (k : Int)) ∧ RD w (wr.setCell ⟨pc, cOf i, none⟩ (.int .i64 (k : Int))) pz pr pc (c.setN i (k : Int)) v l) := ⟨by rw [HU2.out]; unfold rdF; rw [hT, if_neg (by simp), hq], HR.out.2.put (setN_cs c hlt hT _)⟩
                clear HR HU2 HErr HX hq
                go_upto_region 31 with fail
                rename_i K31 hK31
                refine wp_region_lit ?_
                refine wpList_runTo rfl (some 91) rfl (.int .i64 (i : Int)) wr (by kernel_rfl) ?_
                simp only [Act.put, List.setIfInBounds_toArray, List.set_cons_zero, List.set_cons_succ]
                refine wpList_runTo rfl (some 92) rfl (.int .i64 (k : Int)) wr (by kernel_rfl) ?_
                simp only [Act.put, List.setIfInBounds_toArray, List.set_cons_zero, List.set_cons_succ]
                refine wpList_runTo rfl (some 93) rfl (.string ⟨#[]⟩) wr (by kernel_rfl) ?_
                simp only [Act.put, List.setIfInBounds_toArray, List.set_cons_zero, List.set_cons_succ]
                refine wpList_callW rfl (some 94) rfl 39 #[.pointer (some ⟨pc, 0, none⟩), .int .i64 (i : Int), .int .i64 (k : Int), .string ⟨#[]⟩] (by kernel_rfl) hput ?_
                clear hput
                rintro e W3 ⟨rfl, eW⟩
                rw [← eW] at HF
                clear eW
                refine ⟨_, rfl, ?_⟩
                simp only [Act.put, List.setIfInBounds_toArray, List.set_cons_zero, List.set_cons_succ]
                refine wpList_nil ?_
                refine hK31 _ _ ?_
                clear hK31
                go_wp2
                exact ⟨⟨i + 1, b, _, by omega, by go_num, rfl, by rw [hM], j4, HF⟩, by simp [intOf]; omega⟩
        · have hi24 : i = 24 := by omega
          have hnl : ¬ (i : Int) < 24 := by omega
          have hX := HX.out
          have hR24 := HR.out.1
          rw [hi24] at hR24
          rw [hR24] at hX
          simp only at hX
          clear hR24 HX
          generalize m / 2 ^ i = z2 at *
          obtain ⟨va, vc, hvf, hvc⟩ := HR.out.2.o.by'.form
          go_upto_region 32 with fail
          rename_i K32 hK32
          refine wp_region_lit ?_
          refine wpList_runTo rfl (some 95) rfl (.int .i64 (at_ : Int)) wr (by kernel_rfl) ?_
          simp only [Act.put, List.setIfInBounds_toArray, List.set_cons_zero, List.set_cons_succ]
          refine wpList_runTo rfl (some 96) rfl (v) wr (by kernel_rfl) ?_
          simp only [Act.put, List.setIfInBounds_toArray, List.set_cons_zero, List.set_cons_succ]
          rw [hvf]
          refine wpList_runTo rfl (some 97) rfl (.int .i64 (l.length : Int)) wr (by kernel_rfl) ?_
          simp only [Act.put, List.setIfInBounds_toArray, List.set_cons_zero, List.set_cons_succ]
          rw [← hvf]
          by_cases hal : at_ < l.length
          · rw [if_pos hal] at hX
            have hd : decide (at_ < l.length) = true := decide_eq_true hal
            refine wpList_runTo rfl (some 98) rfl (.bool true) wr (by exact ltN_run (n := at_) (k := l.length) (.tmp 95) (.tmp 97) rfl (by kernel_rfl) (by kernel_rfl) hd _) ?_
            simp only [Act.put, List.setIfInBounds_toArray, List.set_cons_zero, List.set_cons_succ]
            refine wpList_nil ?_
            refine hK32 _ _ ?_
            clear hK32 hd
            go_upto_region 33 with fail
            refine wp_region_lit ?_
            refine load_cmd HR.out.2.o.z (.tmp 5) rfl rfl (by kernel_rfl) ?_
            simp only [Act.put, List.setIfInBounds_toArray, List.set_cons_zero, List.set_cons_succ]
            refine wpList_runTo rfl (some 100) rfl (.int .i64 (at_ : Int)) wr (by kernel_rfl) ?_
            simp only [Act.put, List.setIfInBounds_toArray, List.set_cons_zero, List.set_cons_succ]
            refine store_cmd (c := zeroC) HR.out.2.o.r (.tmp 2) (.tmp 99) rfl rfl (by kernel_rfl) (by kernel_rfl) ?_
            simp only [Act.put, List.setIfInBounds_toArray, List.set_cons_zero, List.set_cons_succ]
            refine wpList_runTo rfl (some 3) rfl (.int .i64 (at_ : Int)) (wr.setRow pr zeroC.cs) (by kernel_rfl) ?_
            simp only [Act.put, List.setIfInBounds_toArray, List.set_cons_zero, List.set_cons_succ]
            refine wpList_runTo rfl (some 4) rfl (.int .i64 180) (wr.setRow pr zeroC.cs) (by kernel_rfl) ?_
            simp only [Act.put, List.setIfInBounds_toArray, List.set_cons_zero, List.set_cons_succ]
            refine wpList_nil ?_
            rename_i KX hKX
            refine hKX _ _ ?_
            apply wp_ret
            try simp only [Exit.then]
            subst hX
            refine bodyPost_ret (results_c3 (fn := Try.f19) (p := 2) (u := 3) (x := 4) (ty := 27) rfl _ _ pr 27 zeroC.cs (0, 0) _ (by kernel_rfl) HR.out.2.o.r.row Try.underlying27 rfl (by rw [Cm.cs_size]; exact info27)) (by kernel_rfl) ?_
            exact ⟨rfl, below_setRow HR.out.2.o.bel HR.out.2.o.gr _⟩
          · rw [if_neg hal] at hX
            have hd : decide (at_ < l.length) = false := decide_eq_false hal
            refine wpList_runTo rfl (some 98) rfl (.bool false) wr (by exact ltN_run (n := at_) (k := l.length) (.tmp 95) (.tmp 97) rfl (by kernel_rfl) (by kernel_rfl) hd _) ?_
            simp only [Act.put, List.setIfInBounds_toArray, List.set_cons_zero, List.set_cons_succ]
            refine wpList_nil ?_
            refine hK32 _ _ ?_
            clear hK32 hd
            go_upto_region 34 with fail
            rename_i KX hKX
            refine wp_region_lit ?_
            refine load_cmd HR.out.2.cb (.tmp 10) rfl rfl (by kernel_rfl) ?_
            simp only [Act.put, List.setIfInBounds_toArray, List.set_cons_zero, List.set_cons_succ]
            refine store_cmd (c := c) HR.out.2.o.r (.tmp 2) (.tmp 101) rfl rfl (by kernel_rfl) (by kernel_rfl) ?_
            simp only [Act.put, List.setIfInBounds_toArray, List.set_cons_zero, List.set_cons_succ]
            refine wpList_runTo rfl (some 3) rfl (.int .i64 0) (wr.setRow pr c.cs) (by kernel_rfl) ?_
            simp only [Act.put, List.setIfInBounds_toArray, List.set_cons_zero, List.set_cons_succ]
            refine wpList_runTo rfl (some 4) rfl (.int .i64 0) (wr.setRow pr c.cs) (by kernel_rfl) ?_
            simp only [Act.put, List.setIfInBounds_toArray, List.set_cons_zero, List.set_cons_succ]
            refine wpList_nil ?_
            refine hKX _ _ ?_
            apply wp_ret
            try simp only [Exit.then]
            subst hX
            refine bodyPost_ret (results_c3 (fn := Try.f19) (p := 2) (u := 3) (x := 4) (ty := 27) rfl _ _ pr 27 c.cs (0, 0) _ (by kernel_rfl) HR.out.2.o.r.row Try.underlying27 rfl (by rw [Cm.cs_size]; exact info27)) (by kernel_rfl) ?_
            exact ⟨rfl, below_setRow HR.out.2.o.bel HR.out.2.o.gr _⟩
end Go.Proofs.Ytjnnecoikcmaeaa
