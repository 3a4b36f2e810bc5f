/-
  tape: the first record of bytes.
-/
import Derived.Test.YtjnnecoikcmaeaaTQ1
namespace Go.Proofs.Ytjnnecoikcmaeaa
set_option linter.unusedVariables false
set_option linter.unusedSimpArgs false
open Go.RowKit Go.Great

def okD (x : Except Nat Cm) : Bool := match x with
  | .error _ => false
  | .ok _ => true
/-- The command of a record that may be there. -/
def cmdL (n : Nat) (l : List Nat) : List Nat := (l.take (6 + n)).drop 6
structure FrOk (k : Nat) (l : List Nat) (n : Nat) : Prop where
  two : 2 ≤ l.length
  len : getN (dN l) 2 = n
  n1 : 1 ≤ n
  n6 : n ≤ 600
  all : 6 + n ≤ l.length
  rc : l.take (6 + n) = recL k (cmdL n l)
  dc : okD (dec (cmdL n l)) = true
theorem sliceH_run {op : Oper} {a : Act} {ao : Option Addr} {n cap hi : Nat} (x z u : Operand) (ho : op.op = .slice 28 x none (some z) (some u)) (hx : a.eval x = .slice ao n cap) (hz : a.eval z = .int .i64 (hi : Int)) (hu : a.eval u = .int .i64 (hi : Int)) (h2 : hi ≤ cap) (w : World) : (execOp a.eval op).run Try.prog w = .ok (.value (cutV (.slice ao n cap) 0 hi hi)) w := by
  have HS : (Instr.sliceAt 28 (.slice ao n cap) none (some (.int .i64 (hi : Int))) (some (.int .i64 (hi : Int)))).run Try.prog w = .ok (cutV (.slice ao n cap) 0 hi hi) w := by
    rw [run_sliceAt_slice _ _ _ _ _ _ undB, run_slice_hm _ _ _ _ _ undB .i64 .i64 (hi : Int) (hi : Int) (by omega) (by omega) (by omega), size5']
    show Result.ok _ w = _
    unfold sliced cutV
    simp
  unfold execOp
  simp only [ho, hx, hz, hu, Option.map_some, Option.map_none]
  simp only [HS, Sem.run_bind, Result.andThen_ok]
  rfl
theorem getN_two (l : List Nat) (h : BB l) (hl : 2 ≤ l.length) : getN (dN l) 2 < 65536 := by
  have := getN_lt (dN l) 2 (fun j hj => dN_bb h j (by omega))
  simpa using this
/-- What firstRecord answers. -/
def FrR (w : World) (k : Nat) (l : List Nat) (e : Ending) (w' : World) : Prop := ∃ (rv : Value) (b : Bool), e = .returned (.tuple #[rv, .bool b]) ∧ Hid (Below w.heap.size w w' ∧ ((b = true ∧ ∃ n, FrOk k l n ∧ By w' rv (l.take (6 + n))) ∨ (b = false ∧ ∀ n, ¬ FrOk k l n)))
set_option maxRecDepth 100000 in
set_option maxHeartbeats 4000000 in
theorem firstRecord_any {w : World} {v : Value} {l : List Nat} (h : By w v l) (hl : l.length ≤ 140737488355328) (k : Nat) (hk : k < 1000000000) : Calls Try.prog 34 #[v, .int .i64 (k : Int)] w fun e w' => FrR w k l e w' := by
  have HB0 : Hid (Below w.heap.size w w) := Below.refl _ _
  have hbb := h.bb
  by_cases h2 : 2 ≤ l.length
  · have hg := Get_two h h2 hl
    have hn := getN_two l hbb h2
    have HN : Hid (∀ m, FrOk k l m → m = getN (dN l) 2) := fun m hm => hm.len.symm
    obtain ⟨n, hnn⟩ : ∃ n, n = getN (dN l) 2 := ⟨_, rfl⟩
    have HNN : Hid (n = getN (dN l) 2) := hnn
    rw [← hnn] at hg hn
    clear hnn
    obtain ⟨va, vc, hvf, hvc⟩ := h.form
    subst hvf
    have HY : Hid (By w (.slice va l.length vc) l) := h
    clear h
    have hcv : IntKind.i64.wrap (n : Int) = (n : Int) := by rw [IntKind.wrap_i64]; omega
    by_cases h1 : 1 ≤ n ∧ n ≤ 600
    · obtain ⟨h1a, h1b⟩ := h1
      have x1 : ¬ (n : Int) < 1 := by omega
      have x2 : ¬ 600 < (n : Int) := by omega
      by_cases h6 : 6 + n ≤ l.length
      · have x3 : ¬ (l.length : Int) < 6 + (n : Int) := by omega
        have hcut := HY.out.cut (lo := 0) (hi := 6 + n) (mx := 6 + n) (Nat.zero_le _) h6 (Nat.le_refl _) (by omega)
        rw [List.drop_zero, Nat.sub_zero] at hcut
        have HCt : Hid (By w (cutV (.slice va l.length vc) 0 (6 + n) (6 + n)) (l.take (6 + n))) := hcut
        have HTl : Hid ((l.take (6 + n)).length = 6 + n) := by
          show _ = _
          rw [List.length_take]; omega
        clear hcut
        go_enter Try.func34, Try.ntmps34
        go_wp2_with (go_at_call 49; fail)
        refine hg.mono ?_
        rintro e w1 ⟨rfl, ew⟩
        replace ew := ew.symm
        subst ew
        clear hg
        go_upto_region 7 with fail
        rename_i K7 hK7
        refine wp_region_lit ?_
        refine wpList_runTo rfl (some 35) rfl (.slice va l.length vc) w (by kernel_rfl) ?_
        simp only [Act.put, List.setIfInBounds_toArray, List.set_cons_zero, List.set_cons_succ]
        refine wpList_runTo rfl (some 36) rfl (.int .i64 ((6 + n : Nat) : Int)) w (by kernel_rfl) ?_
        simp only [Act.put, List.setIfInBounds_toArray, List.set_cons_zero, List.set_cons_succ]
        refine wpList_runTo rfl (some 37) rfl (.int .i64 ((6 + n : Nat) : Int)) w (by kernel_rfl) ?_
        simp only [Act.put, List.setIfInBounds_toArray, List.set_cons_zero, List.set_cons_succ]
        refine wpList_runTo rfl (some 38) rfl (cutV (.slice va l.length vc) 0 (6 + n) (6 + n)) w (by exact sliceH_run (.tmp 35) (.tmp 36) (.tmp 37) rfl (by kernel_rfl) (by kernel_rfl) (by kernel_rfl) (by omega) _) ?_
        simp only [Act.put, List.setIfInBounds_toArray, List.set_cons_zero, List.set_cons_succ]
        refine wpList_runTo rfl (some 9) rfl (cutV (.slice va l.length vc) 0 (6 + n) (6 + n)) w (by kernel_rfl) ?_
        simp only [Act.put, List.setIfInBounds_toArray, List.set_cons_zero, List.set_cons_succ]
        refine wpList_nil ?_
        refine hK7 _ _ ?_
        clear hK7
        generalize cutV (.slice va l.length vc) 0 (6 + n) (6 + n) = rv at *
        have hco := commandOf_any HCt.out (by rw [HTl.out]; omega) (by rw [HTl.out]; omega)
        go_wp2_with (go_at_call 35; fail)
        refine hco.mono ?_
        rintro e w1 ⟨cv, rfl, ew, hcb⟩
        replace ew := ew.symm
        subst ew
        have HCm : Hid (By w cv (cmdL n l)) := hcb
        clear hco hcb
        have hcl : (cmdL n l).length = n := by
          unfold cmdL
          rw [List.length_drop, HTl.out]; omega
        have HCl : Hid ((cmdL n l).length = n) := hcl
        have hre := record_any HCm.out (by omega) k hk
        clear hcl
        go_wp2_with (go_at_call 32; fail)
        refine hre.mono ?_
        rintro e W1 ⟨rv2, rfl, hx⟩
        have HY1 : Hid (Below w.heap.size w W1 ∧ By W1 rv (l.take (6 + n)) ∧ By W1 cv (cmdL n l)) := ⟨hx.out.bel, HCt.out.below hx.out.bel, HCm.out.below hx.out.bel⟩
        have heq := Equal_any HY1.out.2.1 hx.out.by'
        clear hre hx HCt HCm
        go_wp2_with (go_at_call 50; fail)
        refine heq.mono ?_
        rintro e w2 ⟨rfl, ew⟩
        replace ew := ew.symm
        subst ew
        clear heq
        by_cases hrec : l.take (6 + n) = recL k (cmdL n l)
        · have hde := Decode_any HY1.out.2.2 (by rw [HCl.out]; omega)
          rw [decide_eq_true hrec]
          have HOk : Hid (okD (dec (cmdL n l)) = true → FrOk k l n) := fun hd => ⟨h2, HNN.out.symm, h1a, h1b, h6, hrec, hd⟩
          have HNo : Hid (okD (dec (cmdL n l)) = false → ∀ m, ¬ FrOk k l m) := fun hd m hm => by
            have e := HN.out m hm
            rw [← HNN.out] at e
            subst e
            rw [hm.dc] at hd
            cases hd
          clear hrec
          go_upto_region 11 with fail
          rename_i K11 hK11
          refine wp_region_lit ?_
          refine wpList_runTo rfl (some 48) rfl (cv) W1 (by kernel_rfl) ?_
          simp only [Act.put, List.setIfInBounds_toArray, List.set_cons_zero, List.set_cons_succ]
          refine wpList_callW rfl (some 49) rfl 10 #[cv] (by kernel_rfl) hde ?_
          clear hde
          intro e W2 hx
          cases hd : dec (cmdL n l) with
          | error p =>
            rw [hd] at hx
            obtain ⟨g, rfl, hx2⟩ := hx
            have HF : Hid (∀ q, Below w.heap.size w ((W2.alloc (.cells zeroC.cs 27)).setRow W2.heap.size zeroC.cs |>.drewN q) ∧ ∀ m, ¬ FrOk k l m) := fun q => ⟨below_drewN (below_setRow ((below_step HY1.out.1 hx2.out.1).alloc (below_step HY1.out.1 hx2.out.1).size _) (below_step HY1.out.1 hx2.out.1).size _) q, HNo.out (by rw [hd]; rfl)⟩
            refine ⟨_, rfl, ?_⟩
            clear hx2 HOk HNo hd
            simp only [Act.put, List.setIfInBounds_toArray, List.set_cons_zero, List.set_cons_succ]
            refine wpList_runTo rfl (some 47) rfl (.tuple #[.agg zeroC.cs, .iface 54 (.pointer (some ⟨g, 0, none⟩))]) W2 (by kernel_rfl) ?_
            simp only [Act.put, List.setIfInBounds_toArray, List.set_cons_zero, List.set_cons_succ]
            refine wpList_runTo rfl (some 50) rfl (.agg zeroC.cs) W2 (by kernel_rfl) ?_
            simp only [Act.put, List.setIfInBounds_toArray, List.set_cons_zero, List.set_cons_succ]
            refine wpList_runTo rfl (some 51) rfl (.iface 54 (.pointer (some ⟨g, 0, none⟩))) W2 (by kernel_rfl) ?_
            simp only [Act.put, List.setIfInBounds_toArray, List.set_cons_zero, List.set_cons_succ]
            refine wpList_runTo rfl (some 11) rfl (.pointer (some ⟨W2.heap.size, 0, none⟩)) (W2.alloc (.cells zeroC.cs 27)) (by kernel_rfl) ?_
            simp only [Act.put, List.setIfInBounds_toArray, List.set_cons_zero, List.set_cons_succ]
            refine store_cmd (c := zeroC) (c' := zeroC) (Blk.new W2 _ _) (.tmp 11) (.tmp 50) rfl rfl (by kernel_rfl) (by kernel_rfl) ?_
            simp only [Act.put, List.setIfInBounds_toArray, List.set_cons_zero, List.set_cons_succ]
            generalize (W2.alloc (.cells zeroC.cs 27)).setRow W2.heap.size zeroC.cs = W3 at *
            refine wpList_runTo rfl (some 12) rfl (.iface 54 (.pointer (some ⟨g, 0, none⟩))) W3 (by kernel_rfl) ?_
            simp only [Act.put, List.setIfInBounds_toArray, List.set_cons_zero, List.set_cons_succ]
            refine wpList_nil ?_
            refine hK11 _ _ ?_
            clear hK11
            generalize zeroC.cs = Zc at *
            go_upto_region 12 with fail
            go_quiet (fail)
            go_wp2
            go_ret2
            exact ⟨_, _, rfl, (HF.out _).1, .inr ⟨rfl, (HF.out 0).2⟩⟩
          | ok c =>
            rw [hd] at hx
            obtain ⟨rfl, hx2⟩ := hx
            have HF : Hid (∀ q, Below w.heap.size w ((W2.alloc (.cells zeroC.cs 27)).setRow W2.heap.size c.cs |>.drewN q) ∧ By ((W2.alloc (.cells zeroC.cs 27)).setRow W2.heap.size c.cs |>.drewN q) rv (l.take (6 + n)) ∧ FrOk k l n) := fun q => by
              have b3 : Below W2.heap.size W2 ((W2.alloc (.cells zeroC.cs 27)).setRow W2.heap.size c.cs |>.drewN q) := below_drewN (below_setRow ((Below.refl _ W2).alloc (Nat.le_refl _) _) (Nat.le_refl _) _) q
              exact ⟨below_step (below_step HY1.out.1 hx2.out) b3, (HY1.out.2.1.below hx2.out).below b3, HOk.out (by rw [hd]; rfl)⟩
            refine ⟨_, rfl, ?_⟩
            clear hx2 HOk HNo hd
            simp only [Act.put, List.setIfInBounds_toArray, List.set_cons_zero, List.set_cons_succ]
            refine wpList_runTo rfl (some 47) rfl (.tuple #[.agg c.cs, .nilIface]) W2 (by kernel_rfl) ?_
            simp only [Act.put, List.setIfInBounds_toArray, List.set_cons_zero, List.set_cons_succ]
            refine wpList_runTo rfl (some 50) rfl (.agg c.cs) W2 (by kernel_rfl) ?_
            simp only [Act.put, List.setIfInBounds_toArray, List.set_cons_zero, List.set_cons_succ]
            refine wpList_runTo rfl (some 51) rfl (.nilIface) W2 (by kernel_rfl) ?_
            simp only [Act.put, List.setIfInBounds_toArray, List.set_cons_zero, List.set_cons_succ]
            refine wpList_runTo rfl (some 11) rfl (.pointer (some ⟨W2.heap.size, 0, none⟩)) (W2.alloc (.cells zeroC.cs 27)) (by kernel_rfl) ?_
            simp only [Act.put, List.setIfInBounds_toArray, List.set_cons_zero, List.set_cons_succ]
            refine store_cmd (c := c) (c' := zeroC) (Blk.new W2 _ _) (.tmp 11) (.tmp 50) rfl rfl (by kernel_rfl) (by kernel_rfl) ?_
            simp only [Act.put, List.setIfInBounds_toArray, List.set_cons_zero, List.set_cons_succ]
            generalize (W2.alloc (.cells zeroC.cs 27)).setRow W2.heap.size c.cs = W3 at *
            refine wpList_runTo rfl (some 12) rfl (.nilIface) W3 (by kernel_rfl) ?_
            simp only [Act.put, List.setIfInBounds_toArray, List.set_cons_zero, List.set_cons_succ]
            refine wpList_nil ?_
            refine hK11 _ _ ?_
            clear hK11
            generalize c.cs = Zc at *
            go_upto_region 12 with fail
            go_quiet (fail)
            go_wp2
            go_ret2
            exact ⟨_, _, rfl, (HF.out _).1, .inl ⟨rfl, n, (HF.out 0).2.2, (HF.out _).2.1⟩⟩
        · have HF : Hid (Below w.heap.size w W1 ∧ ∀ m, ¬ FrOk k l m) := ⟨HY1.out.1, fun m hm => by
            have e := HN.out m hm
            rw [← HNN.out] at e
            subst e
            exact hrec hm.rc⟩
          rw [decide_eq_false hrec]
          clear hrec HY1
          go_wp2
          go_ret2
          exact ⟨_, _, rfl, HF.out.1, .inr ⟨rfl, HF.out.2⟩⟩
      · have x3 : (l.length : Int) < 6 + (n : Int) := by omega
        have HF : Hid (∀ m, ¬ FrOk k l m) := fun m hm => by
          have e := HN.out m hm
          rw [← HNN.out] at e
          subst e
          exact h6 hm.all
        clear HY
        go_enter Try.func34, Try.ntmps34
        go_wp2_with (go_at_call 49; fail)
        refine hg.mono ?_
        rintro e w1 ⟨rfl, ew⟩
        replace ew := ew.symm
        subst ew
        go_wp2
        go_ret2
        exact ⟨_, _, rfl, HB0.out, .inr ⟨rfl, HF.out⟩⟩
    · have HF : Hid (∀ m, ¬ FrOk k l m) := fun m hm => by
        have e := HN.out m hm
        rw [← HNN.out] at e
        subst e
        exact h1 ⟨hm.n1, hm.n6⟩
      clear HY
      by_cases h1a : n < 1
      · have x1 : (n : Int) < 1 := by omega
        go_enter Try.func34, Try.ntmps34
        go_wp2_with (go_at_call 49; fail)
        refine hg.mono ?_
        rintro e w1 ⟨rfl, ew⟩
        replace ew := ew.symm
        subst ew
        go_wp2
        go_ret2
        exact ⟨_, _, rfl, HB0.out, .inr ⟨rfl, HF.out⟩⟩
      · have x1 : ¬ (n : Int) < 1 := by omega
        have x2 : 600 < (n : Int) := by omega
        go_enter Try.func34, Try.ntmps34
        go_wp2_with (go_at_call 49; fail)
        refine hg.mono ?_
        rintro e w1 ⟨rfl, ew⟩
        replace ew := ew.symm
        subst ew
        go_wp2
        go_ret2
        exact ⟨_, _, rfl, HB0.out, .inr ⟨rfl, HF.out⟩⟩
  · have hg := Get_no h (by omega)
    have HF : Hid (∀ m, ¬ FrOk k l m) := fun m hm => h2 hm.two
    obtain ⟨va, vc, hvf, hvc⟩ := h.form
    subst hvf
    clear h
    go_enter Try.func34, Try.ntmps34
    go_wp2_with (go_at_call 49; fail)
    refine hg.mono ?_
    rintro e w1 ⟨rfl, ew⟩
    replace ew := ew.symm
    subst ew
    go_wp2
    go_ret2
    exact ⟨_, _, rfl, HB0.out, .inr ⟨rfl, HF.out⟩⟩
end Go.Proofs.Ytjnnecoikcmaeaa
