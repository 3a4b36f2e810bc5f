/-
  tape: Encode.
-/
import Derived.Test.YtjnnecoikcmaeaaTP5
import Derived.Laws.AppendOwnNone
namespace Go.Proofs.Ytjnnecoikcmaeaa
set_option linter.unusedVariables false
set_option linter.unusedSimpArgs false
open Go.RowKit Go.Great

theorem inv0_run {op : Oper} {a : Act} {T F : Nat} {V : Value} {w : World} (nm : String) (x : Operand) (ho : op.op = .call { callee := .invoke x nm, args := #[], argTypes := #[] }) (hx : a.eval x = .iface T V) (hm : (method 238 T V nm).run Try.prog w = .ok (F, V) w) (hcf : ∀ (xs : Array Value) (w : World), Sem.run Try.prog (callFunc F xs) w = .ok (.enter F xs) w) : (execOp a.eval op).run Try.prog w = .ok (.enter F #[V]) w := by
  unfold execOp
  simp only [ho, resolve, hx]
  go_simp
theorem inv1_run {op : Oper} {a : Act} {T F : Nat} {V v1 : Value} {w : World} {t : TypeId} (nm : String) (x y : Operand) (ho : op.op = .call { callee := .invoke x nm, args := #[y], argTypes := #[t] }) (hx : a.eval x = .iface T V) (hy : a.eval y = v1) (hm : (method 238 T V nm).run Try.prog w = .ok (F, V) w) (hcf : ∀ (xs : Array Value) (w : World), Sem.run Try.prog (callFunc F xs) w = .ok (.enter F xs) w) : (execOp a.eval op).run Try.prog w = .ok (.enter F #[V, v1]) w := by
  unfold execOp
  simp only [ho, resolve, hx, hy, List.map_toArray, List.map_cons, List.map_nil]
  go_simp
theorem inv2_run {op : Oper} {a : Act} {T F : Nat} {V v1 v2 : Value} {w : World} {t u : TypeId} (nm : String) (x y z : Operand) (ho : op.op = .call { callee := .invoke x nm, args := #[y, z], argTypes := #[t, u] }) (hx : a.eval x = .iface T V) (hy : a.eval y = v1) (hz : a.eval z = v2) (hm : (method 238 T V nm).run Try.prog w = .ok (F, V) w) (hcf : ∀ (xs : Array Value) (w : World), Sem.run Try.prog (callFunc F xs) w = .ok (.enter F xs) w) : (execOp a.eval op).run Try.prog w = .ok (.enter F #[V, v1, v2]) w := by
  unfold execOp
  simp only [ho, resolve, hx, hy, hz, List.map_toArray, List.map_cons, List.map_nil]
  go_simp
theorem or_run {op : Oper} {a : Act} {m k : Nat} (x y : Operand) (ho : op.op = .binOp .or 2 x y 2) (hx : a.eval x = .int .i64 (m : Int)) (hy : a.eval y = .int .i64 ((2 ^ k : Nat) : Int)) (hm : m < 2 ^ k) (hk : k < 24) (w : World) : (execOp a.eval op).run Try.prog w = .ok (.value (.int .i64 ((m + 2 ^ k : Nat) : Int))) w := by
  have h24 : 2 ^ k ≤ 2 ^ 24 := Nat.pow_le_pow_right (by decide) (by omega)
  have e : bits .or .i64 (m : Int) ((2 ^ k : Nat) : Int) = ((m + 2 ^ k : Nat) : Int) := by
    rw [i64_or_nat m (2 ^ k) (by omega) (by omega)]
    have := or_low (u := m) (x := 1) (k := k) hm
    rw [Nat.one_mul] at this
    rw [this]
  generalize 2 ^ k = q at *
  unfold execOp
  simp only [ho, hx, hy]
  go_simp
theorem run_append_none0 {P : Program} (w : World) (t ty e : TypeId) (i : TypeInfo) (ht : P.underlying t = some (.slice e)) (hi : P.info? e = some i) (base : Option Addr) (n cap : Nat) (h : n ≤ cap) (ax : Option Addr) (cx : Nat) :
    (Builtin.append_ #[t, t] ty #[.slice base n cap, .slice ax 0 cx]).run P w = .ok (.slice base n cap) w := by
  cases base <;> cases ax <;> simp [Builtin.append_, run_underlying ht, sizeOf, typeInfo, hi, Builtin.lenOf, Builtin.firstCells, h, storeCells, loadCells, loadCellsFrom]
/-- Bytes behind bytes of one's own. -/
theorem run_append_by {w : World} {v u : Value} {l m : List Nat} (hr : RowAt w 5 1 v l.length (bvals l)) (hu : By w u m) (hl : l.length + m.length ≤ 100000000000) (ty : TypeId) :
    ∃ v' w', (Builtin.append_ #[28, 28] ty #[v, u]).run Try.prog w = .ok v' w' ∧ RowAt w' 5 1 v' (l ++ m).length (bvals (l ++ m)) ∧ Fr w w' (fun b => v.ownBlock = some b) ∧ (v'.ownBlock = v.ownBlock ∨ v'.ownBlock = some w.heap.size) := by
  obtain ⟨i0, hi, hz0, hz1, hz2⟩ := info_parts info5
  have hmx : 100000000000 ≤ maxLen := by decide
  obtain ⟨a, cap, rfl, h1, h2, h3⟩ := hu.ex
  by_cases hm : m = []
  · subst hm
    obtain ⟨ao, co, rfl, hle⟩ := hr.form
    exact ⟨_, _, run_append_none0 w 28 ty 5 i0 Try.underlying28 hi ao _ co hle a cap, by rw [List.append_nil]; exact hr, Fr.refl _ _, .inl rfl⟩
  · rcases h3 with h3 | ⟨b, off, rfl, h3⟩
    · exact absurd h3 hm
    · have hm0 : 0 < m.length := List.length_pos_iff.2 hm
      obtain ⟨v', w', k1, k2, k3, k4⟩ := run_append_row (P := Try.prog) w 28 ty 5 i0 _ 1 1 Try.underlying28 hi hz0 hz1 hz2 rfl v l.length _ hr ⟨b, off, none⟩ m.length cap (bvals m) (by rw [bvals_length, Nat.mul_one]) (fun j x hj => by
        rw [Addr.add_mid]
        unfold bvals at hj
        rw [List.getElem?_map] at hj
        cases hx : m[j]? with
        | none => rw [hx] at hj; cases hj
        | some y =>
          rw [hx] at hj
          have e : .int .u8 (y : Int) = x := by simpa using hj
          subst e
          exact h3 j y hx) (bvals_one m) (.inl hm0) (by omega) (by omega)
      refine ⟨v', w', k1, by rw [List.length_append, bvals_append]; exact k2, k3, ?_⟩
      rcases k4 with k4 | ⟨k4, _⟩
      · exact .inl k4
      · exact .inr k4
/-- Bytes that one made. -/
structure RowB (w w' : World) (v : Value) (l : List Nat) : Prop where
  row : RowAt w' 5 1 v l.length (bvals l)
  bb : BB l
  bel : Below w.heap.size w w'
  low : ∀ g, v.ownBlock = some g → w.heap.size ≤ g
theorem RowB.by' {w w' : World} {v : Value} {l : List Nat} (h : RowB w w' v l) : By w' v l := h.row.by' h.bb
theorem OwnB.rowB {w w' : World} {v : Value} {l : List Nat} (h : OwnB w w' v l) : RowB w w' v l := ⟨h.row, h.bb, h.bel, h.low⟩
theorem RowB.since {w0 w w' : World} {v : Value} {l : List Nat} (h : RowB w w' v l) (hb : Below w0.heap.size w0 w) : RowB w0 w' v l := ⟨h.row, h.bb, below_step hb h.bel, fun g hg => Nat.le_trans hb.size (h.low g hg)⟩
theorem RowB.app {w w1 : World} {v u : Value} {l m : List Nat} (h : RowB w w1 v l) (hu : By w1 u m) (hl : l.length + m.length ≤ 100000000000) (ty : TypeId) :
    ∃ v' w', (Builtin.append_ #[28, 28] ty #[v, u]).run Try.prog w1 = .ok v' w' ∧ RowB w w' v' (l ++ m) := by
  obtain ⟨v', w', k1, k2, k3, k4⟩ := run_append_by h.row hu hl ty
  refine ⟨v', w', k1, k2, h.bb.app hu.bb, ⟨k3.os.trans h.bel.os, k3.tape.trans h.bel.tape, k3.output.trans h.bel.output, Nat.le_trans h.bel.size k3.size, fun q hq => (k3.block q (Nat.lt_of_lt_of_le hq h.bel.size) (fun e => by have := h.low q e; omega)).trans (h.bel.block q hq)⟩, fun g hg => ?_⟩
  rcases k4 with k4 | k4
  · exact h.low g (k4 ▸ hg)
  · rw [k4] at hg
    injection hg with hg
    subst hg
    exact h.bel.size
/-- Where Encode stands. -/
structure EI (w wr : World) (c : Cm) (i : Nat) (v : Value) : Prop where
  bel : Below w.heap.size w wr
  blk : Blk wr w.heap.size 27 c.cs
  all : allM c i = true
  by' : By wr v (vlU c i)
theorem EI.below {w wr w' : World} {c : Cm} {i : Nat} {v : Value} (h : EI w wr c i v) (hb : Below wr.heap.size wr w') : EI w w' c i v := ⟨below_step h.bel hb, h.blk.below hb h.blk.lt, h.all, h.by'.below hb⟩
/-- What Encode answers, in memory. -/
def EncR (w : World) (c : Cm) (e : Ending) (w' : World) : Prop := ∃ v, e = .returned (.tuple #[v, .int .i64 (encE c)]) ∧ Hid (Below w.heap.size w w' ∧ (encE c = 0 → RowB w w' v (encL c)) ∧ (encE c ≠ 0 → v = .slice none 0 0))
set_option maxRecDepth 100000 in
set_option maxHeartbeats 4000000 in
theorem Encode_any (c : Cm) (hc : c.ok) (w : World) : Calls Try.prog 9 #[.agg c.cs] w fun e w' => EncR w c e w' := by
  have HB : Hid (Below w.heap.size w (w.alloc (.cells c.cs 27)) ∧ Blk (w.alloc (.cells c.cs 27)) w.heap.size 27 c.cs) := ⟨(Below.refl _ w).alloc (Nat.le_refl _) _, Blk.new _ _ _⟩
  have c0 : (w.alloc (.cells c.cs 27)).cell? ⟨w.heap.size, 0, none⟩ = some (.int .i64 c.k) := HB.out.2.cell 0
  have HC : Hid c.ok := hc
  have hk0 := hc.k0
  have hk1 := hc.k1
  have hE1 : ¬ (1 ≤ c.k ∧ c.k ≤ 9) → encE c = 30 := fun h => by unfold encE; rw [if_neg h]
  have hE2 : (1 ≤ c.k ∧ c.k ≤ 9) → allM c 24 = false → encE c = 1 := fun h h2 => by unfold encE; rw [if_pos h, h2]; rfl
  have hE3 : (1 ≤ c.k ∧ c.k ≤ 9) → allM c 24 = true → encE c = 0 := fun h h2 => by unfold encE; rw [if_pos h, h2]; rfl
  have HE : Hid _ := And.intro hE1 (And.intro hE2 hE3)
  clear hE1 hE2 hE3 hc
  have hcs : ∃ X, X = c.cs := ⟨_, rfl⟩
  obtain ⟨X, hX⟩ := hcs
  rw [← hX] at c0 HB ⊢
  have HX : Hid (X = c.cs) := hX
  clear hX
  go_enter Try.func9, Try.ntmps9
  go_upto_region 1 with fail
  generalize w.alloc (.cells X 27) = W0 at *
  by_cases hk : 1 ≤ c.k ∧ c.k ≤ 9
  · obtain ⟨hka, hkb⟩ := hk
    have hka' : ¬ c.k < 1 := by omega
    have hkb' : ¬ 9 < c.k := by omega
    have HK : Hid (1 ≤ c.k ∧ c.k ≤ 9) := ⟨hka, hkb⟩
    go_wp2_with (go_at_call 29; fail)
    refine (fieldsOf_any w.heap.size W0).mono ?_
    rintro e W1 ⟨rfl, hb1⟩
    have HI0 : Hid (EI w W1 c 0 (.slice none 0 0)) := ⟨below_step HB.out.1 hb1.out, by have := HB.out.2.below hb1.out HB.out.2.lt; rw [HX.out] at this; exact this, rfl, By.nil _⟩
    clear hb1 HB c0
    have HFx : Hid (∀ (i : Nat), i < 24 → ∀ W : World, Sem.run Try.prog (Instr.index 72 (.agg (fAll w.heap.size)) (.int .i64 (i : Int))) W = .ok (.iface (fTy i) (fVal i w.heap.size)) W) := fun i hi W => findex_at i hi w.heap.size W
    generalize fAll w.heap.size = FA at *
    go_wp2
    go_loopw [4, 5, 18] (fun m y x wr => ∃ (i : Nat) (v : Value), v = y ∧ i ≤ 24 ∧ x = .int .i64 i ∧ m = .int .i64 (mkU c i : Int) ∧ Hid (EI w wr c i v)) (fun _ _ x _ => 24 - (intOf x).toNat)
    case atStart => exact ⟨0, _, rfl, by omega, rfl, rfl, HI0⟩
    case round =>
      clear HI0
      obtain ⟨i, v, hv, hi, rfl, rfl, HI⟩ := hrel
      subst hv
      by_cases hlt : i < 24
      · as_aux_lemma =>
        have hlt' : (i : Int) < 24 := by omega
        have hix := HFx.out i hlt
        have HMy : Hid (∀ W, EI w W c i v → Calls Try.prog (fMay i) #[fVal i w.heap.size] W fun e w' => e = .returned (.bool (pMay c i)) ∧ Below W.heap.size W w') := fun W h => may_at h.blk HC.out hlt
        have HZr : Hid (∀ W, EI w W c i v → Calls Try.prog (fZer i) #[fVal i w.heap.size] W fun e w' => e = .returned (.bool (pZer c i)) ∧ Below W.heap.size W w') := fun W h => zer_at h.blk hlt
        have HWr : Hid (∀ W, EI w W c i v → pMay c i = true → Calls Try.prog (fWri i) #[fVal i w.heap.size, v] W fun e w' => ∃ v', e = .returned v' ∧ Hid (OwnB W w' v' (vlU c i ++ pBy c i))) := fun W h hm => wri_at h.blk HC.out hlt h.by' (by have := vlU_len h.all; omega) hm
        have c1 := cfMay i hlt
        have c2 := cfZer i hlt
        have c3 := cfWri i hlt
        have m1 := mMay i hlt w.heap.size
        have m2 := mZer i hlt w.heap.size
        have m3 := mWri i hlt w.heap.size
        have HML : Hid (mkU c i < 2 ^ i) := mkU_lt c i
        have HMS : Hid (mkU c (i + 1) = mkU c i + if pZer c i then 0 else 2 ^ i) := rfl
        have HVS : Hid (vlU c (i + 1) = vlU c i ++ if pZer c i then [] else pBy c i) := rfl
        have HAS : Hid (∀ W v', EI w W c i v → pMay c i = true → By W v' (vlU c (i + 1)) → EI w W c (i + 1) v') := fun W v' h hm hb => ⟨h.bel, h.blk, by show (allM c i && pMay c i) = true; rw [h.all, hm]; rfl, hb⟩
        have HNo : Hid (pMay c i = false → encE c = 1) := fun h => HE.out.2.1 HK.out (allM_no hlt h)
        clear HFx
        generalize fTy i = T at *
        generalize fVal i w.heap.size = V at *
        generalize fMay i = F1 at *
        generalize fZer i = F2 at *
        generalize fWri i = F3 at *
        go_upto_region 8 with fail
        rename_i K8 hK8
        refine wp_region_lit ?_
        refine wpList_runTo rfl (some 22) rfl (.iface T V) wr (by kernel_rfl) ?_
        simp only [Act.put, List.setIfInBounds_toArray, List.set_cons_zero, List.set_cons_succ]
        refine wpList_callW rfl (some 23) rfl F1 #[V] (inv0_run "outcry/tape.mayBe" (.tmp 22) rfl (by kernel_rfl) (m1 wr) c1) (HMy.out wr HI.out) ?_
        rintro e W2 ⟨rfl, hb2⟩
        refine ⟨_, rfl, ?_⟩
        have HI2 : Hid (EI w W2 c i v) := HI.out.below hb2
        clear hb2 HI HMy m1 c1
        simp only [Act.put, List.setIfInBounds_toArray, List.set_cons_zero, List.set_cons_succ]
        cases hpm : pMay c i with
        | false =>
          have h1 := HNo.out hpm
          have HF : Hid (Below w.heap.size w W2) := HI2.out.bel
          refine wpList_runTo rfl (some 24) rfl (.bool true) W2 (by kernel_rfl) ?_
          simp only [Act.put, List.setIfInBounds_toArray, List.set_cons_zero, List.set_cons_succ]
          refine wpList_nil ?_
          refine hK8 _ _ ?_
          clear hK8 hpm m2 m3 c2 c3 HI2 HZr HWr HAS HNo
          go_wp2
          go_ret2
          exact ⟨.slice none 0 0, by rw [h1]; rfl, HF.out, fun e => (by rw [h1] at e; cases e), fun _ => rfl⟩
        | true =>
          have HPM : Hid (pMay c i = true) := hpm
          refine wpList_runTo rfl (some 24) rfl (.bool false) W2 (by kernel_rfl) ?_
          simp only [Act.put, List.setIfInBounds_toArray, List.set_cons_zero, List.set_cons_succ]
          refine wpList_nil ?_
          refine hK8 _ _ ?_
          clear hK8 HNo hpm
          go_upto_region 10 with fail
          rename_i K10 hK10
          refine wp_region_lit ?_
          refine wpList_runTo rfl (some 25) rfl (.iface T V) W2 (by kernel_rfl) ?_
          simp only [Act.put, List.setIfInBounds_toArray, List.set_cons_zero, List.set_cons_succ]
          refine wpList_callW rfl (some 26) rfl F2 #[V] (inv0_run "outcry/tape.isZero" (.tmp 25) rfl (by kernel_rfl) (m2 W2) c2) (HZr.out W2 HI2.out) ?_
          rintro e W3 ⟨rfl, hb3⟩
          refine ⟨_, rfl, ?_⟩
          have HI3 : Hid (EI w W3 c i v) := HI2.out.below hb3
          clear hb3 HI2 HZr m2 c2
          simp only [Act.put, List.setIfInBounds_toArray, List.set_cons_zero, List.set_cons_succ]
          refine wpList_nil ?_
          refine hK10 _ _ ?_
          clear hK10
          cases hpz : pZer c i with
          | true =>
            have e1 : mkU c (i + 1) = mkU c i := by rw [HMS.out, hpz]; rfl
            have e2 : vlU c (i + 1) = vlU c i := by rw [HVS.out, hpz]; exact List.append_nil _
            have HF : Hid (EI w W3 c (i + 1) v) := HAS.out W3 v HI3.out HPM.out (by rw [e2]; exact HI3.out.by')
            clear hpz e2 HI3 HAS HWr m3 c3 HVS HMS
            go_wp2
            exact ⟨⟨i + 1, v, rfl, by omega, by go_num, by rw [e1], HF⟩, by simp [intOf]; omega⟩
          | false =>
            have HZ1 : Hid (mkU c (i + 1) = mkU c i + 2 ^ i) := by show _ = _; rw [HMS.out, hpz]; rfl
            have HZ2 : Hid (vlU c (i + 1) = vlU c i ++ pBy c i) := by show _ = _; rw [HVS.out, hpz]; rfl
            have hw := HWr.out W3 HI3.out HPM.out
            clear hpz HWr HMS HVS
            go_upto_region 11 with fail
            rename_i K11 hK11
            refine wp_region_lit ?_
            refine wpList_runTo rfl (some 27) rfl (.int .i64 (mkU c i : Int)) W3 (by kernel_rfl) ?_
            simp only [Act.put, List.setIfInBounds_toArray, List.set_cons_zero, List.set_cons_succ]
            refine wpList_runTo rfl (some 28) rfl (.int .i64 (i : Int)) W3 (by kernel_rfl) ?_
            simp only [Act.put, List.setIfInBounds_toArray, List.set_cons_zero, List.set_cons_succ]
            refine wpList_runTo rfl (some 29) rfl (.int .i64 ((2 ^ i : Nat) : Int)) W3 (by exact shl_run (.const (.int .i64 1)) (.tmp 28) rfl rfl (by kernel_rfl) hlt _) ?_
            simp only [Act.put, List.setIfInBounds_toArray, List.set_cons_zero, List.set_cons_succ]
            refine wpList_runTo rfl (some 30) rfl (.int .i64 ((mkU c i + 2 ^ i : Nat) : Int)) W3 (by exact or_run (.tmp 27) (.tmp 29) rfl (by kernel_rfl) (by kernel_rfl) HML.out hlt _) ?_
            simp only [Act.put, List.setIfInBounds_toArray, List.set_cons_zero, List.set_cons_succ]
            refine wpList_runTo rfl (some 4) rfl (.int .i64 ((mkU c i + 2 ^ i : Nat) : Int)) W3 (by kernel_rfl) ?_
            simp only [Act.put, List.setIfInBounds_toArray, List.set_cons_zero, List.set_cons_succ]
            refine wpList_nil ?_
            refine hK11 _ _ ?_
            clear hK11
            go_upto_region 12 with fail
            refine wp_region_lit ?_
            refine wpList_runTo rfl (some 31) rfl (.iface T V) W3 (by kernel_rfl) ?_
            simp only [Act.put, List.setIfInBounds_toArray, List.set_cons_zero, List.set_cons_succ]
            refine wpList_runTo rfl (some 32) rfl (v) W3 (by kernel_rfl) ?_
            simp only [Act.put, List.setIfInBounds_toArray, List.set_cons_zero, List.set_cons_succ]
            refine wpList_callW rfl (some 33) rfl F3 #[V, v] (inv1_run "outcry/tape.write" (.tmp 31) (.tmp 32) rfl (by kernel_rfl) (by kernel_rfl) (m3 W3) c3) hw ?_
            rintro e W4 ⟨v', rfl, hx⟩
            refine ⟨_, rfl, ?_⟩
            have HF : Hid (EI w W4 c (i + 1) v') := HAS.out W4 v' (HI3.out.below hx.out.bel) HPM.out (by rw [HZ2.out]; exact hx.out.by')
            clear hx hw HI3 HAS m3 c3
            simp only [Act.put, List.setIfInBounds_toArray, List.set_cons_zero, List.set_cons_succ]
            refine wpList_runTo rfl (some 5) rfl (v') W4 (by kernel_rfl) ?_
            simp only [Act.put, List.setIfInBounds_toArray, List.set_cons_zero, List.set_cons_succ]
            refine wpList_nil ?_
            go_wp2
            exact ⟨⟨i + 1, v', rfl, by omega, by go_num, by rw [HZ1.out], HF⟩, by simp [intOf]; omega⟩
      · as_aux_lemma =>
        have hi24 : i = 24 := by omega
        subst hi24
        have h0 := HE.out.2.2 HK.out HI.out.all
        have ck : wr.cell? ⟨w.heap.size, 0, none⟩ = some (.int .i64 c.k) := HI.out.blk.cell 0
        have hml := mkU_lt c 24
        have hvl := vlU_len HI.out.all
        have HEL : Hid (encL c = varL (foldN c.k) ++ varL (foldN (mkU c 24 : Int)) ++ vlU c 24) := rfl
        have hl1 := varL_length10 (foldN_lt hk0 hk1)
        have hl2 := varL_length10 (foldN_lt (n := (mkU c 24 : Int)) (by omega) (by omega))
        have hp1 := PutVar_by (By.nil wr) (Nat.zero_le _) c.k hk0 hk1
        rw [List.nil_append] at hp1
        have HP2 : Hid (∀ (W : World) (u : Value), By W u (varL (foldN c.k)) → Calls Try.prog 30 #[u, .int .i64 (mkU c 24 : Int)] W fun e w' => ∃ v', e = .returned v' ∧ Hid (OwnB W w' v' (varL (foldN c.k) ++ varL (foldN (mkU c 24 : Int))))) := fun W u h => PutVar_by h (by omega) (mkU c 24 : Int) (by omega) (by omega)
        have HLn : Hid ((varL (foldN c.k)).length ≤ 10 ∧ (varL (foldN (mkU c 24 : Int))).length ≤ 10 ∧ (vlU c 24).length ≤ 70 * 24) := ⟨hl1, hl2, hvl⟩
        clear hml hvl hl1 hl2 HFx
        generalize mkU c 24 = mk at *
        go_wp2_with (go_at_call 30; fail)
        refine hp1.mono ?_
        rintro e W2 ⟨v1, rfl, hx1⟩
        have HI2 : Hid (EI w W2 c 24 v) := HI.out.below hx1.out.bel
        have hp2 := HP2.out W2 v1 hx1.out.by'
        clear hp1 HP2 HI ck hx1
        go_wp2_with (go_at_call 30; fail)
        refine hp2.mono ?_
        rintro e W3 ⟨v2, rfl, hx2⟩
        obtain ⟨v3, W4, hr, hrow⟩ := (hx2.out.rowB.since HI2.out.bel).app (HI2.out.by'.below hx2.out.bel) (by rw [List.length_append]; have := HLn.out; omega) 28
        have HF : Hid (RowB w W4 v3 (encL c)) := by
          show RowB w W4 v3 (encL c)
          rw [HEL.out]; exact hrow
        clear hx2 hp2 hrow HI2
        go_upto_region 15 with fail
        rename_i K15 hK15
        refine wp_region_lit ?_
        refine wpList_runTo rfl (some 40) rfl (v2) W3 (by kernel_rfl) ?_
        simp only [Act.put, List.setIfInBounds_toArray, List.set_cons_zero, List.set_cons_succ]
        refine wpList_runTo rfl (some 41) rfl (v) W3 (by kernel_rfl) ?_
        simp only [Act.put, List.setIfInBounds_toArray, List.set_cons_zero, List.set_cons_succ]
        refine wpList_plain rfl fun K11 hK11 => ?_
        refine valR (d := some 42) rfl v3 (exec_append (v1 := v2) (v2 := v) (.tmp 40) (.tmp 41) rfl (by kernel_rfl) (by kernel_rfl) hr) ?_
        refine hK11 _ _ ?_
        simp only [Act.put, List.setIfInBounds_toArray, List.set_cons_zero, List.set_cons_succ]
        refine wpList_runTo rfl (some 2) rfl (v3) W4 (by kernel_rfl) ?_
        simp only [Act.put, List.setIfInBounds_toArray, List.set_cons_zero, List.set_cons_succ]
        refine wpList_runTo rfl (some 3) rfl (.int .i64 0) W4 (by kernel_rfl) ?_
        simp only [Act.put, List.setIfInBounds_toArray, List.set_cons_zero, List.set_cons_succ]
        refine wpList_nil ?_
        refine hK15 _ _ ?_
        clear hK15 hK11 hr
        go_wp2
        go_ret2
        exact ⟨v3, by rw [h0]; rfl, HF.out.bel, fun _ => HF.out, fun e => absurd h0 e⟩
  · as_aux_lemma =>
    have h30 := HE.out.1 hk
    have HF : Hid (Below w.heap.size w W0) := HB.out.1
    by_cases hka : c.k < 1
    · go_wp2
      go_ret2
      exact ⟨.slice none 0 0, by rw [h30]; rfl, HF.out, fun e => (by rw [h30] at e; cases e), fun _ => rfl⟩
    · have hkb : 9 < c.k := by omega
      go_wp2
      go_ret2
      exact ⟨.slice none 0 0, by rw [h30]; rfl, HF.out, fun e => (by rw [h30] at e; cases e), fun _ => rfl⟩
end Go.Proofs.Ytjnnecoikcmaeaa
