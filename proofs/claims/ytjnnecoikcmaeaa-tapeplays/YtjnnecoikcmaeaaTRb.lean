import Derived.Test.YtjnnecoikcmaeaaTR2

namespace Go.Proofs.Ytjnnecoikcmaeaa
set_option linter.unusedVariables false
set_option linter.unusedSimpArgs false
open Go.RowKit Go.Great

theorem encA_ne : encL exA ≠ [] := by rw [exA_L]; simp
/-- Where shown stands. -/
structure SH (w W : World) (t : Tp) (pa pb : Nat) (u : Value) : Prop where
  tp : TpAt W t
  bel : Below w.heap.size w W
  own : ∀ b, t.own b → w.heap.size ≤ b
  a : Blk W pa 27 exA.cs
  b : Blk W pb 27 exB.cs
  na : ¬ t.own pa
  nb : ¬ t.own pb
  v : By W u (encL exA)
  nv : ∀ q, u.ownBlock = some q → ¬ t.own q
section
variable {w W W' : World} {t t' : Tp} {pa pb : Nat} {v : Value}
theorem SH.below (h : SH w W t pa pb v) (hb : Below W.heap.size W W') : SH w W' t pa pb v :=
  ⟨h.tp.below hb, below_step h.bel hb, h.own, h.a.below hb h.a.lt, h.b.below hb h.b.lt, h.na, h.nb, h.v.below hb, h.nv⟩
theorem SH.app (h : SH w W t pa pb v) (h1 : TpAt W' t') (h2 : Fr W W' t.own) (h3 : ∀ b, t'.own b → t.own b ∨ W.heap.size ≤ b) : SH w W' t' pa pb v := by
  refine ⟨h1, ⟨h2.os.trans h.bel.os, h2.tape.trans h.bel.tape, h2.output.trans h.bel.output, Nat.le_trans h.bel.size h2.size, fun q hq => (h2.block q (Nat.lt_of_lt_of_le hq h.bel.size) fun e => ?_).trans (h.bel.block q hq)⟩, fun b hb => ?_, h.a.fr h2 h.na, h.b.fr h2 h.nb, fun e => ?_, fun e => ?_, h.v.fr h2 h.nv, fun q hq e => ?_⟩
  · have := h.own q e; omega
  · rcases h3 b hb with e | e
    · exact h.own b e
    · exact Nat.le_trans h.bel.size e
  · rcases h3 _ e with e | e
    · exact h.na e
    · have := h.a.lt; omega
  · rcases h3 _ e with e | e
    · exact h.nb e
    · have := h.b.lt; omega
  · rcases h3 _ e with e | e
    · exact h.nv q hq e
    · rcases h.v.lt hq with k | k
      · exact encA_ne k
      · omega
end
theorem ptrN_run {op : Oper} {a : Act} {ad : Addr} (x : Operand) (y : Operand) (ho : op.op = .binOp .eql 39 x y 39) (hx : a.eval x = .pointer (some ad)) (hy : a.eval y = .pointer none) (w : World) : (execOp a.eval op).run Try.prog w = .ok (.value (.bool false)) w := by
  unfold execOp
  simp only [ho, hx, hy]
  go_simp
theorem neN_run {op : Oper} {a : Act} {N : Nat} (x y : Operand) (ho : op.op = .binOp .neq 3 x y 3) (hx : a.eval x = .int .i64 (N : Int)) (hy : a.eval y = .int .i64 (N : Int)) (w : World) : (execOp a.eval op).run Try.prog w = .ok (.value (.bool false)) w := by
  unfold execOp
  simp only [ho, hx, hy]
  go_simp
set_option maxRecDepth 100000 in
set_option maxHeartbeats 4000000 in
theorem shown_any (w : World) : Calls Try.prog 8 #[] w fun e w' => e = .returned (.bool true) ∧ Hid (Below w.heap.size w w') := by
  have hnew := New_any w
  go_enter Try.func8, Try.ntmps8
  go_upto_region 1 with fail
  rename_i K1 hK1
  refine wp_region_lit ?_
  refine wpList_callW rfl (some 13) rfl 11 #[] (by kernel_rfl) hnew ?_
  rintro e W1 ⟨t, rfl, hx⟩
  refine ⟨_, rfl, ?_⟩
  simp only [Act.put, List.setIfInBounds_toArray, List.set_cons_zero, List.set_cons_succ]
  refine wpList_runTo rfl (some 1) rfl (.pointer (some ⟨t.g, 0, none⟩)) W1 (by kernel_rfl) ?_
  simp only [Act.put, List.setIfInBounds_toArray, List.set_cons_zero, List.set_cons_succ]
  refine wpList_nil ?_
  refine hK1 _ _ ?_
  clear hK1 hnew
  obtain ⟨ht, htl, hte, hb1, ho1⟩ := hx.out
  have hby := Bytes_any ht (by rw [htl]; simp [magic]) (by rw [htl]; simp [magic])
  have HT1 : Hid (TpAt W1 t ∧ t.l = magic ∧ t.es = [] ∧ Below w.heap.size w W1 ∧ ∀ b, t.own b → w.heap.size ≤ b) := hx.out
  clear ht htl hte hb1 ho1 hx
  go_upto_region 2 with fail
  rename_i K2 hK2
  refine wp_region_lit ?_
  refine wpList_runTo rfl (some 14) rfl (.pointer (some ⟨t.g, 0, none⟩)) W1 (by kernel_rfl) ?_
  simp only [Act.put, List.setIfInBounds_toArray, List.set_cons_zero, List.set_cons_succ]
  refine wpList_runTo rfl (some 15) rfl (.bool false) W1 (by exact ptrN_run (ad := ⟨t.g, 0, none⟩) (.tmp 14) (.const (.pointer none)) rfl (by kernel_rfl) rfl _) ?_
  simp only [Act.put, List.setIfInBounds_toArray, List.set_cons_zero, List.set_cons_succ]
  refine wpList_runTo rfl (some 16) rfl (.bool false) W1 (by kernel_rfl) ?_
  simp only [Act.put, List.setIfInBounds_toArray, List.set_cons_zero, List.set_cons_succ]
  refine wpList_runToG (by kernel_rfl) (some 17) rfl (.pointer (some ⟨t.g, 0, none⟩)) W1 (by kernel_rfl) ?_
  simp only [Act.put, List.setIfInBounds_toArray, List.set_cons_zero, List.set_cons_succ]
  refine wpList_callG (by kernel_rfl) (some 18) rfl 13 #[.pointer (some ⟨t.g, 0, none⟩)] (by kernel_rfl) hby ?_
  clear hby
  rintro e W2 ⟨v18, rfl, hx⟩
  refine ⟨_, rfl, ?_⟩
  simp only [Act.put, List.setIfInBounds_toArray, List.set_cons_zero, List.set_cons_succ]
  have hv18 : By W2 v18 magic := by have := hx.out.by'; rw [HT1.out.2.1] at this; exact this
  refine wpList_runToG (by kernel_rfl) (some 19) rfl (.string (ofN magic)) W2 (by exact conv_run (.tmp 18) rfl (by kernel_rfl) hv18) ?_
  simp only [Act.put, List.setIfInBounds_toArray, List.set_cons_zero, List.set_cons_succ]
  refine wpList_runToG (by kernel_rfl) (some 20) rfl (.bool false) W2 (by exact neS_run (.tmp 19) (.const (.string ⟨#[79, 84, 65, 80]⟩)) rfl (by kernel_rfl) rfl rfl _) ?_
  simp only [Act.put, List.setIfInBounds_toArray, List.set_cons_zero, List.set_cons_succ]
  refine wpList_runTo rfl (some 21) rfl (.bool false) W2 (by kernel_rfl) ?_
  simp only [Act.put, List.setIfInBounds_toArray, List.set_cons_zero, List.set_cons_succ]
  refine wpList_nil ?_
  refine hK2 _ _ ?_
  have HT2 : Hid (TpAt W2 t ∧ t.l = magic ∧ t.es = [] ∧ Below w.heap.size w W2 ∧ ∀ b, t.own b → w.heap.size ≤ b) := ⟨HT1.out.1.below hx.out.bel, HT1.out.2.1, HT1.out.2.2.1, below_step HT1.out.2.2.2.1 hx.out.bel, HT1.out.2.2.2.2⟩
  clear hK2 hv18 hx HT1
  generalize ofN magic = mg at *
  go_upto_region 4 with fail
  rename_i K4 hK4
  refine wp_region_lit ?_
  refine wpList_runTo rfl (some 22) rfl (.agg exA.cs) W2 (by kernel_rfl) ?_
  simp only [Act.put, List.setIfInBounds_toArray, List.set_cons_zero, List.set_cons_succ]
  refine wpList_runTo rfl (some 2) rfl (.pointer (some ⟨W2.heap.size, 0, none⟩)) (W2.alloc (.cells zeroC.cs 27)) (by kernel_rfl) ?_
  simp only [Act.put, List.setIfInBounds_toArray, List.set_cons_zero, List.set_cons_succ]
  refine store_cmd (c := exA) (c' := zeroC) (Blk.new W2 _ _) (.tmp 2) (.tmp 22) rfl rfl (by kernel_rfl) (by kernel_rfl) ?_
  simp only [Act.put, List.setIfInBounds_toArray, List.set_cons_zero, List.set_cons_succ]
  obtain ⟨W3, hW3⟩ : ∃ W3, W3 = (W2.alloc (.cells zeroC.cs 27)).setRow W2.heap.size exA.cs := ⟨_, rfl⟩
  have hbA : Below W2.heap.size W2 W3 := by rw [hW3]; exact below_setRow ((Below.refl _ W2).alloc (Nat.le_refl _) _) (Nat.le_refl _) _
  have hA : Blk W3 W2.heap.size 27 exA.cs := by rw [hW3]; exact (Blk.new W2 _ _).row
  rw [← hW3]
  have HT3 : Hid (TpAt W3 t ∧ t.l = magic ∧ t.es = [] ∧ Below w.heap.size w W3 ∧ (∀ b, t.own b → w.heap.size ≤ b) ∧ Blk W3 W2.heap.size 27 exA.cs ∧ ¬ t.own W2.heap.size) := ⟨HT2.out.1.below hbA, HT2.out.2.1, HT2.out.2.2.1, below_step HT2.out.2.2.2.1 hbA, HT2.out.2.2.2.2, hA, fun e => Nat.lt_irrefl _ (HT2.out.1.ltO e)⟩
  clear HT2 hbA hA hW3
  generalize W2.heap.size = pa at *
  generalize hcA : exA.cs = cA at *
  refine wpList_nil ?_
  refine hK4 _ _ ?_
  clear hK4
  go_upto_region 5 with fail
  rename_i K5 hK5
  refine wp_region_lit ?_
  refine wpList_runTo rfl (some 23) rfl (.agg (exB.cs.extract 3 18)) W3 (by kernel_rfl) ?_
  simp only [Act.put, List.setIfInBounds_toArray, List.set_cons_zero, List.set_cons_succ]
  refine wpList_runTo rfl (some 24) rfl (.agg exB.cs) W3 (by kernel_rfl) ?_
  simp only [Act.put, List.setIfInBounds_toArray, List.set_cons_zero, List.set_cons_succ]
  refine wpList_runTo rfl (some 3) rfl (.pointer (some ⟨W3.heap.size, 0, none⟩)) (W3.alloc (.cells zeroC.cs 27)) (by kernel_rfl) ?_
  simp only [Act.put, List.setIfInBounds_toArray, List.set_cons_zero, List.set_cons_succ]
  refine store_cmd (c := exB) (c' := zeroC) (Blk.new W3 _ _) (.tmp 3) (.tmp 24) rfl rfl (by kernel_rfl) (by kernel_rfl) ?_
  simp only [Act.put, List.setIfInBounds_toArray, List.set_cons_zero, List.set_cons_succ]
  obtain ⟨W4, hW4⟩ : ∃ W4, W4 = (W3.alloc (.cells zeroC.cs 27)).setRow W3.heap.size exB.cs := ⟨_, rfl⟩
  have hbB : Below W3.heap.size W3 W4 := by rw [hW4]; exact below_setRow ((Below.refl _ W3).alloc (Nat.le_refl _) _) (Nat.le_refl _) _
  have hB : Blk W4 W3.heap.size 27 exB.cs := by rw [hW4]; exact (Blk.new W3 _ _).row
  rw [← hW4]
  have hA4 : Blk W4 pa 27 exA.cs := by rw [hcA]; exact HT3.out.2.2.2.2.2.1.below hbB HT3.out.2.2.2.2.2.1.lt
  have HT4 : Hid (TpAt W4 t ∧ t.l = magic ∧ t.es = [] ∧ Below w.heap.size w W4 ∧ (∀ b, t.own b → w.heap.size ≤ b) ∧ Blk W4 pa 27 exA.cs ∧ ¬ t.own pa ∧ Blk W4 W3.heap.size 27 exB.cs ∧ ¬ t.own W3.heap.size) := ⟨HT3.out.1.below hbB, HT3.out.2.1, HT3.out.2.2.1, below_step HT3.out.2.2.2.1 hbB, HT3.out.2.2.2.2.1, hA4, HT3.out.2.2.2.2.2.2, hB, fun e => Nat.lt_irrefl _ (HT3.out.1.ltO e)⟩
  clear HT3 hbB hB hW4 hA4 hcA
  generalize W3.heap.size = pb at *
  generalize exB.cs.extract 3 18 = cBx at *
  generalize hcB : exB.cs = cB at *
  refine wpList_nil ?_
  refine hK5 _ _ ?_
  clear hK5
  have henc := Encode_any exA exA_ok W4
  go_upto_region 6 with fail
  rename_i K6 hK6
  refine wp_region_lit ?_
  refine load_cmd HT4.out.2.2.2.2.2.1 (.tmp 2) rfl rfl (by kernel_rfl) ?_
  simp only [Act.put, List.setIfInBounds_toArray, List.set_cons_zero, List.set_cons_succ]
  refine wpList_callW rfl (some 27) rfl 9 #[.agg exA.cs] (by kernel_rfl) henc ?_
  clear henc
  rintro e W5 ⟨v4, rfl, hx⟩
  rw [exA_E] at hx ⊢
  refine ⟨_, rfl, ?_⟩
  simp only [Act.put, List.setIfInBounds_toArray, List.set_cons_zero, List.set_cons_succ]
  have hrow := hx.out.2.1 rfl
  have HS5 : Hid (SH w W5 t pa pb v4 ∧ t.l = magic ∧ t.es = []) := by
    refine ⟨⟨HT4.out.1.below hx.out.1, below_step HT4.out.2.2.2.1 hx.out.1, HT4.out.2.2.2.2.1, HT4.out.2.2.2.2.2.1.below hx.out.1 HT4.out.2.2.2.2.2.1.lt, ?_, HT4.out.2.2.2.2.2.2.1, HT4.out.2.2.2.2.2.2.2.2, hrow.by', fun q hq e => ?_⟩, HT4.out.2.1, HT4.out.2.2.1⟩
    · have := HT4.out.2.2.2.2.2.2.2.1
      rw [← hcB] at this
      exact this.below hx.out.1 this.lt
    · have h1 := hrow.low q hq
      have h2 := HT4.out.1.ltO e
      omega
  clear HT4 hx hrow hcB
  generalize exA.cs = cA' at *
  refine wpList_runTo rfl (some 25) rfl (.tuple #[v4, .int .i64 0]) W5 (by kernel_rfl) ?_
  simp only [Act.put, List.setIfInBounds_toArray, List.set_cons_zero, List.set_cons_succ]
  refine wpList_runTo rfl (some 28) rfl (v4) W5 (by kernel_rfl) ?_
  simp only [Act.put, List.setIfInBounds_toArray, List.set_cons_zero, List.set_cons_succ]
  refine wpList_runTo rfl (some 29) rfl (.int .i64 0) W5 (by kernel_rfl) ?_
  simp only [Act.put, List.setIfInBounds_toArray, List.set_cons_zero, List.set_cons_succ]
  refine wpList_runTo rfl (some 4) rfl (v4) W5 (by kernel_rfl) ?_
  simp only [Act.put, List.setIfInBounds_toArray, List.set_cons_zero, List.set_cons_succ]
  refine wpList_runTo rfl (some 5) rfl (.int .i64 0) W5 (by kernel_rfl) ?_
  simp only [Act.put, List.setIfInBounds_toArray, List.set_cons_zero, List.set_cons_succ]
  refine wpList_nil ?_
  refine hK6 _ _ ?_
  clear hK6
  have happ := Append_any HS5.out.1.tp exA exA_ok (by rw [HS5.out.2.2]; decide) (by rw [HS5.out.2.1]; decide)
  go_upto_region 7 with fail
  rename_i K7 hK7
  refine wp_region_lit ?_
  refine wpList_runTo rfl (some 30) rfl (.pointer (some ⟨t.g, 0, none⟩)) W5 (by kernel_rfl) ?_
  simp only [Act.put, List.setIfInBounds_toArray, List.set_cons_zero, List.set_cons_succ]
  refine load_cmd HS5.out.1.a (.tmp 2) rfl rfl (by kernel_rfl) ?_
  simp only [Act.put, List.setIfInBounds_toArray, List.set_cons_zero, List.set_cons_succ]
  refine wpList_callW rfl (some 32) rfl 12 #[.pointer (some ⟨t.g, 0, none⟩), .agg exA.cs] (by kernel_rfl) happ ?_
  clear happ
  rintro e W6 hx
  have hx' : e = .returned (.int .i64 0) ∧ Hid (∃ wv ev, TpAt W6 (t.more (recL t.es.length (encL exA)) wv ev) ∧ Fr W5 W6 t.own ∧ ∀ b, (t.more (recL t.es.length (encL exA)) wv ev).own b → t.own b ∨ W5.heap.size ≤ b) := by
    rcases hx with ⟨hne, _⟩ | ⟨_, h⟩
    · exact absurd exA_E hne
    · exact h
  clear hx
  obtain ⟨rfl, hx⟩ := hx'
  refine ⟨_, rfl, ?_⟩
  simp only [Act.put, List.setIfInBounds_toArray, List.set_cons_zero, List.set_cons_succ]
  have h6 : ∃ t6 : Tp, t6.g = t.g ∧ Hid (SH w W6 t6 pa pb v4 ∧ t6.l = magic ++ recL 0 (encL exA) ∧ t6.es.length = 1) := by
    obtain ⟨wv, ev, h1, h2, h3⟩ := hx.out
    refine ⟨t.more (recL t.es.length (encL exA)) wv ev, rfl, HS5.out.1.app h1 h2 h3, ?_, ?_⟩
    · show t.l ++ recL t.es.length (encL exA) = _
      rw [HS5.out.2.1, HS5.out.2.2]; rfl
    · show (t.es ++ [_]).length = 1
      rw [HS5.out.2.2]; rfl
  obtain ⟨t6, hg6, HS6⟩ := h6
  clear HS5 hx
  generalize exA.cs = cA7 at *
  refine wpList_runTo rfl (some 6) rfl (.int .i64 0) W6 (by kernel_rfl) ?_
  simp only [Act.put, List.setIfInBounds_toArray, List.set_cons_zero, List.set_cons_succ]
  refine wpList_nil ?_
  refine hK7 _ _ ?_
  clear hK7
  have happ := Append_any HS6.out.1.tp exB exB_ok (by rw [HS6.out.2.2]; decide) (by rw [HS6.out.2.1, exA_L, List.length_append, recL_len]; decide)
  rw [hg6] at happ
  go_upto_region 8 with fail
  rename_i K8 hK8
  refine wp_region_lit ?_
  refine wpList_runTo rfl (some 33) rfl (.pointer (some ⟨t.g, 0, none⟩)) W6 (by kernel_rfl) ?_
  simp only [Act.put, List.setIfInBounds_toArray, List.set_cons_zero, List.set_cons_succ]
  refine load_cmd HS6.out.1.b (.tmp 3) rfl rfl (by kernel_rfl) ?_
  simp only [Act.put, List.setIfInBounds_toArray, List.set_cons_zero, List.set_cons_succ]
  refine wpList_callW rfl (some 35) rfl 12 #[.pointer (some ⟨t.g, 0, none⟩), .agg exB.cs] (by kernel_rfl) happ ?_
  clear happ
  rintro e W7 hx
  have hx' : e = .returned (.int .i64 0) ∧ Hid (∃ wv ev, TpAt W7 (t6.more (recL t6.es.length (encL exB)) wv ev) ∧ Fr W6 W7 t6.own ∧ ∀ b, (t6.more (recL t6.es.length (encL exB)) wv ev).own b → t6.own b ∨ W6.heap.size ≤ b) := by
    rcases hx with ⟨hne, _⟩ | ⟨_, h⟩
    · exact absurd exB_E hne
    · exact h
  clear hx
  obtain ⟨rfl, hx⟩ := hx'
  refine ⟨_, rfl, ?_⟩
  simp only [Act.put, List.setIfInBounds_toArray, List.set_cons_zero, List.set_cons_succ]
  have h7 : ∃ t7 : Tp, t7.g = t.g ∧ Hid (SH w W7 t7 pa pb v4 ∧ t7.l = two exA exB) := by
    obtain ⟨wv, ev, h1, h2, h3⟩ := hx.out
    refine ⟨t6.more (recL t6.es.length (encL exB)) wv ev, hg6, HS6.out.1.app h1 h2 h3, ?_⟩
    show t6.l ++ recL t6.es.length (encL exB) = _
    rw [HS6.out.2.1, HS6.out.2.2]; rfl
  obtain ⟨t7, hg7, HS7⟩ := h7
  clear HS6 hx hg6
  generalize exB.cs = cB8 at *
  refine wpList_runTo rfl (some 7) rfl (.int .i64 0) W7 (by kernel_rfl) ?_
  simp only [Act.put, List.setIfInBounds_toArray, List.set_cons_zero, List.set_cons_succ]
  refine wpList_nil ?_
  refine hK8 _ _ ?_
  clear hK8
  have hBl := encL_len exB_E
  have hN : (two exA exB).length ≤ 1000 ∧ 20 ≤ (two exA exB).length := by rw [two_len, exA_L]; have e : [10, 2, 216, 4].length = 4 := rfl; omega
  have h2ne : two exA exB ≠ [] := fun e => by rw [e] at hN; exact absurd hN.2 (by decide)
  have hby := Bytes_any HS7.out.1.tp (by rw [HS7.out.2]; exact h2ne) (by rw [HS7.out.2]; omega)
  rw [hg7, HS7.out.2] at hby
  go_upto_region 9 with fail
  rename_i K9 hK9
  refine wp_region_lit ?_
  refine wpList_runTo rfl (some 37) rfl (.pointer (some ⟨t.g, 0, none⟩)) W7 (by kernel_rfl) ?_
  simp only [Act.put, List.setIfInBounds_toArray, List.set_cons_zero, List.set_cons_succ]
  refine wpList_callW rfl (some 38) rfl 13 #[.pointer (some ⟨t.g, 0, none⟩)] (by kernel_rfl) hby ?_
  clear hby
  rintro e W8 ⟨v38, rfl, hx⟩
  refine ⟨_, rfl, ?_⟩
  simp only [Act.put, List.setIfInBounds_toArray, List.set_cons_zero, List.set_cons_succ]
  have HS8 : Hid (SH w W8 t7 pa pb v4 ∧ t7.l = two exA exB) := ⟨HS7.out.1.below hx.out.bel, HS7.out.2⟩
  have hop := Open_yes hx.out.by' (by
    by_cases h : two exA exB = []
    · exact .inl h
    · exact .inr fun q hq => (hx.out.by'.lt hq).resolve_left h) (by omega) rfl
  clear HS7
  refine wpList_callW rfl (some 39) rfl 14 #[v38] (by kernel_rfl) hop ?_
  clear hop hx
  rintro e W9 ⟨t2, at_, rfl, hx⟩
  refine ⟨_, rfl, ?_⟩
  simp only [Act.put, List.setIfInBounds_toArray, List.set_cons_zero, List.set_cons_succ]
  obtain ⟨k1, k2, k3, k4, k5, k6, k7, k8⟩ := hx.out
  obtain ⟨hes, hat⟩ := two_open exA_E exB_E k3 k6
  have htl : t2.l = two exA exB := by rw [k2, hat]; exact List.take_of_length_le (Nat.le_refl _)
  have HS9 : Hid (SH w W9 t7 pa pb v4 ∧ t7.l = two exA exB) := ⟨HS8.out.1.below k7, HS8.out.2⟩
  have HO9 : Hid (TpAt W9 t2 ∧ t2.l = two exA exB ∧ t2.es = [10 + (encL exA).length, 16 + (encL exA).length + (encL exB).length]) := ⟨k1, htl, hes⟩
  rw [hat]
  clear HS8 hx k1 k2 k3 k4 k5 k6 k7 k8 hes hat htl
  obtain ⟨N, hNN⟩ : ∃ N, N = (two exA exB).length := ⟨_, rfl⟩
  rw [← hNN]
  refine wpList_runTo rfl (some 36) rfl (.tuple #[.pointer (some ⟨t2.g, 0, none⟩), .int .i64 (N : Int), .int .i64 0]) W9 (by kernel_rfl) ?_
  simp only [Act.put, List.setIfInBounds_toArray, List.set_cons_zero, List.set_cons_succ]
  refine wpList_runTo rfl (some 40) rfl (.pointer (some ⟨t2.g, 0, none⟩)) W9 (by kernel_rfl) ?_
  simp only [Act.put, List.setIfInBounds_toArray, List.set_cons_zero, List.set_cons_succ]
  refine wpList_runTo rfl (some 41) rfl (.int .i64 (N : Int)) W9 (by kernel_rfl) ?_
  simp only [Act.put, List.setIfInBounds_toArray, List.set_cons_zero, List.set_cons_succ]
  refine wpList_runTo rfl (some 42) rfl (.int .i64 0) W9 (by kernel_rfl) ?_
  simp only [Act.put, List.setIfInBounds_toArray, List.set_cons_zero, List.set_cons_succ]
  refine wpList_runTo rfl (some 8) rfl (.pointer (some ⟨t2.g, 0, none⟩)) W9 (by kernel_rfl) ?_
  simp only [Act.put, List.setIfInBounds_toArray, List.set_cons_zero, List.set_cons_succ]
  refine wpList_runTo rfl (some 9) rfl (.int .i64 (N : Int)) W9 (by kernel_rfl) ?_
  simp only [Act.put, List.setIfInBounds_toArray, List.set_cons_zero, List.set_cons_succ]
  refine wpList_runTo rfl (some 10) rfl (.int .i64 0) W9 (by kernel_rfl) ?_
  simp only [Act.put, List.setIfInBounds_toArray, List.set_cons_zero, List.set_cons_succ]
  refine wpList_nil ?_
  refine hK9 _ _ ?_
  clear hK9
  have hby := Bytes_any HS9.out.1.tp (by rw [HS9.out.2]; exact h2ne) (by rw [HS9.out.2]; omega)
  rw [hg7, HS9.out.2] at hby
  have hv4 := HS9.out.1.v
  rw [exA_L] at hv4
  go_upto_region 10 with fail
  rename_i K10 hK10
  refine wp_region_lit ?_
  refine wpList_runTo rfl (some 43) rfl (.int .i64 0) W9 (by kernel_rfl) ?_
  simp only [Act.put, List.setIfInBounds_toArray, List.set_cons_zero, List.set_cons_succ]
  refine wpList_runTo rfl (some 44) rfl (.bool false) W9 (by kernel_rfl) ?_
  simp only [Act.put, List.setIfInBounds_toArray, List.set_cons_zero, List.set_cons_succ]
  refine wpList_runTo rfl (some 45) rfl (.bool false) W9 (by kernel_rfl) ?_
  simp only [Act.put, List.setIfInBounds_toArray, List.set_cons_zero, List.set_cons_succ]
  refine wpList_runToG (by kernel_rfl) (some 46) rfl (v4) W9 (by kernel_rfl) ?_
  simp only [Act.put, List.setIfInBounds_toArray, List.set_cons_zero, List.set_cons_succ]
  refine wpList_runToG (by kernel_rfl) (some 47) rfl (.string (ofN [10, 2, 216, 4])) W9 (by exact conv_run (.tmp 46) rfl (by kernel_rfl) hv4) ?_
  simp only [Act.put, List.setIfInBounds_toArray, List.set_cons_zero, List.set_cons_succ]
  refine wpList_runToG (by kernel_rfl) (some 48) rfl (.bool false) W9 (by exact neS_run (.tmp 47) (.const (.string ⟨#[10, 2, 216, 4]⟩)) rfl (by kernel_rfl) rfl rfl _) ?_
  simp only [Act.put, List.setIfInBounds_toArray, List.set_cons_zero, List.set_cons_succ]
  refine wpList_runTo rfl (some 49) rfl (.bool false) W9 (by kernel_rfl) ?_
  simp only [Act.put, List.setIfInBounds_toArray, List.set_cons_zero, List.set_cons_succ]
  refine wpList_runTo rfl (some 50) rfl (.bool false) W9 (by kernel_rfl) ?_
  simp only [Act.put, List.setIfInBounds_toArray, List.set_cons_zero, List.set_cons_succ]
  refine wpList_runToG (by kernel_rfl) (some 51) rfl (.int .i64 0) W9 (by kernel_rfl) ?_
  simp only [Act.put, List.setIfInBounds_toArray, List.set_cons_zero, List.set_cons_succ]
  refine wpList_runToG (by kernel_rfl) (some 52) rfl (.bool false) W9 (by kernel_rfl) ?_
  simp only [Act.put, List.setIfInBounds_toArray, List.set_cons_zero, List.set_cons_succ]
  refine wpList_runTo rfl (some 53) rfl (.bool false) W9 (by kernel_rfl) ?_
  simp only [Act.put, List.setIfInBounds_toArray, List.set_cons_zero, List.set_cons_succ]
  refine wpList_runTo rfl (some 54) rfl (.bool false) W9 (by kernel_rfl) ?_
  simp only [Act.put, List.setIfInBounds_toArray, List.set_cons_zero, List.set_cons_succ]
  refine wpList_runToG (by kernel_rfl) (some 55) rfl (.int .i64 0) W9 (by kernel_rfl) ?_
  simp only [Act.put, List.setIfInBounds_toArray, List.set_cons_zero, List.set_cons_succ]
  refine wpList_runToG (by kernel_rfl) (some 56) rfl (.bool false) W9 (by kernel_rfl) ?_
  simp only [Act.put, List.setIfInBounds_toArray, List.set_cons_zero, List.set_cons_succ]
  refine wpList_runTo rfl (some 57) rfl (.bool false) W9 (by kernel_rfl) ?_
  simp only [Act.put, List.setIfInBounds_toArray, List.set_cons_zero, List.set_cons_succ]
  refine wpList_runTo rfl (some 58) rfl (.bool false) W9 (by kernel_rfl) ?_
  simp only [Act.put, List.setIfInBounds_toArray, List.set_cons_zero, List.set_cons_succ]
  refine wpList_runToG (by kernel_rfl) (some 59) rfl (.int .i64 0) W9 (by kernel_rfl) ?_
  simp only [Act.put, List.setIfInBounds_toArray, List.set_cons_zero, List.set_cons_succ]
  refine wpList_runToG (by kernel_rfl) (some 60) rfl (.bool false) W9 (by kernel_rfl) ?_
  simp only [Act.put, List.setIfInBounds_toArray, List.set_cons_zero, List.set_cons_succ]
  refine wpList_runTo rfl (some 61) rfl (.bool false) W9 (by kernel_rfl) ?_
  simp only [Act.put, List.setIfInBounds_toArray, List.set_cons_zero, List.set_cons_succ]
  refine wpList_runTo rfl (some 62) rfl (.bool false) W9 (by kernel_rfl) ?_
  simp only [Act.put, List.setIfInBounds_toArray, List.set_cons_zero, List.set_cons_succ]
  refine wpList_runToG (by kernel_rfl) (some 63) rfl (.pointer (some ⟨t2.g, 0, none⟩)) W9 (by kernel_rfl) ?_
  simp only [Act.put, List.setIfInBounds_toArray, List.set_cons_zero, List.set_cons_succ]
  refine wpList_runToG (by kernel_rfl) (some 64) rfl (.bool false) W9 (by exact ptrN_run (ad := ⟨t2.g, 0, none⟩) (.tmp 63) (.const (.pointer none)) rfl (by kernel_rfl) rfl _) ?_
  simp only [Act.put, List.setIfInBounds_toArray, List.set_cons_zero, List.set_cons_succ]
  refine wpList_runTo rfl (some 65) rfl (.bool false) W9 (by kernel_rfl) ?_
  simp only [Act.put, List.setIfInBounds_toArray, List.set_cons_zero, List.set_cons_succ]
  refine wpList_runTo rfl (some 66) rfl (.bool false) W9 (by kernel_rfl) ?_
  simp only [Act.put, List.setIfInBounds_toArray, List.set_cons_zero, List.set_cons_succ]
  refine wpList_runToG (by kernel_rfl) (some 67) rfl (.int .i64 (N : Int)) W9 (by kernel_rfl) ?_
  simp only [Act.put, List.setIfInBounds_toArray, List.set_cons_zero, List.set_cons_succ]
  refine wpList_runToG (by kernel_rfl) (some 68) rfl (.pointer (some ⟨t.g, 0, none⟩)) W9 (by kernel_rfl) ?_
  simp only [Act.put, List.setIfInBounds_toArray, List.set_cons_zero, List.set_cons_succ]
  refine wpList_callG (by kernel_rfl) (some 69) rfl 13 #[.pointer (some ⟨t.g, 0, none⟩)] (by kernel_rfl) hby ?_
  clear hby hv4
  rintro e W10 ⟨v69, rfl, hx⟩
  refine ⟨_, rfl, ?_⟩
  simp only [Act.put, List.setIfInBounds_toArray, List.set_cons_zero, List.set_cons_succ]
  have HS10 : Hid (SH w W10 t7 pa pb v4 ∧ TpAt W10 t2) := ⟨HS9.out.1.below hx.out.bel, HO9.out.1.below hx.out.bel⟩
  obtain ⟨va, vc, hvf, _⟩ := hx.out.by'.form
  rw [← hNN] at hvf
  clear hx HS9
  subst hvf
  refine wpList_runToG (by kernel_rfl) (some 70) rfl (.int .i64 (N : Int)) W10 (by kernel_rfl) ?_
  simp only [Act.put, List.setIfInBounds_toArray, List.set_cons_zero, List.set_cons_succ]
  refine wpList_runToG (by kernel_rfl) (some 71) rfl (.bool false) W10 (by exact neN_run (N := N) (.tmp 67) (.tmp 70) rfl (by kernel_rfl) (by kernel_rfl) _) ?_
  simp only [Act.put, List.setIfInBounds_toArray, List.set_cons_zero, List.set_cons_succ]
  refine wpList_runTo rfl (some 72) rfl (.bool false) W10 (by kernel_rfl) ?_
  simp only [Act.put, List.setIfInBounds_toArray, List.set_cons_zero, List.set_cons_succ]
  refine wpList_nil ?_
  refine hK10 _ _ ?_
  clear hK10
  generalize ofN [10, 2, 216, 4] = mg2 at *
  obtain ⟨dc, hdc, hdcs⟩ := dec_enc exB_E
  have hbeg : begE t2.es 1 = 10 + (encL exA).length := by rw [HO9.out.2.2]; rfl
  have hcm := Command_yes HS10.out.2 1 (16 + (encL exA).length + (encL exB).length) (by rw [HO9.out.2.2]; rfl) (by rw [hbeg]; omega) (by rw [HO9.out.2.1, two_len]; exact Nat.le_refl _) (by rw [HO9.out.2.1]; omega) (by rw [HO9.out.2.2]; decide) (by rw [hbeg]; omega) dc (by
    rw [hbeg, HO9.out.2.1, two_drop1, List.take_of_length_le (by rw [recL_len]; omega), recL_drop]
    exact hdc)
  rw [hdcs] at hcm
  clear hdc hdcs hbeg
  go_upto_region 12 with fail
  rename_i K12 hK12
  refine wp_region_lit ?_
  refine wpList_runTo rfl (some 74) rfl (.pointer (some ⟨t2.g, 0, none⟩)) W10 (by kernel_rfl) ?_
  simp only [Act.put, List.setIfInBounds_toArray, List.set_cons_zero, List.set_cons_succ]
  refine wpList_callW rfl (some 75) rfl 16 #[.pointer (some ⟨t2.g, 0, none⟩), .int .i64 1] (by kernel_rfl) hcm ?_
  clear hcm
  rintro e W11 ⟨rfl, hx⟩
  refine ⟨_, rfl, ?_⟩
  simp only [Act.put, List.setIfInBounds_toArray, List.set_cons_zero, List.set_cons_succ]
  have HS11 : Hid (SH w W11 t7 pa pb v4 ∧ TpAt W11 t2) := ⟨HS10.out.1.below hx.out, HS10.out.2.below hx.out⟩
  clear hx HS10
  refine wpList_runTo rfl (some 73) rfl (.tuple #[.agg exB.cs, .int .i64 0]) W11 (by kernel_rfl) ?_
  simp only [Act.put, List.setIfInBounds_toArray, List.set_cons_zero, List.set_cons_succ]
  refine wpList_runTo rfl (some 76) rfl (.agg exB.cs) W11 (by kernel_rfl) ?_
  simp only [Act.put, List.setIfInBounds_toArray, List.set_cons_zero, List.set_cons_succ]
  refine wpList_runTo rfl (some 77) rfl (.int .i64 0) W11 (by kernel_rfl) ?_
  simp only [Act.put, List.setIfInBounds_toArray, List.set_cons_zero, List.set_cons_succ]
  refine wpList_runTo rfl (some 11) rfl (.pointer (some ⟨W11.heap.size, 0, none⟩)) (W11.alloc (.cells zeroC.cs 27)) (by kernel_rfl) ?_
  simp only [Act.put, List.setIfInBounds_toArray, List.set_cons_zero, List.set_cons_succ]
  refine store_cmd (c := exB) (c' := zeroC) (Blk.new W11 _ _) (.tmp 11) (.tmp 76) rfl rfl (by kernel_rfl) (by kernel_rfl) ?_
  simp only [Act.put, List.setIfInBounds_toArray, List.set_cons_zero, List.set_cons_succ]
  obtain ⟨W12, hW12⟩ : ∃ W12, W12 = (W11.alloc (.cells zeroC.cs 27)).setRow W11.heap.size exB.cs := ⟨_, rfl⟩
  have hbB : Below W11.heap.size W11 W12 := by rw [hW12]; exact below_setRow ((Below.refl _ W11).alloc (Nat.le_refl _) _) (Nat.le_refl _) _
  have hB : Blk W12 W11.heap.size 27 exB.cs := by rw [hW12]; exact (Blk.new W11 _ _).row
  rw [← hW12]
  have HS12 : Hid (SH w W12 t7 pa pb v4 ∧ TpAt W12 t2 ∧ Blk W12 W11.heap.size 27 exB.cs) := ⟨HS11.out.1.below hbB, HS11.out.2.below hbB, hB⟩
  clear HS11 hbB hB hW12
  generalize W11.heap.size = pc at *
  refine wpList_runTo rfl (some 12) rfl (.int .i64 0) W12 (by kernel_rfl) ?_
  simp only [Act.put, List.setIfInBounds_toArray, List.set_cons_zero, List.set_cons_succ]
  refine wpList_nil ?_
  refine hK12 _ _ ?_
  clear hK12
  have hln := Len_any HS12.out.2.1 (by rw [HO9.out.2.2]; decide)
  rw [show ((t2.es.length : Nat) : Int) = 2 by rw [HO9.out.2.2]; rfl] at hln
  generalize exB.cs = cBy
  go_upto_region 13 with fail
  rename_i K13 hK13
  refine wp_region_lit ?_
  refine wpList_runTo rfl (some 78) rfl (.pointer (some ⟨t2.g, 0, none⟩)) W12 (by kernel_rfl) ?_
  simp only [Act.put, List.setIfInBounds_toArray, List.set_cons_zero, List.set_cons_succ]
  refine wpList_callW rfl (some 79) rfl 15 #[.pointer (some ⟨t2.g, 0, none⟩)] (by kernel_rfl) hln ?_
  clear hln
  rintro e w2 ⟨rfl, ew⟩
  replace ew := ew.symm
  subst ew
  refine ⟨_, rfl, ?_⟩
  simp only [Act.put, List.setIfInBounds_toArray, List.set_cons_zero, List.set_cons_succ]
  refine wpList_runTo rfl (some 80) rfl (.bool true) W12 (by kernel_rfl) ?_
  simp only [Act.put, List.setIfInBounds_toArray, List.set_cons_zero, List.set_cons_succ]
  refine wpList_runTo rfl (some 81) rfl (.bool true) W12 (by kernel_rfl) ?_
  simp only [Act.put, List.setIfInBounds_toArray, List.set_cons_zero, List.set_cons_succ]
  refine loadG_cmd HS12.out.2.2 (.tmp 11) (by kernel_rfl) rfl (by kernel_rfl) ?_
  simp only [Act.put, List.setIfInBounds_toArray, List.set_cons_zero, List.set_cons_succ]
  refine loadG_cmd HS12.out.1.b (.tmp 3) (by kernel_rfl) rfl (by kernel_rfl) ?_
  simp only [Act.put, List.setIfInBounds_toArray, List.set_cons_zero, List.set_cons_succ]
  refine wpList_runToG (by kernel_rfl) (some 84) rfl (.bool true) W12 (by exact eqC_run (c := exB) (.tmp 82) (.tmp 83) rfl (by kernel_rfl) (by kernel_rfl) _) ?_
  simp only [Act.put, List.setIfInBounds_toArray, List.set_cons_zero, List.set_cons_succ]
  generalize exB.cs = cBz at *
  refine wpList_runTo rfl (some 85) rfl (.bool true) W12 (by kernel_rfl) ?_
  simp only [Act.put, List.setIfInBounds_toArray, List.set_cons_zero, List.set_cons_succ]
  refine wpList_runTo rfl (some 86) rfl (.bool true) W12 (by kernel_rfl) ?_
  simp only [Act.put, List.setIfInBounds_toArray, List.set_cons_zero, List.set_cons_succ]
  refine wpList_runToG (by kernel_rfl) (some 87) rfl (.int .i64 0) W12 (by kernel_rfl) ?_
  simp only [Act.put, List.setIfInBounds_toArray, List.set_cons_zero, List.set_cons_succ]
  refine wpList_runToG (by kernel_rfl) (some 88) rfl (.bool true) W12 (by kernel_rfl) ?_
  simp only [Act.put, List.setIfInBounds_toArray, List.set_cons_zero, List.set_cons_succ]
  refine wpList_runTo rfl (some 89) rfl (.bool true) W12 (by kernel_rfl) ?_
  simp only [Act.put, List.setIfInBounds_toArray, List.set_cons_zero, List.set_cons_succ]
  refine wpList_runTo rfl (some 0) rfl (.bool true) W12 (by kernel_rfl) ?_
  simp only [Act.put, List.setIfInBounds_toArray, List.set_cons_zero, List.set_cons_succ]
  refine wpList_nil ?_
  refine hK13 _ _ ?_
  clear hK13
  go_wp2
  go_ret
  exact ⟨rfl, HS12.out.1.bel⟩
end Go.Proofs.Ytjnnecoikcmaeaa

namespace Go.Proofs.Ytjnnecoikcmaeaa
set_option linter.unusedVariables false
set_option linter.unusedSimpArgs false
open Go.RowKit Go.Great

structure TB (w W : World) (c : Cm) (pc : Nat) (v : Value) (l : List Nat) : Prop where
  bel : Below w.heap.size w W
  blk : Blk W pc 27 c.cs
  by' : By W v l
theorem TB.below {w W W' : World} {c : Cm} {pc : Nat} {v : Value} {l : List Nat} (h : TB w W c pc v l) (hb : Below W.heap.size W W') : TB w W' c pc v l := ⟨below_step h.bel hb, h.blk.below hb h.blk.lt, h.by'.below hb⟩
theorem eqS_run {op : Oper} {a : Act} {s : ByteArray} (x y : Operand) (ho : op.op = .binOp .eql 9 x y 9) (hx : a.eval x = .string s) (hy : a.eval y = .string s) (w : World) : (execOp a.eval op).run Try.prog w = .ok (.value (.bool true)) w := by
  unfold execOp
  simp only [ho, hx, hy]
  go_simp
theorem gt_run {op : Oper} {a : Act} {n k : Nat} {r : Bool} (x y : Operand) (ho : op.op = .binOp .gtr 3 x y 3) (hx : a.eval x = .int .i64 (n : Int)) (hy : a.eval y = .int .i64 (k : Int)) (hr : decide (k < n) = r) (w : World) : (execOp a.eval op).run Try.prog w = .ok (.value (.bool r)) w := by
  have h1 : decide ((k : Int) < (n : Int)) = r := by
    rw [← hr]
    by_cases h : k < n
    · rw [decide_eq_true h, decide_eq_true (by omega)]
    · rw [decide_eq_false h, decide_eq_false (by omega)]
  unfold execOp
  simp only [ho, hx, hy]
  go_simp
theorem eqE_run {op : Oper} {a : Act} {z : Int} {r : Bool} (x y : Operand) (ho : op.op = .binOp .eql 30 x y 30) (hx : a.eval x = .int .i64 z) (hy : a.eval y = .int .i64 0) (hr : (z == 0) = r) (w : World) : (execOp a.eval op).run Try.prog w = .ok (.value (.bool r)) w := by
  unfold execOp
  simp only [ho, hx, hy]
  go_simp
set_option maxRecDepth 100000 in
set_option maxHeartbeats 8000000 in
theorem TapeBack_law {w : World} {c : Cm} (hc : c.ok) {v : Value} {l : List Nat} (hv : By w v l) (hl : l.length ≤ 9223372036854775807) : Calls Try.prog 3 #[.agg c.cs, v] w fun e w' => e = .returned (.bool true) ∧ Hid (Below w.heap.size w w') := by
  have HL : Hid (l.length ≤ 9223372036854775807) := hl
  obtain ⟨W0, hW0⟩ : ∃ W0, W0 = w.alloc (.cells c.cs 27) := ⟨_, rfl⟩
  have hb0 : Below w.heap.size w W0 := by rw [hW0]; exact (Below.refl _ w).alloc (Nat.le_refl _) _
  have HB0 : Hid (TB w W0 c w.heap.size v l) := ⟨hb0, by rw [hW0]; exact Blk.new _ _ _, hv.below hb0⟩
  have hsh := shown_any W0
  clear hb0 hv hl
  go_enter Try.func3, Try.ntmps3
  go_upto_region 0 with fail
  rename_i K0 hK0
  refine wp_region_lit ?_
  refine wpList_runTo rfl (some 2) rfl (.pointer (some ⟨w.heap.size, 0, none⟩)) (w.alloc (.cells c.cs 27)) (by kernel_rfl) ?_
  simp only [Act.put, List.setIfInBounds_toArray, List.set_cons_zero, List.set_cons_succ]
  rw [← hW0]
  clear hW0
  obtain ⟨pc, hpc⟩ : ∃ pc, pc = w.heap.size := ⟨_, rfl⟩
  have HB0' : Hid (TB w W0 c pc v l) := by rw [hpc]; exact HB0
  rw [← hpc]
  clear HB0 hpc
  refine wpList_runTo rfl (some 4) rfl (.bool false) W0 (by kernel_rfl) ?_
  simp only [Act.put, List.setIfInBounds_toArray, List.set_cons_zero, List.set_cons_succ]
  refine wpList_nil ?_
  refine hK0 _ _ ?_
  clear hK0
  generalize c.cs = cc0
  go_upto_region 1 with fail
  rename_i K1 hK1
  refine wp_region_lit ?_
  refine wpList_callW rfl (some 14) rfl 8 #[] (by kernel_rfl) hsh ?_
  clear hsh
  rintro e W1 ⟨rfl, hx⟩
  refine ⟨_, rfl, ?_⟩
  simp only [Act.put, List.setIfInBounds_toArray, List.set_cons_zero, List.set_cons_succ]
  have HB1 : Hid (TB w W1 c pc v l) := HB0'.out.below hx.out
  clear HB0' hx
  refine wpList_runTo rfl (some 5) rfl (.bool true) W1 (by kernel_rfl) ?_
  simp only [Act.put, List.setIfInBounds_toArray, List.set_cons_zero, List.set_cons_succ]
  refine wpList_nil ?_
  refine hK1 _ _ ?_
  clear hK1
  have hen := Encode_any c hc W1
  go_upto_region 2 with fail
  rename_i K2 hK2
  refine wp_region_lit ?_
  refine load_cmd HB1.out.blk (.tmp 2) rfl rfl (by kernel_rfl) ?_
  simp only [Act.put, List.setIfInBounds_toArray, List.set_cons_zero, List.set_cons_succ]
  refine wpList_callW rfl (some 17) rfl 9 #[.agg c.cs] (by kernel_rfl) hen ?_
  clear hen
  rintro e W2 ⟨ve, rfl, hx⟩
  refine ⟨_, rfl, ?_⟩
  simp only [Act.put, List.setIfInBounds_toArray, List.set_cons_zero, List.set_cons_succ]
  have HB2 : Hid (TB w W2 c pc v l) := HB1.out.below hx.out.1
  have HE : Hid ((encE c = 0 → By W2 ve (encL c)) ∧ (encE c ≠ 0 → ve = .slice none 0 0)) := ⟨fun e => (hx.out.2.1 e).by', hx.out.2.2⟩
  clear HB1 hx
  generalize c.cs = cc1
  refine wpList_runTo rfl (some 15) rfl (.tuple #[ve, .int .i64 (encE c)]) W2 (by kernel_rfl) ?_
  simp only [Act.put, List.setIfInBounds_toArray, List.set_cons_zero, List.set_cons_succ]
  refine wpList_runTo rfl (some 18) rfl (ve) W2 (by kernel_rfl) ?_
  simp only [Act.put, List.setIfInBounds_toArray, List.set_cons_zero, List.set_cons_succ]
  refine wpList_runTo rfl (some 19) rfl (.int .i64 (encE c)) W2 (by kernel_rfl) ?_
  simp only [Act.put, List.setIfInBounds_toArray, List.set_cons_zero, List.set_cons_succ]
  refine wpList_runTo rfl (some 6) rfl (ve) W2 (by kernel_rfl) ?_
  simp only [Act.put, List.setIfInBounds_toArray, List.set_cons_zero, List.set_cons_succ]
  refine wpList_runTo rfl (some 7) rfl (.int .i64 (encE c)) W2 (by kernel_rfl) ?_
  simp only [Act.put, List.setIfInBounds_toArray, List.set_cons_zero, List.set_cons_succ]
  refine wpList_nil ?_
  refine hK2 _ _ ?_
  clear hK2
  by_cases h0 : encE c = 0
  · have hy := HE.out.1 h0
    obtain ⟨hl0, hl6⟩ := encL_len h0
    have g1 : decide (0 < (encL c).length) = true := decide_eq_true hl0
    have g2 : decide (600 < (encL c).length) = false := decide_eq_false (by omega)
    rw [h0]
    clear HE
    have HY : Hid (By W2 ve (encL c)) := hy
    obtain ⟨va, vc, hvf, _⟩ := hy.form
    clear hy
    go_upto_region 3 with fail
    rename_i K3 hK3
    refine wp_region_lit ?_
    refine wpList_runTo rfl (some 20) rfl (.bool true) W2 (by kernel_rfl) ?_
    simp only [Act.put, List.setIfInBounds_toArray, List.set_cons_zero, List.set_cons_succ]
    refine wpList_runTo rfl (some 21) rfl (.bool false) W2 (by kernel_rfl) ?_
    simp only [Act.put, List.setIfInBounds_toArray, List.set_cons_zero, List.set_cons_succ]
    refine wpList_runTo rfl (some 22) rfl (.bool false) W2 (by kernel_rfl) ?_
    simp only [Act.put, List.setIfInBounds_toArray, List.set_cons_zero, List.set_cons_succ]
    refine wpList_runToG (by kernel_rfl) (some 23) rfl (.int .i64 0) W2 (by kernel_rfl) ?_
    simp only [Act.put, List.setIfInBounds_toArray, List.set_cons_zero, List.set_cons_succ]
    refine wpList_runToG (by kernel_rfl) (some 24) rfl (.bool true) W2 (by kernel_rfl) ?_
    simp only [Act.put, List.setIfInBounds_toArray, List.set_cons_zero, List.set_cons_succ]
    refine wpList_runToG (by kernel_rfl) (some 25) rfl (ve) W2 (by kernel_rfl) ?_
    simp only [Act.put, List.setIfInBounds_toArray, List.set_cons_zero, List.set_cons_succ]
    rw [hvf]
    generalize (encL c).length = N at *
    refine wpList_runToG (by kernel_rfl) (some 26) rfl (.int .i64 (N : Int)) W2 (by kernel_rfl) ?_
    simp only [Act.put, List.setIfInBounds_toArray, List.set_cons_zero, List.set_cons_succ]
    refine wpList_runToG (by kernel_rfl) (some 27) rfl (.bool true) W2 (by exact gt_run (n := N) (k := 0) (.tmp 26) (.const (.int .i64 0)) rfl (by kernel_rfl) rfl g1 _) ?_
    simp only [Act.put, List.setIfInBounds_toArray, List.set_cons_zero, List.set_cons_succ]
    refine wpList_runToG (by kernel_rfl) (some 28) rfl (.bool false) W2 (by kernel_rfl) ?_
    simp only [Act.put, List.setIfInBounds_toArray, List.set_cons_zero, List.set_cons_succ]
    refine wpList_runTo rfl (some 29) rfl (.bool false) W2 (by kernel_rfl) ?_
    simp only [Act.put, List.setIfInBounds_toArray, List.set_cons_zero, List.set_cons_succ]
    refine wpList_runTo rfl (some 30) rfl (.bool false) W2 (by kernel_rfl) ?_
    simp only [Act.put, List.setIfInBounds_toArray, List.set_cons_zero, List.set_cons_succ]
    refine wpList_runToG (by kernel_rfl) (some 31) rfl (.slice va N vc) W2 (by kernel_rfl) ?_
    simp only [Act.put, List.setIfInBounds_toArray, List.set_cons_zero, List.set_cons_succ]
    refine wpList_runToG (by kernel_rfl) (some 32) rfl (.int .i64 (N : Int)) W2 (by kernel_rfl) ?_
    simp only [Act.put, List.setIfInBounds_toArray, List.set_cons_zero, List.set_cons_succ]
    refine wpList_runToG (by kernel_rfl) (some 33) rfl (.bool false) W2 (by exact gt_run (n := N) (k := 600) (.tmp 32) (.const (.int .i64 600)) rfl (by kernel_rfl) rfl g2 _) ?_
    simp only [Act.put, List.setIfInBounds_toArray, List.set_cons_zero, List.set_cons_succ]
    refine wpList_runTo rfl (some 34) rfl (.bool false) W2 (by kernel_rfl) ?_
    simp only [Act.put, List.setIfInBounds_toArray, List.set_cons_zero, List.set_cons_succ]
    refine wpList_nil ?_
    refine hK3 _ _ ?_
    clear hK3
    rw [← hvf]
    clear g1 g2 hvf hl0 hl6
    go_upto_region 5 with fail
    rename_i K5 hK5
    refine wp_region_lit ?_
    refine wpList_runTo rfl (some 35) rfl (.int .i64 0) W2 (by kernel_rfl) ?_
    simp only [Act.put, List.setIfInBounds_toArray, List.set_cons_zero, List.set_cons_succ]
    refine wpList_runTo rfl (some 36) rfl (.bool true) W2 (by kernel_rfl) ?_
    simp only [Act.put, List.setIfInBounds_toArray, List.set_cons_zero, List.set_cons_succ]
    refine wpList_nil ?_
    refine hK5 _ _ ?_
    clear hK5
    obtain ⟨dc, hdc, hdcs⟩ := dec_enc h0
    have hde := Decode_any HY.out (by have := encL_len h0; omega)
    rw [hdc] at hde
    go_upto_region 6 with fail
    rename_i K6 hK6
    refine wp_region_lit ?_
    refine wpList_runTo rfl (some 38) rfl (ve) W2 (by kernel_rfl) ?_
    simp only [Act.put, List.setIfInBounds_toArray, List.set_cons_zero, List.set_cons_succ]
    refine wpList_callW rfl (some 39) rfl 10 #[ve] (by kernel_rfl) hde ?_
    clear hde
    rintro e W3 ⟨rfl, hx⟩
    rw [hdcs]
    refine ⟨_, rfl, ?_⟩
    simp only [Act.put, List.setIfInBounds_toArray, List.set_cons_zero, List.set_cons_succ]
    have HB3 : Hid (TB w W3 c pc v l) := HB2.out.below hx.out
    clear hx HB2 HY
    refine wpList_runTo rfl (some 37) rfl (.tuple #[.agg c.cs, .nilIface]) W3 (by kernel_rfl) ?_
    simp only [Act.put, List.setIfInBounds_toArray, List.set_cons_zero, List.set_cons_succ]
    refine wpList_runTo rfl (some 40) rfl (.agg c.cs) W3 (by kernel_rfl) ?_
    simp only [Act.put, List.setIfInBounds_toArray, List.set_cons_zero, List.set_cons_succ]
    refine wpList_runTo rfl (some 41) rfl (.nilIface) W3 (by kernel_rfl) ?_
    simp only [Act.put, List.setIfInBounds_toArray, List.set_cons_zero, List.set_cons_succ]
    refine wpList_runTo rfl (some 8) rfl (.pointer (some ⟨W3.heap.size, 0, none⟩)) (W3.alloc (.cells zeroC.cs 27)) (by kernel_rfl) ?_
    simp only [Act.put, List.setIfInBounds_toArray, List.set_cons_zero, List.set_cons_succ]
    refine store_cmd (c := c) (c' := zeroC) (Blk.new W3 _ _) (.tmp 8) (.tmp 40) rfl rfl (by kernel_rfl) (by kernel_rfl) ?_
    simp only [Act.put, List.setIfInBounds_toArray, List.set_cons_zero, List.set_cons_succ]
    obtain ⟨W4, hW4⟩ : ∃ W4, W4 = (W3.alloc (.cells zeroC.cs 27)).setRow W3.heap.size c.cs := ⟨_, rfl⟩
    have hbB : Below W3.heap.size W3 W4 := by rw [hW4]; exact below_setRow ((Below.refl _ W3).alloc (Nat.le_refl _) _) (Nat.le_refl _) _
    have hB : Blk W4 W3.heap.size 27 c.cs := by rw [hW4]; exact (Blk.new W3 _ _).row
    rw [← hW4]
    have HB4 : Hid (TB w W4 c pc v l ∧ Blk W4 W3.heap.size 27 c.cs) := ⟨HB3.out.below hbB, hB⟩
    clear HB3 hbB hB hW4
    generalize W3.heap.size = pe at *
    refine wpList_runTo rfl (some 9) rfl (.nilIface) W4 (by kernel_rfl) ?_
    simp only [Act.put, List.setIfInBounds_toArray, List.set_cons_zero, List.set_cons_succ]
    refine wpList_nil ?_
    refine hK6 _ _ ?_
    clear hK6
    generalize c.cs = cc2
    go_upto_region 7 with fail
    rename_i K7 hK7
    refine wp_region_lit ?_
    refine wpList_runTo rfl (some 42) rfl (.nilIface) W4 (by kernel_rfl) ?_
    simp only [Act.put, List.setIfInBounds_toArray, List.set_cons_zero, List.set_cons_succ]
    refine wpList_runTo rfl (some 43) rfl (.bool false) W4 (by kernel_rfl) ?_
    simp only [Act.put, List.setIfInBounds_toArray, List.set_cons_zero, List.set_cons_succ]
    refine wpList_runTo rfl (some 44) rfl (.bool false) W4 (by kernel_rfl) ?_
    simp only [Act.put, List.setIfInBounds_toArray, List.set_cons_zero, List.set_cons_succ]
    refine loadG_cmd HB4.out.2 (.tmp 8) (by kernel_rfl) rfl (by kernel_rfl) ?_
    simp only [Act.put, List.setIfInBounds_toArray, List.set_cons_zero, List.set_cons_succ]
    refine loadG_cmd HB4.out.1.blk (.tmp 2) (by kernel_rfl) rfl (by kernel_rfl) ?_
    simp only [Act.put, List.setIfInBounds_toArray, List.set_cons_zero, List.set_cons_succ]
    refine wpList_runToG (by kernel_rfl) (some 47) rfl (.bool false) W4 (by exact neC_run (c := c) (.tmp 45) (.tmp 46) rfl (by kernel_rfl) (by kernel_rfl) _) ?_
    simp only [Act.put, List.setIfInBounds_toArray, List.set_cons_zero, List.set_cons_succ]
    generalize c.cs = cc3
    refine wpList_runTo rfl (some 48) rfl (.bool false) W4 (by kernel_rfl) ?_
    simp only [Act.put, List.setIfInBounds_toArray, List.set_cons_zero, List.set_cons_succ]
    refine wpList_nil ?_
    refine hK7 _ _ ?_
    clear hK7
    have HB5 : Hid (TB w W4 c pc v l) := HB4.out.1
    clear HB4 hdc hdcs
    have hde2 := Decode_any HB5.out.by' HL.out
    cases hdl : dec l with
    | error p =>
      rw [hdl] at hde2
      go_upto_region 9 with fail
      rename_i K9 hK9
      refine wp_region_lit ?_
      refine wpList_runTo rfl (some 50) rfl (v) W4 (by kernel_rfl) ?_
      simp only [Act.put, List.setIfInBounds_toArray, List.set_cons_zero, List.set_cons_succ]
      refine wpList_callW rfl (some 51) rfl 10 #[v] (by kernel_rfl) hde2 ?_
      clear hde2
      rintro e X1 ⟨fg, rfl, hx⟩
      refine ⟨_, rfl, ?_⟩
      simp only [Act.put, List.setIfInBounds_toArray, List.set_cons_zero, List.set_cons_succ]
      have HX1 : Hid (TB w X1 c pc v l) := HB5.out.below hx.out.1
      clear hx
      refine wpList_runTo rfl (some 49) rfl (.tuple #[.agg zeroC.cs, .iface 54 (.pointer (some ⟨fg, 0, none⟩))]) X1 (by kernel_rfl) ?_
      simp only [Act.put, List.setIfInBounds_toArray, List.set_cons_zero, List.set_cons_succ]
      refine wpList_runTo rfl (some 52) rfl (.agg zeroC.cs) X1 (by kernel_rfl) ?_
      simp only [Act.put, List.setIfInBounds_toArray, List.set_cons_zero, List.set_cons_succ]
      refine wpList_runTo rfl (some 53) rfl (.iface 54 (.pointer (some ⟨fg, 0, none⟩))) X1 (by kernel_rfl) ?_
      simp only [Act.put, List.setIfInBounds_toArray, List.set_cons_zero, List.set_cons_succ]
      refine wpList_runTo rfl (some 10) rfl (.pointer (some ⟨X1.heap.size, 0, none⟩)) (X1.alloc (.cells zeroC.cs 27)) (by kernel_rfl) ?_
      simp only [Act.put, List.setIfInBounds_toArray, List.set_cons_zero, List.set_cons_succ]
      refine store_cmd (c := zeroC) (c' := zeroC) (Blk.new X1 _ _) (.tmp 10) (.tmp 52) rfl rfl (by kernel_rfl) (by kernel_rfl) ?_
      simp only [Act.put, List.setIfInBounds_toArray, List.set_cons_zero, List.set_cons_succ]
      obtain ⟨X2, hX2⟩ : ∃ X2, X2 = (X1.alloc (.cells zeroC.cs 27)).setRow X1.heap.size zeroC.cs := ⟨_, rfl⟩
      have hbB : Below X1.heap.size X1 X2 := by rw [hX2]; exact below_setRow ((Below.refl _ X1).alloc (Nat.le_refl _) _) (Nat.le_refl _) _
      have hB : Blk X2 X1.heap.size 27 zeroC.cs := by rw [hX2]; exact (Blk.new X1 _ _).row
      rw [← hX2]
      have HX2 : Hid (TB w X2 c pc v l ∧ Blk X2 X1.heap.size 27 zeroC.cs) := ⟨HX1.out.below hbB, hB⟩
      clear HX1 hbB hB hX2
      generalize X1.heap.size = pd at *
      refine wpList_runTo rfl (some 11) rfl (.iface 54 (.pointer (some ⟨fg, 0, none⟩))) X2 (by kernel_rfl) ?_
      simp only [Act.put, List.setIfInBounds_toArray, List.set_cons_zero, List.set_cons_succ]
      refine wpList_nil ?_
      refine hK9 _ _ ?_
      clear hK9
      generalize zeroC.cs = czz
      go_upto_region 10 with fail
      rename_i K10 hK10
      refine wp_region_lit ?_
      refine wpList_runTo rfl (some 54) rfl (.iface 54 (.pointer (some ⟨fg, 0, none⟩))) X2 (by kernel_rfl) ?_
      simp only [Act.put, List.setIfInBounds_toArray, List.set_cons_zero, List.set_cons_succ]
      refine wpList_runTo rfl (some 55) rfl (.bool true) X2 (by go_simp) ?_
      simp only [Act.put, List.setIfInBounds_toArray, List.set_cons_zero, List.set_cons_succ]
      refine wpList_nil ?_
      refine hK10 _ _ ?_
      clear hK10
      go_upto_region 11 with fail
      rename_i K11 hK11
      refine wp_region_lit ?_
      refine load_cmd HX2.out.2 (.tmp 10) rfl rfl (by kernel_rfl) ?_
      simp only [Act.put, List.setIfInBounds_toArray, List.set_cons_zero, List.set_cons_succ]
      refine wpList_runTo rfl (some 57) rfl (.agg zeroC.cs) X2 (by kernel_rfl) ?_
      simp only [Act.put, List.setIfInBounds_toArray, List.set_cons_zero, List.set_cons_succ]
      refine wpList_runTo rfl (some 58) rfl (.bool true) X2 (by exact eqC_run (c := zeroC) (.tmp 56) (.tmp 57) rfl (by kernel_rfl) (by kernel_rfl) _) ?_
      simp only [Act.put, List.setIfInBounds_toArray, List.set_cons_zero, List.set_cons_succ]
      refine wpList_runTo rfl (some 4) rfl (.bool true) X2 (by kernel_rfl) ?_
      simp only [Act.put, List.setIfInBounds_toArray, List.set_cons_zero, List.set_cons_succ]
      refine wpList_nil ?_
      refine hK11 _ _ ?_
      clear hK11
      generalize zeroC.cs = czy
      go_wp2
      go_ret
      exact ⟨rfl, HX2.out.1.bel⟩
    | ok d =>
      rw [hdl] at hde2
      obtain ⟨hdE, hdL, hdok⟩ := enc_dec HB5.out.by'.bb hdl
      go_upto_region 9 with fail
      rename_i K9 hK9
      refine wp_region_lit ?_
      refine wpList_runTo rfl (some 50) rfl (v) W4 (by kernel_rfl) ?_
      simp only [Act.put, List.setIfInBounds_toArray, List.set_cons_zero, List.set_cons_succ]
      refine wpList_callW rfl (some 51) rfl 10 #[v] (by kernel_rfl) hde2 ?_
      clear hde2
      rintro e X1 ⟨rfl, hx⟩
      refine ⟨_, rfl, ?_⟩
      simp only [Act.put, List.setIfInBounds_toArray, List.set_cons_zero, List.set_cons_succ]
      have HX1 : Hid (TB w X1 c pc v l) := HB5.out.below hx.out
      clear hx
      refine wpList_runTo rfl (some 49) rfl (.tuple #[.agg d.cs, .nilIface]) X1 (by kernel_rfl) ?_
      simp only [Act.put, List.setIfInBounds_toArray, List.set_cons_zero, List.set_cons_succ]
      refine wpList_runTo rfl (some 52) rfl (.agg d.cs) X1 (by kernel_rfl) ?_
      simp only [Act.put, List.setIfInBounds_toArray, List.set_cons_zero, List.set_cons_succ]
      refine wpList_runTo rfl (some 53) rfl (.nilIface) X1 (by kernel_rfl) ?_
      simp only [Act.put, List.setIfInBounds_toArray, List.set_cons_zero, List.set_cons_succ]
      refine wpList_runTo rfl (some 10) rfl (.pointer (some ⟨X1.heap.size, 0, none⟩)) (X1.alloc (.cells zeroC.cs 27)) (by kernel_rfl) ?_
      simp only [Act.put, List.setIfInBounds_toArray, List.set_cons_zero, List.set_cons_succ]
      refine store_cmd (c := d) (c' := zeroC) (Blk.new X1 _ _) (.tmp 10) (.tmp 52) rfl rfl (by kernel_rfl) (by kernel_rfl) ?_
      simp only [Act.put, List.setIfInBounds_toArray, List.set_cons_zero, List.set_cons_succ]
      obtain ⟨X2, hX2⟩ : ∃ X2, X2 = (X1.alloc (.cells zeroC.cs 27)).setRow X1.heap.size d.cs := ⟨_, rfl⟩
      have hbB : Below X1.heap.size X1 X2 := by rw [hX2]; exact below_setRow ((Below.refl _ X1).alloc (Nat.le_refl _) _) (Nat.le_refl _) _
      have hB : Blk X2 X1.heap.size 27 d.cs := by rw [hX2]; exact (Blk.new X1 _ _).row
      rw [← hX2]
      have HX2 : Hid (TB w X2 c pc v l ∧ Blk X2 X1.heap.size 27 d.cs) := ⟨HX1.out.below hbB, hB⟩
      clear HX1 hbB hB hX2
      generalize X1.heap.size = pd at *
      refine wpList_runTo rfl (some 11) rfl (.nilIface) X2 (by kernel_rfl) ?_
      simp only [Act.put, List.setIfInBounds_toArray, List.set_cons_zero, List.set_cons_succ]
      refine wpList_nil ?_
      refine hK9 _ _ ?_
      clear hK9
      generalize d.cs = czz
      go_upto_region 10 with fail
      rename_i K10 hK10
      refine wp_region_lit ?_
      refine wpList_runTo rfl (some 54) rfl (.nilIface) X2 (by kernel_rfl) ?_
      simp only [Act.put, List.setIfInBounds_toArray, List.set_cons_zero, List.set_cons_succ]
      refine wpList_runTo rfl (some 55) rfl (.bool false) X2 (by kernel_rfl) ?_
      simp only [Act.put, List.setIfInBounds_toArray, List.set_cons_zero, List.set_cons_succ]
      refine wpList_nil ?_
      refine hK10 _ _ ?_
      clear hK10
      have hen2 := Encode_any d hdok X2
      go_upto_region 12 with fail
      rename_i K12 hK12
      refine wp_region_lit ?_
      refine load_cmd HX2.out.2 (.tmp 10) rfl rfl (by kernel_rfl) ?_
      simp only [Act.put, List.setIfInBounds_toArray, List.set_cons_zero, List.set_cons_succ]
      refine wpList_callW rfl (some 61) rfl 9 #[.agg d.cs] (by kernel_rfl) hen2 ?_
      clear hen2
      rintro e X3 ⟨ve, rfl, hx⟩
      rw [hdE] at hx ⊢
      refine ⟨_, rfl, ?_⟩
      simp only [Act.put, List.setIfInBounds_toArray, List.set_cons_zero, List.set_cons_succ]
      have hye : By X3 ve l := by have := (hx.out.2.1 rfl).by'; rw [hdL] at this; exact this
      have HX3 : Hid (TB w X3 c pc v l) := HX2.out.1.below hx.out.1
      clear hx HX2
      generalize d.cs = czx
      refine wpList_runTo rfl (some 59) rfl (.tuple #[ve, .int .i64 0]) X3 (by kernel_rfl) ?_
      simp only [Act.put, List.setIfInBounds_toArray, List.set_cons_zero, List.set_cons_succ]
      refine wpList_runTo rfl (some 62) rfl (ve) X3 (by kernel_rfl) ?_
      simp only [Act.put, List.setIfInBounds_toArray, List.set_cons_zero, List.set_cons_succ]
      refine wpList_runTo rfl (some 63) rfl (.int .i64 0) X3 (by kernel_rfl) ?_
      simp only [Act.put, List.setIfInBounds_toArray, List.set_cons_zero, List.set_cons_succ]
      refine wpList_runTo rfl (some 12) rfl (ve) X3 (by kernel_rfl) ?_
      simp only [Act.put, List.setIfInBounds_toArray, List.set_cons_zero, List.set_cons_succ]
      refine wpList_runTo rfl (some 13) rfl (.int .i64 0) X3 (by kernel_rfl) ?_
      simp only [Act.put, List.setIfInBounds_toArray, List.set_cons_zero, List.set_cons_succ]
      refine wpList_nil ?_
      refine hK12 _ _ ?_
      clear hK12
      go_upto_region 13 with fail
      rename_i K13 hK13
      refine wp_region_lit ?_
      refine wpList_runTo rfl (some 64) rfl (.int .i64 0) X3 (by kernel_rfl) ?_
      simp only [Act.put, List.setIfInBounds_toArray, List.set_cons_zero, List.set_cons_succ]
      refine wpList_runTo rfl (some 65) rfl (.bool true) X3 (by kernel_rfl) ?_
      simp only [Act.put, List.setIfInBounds_toArray, List.set_cons_zero, List.set_cons_succ]
      refine wpList_runTo rfl (some 66) rfl (.bool true) X3 (by kernel_rfl) ?_
      simp only [Act.put, List.setIfInBounds_toArray, List.set_cons_zero, List.set_cons_succ]
      refine wpList_runToG (by kernel_rfl) (some 67) rfl (ve) X3 (by kernel_rfl) ?_
      simp only [Act.put, List.setIfInBounds_toArray, List.set_cons_zero, List.set_cons_succ]
      refine wpList_runToG (by kernel_rfl) (some 68) rfl (.string (ofN l)) X3 (by exact conv_run (.tmp 67) rfl (by kernel_rfl) hye) ?_
      simp only [Act.put, List.setIfInBounds_toArray, List.set_cons_zero, List.set_cons_succ]
      refine wpList_runToG (by kernel_rfl) (some 69) rfl (v) X3 (by kernel_rfl) ?_
      simp only [Act.put, List.setIfInBounds_toArray, List.set_cons_zero, List.set_cons_succ]
      refine wpList_runToG (by kernel_rfl) (some 70) rfl (.string (ofN l)) X3 (by exact conv_run (.tmp 69) rfl (by kernel_rfl) HX3.out.by') ?_
      simp only [Act.put, List.setIfInBounds_toArray, List.set_cons_zero, List.set_cons_succ]
      refine wpList_runToG (by kernel_rfl) (some 71) rfl (.bool true) X3 (by exact eqS_run (s := ofN l) (.tmp 68) (.tmp 70) rfl (by kernel_rfl) (by kernel_rfl) _) ?_
      simp only [Act.put, List.setIfInBounds_toArray, List.set_cons_zero, List.set_cons_succ]
      refine wpList_runTo rfl (some 72) rfl (.bool true) X3 (by kernel_rfl) ?_
      simp only [Act.put, List.setIfInBounds_toArray, List.set_cons_zero, List.set_cons_succ]
      refine wpList_runTo rfl (some 4) rfl (.bool true) X3 (by kernel_rfl) ?_
      simp only [Act.put, List.setIfInBounds_toArray, List.set_cons_zero, List.set_cons_succ]
      refine wpList_nil ?_
      refine hK13 _ _ ?_
      clear hK13
      generalize ofN l = sl
      go_wp2
      go_ret
      exact ⟨rfl, HX3.out.bel⟩
  · have hve := HE.out.2 h0
    have hz : (encE c == 0) = false := by simpa using h0
    clear HE
    subst hve
    go_upto_region 3 with fail
    rename_i K3 hK3
    refine wp_region_lit ?_
    refine wpList_runTo rfl (some 20) rfl (.bool true) W2 (by kernel_rfl) ?_
    simp only [Act.put, List.setIfInBounds_toArray, List.set_cons_zero, List.set_cons_succ]
    refine wpList_runTo rfl (some 21) rfl (.bool false) W2 (by kernel_rfl) ?_
    simp only [Act.put, List.setIfInBounds_toArray, List.set_cons_zero, List.set_cons_succ]
    refine wpList_runTo rfl (some 22) rfl (.bool false) W2 (by kernel_rfl) ?_
    simp only [Act.put, List.setIfInBounds_toArray, List.set_cons_zero, List.set_cons_succ]
    refine wpList_runToG (by kernel_rfl) (some 23) rfl (.int .i64 (encE c)) W2 (by kernel_rfl) ?_
    simp only [Act.put, List.setIfInBounds_toArray, List.set_cons_zero, List.set_cons_succ]
    refine wpList_runToG (by kernel_rfl) (some 24) rfl (.bool false) W2 (by exact eqE_run (z := encE c) (.tmp 23) (.const (.int .i64 0)) rfl (by kernel_rfl) rfl hz _) ?_
    simp only [Act.put, List.setIfInBounds_toArray, List.set_cons_zero, List.set_cons_succ]
    refine wpList_runToG (by kernel_rfl) (some 25) rfl (.slice none 0 0) W2 (by kernel_rfl) ?_
    simp only [Act.put, List.setIfInBounds_toArray, List.set_cons_zero, List.set_cons_succ]
    refine wpList_runToG (by kernel_rfl) (some 26) rfl (.int .i64 0) W2 (by kernel_rfl) ?_
    simp only [Act.put, List.setIfInBounds_toArray, List.set_cons_zero, List.set_cons_succ]
    refine wpList_runToG (by kernel_rfl) (some 27) rfl (.bool false) W2 (by kernel_rfl) ?_
    simp only [Act.put, List.setIfInBounds_toArray, List.set_cons_zero, List.set_cons_succ]
    refine wpList_runToG (by kernel_rfl) (some 28) rfl (.bool false) W2 (by kernel_rfl) ?_
    simp only [Act.put, List.setIfInBounds_toArray, List.set_cons_zero, List.set_cons_succ]
    refine wpList_runTo rfl (some 29) rfl (.bool false) W2 (by kernel_rfl) ?_
    simp only [Act.put, List.setIfInBounds_toArray, List.set_cons_zero, List.set_cons_succ]
    refine wpList_runTo rfl (some 30) rfl (.bool false) W2 (by kernel_rfl) ?_
    simp only [Act.put, List.setIfInBounds_toArray, List.set_cons_zero, List.set_cons_succ]
    refine wpList_runToG (by kernel_rfl) (some 31) rfl (.slice none 0 0) W2 (by kernel_rfl) ?_
    simp only [Act.put, List.setIfInBounds_toArray, List.set_cons_zero, List.set_cons_succ]
    refine wpList_runToG (by kernel_rfl) (some 32) rfl (.int .i64 0) W2 (by kernel_rfl) ?_
    simp only [Act.put, List.setIfInBounds_toArray, List.set_cons_zero, List.set_cons_succ]
    refine wpList_runToG (by kernel_rfl) (some 33) rfl (.bool false) W2 (by kernel_rfl) ?_
    simp only [Act.put, List.setIfInBounds_toArray, List.set_cons_zero, List.set_cons_succ]
    refine wpList_runTo rfl (some 34) rfl (.bool false) W2 (by kernel_rfl) ?_
    simp only [Act.put, List.setIfInBounds_toArray, List.set_cons_zero, List.set_cons_succ]
    refine wpList_nil ?_
    refine hK3 _ _ ?_
    clear hK3
    go_upto_region 5 with fail
    rename_i K5 hK5
    refine wp_region_lit ?_
    refine wpList_runTo rfl (some 35) rfl (.int .i64 (encE c)) W2 (by kernel_rfl) ?_
    simp only [Act.put, List.setIfInBounds_toArray, List.set_cons_zero, List.set_cons_succ]
    refine wpList_runTo rfl (some 36) rfl (.bool false) W2 (by exact eqE_run (z := encE c) (.tmp 35) (.const (.int .i64 0)) rfl (by kernel_rfl) rfl hz _) ?_
    simp only [Act.put, List.setIfInBounds_toArray, List.set_cons_zero, List.set_cons_succ]
    refine wpList_nil ?_
    refine hK5 _ _ ?_
    clear hK5 hz
    generalize encE c = ez at *
    have hde2 := Decode_any HB2.out.by' HL.out
    cases hdl : dec l with
    | error p =>
      rw [hdl] at hde2
      go_upto_region 9 with fail
      rename_i K9 hK9
      refine wp_region_lit ?_
      refine wpList_runTo rfl (some 50) rfl (v) W2 (by kernel_rfl) ?_
      simp only [Act.put, List.setIfInBounds_toArray, List.set_cons_zero, List.set_cons_succ]
      refine wpList_callW rfl (some 51) rfl 10 #[v] (by kernel_rfl) hde2 ?_
      clear hde2
      rintro e X1 ⟨fg, rfl, hx⟩
      refine ⟨_, rfl, ?_⟩
      simp only [Act.put, List.setIfInBounds_toArray, List.set_cons_zero, List.set_cons_succ]
      have HX1 : Hid (TB w X1 c pc v l) := HB2.out.below hx.out.1
      clear hx
      refine wpList_runTo rfl (some 49) rfl (.tuple #[.agg zeroC.cs, .iface 54 (.pointer (some ⟨fg, 0, none⟩))]) X1 (by kernel_rfl) ?_
      simp only [Act.put, List.setIfInBounds_toArray, List.set_cons_zero, List.set_cons_succ]
      refine wpList_runTo rfl (some 52) rfl (.agg zeroC.cs) X1 (by kernel_rfl) ?_
      simp only [Act.put, List.setIfInBounds_toArray, List.set_cons_zero, List.set_cons_succ]
      refine wpList_runTo rfl (some 53) rfl (.iface 54 (.pointer (some ⟨fg, 0, none⟩))) X1 (by kernel_rfl) ?_
      simp only [Act.put, List.setIfInBounds_toArray, List.set_cons_zero, List.set_cons_succ]
      refine wpList_runTo rfl (some 10) rfl (.pointer (some ⟨X1.heap.size, 0, none⟩)) (X1.alloc (.cells zeroC.cs 27)) (by kernel_rfl) ?_
      simp only [Act.put, List.setIfInBounds_toArray, List.set_cons_zero, List.set_cons_succ]
      refine store_cmd (c := zeroC) (c' := zeroC) (Blk.new X1 _ _) (.tmp 10) (.tmp 52) rfl rfl (by kernel_rfl) (by kernel_rfl) ?_
      simp only [Act.put, List.setIfInBounds_toArray, List.set_cons_zero, List.set_cons_succ]
      obtain ⟨X2, hX2⟩ : ∃ X2, X2 = (X1.alloc (.cells zeroC.cs 27)).setRow X1.heap.size zeroC.cs := ⟨_, rfl⟩
      have hbB : Below X1.heap.size X1 X2 := by rw [hX2]; exact below_setRow ((Below.refl _ X1).alloc (Nat.le_refl _) _) (Nat.le_refl _) _
      have hB : Blk X2 X1.heap.size 27 zeroC.cs := by rw [hX2]; exact (Blk.new X1 _ _).row
      rw [← hX2]
      have HX2 : Hid (TB w X2 c pc v l ∧ Blk X2 X1.heap.size 27 zeroC.cs) := ⟨HX1.out.below hbB, hB⟩
      clear HX1 hbB hB hX2
      generalize X1.heap.size = pd at *
      refine wpList_runTo rfl (some 11) rfl (.iface 54 (.pointer (some ⟨fg, 0, none⟩))) X2 (by kernel_rfl) ?_
      simp only [Act.put, List.setIfInBounds_toArray, List.set_cons_zero, List.set_cons_succ]
      refine wpList_nil ?_
      refine hK9 _ _ ?_
      clear hK9
      generalize zeroC.cs = czz
      go_upto_region 10 with fail
      rename_i K10 hK10
      refine wp_region_lit ?_
      refine wpList_runTo rfl (some 54) rfl (.iface 54 (.pointer (some ⟨fg, 0, none⟩))) X2 (by kernel_rfl) ?_
      simp only [Act.put, List.setIfInBounds_toArray, List.set_cons_zero, List.set_cons_succ]
      refine wpList_runTo rfl (some 55) rfl (.bool true) X2 (by go_simp) ?_
      simp only [Act.put, List.setIfInBounds_toArray, List.set_cons_zero, List.set_cons_succ]
      refine wpList_nil ?_
      refine hK10 _ _ ?_
      clear hK10
      go_upto_region 11 with fail
      rename_i K11 hK11
      refine wp_region_lit ?_
      refine load_cmd HX2.out.2 (.tmp 10) rfl rfl (by kernel_rfl) ?_
      simp only [Act.put, List.setIfInBounds_toArray, List.set_cons_zero, List.set_cons_succ]
      refine wpList_runTo rfl (some 57) rfl (.agg zeroC.cs) X2 (by kernel_rfl) ?_
      simp only [Act.put, List.setIfInBounds_toArray, List.set_cons_zero, List.set_cons_succ]
      refine wpList_runTo rfl (some 58) rfl (.bool true) X2 (by exact eqC_run (c := zeroC) (.tmp 56) (.tmp 57) rfl (by kernel_rfl) (by kernel_rfl) _) ?_
      simp only [Act.put, List.setIfInBounds_toArray, List.set_cons_zero, List.set_cons_succ]
      refine wpList_runTo rfl (some 4) rfl (.bool true) X2 (by kernel_rfl) ?_
      simp only [Act.put, List.setIfInBounds_toArray, List.set_cons_zero, List.set_cons_succ]
      refine wpList_nil ?_
      refine hK11 _ _ ?_
      clear hK11
      generalize zeroC.cs = czy
      go_wp2
      go_ret
      exact ⟨rfl, HX2.out.1.bel⟩
    | ok d =>
      rw [hdl] at hde2
      obtain ⟨hdE, hdL, hdok⟩ := enc_dec HB2.out.by'.bb hdl
      go_upto_region 9 with fail
      rename_i K9 hK9
      refine wp_region_lit ?_
      refine wpList_runTo rfl (some 50) rfl (v) W2 (by kernel_rfl) ?_
      simp only [Act.put, List.setIfInBounds_toArray, List.set_cons_zero, List.set_cons_succ]
      refine wpList_callW rfl (some 51) rfl 10 #[v] (by kernel_rfl) hde2 ?_
      clear hde2
      rintro e X1 ⟨rfl, hx⟩
      refine ⟨_, rfl, ?_⟩
      simp only [Act.put, List.setIfInBounds_toArray, List.set_cons_zero, List.set_cons_succ]
      have HX1 : Hid (TB w X1 c pc v l) := HB2.out.below hx.out
      clear hx
      refine wpList_runTo rfl (some 49) rfl (.tuple #[.agg d.cs, .nilIface]) X1 (by kernel_rfl) ?_
      simp only [Act.put, List.setIfInBounds_toArray, List.set_cons_zero, List.set_cons_succ]
      refine wpList_runTo rfl (some 52) rfl (.agg d.cs) X1 (by kernel_rfl) ?_
      simp only [Act.put, List.setIfInBounds_toArray, List.set_cons_zero, List.set_cons_succ]
      refine wpList_runTo rfl (some 53) rfl (.nilIface) X1 (by kernel_rfl) ?_
      simp only [Act.put, List.setIfInBounds_toArray, List.set_cons_zero, List.set_cons_succ]
      refine wpList_runTo rfl (some 10) rfl (.pointer (some ⟨X1.heap.size, 0, none⟩)) (X1.alloc (.cells zeroC.cs 27)) (by kernel_rfl) ?_
      simp only [Act.put, List.setIfInBounds_toArray, List.set_cons_zero, List.set_cons_succ]
      refine store_cmd (c := d) (c' := zeroC) (Blk.new X1 _ _) (.tmp 10) (.tmp 52) rfl rfl (by kernel_rfl) (by kernel_rfl) ?_
      simp only [Act.put, List.setIfInBounds_toArray, List.set_cons_zero, List.set_cons_succ]
      obtain ⟨X2, hX2⟩ : ∃ X2, X2 = (X1.alloc (.cells zeroC.cs 27)).setRow X1.heap.size d.cs := ⟨_, rfl⟩
      have hbB : Below X1.heap.size X1 X2 := by rw [hX2]; exact below_setRow ((Below.refl _ X1).alloc (Nat.le_refl _) _) (Nat.le_refl _) _
      have hB : Blk X2 X1.heap.size 27 d.cs := by rw [hX2]; exact (Blk.new X1 _ _).row
      rw [← hX2]
      have HX2 : Hid (TB w X2 c pc v l ∧ Blk X2 X1.heap.size 27 d.cs) := ⟨HX1.out.below hbB, hB⟩
      clear HX1 hbB hB hX2
      generalize X1.heap.size = pd at *
      refine wpList_runTo rfl (some 11) rfl (.nilIface) X2 (by kernel_rfl) ?_
      simp only [Act.put, List.setIfInBounds_toArray, List.set_cons_zero, List.set_cons_succ]
      refine wpList_nil ?_
      refine hK9 _ _ ?_
      clear hK9
      generalize d.cs = czz
      go_upto_region 10 with fail
      rename_i K10 hK10
      refine wp_region_lit ?_
      refine wpList_runTo rfl (some 54) rfl (.nilIface) X2 (by kernel_rfl) ?_
      simp only [Act.put, List.setIfInBounds_toArray, List.set_cons_zero, List.set_cons_succ]
      refine wpList_runTo rfl (some 55) rfl (.bool false) X2 (by kernel_rfl) ?_
      simp only [Act.put, List.setIfInBounds_toArray, List.set_cons_zero, List.set_cons_succ]
      refine wpList_nil ?_
      refine hK10 _ _ ?_
      clear hK10
      have hen2 := Encode_any d hdok X2
      go_upto_region 12 with fail
      rename_i K12 hK12
      refine wp_region_lit ?_
      refine load_cmd HX2.out.2 (.tmp 10) rfl rfl (by kernel_rfl) ?_
      simp only [Act.put, List.setIfInBounds_toArray, List.set_cons_zero, List.set_cons_succ]
      refine wpList_callW rfl (some 61) rfl 9 #[.agg d.cs] (by kernel_rfl) hen2 ?_
      clear hen2
      rintro e X3 ⟨ve, rfl, hx⟩
      rw [hdE] at hx ⊢
      refine ⟨_, rfl, ?_⟩
      simp only [Act.put, List.setIfInBounds_toArray, List.set_cons_zero, List.set_cons_succ]
      have hye : By X3 ve l := by have := (hx.out.2.1 rfl).by'; rw [hdL] at this; exact this
      have HX3 : Hid (TB w X3 c pc v l) := HX2.out.1.below hx.out.1
      clear hx HX2
      generalize d.cs = czx
      refine wpList_runTo rfl (some 59) rfl (.tuple #[ve, .int .i64 0]) X3 (by kernel_rfl) ?_
      simp only [Act.put, List.setIfInBounds_toArray, List.set_cons_zero, List.set_cons_succ]
      refine wpList_runTo rfl (some 62) rfl (ve) X3 (by kernel_rfl) ?_
      simp only [Act.put, List.setIfInBounds_toArray, List.set_cons_zero, List.set_cons_succ]
      refine wpList_runTo rfl (some 63) rfl (.int .i64 0) X3 (by kernel_rfl) ?_
      simp only [Act.put, List.setIfInBounds_toArray, List.set_cons_zero, List.set_cons_succ]
      refine wpList_runTo rfl (some 12) rfl (ve) X3 (by kernel_rfl) ?_
      simp only [Act.put, List.setIfInBounds_toArray, List.set_cons_zero, List.set_cons_succ]
      refine wpList_runTo rfl (some 13) rfl (.int .i64 0) X3 (by kernel_rfl) ?_
      simp only [Act.put, List.setIfInBounds_toArray, List.set_cons_zero, List.set_cons_succ]
      refine wpList_nil ?_
      refine hK12 _ _ ?_
      clear hK12
      go_upto_region 13 with fail
      rename_i K13 hK13
      refine wp_region_lit ?_
      refine wpList_runTo rfl (some 64) rfl (.int .i64 0) X3 (by kernel_rfl) ?_
      simp only [Act.put, List.setIfInBounds_toArray, List.set_cons_zero, List.set_cons_succ]
      refine wpList_runTo rfl (some 65) rfl (.bool true) X3 (by kernel_rfl) ?_
      simp only [Act.put, List.setIfInBounds_toArray, List.set_cons_zero, List.set_cons_succ]
      refine wpList_runTo rfl (some 66) rfl (.bool true) X3 (by kernel_rfl) ?_
      simp only [Act.put, List.setIfInBounds_toArray, List.set_cons_zero, List.set_cons_succ]
      refine wpList_runToG (by kernel_rfl) (some 67) rfl (ve) X3 (by kernel_rfl) ?_
      simp only [Act.put, List.setIfInBounds_toArray, List.set_cons_zero, List.set_cons_succ]
      refine wpList_runToG (by kernel_rfl) (some 68) rfl (.string (ofN l)) X3 (by exact conv_run (.tmp 67) rfl (by kernel_rfl) hye) ?_
      simp only [Act.put, List.setIfInBounds_toArray, List.set_cons_zero, List.set_cons_succ]
      refine wpList_runToG (by kernel_rfl) (some 69) rfl (v) X3 (by kernel_rfl) ?_
      simp only [Act.put, List.setIfInBounds_toArray, List.set_cons_zero, List.set_cons_succ]
      refine wpList_runToG (by kernel_rfl) (some 70) rfl (.string (ofN l)) X3 (by exact conv_run (.tmp 69) rfl (by kernel_rfl) HX3.out.by') ?_
      simp only [Act.put, List.setIfInBounds_toArray, List.set_cons_zero, List.set_cons_succ]
      refine wpList_runToG (by kernel_rfl) (some 71) rfl (.bool true) X3 (by exact eqS_run (s := ofN l) (.tmp 68) (.tmp 70) rfl (by kernel_rfl) (by kernel_rfl) _) ?_
      simp only [Act.put, List.setIfInBounds_toArray, List.set_cons_zero, List.set_cons_succ]
      refine wpList_runTo rfl (some 72) rfl (.bool true) X3 (by kernel_rfl) ?_
      simp only [Act.put, List.setIfInBounds_toArray, List.set_cons_zero, List.set_cons_succ]
      refine wpList_runTo rfl (some 4) rfl (.bool true) X3 (by kernel_rfl) ?_
      simp only [Act.put, List.setIfInBounds_toArray, List.set_cons_zero, List.set_cons_succ]
      refine wpList_nil ?_
      refine hK13 _ _ ?_
      clear hK13
      generalize ofN l = sl
      go_wp2
      go_ret
      exact ⟨rfl, HX3.out.bel⟩
theorem TapeBack_row {w : World} {c : Cm} (hc : c.ok) {v : Value} {l : List Nat} (hv : By w v l) (hl : l.length ≤ maxLen) : Calls Try.prog 3 #[.agg c.cs, v] w fun e w' => e = .returned (.bool true) ∧ Below w.heap.size w w' :=
  (TapeBack_law hc hv (Nat.le_trans hl (by decide))).mono fun e w' h => ⟨h.1, h.2.out⟩
end Go.Proofs.Ytjnnecoikcmaeaa
