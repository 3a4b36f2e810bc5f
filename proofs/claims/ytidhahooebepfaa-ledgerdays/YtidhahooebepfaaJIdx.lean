/-
  ledger: slices.IndexFunc over bookings, by the account.
-/
import Derived.Test.YtidhahooebepfaaJLeaf
namespace Go.Proofs.Ytidhahooebepfaa
set_option linter.unusedVariables false
set_option linter.unusedSimpArgs false
open Go.RowKit Go.Great Go.Maps

theorem below_step {a b c : World} (h : Below a.heap.size a b) (k : Below b.heap.size b c) : Below a.heap.size a c :=
  ⟨k.os.trans h.os, k.tape.trans h.tape, k.output.trans h.output, Nat.le_trans h.size k.size, fun q hq => (k.block q (Nat.lt_of_lt_of_le hq h.size)).trans (h.block q hq)⟩
theorem wpList_callW {P : Program} {ops : Array Oper} {rest : List Oper} {op : Oper} {a : Act} {w : World} {Q : Exit → Act → World → Prop} (hg : op.guard = none) (d : Option Tmp) (hd : op.dst = d)
    (f : FuncId) (args : Array Value) (hrun : (execOp a.eval op).run P w = .ok (.enter f args) w) {R : Ending → World → Prop} (hc : Calls P f args w R)
    (h : ∀ e w', R e w' → ∃ v, e = .returned v ∧ wpList P ops Q rest (a.put d v) w') : wpList P ops Q (op :: rest) a w := by
  subst hd
  refine wpList_plain hg fun K hK => ?_
  unfold Oper.wp
  rw [hrun, Oper.upon_enter]
  refine hc.mono fun e w'' hh => ?_
  obtain ⟨v, rfl, hw⟩ := h _ _ hh
  exact hK _ _ hw
theorem ixB_run {op : Oper} {a : Act} {g o n c i : Nat} (x y : Operand) (ho : op.op = .indexAddr 39 x y) (hx : a.eval x = .slice (some ⟨g, o, none⟩) n c) (hy : a.eval y = .int .i64 (i : Int)) (hi : i < n) (w : World) : (execOp a.eval op).run Try.prog w = .ok (.value (.pointer (some ⟨g, o + i * 5, none⟩))) w := by
  have h1 : (i : Int) < (n : Int) := by omega
  have h2 : ¬ (n : Int) ≤ (i : Int) := by omega
  unfold execOp
  simp only [ho, hx, hy]
  go_simp
theorem sameKey_sK (s t : ByteArray) : (sK s).sameKey (sK t) = (s.toList == t.toList) := by
  rw [ByteArray.toList_eq, ByteArray.toList_eq]; rfl
theorem str_eq {s t : ByteArray} (h : (s.toList == t.toList) = true) : s = t := by
  rw [← sameKey_sK] at h
  exact sK_inj (WideAt.sameKey_eq h)
theorem str_self (s : ByteArray) : (s.toList == s.toList) = true := by simp
theorem str_dec (s t : ByteArray) : (s.toList == t.toList) = decide (s = t) := by
  by_cases h : s = t
  · subst h; rw [str_self, decide_eq_true rfl]
  · rw [decide_eq_false h, ← Bool.not_eq_true]
    exact fun e => h (str_eq e)
set_option maxRecDepth 100000 in
theorem clo_any (b p : Bk) (pb : Nat) (w : World) (hp : Blk w pb 42 p.cs) :
    Calls Try.prog 41 #[.agg b.cs, .pointer (some ⟨pb, 0, none⟩)] w fun e w' => e = .returned (.bool (decide (b.ac = p.ac))) ∧ Below w.heap.size w w' := by
  have hlt := hp.lt
  have h0 : (w.alloc (.cells #[.string b.ac, .string b.sy, .int .i64 b.q, .int .i64 b.c, .int .i64 b.f] 42)).cell? ⟨pb, 0, none⟩ = some (.string p.ac) := (hp.alloc _).cell 0
  have HB : Hid (Below w.heap.size w (w.alloc (.cells #[.string b.ac, .string b.sy, .int .i64 b.q, .int .i64 b.c, .int .i64 b.f] 42))) := (Below.refl _ w).alloc (Nat.le_refl _) _
  have HS : Hid ((b.ac.toList == p.ac.toList) = decide (b.ac = p.ac)) := str_dec _ _
  unfold Bk.cs
  clear hp
  obtain ⟨ac, sy, q, c, f⟩ := b
  simp only at *
  go_enter Try.func41, Try.ntmps41
  go_wp2
  go_ret
  exact ⟨by rw [← HS.out]; rfl, HB.out⟩
def idxB (l : List Bk) (ac : ByteArray) : Option Nat := l.findIdx? fun b => decide (b.ac = ac)
def idxI (l : List Bk) (ac : ByteArray) : Int := match idxB l ac with
  | some i => (i : Int)
  | none => -1
set_option maxRecDepth 100000 in
set_option maxHeartbeats 1000000 in
theorem IndexFunc_any (l : List Bk) (p : Bk) (pb : Nat) (v : Value) (w : World) (hp : Blk w pb 42 p.cs) (hr : RowAt w 42 5 v l.length (flatL Bk.cl l)) (hl : l.length ≤ 1000) :
    Calls Try.prog 40 #[v, .func (.func 41) #[] #[.pointer (some ⟨pb, 0, none⟩)]] w fun e w' => e = .returned (.int .i64 (idxI l p.ac)) ∧ Below w.heap.size w w' := by
  obtain ⟨ao, cap, rfl, _⟩ := hr.form
  have HR : Hid (RowAt w 42 5 (.slice ao l.length cap) l.length (flatL Bk.cl l) ∧ Blk w pb 42 p.cs) := ⟨hr, hp⟩
  have hcf : ∀ args w, (callFunc 41 args).run Try.prog w = .ok (.enter 41 args) w := fun args w => by kernel_rfl
  clear hr hp
  have HNil : Hid (∀ k, k = l.length → (∀ j b, j < k → l[j]? = some b → b.ac ≠ p.ac) → idxI l p.ac = -1) := fun k hk h => by
    unfold idxI
    have : idxB l p.ac = none := by
      unfold idxB
      rw [List.findIdx?_eq_none_iff]
      intro b hb
      obtain ⟨j, hj, e⟩ := List.getElem_of_mem hb
      have := h j b (by omega) (by rw [List.getElem?_eq_getElem hj, e])
      simpa using this
    rw [this]
  have HSome : Hid (∀ (k : Nat) (b : Bk), l[k]? = some b → b.ac = p.ac → (∀ (j : Nat) (b : Bk), j < k → l[j]? = some b → b.ac ≠ p.ac) → idxI l p.ac = (k : Int)) := fun k b hk hb h => by
    unfold idxI
    have hkl := (List.getElem?_eq_some_iff.1 hk)
    have : idxB l p.ac = some k := by
      unfold idxB
      rw [List.findIdx?_eq_some_iff_getElem]
      refine ⟨hkl.1, by rw [hkl.2]; simpa using hb, fun j hj => ?_⟩
      have hjl : j < l.length := Nat.lt_trans hj hkl.1
      have := h j l[j] hj (List.getElem?_eq_getElem hjl)
      simpa using this
    rw [this]
  generalize hN : l.length = N at *
  generalize idxI l p.ac = R at *
  go_enter Try.func40, Try.ntmps40
  go_wp2
  go_loopw [5, 8] (fun _ i wr => ∃ k : Nat, k ≤ N ∧ i = .int .i64 k ∧ Hid ((∀ j b, j < k → l[j]? = some b → b.ac ≠ p.ac) ∧ Below w.heap.size w wr)) (fun _ i _ => N - (intOf i).toNat)
  case atStart => exact ⟨0, by omega, rfl, fun j b hj => by omega, Below.refl _ _⟩
  case round =>
    obtain ⟨k, hk, rfl, HI⟩ := hrel
    by_cases hlt : k < N
    · have hlt' : (k : Int) < (N : Int) := by omega
      obtain ⟨b, hb⟩ : ∃ b, l[k]? = some b := ⟨l[k]'(by omega), List.getElem?_eq_getElem (by omega)⟩
      have hrow : RowAt wr 42 5 (.slice ao N cap) N (flatL Bk.cl l) := by
        have h0 := HR.out.1.keep (w' := wr) (fun g hg => HI.out.2.block g (HR.out.1.lt hg).1)
        exact h0
      obtain ⟨g, off, cap', _, hv, _⟩ := hrow.more (by omega)
      injection hv with h1 _ h2
      subst h1 h2
      have HRg : Hid (wr.rangeAt g (off + k * 5) b.cs.toList) := fun j u hu => by
        have hj : j < 5 := (List.getElem?_eq_some_iff.1 hu).1
        rw [Nat.add_assoc]
        exact hrow.cell rfl ((flatL_get Bk.cl_len hb hj).trans hu)
      have hpb : Blk wr pb 42 p.cs := HR.out.2.below HI.out.2 HR.out.2.lt
      have HC := clo_any b p pb wr hpb
      have HBk : Hid (l[k]? = some b) := hb
      clear hrow hb hpb hN
      go_upto_region 4 with fail
      refine wp_region_lit ?_
      refine wpList_runTo rfl (some 11) rfl (.func (.func 41) #[] #[.pointer (some ⟨pb, 0, none⟩)]) wr (by kernel_rfl) ?_
      simp only [Act.put, List.setIfInBounds_toArray, List.set_cons_zero, List.set_cons_succ]
      refine wpList_runTo rfl (some 12) rfl (.slice (some ⟨g, off, none⟩) N cap) wr (by kernel_rfl) ?_
      simp only [Act.put, List.setIfInBounds_toArray, List.set_cons_zero, List.set_cons_succ]
      refine wpList_runTo rfl (some 13) rfl (.int .i64 (k : Int)) wr (by kernel_rfl) ?_
      simp only [Act.put, List.setIfInBounds_toArray, List.set_cons_zero, List.set_cons_succ]
      refine wpList_runTo rfl (some 14) rfl (.pointer (some ⟨g, off + k * 5, none⟩)) wr (by exact ixB_run (n := N) (c := cap) (.tmp 12) (.tmp 13) rfl (by kernel_rfl) (by kernel_rfl) hlt wr) ?_
      simp only [Act.put, List.setIfInBounds_toArray, List.set_cons_zero, List.set_cons_succ]
      refine wpList_runTo rfl (some 15) rfl (.agg b.cs) wr (by exact ldK_run HRg.out rfl (.tmp 14) rfl (by kernel_rfl)) ?_
      simp only [Act.put, List.setIfInBounds_toArray, List.set_cons_zero, List.set_cons_succ]
      refine wpList_callW rfl (some 16) rfl 41 #[.agg b.cs, .pointer (some ⟨pb, 0, none⟩)] (by kernel_rfl) HC ?_
      rintro e w2 ⟨rfl, hb2⟩
      refine ⟨_, rfl, ?_⟩
      refine wpList_nil ?_
      simp only [Act.put, List.setIfInBounds_toArray, List.set_cons_zero, List.set_cons_succ]
      by_cases hac : b.ac = p.ac
      · have HF : Hid (R = (k : Int) ∧ Below w.heap.size w w2) := ⟨HSome.out k b HBk.out hac HI.out.1, below_step HI.out.2 hb2⟩
        rw [decide_eq_true hac]
        clear hac HC hb2
        go_wp2
        go_ret
        exact ⟨by rw [HF.out.1]; rfl, HF.out.2⟩
      · have HF : Hid ((∀ j b, j < k + 1 → l[j]? = some b → b.ac ≠ p.ac) ∧ Below w.heap.size w w2) := ⟨fun j b' hj hb' => by
          by_cases e : j = k
          · subst e
            rw [HBk.out] at hb'
            cases hb'
            exact hac
          · exact HI.out.1 j b' (by omega) hb', below_step HI.out.2 hb2⟩
        rw [decide_eq_false hac]
        clear hac HC hb2
        go_wp2
        exact ⟨⟨k + 1, by omega, by go_num, HF⟩, by simp [intOf]; omega⟩
    · have hstop : ¬ (k : Int) < (N : Int) := by omega
      have HF : Hid (R = -1 ∧ Below w.heap.size w wr) := ⟨HNil.out k (by omega) HI.out.1, HI.out.2⟩
      clear hlt
      go_wp2
      go_ret
      exact ⟨by rw [HF.out.1]; rfl, HF.out.2⟩
end Go.Proofs.Ytidhahooebepfaa
