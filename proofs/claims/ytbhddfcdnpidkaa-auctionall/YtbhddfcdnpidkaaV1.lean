/-
  auction: what is wanted at a price.
-/
import Derived.Test.YtbhddfcdnpidkaaV0
namespace Go.Proofs.Ytbhddfcdnpidkaa
set_option linter.unusedVariables false
set_option linter.unusedSimpArgs false
open Go.RowKit Go.Great

theorem ldA_run {op : Oper} {a : Act} {w : World} {g o : Nat} {T : TypeId} {cs : Array Value} {d : TypeDesc} (h : w.rangeAt g o cs.toList) (hu : Try.prog.underlying T = some d) (hd : d.isRow = true) (hi : (Try.prog.info? T).map (·.size) = some cs.size) (x : Operand) (ho : op.op = .load T x) (hx : a.eval x = .pointer (some ⟨g, o, none⟩)) : (execOp a.eval op).run Try.prog w = .ok (.value (.agg cs)) w := by
  have hl := run_loadVar_mid (P := Try.prog) w g o T cs.toList _ h hu hd (by rw [Array.length_toList]; exact hi)
  unfold execOp
  simp only [ho, hx, Instr.loadAt, Instr.sureAddr, Sem.run_bind, Sem.run_pure, Result.andThen_ok, hl]
theorem wpList_callW {P : Program} {ops : Array Oper} {rest : List Oper} {op : Oper} {a : Act} {w : World} {Q : Exit → Act → World → Prop} (hg : op.guard = none) (d : Option Tmp) (hd : op.dst = d)
    (f : FuncId) (args : Array Value) (hrun : (execOp a.eval op).run P w = .ok (.enter f args) w) {R : Ending → World → Prop} (hc : Calls P f args w R)
    (h : ∀ e w', R e w' → ∃ v, e = .returned v ∧ wpList P ops Q rest (a.put d v) w') : wpList P ops Q (op :: rest) a w := by
  subst hd
  refine wpList_plain hg fun K hK => ?_
  unfold Oper.wp
  rw [hrun, Oper.upon_enter]
  refine hc.mono fun e w'' hh => ?_
  obtain ⟨v, rfl, hw⟩ := h _ _ hh
  exact hK _ _ hw
theorem infoW : (Try.prog.info? 69).map (·.size) = some 4 := by kernel_rfl
def wL (v : Wn) : List Value := [.int .i64 v.id, .bool v.m, .int .i64 v.p, .int .i64 v.q]
theorem ixW_run {op : Oper} {a : Act} {g o n c i : Nat} (x y : Operand) (ho : op.op = .indexAddr 58 x y) (hx : a.eval x = .slice (some ⟨g, o, none⟩) n c) (hy : a.eval y = .int .i64 (i : Int)) (hi : i < n) (w : World) : (execOp a.eval op).run Try.prog w = .ok (.value (.pointer (some ⟨g, o + i * 4, none⟩))) w := by
  have h1 : (i : Int) < (n : Int) := by omega
  have h2 : ¬ (n : Int) ≤ (i : Int) := by omega
  unfold execOp
  simp only [ho, hx, hy]
  go_simp
theorem wL_len (v : Wn) : (wL v).length = 4 := rfl
theorem below_step {a b c : World} (h : Below a.heap.size a b) (k : Below b.heap.size b c) : Below a.heap.size a c := h.trans (k.mono h.size)
theorem sumW_take {f : Wn → Bool} {l : List Wn} {i : Nat} {v : Wn} (h : l[i]? = some v) : sumW f (l.take (i + 1)) = sumW f (l.take i) + if f v then v.q else 0 := by
  rw [List.take_add_one, h, sumW_app]
  simp [sumW]
theorem sumW_le {f : Wn → Bool} : ∀ {l : List Wn}, (∀ v ∈ l, 0 ≤ v.q ∧ v.q ≤ 1000000) → 0 ≤ sumW f l ∧ sumW f l ≤ (l.length : Int) * 1000000
  | [], _ => by simp [sumW]
  | v :: l, h => by
    have ih := sumW_le (l := l) (f := f) fun x hx => h x (List.mem_cons_of_mem _ hx)
    have h0 := h v List.mem_cons_self
    simp only [sumW, List.length_cons]
    have e : ((l.length + 1 : Nat) : Int) = (l.length : Int) + 1 := by omega
    rw [e]
    split <;> omega
set_option maxRecDepth 100000 in
theorem sumAt_any {w : World} {l : List Wn} {a : Option Addr} {c : Nat} (hr : RowAt w 69 4 (.slice a l.length c) l.length (flatL wL l)) (hq : ∀ v ∈ l, 0 ≤ v.q ∧ v.q ≤ 1000000) (hl : l.length ≤ 4398046511104) (s p : Int) :
    Calls Try.prog 31 #[.slice a l.length c, .int .i64 s, .int .i64 p] w fun e w' => e = .returned (.int .i64 (sumW (atW s p) l)) ∧ Below w.heap.size w w' := by
  obtain ⟨n, hn⟩ : ∃ n, n = l.length := ⟨_, rfl⟩
  have HR : Hid (RowAt w 69 4 (.slice a n c) n (flatL wL l) ∧ (∀ v ∈ l, 0 ≤ v.q ∧ v.q ≤ 1000000) ∧ n = l.length) := ⟨by rw [hn]; exact hr, hq, hn⟩
  rw [← hn] at hl ⊢
  obtain ⟨T, hT⟩ : ∃ T, T = sumW (atW s p) l := ⟨_, rfl⟩
  have HT : Hid (T = sumW (atW s p) l) := hT
  rw [← hT]
  clear hr hq hn hT
  go_enter Try.func31, Try.ntmps31
  go_upto_region 3 with fail
  go_loopw [7, 12] (fun x7 x12 wr => ∃ (i : Nat) (S : Int), i ≤ n ∧ x7 = .int .i64 S ∧ x12 = .int .i64 (i : Int) ∧ Hid (Below w.heap.size w wr ∧ S = sumW (atW s p) (l.take i))) (fun _ x12 _ => n - (RowKit.intOf x12).toNat)
  case atStart => exact ⟨0, 0, Nat.zero_le _, rfl, rfl, Below.refl _ w, rfl⟩
  case round =>
    obtain ⟨i, S, hi, rfl, rfl, HB⟩ := hrel
    by_cases hlt : i < n
    · have hlt' : (i : Int) < (n : Int) := by omega
      obtain ⟨v, hv⟩ : ∃ v, l[i]? = some v := ⟨_, List.getElem?_eq_getElem (by rw [← HR.out.2.2]; exact hlt)⟩
      obtain ⟨g, o, c', cur, ea, _⟩ := HR.out.1.more (by omega)
      injection ea with ea1 _ ea2
      subst ea1 ea2
      have hf := Fr.of_below HB.out.1 (fun _ => False)
      have hrg : wr.rangeAt g (o + i * 4) v.cs.toList := fun j u hu => by
        have hj : j < 4 := (List.getElem?_eq_some_iff.1 hu).1
        have := HR.out.1.cell rfl (j := i * 4 + j) (u := u) (by rw [flatL_get wL_len hv hj]; exact hu)
        rw [← Nat.add_assoc] at this
        exact hf.cell this id
      have HV : Hid (l[i]? = some v) := hv
      go_upto_region 4 with fail
      rename_i K hK
      refine wp_region_lit ?_
      refine wpList_runTo rfl (some 14) rfl (.pointer (some ⟨g, o + i * 4, none⟩)) wr (by exact ixW_run (n := n) (c := c) (.tmp 10) (.tmp 12) rfl (by kernel_rfl) (by kernel_rfl) hlt _) ?_
      simp only [Act.put, List.setIfInBounds_toArray, List.set_cons_zero, List.set_cons_succ]
      refine wpList_runTo rfl (some 15) rfl (.agg v.cs) wr (by exact ldA_run hrg Try.underlying69 rfl infoW (.tmp 14) rfl (by kernel_rfl)) ?_
      simp only [Act.put, List.setIfInBounds_toArray, List.set_cons_zero, List.set_cons_succ]
      refine wpList_runTo rfl (some 9) rfl (.pointer (some ⟨wr.heap.size, 0, none⟩)) (wr.alloc (.cells #[.int .i64 0, .bool false, .int .i64 0, .int .i64 0] 69)) (by kernel_rfl) ?_
      simp only [Act.put, List.setIfInBounds_toArray, List.set_cons_zero, List.set_cons_succ]
      refine wpList_plain rfl fun K1 hK1 => ?_
      refine wp_store_row 69 (.tmp 9) (.tmp 15) rfl wr.heap.size v.cs (by kernel_rfl) (by kernel_rfl) 69 #[.int .i64 0, .bool false, .int .i64 0, .int .i64 0] (heap_alloc_new wr _) (by kernel_rfl) (by first | rfl | kernel_rfl | (simp [Wn.cs, Value.oneCell'])) (by first | rfl | kernel_rfl | (simp [Wn.cs, Value.oneCell'])) ?_
      rw [World.setRow_alloc_new]
      refine hK1 _ _ ?_
      clear hK1
      refine wpList_nil ?_
      refine hK _ _ ?_
      clear hK hrg
      have hk0 : Blk (wr.alloc (.cells v.cs 69)) wr.heap.size 69 v.cs := Blk.new wr _ _
      have hrg2 : (wr.alloc (.cells v.cs 69)).rangeAt wr.heap.size 0 v.cs.toList := fun z u hu => by rw [Nat.zero_add, hk0.cell]; simpa using hu
      have HB1 : Hid (Below w.heap.size w (wr.alloc (.cells v.cs 69)) ∧ S = sumW (atW s p) (l.take i) ∧ Blk (wr.alloc (.cells v.cs 69)) wr.heap.size 69 v.cs) := ⟨below_step HB.out.1 ((Below.refl _ wr).alloc (Nat.le_refl _) _), HB.out.2, hk0⟩
      clear HB hf hk0
      obtain ⟨bx, hbx⟩ : ∃ bx, bx = wr.heap.size := ⟨_, rfl⟩
      rw [← hbx] at HB1 hrg2 ⊢
      generalize wr.alloc (.cells v.cs 69) = w3 at *
      clear hbx
      have hat := at_any w3 v s p
      obtain ⟨cv, hcv⟩ : ∃ cv, cv = v.cs := ⟨_, rfl⟩
      have hcs : cv.size = 4 := by rw [hcv]; rfl
      have HCV : Hid (cv = v.cs) := hcv
      rw [← hcv] at hrg2 hat
      clear hcv
      obtain ⟨bb, hbb⟩ : ∃ bb, bb = atW s p v := ⟨_, rfl⟩
      have HBB : Hid (bb = atW s p v) := hbb
      rw [← hbb] at hat
      clear hbb
      go_upto_region 5 with fail
      rename_i K hK
      refine wp_region_lit ?_
      refine wpList_runTo rfl (some 16) rfl (.agg cv) w3 (by exact ldA_run hrg2 Try.underlying69 rfl (by rw [hcs]; exact infoW) (.tmp 9) rfl (by kernel_rfl)) ?_
      simp only [Act.put, List.setIfInBounds_toArray, List.set_cons_zero, List.set_cons_succ]
      refine wpList_runTo rfl (some 17) rfl (.int .i64 s) w3 (by kernel_rfl) ?_
      simp only [Act.put, List.setIfInBounds_toArray, List.set_cons_zero, List.set_cons_succ]
      refine wpList_runTo rfl (some 18) rfl (.int .i64 p) w3 (by kernel_rfl) ?_
      simp only [Act.put, List.setIfInBounds_toArray, List.set_cons_zero, List.set_cons_succ]
      refine wpList_callW rfl (some 19) rfl 45 #[.agg cv, .int .i64 s, .int .i64 p] (by kernel_rfl) hat ?_
      clear hat
      rintro e w4 ⟨rfl, hb4⟩
      refine ⟨_, rfl, ?_⟩
      simp only [Act.put, List.setIfInBounds_toArray, List.set_cons_zero, List.set_cons_succ]
      refine wpList_nil ?_
      refine hK _ _ ?_
      clear hK hrg2 hcs
      have HB2 : Hid (Below w.heap.size w w4 ∧ sumW (atW s p) (l.take (i + 1)) = S + if bb then v.q else 0) := by
        refine ⟨below_step HB1.out.1 hb4, ?_⟩
        rw [sumW_take HV.out, HB1.out.2.1, HBB.out]
      have q4 : w4.cell? ⟨bx, 3, none⟩ = some (.int .i64 v.q) := (HB1.out.2.2.below hb4 HB1.out.2.2.lt).cell 3
      have hS : 0 ≤ S + (if bb then v.q else 0) ∧ S + (if bb then v.q else 0) ≤ 9223372036854775807 := by
        rw [← HB2.out.2]
        have h := sumW_le (f := atW s p) (l := l.take (i + 1)) fun x hx => HR.out.2.1 x (List.mem_of_mem_take hx)
        have h2 : (l.take (i + 1)).length ≤ 4398046511104 := by rw [List.length_take]; omega
        omega
      clear HB1 hb4 HV HBB HCV
      generalize v.q = vq at *
      cases bb with
      | true =>
        rw [if_pos rfl] at hS
        have hw : IntKind.i64.wrap (S + vq) = S + vq := by rw [IntKind.wrap_i64]; omega
        have HB3 : Hid (Below w.heap.size w w4 ∧ S + vq = sumW (atW s p) (l.take (i + 1))) := ⟨HB2.out.1, HB2.out.2.symm⟩
        clear HB2 hS
        go_upto_region 6 with fail
        go_wp2
        exact ⟨⟨i + 1, S + vq, by omega, rfl, by go_num, HB3.out⟩, by simp [RowKit.intOf]; omega⟩
      | false =>
        have HB3 : Hid (Below w.heap.size w w4 ∧ S = sumW (atW s p) (l.take (i + 1))) := ⟨HB2.out.1, by rw [HB2.out.2]; simp⟩
        clear HB2 hS q4
        go_wp2
        exact ⟨⟨i + 1, S, by omega, rfl, by go_num, HB3.out⟩, by simp [RowKit.intOf]; omega⟩
    · obtain rfl : i = n := by omega
      have e : S = T := by rw [HT.out, HB.out.2, HR.out.2.2, List.take_length]
      subst e
      have HZ : Hid (Below w.heap.size w wr) := HB.out.1
      clear HB HT
      go_wp2
      go_ret
      exact ⟨rfl, HZ.out⟩
end Go.Proofs.Ytbhddfcdnpidkaa
