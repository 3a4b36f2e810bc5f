/-
  tape: Open (of bytes that begin as they should).
-/
import Derived.Test.YtjnnecoikcmaeaaTQ4
namespace Go.Proofs.Ytjnnecoikcmaeaa
set_option linter.unusedVariables false
set_option linter.unusedSimpArgs false
open Go.RowKit Go.Great

theorem wpList_wanted {P : Program} {ops : Array Oper} {rest : List Oper} {o : Oper} {a : Act} {w : World} {Q : Exit → Act → World → Prop} (hw : Region.wanted o (yielded ops a.tmps) = true)
    (h : ∀ K : Act → World → Prop, (∀ a w, wpList P ops Q rest a w → K a w) → o.wp P a w K Q) : wpList P ops Q (o :: rest) a w :=
  wpList_step fun K hK => by rw [if_pos hw]; exact h K hK
theorem wpList_runToG {P : Program} {ops : Array Oper} {rest : List Oper} {o : Oper} {a : Act} {w : World} {Q : Exit → Act → World → Prop} (hw : Region.wanted o (yielded ops a.tmps) = true) (dst : Option Tmp) (hdst : o.dst = dst)
    (v : Value) (w' : World) (hrun : (execOp a.eval o).run P w = .ok (.value v) w')
    (h : wpList P ops Q rest (a.put dst v) w') : wpList P ops Q (o :: rest) a w := by
  subst hdst
  refine wpList_wanted hw fun K hK => ?_
  unfold Oper.wp
  rw [hrun, Oper.upon_value]
  exact hK _ _ h
/-- Records one behind the other, from the four bytes on: where they end (the last one first). -/
def ChR (l : List Nat) : List Nat → Nat → Prop
  | [], a => a = 4
  | e :: r, a => a = e ∧ ∃ b n, ChR l r b ∧ FrOk r.length (l.drop b) n ∧ e = b + (6 + n)
def Chain (l es : List Nat) (a : Nat) : Prop := ChR l es.reverse a
theorem Chain.nil (l : List Nat) : Chain l [] 4 := rfl
theorem Chain.snoc {l es : List Nat} {a n : Nat} (h : Chain l es a) (hf : FrOk es.length (l.drop a) n) : Chain l (es ++ [a + (6 + n)]) (a + (6 + n)) := by
  have e : (es ++ [a + (6 + n)]).reverse = (a + (6 + n)) :: es.reverse := by simp
  unfold Chain
  rw [e]
  exact ⟨rfl, a, n, h, by rw [List.length_reverse]; exact hf, rfl⟩
theorem ChR.four {l : List Nat} : ∀ {r : List Nat} {a : Nat}, ChR l r a → 4 ≤ a
  | [], a, h => by rw [show a = 4 from h]; exact Nat.le_refl _
  | e :: r, a, h => by
    obtain ⟨h1, b, n, h2, _, h3⟩ := h
    have := ChR.four h2
    omega
theorem Chain.four {l es : List Nat} {a : Nat} (h : Chain l es a) : 4 ≤ a := ChR.four h
theorem ChR.bd {l : List Nat} : ∀ {r : List Nat} {a : Nat}, ChR l r a → a ≤ 4 + 606 * r.length
  | [], a, h => by rw [show a = 4 from h]; exact Nat.le_refl _
  | e :: r, a, h => by
    obtain ⟨h1, b, n, h2, h4, h3⟩ := h
    have := ChR.bd h2
    have := h4.n6
    rw [List.length_cons]
    omega
theorem Chain.bd {l es : List Nat} {a : Nat} (h : Chain l es a) : a ≤ 4 + 606 * es.length := by
  have := ChR.bd h
  rw [List.length_reverse] at this
  exact this
theorem lssM_run {op : Oper} {a : Act} {n : Nat} {r : Bool} (x y : Operand) (ho : op.op = .binOp .lss 3 x y 3) (hx : a.eval x = .int .i64 (n : Int)) (hy : a.eval y = .int .i64 1000000) (hr : decide (n < 1000000) = r) (w : World) : (execOp a.eval op).run Try.prog w = .ok (.value (.bool r)) w := by
  obtain ⟨M, hM⟩ : ∃ M : Int, M = 1000000 := ⟨_, rfl⟩
  rw [← hM] at hy
  have h1 : decide ((n : Int) < M) = r := by
    rw [← hr]
    by_cases h : n < 1000000
    · rw [decide_eq_true h, decide_eq_true (by omega)]
    · rw [decide_eq_false h, decide_eq_false (by omega)]
  clear hM
  unfold execOp
  simp only [ho, hx, hy]
  go_simp
theorem addN_run {op : Oper} {a : Act} {p q : Nat} (x y : Operand) (ho : op.op = .binOp .add 3 x y 3) (hx : a.eval x = .int .i64 (p : Int)) (hy : a.eval y = .int .i64 (q : Int)) (h : p + q ≤ 9223372036854775807) (w : World) : (execOp a.eval op).run Try.prog w = .ok (.value (.int .i64 ((p + q : Nat) : Int))) w := by
  have hw : IntKind.i64.wrap ((p : Int) + (q : Int)) = ((p + q : Nat) : Int) := by rw [IntKind.wrap_i64]; omega
  have hw' : wrap64 ((p : Int) + (q : Int)) = ((p + q : Nat) : Int) := by unfold wrap64; omega
  generalize p + q = r at *
  unfold execOp
  simp only [ho, hx, hy]
  go_simp
/-- Where Open stands. -/
structure OI (w wr : World) (v : Value) (l : List Nat) (at_ : Nat) (ev : Value) (es : List Nat) : Prop where
  bel : Below w.heap.size w wr
  by' : By wr v l
  row : RowAt wr 3 1 ev es.length (flatL intC es)
  low : ∀ q, ev.ownBlock = some q → w.heap.size ≤ q
  ch : Chain l es at_
  le : at_ ≤ l.length
  ln : es.length ≤ 1000000
theorem OI.below {w wr w' : World} {v : Value} {l : List Nat} {at_ : Nat} {ev : Value} {es : List Nat} (h : OI w wr v l at_ ev es) (hb : Below wr.heap.size wr w') : OI w w' v l at_ ev es :=
  ⟨below_step h.bel hb, h.by'.below hb, h.row.fr (Fr.of_below hb (fun _ => False)) fun _ _ => id, h.low, h.ch, h.le, h.ln⟩
theorem OI.app {w wr : World} {v : Value} {l : List Nat} {at_ : Nat} {ev : Value} {es : List Nat} (h : OI w wr v l at_ ev es) (hv : l = [] ∨ ∀ q, v.ownBlock = some q → q < w.heap.size) (hl : es.length < 1000000) (n : Nat) (hf : FrOk es.length (l.drop at_) n) (zb : Nat) (hc : wr.cell? ⟨zb, 0, none⟩ = some (.int .i64 ((at_ + (6 + n) : Nat) : Int))) (ty : TypeId) :
    ∃ v' w', (Builtin.append_ #[41, 41] ty #[ev, .slice (some ⟨zb, 0, none⟩) 1 1]).run Try.prog wr = .ok v' w' ∧ OI w w' v l (at_ + (6 + n)) v' (es ++ [at_ + (6 + n)]) := by
  obtain ⟨i0, hi, hz0, hz1, hz2⟩ := info_parts info3
  have hmx : 100000000000 ≤ maxLen := by decide
  obtain ⟨v', w', k1, k2, k3, k4⟩ := run_append_row (P := Try.prog) wr 41 ty 3 i0 _ 1 8 Try.underlying41 hi hz0 hz1 hz2 rfl ev es.length _ h.row ⟨zb, 0, none⟩ 1 1 (intC (at_ + (6 + n))) rfl (fun j x hj => by
    rw [Addr.add_mid]
    cases j with
    | zero =>
      have e : .int .i64 ((at_ + (6 + n) : Nat) : Int) = x := by simpa [intC] using hj
      subst e; exact hc
    | succ j => simp [intC] at hj) (fun u hu => by
    have : u = .int .i64 ((at_ + (6 + n) : Nat) : Int) := by simpa [intC] using hu
    rw [this]; rfl) (.inl (by decide)) (by omega) (by omega)
  have ha := hf.all
  rw [List.length_drop] at ha
  have hle := h.le
  have hn1 := hf.n1
  refine ⟨v', w', k1, ⟨⟨k3.os.trans h.bel.os, k3.tape.trans h.bel.tape, k3.output.trans h.bel.output, Nat.le_trans h.bel.size k3.size, fun q hq => (k3.block q (Nat.lt_of_lt_of_le hq h.bel.size) (fun e => by have := h.low q e; omega)).trans (h.bel.block q hq)⟩, h.by'.frE k3 ?_, ?_, fun q hq => ?_, h.ch.snoc hf, by omega, by rw [List.length_append]; show es.length + 1 ≤ _; omega⟩⟩
  · rcases hv with hv | hv
    · exact .inl hv
    · exact .inr fun q hq e => by have := hv q hq; have := h.low q e; omega
  · rw [List.length_append, flatL_app, flatL_one]; exact k2
  · rcases k4 with k4 | ⟨k4, _⟩
    · exact h.low q (k4 ▸ hq)
    · rw [k4] at hq
      injection hq with hq
      subst hq
      exact h.bel.size
theorem sliceT_run {op : Oper} {a : Act} {ao : Option Addr} {n cap hi : Nat} (x z : Operand) (ho : op.op = .slice 28 x none (some z) none) (hx : a.eval x = .slice ao n cap) (hz : a.eval z = .int .i64 (hi : Int)) (h2 : hi ≤ cap) (w : World) : (execOp a.eval op).run Try.prog w = .ok (.value (cutV (.slice ao n cap) 0 hi cap)) w := by
  have HS : (Instr.sliceAt 28 (.slice ao n cap) none (some (.int .i64 (hi : Int))) none).run Try.prog w = .ok (cutV (.slice ao n cap) 0 hi cap) w := by
    rw [run_sliceAt_slice _ _ _ _ _ _ undB, run_slice_h _ _ _ _ _ undB .i64 (hi : Int) (by omega) (by omega), size5']
    show Result.ok _ w = _
    unfold sliced cutV
    simp
  unfold execOp
  simp only [ho, hx, hz, Option.map_some, Option.map_none]
  simp only [HS, Sem.run_bind, Result.andThen_ok]
  rfl
theorem neS_run {op : Oper} {a : Act} {s t : ByteArray} (x y : Operand) (ho : op.op = .binOp .neq 9 x y 9) (hx : a.eval x = .string s) (hy : a.eval y = .string t) (hr : s = t) (w : World) : (execOp a.eval op).run Try.prog w = .ok (.value (.bool false)) w := by
  subst hr
  have h1 : (s.toList == s.toList) = true := by simp
  have h2 : (s.toList != s.toList) = false := by simp
  unfold execOp
  simp only [ho, hx, hy]
  go_simp
/-- What Open answers, where the bytes begin as they should. -/
def OpR (w : World) (l : List Nat) (e : Ending) (w' : World) : Prop := ∃ t : Tp, ∃ at_ : Nat, e = .returned (.tuple #[.pointer (some ⟨t.g, 0, none⟩), .int .i64 (at_ : Int), .int .i64 0]) ∧ Hid (TpAt w' t ∧ t.l = l.take at_ ∧ Chain l t.es at_ ∧ (4 ≤ at_ ∧ t.es.length ≤ 1000000) ∧ at_ ≤ l.length ∧ (t.es.length = 1000000 ∨ ∀ n, ¬ FrOk t.es.length (l.drop at_) n) ∧ Below w.heap.size w w' ∧ ∀ b, t.own b → w.heap.size ≤ b)
set_option maxRecDepth 100000 in
set_option maxHeartbeats 4000000 in
theorem Open_yes {w : World} {v : Value} {l : List Nat} (h : By w v l) (hv : l = [] ∨ ∀ q, v.ownBlock = some q → q < w.heap.size) (hl : l.length ≤ 140737488355328) (hm : l.take 4 = magic) : Calls Try.prog 14 #[v] w fun e w' => OpR w l e w' := by
  have h4 : 4 ≤ l.length := by
    have := congrArg List.length hm
    rw [List.length_take] at this
    have e : magic.length = 4 := rfl
    omega
  have h4' : ¬ (l.length : Int) < 4 := by omega
  have HV : Hid (l = [] ∨ ∀ q, v.ownBlock = some q → q < w.heap.size) := hv
  have HO0 : Hid (OI w w v l 4 (.slice none 0 0) []) := ⟨Below.refl _ _, h, RowAt.none0 _ _ _, fun q hq => (by cases hq), Chain.nil l, h4, Nat.zero_le _⟩
  have HL : Hid (l.length ≤ 140737488355328 ∧ 4 ≤ l.length) := ⟨hl, h4⟩
  obtain ⟨va, vc, hvf, hvc⟩ := h.form
  subst hvf
  have hc4 := h.cut (lo := 0) (hi := 4) (mx := vc) (Nat.zero_le _) h4 (by omega) (Nat.le_refl _)
  rw [List.drop_zero, Nat.sub_zero, hm] at hc4
  have hmg : ofN magic = ⟨#[79, 84, 65, 80]⟩ := rfl
  clear h hv
  go_enter Try.func14, Try.ntmps14
  go_upto_region 2 with fail
  rename_i K2 hK2
  refine wp_region_lit ?_
  refine wpList_runTo rfl (some 9) rfl (.slice va l.length vc) w (by kernel_rfl) ?_
  simp only [Act.put, List.setIfInBounds_toArray, List.set_cons_zero, List.set_cons_succ]
  refine wpList_runTo rfl (some 10) rfl (.int .i64 (l.length : Int)) w (by kernel_rfl) ?_
  simp only [Act.put, List.setIfInBounds_toArray, List.set_cons_zero, List.set_cons_succ]
  refine wpList_runTo rfl (some 11) rfl (.int .i64 4) w (by kernel_rfl) ?_
  simp only [Act.put, List.setIfInBounds_toArray, List.set_cons_zero, List.set_cons_succ]
  refine wpList_runTo rfl (some 12) rfl (.bool false) w (by go_simp) ?_
  simp only [Act.put, List.setIfInBounds_toArray, List.set_cons_zero, List.set_cons_succ]
  refine wpList_runTo rfl (some 13) rfl (.bool false) w (by kernel_rfl) ?_
  simp only [Act.put, List.setIfInBounds_toArray, List.set_cons_zero, List.set_cons_succ]
  refine wpList_runToG (by kernel_rfl) (some 14) rfl (.slice va l.length vc) w (by kernel_rfl) ?_
  simp only [Act.put, List.setIfInBounds_toArray, List.set_cons_zero, List.set_cons_succ]
  refine wpList_runToG (by kernel_rfl) (some 15) rfl (.int .i64 4) w (by kernel_rfl) ?_
  simp only [Act.put, List.setIfInBounds_toArray, List.set_cons_zero, List.set_cons_succ]
  refine wpList_runToG (by kernel_rfl) (some 16) rfl (cutV (.slice va l.length vc) 0 4 vc) w (by exact sliceT_run (hi := 4) (.tmp 14) (.tmp 15) rfl (by kernel_rfl) (by kernel_rfl) (by omega) _) ?_
  simp only [Act.put, List.setIfInBounds_toArray, List.set_cons_zero, List.set_cons_succ]
  refine wpList_runToG (by kernel_rfl) (some 17) rfl (.string (ofN magic)) w (by exact conv_run (.tmp 16) rfl (by kernel_rfl) hc4) ?_
  simp only [Act.put, List.setIfInBounds_toArray, List.set_cons_zero, List.set_cons_succ]
  refine wpList_runToG (by kernel_rfl) (some 18) rfl (.bool false) w (by exact neS_run (.tmp 17) (.const (.string ⟨#[79, 84, 65, 80]⟩)) rfl (by kernel_rfl) rfl hmg _) ?_
  simp only [Act.put, List.setIfInBounds_toArray, List.set_cons_zero, List.set_cons_succ]
  refine wpList_runTo rfl (some 19) rfl (.bool false) w (by kernel_rfl) ?_
  simp only [Act.put, List.setIfInBounds_toArray, List.set_cons_zero, List.set_cons_succ]
  refine wpList_nil ?_
  refine hK2 _ _ ?_
  clear hK2 hc4
  generalize ofN magic = mg at *
  generalize cutV (.slice va l.length vc) 0 4 vc = cc at *
  go_wp2
  go_loopw [5, 6] (fun x y wr => ∃ (at_ : Nat) (ev : Value) (es : List Nat), ev = y ∧ x = .int .i64 at_ ∧ at_ ≤ l.length ∧ Hid (OI w wr (.slice va l.length vc) l at_ ev es)) (fun x _ _ => l.length - (intOf x).toNat)
  case atStart => exact ⟨4, _, [], rfl, rfl, h4, HO0⟩
  case round =>
    clear HO0
    obtain ⟨at_, ev, es, hev, rfl, hle, HO⟩ := hrel
    subst hev
    obtain ⟨ea, ec, hef, _⟩ := HO.out.row.form
    have HSt : Hid (4 ≤ at_ ∧ at_ ≤ l.length ∧ es.length ≤ 1000000 ∧ at_ ≤ 4 + 606 * es.length) := ⟨HO.out.ch.four, hle, HO.out.ln, HO.out.ch.bd⟩
    go_upto_region 5 with fail
    rename_i K5 hK5
    refine wp_region_lit ?_
    refine wpList_runTo rfl (some 20) rfl (ev) wr (by kernel_rfl) ?_
    simp only [Act.put, List.setIfInBounds_toArray, List.set_cons_zero, List.set_cons_succ]
    rw [hef]
    refine wpList_runTo rfl (some 21) rfl (.int .i64 (es.length : Int)) wr (by kernel_rfl) ?_
    simp only [Act.put, List.setIfInBounds_toArray, List.set_cons_zero, List.set_cons_succ]
    by_cases hmany : es.length < 1000000
    · have hd : decide (es.length < 1000000) = true := decide_eq_true hmany
      refine wpList_runTo rfl (some 22) rfl (.bool true) wr (by exact lssM_run (.tmp 21) (.const (.int .i64 1000000)) rfl (by kernel_rfl) rfl hd _) ?_
      simp only [Act.put, List.setIfInBounds_toArray, List.set_cons_zero, List.set_cons_succ]
      refine wpList_nil ?_
      refine hK5 _ _ ?_
      clear hK5 hd
      rw [← hef]
      go_upto_region 6 with fail
      rename_i K6 hK6
      have hcut := HO.out.by'.cut (lo := at_) (hi := l.length) (mx := vc) hle (Nat.le_refl _) hvc (Nat.le_refl _)
      have hdr : (l.drop at_).take (l.length - at_) = l.drop at_ := List.take_of_length_le (by rw [List.length_drop]; omega)
      rw [hdr] at hcut
      have hfr := firstRecord_any hcut (by rw [List.length_drop]; have := HL.out; omega) es.length (by omega)
      clear hcut hdr
      refine wp_region_lit ?_
      refine wpList_runTo rfl (some 24) rfl (.slice va l.length vc) wr (by kernel_rfl) ?_
      simp only [Act.put, List.setIfInBounds_toArray, List.set_cons_zero, List.set_cons_succ]
      refine wpList_runTo rfl (some 25) rfl (.int .i64 (at_ : Int)) wr (by kernel_rfl) ?_
      simp only [Act.put, List.setIfInBounds_toArray, List.set_cons_zero, List.set_cons_succ]
      refine wpList_runTo rfl (some 26) rfl (cutV (.slice va l.length vc) at_ l.length vc) wr (by exact sliceL_run (.tmp 24) (.tmp 25) rfl (by kernel_rfl) (by kernel_rfl) hle _) ?_
      simp only [Act.put, List.setIfInBounds_toArray, List.set_cons_zero, List.set_cons_succ]
      refine wpList_runTo rfl (some 27) rfl (ev) wr (by kernel_rfl) ?_
      simp only [Act.put, List.setIfInBounds_toArray, List.set_cons_zero, List.set_cons_succ]
      rw [hef]
      refine wpList_runTo rfl (some 28) rfl (.int .i64 (es.length : Int)) wr (by kernel_rfl) ?_
      simp only [Act.put, List.setIfInBounds_toArray, List.set_cons_zero, List.set_cons_succ]
      rw [← hef]
      refine wpList_callW rfl (some 29) rfl 34 #[cutV (.slice va l.length vc) at_ l.length vc, .int .i64 (es.length : Int)] (by kernel_rfl) hfr ?_
      clear hfr
      rintro e W1 ⟨rv, b, rfl, hx⟩
      refine ⟨_, rfl, ?_⟩
      simp only [Act.put, List.setIfInBounds_toArray, List.set_cons_zero, List.set_cons_succ]
      generalize cutV (.slice va l.length vc) at_ l.length vc = cv at *
      have HO1 : Hid (OI w W1 (.slice va l.length vc) l at_ ev es) := HO.out.below hx.out.1
      rcases hx.out.2 with ⟨rfl, n, hok, hby⟩ | ⟨rfl, hno⟩
      · have hrl : ((l.drop at_).take (6 + n)).length = 6 + n := by
          have := hok.all
          rw [List.length_take]; omega
        have HOk : Hid (FrOk es.length (l.drop at_) n ∧ at_ + (6 + n) ≤ l.length) := ⟨hok, by have := hok.all; rw [List.length_drop] at this; omega⟩
        obtain ⟨ra, rc, hrf, _⟩ := hby.form
        rw [hrl] at hrf
        clear hx hby hok hrl HO
        subst hrf
        refine wpList_runTo rfl (some 23) rfl (.tuple #[.slice ra (6 + n) rc, .bool true]) W1 (by kernel_rfl) ?_
        simp only [Act.put, List.setIfInBounds_toArray, List.set_cons_zero, List.set_cons_succ]
        refine wpList_runTo rfl (some 30) rfl (.slice ra (6 + n) rc) W1 (by kernel_rfl) ?_
        simp only [Act.put, List.setIfInBounds_toArray, List.set_cons_zero, List.set_cons_succ]
        refine wpList_runTo rfl (some 31) rfl (.bool true) W1 (by kernel_rfl) ?_
        simp only [Act.put, List.setIfInBounds_toArray, List.set_cons_zero, List.set_cons_succ]
        refine wpList_runTo rfl (some 7) rfl (.slice ra (6 + n) rc) W1 (by kernel_rfl) ?_
        simp only [Act.put, List.setIfInBounds_toArray, List.set_cons_zero, List.set_cons_succ]
        refine wpList_runTo rfl (some 8) rfl (.bool true) W1 (by kernel_rfl) ?_
        simp only [Act.put, List.setIfInBounds_toArray, List.set_cons_zero, List.set_cons_succ]
        refine wpList_nil ?_
        refine hK6 _ _ ?_
        clear hK6
        have hov : (at_ : Int) + ((6 + n : Nat) : Int) ≤ 9223372036854775807 := by have := HOk.out.2; have := HL.out; omega
        have hov2 : at_ + (6 + n) ≤ l.length := HOk.out.2
        go_upto_region 8 with fail
        rename_i K8 hK8
        refine wp_region_lit ?_
        refine wpList_runTo rfl (some 34) rfl (.int .i64 (at_ : Int)) W1 (by kernel_rfl) ?_
        simp only [Act.put, List.setIfInBounds_toArray, List.set_cons_zero, List.set_cons_succ]
        refine wpList_runTo rfl (some 35) rfl (.slice ra (6 + n) rc) W1 (by kernel_rfl) ?_
        simp only [Act.put, List.setIfInBounds_toArray, List.set_cons_zero, List.set_cons_succ]
        refine wpList_runTo rfl (some 36) rfl (.int .i64 ((6 + n : Nat) : Int)) W1 (by kernel_rfl) ?_
        simp only [Act.put, List.setIfInBounds_toArray, List.set_cons_zero, List.set_cons_succ]
        refine wpList_runTo rfl (some 37) rfl (.int .i64 ((at_ + (6 + n) : Nat) : Int)) W1 (by exact addN_run (.tmp 34) (.tmp 36) rfl (by kernel_rfl) (by kernel_rfl) (by have := HL.out; omega) _) ?_
        simp only [Act.put, List.setIfInBounds_toArray, List.set_cons_zero, List.set_cons_succ]
        refine wpList_runTo rfl (some 5) rfl (.int .i64 ((at_ + (6 + n) : Nat) : Int)) W1 (by kernel_rfl) ?_
        simp only [Act.put, List.setIfInBounds_toArray, List.set_cons_zero, List.set_cons_succ]
        refine wpList_nil ?_
        refine hK8 _ _ ?_
        clear hK8
        go_upto_region 9 with fail
        refine wp_region_lit ?_
        refine wpList_runTo rfl (some 38) rfl (ev) W1 (by kernel_rfl) ?_
        simp only [Act.put, List.setIfInBounds_toArray, List.set_cons_zero, List.set_cons_succ]
        refine wpList_runTo rfl (some 39) rfl (.int .i64 ((at_ + (6 + n) : Nat) : Int)) W1 (by kernel_rfl) ?_
        simp only [Act.put, List.setIfInBounds_toArray, List.set_cons_zero, List.set_cons_succ]
        refine wpList_runTo rfl (some 40) rfl (.slice (some ⟨W1.heap.size, 0, none⟩) 1 1) (W1.alloc (.cells #[.int .i64 ((at_ + (6 + n) : Nat) : Int)] 3)) (by kernel_rfl) ?_
        simp only [Act.put, List.setIfInBounds_toArray, List.set_cons_zero, List.set_cons_succ]
        obtain ⟨v4, W4, hr4, ho4⟩ := (HO1.out.below ((Below.refl _ W1).alloc (Nat.le_refl _) (.cells #[.int .i64 ((at_ + (6 + n) : Nat) : Int)] 3))).app HV.out hmany n HOk.out.1 W1.heap.size ((Blk.new W1 3 #[.int .i64 ((at_ + (6 + n) : Nat) : Int)]).cell 0) 41
        have HF : Hid (OI w W4 (.slice va l.length vc) l (at_ + (6 + n)) v4 (es ++ [at_ + (6 + n)])) := ho4
        clear ho4 HO1
        refine wpList_plain rfl fun K11 hK11 => ?_
        refine valR (d := some 41) rfl (w' := W4) v4 (exec_append (v1 := ev) (v2 := .slice (some ⟨W1.heap.size, 0, none⟩) 1 1) (.tmp 38) (.tmp 40) rfl (by kernel_rfl) (by kernel_rfl) hr4) ?_
        refine hK11 _ _ ?_
        simp only [Act.put, List.setIfInBounds_toArray, List.set_cons_zero, List.set_cons_succ]
        refine wpList_runTo rfl (some 6) rfl (v4) W4 (by kernel_rfl) ?_
        simp only [Act.put, List.setIfInBounds_toArray, List.set_cons_zero, List.set_cons_succ]
        refine wpList_nil ?_
        clear hK11 hr4
        go_wp2
        exact ⟨⟨at_ + (6 + n), v4, es ++ [at_ + (6 + n)], rfl, rfl, hov2, HF⟩, by simp [intOf]; omega⟩
      · have HN : Hid (es.length = 1000000 ∨ ∀ n, ¬ FrOk es.length (l.drop at_) n) := .inr hno
        clear hx hno HO
        refine wpList_runTo rfl (some 23) rfl (.tuple #[rv, .bool false]) W1 (by kernel_rfl) ?_
        simp only [Act.put, List.setIfInBounds_toArray, List.set_cons_zero, List.set_cons_succ]
        refine wpList_runTo rfl (some 30) rfl (rv) W1 (by kernel_rfl) ?_
        simp only [Act.put, List.setIfInBounds_toArray, List.set_cons_zero, List.set_cons_succ]
        refine wpList_runTo rfl (some 31) rfl (.bool false) W1 (by kernel_rfl) ?_
        simp only [Act.put, List.setIfInBounds_toArray, List.set_cons_zero, List.set_cons_succ]
        refine wpList_runTo rfl (some 7) rfl (rv) W1 (by kernel_rfl) ?_
        simp only [Act.put, List.setIfInBounds_toArray, List.set_cons_zero, List.set_cons_succ]
        refine wpList_runTo rfl (some 8) rfl (.bool false) W1 (by kernel_rfl) ?_
        simp only [Act.put, List.setIfInBounds_toArray, List.set_cons_zero, List.set_cons_succ]
        refine wpList_nil ?_
        refine hK6 _ _ ?_
        clear hK6
        go_upto_region 10 with fail
        rename_i K10 hK10
        have hcut := HO1.out.by'.cut (lo := 0) (hi := at_) (mx := vc) (Nat.zero_le _) hle (by omega) (Nat.le_refl _)
        rw [List.drop_zero, Nat.sub_zero] at hcut
        have htl : (l.take at_).length = at_ := by rw [List.length_take]; omega
        have hcl := Clone_any hcut (by intro e; rw [e] at htl; have := HSt.out.1; simp at htl; omega) (by rw [htl]; have := HSt.out; omega)
        clear hcut
        refine wp_region_lit ?_
        refine wpList_runTo rfl (some 42) rfl (.slice va l.length vc) W1 (by kernel_rfl) ?_
        simp only [Act.put, List.setIfInBounds_toArray, List.set_cons_zero, List.set_cons_succ]
        refine wpList_runTo rfl (some 43) rfl (.int .i64 (at_ : Int)) W1 (by kernel_rfl) ?_
        simp only [Act.put, List.setIfInBounds_toArray, List.set_cons_zero, List.set_cons_succ]
        refine wpList_runTo rfl (some 44) rfl (cutV (.slice va l.length vc) 0 at_ vc) W1 (by exact sliceT_run (.tmp 42) (.tmp 43) rfl (by kernel_rfl) (by kernel_rfl) (by omega) _) ?_
        simp only [Act.put, List.setIfInBounds_toArray, List.set_cons_zero, List.set_cons_succ]
        refine wpList_callW rfl (some 45) rfl 33 #[cutV (.slice va l.length vc) 0 at_ vc] (by kernel_rfl) hcl ?_
        clear hcl
        rintro e W5 ⟨nv, rfl, hx5⟩
        refine ⟨_, rfl, ?_⟩
        simp only [Act.put, List.setIfInBounds_toArray, List.set_cons_zero, List.set_cons_succ]
        generalize cutV (.slice va l.length vc) 0 at_ vc = c5 at *
        obtain ⟨na, nc, hnf, _⟩ := hx5.out.row.form
        rw [htl] at hnf
        rw [hef]
        refine wpList_runTo rfl (some 46) rfl (.slice ea es.length ec) W5 (by kernel_rfl) ?_
        simp only [Act.put, List.setIfInBounds_toArray, List.set_cons_zero, List.set_cons_succ]
        rw [hnf]
        refine wpList_runTo rfl (some 47) rfl (.agg #[.slice na at_ nc, .slice ea es.length ec]) W5 (by kernel_rfl) ?_
        simp only [Act.put, List.setIfInBounds_toArray, List.set_cons_zero, List.set_cons_succ]
        refine wpList_runTo rfl (some 48) rfl (.pointer (some ⟨W5.heap.size, 0, none⟩)) (W5.alloc (.cells #[.slice na at_ nc, .slice ea es.length ec] 79)) (by kernel_rfl) ?_
        simp only [Act.put, List.setIfInBounds_toArray, List.set_cons_zero, List.set_cons_succ]
        have HF : Hid (∃ t : Tp, t.g = W5.heap.size ∧ TpAt (W5.alloc (.cells #[.slice na at_ nc, .slice ea es.length ec] 79)) t ∧ t.l = l.take at_ ∧ Chain l t.es at_ ∧ (4 ≤ at_ ∧ t.es.length ≤ 1000000) ∧ at_ ≤ l.length ∧ (t.es.length = 1000000 ∨ ∀ n, ¬ FrOk t.es.length (l.drop at_) n) ∧ Below w.heap.size w (W5.alloc (.cells #[.slice na at_ nc, .slice ea es.length ec] 79)) ∧ ∀ b, t.own b → w.heap.size ≤ b) := by
          have h1 := HO1.out.below hx5.out.bel
          have hb : Below W5.heap.size W5 (W5.alloc (.cells #[.slice na at_ nc, .slice ea es.length ec] 79)) := (Below.refl _ W5).alloc (Nat.le_refl _) _
          have h2 := h1.below hb
          have hr5 : RowAt (W5.alloc (.cells #[.slice na at_ nc, .slice ea es.length ec] 79)) 5 1 nv (l.take at_).length (bvals (l.take at_)) := hx5.out.row.fr (Fr.of_below hb (fun _ => False)) fun _ _ => id
          refine ⟨⟨W5.heap.size, nv, l.take at_, ev, es⟩, rfl, ⟨?_, hr5.by' hx5.out.bb, .inl hr5, h2.row, fun q hq => (hr5.lt hq).1, fun e => ?_, fun q hq e => ?_⟩, rfl, HO1.out.ch, ⟨HSt.out.1, HSt.out.2.2.1⟩, HSt.out.2.1, HN.out, below_step h1.bel hb, fun b hb => ?_⟩
          · show Blk _ W5.heap.size _ #[nv, ev]
            rw [hnf, hef]
            exact Blk.new _ _ _
          · exact Nat.lt_irrefl _ (hx5.out.row.lt e).1
          · have k1 := hx5.out.low q hq
            have k2 := (HO1.out.row.lt e).1
            omega
          · rcases hb with e | e | e
            · rw [show b = W5.heap.size from e]; exact h1.bel.size
            · exact Nat.le_trans HO1.out.bel.size (hx5.out.low b e)
            · exact HO1.out.low b e
        clear hx5 HO1 HN hef hnf htl
        generalize W5.alloc (.cells #[.slice na at_ nc, .slice ea es.length ec] 79) = W6 at *
        generalize W5.heap.size = tg at *
        refine wpList_runTo rfl (some 49) rfl (.int .i64 (at_ : Int)) W6 (by kernel_rfl) ?_
        simp only [Act.put, List.setIfInBounds_toArray, List.set_cons_zero, List.set_cons_succ]
        refine wpList_runTo rfl (some 2) rfl (.pointer (some ⟨tg, 0, none⟩)) W6 (by kernel_rfl) ?_
        simp only [Act.put, List.setIfInBounds_toArray, List.set_cons_zero, List.set_cons_succ]
        refine wpList_runTo rfl (some 3) rfl (.int .i64 (at_ : Int)) W6 (by kernel_rfl) ?_
        simp only [Act.put, List.setIfInBounds_toArray, List.set_cons_zero, List.set_cons_succ]
        refine wpList_runTo rfl (some 4) rfl (.int .i64 0) W6 (by kernel_rfl) ?_
        simp only [Act.put, List.setIfInBounds_toArray, List.set_cons_zero, List.set_cons_succ]
        refine wpList_nil ?_
        refine hK10 _ _ ?_
        clear hK10
        obtain ⟨t, ht, hx⟩ := HF.out
        have HX : Hid _ := hx
        clear hx HF
        subst ht
        go_wp2
        go_ret3
        exact ⟨t, at_, rfl, HX⟩
    · have hd : decide (es.length < 1000000) = false := decide_eq_false hmany
      have HN : Hid (es.length = 1000000 ∨ ∀ n, ¬ FrOk es.length (l.drop at_) n) := .inl (by have := HSt.out; omega)
      refine wpList_runTo rfl (some 22) rfl (.bool false) wr (by exact lssM_run (.tmp 21) (.const (.int .i64 1000000)) rfl (by kernel_rfl) rfl hd _) ?_
      simp only [Act.put, List.setIfInBounds_toArray, List.set_cons_zero, List.set_cons_succ]
      refine wpList_nil ?_
      refine hK5 _ _ ?_
      clear hK5 hd
      rw [← hef]
      go_upto_region 10 with fail
      rename_i K10 hK10
      have hcut := HO.out.by'.cut (lo := 0) (hi := at_) (mx := vc) (Nat.zero_le _) hle (by omega) (Nat.le_refl _)
      rw [List.drop_zero, Nat.sub_zero] at hcut
      have htl : (l.take at_).length = at_ := by rw [List.length_take]; omega
      have hcl := Clone_any hcut (by intro e; rw [e] at htl; have := HSt.out.1; simp at htl; omega) (by rw [htl]; have := HSt.out; omega)
      clear hcut
      refine wp_region_lit ?_
      refine wpList_runTo rfl (some 42) rfl (.slice va l.length vc) wr (by kernel_rfl) ?_
      simp only [Act.put, List.setIfInBounds_toArray, List.set_cons_zero, List.set_cons_succ]
      refine wpList_runTo rfl (some 43) rfl (.int .i64 (at_ : Int)) wr (by kernel_rfl) ?_
      simp only [Act.put, List.setIfInBounds_toArray, List.set_cons_zero, List.set_cons_succ]
      refine wpList_runTo rfl (some 44) rfl (cutV (.slice va l.length vc) 0 at_ vc) wr (by exact sliceT_run (.tmp 42) (.tmp 43) rfl (by kernel_rfl) (by kernel_rfl) (by omega) _) ?_
      simp only [Act.put, List.setIfInBounds_toArray, List.set_cons_zero, List.set_cons_succ]
      refine wpList_callW rfl (some 45) rfl 33 #[cutV (.slice va l.length vc) 0 at_ vc] (by kernel_rfl) hcl ?_
      clear hcl
      rintro e W5 ⟨nv, rfl, hx5⟩
      refine ⟨_, rfl, ?_⟩
      simp only [Act.put, List.setIfInBounds_toArray, List.set_cons_zero, List.set_cons_succ]
      generalize cutV (.slice va l.length vc) 0 at_ vc = c5 at *
      obtain ⟨na, nc, hnf, _⟩ := hx5.out.row.form
      rw [htl] at hnf
      rw [hef]
      refine wpList_runTo rfl (some 46) rfl (.slice ea es.length ec) W5 (by kernel_rfl) ?_
      simp only [Act.put, List.setIfInBounds_toArray, List.set_cons_zero, List.set_cons_succ]
      rw [hnf]
      refine wpList_runTo rfl (some 47) rfl (.agg #[.slice na at_ nc, .slice ea es.length ec]) W5 (by kernel_rfl) ?_
      simp only [Act.put, List.setIfInBounds_toArray, List.set_cons_zero, List.set_cons_succ]
      refine wpList_runTo rfl (some 48) rfl (.pointer (some ⟨W5.heap.size, 0, none⟩)) (W5.alloc (.cells #[.slice na at_ nc, .slice ea es.length ec] 79)) (by kernel_rfl) ?_
      simp only [Act.put, List.setIfInBounds_toArray, List.set_cons_zero, List.set_cons_succ]
      have HF : Hid (∃ t : Tp, t.g = W5.heap.size ∧ TpAt (W5.alloc (.cells #[.slice na at_ nc, .slice ea es.length ec] 79)) t ∧ t.l = l.take at_ ∧ Chain l t.es at_ ∧ (4 ≤ at_ ∧ t.es.length ≤ 1000000) ∧ at_ ≤ l.length ∧ (t.es.length = 1000000 ∨ ∀ n, ¬ FrOk t.es.length (l.drop at_) n) ∧ Below w.heap.size w (W5.alloc (.cells #[.slice na at_ nc, .slice ea es.length ec] 79)) ∧ ∀ b, t.own b → w.heap.size ≤ b) := by
        have h1 := HO.out.below hx5.out.bel
        have hb : Below W5.heap.size W5 (W5.alloc (.cells #[.slice na at_ nc, .slice ea es.length ec] 79)) := (Below.refl _ W5).alloc (Nat.le_refl _) _
        have h2 := h1.below hb
        have hr5 : RowAt (W5.alloc (.cells #[.slice na at_ nc, .slice ea es.length ec] 79)) 5 1 nv (l.take at_).length (bvals (l.take at_)) := hx5.out.row.fr (Fr.of_below hb (fun _ => False)) fun _ _ => id
        refine ⟨⟨W5.heap.size, nv, l.take at_, ev, es⟩, rfl, ⟨?_, hr5.by' hx5.out.bb, .inl hr5, h2.row, fun q hq => (hr5.lt hq).1, fun e => ?_, fun q hq e => ?_⟩, rfl, HO.out.ch, ⟨HSt.out.1, HSt.out.2.2.1⟩, HSt.out.2.1, HN.out, below_step h1.bel hb, fun b hb => ?_⟩
        · show Blk _ W5.heap.size _ #[nv, ev]
          rw [hnf, hef]
          exact Blk.new _ _ _
        · exact Nat.lt_irrefl _ (hx5.out.row.lt e).1
        · have k1 := hx5.out.low q hq
          have k2 := (HO.out.row.lt e).1
          omega
        · rcases hb with e | e | e
          · rw [show b = W5.heap.size from e]; exact h1.bel.size
          · exact Nat.le_trans HO.out.bel.size (hx5.out.low b e)
          · exact HO.out.low b e
      clear hx5 HO HN hef hnf htl
      generalize W5.alloc (.cells #[.slice na at_ nc, .slice ea es.length ec] 79) = W6 at *
      generalize W5.heap.size = tg at *
      refine wpList_runTo rfl (some 49) rfl (.int .i64 (at_ : Int)) W6 (by kernel_rfl) ?_
      simp only [Act.put, List.setIfInBounds_toArray, List.set_cons_zero, List.set_cons_succ]
      refine wpList_runTo rfl (some 2) rfl (.pointer (some ⟨tg, 0, none⟩)) W6 (by kernel_rfl) ?_
      simp only [Act.put, List.setIfInBounds_toArray, List.set_cons_zero, List.set_cons_succ]
      refine wpList_runTo rfl (some 3) rfl (.int .i64 (at_ : Int)) W6 (by kernel_rfl) ?_
      simp only [Act.put, List.setIfInBounds_toArray, List.set_cons_zero, List.set_cons_succ]
      refine wpList_runTo rfl (some 4) rfl (.int .i64 0) W6 (by kernel_rfl) ?_
      simp only [Act.put, List.setIfInBounds_toArray, List.set_cons_zero, List.set_cons_succ]
      refine wpList_nil ?_
      refine hK10 _ _ ?_
      clear hK10
      obtain ⟨t, ht, hx⟩ := HF.out
      have HX : Hid _ := hx
      clear hx HF
      subst ht
      go_wp2
      go_ret3
      exact ⟨t, at_, rfl, HX⟩
end Go.Proofs.Ytjnnecoikcmaeaa
