import Derived.Test.YtjnnecoikcmaeaaTEa
import Derived.Test.YtjnnecoikcmaeaaTD4

namespace Go.Proofs.Ytjnnecoikcmaeaa
set_option linter.unusedVariables false
set_option linter.unusedSimpArgs false
open Go.RowKit Go.Great

/-- Where the reference's Open stands. -/
structure RO (w W : World) (v : Value) (l : List Nat) (g : Nat) (lv : Value) (L : List Cm) (at_ : Nat) : Prop where
  bel : Below w.heap.size w W
  by' : By W v l
  rt : RtAt W g lv L
  low : ∀ b, rtOwn g lv b → w.heap.size ≤ b
  tl : tpL (csL L) L.length = l.take at_
  le : at_ ≤ l.length
  a4 : 4 ≤ at_
  ln : L.length ≤ 1000000
theorem RO.below {w W W' : World} {v : Value} {l : List Nat} {g : Nat} {lv : Value} {L : List Cm} {at_ : Nat} (h : RO w W v l g lv L at_) (hb : Below W.heap.size W W') : RO w W' v l g lv L at_ := ⟨below_step h.bel hb, h.by'.below hb, h.rt.below hb, h.low, h.tl, h.le, h.a4, h.ln⟩
theorem csL_app (L : List Cm) (c : Cm) : tpL (csL (L ++ [c])) (L ++ [c]).length = tpL (csL L) L.length ++ recL L.length (encL c) := by
  rw [List.length_append]
  show tpL (csL (L ++ [c])) L.length ++ recL L.length (encL (csL (L ++ [c]) L.length)) = _
  rw [csL_get (L := L ++ [c]) (j := L.length) (c := c) (by rw [List.getElem?_append_right (Nat.le_refl _), Nat.sub_self]; rfl)]
  rw [tpL_ext (cs := csL (L ++ [c])) (ds := csL L) L.length fun j hj => by
    unfold csL
    rw [List.getD_eq_getElem?_getD, List.getD_eq_getElem?_getD, List.getElem?_append_left hj]]
theorem cmdL_eq (n : Nat) (l : List Nat) : cmdL n l = (l.drop 6).take n := by
  unfold cmdL
  rw [List.drop_take, Nat.add_sub_cancel_left]
/-- One record more. -/
theorem RO.app {w W W' : World} {v : Value} {l : List Nat} {g : Nat} {lv lv' : Value} {L : List Cm} {at_ n : Nat} {c : Cm} (h : RO w W v l g lv L at_) (hv : ∀ q, v.ownBlock = some q → q < w.heap.size) (hl : L.length < 1000000) (hf : FrOk L.length (l.drop at_) n) (hd : dec (cmdL n (l.drop at_)) = .ok c) (ht : RtAt W' g lv' (L ++ [c])) (hfr : Fr W W' (rtOwn g lv)) (ho : ∀ b, rtOwn g lv' b → rtOwn g lv b ∨ W.heap.size ≤ b) : RO w W' v l g lv' (L ++ [c]) (at_ + (6 + n)) := by
  have hall := hf.all
  rw [List.length_drop] at hall
  have hn1 := hf.n1
  have hle := h.le
  have hbb : BB (cmdL n (l.drop at_)) := by rw [cmdL_eq]; exact ((h.by'.bb.drop _).drop _).take _
  obtain ⟨_, he, _⟩ := enc_dec hbb hd
  refine ⟨below_fr h.bel hfr h.low, h.by'.fr hfr fun q hq e => ?_, ht, fun b hb => ?_, ?_, by omega, by have := h.a4; omega, by rw [List.length_append]; show L.length + 1 ≤ _; omega⟩
  · have := hv q hq
    have := h.low q e
    omega
  · rcases ho b hb with e | e
    · exact h.low b e
    · exact Nat.le_trans h.bel.size e
  · rw [csL_app, h.tl, he, ← hf.rc, ← List.take_add]
theorem ixB_run {op : Oper} {a : Act} {g o n c i : Nat} (x y : Operand) (ho : op.op = .indexAddr 28 x y) (hx : a.eval x = .slice (some ⟨g, o, none⟩) n c) (hy : a.eval y = .int .i64 (i : Int)) (hi : i < n) (w : World) : (execOp a.eval op).run Try.prog w = .ok (.value (.pointer (some ⟨g, o + i, none⟩))) w := by
  have h1 : (i : Int) < (n : Int) := by omega
  have h2 : ¬ (n : Int) ≤ (i : Int) := by omega
  unfold execOp
  simp only [ho, hx, hy]
  go_simp
theorem ldY_run {op : Oper} {a : Act} {w : World} {g o x0 : Nat} (x : Operand) (ho : op.op = .load 5 x) (hx : a.eval x = .pointer (some ⟨g, o, none⟩)) (h : w.cell? ⟨g, o, none⟩ = some (.int .u8 (x0 : Int))) : (execOp a.eval op).run Try.prog w = .ok (.value (.int .u8 (x0 : Int))) w := by
  unfold execOp
  simp only [ho, hx]
  go_simp
theorem cvY_run {op : Oper} {a : Act} {x0 : Nat} (x : Operand) (ho : op.op = .convert 5 3 x) (hx : a.eval x = .int .u8 (x0 : Int)) (h : x0 < 256) (w : World) : (execOp a.eval op).run Try.prog w = .ok (.value (.int .i64 (x0 : Int))) w := by
  have hw : IntKind.i64.wrap (x0 : Int) = (x0 : Int) := by rw [IntKind.wrap_i64]; omega
  unfold execOp
  simp only [ho, hx]
  go_simp
theorem mulY_run {op : Oper} {a : Act} {p : Nat} (x : Operand) (ho : op.op = .binOp .mul 3 x (.const (.int .i64 256)) 3) (hx : a.eval x = .int .i64 (p : Int)) (h : p < 256) (w : World) : (execOp a.eval op).run Try.prog w = .ok (.value (.int .i64 ((p * 256 : Nat) : Int))) w := by
  have hw : IntKind.i64.wrap ((p : Int) * 256) = ((p * 256 : Nat) : Int) := by rw [IntKind.wrap_i64]; omega
  have hw' : wrap64 ((p : Int) * 256) = ((p * 256 : Nat) : Int) := by unfold wrap64; omega
  have hy : a.eval (.const (.int .i64 256)) = .int .i64 256 := rfl
  generalize p * 256 = r at *
  unfold execOp
  simp only [ho, hx, hy]
  go_simp
theorem leN_run {op : Oper} {a : Act} {p q : Nat} {r : Bool} (x y : Operand) (ho : op.op = .binOp .leq 3 x y 3) (hx : a.eval x = .int .i64 (p : Int)) (hy : a.eval y = .int .i64 (q : Int)) (hr : decide (p ≤ q) = r) (w : World) : (execOp a.eval op).run Try.prog w = .ok (.value (.bool r)) w := by
  have h1 : decide ((p : Int) ≤ (q : Int)) = r := by
    rw [← hr]
    by_cases h : p ≤ q
    · rw [decide_eq_true h, decide_eq_true (by omega)]
    · rw [decide_eq_false h, decide_eq_false (by omega)]
  unfold execOp
  simp only [ho, hx, hy]
  go_simp
theorem neS2_run {op : Oper} {a : Act} {s t : ByteArray} (x y : Operand) (ho : op.op = .binOp .neq 9 x y 9) (hx : a.eval x = .string s) (hy : a.eval y = .string t) (hr : s ≠ t) (w : World) : (execOp a.eval op).run Try.prog w = .ok (.value (.bool true)) w := by
  have h0 : s.toList ≠ t.toList := fun e => hr (by
    rw [ByteArray.toList_eq, ByteArray.toList_eq] at e
    obtain ⟨s⟩ := s
    obtain ⟨t⟩ := t
    congr 1
    exact Array.ext' e)
  have h1 : (s.toList == t.toList) = false := by simpa using h0
  have h2 : (s.toList != t.toList) = true := by simpa using h0
  unfold execOp
  simp only [ho, hx, hy]
  go_simp
theorem ofN_inj {a b : List Nat} (ha : BB a) (hb : BB b) (h : ofN a = ofN b) : a = b := by
  rw [← sB_ofN ha, h, sB_ofN hb]
end Go.Proofs.Ytjnnecoikcmaeaa

namespace Go.Proofs.Ytjnnecoikcmaeaa
set_option linter.unusedVariables false
set_option linter.unusedSimpArgs false
open Go.RowKit Go.Great

/-- What the reference's Open answers, where the bytes begin as they should. -/
def ROpR (w : World) (l : List Nat) (e : Ending) (w' : World) : Prop := ∃ g lv L at_, e = .returned (.tuple #[.pointer (some ⟨g, 0, none⟩), .int .i64 ((at_ : Nat) : Int), .int .i64 0]) ∧ Hid (RtAt w' g lv L ∧ tpL (csL L) L.length = l.take at_ ∧ 4 ≤ at_ ∧ at_ ≤ l.length ∧ L.length ≤ 1000000 ∧ (L.length = 1000000 ∨ ∀ n, ¬ FrOk L.length (l.drop at_) n) ∧ Below w.heap.size w w' ∧ ∀ b, rtOwn g lv b → w.heap.size ≤ b)
theorem RO.done {w W : World} {v : Value} {l : List Nat} {g : Nat} {lv : Value} {L : List Cm} {at_ : Nat} (h : RO w W v l g lv L at_) (hm : L.length = 1000000 ∨ ∀ n, ¬ FrOk L.length (l.drop at_) n) {e : Ending} (he : e = .returned (.tuple #[.pointer (some ⟨g, 0, none⟩), .int .i64 ((at_ : Nat) : Int), .int .i64 0])) : ROpR w l e W := ⟨g, lv, L, at_, he, h.rt, h.tl, h.a4, h.le, h.ln, hm, h.bel, h.low⟩
theorem by_cells {w : World} {v : Value} {l : List Nat} (h : By w v l) (hl : 0 < l.length) : ∃ b o c, v = .slice (some ⟨b, o, none⟩) l.length c ∧ l.length ≤ c ∧ ∀ (j x : Nat), l[j]? = some x → w.cell? ⟨b, o + j, none⟩ = some (.int .u8 (x : Int)) := by
  obtain ⟨a, c, e, h1, h2, h3⟩ := h.ex
  rcases h3 with h3 | ⟨b, o, rfl, h3⟩
  · rw [h3] at hl; cases hl
  · exact ⟨b, o, c, e, h1, h3⟩
theorem getN2_drop {l : List Nat} {a : Nat} (h : a + 2 ≤ l.length) : getN (dN (l.drop a)) 2 = dN l a * 256 + dN l (a + 1) := by
  show (0 * 256 + dN (l.drop a) 0) * 256 + dN (l.drop a) 1 = _
  unfold dN
  simp only [List.getD_eq_getElem?_getD, List.getElem?_drop, Nat.add_zero, Nat.zero_mul, Nat.zero_add]
set_option maxRecDepth 100000 in
set_option maxHeartbeats 16000000 in
theorem refOpen_yes {w : World} {v : Value} {l : List Nat} (h : By w v l) (hv : ∀ q, v.ownBlock = some q → q < w.heap.size) (hl : l.length ≤ 140737488355328) (hm : l.take 4 = magic) : Calls Try.prog 28 #[v] w fun e w' => ROpR w l e w' := by
  have h4 : 4 ≤ l.length := by
    have := congrArg List.length hm
    rw [List.length_take] at this
    have e : magic.length = 4 := rfl
    omega
  have hb : ∀ (j x : Nat), magic[j]? = some x → l[j]? = some x := fun j x hj => by
    have hj4 : j < 4 := (List.getElem?_eq_some_iff.1 hj).1
    rw [← hm, List.getElem?_take_of_lt hj4] at hj
    exact hj
  obtain ⟨vb, vo, vc, hvf, hvc, hcl⟩ := by_cells h (by omega)
  have c0 := hcl 0 79 (hb 0 79 rfl)
  have c1 := hcl 1 84 (hb 1 84 rfl)
  have c2 := hcl 2 65 (hb 2 65 rfl)
  have c3 := hcl 3 80 (hb 3 80 rfl)
  have HV : Hid (∀ q, v.ownBlock = some q → q < w.heap.size) := hv
  have HY : Hid (By w v l) := h
  have HM : Hid (l.take 4 = magic ∧ l.length ≤ 140737488355328 ∧ 4 ≤ l.length) := ⟨hm, hl, h4⟩
  clear h hv hcl hb hm
  subst hvf
  obtain ⟨n0, hn0⟩ : ∃ n0, n0 = l.length := ⟨_, rfl⟩
  have HN0 : Hid (n0 = l.length) := hn0
  rw [← hn0] at HY HV hl h4 hvc ⊢
  clear hn0
  go_enter Try.func28, Try.ntmps28
  go_upto_region 1 with fail
  rename_i K hK
  refine wp_region_lit ?_
  refine wpList_runTo rfl (some 12) rfl (.slice (some ⟨vb, vo, none⟩) n0 vc) w (by kernel_rfl) ?_
  simp only [Act.put, List.setIfInBounds_toArray, List.set_cons_zero, List.set_cons_succ]
  refine wpList_runTo rfl (some 13) rfl (.int .i64 (n0 : Int)) w (by kernel_rfl) ?_
  simp only [Act.put, List.setIfInBounds_toArray, List.set_cons_zero, List.set_cons_succ]
  refine wpList_runTo rfl (some 14) rfl (.bool false) w (by exact ltN_run (n := n0) (k := 4) (.tmp 13) (.const (.int .i64 4)) rfl (by kernel_rfl) rfl (decide_eq_false (by omega)) _) ?_
  simp only [Act.put, List.setIfInBounds_toArray, List.set_cons_zero, List.set_cons_succ]
  refine wpList_runTo rfl (some 15) rfl (.bool false) w (by kernel_rfl) ?_
  simp only [Act.put, List.setIfInBounds_toArray, List.set_cons_zero, List.set_cons_succ]
  refine wpList_runToG (by kernel_rfl) (some 16) rfl (.slice (some ⟨vb, vo, none⟩) n0 vc) w (by kernel_rfl) ?_
  simp only [Act.put, List.setIfInBounds_toArray, List.set_cons_zero, List.set_cons_succ]
  refine wpList_runToG (by kernel_rfl) (some 17) rfl (.pointer (some ⟨vb, vo + 0, none⟩)) w (by exact ixB_run (n := n0) (c := vc) (i := 0) (.tmp 16) (.const (.int .i64 0)) rfl (by kernel_rfl) rfl (by omega) _) ?_
  simp only [Act.put, List.setIfInBounds_toArray, List.set_cons_zero, List.set_cons_succ]
  refine wpList_runToG (by kernel_rfl) (some 18) rfl (.int .u8 79) w (by exact ldY_run (x0 := 79) (.tmp 17) rfl (by kernel_rfl) c0) ?_
  simp only [Act.put, List.setIfInBounds_toArray, List.set_cons_zero, List.set_cons_succ]
  refine wpList_runToG (by kernel_rfl) (some 19) rfl (.bool false) w (by kernel_rfl) ?_
  simp only [Act.put, List.setIfInBounds_toArray, List.set_cons_zero, List.set_cons_succ]
  refine wpList_runTo rfl (some 20) rfl (.bool false) w (by kernel_rfl) ?_
  simp only [Act.put, List.setIfInBounds_toArray, List.set_cons_zero, List.set_cons_succ]
  refine wpList_runTo rfl (some 21) rfl (.bool false) w (by kernel_rfl) ?_
  simp only [Act.put, List.setIfInBounds_toArray, List.set_cons_zero, List.set_cons_succ]
  refine wpList_runToG (by kernel_rfl) (some 22) rfl (.slice (some ⟨vb, vo, none⟩) n0 vc) w (by kernel_rfl) ?_
  simp only [Act.put, List.setIfInBounds_toArray, List.set_cons_zero, List.set_cons_succ]
  refine wpList_runToG (by kernel_rfl) (some 23) rfl (.pointer (some ⟨vb, vo + 1, none⟩)) w (by exact ixB_run (n := n0) (c := vc) (i := 1) (.tmp 22) (.const (.int .i64 1)) rfl (by kernel_rfl) rfl (by omega) _) ?_
  simp only [Act.put, List.setIfInBounds_toArray, List.set_cons_zero, List.set_cons_succ]
  refine wpList_runToG (by kernel_rfl) (some 24) rfl (.int .u8 84) w (by exact ldY_run (x0 := 84) (.tmp 23) rfl (by kernel_rfl) c1) ?_
  simp only [Act.put, List.setIfInBounds_toArray, List.set_cons_zero, List.set_cons_succ]
  refine wpList_runToG (by kernel_rfl) (some 25) rfl (.bool false) w (by kernel_rfl) ?_
  simp only [Act.put, List.setIfInBounds_toArray, List.set_cons_zero, List.set_cons_succ]
  refine wpList_runTo rfl (some 26) rfl (.bool false) w (by kernel_rfl) ?_
  simp only [Act.put, List.setIfInBounds_toArray, List.set_cons_zero, List.set_cons_succ]
  refine wpList_runTo rfl (some 27) rfl (.bool false) w (by kernel_rfl) ?_
  simp only [Act.put, List.setIfInBounds_toArray, List.set_cons_zero, List.set_cons_succ]
  refine wpList_runToG (by kernel_rfl) (some 28) rfl (.slice (some ⟨vb, vo, none⟩) n0 vc) w (by kernel_rfl) ?_
  simp only [Act.put, List.setIfInBounds_toArray, List.set_cons_zero, List.set_cons_succ]
  refine wpList_runToG (by kernel_rfl) (some 29) rfl (.pointer (some ⟨vb, vo + 2, none⟩)) w (by exact ixB_run (n := n0) (c := vc) (i := 2) (.tmp 28) (.const (.int .i64 2)) rfl (by kernel_rfl) rfl (by omega) _) ?_
  simp only [Act.put, List.setIfInBounds_toArray, List.set_cons_zero, List.set_cons_succ]
  refine wpList_runToG (by kernel_rfl) (some 30) rfl (.int .u8 65) w (by exact ldY_run (x0 := 65) (.tmp 29) rfl (by kernel_rfl) c2) ?_
  simp only [Act.put, List.setIfInBounds_toArray, List.set_cons_zero, List.set_cons_succ]
  refine wpList_runToG (by kernel_rfl) (some 31) rfl (.bool false) w (by kernel_rfl) ?_
  simp only [Act.put, List.setIfInBounds_toArray, List.set_cons_zero, List.set_cons_succ]
  refine wpList_runTo rfl (some 32) rfl (.bool false) w (by kernel_rfl) ?_
  simp only [Act.put, List.setIfInBounds_toArray, List.set_cons_zero, List.set_cons_succ]
  refine wpList_runTo rfl (some 33) rfl (.bool false) w (by kernel_rfl) ?_
  simp only [Act.put, List.setIfInBounds_toArray, List.set_cons_zero, List.set_cons_succ]
  refine wpList_runToG (by kernel_rfl) (some 34) rfl (.slice (some ⟨vb, vo, none⟩) n0 vc) w (by kernel_rfl) ?_
  simp only [Act.put, List.setIfInBounds_toArray, List.set_cons_zero, List.set_cons_succ]
  refine wpList_runToG (by kernel_rfl) (some 35) rfl (.pointer (some ⟨vb, vo + 3, none⟩)) w (by exact ixB_run (n := n0) (c := vc) (i := 3) (.tmp 34) (.const (.int .i64 3)) rfl (by kernel_rfl) rfl (by omega) _) ?_
  simp only [Act.put, List.setIfInBounds_toArray, List.set_cons_zero, List.set_cons_succ]
  refine wpList_runToG (by kernel_rfl) (some 36) rfl (.int .u8 80) w (by exact ldY_run (x0 := 80) (.tmp 35) rfl (by kernel_rfl) c3) ?_
  simp only [Act.put, List.setIfInBounds_toArray, List.set_cons_zero, List.set_cons_succ]
  refine wpList_runToG (by kernel_rfl) (some 37) rfl (.bool false) w (by kernel_rfl) ?_
  simp only [Act.put, List.setIfInBounds_toArray, List.set_cons_zero, List.set_cons_succ]
  refine wpList_runTo rfl (some 38) rfl (.bool false) w (by kernel_rfl) ?_
  simp only [Act.put, List.setIfInBounds_toArray, List.set_cons_zero, List.set_cons_succ]
  refine wpList_nil ?_
  refine hK _ _ ?_
  clear hK c0 c1 c2 c3
  generalize vo + 0 = o0
  generalize vo + 1 = o1
  generalize vo + 2 = o2
  generalize vo + 3 = o3
  have hnew := refNew_any w
  go_upto_region 3 with fail
  rename_i K hK
  refine wp_region_lit ?_
  refine wpList_callW rfl (some 39) rfl 20 #[] (by kernel_rfl) hnew ?_
  clear hnew
  rintro e W1 ⟨g, rfl, hx⟩
  refine ⟨_, rfl, ?_⟩
  simp only [Act.put, List.setIfInBounds_toArray, List.set_cons_zero, List.set_cons_succ]
  have HR0 : Hid (RO w W1 (.slice (some ⟨vb, vo, none⟩) n0 vc) l g (.slice none 0 0) [] 4) := ⟨hx.out.2.1, HY.out.below hx.out.2.1, hx.out.1, fun b hb => (by
    rcases hb with e | e
    · rw [e]; exact hx.out.2.2
    · cases e), HM.out.1.symm, HM.out.2.2, Nat.le_refl _, Nat.zero_le _⟩
  clear hx HY
  refine wpList_runTo rfl (some 5) rfl (.pointer (some ⟨g, 0, none⟩)) W1 (by kernel_rfl) ?_
  simp only [Act.put, List.setIfInBounds_toArray, List.set_cons_zero, List.set_cons_succ]
  refine wpList_nil ?_
  refine hK _ _ ?_
  clear hK
  go_wp2
  go_loopw [6] (fun x wr => ∃ (at_ : Nat) (lv : Value) (L : List Cm), at_ ≤ n0 ∧ x = .int .i64 (at_ : Int) ∧ Hid (RO w wr (.slice (some ⟨vb, vo, none⟩) n0 vc) l g lv L at_)) (fun x _ => n0 - (intOf x).toNat)
  case atStart => exact ⟨4, _, [], h4, rfl, HR0⟩
  case round =>
    clear HR0
    obtain ⟨at_, lv, L, hle, rfl, HR⟩ := hrel
    obtain ⟨la, lc, hlf, _⟩ := HR.out.rt.row.form
    have hLn := HR.out.ln
    have ha4 := HR.out.a4
    have cL : wr.cell? ⟨g, 0, none⟩ = some (.slice la L.length lc) := by rw [← hlf]; exact HR.out.rt.blk.cell 0
    by_cases h6 : at_ + 6 ≤ n0
    · by_cases hmany : L.length < 1000000
      · go_upto_region 5 with fail
        rename_i K hK
        refine wp_region_lit ?_
        refine wpList_runTo rfl (some 40) rfl (.int .i64 (at_ : Int)) wr (by kernel_rfl) ?_
        simp only [Act.put, List.setIfInBounds_toArray, List.set_cons_zero, List.set_cons_succ]
        refine wpList_runTo rfl (some 41) rfl (.int .i64 ((at_ + 6 : Nat) : Int)) wr (by exact addN_run (p := at_) (q := 6) (.tmp 40) (.const (.int .i64 6)) rfl (by kernel_rfl) rfl (by omega) _) ?_
        simp only [Act.put, List.setIfInBounds_toArray, List.set_cons_zero, List.set_cons_succ]
        refine wpList_runTo rfl (some 42) rfl (.slice (some ⟨vb, vo, none⟩) n0 vc) wr (by kernel_rfl) ?_
        simp only [Act.put, List.setIfInBounds_toArray, List.set_cons_zero, List.set_cons_succ]
        refine wpList_runTo rfl (some 43) rfl (.int .i64 (n0 : Int)) wr (by kernel_rfl) ?_
        simp only [Act.put, List.setIfInBounds_toArray, List.set_cons_zero, List.set_cons_succ]
        refine wpList_runTo rfl (some 44) rfl (.bool true) wr (by exact leN_run (.tmp 41) (.tmp 43) rfl (by kernel_rfl) (by kernel_rfl) (decide_eq_true h6) _) ?_
        simp only [Act.put, List.setIfInBounds_toArray, List.set_cons_zero, List.set_cons_succ]
        refine wpList_runTo rfl (some 45) rfl (.bool true) wr (by kernel_rfl) ?_
        simp only [Act.put, List.setIfInBounds_toArray, List.set_cons_zero, List.set_cons_succ]
        refine wpList_runToG (by kernel_rfl) (some 46) rfl (.pointer (some ⟨g, 0, none⟩)) wr (by kernel_rfl) ?_
        simp only [Act.put, List.setIfInBounds_toArray, List.set_cons_zero, List.set_cons_succ]
        refine wpList_runToG (by kernel_rfl) (some 47) rfl (.pointer (some ⟨g, 0, none⟩)) wr (by kernel_rfl) ?_
        simp only [Act.put, List.setIfInBounds_toArray, List.set_cons_zero, List.set_cons_succ]
        refine wpList_runToG (by kernel_rfl) (some 48) rfl (.pointer (some ⟨g, 0, none⟩)) wr (by kernel_rfl) ?_
        simp only [Act.put, List.setIfInBounds_toArray, List.set_cons_zero, List.set_cons_succ]
        refine wpList_runToG (by kernel_rfl) (some 49) rfl (.slice la L.length lc) wr (by go_simp) ?_
        simp only [Act.put, List.setIfInBounds_toArray, List.set_cons_zero, List.set_cons_succ]
        refine wpList_runToG (by kernel_rfl) (some 50) rfl (.int .i64 (L.length : Int)) wr (by kernel_rfl) ?_
        simp only [Act.put, List.setIfInBounds_toArray, List.set_cons_zero, List.set_cons_succ]
        refine wpList_runToG (by kernel_rfl) (some 51) rfl (.bool true) wr (by exact lssM_run (.tmp 50) (.const (.int .i64 1000000)) rfl (by kernel_rfl) rfl (decide_eq_true hmany) _) ?_
        simp only [Act.put, List.setIfInBounds_toArray, List.set_cons_zero, List.set_cons_succ]
        refine wpList_runTo rfl (some 52) rfl (.bool true) wr (by kernel_rfl) ?_
        simp only [Act.put, List.setIfInBounds_toArray, List.set_cons_zero, List.set_cons_succ]
        refine wpList_nil ?_
        refine hK _ _ ?_
        clear hK
        obtain ⟨vb', vo', vc', hvf', _, hcl⟩ := by_cells HR.out.by' (by rw [← HN0.out]; omega)
        injection hvf' with e1 en e3
        clear en
        injection e1 with e1
        injection e1 with e1 e2
        subst e1 e2 e3
        have hbb := HR.out.by'.bb
        have hx0 : dN l at_ < 256 := dN_bb hbb at_ (by rw [← HN0.out]; omega)
        have hx1 : dN l (at_ + 1) < 256 := dN_bb hbb (at_ + 1) (by rw [← HN0.out]; omega)
        have k0 : wr.cell? ⟨vb, vo + at_, none⟩ = some (.int .u8 ((dN l at_ : Nat) : Int)) := hcl at_ _ (by rw [dN_at (by rw [← HN0.out]; omega)]; exact List.getElem?_eq_getElem (by rw [← HN0.out]; omega))
        have k1 : wr.cell? ⟨vb, vo + (at_ + 1), none⟩ = some (.int .u8 ((dN l (at_ + 1) : Nat) : Int)) := hcl (at_ + 1) _ (by rw [dN_at (by rw [← HN0.out]; omega)]; exact List.getElem?_eq_getElem (by rw [← HN0.out]; omega))
        have HG : Hid (getN (dN (l.drop at_)) 2 = dN l at_ * 256 + dN l (at_ + 1)) := getN2_drop (by rw [← HN0.out]; omega)
        clear hcl hbb
        generalize dN l at_ = x0 at *
        generalize dN l (at_ + 1) = x1 at *
        go_upto_region 6 with fail
        have hbd : Below wr.heap.size wr wr.drew := ⟨rfl, rfl, rfl, Nat.le_refl _, fun _ _ => rfl⟩
        have HR1 : Hid (RO w wr.drew (.slice (some ⟨vb, vo, none⟩) n0 vc) l g lv L at_) := HR.out.below hbd
        have hS : wr.drew.cell? ⟨vb, vo + at_, none⟩ = some (.int .u8 (x0 : Int)) ∧ wr.drew.cell? ⟨vb, vo + (at_ + 1), none⟩ = some (.int .u8 (x1 : Int)) := ⟨k0, k1⟩
        clear hbd HR k0 k1 cL
        refine wp_region_held (S := fun w' => w'.cell? ⟨vb, vo + at_, none⟩ = some (.int .u8 (x0 : Int)) ∧ w'.cell? ⟨vb, vo + (at_ + 1), none⟩ = some (.int .u8 (x1 : Int))) (by kernel_rfl) ?_
        change wpAnyH _ _ _ _ _ _ _ _ (World.drew _)
        generalize wr.drew = WA at *
        refine takeR (i := 0) (v := .slice (some ⟨vb, vo, none⟩) n0 vc) (some 53) rfl rfl (by kernel_rfl) (by kernel_rfl) (by kernel_rfl) (fun _ _ _ h => h) (Or.inl ⟨by kernel_rfl, fun w' hSw => by kernel_rfl⟩) hS ?_
        simp only [Act.put, List.setIfInBounds_toArray, List.set_cons_zero, List.set_cons_succ]
        refine takeR (i := 1) (v := .int .i64 (at_ : Int)) (some 54) rfl rfl (by kernel_rfl) (by kernel_rfl) (by kernel_rfl) (fun _ _ _ h => h) (Or.inl ⟨by kernel_rfl, fun w' hSw => by kernel_rfl⟩) hS ?_
        simp only [Act.put, List.setIfInBounds_toArray, List.set_cons_zero, List.set_cons_succ]
        refine takeR (i := 2) (v := .pointer (some ⟨vb, vo + at_, none⟩)) (some 55) rfl rfl (by kernel_rfl) (by kernel_rfl) (by kernel_rfl) (fun _ _ _ h => h) (Or.inl ⟨by kernel_rfl, fun w' hSw => by exact ixB_run (n := n0) (c := vc) (i := at_) (.tmp 53) (.tmp 54) rfl (by kernel_rfl) (by kernel_rfl) (by omega) _⟩) hS ?_
        simp only [Act.put, List.setIfInBounds_toArray, List.set_cons_zero, List.set_cons_succ]
        refine takeR (i := 3) (v := .int .u8 (x0 : Int)) (some 56) rfl rfl (by kernel_rfl) (by kernel_rfl) (by kernel_rfl) (fun _ _ _ h => h) (Or.inl ⟨by kernel_rfl, fun w' hSw => by exact ldY_run (.tmp 55) rfl (by kernel_rfl) hSw.1⟩) hS ?_
        simp only [Act.put, List.setIfInBounds_toArray, List.set_cons_zero, List.set_cons_succ]
        refine takeR (i := 4) (v := .int .i64 (x0 : Int)) (some 57) rfl rfl (by kernel_rfl) (by kernel_rfl) (by kernel_rfl) (fun _ _ _ h => h) (Or.inl ⟨by kernel_rfl, fun w' hSw => by exact cvY_run (.tmp 56) rfl (by kernel_rfl) hx0 _⟩) hS ?_
        simp only [Act.put, List.setIfInBounds_toArray, List.set_cons_zero, List.set_cons_succ]
        refine takeR (i := 5) (v := .int .i64 ((x0 * 256 : Nat) : Int)) (some 58) rfl rfl (by kernel_rfl) (by kernel_rfl) (by kernel_rfl) (fun _ _ _ h => h) (Or.inl ⟨by kernel_rfl, fun w' hSw => by exact mulY_run (.tmp 57) rfl (by kernel_rfl) hx0 _⟩) hS ?_
        simp only [Act.put, List.setIfInBounds_toArray, List.set_cons_zero, List.set_cons_succ]
        refine takeR (i := 6) (v := .slice (some ⟨vb, vo, none⟩) n0 vc) (some 59) rfl rfl (by kernel_rfl) (by kernel_rfl) (by kernel_rfl) (fun _ _ _ h => h) (Or.inl ⟨by kernel_rfl, fun w' hSw => by kernel_rfl⟩) hS ?_
        simp only [Act.put, List.setIfInBounds_toArray, List.set_cons_zero, List.set_cons_succ]
        refine takeR (i := 7) (v := .int .i64 (at_ : Int)) (some 60) rfl rfl (by kernel_rfl) (by kernel_rfl) (by kernel_rfl) (fun _ _ _ h => h) (Or.inl ⟨by kernel_rfl, fun w' hSw => by kernel_rfl⟩) hS ?_
        simp only [Act.put, List.setIfInBounds_toArray, List.set_cons_zero, List.set_cons_succ]
        refine takeR (i := 8) (v := .int .i64 ((at_ + 1 : Nat) : Int)) (some 61) rfl rfl (by kernel_rfl) (by kernel_rfl) (by kernel_rfl) (fun _ _ _ h => h) (Or.inl ⟨by kernel_rfl, fun w' hSw => by exact addN_run (p := at_) (q := 1) (.tmp 60) (.const (.int .i64 1)) rfl (by kernel_rfl) rfl (by omega) _⟩) hS ?_
        simp only [Act.put, List.setIfInBounds_toArray, List.set_cons_zero, List.set_cons_succ]
        refine takeR (i := 9) (v := .pointer (some ⟨vb, vo + (at_ + 1), none⟩)) (some 62) rfl rfl (by kernel_rfl) (by kernel_rfl) (by kernel_rfl) (fun _ _ _ h => h) (Or.inl ⟨by kernel_rfl, fun w' hSw => by exact ixB_run (n := n0) (c := vc) (i := at_ + 1) (.tmp 59) (.tmp 61) rfl (by kernel_rfl) (by kernel_rfl) (by omega) _⟩) hS ?_
        simp only [Act.put, List.setIfInBounds_toArray, List.set_cons_zero, List.set_cons_succ]
        refine takeR (i := 10) (v := .int .u8 (x1 : Int)) (some 63) rfl rfl (by kernel_rfl) (by kernel_rfl) (by kernel_rfl) (fun _ _ _ h => h) (Or.inl ⟨by kernel_rfl, fun w' hSw => by exact ldY_run (.tmp 62) rfl (by kernel_rfl) hSw.2⟩) hS ?_
        simp only [Act.put, List.setIfInBounds_toArray, List.set_cons_zero, List.set_cons_succ]
        refine takeR (i := 11) (v := .int .i64 (x1 : Int)) (some 64) rfl rfl (by kernel_rfl) (by kernel_rfl) (by kernel_rfl) (fun _ _ _ h => h) (Or.inl ⟨by kernel_rfl, fun w' hSw => by exact cvY_run (.tmp 63) rfl (by kernel_rfl) hx1 _⟩) hS ?_
        simp only [Act.put, List.setIfInBounds_toArray, List.set_cons_zero, List.set_cons_succ]
        refine takeR (i := 12) (v := .int .i64 ((x0 * 256 + x1 : Nat) : Int)) (some 65) rfl rfl (by kernel_rfl) (by kernel_rfl) (by kernel_rfl) (fun _ _ _ h => h) (Or.inl ⟨by kernel_rfl, fun w' hSw => by exact addN_run (p := x0 * 256) (q := x1) (.tmp 58) (.tmp 64) rfl (by kernel_rfl) (by kernel_rfl) (by omega) _⟩) hS ?_
        simp only [Act.put, List.setIfInBounds_toArray, List.set_cons_zero, List.set_cons_succ]
        refine takeR (i := 13) (v := .int .i64 ((x0 * 256 + x1 : Nat) : Int)) (some 7) rfl rfl (by kernel_rfl) (by kernel_rfl) (by kernel_rfl) (fun _ _ _ h => h) (Or.inl ⟨by kernel_rfl, fun w' hSw => by kernel_rfl⟩) hS ?_
        simp only [Act.put, List.setIfInBounds_toArray, List.set_cons_zero, List.set_cons_succ]
        refine wpAnyH_done (by kernel_rfl) ?_ _
        clear hS
        have hnb : x0 * 256 + x1 < 65536 := by omega
        obtain ⟨n, hn⟩ : ∃ n, n = x0 * 256 + x1 := ⟨_, rfl⟩
        rw [← hn] at HG hnb ⊢
        generalize x0 * 256 = y0
        generalize at_ + 1 = at1
        generalize at_ + 6 = at6
        clear hn
        have HLen : Hid (∀ m, FrOk L.length (l.drop at_) m → m = n) := fun m hm => by rw [← hm.len]; exact HG.out
        by_cases hbad : n < 1 ∨ 600 < n ∨ n0 < at_ + 6 + n
        · have HNo : Hid (∀ m, ¬ FrOk L.length (l.drop at_) m) := fun m hm => by
            have := HLen.out m hm
            have h1 := hm.n1
            have h2 := hm.n6
            have h3 := hm.all
            rw [List.length_drop, ← HN0.out] at h3
            omega
          clear HLen HG
          go_upto_region 7 with fail
          go_cut [80] from 66 to 80 (fun x80 wx => x80 = .bool true ∧ wx = WA)
          case first => as_aux_lemma =>
            by_cases q1 : n < 1
            · have q1' : (n : Int) < 1 := by omega
              go_wp2
              go_meet
              exact ⟨rfl, rfl⟩
            · have q1' : ¬ (n : Int) < 1 := by omega
              by_cases q2 : 600 < n
              · have q2' : (600 : Int) < (n : Int) := by omega
                go_wp2
                go_meet
                exact ⟨rfl, rfl⟩
              · have q2' : ¬ (600 : Int) < (n : Int) := by omega
                have q3' : (n0 : Int) < (at_ : Int) + 6 + (n : Int) := by omega
                go_wp2
                go_meet
                exact ⟨rfl, rfl⟩
          case rest =>
            obtain ⟨rfl, hw⟩ := hcut
            subst hw
            go_wp2
            go_ret3
            exact HR1.out.done (.inr HNo.out) rfl
        · have hn1 : 1 ≤ n := by omega
          have hn6 : n ≤ 600 := by omega
          have hna : at_ + 6 + n ≤ n0 := by omega
          clear hbad
          go_upto_region 7 with fail
          rename_i K hK
          refine wp_region_lit ?_
          refine wpList_runTo rfl (some 66) rfl (.int .i64 (n : Int)) WA (by kernel_rfl) ?_
          simp only [Act.put, List.setIfInBounds_toArray, List.set_cons_zero, List.set_cons_succ]
          refine wpList_runTo rfl (some 67) rfl (.bool false) WA (by exact ltN_run (n := n) (k := 1) (.tmp 66) (.const (.int .i64 1)) rfl (by kernel_rfl) rfl (decide_eq_false (by omega)) _) ?_
          simp only [Act.put, List.setIfInBounds_toArray, List.set_cons_zero, List.set_cons_succ]
          refine wpList_runTo rfl (some 68) rfl (.bool false) WA (by kernel_rfl) ?_
          simp only [Act.put, List.setIfInBounds_toArray, List.set_cons_zero, List.set_cons_succ]
          refine wpList_runToG (by kernel_rfl) (some 69) rfl (.int .i64 (n : Int)) WA (by kernel_rfl) ?_
          simp only [Act.put, List.setIfInBounds_toArray, List.set_cons_zero, List.set_cons_succ]
          refine wpList_runToG (by kernel_rfl) (some 70) rfl (.bool false) WA (by exact gtN_run (n := n) (k := 600) (.tmp 69) (.const (.int .i64 600)) rfl (by kernel_rfl) rfl (decide_eq_false (by omega)) _) ?_
          simp only [Act.put, List.setIfInBounds_toArray, List.set_cons_zero, List.set_cons_succ]
          refine wpList_runTo rfl (some 71) rfl (.bool false) WA (by kernel_rfl) ?_
          simp only [Act.put, List.setIfInBounds_toArray, List.set_cons_zero, List.set_cons_succ]
          refine wpList_runTo rfl (some 72) rfl (.bool false) WA (by kernel_rfl) ?_
          simp only [Act.put, List.setIfInBounds_toArray, List.set_cons_zero, List.set_cons_succ]
          refine wpList_runToG (by kernel_rfl) (some 73) rfl (.int .i64 (at_ : Int)) WA (by kernel_rfl) ?_
          simp only [Act.put, List.setIfInBounds_toArray, List.set_cons_zero, List.set_cons_succ]
          refine wpList_runToG (by kernel_rfl) (some 74) rfl (.int .i64 ((at_ + 6 : Nat) : Int)) WA (by exact addN_run (p := at_) (q := 6) (.tmp 73) (.const (.int .i64 6)) rfl (by kernel_rfl) rfl (by omega) _) ?_
          simp only [Act.put, List.setIfInBounds_toArray, List.set_cons_zero, List.set_cons_succ]
          refine wpList_runToG (by kernel_rfl) (some 75) rfl (.int .i64 (n : Int)) WA (by kernel_rfl) ?_
          simp only [Act.put, List.setIfInBounds_toArray, List.set_cons_zero, List.set_cons_succ]
          refine wpList_runToG (by kernel_rfl) (some 76) rfl (.int .i64 ((at_ + 6 + n : Nat) : Int)) WA (by exact addN_run (p := at_ + 6) (q := n) (.tmp 74) (.tmp 75) rfl (by kernel_rfl) (by kernel_rfl) (by omega) _) ?_
          simp only [Act.put, List.setIfInBounds_toArray, List.set_cons_zero, List.set_cons_succ]
          refine wpList_runToG (by kernel_rfl) (some 77) rfl (.slice (some ⟨vb, vo, none⟩) n0 vc) WA (by kernel_rfl) ?_
          simp only [Act.put, List.setIfInBounds_toArray, List.set_cons_zero, List.set_cons_succ]
          refine wpList_runToG (by kernel_rfl) (some 78) rfl (.int .i64 (n0 : Int)) WA (by kernel_rfl) ?_
          simp only [Act.put, List.setIfInBounds_toArray, List.set_cons_zero, List.set_cons_succ]
          refine wpList_runToG (by kernel_rfl) (some 79) rfl (.bool false) WA (by exact gtN_run (n := at_ + 6 + n) (k := n0) (.tmp 76) (.tmp 78) rfl (by kernel_rfl) (by kernel_rfl) (decide_eq_false (by omega)) _) ?_
          simp only [Act.put, List.setIfInBounds_toArray, List.set_cons_zero, List.set_cons_succ]
          refine wpList_runTo rfl (some 80) rfl (.bool false) WA (by kernel_rfl) ?_
          simp only [Act.put, List.setIfInBounds_toArray, List.set_cons_zero, List.set_cons_succ]
          refine wpList_nil ?_
          refine hK _ _ ?_
          clear hK
          go_upto_region 8 with fail
          rename_i K hK
          refine wp_region_lit ?_
          refine wpList_runTo rfl (some 81) rfl (.slice (some ⟨vb, vo, none⟩) n0 vc) WA (by kernel_rfl) ?_
          simp only [Act.put, List.setIfInBounds_toArray, List.set_cons_zero, List.set_cons_succ]
          refine wpList_runTo rfl (some 82) rfl (.int .i64 (at_ : Int)) WA (by kernel_rfl) ?_
          simp only [Act.put, List.setIfInBounds_toArray, List.set_cons_zero, List.set_cons_succ]
          refine wpList_runTo rfl (some 83) rfl (.int .i64 ((at_ + 6 : Nat) : Int)) WA (by exact addN_run (p := at_) (q := 6) (.tmp 82) (.const (.int .i64 6)) rfl (by kernel_rfl) rfl (by omega) _) ?_
          simp only [Act.put, List.setIfInBounds_toArray, List.set_cons_zero, List.set_cons_succ]
          refine wpList_runTo rfl (some 84) rfl (.int .i64 (at_ : Int)) WA (by kernel_rfl) ?_
          simp only [Act.put, List.setIfInBounds_toArray, List.set_cons_zero, List.set_cons_succ]
          refine wpList_runTo rfl (some 85) rfl (.int .i64 ((at_ + 6 : Nat) : Int)) WA (by exact addN_run (p := at_) (q := 6) (.tmp 84) (.const (.int .i64 6)) rfl (by kernel_rfl) rfl (by omega) _) ?_
          simp only [Act.put, List.setIfInBounds_toArray, List.set_cons_zero, List.set_cons_succ]
          refine wpList_runTo rfl (some 86) rfl (.int .i64 (n : Int)) WA (by kernel_rfl) ?_
          simp only [Act.put, List.setIfInBounds_toArray, List.set_cons_zero, List.set_cons_succ]
          refine wpList_runTo rfl (some 87) rfl (.int .i64 ((at_ + 6 + n : Nat) : Int)) WA (by exact addN_run (p := at_ + 6) (q := n) (.tmp 85) (.tmp 86) rfl (by kernel_rfl) (by kernel_rfl) (by omega) _) ?_
          simp only [Act.put, List.setIfInBounds_toArray, List.set_cons_zero, List.set_cons_succ]
          refine wpList_runTo rfl (some 88) rfl (cutV (.slice (some ⟨vb, vo, none⟩) n0 vc) (at_ + 6) (at_ + 6 + n) vc) WA (by exact sliceB_run (.tmp 81) (.tmp 83) (.tmp 87) rfl (by kernel_rfl) (by kernel_rfl) (by kernel_rfl) (by omega) (by omega) _) ?_
          simp only [Act.put, List.setIfInBounds_toArray, List.set_cons_zero, List.set_cons_succ]
          have hcc := HR1.out.by'.cut (lo := at_ + 6) (hi := at_ + 6 + n) (mx := vc) (by omega) (by rw [← HN0.out]; exact hna) (by omega) (Nat.le_refl _)
          have hce : (l.drop (at_ + 6)).take (at_ + 6 + n - (at_ + 6)) = cmdL n (l.drop at_) := by rw [cmdL_eq, List.drop_drop]; congr 1; omega
          rw [hce] at hcc
          have HCl : Hid ((cmdL n (l.drop at_)).length = n) := by
            show (cmdL n (l.drop at_)).length = n
            rw [← hce, List.length_take, List.length_drop, ← HN0.out]; omega
          have HCut : Hid (∀ W, By W (.slice (some ⟨vb, vo, none⟩) n0 vc) l → By W (cutV (.slice (some ⟨vb, vo, none⟩) n0 vc) at_ (at_ + 6 + n) vc) ((l.drop at_).take (6 + n))) := fun W hW => by
            have := hW.cut (lo := at_) (hi := at_ + 6 + n) (mx := vc) (by omega) (by rw [← HN0.out]; exact hna) (by omega) (Nat.le_refl _)
            rw [show at_ + 6 + n - at_ = 6 + n by omega] at this
            exact this
          clear hce
          generalize cutV (.slice (some ⟨vb, vo, none⟩) n0 vc) (at_ + 6) (at_ + 6 + n) vc = cv at *
          refine wpList_runTo rfl (some 8) rfl (cv) WA (by kernel_rfl) ?_
          simp only [Act.put, List.setIfInBounds_toArray, List.set_cons_zero, List.set_cons_succ]
          refine wpList_nil ?_
          refine hK _ _ ?_
          clear hK
          have HCv : Hid (By WA cv (cmdL n (l.drop at_))) := hcc
          have hdec := refDecode_any hcc (by rw [HCl.out]; omega)
          clear hcc
          obtain ⟨hi_, hhi⟩ : ∃ hi_, hi_ = at_ + 6 + n := ⟨_, rfl⟩
          have HHi : Hid (hi_ = at_ + 6 + n) := hhi
          have hhn : hi_ ≤ n0 := by omega
          rw [← hhi]
          rw [← hhi] at HCut
          clear hhi hna
          cases hd : dec (cmdL n (l.drop at_)) with
          | error p =>
            rw [hd] at hdec
            have HNo : Hid (∀ m, ¬ FrOk L.length (l.drop at_) m) := fun m hm => by
              have e := HLen.out m hm
              subst e
              have := hm.dc
              rw [hd] at this
              cases this
            clear hd HLen HCut HCl
            go_upto_region 9 with fail
            rename_i K hK
            refine wp_region_lit ?_
            refine wpList_runTo rfl (some 90) rfl (cv) WA (by kernel_rfl) ?_
            simp only [Act.put, List.setIfInBounds_toArray, List.set_cons_zero, List.set_cons_succ]
            refine wpList_callW rfl (some 91) rfl 19 #[cv] (by kernel_rfl) hdec ?_
            clear hdec
            rintro e W2 ⟨rfl, hx⟩
            refine ⟨_, rfl, ?_⟩
            simp only [Act.put, List.setIfInBounds_toArray, List.set_cons_zero, List.set_cons_succ]
            refine wpList_runTo rfl (some 89) rfl (.tuple #[.agg zeroC.cs, .int .i64 (p : Int), .int .i64 180]) W2 (by kernel_rfl) ?_
            simp only [Act.put, List.setIfInBounds_toArray, List.set_cons_zero, List.set_cons_succ]
            refine wpList_runTo rfl (some 92) rfl (.agg zeroC.cs) W2 (by kernel_rfl) ?_
            simp only [Act.put, List.setIfInBounds_toArray, List.set_cons_zero, List.set_cons_succ]
            refine wpList_runTo rfl (some 93) rfl (.int .i64 (p : Int)) W2 (by kernel_rfl) ?_
            simp only [Act.put, List.setIfInBounds_toArray, List.set_cons_zero, List.set_cons_succ]
            refine wpList_runTo rfl (some 94) rfl (.int .i64 180) W2 (by kernel_rfl) ?_
            simp only [Act.put, List.setIfInBounds_toArray, List.set_cons_zero, List.set_cons_succ]
            refine wpList_runTo rfl (some 9) rfl (.pointer (some ⟨W2.heap.size, 0, none⟩)) (W2.alloc (.cells zeroC.cs 27)) (by kernel_rfl) ?_
            simp only [Act.put, List.setIfInBounds_toArray, List.set_cons_zero, List.set_cons_succ]
            refine store_cmd (c := zeroC) (c' := zeroC) (Blk.new W2 _ _) (.tmp 9) (.tmp 92) rfl rfl (by kernel_rfl) (by kernel_rfl) ?_
            simp only [Act.put, List.setIfInBounds_toArray, List.set_cons_zero, List.set_cons_succ]
            have HR2 : Hid (RO w ((W2.alloc (.cells zeroC.cs 27)).setRow W2.heap.size zeroC.cs).drew (.slice (some ⟨vb, vo, none⟩) n0 vc) l g lv L at_) := ((HR1.out.below hx.out).below new_set.1).below ⟨rfl, rfl, rfl, Nat.le_refl _, fun _ _ => rfl⟩
            clear hx HR1 HCv
            generalize (W2.alloc (.cells zeroC.cs 27)).setRow W2.heap.size zeroC.cs = W3 at *
            generalize W2.heap.size = pc at *
            refine wpList_runTo rfl (some 10) rfl (.int .i64 (p : Int)) W3 (by kernel_rfl) ?_
            simp only [Act.put, List.setIfInBounds_toArray, List.set_cons_zero, List.set_cons_succ]
            refine wpList_runTo rfl (some 11) rfl (.int .i64 180) W3 (by kernel_rfl) ?_
            simp only [Act.put, List.setIfInBounds_toArray, List.set_cons_zero, List.set_cons_succ]
            refine wpList_nil ?_
            refine hK _ _ ?_
            clear hK
            generalize zeroC.cs = zc
            go_upto_region 10 with fail
            refine wp_region_held (S := fun _ => True) (by kernel_rfl) ?_
            change wpAnyH _ _ _ _ _ _ _ _ (World.drew _)
            generalize W3.drew = W4 at *
            have hS : True := trivial
            refine takeR (i := 0) (v := .int .i64 180) (some 95) rfl rfl (by kernel_rfl) (by kernel_rfl) (by kernel_rfl) (fun _ _ _ h => h) (Or.inl ⟨by kernel_rfl, fun w' hSw => by kernel_rfl⟩) hS ?_
            simp only [Act.put, List.setIfInBounds_toArray, List.set_cons_zero, List.set_cons_succ]
            refine takeR (i := 1) (v := .bool true) (some 96) rfl rfl (by kernel_rfl) (by kernel_rfl) (by kernel_rfl) (fun _ _ _ h => h) (Or.inl ⟨by kernel_rfl, fun w' hSw => by kernel_rfl⟩) hS ?_
            simp only [Act.put, List.setIfInBounds_toArray, List.set_cons_zero, List.set_cons_succ]
            refine takeR (i := 2) (v := .bool true) (some 97) rfl rfl (by kernel_rfl) (by kernel_rfl) (by kernel_rfl) (fun _ _ _ h => h) (Or.inl ⟨by kernel_rfl, fun w' hSw => by kernel_rfl⟩) hS ?_
            simp only [Act.put, List.setIfInBounds_toArray, List.set_cons_zero, List.set_cons_succ]
            refine takeR (i := 3) (v := undef) (some 98) rfl rfl (by kernel_rfl) (by kernel_rfl) (by kernel_rfl) (fun _ _ _ h => h) (Or.inr ⟨by kernel_rfl, rfl⟩) hS ?_
            simp only [Act.put, List.setIfInBounds_toArray, List.set_cons_zero, List.set_cons_succ]
            refine takeR (i := 4) (v := undef) (some 99) rfl rfl (by kernel_rfl) (by kernel_rfl) (by kernel_rfl) (fun _ _ _ h => h) (Or.inr ⟨by kernel_rfl, rfl⟩) hS ?_
            simp only [Act.put, List.setIfInBounds_toArray, List.set_cons_zero, List.set_cons_succ]
            refine takeR (i := 5) (v := undef) (some 100) rfl rfl (by kernel_rfl) (by kernel_rfl) (by kernel_rfl) (fun _ _ _ h => h) (Or.inr ⟨by kernel_rfl, rfl⟩) hS ?_
            simp only [Act.put, List.setIfInBounds_toArray, List.set_cons_zero, List.set_cons_succ]
            refine takeR (i := 6) (v := undef) (some 101) rfl rfl (by kernel_rfl) (by kernel_rfl) (by kernel_rfl) (fun _ _ _ h => h) (Or.inr ⟨by kernel_rfl, rfl⟩) hS ?_
            simp only [Act.put, List.setIfInBounds_toArray, List.set_cons_zero, List.set_cons_succ]
            refine takeR (i := 7) (v := undef) (some 102) rfl rfl (by kernel_rfl) (by kernel_rfl) (by kernel_rfl) (fun _ _ _ h => h) (Or.inr ⟨by kernel_rfl, rfl⟩) hS ?_
            simp only [Act.put, List.setIfInBounds_toArray, List.set_cons_zero, List.set_cons_succ]
            refine takeR (i := 8) (v := undef) (some 103) rfl rfl (by kernel_rfl) (by kernel_rfl) (by kernel_rfl) (fun _ _ _ h => h) (Or.inr ⟨by kernel_rfl, rfl⟩) hS ?_
            simp only [Act.put, List.setIfInBounds_toArray, List.set_cons_zero, List.set_cons_succ]
            refine takeR (i := 9) (v := undef) (some 104) rfl rfl (by kernel_rfl) (by kernel_rfl) (by kernel_rfl) (fun _ _ _ h => h) (Or.inr ⟨by kernel_rfl, rfl⟩) hS ?_
            simp only [Act.put, List.setIfInBounds_toArray, List.set_cons_zero, List.set_cons_succ]
            refine takeR (i := 10) (v := undef) (some 105) rfl rfl (by kernel_rfl) (by kernel_rfl) (by kernel_rfl) (fun _ _ _ h => h) (Or.inr ⟨by kernel_rfl, rfl⟩) hS ?_
            simp only [Act.put, List.setIfInBounds_toArray, List.set_cons_zero, List.set_cons_succ]
            refine takeR (i := 11) (v := undef) (some 106) rfl rfl (by kernel_rfl) (by kernel_rfl) (by kernel_rfl) (fun _ _ _ h => h) (Or.inr ⟨by kernel_rfl, rfl⟩) hS ?_
            simp only [Act.put, List.setIfInBounds_toArray, List.set_cons_zero, List.set_cons_succ]
            refine takeR (i := 12) (v := undef) (some 107) rfl rfl (by kernel_rfl) (by kernel_rfl) (by kernel_rfl) (fun _ _ _ h => h) (Or.inr ⟨by kernel_rfl, rfl⟩) hS ?_
            simp only [Act.put, List.setIfInBounds_toArray, List.set_cons_zero, List.set_cons_succ]
            refine takeR (i := 13) (v := undef) (some 108) rfl rfl (by kernel_rfl) (by kernel_rfl) (by kernel_rfl) (fun _ _ _ h => h) (Or.inr ⟨by kernel_rfl, rfl⟩) hS ?_
            simp only [Act.put, List.setIfInBounds_toArray, List.set_cons_zero, List.set_cons_succ]
            refine takeR (i := 14) (v := undef) (some 109) rfl rfl (by kernel_rfl) (by kernel_rfl) (by kernel_rfl) (fun _ _ _ h => h) (Or.inr ⟨by kernel_rfl, rfl⟩) hS ?_
            simp only [Act.put, List.setIfInBounds_toArray, List.set_cons_zero, List.set_cons_succ]
            refine takeR (i := 15) (v := undef) (some 110) rfl rfl (by kernel_rfl) (by kernel_rfl) (by kernel_rfl) (fun _ _ _ h => h) (Or.inr ⟨by kernel_rfl, rfl⟩) hS ?_
            simp only [Act.put, List.setIfInBounds_toArray, List.set_cons_zero, List.set_cons_succ]
            refine takeR (i := 16) (v := undef) (some 111) rfl rfl (by kernel_rfl) (by kernel_rfl) (by kernel_rfl) (fun _ _ _ h => h) (Or.inr ⟨by kernel_rfl, rfl⟩) hS ?_
            simp only [Act.put, List.setIfInBounds_toArray, List.set_cons_zero, List.set_cons_succ]
            refine takeR (i := 17) (v := undef) (some 112) rfl rfl (by kernel_rfl) (by kernel_rfl) (by kernel_rfl) (fun _ _ _ h => h) (Or.inr ⟨by kernel_rfl, rfl⟩) hS ?_
            simp only [Act.put, List.setIfInBounds_toArray, List.set_cons_zero, List.set_cons_succ]
            refine takeR (i := 18) (v := undef) (some 113) rfl rfl (by kernel_rfl) (by kernel_rfl) (by kernel_rfl) (fun _ _ _ h => h) (Or.inr ⟨by kernel_rfl, rfl⟩) hS ?_
            simp only [Act.put, List.setIfInBounds_toArray, List.set_cons_zero, List.set_cons_succ]
            refine takeR (i := 19) (v := undef) (some 114) rfl rfl (by kernel_rfl) (by kernel_rfl) (by kernel_rfl) (fun _ _ _ h => h) (Or.inr ⟨by kernel_rfl, rfl⟩) hS ?_
            simp only [Act.put, List.setIfInBounds_toArray, List.set_cons_zero, List.set_cons_succ]
            refine takeR (i := 20) (v := .bool true) (some 115) rfl rfl (by kernel_rfl) (by kernel_rfl) (by kernel_rfl) (fun _ _ _ h => h) (Or.inl ⟨by kernel_rfl, fun w' hSw => by kernel_rfl⟩) hS ?_
            simp only [Act.put, List.setIfInBounds_toArray, List.set_cons_zero, List.set_cons_succ]
            refine wpAnyH_done (by kernel_rfl) ?_ _
            clear hS
            go_wp2
            go_ret3
            exact HR2.out.done (.inr HNo.out) rfl
          | ok c =>
            rw [hd] at hdec
            have HD : Hid (dec (cmdL n (l.drop at_)) = .ok c) := hd
            clear hd
            go_upto_region 9 with fail
            rename_i K hK
            refine wp_region_lit ?_
            refine wpList_runTo rfl (some 90) rfl (cv) WA (by kernel_rfl) ?_
            simp only [Act.put, List.setIfInBounds_toArray, List.set_cons_zero, List.set_cons_succ]
            refine wpList_callW rfl (some 91) rfl 19 #[cv] (by kernel_rfl) hdec ?_
            clear hdec
            rintro e W2 ⟨rfl, hx⟩
            refine ⟨_, rfl, ?_⟩
            simp only [Act.put, List.setIfInBounds_toArray, List.set_cons_zero, List.set_cons_succ]
            refine wpList_runTo rfl (some 89) rfl (.tuple #[.agg c.cs, .int .i64 0, .int .i64 0]) W2 (by kernel_rfl) ?_
            simp only [Act.put, List.setIfInBounds_toArray, List.set_cons_zero, List.set_cons_succ]
            refine wpList_runTo rfl (some 92) rfl (.agg c.cs) W2 (by kernel_rfl) ?_
            simp only [Act.put, List.setIfInBounds_toArray, List.set_cons_zero, List.set_cons_succ]
            refine wpList_runTo rfl (some 93) rfl (.int .i64 0) W2 (by kernel_rfl) ?_
            simp only [Act.put, List.setIfInBounds_toArray, List.set_cons_zero, List.set_cons_succ]
            refine wpList_runTo rfl (some 94) rfl (.int .i64 0) W2 (by kernel_rfl) ?_
            simp only [Act.put, List.setIfInBounds_toArray, List.set_cons_zero, List.set_cons_succ]
            refine wpList_runTo rfl (some 9) rfl (.pointer (some ⟨W2.heap.size, 0, none⟩)) (W2.alloc (.cells zeroC.cs 27)) (by kernel_rfl) ?_
            simp only [Act.put, List.setIfInBounds_toArray, List.set_cons_zero, List.set_cons_succ]
            refine store_cmd (c := c) (c' := zeroC) (Blk.new W2 _ _) (.tmp 9) (.tmp 92) rfl rfl (by kernel_rfl) (by kernel_rfl) ?_
            simp only [Act.put, List.setIfInBounds_toArray, List.set_cons_zero, List.set_cons_succ]
            have hdr : Below ((W2.alloc (.cells zeroC.cs 27)).setRow W2.heap.size c.cs).heap.size ((W2.alloc (.cells zeroC.cs 27)).setRow W2.heap.size c.cs) ((W2.alloc (.cells zeroC.cs 27)).setRow W2.heap.size c.cs).drew := ⟨rfl, rfl, rfl, Nat.le_refl _, fun _ _ => rfl⟩
            have HR2 : Hid (RO w ((W2.alloc (.cells zeroC.cs 27)).setRow W2.heap.size c.cs).drew (.slice (some ⟨vb, vo, none⟩) n0 vc) l g lv L at_ ∧ By ((W2.alloc (.cells zeroC.cs 27)).setRow W2.heap.size c.cs).drew cv (cmdL n (l.drop at_)) ∧ Blk ((W2.alloc (.cells zeroC.cs 27)).setRow W2.heap.size c.cs).drew W2.heap.size 27 c.cs ∧ w.heap.size ≤ W2.heap.size ∧ lv.ownBlock ≠ some W2.heap.size) := ⟨((HR1.out.below hx.out).below new_set.1).below hdr, ((HCv.out.below hx.out).below new_set.1).below hdr, new_set.2.below hdr new_set.2.lt, (HR1.out.below hx.out).bel.size, fun e => by have := ((HR1.out.below hx.out).rt.row.lt e).1; omega⟩
            clear hx HR1 HCv hdr
            generalize (W2.alloc (.cells zeroC.cs 27)).setRow W2.heap.size c.cs = W3 at *
            generalize W2.heap.size = pc at *
            refine wpList_runTo rfl (some 10) rfl (.int .i64 0) W3 (by kernel_rfl) ?_
            simp only [Act.put, List.setIfInBounds_toArray, List.set_cons_zero, List.set_cons_succ]
            refine wpList_runTo rfl (some 11) rfl (.int .i64 0) W3 (by kernel_rfl) ?_
            simp only [Act.put, List.setIfInBounds_toArray, List.set_cons_zero, List.set_cons_succ]
            refine wpList_nil ?_
            refine hK _ _ ?_
            clear hK
            generalize c.cs = cc0
            go_upto_region 10 with fail
            refine wp_region_held (S := fun w' => w'.cell? ⟨g, 0, none⟩ = some (.slice la L.length lc) ∧ By w' (cutV (.slice (some ⟨vb, vo, none⟩) n0 vc) at_ hi_ vc) ((l.drop at_).take (6 + n))) (by kernel_rfl) ?_
            change wpAnyH _ _ _ _ _ _ _ _ (World.drew _)
            generalize W3.drew = W4 at *
            have hS : W4.cell? ⟨g, 0, none⟩ = some (.slice la L.length lc) ∧ By W4 (cutV (.slice (some ⟨vb, vo, none⟩) n0 vc) at_ hi_ vc) ((l.drop at_).take (6 + n)) := ⟨by rw [← hlf]; exact HR2.out.1.rt.blk.cell 0, HCut.out W4 HR2.out.1.by'⟩
            have hrc := refRecord_any HR2.out.2.1 (by rw [HCl.out]; omega) L.length (by omega)
            refine takeR (i := 0) (v := .int .i64 0) (some 95) rfl rfl (by kernel_rfl) (by kernel_rfl) (by kernel_rfl) (fun _ _ _ h => h) (Or.inl ⟨by kernel_rfl, fun w' hSw => by kernel_rfl⟩) hS ?_
            simp only [Act.put, List.setIfInBounds_toArray, List.set_cons_zero, List.set_cons_succ]
            refine takeR (i := 1) (v := .bool false) (some 96) rfl rfl (by kernel_rfl) (by kernel_rfl) (by kernel_rfl) (fun _ _ _ h => h) (Or.inl ⟨by kernel_rfl, fun w' hSw => by kernel_rfl⟩) hS ?_
            simp only [Act.put, List.setIfInBounds_toArray, List.set_cons_zero, List.set_cons_succ]
            refine takeR (i := 2) (v := .bool false) (some 97) rfl rfl (by kernel_rfl) (by kernel_rfl) (by kernel_rfl) (fun _ _ _ h => h) (Or.inl ⟨by kernel_rfl, fun w' hSw => by kernel_rfl⟩) hS ?_
            simp only [Act.put, List.setIfInBounds_toArray, List.set_cons_zero, List.set_cons_succ]
            refine takeR (i := 3) (v := .pointer (some ⟨g, 0, none⟩)) (some 98) rfl rfl (by kernel_rfl) (by kernel_rfl) (by kernel_rfl) (fun _ _ _ h => h) (Or.inl ⟨by kernel_rfl, fun w' hSw => by kernel_rfl⟩) hS ?_
            simp only [Act.put, List.setIfInBounds_toArray, List.set_cons_zero, List.set_cons_succ]
            refine takeR (i := 4) (v := .pointer (some ⟨g, 0, none⟩)) (some 99) rfl rfl (by kernel_rfl) (by kernel_rfl) (by kernel_rfl) (fun _ _ _ h => h) (Or.inl ⟨by kernel_rfl, fun w' hSw => by kernel_rfl⟩) hS ?_
            simp only [Act.put, List.setIfInBounds_toArray, List.set_cons_zero, List.set_cons_succ]
            refine takeR (i := 5) (v := .pointer (some ⟨g, 0, none⟩)) (some 100) rfl rfl (by kernel_rfl) (by kernel_rfl) (by kernel_rfl) (fun _ _ _ h => h) (Or.inl ⟨by kernel_rfl, fun w' hSw => by kernel_rfl⟩) hS ?_
            simp only [Act.put, List.setIfInBounds_toArray, List.set_cons_zero, List.set_cons_succ]
            refine takeR (i := 6) (v := .slice la L.length lc) (some 101) rfl rfl (by kernel_rfl) (by kernel_rfl) (by kernel_rfl) (fun _ _ _ h => h) (Or.inl ⟨by kernel_rfl, fun w' hSw => by have q0 := hSw.1; clear hSw; go_simp⟩) hS ?_
            simp only [Act.put, List.setIfInBounds_toArray, List.set_cons_zero, List.set_cons_succ]
            refine takeR (i := 7) (v := .int .i64 (L.length : Int)) (some 102) rfl rfl (by kernel_rfl) (by kernel_rfl) (by kernel_rfl) (fun _ _ _ h => h) (Or.inl ⟨by kernel_rfl, fun w' hSw => by kernel_rfl⟩) hS ?_
            simp only [Act.put, List.setIfInBounds_toArray, List.set_cons_zero, List.set_cons_succ]
            refine takeR (i := 8) (v := cv) (some 103) rfl rfl (by kernel_rfl) (by kernel_rfl) (by kernel_rfl) (fun _ _ _ h => h) (Or.inl ⟨by kernel_rfl, fun w' hSw => by kernel_rfl⟩) hS ?_
            simp only [Act.put, List.setIfInBounds_toArray, List.set_cons_zero, List.set_cons_succ]
            refine takeR (i := 11) (v := .slice (some ⟨vb, vo, none⟩) n0 vc) (some 106) rfl rfl (by kernel_rfl) (by kernel_rfl) (by kernel_rfl) (fun _ _ _ h => h) (Or.inl ⟨by kernel_rfl, fun w' hSw => by kernel_rfl⟩) hS ?_
            simp only [Act.put, List.setIfInBounds_toArray, List.set_cons_zero, List.set_cons_succ]
            refine takeR (i := 12) (v := .int .i64 (at_ : Int)) (some 107) rfl rfl (by kernel_rfl) (by kernel_rfl) (by kernel_rfl) (fun _ _ _ h => h) (Or.inl ⟨by kernel_rfl, fun w' hSw => by kernel_rfl⟩) hS ?_
            simp only [Act.put, List.setIfInBounds_toArray, List.set_cons_zero, List.set_cons_succ]
            refine takeR (i := 13) (v := .int .i64 (at_ : Int)) (some 108) rfl rfl (by kernel_rfl) (by kernel_rfl) (by kernel_rfl) (fun _ _ _ h => h) (Or.inl ⟨by kernel_rfl, fun w' hSw => by kernel_rfl⟩) hS ?_
            simp only [Act.put, List.setIfInBounds_toArray, List.set_cons_zero, List.set_cons_succ]
            refine takeR (i := 14) (v := .int .i64 ((at_ + 6 : Nat) : Int)) (some 109) rfl rfl (by kernel_rfl) (by kernel_rfl) (by kernel_rfl) (fun _ _ _ h => h) (Or.inl ⟨by kernel_rfl, fun w' hSw => by exact addN_run (p := at_) (q := 6) (.tmp 108) (.const (.int .i64 6)) rfl (by kernel_rfl) rfl (by omega) _⟩) hS ?_
            simp only [Act.put, List.setIfInBounds_toArray, List.set_cons_zero, List.set_cons_succ]
            refine takeR (i := 15) (v := .int .i64 (n : Int)) (some 110) rfl rfl (by kernel_rfl) (by kernel_rfl) (by kernel_rfl) (fun _ _ _ h => h) (Or.inl ⟨by kernel_rfl, fun w' hSw => by kernel_rfl⟩) hS ?_
            simp only [Act.put, List.setIfInBounds_toArray, List.set_cons_zero, List.set_cons_succ]
            refine takeR (i := 16) (v := .int .i64 (hi_ : Int)) (some 111) rfl rfl (by kernel_rfl) (by kernel_rfl) (by kernel_rfl) (fun _ _ _ h => h) (Or.inl ⟨by kernel_rfl, fun w' hSw => by rw [HHi.out]; exact addN_run (p := at_ + 6) (q := n) (.tmp 109) (.tmp 110) rfl (by kernel_rfl) (by kernel_rfl) (by omega) _⟩) hS ?_
            simp only [Act.put, List.setIfInBounds_toArray, List.set_cons_zero, List.set_cons_succ]
            refine takeR (i := 17) (v := cutV (.slice (some ⟨vb, vo, none⟩) n0 vc) at_ hi_ vc) (some 112) rfl rfl (by kernel_rfl) (by kernel_rfl) (by kernel_rfl) (fun _ _ _ h => h) (Or.inl ⟨by kernel_rfl, fun w' hSw => by exact sliceB_run (.tmp 106) (.tmp 107) (.tmp 111) rfl (by kernel_rfl) (by kernel_rfl) (by kernel_rfl) (by have := HHi.out; omega) (by omega) _⟩) hS ?_
            simp only [Act.put, List.setIfInBounds_toArray, List.set_cons_zero, List.set_cons_succ]
            refine takeR (i := 18) (v := .string (ofN ((l.drop at_).take (6 + n)))) (some 113) rfl rfl (by kernel_rfl) (by kernel_rfl) (by kernel_rfl) (fun _ _ _ h => h) (Or.inl ⟨by kernel_rfl, fun w' hSw => by exact conv_run (.tmp 112) rfl (by kernel_rfl) hSw.2⟩) hS ?_
            simp only [Act.put, List.setIfInBounds_toArray, List.set_cons_zero, List.set_cons_succ]
            refine wpAnyH_ready (rs := [9]) (by kernel_rfl) (by simp) ?_
            refine AllReadyH.cons rfl (fun K1 hK1 => ?_) AllReadyH.nil
            rw [if_pos (by kernel_rfl)]
            refine callR (d := some 104) rfl 42 #[.int .i64 (L.length : Int), cv] (by kernel_rfl) hrc ?_
            rintro e W5 ⟨v5, rfl, hx5⟩
            refine ⟨_, rfl, ?_⟩
            have hbb1 : BB ((l.drop at_).take (6 + n)) := hS.2.bb
            have hbb2 : BB (recL L.length (cmdL n (l.drop at_))) := hx5.out.bb
            have HR5 : Hid (RO w W5 (.slice (some ⟨vb, vo, none⟩) n0 vc) l g lv L at_ ∧ Blk W5 pc 27 c.cs ∧ w.heap.size ≤ pc ∧ lv.ownBlock ≠ some pc) := ⟨HR2.out.1.below hx5.out.bel, HR2.out.2.2.1.below hx5.out.bel HR2.out.2.2.1.lt, HR2.out.2.2.2⟩
            have hS5 : W5.cell? ⟨g, 0, none⟩ = some (.slice la L.length lc) ∧ By W5 (cutV (.slice (some ⟨vb, vo, none⟩) n0 vc) at_ hi_ vc) ((l.drop at_).take (6 + n)) := ⟨by rw [← hlf]; exact HR5.out.1.rt.blk.cell 0, HCut.out W5 HR5.out.1.by'⟩
            have hy5 := hx5.out.by'
            clear hx5 hrc HR2 hS
            refine hK1.out _ _ hS5 (fun _ => ?_)
            clear hK1
            simp only [Act.put, List.setIfInBounds_toArray, List.set_cons_zero, List.set_cons_succ]
            refine wpAnyH_ready (rs := [10]) (by kernel_rfl) (by simp) ?_
            refine AllReadyH.cons rfl (fun K1 hK1 => ?_) AllReadyH.nil
            rw [if_pos (by kernel_rfl)]
            refine valR (d := some 105) rfl (.string (ofN (recL L.length (cmdL n (l.drop at_))))) (conv_run (.tmp 104) rfl (by kernel_rfl) hy5) ?_
            refine hK1.out _ _ hS5 (fun _ => ?_)
            clear hK1 hy5
            simp only [Act.put, List.setIfInBounds_toArray, List.set_cons_zero, List.set_cons_succ]
            by_cases hrec : (l.drop at_).take (6 + n) = recL L.length (cmdL n (l.drop at_))
            · skip
              have HFr : Hid (FrOk L.length (l.drop at_) n) := ⟨by rw [List.length_drop, ← HN0.out]; omega, HG.out, hn1, hn6, by rw [List.length_drop, ← HN0.out]; have := HHi.out; omega, hrec, by rw [HD.out]; rfl⟩
              refine takeR (i := 19) (v := .bool false) (some 114) rfl rfl (by kernel_rfl) (by kernel_rfl) (by kernel_rfl) (fun _ _ _ h => h) (Or.inl ⟨by kernel_rfl, fun w' hSw => by exact neS_run (s := ofN (recL L.length (cmdL n (l.drop at_)))) (t := ofN ((l.drop at_).take (6 + n))) (.tmp 105) (.tmp 113) rfl (by kernel_rfl) (by kernel_rfl) (by rw [hrec]) _⟩) hS5 ?_
              simp only [Act.put, List.setIfInBounds_toArray, List.set_cons_zero, List.set_cons_succ]
              refine takeR (i := 20) (v := .bool false) (some 115) rfl rfl (by kernel_rfl) (by kernel_rfl) (by kernel_rfl) (fun _ _ _ h => h) (Or.inl ⟨by kernel_rfl, fun w' hSw => by kernel_rfl⟩) hS5 ?_
              simp only [Act.put, List.setIfInBounds_toArray, List.set_cons_zero, List.set_cons_succ]
              refine wpAnyH_done (by kernel_rfl) ?_ _
              clear hS5 hrec hbb1 hbb2
              generalize cutV (.slice (some ⟨vb, vo, none⟩) n0 vc) at_ hi_ vc = cv2
              generalize ofN (recL L.length (cmdL n (l.drop at_))) = s1
              generalize ofN ((l.drop at_).take (6 + n)) = s2
              generalize at_ + 6 = at7
              obtain ⟨nL, hnL⟩ : ∃ nL, nL = L.length := ⟨_, rfl⟩
              rw [← hnL] at hlf ⊢
              have HnL : Hid (nL = L.length) := hnL
              clear hnL
              go_upto_region 11 with fail
              rename_i K hK
              have hdr : Below W5.heap.size W5 W5.drew := ⟨rfl, rfl, rfl, Nat.le_refl _, fun _ _ => rfl⟩
              have HZ : Hid (RO w W5.drew (.slice (some ⟨vb, vo, none⟩) n0 vc) l g lv L at_ ∧ Blk W5.drew pc 27 c.cs ∧ w.heap.size ≤ pc ∧ lv.ownBlock ≠ some pc) := ⟨HR5.out.1.below hdr, HR5.out.2.1.below hdr HR5.out.2.1.lt, HR5.out.2.2⟩
              clear hdr HR5
              refine wp_region_late (fun w' => w'.cell? ⟨g, 0, none⟩ = some lv ∧ Blk w' pc 27 c.cs) 10 (by kernel_rfl) ?_
              intro hCl
              generalize W5.drew = Z at *
              change wpAnyL _ _ _ _ _ _ 11 _ _ _
              have hS : Z.cell? ⟨g, 0, none⟩ = some lv ∧ Blk Z pc 27 c.cs := ⟨HZ.out.1.rt.blk.cell 0, HZ.out.2.1⟩
              refine takeL (i := 0) (v := .pointer (some ⟨g, 0, none⟩)) 10 (some 116) rfl rfl (by kernel_rfl) (by kernel_rfl) (by kernel_rfl) (by kernel_rfl) hCl (fun _ _ _ h => h) (Or.inl ⟨by kernel_rfl, fun w' hSw => by kernel_rfl⟩) hS ?_
              clear hCl
              intro hCl
              simp only [Act.put, List.setIfInBounds_toArray, List.set_cons_zero, List.set_cons_succ]
              refine takeL (i := 1) (v := .pointer (some ⟨g, 0, none⟩)) 10 (some 117) rfl rfl (by kernel_rfl) (by kernel_rfl) (by kernel_rfl) (by kernel_rfl) hCl (fun _ _ _ h => h) (Or.inl ⟨by kernel_rfl, fun w' hSw => by kernel_rfl⟩) hS ?_
              clear hCl
              intro hCl
              simp only [Act.put, List.setIfInBounds_toArray, List.set_cons_zero, List.set_cons_succ]
              refine takeL (i := 2) (v := .pointer (some ⟨g, 0, none⟩)) 10 (some 118) rfl rfl (by kernel_rfl) (by kernel_rfl) (by kernel_rfl) (by kernel_rfl) hCl (fun _ _ _ h => h) (Or.inl ⟨by kernel_rfl, fun w' hSw => by kernel_rfl⟩) hS ?_
              clear hCl
              intro hCl
              simp only [Act.put, List.setIfInBounds_toArray, List.set_cons_zero, List.set_cons_succ]
              refine takeL (i := 3) (v := .pointer (some ⟨g, 0, none⟩)) 10 (some 119) rfl rfl (by kernel_rfl) (by kernel_rfl) (by kernel_rfl) (by kernel_rfl) hCl (fun _ _ _ h => h) (Or.inl ⟨by kernel_rfl, fun w' hSw => by kernel_rfl⟩) hS ?_
              clear hCl
              intro hCl
              simp only [Act.put, List.setIfInBounds_toArray, List.set_cons_zero, List.set_cons_succ]
              refine takeL (i := 4) (v := lv) 10 (some 120) rfl rfl (by kernel_rfl) (by kernel_rfl) (by kernel_rfl) (by kernel_rfl) hCl (fun _ _ _ h => h) (Or.inl ⟨by kernel_rfl, fun w' hSw => by have q0 := hSw.1; clear hSw; rw [hlf] at q0 ⊢; go_simp⟩) hS ?_
              clear hCl
              intro hCl
              simp only [Act.put, List.setIfInBounds_toArray, List.set_cons_zero, List.set_cons_succ]
              refine takeL (i := 5) (v := .agg c.cs) 10 (some 121) rfl rfl (by kernel_rfl) (by kernel_rfl) (by kernel_rfl) (by kernel_rfl) hCl (fun _ _ _ h => h) (Or.inl ⟨by kernel_rfl, fun w' hSw => by exact ldC_run (blk_rng hSw.2) (.tmp 9) rfl (by kernel_rfl)⟩) hS ?_
              clear hCl
              intro hCl
              simp only [Act.put, List.setIfInBounds_toArray, List.set_cons_zero, List.set_cons_succ]
              refine oneL (i := 6) rfl (by kernel_rfl) hCl (by kernel_rfl) (fun K1 hK1 => ?_)
              refine valR (d := some 122) rfl (w' := Z.alloc (.cells c.cs 27)) (.slice (some ⟨Z.heap.size, 0, none⟩) 1 1) (by kernel_rfl) ?_
              have hal : Below Z.heap.size Z (Z.alloc (.cells c.cs 27)) := (Below.refl _ Z).alloc (Nat.le_refl _) _
              have HZ2 : Hid (RO w (Z.alloc (.cells c.cs 27)) (.slice (some ⟨vb, vo, none⟩) n0 vc) l g lv L at_ ∧ Blk (Z.alloc (.cells c.cs 27)) pc 27 c.cs ∧ (Z.alloc (.cells c.cs 27)).rangeAt Z.heap.size 0 c.cs.toList) := ⟨HZ.out.1.below hal, HZ.out.2.1.below hal HZ.out.2.1.lt, blk_rng (Blk.new Z 27 c.cs)⟩
              have hpcn : lv.ownBlock ≠ some pc := HZ.out.2.2.2
              refine hK1.out _ _ (fun _ => ⟨HZ2.out.1.rt.blk.cell 0, HZ2.out.2.1⟩) ?_
              clear hK1 hCl hS HZ hal
              intro hCl
              simp only [Act.put, List.setIfInBounds_toArray, List.set_cons_zero, List.set_cons_succ]
              generalize Z.alloc (.cells c.cs 27) = Z2 at *
              generalize Z.heap.size = zb at *
              obtain ⟨nv, Y2, hr, hrow, hfr, hob⟩ := HZ2.out.1.rt.app (by omega) HZ2.out.2.2 38
              have hgb : lv.ownBlock ≠ some g := HZ2.out.1.rt.row.ne_type HZ2.out.1.rt.blk (by decide)
              have HBk : Hid (Blk Y2 g 89 #[lv] ∧ Blk Y2 pc 27 c.cs) := ⟨HZ2.out.1.rt.blk.fr hfr hgb, HZ2.out.2.1.fr hfr hpcn⟩
              have hS2 : Y2.cell? ⟨g, 0, none⟩ = some lv ∧ Blk Y2 pc 27 c.cs := ⟨HBk.out.1.cell 0, HBk.out.2⟩
              have hF2 : Y2.frozen? ⟨g, 0, none⟩ = false := HBk.out.1.frozen 0
              obtain ⟨na, nc, hnf, _⟩ := hrow.form
              refine oneL (i := 7) rfl (by kernel_rfl) hCl (by kernel_rfl) (fun K1 hK1 => ?_)
              refine valR (d := some 123) rfl (w' := Y2) nv (exec_append (v1 := lv) (v2 := .slice (some ⟨zb, 0, none⟩) 1 1) (.tmp 120) (.tmp 122) rfl (by kernel_rfl) (by kernel_rfl) hr) ?_
              refine hK1.out _ _ (fun _ => hS2) ?_
              clear hK1 hCl hr
              intro hCl
              simp only [Act.put, List.setIfInBounds_toArray, List.set_cons_zero, List.set_cons_succ]
              refine takeL (i := 8) (v := .pointer (some ⟨g, 0, none⟩)) 10 (some 124) rfl rfl (by kernel_rfl) (by kernel_rfl) (by kernel_rfl) (by kernel_rfl) hCl (fun _ _ _ h => h) (Or.inl ⟨by kernel_rfl, fun w' hSw => by kernel_rfl⟩) hS2 ?_
              clear hCl
              intro hCl
              simp only [Act.put, List.setIfInBounds_toArray, List.set_cons_zero, List.set_cons_succ]
              refine takeL (i := 9) (v := .pointer (some ⟨g, 0, none⟩)) 10 (some 125) rfl rfl (by kernel_rfl) (by kernel_rfl) (by kernel_rfl) (by kernel_rfl) hCl (fun _ _ _ h => h) (Or.inl ⟨by kernel_rfl, fun w' hSw => by kernel_rfl⟩) hS2 ?_
              clear hCl
              intro hCl
              simp only [Act.put, List.setIfInBounds_toArray, List.set_cons_zero, List.set_cons_succ]
              refine oneL (i := 10) rfl (by kernel_rfl) hCl (by kernel_rfl) (fun K1 hK1 => ?_)
              refine skipR (d := none) rfl (w' := Y2.setCell ⟨g, 0, none⟩ nv) (by have q1 := hS2.1; clear hS2; rw [hlf] at q1; subst hnf; go_simp) ?_
              refine hK1.out _ _ (fun h => absurd rfl h) ?_
              clear hK1 hCl
              intro hCl
              simp only [Act.put, List.setIfInBounds_toArray, List.set_cons_zero, List.set_cons_succ]
              refine doneL (by kernel_rfl) ?_
              clear hCl
              refine hK _ _ ?_
              clear hK hS2 hF2
              have HF : Hid (RO w (Y2.setCell ⟨g, 0, none⟩ nv) (.slice (some ⟨vb, vo, none⟩) n0 vc) l g nv (L ++ [c]) hi_) := by
                have hbc : BB (cmdL n (l.drop at_)) := by rw [cmdL_eq]; exact ((HZ2.out.1.by'.bb.drop _).drop _).take _
                obtain ⟨he0, _, hok⟩ := enc_dec hbc HD.out
                have hnew : nv.ownBlock ≠ some g := hrow.ne_type HBk.out.1 (by decide)
                have ht : RtAt (Y2.setCell ⟨g, 0, none⟩ nv) g nv (L ++ [c]) := ⟨HBk.out.1.set 0 nv, hrow.fr (Fr.setCell _ _ _ (fun b => b = g) rfl) fun q hq e => hnew (e ▸ hq), fun d hd => by
                  rcases List.mem_append.1 hd with h | h
                  · exact HZ2.out.1.rt.ok d h
                  · rw [List.mem_singleton.1 h]; exact ⟨he0, hok⟩⟩
                have f1 : Fr Z2 (Y2.setCell ⟨g, 0, none⟩ nv) (rtOwn g lv) := hfr.trans (Fr.setCell Y2 ⟨g, 0, none⟩ nv (fun b => b = g) rfl) fun i _ q => by
                  rcases q with q | q
                  · exact .inr q
                  · exact .inl q
                have := HZ2.out.1.app HV.out hmany HFr.out HD.out ht f1 fun b hb => by
                  rcases hb with e | e
                  · exact .inl (.inl e)
                  · rcases hob with o | o
                    · exact .inl (.inr (o ▸ e))
                    · rw [o] at e
                      injection e with e
                      exact .inr (by omega)
                rw [show at_ + (6 + n) = hi_ by have := HHi.out; omega] at this
                exact this
              clear hrow hfr hob HBk HZ2 hgb hpcn hnf
              generalize Y2.setCell ⟨g, 0, none⟩ nv = Y3 at *
              generalize c.cs = cc1
              go_upto_region 12 with fail
              refine wp_region_lit ?_
              refine wpList_runTo rfl (some 126) rfl (.int .i64 (at_ : Int)) Y3 (by kernel_rfl) ?_
              simp only [Act.put, List.setIfInBounds_toArray, List.set_cons_zero, List.set_cons_succ]
              refine wpList_runTo rfl (some 127) rfl (.int .i64 ((at_ + 6 : Nat) : Int)) Y3 (by exact addN_run (p := at_) (q := 6) (.tmp 126) (.const (.int .i64 6)) rfl (by kernel_rfl) rfl (by omega) _) ?_
              simp only [Act.put, List.setIfInBounds_toArray, List.set_cons_zero, List.set_cons_succ]
              refine wpList_runTo rfl (some 128) rfl (.int .i64 (n : Int)) Y3 (by kernel_rfl) ?_
              simp only [Act.put, List.setIfInBounds_toArray, List.set_cons_zero, List.set_cons_succ]
              refine wpList_runTo rfl (some 129) rfl (.int .i64 (hi_ : Int)) Y3 (by rw [HHi.out]; exact addN_run (p := at_ + 6) (q := n) (.tmp 127) (.tmp 128) rfl (by kernel_rfl) (by kernel_rfl) (by omega) _) ?_
              simp only [Act.put, List.setIfInBounds_toArray, List.set_cons_zero, List.set_cons_succ]
              refine wpList_runTo rfl (some 6) rfl (.int .i64 (hi_ : Int)) Y3 (by kernel_rfl) ?_
              simp only [Act.put, List.setIfInBounds_toArray, List.set_cons_zero, List.set_cons_succ]
              refine wpList_nil ?_
              generalize at_ + 6 = at8
              have hgt : at_ < hi_ := by have := HHi.out; omega
              go_wp2
              exact ⟨⟨hi_, nv, L ++ [c], hhn, rfl, HF⟩, by simp [intOf]; omega⟩
            · skip
              have HNo : Hid (∀ m, ¬ FrOk L.length (l.drop at_) m) := fun m hm => by
                have e := HLen.out m hm
                subst e
                exact hrec hm.rc
              refine takeR (i := 19) (v := .bool true) (some 114) rfl rfl (by kernel_rfl) (by kernel_rfl) (by kernel_rfl) (fun _ _ _ h => h) (Or.inl ⟨by kernel_rfl, fun w' hSw => by exact neS2_run (s := ofN (recL L.length (cmdL n (l.drop at_)))) (t := ofN ((l.drop at_).take (6 + n))) (.tmp 105) (.tmp 113) rfl (by kernel_rfl) (by kernel_rfl) (fun e => hrec (ofN_inj hbb2 hbb1 e).symm) _⟩) hS5 ?_
              simp only [Act.put, List.setIfInBounds_toArray, List.set_cons_zero, List.set_cons_succ]
              refine takeR (i := 20) (v := .bool true) (some 115) rfl rfl (by kernel_rfl) (by kernel_rfl) (by kernel_rfl) (fun _ _ _ h => h) (Or.inl ⟨by kernel_rfl, fun w' hSw => by kernel_rfl⟩) hS5 ?_
              simp only [Act.put, List.setIfInBounds_toArray, List.set_cons_zero, List.set_cons_succ]
              refine wpAnyH_done (by kernel_rfl) ?_ _
              clear hS5 hrec hbb1 hbb2
              generalize cutV (.slice (some ⟨vb, vo, none⟩) n0 vc) at_ hi_ vc = cv2
              generalize ofN (recL L.length (cmdL n (l.drop at_))) = s1
              generalize ofN ((l.drop at_).take (6 + n)) = s2
              generalize at_ + 6 = at7
              go_wp2
              go_ret3
              exact HR5.out.1.done (.inr HNo.out) rfl
      · go_upto_region 5 with fail
        rename_i K hK
        refine wp_region_lit ?_
        refine wpList_runTo rfl (some 40) rfl (.int .i64 (at_ : Int)) wr (by kernel_rfl) ?_
        simp only [Act.put, List.setIfInBounds_toArray, List.set_cons_zero, List.set_cons_succ]
        refine wpList_runTo rfl (some 41) rfl (.int .i64 ((at_ + 6 : Nat) : Int)) wr (by exact addN_run (p := at_) (q := 6) (.tmp 40) (.const (.int .i64 6)) rfl (by kernel_rfl) rfl (by omega) _) ?_
        simp only [Act.put, List.setIfInBounds_toArray, List.set_cons_zero, List.set_cons_succ]
        refine wpList_runTo rfl (some 42) rfl (.slice (some ⟨vb, vo, none⟩) n0 vc) wr (by kernel_rfl) ?_
        simp only [Act.put, List.setIfInBounds_toArray, List.set_cons_zero, List.set_cons_succ]
        refine wpList_runTo rfl (some 43) rfl (.int .i64 (n0 : Int)) wr (by kernel_rfl) ?_
        simp only [Act.put, List.setIfInBounds_toArray, List.set_cons_zero, List.set_cons_succ]
        refine wpList_runTo rfl (some 44) rfl (.bool true) wr (by exact leN_run (.tmp 41) (.tmp 43) rfl (by kernel_rfl) (by kernel_rfl) (decide_eq_true h6) _) ?_
        simp only [Act.put, List.setIfInBounds_toArray, List.set_cons_zero, List.set_cons_succ]
        refine wpList_runTo rfl (some 45) rfl (.bool true) wr (by kernel_rfl) ?_
        simp only [Act.put, List.setIfInBounds_toArray, List.set_cons_zero, List.set_cons_succ]
        refine wpList_runToG (by kernel_rfl) (some 46) rfl (.pointer (some ⟨g, 0, none⟩)) wr (by kernel_rfl) ?_
        simp only [Act.put, List.setIfInBounds_toArray, List.set_cons_zero, List.set_cons_succ]
        refine wpList_runToG (by kernel_rfl) (some 47) rfl (.pointer (some ⟨g, 0, none⟩)) wr (by kernel_rfl) ?_
        simp only [Act.put, List.setIfInBounds_toArray, List.set_cons_zero, List.set_cons_succ]
        refine wpList_runToG (by kernel_rfl) (some 48) rfl (.pointer (some ⟨g, 0, none⟩)) wr (by kernel_rfl) ?_
        simp only [Act.put, List.setIfInBounds_toArray, List.set_cons_zero, List.set_cons_succ]
        refine wpList_runToG (by kernel_rfl) (some 49) rfl (.slice la L.length lc) wr (by go_simp) ?_
        simp only [Act.put, List.setIfInBounds_toArray, List.set_cons_zero, List.set_cons_succ]
        refine wpList_runToG (by kernel_rfl) (some 50) rfl (.int .i64 (L.length : Int)) wr (by kernel_rfl) ?_
        simp only [Act.put, List.setIfInBounds_toArray, List.set_cons_zero, List.set_cons_succ]
        refine wpList_runToG (by kernel_rfl) (some 51) rfl (.bool false) wr (by exact lssM_run (.tmp 50) (.const (.int .i64 1000000)) rfl (by kernel_rfl) rfl (decide_eq_false hmany) _) ?_
        simp only [Act.put, List.setIfInBounds_toArray, List.set_cons_zero, List.set_cons_succ]
        refine wpList_runTo rfl (some 52) rfl (.bool false) wr (by kernel_rfl) ?_
        simp only [Act.put, List.setIfInBounds_toArray, List.set_cons_zero, List.set_cons_succ]
        refine wpList_nil ?_
        refine hK _ _ ?_
        clear hK cL
        generalize at_ + 6 = at6
        have HMx : Hid (L.length = 1000000) := by
          show L.length = 1000000
          omega
        clear hmany hLn hlf
        generalize hLl : L.length = nL
        clear hLl
        go_wp2
        go_ret3
        exact HR.out.done (.inl HMx.out) rfl
    · obtain ⟨bf, hbf⟩ : ∃ bf, bf = Value.bool false := ⟨_, rfl⟩
      obtain ⟨un, hun⟩ : ∃ un, un = undef := ⟨_, rfl⟩
      have HNo : Hid (∀ m, ¬ FrOk L.length (l.drop at_) m) := fun m hm => by
        have h3 := hm.all
        have h1 := hm.n1
        rw [List.length_drop, ← HN0.out] at h3
        omega
      go_upto_region 5 with fail
      rename_i K hK
      refine wp_region_lit ?_
      refine wpList_runTo rfl (some 40) rfl (.int .i64 (at_ : Int)) wr (by kernel_rfl) ?_
      simp only [Act.put, List.setIfInBounds_toArray, List.set_cons_zero, List.set_cons_succ]
      refine wpList_runTo rfl (some 41) rfl (.int .i64 ((at_ + 6 : Nat) : Int)) wr (by exact addN_run (p := at_) (q := 6) (.tmp 40) (.const (.int .i64 6)) rfl (by kernel_rfl) rfl (by omega) _) ?_
      simp only [Act.put, List.setIfInBounds_toArray, List.set_cons_zero, List.set_cons_succ]
      refine wpList_runTo rfl (some 42) rfl (.slice (some ⟨vb, vo, none⟩) n0 vc) wr (by kernel_rfl) ?_
      simp only [Act.put, List.setIfInBounds_toArray, List.set_cons_zero, List.set_cons_succ]
      refine wpList_runTo rfl (some 43) rfl (.int .i64 (n0 : Int)) wr (by kernel_rfl) ?_
      simp only [Act.put, List.setIfInBounds_toArray, List.set_cons_zero, List.set_cons_succ]
      refine wpList_runTo rfl (some 44) rfl (.bool false) wr (by exact leN_run (.tmp 41) (.tmp 43) rfl (by kernel_rfl) (by kernel_rfl) (decide_eq_false h6) _) ?_
      simp only [Act.put, List.setIfInBounds_toArray, List.set_cons_zero, List.set_cons_succ]
      refine wpList_runTo rfl (some 45) rfl (bf) wr (by subst hbf; kernel_rfl) ?_
      simp only [Act.put, List.setIfInBounds_toArray, List.set_cons_zero, List.set_cons_succ]
      refine wpList_skipE hun (by subst hbf; subst hun; kernel_rfl) (some 46) rfl ?_
      simp only [Act.put, List.setIfInBounds_toArray, List.set_cons_zero, List.set_cons_succ]
      refine wpList_skipE hun (by subst hbf; subst hun; kernel_rfl) (some 47) rfl ?_
      simp only [Act.put, List.setIfInBounds_toArray, List.set_cons_zero, List.set_cons_succ]
      refine wpList_skipE hun (by subst hbf; subst hun; kernel_rfl) (some 48) rfl ?_
      simp only [Act.put, List.setIfInBounds_toArray, List.set_cons_zero, List.set_cons_succ]
      refine wpList_skipE hun (by subst hbf; subst hun; kernel_rfl) (some 49) rfl ?_
      simp only [Act.put, List.setIfInBounds_toArray, List.set_cons_zero, List.set_cons_succ]
      refine wpList_skipE hun (by subst hbf; subst hun; kernel_rfl) (some 50) rfl ?_
      simp only [Act.put, List.setIfInBounds_toArray, List.set_cons_zero, List.set_cons_succ]
      refine wpList_skipE hun (by subst hbf; subst hun; kernel_rfl) (some 51) rfl ?_
      simp only [Act.put, List.setIfInBounds_toArray, List.set_cons_zero, List.set_cons_succ]
      refine wpList_runTo rfl (some 52) rfl (.bool false) wr (by subst hbf; subst hun; kernel_rfl) ?_
      simp only [Act.put, List.setIfInBounds_toArray, List.set_cons_zero, List.set_cons_succ]
      refine wpList_nil ?_
      refine hK _ _ ?_
      clear hK cL
      generalize at_ + 6 = at6
      clear h6 hlf hbf hun
      go_wp2
      go_ret3
      exact HR.out.done (.inr HNo.out) rfl
end Go.Proofs.Ytjnnecoikcmaeaa
