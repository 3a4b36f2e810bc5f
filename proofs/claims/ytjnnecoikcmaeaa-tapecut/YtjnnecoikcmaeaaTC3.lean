/-
  TapeCut: the walk.
-/
import Derived.Test.YtjnnecoikcmaeaaTC2
import Derived.Test.YtjnnecoikcmaeaaTR4
import Derived.Test.YtjnnecoikcmaeaaTD4
import Derived.Test.YtjnnecoikcmaeaaTD3
namespace Go.Proofs.Ytjnnecoikcmaeaa
set_option linter.unusedVariables false
set_option linter.unusedSimpArgs false
open Go.RowKit Go.Great

theorem CA.start {w W1 W2 : World} {t : Tp} (cs : Nat → Cm) (h1 : Below w.heap.size w W1) (h : TpAt W2 t ∧ t.l = magic ∧ t.es = [] ∧ Below W1.heap.size W1 W2 ∧ ∀ b, t.own b → W1.heap.size ≤ b) : CA w W2 t (.slice none 0 0) (.slice none 0 0) cs 0 0 0 :=
  ⟨below_step h1 h.2.2.2.1, h.1, h.2.1, h.2.2.1, fun b hb => Nat.le_trans h1.size (h.2.2.2.2 b hb), RowAt.none0 _ _ _, RowAt.none0 _ _ _, fun q hq => (by cases hq), fun q hq => (by cases hq), Nat.le_refl _, Nat.le_refl _, fun j hj => absurd hj (Nat.not_lt_zero _)⟩
theorem blk_range {w : World} {g : Nat} {T : TypeId} {c : Cm} (h : Blk w g T c.cs) : w.rangeAt g 0 c.cs.toList := fun j v hv => by rw [Nat.zero_add, h.cell, ← Array.getElem?_toList]; exact hv
theorem CA.l0 {w W : World} {t : Tp} {av ev : Value} {cs : Nat → Cm} {mt ma me : Nat} (h : CA w W t av ev cs mt ma me) : t.l ≠ [] := fun e => by
  have h1 := congrArg List.length e
  rw [h.tl] at h1
  have h2 := enN_le cs (Nat.zero_le mt)
  rw [enN_zero] at h2
  unfold enN at h2
  rw [h1] at h2
  simp at h2
theorem CA.bd {w W : World} {t : Tp} {av ev : Value} {cs : Nat → Cm} {mt ma me : Nat} (h : CA w W t av ev cs mt ma me) (hm : mt ≤ 60) : t.l.length ≤ 40000 := by
  rw [h.tl]
  have := enN_bd (m := mt) fun j hj => (h.hE j hj).1
  unfold enN at this
  omega
theorem newC2 (W : World) (c : Cm) : Below W.heap.size W ((W.alloc (.cells zeroC.cs 27)).setRow W.heap.size c.cs) ∧ Blk ((W.alloc (.cells zeroC.cs 27)).setRow W.heap.size c.cs) W.heap.size 27 c.cs := ⟨below_setRow ((Below.refl _ W).alloc (Nat.le_refl _) _) (Nat.le_refl _) _, (Blk.new W _ _).row⟩
theorem remN_run {op : Oper} {a : Act} {p q : Nat} (x y : Operand) (ho : op.op = .binOp .rem 3 x y 3) (hx : a.eval x = .int .i64 (p : Int)) (hy : a.eval y = .int .i64 (q : Int)) (h : 0 < q) (hp : p ≤ 9223372036854775807) (w : World) : (execOp a.eval op).run Try.prog w = .ok (.value (.int .i64 ((p % q : Nat) : Int))) w := by
  have h0 : ¬ (q : Int) = 0 := by omega
  have h0n : ¬ q = 0 := by omega
  have h0b : ((q : Int) == 0) = false := by simpa using h0
  have hm : (p : Int).tmod (q : Int) = ((p % q : Nat) : Int) := by rw [Int.tmod_eq_emod_of_nonneg (by omega)]; rfl
  have hlt : p % q ≤ 9223372036854775807 := Nat.le_trans (Nat.mod_le _ _) hp
  have hw1 : IntKind.i64.wrap ((p : Int).tmod (q : Int)) = ((p % q : Nat) : Int) := by rw [hm, IntKind.wrap_i64]; omega
  have hw2 : wrap64 ((p : Int).tmod (q : Int)) = ((p % q : Nat) : Int) := by rw [hm]; unfold wrap64; omega
  generalize p % q = r at *
  unfold execOp
  simp only [ho, hx, hy]
  go_simp
theorem subN_run {op : Oper} {a : Act} {p q : Nat} (x y : Operand) (ho : op.op = .binOp .sub 3 x y 3) (hx : a.eval x = .int .i64 (p : Int)) (hy : a.eval y = .int .i64 (q : Int)) (h : q ≤ p) (hp : p ≤ 9223372036854775807) (w : World) : (execOp a.eval op).run Try.prog w = .ok (.value (.int .i64 ((p - q : Nat) : Int))) w := by
  have hw : IntKind.i64.wrap ((p : Int) - (q : Int)) = ((p - q : Nat) : Int) := by rw [IntKind.wrap_i64]; omega
  have hw' : wrap64 ((p : Int) - (q : Int)) = ((p - q : Nat) : Int) := by unfold wrap64; omega
  generalize p - q = r at *
  unfold execOp
  simp only [ho, hx, hy]
  go_simp
theorem own_by {w : World} {g n : Nat} {f : Nat → Nat} {m : List Nat} (h : OwnA w g (n + 8) f) (hm : m.length = n) (hb : BB m) (hf : ∀ j, j < n → f j = dN m j) : By w (.slice (some ⟨g, 0, none⟩) n (n + 8)) m := by
  refine ⟨⟨some ⟨g, 0, none⟩, n + 8, by rw [hm], by omega, fun e => (by cases e), .inr ⟨g, 0, rfl, fun j x hj => ?_⟩⟩, hb⟩
  have hj' := (List.getElem?_eq_some_iff.1 hj).1
  have := h.cell j (by omega)
  rw [Nat.zero_add, this, hf j (by omega), dN_at hj']
  rw [List.getElem?_eq_getElem hj'] at hj
  injection hj with hj
  rw [hj]
theorem ixZ_run {op : Oper} {a : Act} {g n c i : Nat} (x y : Operand) (ho : op.op = .indexAddr 28 x y) (hx : a.eval x = .slice (some ⟨g, 0, none⟩) n c) (hy : a.eval y = .int .i64 (i : Int)) (hi : i < n) (w : World) : (execOp a.eval op).run Try.prog w = .ok (.value (.pointer (some ⟨g, i, none⟩))) w := by
  have h1 : (i : Int) < (n : Int) := by omega
  have h2 : ¬ (n : Int) ≤ (i : Int) := by omega
  unfold execOp
  simp only [ho, hx, hy]
  go_simp
theorem ld5_run {op : Oper} {a : Act} {w : World} {g o x0 : Nat} (x : Operand) (ho : op.op = .load 5 x) (hx : a.eval x = .pointer (some ⟨g, o, none⟩)) (h : w.cell? ⟨g, o, none⟩ = some (.int .u8 (x0 : Int))) : (execOp a.eval op).run Try.prog w = .ok (.value (.int .u8 (x0 : Int))) w := by
  unfold execOp
  simp only [ho, hx]
  go_simp
theorem st5_run {op : Oper} {a : Act} {w : World} {g o x0 y0 : Nat} (x y : Operand) (ho : op.op = .store 5 x y) (hx : a.eval x = .pointer (some ⟨g, o, none⟩)) (hy : a.eval y = .int .u8 (y0 : Int)) (h : w.cell? ⟨g, o, none⟩ = some (.int .u8 (x0 : Int))) (hf : w.frozen? ⟨g, o, none⟩ = false) : (execOp a.eval op).run Try.prog w = .ok .skip (w.setCell ⟨g, o, none⟩ (.int .u8 (y0 : Int))) := by
  unfold execOp
  simp only [ho, hx, hy]
  go_simp
theorem cvb_run {op : Oper} {a : Act} {z : Int} {t : Nat} (x : Operand) (ho : op.op = .convert 3 5 x) (hx : a.eval x = .int .i64 z) (ht : IntKind.u8.wrap z = (t : Int)) (w : World) : (execOp a.eval op).run Try.prog w = .ok (.value (.int .u8 (t : Int))) w := by
  unfold execOp
  simp only [ho, hx]
  go_simp
theorem u8_xor (a b : Nat) (ha : a < 256) (hb : b < 256) : bits .xor .u8 (a : Int) (b : Int) = ((a ^^^ b : Nat) : Int) := u8_xor_nat a b ha hb
theorem xrb_run {op : Oper} {a : Act} {p q : Nat} (x y : Operand) (ho : op.op = .binOp .xor 5 x y 5) (hx : a.eval x = .int .u8 (p : Int)) (hy : a.eval y = .int .u8 (q : Int)) (hp : p < 256) (hq : q < 256) (w : World) : (execOp a.eval op).run Try.prog w = .ok (.value (.int .u8 ((p ^^^ q : Nat) : Int))) w := by
  have hb := u8_xor p q hp hq
  generalize p ^^^ q = r at *
  unfold execOp
  simp only [ho, hx, hy]
  go_simp
theorem eqB_run {op : Oper} {a : Act} {t : Nat} {r : Bool} (x y : Operand) (ho : op.op = .binOp .eql 5 x y 5) (hx : a.eval x = .int .u8 (t : Int)) (hy : a.eval y = .int .u8 0) (hr : ((t : Int) == 0) = r) (w : World) : (execOp a.eval op).run Try.prog w = .ok (.value (.bool r)) w := by
  unfold execOp
  simp only [ho, hx, hy]
  go_simp
theorem ptrT_run {op : Oper} {a : Act} {ad : Addr} (x : Operand) (y : Operand) (ho : op.op = .binOp .neq 39 x y 39) (hx : a.eval x = .pointer (some ad)) (hy : a.eval y = .pointer none) (w : World) : (execOp a.eval op).run Try.prog w = .ok (.value (.bool true)) w := by
  unfold execOp
  simp only [ho, hx, hy]
  go_simp
/-- The last record with a byte turned, or as it was. -/
theorem turned_open {cs : Nat → Cm} {p P T : Nat} (hp : 0 < p) (hp6 : p ≤ 60) (hE : ∀ j, j < p → encE (cs j) = 0) (hb : BB (tpL cs p)) (hF : enN cs (p - 1) ≤ P) (hP : P < enN cs p) (hT : T < 256) {es : List Nat} {a : Nat} (h : Chain ((tpL cs p).set P (dN (tpL cs p) P ^^^ T)) es a) (hm : es.length = 1000000 ∨ ∀ n, ¬ FrOk es.length (((tpL cs p).set P (dN (tpL cs p) P ^^^ T)).drop a) n) : (T = 0 → es.length = p) ∧ (T ≠ 0 → es.length = p - 1 ∧ a = enN cs (p - 1)) := by
  have hPl : P < (tpL cs p).length := hP
  have hx : dN (tpL cs p) P < 256 := dN_bb hb P hPl
  have hy : dN (tpL cs p) P ^^^ T < 256 := Nat.xor_lt_two_pow (n := 8) hx hT
  refine ⟨fun h0 => ?_, fun h0 => ?_⟩
  · subst h0
    rw [Nat.xor_zero, show (tpL cs p).set P (dN (tpL cs p) P) = tpL cs p by rw [dN_at hPl]; exact List.set_getElem_self hPl] at h hm
    have := open_gen (cs := cs) (L := tpL cs p) (t := []) (q := p) (by rw [List.append_nil]) hE (no_short (by rw [List.length_drop]; unfold enN; omega)) (by omega) h hm
    rw [this.1, ensL_len]
  · have hps : p - 1 + 1 = p := by omega
    have e1 : tpL cs p = tpL cs (p - 1) ++ recL (p - 1) (encL (cs (p - 1))) := by
      have : tpL cs (p - 1 + 1) = tpL cs (p - 1) ++ recL (p - 1) (encL (cs (p - 1))) := rfl
      rw [hps] at this
      exact this
    have hse : (tpL cs p).set P (dN (tpL cs p) P ^^^ T) = tpL cs (p - 1) ++ (recL (p - 1) (encL (cs (p - 1)))).set (P - enN cs (p - 1)) (dN (tpL cs p) P ^^^ T) := by
      generalize dN (tpL cs p) P ^^^ T = y
      rw [e1, List.set_append_right _ _ hF]
      rfl
    have hd : dN (tpL cs p) P = dN (recL (p - 1) (encL (cs (p - 1)))) (P - enN cs (p - 1)) := by
      unfold dN
      rw [e1, List.getD_eq_getElem?_getD, List.getD_eq_getElem?_getD, List.getElem?_append_right hF]
      rfl
    have hEp := hE (p - 1) (by omega)
    have hbe : BB (encL (cs (p - 1))) := fun x hx => hb x (by rw [e1]; exact List.mem_append_right _ (by unfold recL; exact List.mem_append_right _ hx))
    have hlt : P - enN cs (p - 1) < 6 + (encL (cs (p - 1))).length := by
      have := enN_succ cs (p - 1)
      rw [hps] at this
      omega
    have hno := turn_no hEp hbe (p - 1) hlt hy (by
      rw [← hd]
      intro e
      exact h0 (xor_right_eq (c := dN (tpL cs p) P) (by rw [e, Nat.xor_zero])))
    rw [hse] at h hm
    have := open_gen (cs := cs) rfl (fun j hj => hE j (by omega)) (by
      rw [show (tpL cs (p - 1) ++ (recL (p - 1) (encL (cs (p - 1)))).set (P - enN cs (p - 1)) (dN (tpL cs p) P ^^^ T)).drop (enN cs (p - 1)) = (recL (p - 1) (encL (cs (p - 1)))).set (P - enN cs (p - 1)) (dN (tpL cs p) P ^^^ T) from List.drop_left]
      exact hno) (by omega) h hm
    exact ⟨by rw [this.1, ensL_len], this.2⟩
set_option maxRecDepth 100000 in
set_option maxHeartbeats 16000000 in
theorem TapeCut_law {w : World} (a0 : Option Addr) (n0 c0 : Nat) (t0 : Nat → Cm) (hn : n0 ≤ maxLen) (hs : SrcC w a0 n0 t0) (cut turn : Int) (hc1 : -9223372036854775808 ≤ cut) (hc2 : cut ≤ 9223372036854775807) (ht1 : -9223372036854775808 ≤ turn) (ht2 : turn ≤ 9223372036854775807) : Calls Try.prog 4 #[.slice a0 n0 c0, .int .i64 cut, .int .i64 turn] w fun e w' => e = .returned (.bool true) ∧ Hid (Below w.heap.size w w') := by
  have HS : Hid (SrcC w a0 n0 t0) := hs
  have HC : Hid ((-9223372036854775808 ≤ cut ∧ cut ≤ 9223372036854775807) ∧ -9223372036854775808 ≤ turn ∧ turn ≤ 9223372036854775807) := ⟨⟨hc1, hc2⟩, ht1, ht2⟩
  have hn' : n0 ≤ 9223372036854775807 := Nat.le_trans hn (by decide)
  have hsh := shown_any w
  clear hs hc1 hc2 ht1 ht2 hn
  go_enter Try.func4, Try.ntmps4
  go_upto_region 1 with fail
  rename_i K hK
  refine wp_region_lit ?_
  refine wpList_callW rfl (some 28) rfl 8 #[] (by kernel_rfl) hsh ?_
  clear hsh
  rintro e W1 ⟨rfl, hx⟩
  refine ⟨_, rfl, ?_⟩
  simp only [Act.put, List.setIfInBounds_toArray, List.set_cons_zero, List.set_cons_succ]
  refine wpList_runTo rfl (some 7) rfl (.bool true) W1 (by kernel_rfl) ?_
  simp only [Act.put, List.setIfInBounds_toArray, List.set_cons_zero, List.set_cons_succ]
  refine wpList_nil ?_
  refine hK _ _ ?_
  clear hK
  have hnew := New_any W1
  go_upto_region 2 with fail
  rename_i K hK
  refine wp_region_lit ?_
  refine wpList_callW rfl (some 29) rfl 11 #[] (by kernel_rfl) hnew ?_
  clear hnew
  rintro e W2 ⟨t, rfl, hy⟩
  refine ⟨_, rfl, ?_⟩
  simp only [Act.put, List.setIfInBounds_toArray, List.set_cons_zero, List.set_cons_succ]
  have HA0 : Hid (CA w W2 t (.slice none 0 0) (.slice none 0 0) t0 0 0 0) := CA.start t0 hx.out hy.out
  clear hx hy
  obtain ⟨tg, htg⟩ : ∃ tg, tg = t.g := ⟨_, rfl⟩
  have HTG : Hid (t.g = tg) := htg.symm
  rw [← htg]
  clear htg
  refine wpList_runTo rfl (some 8) rfl (.pointer (some ⟨tg, 0, none⟩)) W2 (by kernel_rfl) ?_
  simp only [Act.put, List.setIfInBounds_toArray, List.set_cons_zero, List.set_cons_succ]
  refine wpList_nil ?_
  refine hK _ _ ?_
  clear hK
  go_wp2
  go_loopw [9, 10, 11] (fun x y z wr => ∃ (i m : Nat) (t : Tp) (av ev : Value) (cs : Nat → Cm), ev = x ∧ av = y ∧ z = .int .i64 (i : Int) ∧ i ≤ 60 ∧ i ≤ n0 ∧ Hid (CA w wr t av ev cs m m m ∧ m ≤ i ∧ t.g = tg)) (fun _ _ z _ => 60 - (intOf z).toNat)
  case atStart => exact ⟨0, 0, t, _, _, t0, rfl, rfl, rfl, Nat.zero_le _, Nat.zero_le _, HA0.out, Nat.le_refl _, HTG.out⟩
  case round =>
    clear HA0 HTG
    obtain ⟨i, m, t, av, ev, cs, hev, hav, rfl, hi60, hin, HA⟩ := hrel
    subst hev
    subst hav
    by_cases hlt : i < n0 ∧ i < 60
    · obtain ⟨hl1, hl2⟩ := hlt
      have hl1' : (i : Int) < (n0 : Int) := by omega
      have hl2' : (i : Int) < 60 := by omega
      rcases HS.out.below HA.out.1.bel with h | ⟨b0, o0, ha0, hcell⟩
      · omega
      obtain ⟨hr0, hok⟩ := hcell i hl1
      have HOK : Hid ((t0 i).ok) := hok
      have HR0 : Hid (∀ W', Below w.heap.size w W' → W'.rangeAt b0 (o0 + i * 25) (t0 i).cs.toList) := fun W' hb => by
        rcases HS.out.below hb with h | ⟨b1, o1, e1, h1⟩
        · omega
        · rw [ha0] at e1
          injection e1 with e1
          injection e1 with e2 e3
          rw [e2, e3]
          exact (h1 i hl1).1
      have hap := Append_any HA.out.1.tp (t0 i) hok (by have := HA.out.1.len; have := HA.out.2.1; omega) (by have := HA.out.1.bd (by have := HA.out.2.1; omega); omega)
      rw [HA.out.2.2] at hap
      clear hcell hok
      subst ha0
      go_upto_region 10 with fail
      rename_i K hK
      refine wp_region_lit ?_
      refine wpList_runTo rfl (some 46) rfl (.pointer (some ⟨tg, 0, none⟩)) wr (by kernel_rfl) ?_
      simp only [Act.put, List.setIfInBounds_toArray, List.set_cons_zero, List.set_cons_succ]
      refine wpList_runTo rfl (some 47) rfl (.slice (some ⟨b0, o0, none⟩) n0 c0) wr (by kernel_rfl) ?_
      simp only [Act.put, List.setIfInBounds_toArray, List.set_cons_zero, List.set_cons_succ]
      refine wpList_runTo rfl (some 48) rfl (.int .i64 (i : Int)) wr (by kernel_rfl) ?_
      simp only [Act.put, List.setIfInBounds_toArray, List.set_cons_zero, List.set_cons_succ]
      refine wpList_runTo rfl (some 49) rfl (.pointer (some ⟨b0, o0 + i * 25, none⟩)) wr (by exact ixC_run (c := c0) (.tmp 47) (.tmp 48) rfl (by kernel_rfl) (by kernel_rfl) hl1 _) ?_
      simp only [Act.put, List.setIfInBounds_toArray, List.set_cons_zero, List.set_cons_succ]
      refine wpList_runTo rfl (some 50) rfl (.agg (t0 i).cs) wr (by exact ldC_run hr0 (.tmp 49) rfl (by kernel_rfl)) ?_
      simp only [Act.put, List.setIfInBounds_toArray, List.set_cons_zero, List.set_cons_succ]
      refine wpList_callW rfl (some 51) rfl 12 #[.pointer (some ⟨tg, 0, none⟩), .agg (t0 i).cs] (by kernel_rfl) hap ?_
      clear hap hr0
      rintro e W3 hr
      rcases hr with ⟨hne, rfl, hb⟩ | ⟨hz, rfl, hh⟩
      · refine ⟨_, rfl, ?_⟩
        simp only [Act.put, List.setIfInBounds_toArray, List.set_cons_zero, List.set_cons_succ]
        have HA3 : Hid (CA w W3 t av ev cs m m m ∧ m ≤ i + 1 ∧ t.g = tg) := ⟨HA.out.1.below hb.out, by have := HA.out.2.1; omega, HA.out.2.2⟩
        clear HA hb
        have hee : (encE (t0 i) == 0) = false := by simpa using hne
        generalize encE (t0 i) = ee at *
        refine wpList_runTo rfl (some 12) rfl (.int .i64 ee) W3 (by kernel_rfl) ?_
        simp only [Act.put, List.setIfInBounds_toArray, List.set_cons_zero, List.set_cons_succ]
        refine wpList_nil ?_
        refine hK _ _ ?_
        clear hK hne
        generalize (t0 i).cs = X5
        go_wp2
        exact ⟨⟨i + 1, m, t, av, ev, cs, rfl, rfl, by go_num, by omega, by omega, HA3⟩, by simp [intOf]; omega⟩
      · refine ⟨_, rfl, ?_⟩
        simp only [Act.put, List.setIfInBounds_toArray, List.set_cons_zero, List.set_cons_succ]
        obtain ⟨wv, ev', ht, hf, ho⟩ := hh.out
        have HA3 : Hid (CA w W3 (t.more (recL t.es.length (encL (t0 i))) wv ev') av ev (updC cs m (t0 i)) (m + 1) m m ∧ m ≤ i ∧ (t.more (recL t.es.length (encL (t0 i))) wv ev').g = tg) := ⟨HA.out.1.app HOK.out hz ht hf ho, HA.out.2.1, HA.out.2.2⟩
        clear HA hh ht hf ho hz
        generalize t.more (recL t.es.length (encL (t0 i))) wv ev' = t1 at *
        have HCS : Hid (updC cs m (t0 i) m = t0 i) := updC_eq _ _ _
        generalize updC cs m (t0 i) = cs1 at *
        refine wpList_runTo rfl (some 12) rfl (.int .i64 0) W3 (by kernel_rfl) ?_
        simp only [Act.put, List.setIfInBounds_toArray, List.set_cons_zero, List.set_cons_succ]
        refine wpList_nil ?_
        refine hK _ _ ?_
        clear hK
        have hr3 := HR0.out W3 HA3.out.1.bel
        obtain ⟨X5, hX5⟩ : ∃ X5, X5 = (t0 i).cs := ⟨_, rfl⟩
        rw [← hX5]
        go_upto_region 12 with fail
        rename_i K hK
        refine wp_region_lit ?_
        refine wpList_runTo rfl (some 54) rfl (av) W3 (by kernel_rfl) ?_
        simp only [Act.put, List.setIfInBounds_toArray, List.set_cons_zero, List.set_cons_succ]
        refine wpList_runTo rfl (some 55) rfl (.slice (some ⟨b0, o0, none⟩) n0 c0) W3 (by kernel_rfl) ?_
        simp only [Act.put, List.setIfInBounds_toArray, List.set_cons_zero, List.set_cons_succ]
        refine wpList_runTo rfl (some 56) rfl (.int .i64 (i : Int)) W3 (by kernel_rfl) ?_
        simp only [Act.put, List.setIfInBounds_toArray, List.set_cons_zero, List.set_cons_succ]
        refine wpList_runTo rfl (some 57) rfl (.pointer (some ⟨b0, o0 + i * 25, none⟩)) W3 (by exact ixC_run (c := c0) (.tmp 55) (.tmp 56) rfl (by kernel_rfl) (by kernel_rfl) hl1 _) ?_
        simp only [Act.put, List.setIfInBounds_toArray, List.set_cons_zero, List.set_cons_succ]
        refine wpList_runTo rfl (some 58) rfl (.agg (t0 i).cs) W3 (by exact ldC_run hr3 (.tmp 57) rfl (by kernel_rfl)) ?_
        simp only [Act.put, List.setIfInBounds_toArray, List.set_cons_zero, List.set_cons_succ]
        refine wpList_runTo rfl (some 59) rfl (.slice (some ⟨W3.heap.size, 0, none⟩) 1 1) (W3.alloc (.cells (t0 i).cs 27)) (by kernel_rfl) ?_
        simp only [Act.put, List.setIfInBounds_toArray, List.set_cons_zero, List.set_cons_succ]
        obtain ⟨v4, W4, hr4, hc4⟩ := (HA3.out.1.below ((Below.refl _ W3).alloc (Nat.le_refl _) (.cells (t0 i).cs 27))).all (by omega) (by have := HA3.out.2.1; omega) (zb := W3.heap.size) (by rw [HCS.out]; exact blk_range (Blk.new W3 27 (t0 i).cs)) 38
        have HA4 : Hid (CA w W4 t1 v4 ev cs1 (m + 1) (m + 1) m) := hc4
        have HT1 : Hid (m ≤ i ∧ t1.g = tg) := HA3.out.2
        clear hc4 hr3 HA3
        refine wpList_plain rfl fun K1 hK1 => ?_
        refine valR (d := some 60) rfl (w' := W4) v4 (exec_append (v1 := av) (v2 := .slice (some ⟨W3.heap.size, 0, none⟩) 1 1) (.tmp 54) (.tmp 59) rfl (by kernel_rfl) (by kernel_rfl) hr4) ?_
        refine hK1 _ _ ?_
        clear hK1 hr4
        simp only [Act.put, List.setIfInBounds_toArray, List.set_cons_zero, List.set_cons_succ]
        rw [← hX5]
        generalize W3.heap.size = z3
        refine wpList_runTo rfl (some 10) rfl (v4) W4 (by kernel_rfl) ?_
        simp only [Act.put, List.setIfInBounds_toArray, List.set_cons_zero, List.set_cons_succ]
        refine wpList_nil ?_
        refine hK _ _ ?_
        clear hK hX5
        have hby := Bytes_any HA4.out.tp HA4.out.l0 (by have := HA4.out.bd (by have := HT1.out.1; omega); omega)
        rw [HT1.out.2] at hby
        go_upto_region 13 with fail
        refine wp_region_lit ?_
        refine wpList_runTo rfl (some 61) rfl (ev) W4 (by kernel_rfl) ?_
        simp only [Act.put, List.setIfInBounds_toArray, List.set_cons_zero, List.set_cons_succ]
        refine wpList_runTo rfl (some 62) rfl (.pointer (some ⟨tg, 0, none⟩)) W4 (by kernel_rfl) ?_
        simp only [Act.put, List.setIfInBounds_toArray, List.set_cons_zero, List.set_cons_succ]
        refine wpList_callW rfl (some 63) rfl 13 #[.pointer (some ⟨tg, 0, none⟩)] (by kernel_rfl) hby ?_
        clear hby
        rintro e W5 ⟨v5, rfl, hx5⟩
        refine ⟨_, rfl, ?_⟩
        simp only [Act.put, List.setIfInBounds_toArray, List.set_cons_zero, List.set_cons_succ]
        obtain ⟨a5, c5, hf5, _⟩ := hx5.out.by'.form
        obtain ⟨N, hN⟩ : ∃ N, N = enN cs1 (m + 1) := ⟨_, rfl⟩
        have hlen : t1.l.length = N := by rw [HA4.out.tl, hN]; rfl
        rw [hlen] at hf5
        have HA5 : Hid (CA w W5 t1 v4 ev cs1 (m + 1) (m + 1) m) := HA4.out.below hx5.out.bel
        clear HA4 hx5 hlen
        subst hf5
        refine wpList_runTo rfl (some 64) rfl (.int .i64 (N : Int)) W5 (by kernel_rfl) ?_
        simp only [Act.put, List.setIfInBounds_toArray, List.set_cons_zero, List.set_cons_succ]
        refine wpList_runTo rfl (some 65) rfl (.slice (some ⟨W5.heap.size, 0, none⟩) 1 1) (W5.alloc (.cells #[.int .i64 (N : Int)] 3)) (by kernel_rfl) ?_
        simp only [Act.put, List.setIfInBounds_toArray, List.set_cons_zero, List.set_cons_succ]
        obtain ⟨v6, W6, hr6, hc6⟩ := (HA5.out.below ((Below.refl _ W5).alloc (Nat.le_refl _) (.cells #[.int .i64 (N : Int)] 3))).ends (by omega) (by have := HT1.out.1; omega) (zb := W5.heap.size) (by rw [← hN]; exact (Blk.new W5 3 #[.int .i64 (N : Int)]).cell 0) 41
        have HA6 : Hid (CA w W6 t1 v4 v6 cs1 (m + 1) (m + 1) (m + 1) ∧ m + 1 ≤ i + 1 ∧ t1.g = tg) := ⟨hc6, by have := HT1.out.1; omega, HT1.out.2⟩
        clear hc6 HA5 HT1
        refine wpList_plain rfl fun K1 hK1 => ?_
        refine valR (d := some 66) rfl (w' := W6) v6 (exec_append (v1 := ev) (v2 := .slice (some ⟨W5.heap.size, 0, none⟩) 1 1) (.tmp 61) (.tmp 65) rfl (by kernel_rfl) (by kernel_rfl) hr6) ?_
        refine hK1 _ _ ?_
        clear hK1 hr6
        simp only [Act.put, List.setIfInBounds_toArray, List.set_cons_zero, List.set_cons_succ]
        generalize W5.heap.size = z5
        refine wpList_runTo rfl (some 9) rfl (v6) W6 (by kernel_rfl) ?_
        simp only [Act.put, List.setIfInBounds_toArray, List.set_cons_zero, List.set_cons_succ]
        refine wpList_nil ?_
        clear hN
        go_wp2
        exact ⟨⟨i + 1, m + 1, t1, v4, v6, cs1, rfl, rfl, by go_num, by omega, by omega, HA6⟩, by simp [intOf]; omega⟩
    · have hm60 : m ≤ 60 := by have := HA.out.2.1; omega
      have HM : Hid (m ≤ 60) := hm60
      go_upto_region 8 with fail
      go_cut [43] from 36 to 43 (fun x43 wx => x43 = .bool false ∧ wx = wr)
      case first => as_aux_lemma =>
        by_cases q1 : (i : Int) < (n0 : Int)
        · have q2 : ¬ (i : Int) < 60 := fun q => hlt ⟨by omega, by omega⟩
          go_wp2
          go_meet
          exact ⟨rfl, rfl⟩
        · go_wp2
          go_meet
          exact ⟨rfl, rfl⟩
      case rest =>
        obtain ⟨rfl, hw⟩ := hcut
        subst hw
        clear hlt hm60 HS
        obtain ⟨i9, hi9⟩ : ∃ i9 : Value, i9 = .int .i64 (i : Int) := ⟨_, rfl⟩
        rw [← hi9]
        clear hi9 hi60 hin
        have hby := Bytes_any HA.out.1.tp HA.out.1.l0 (by have := HA.out.1.bd HM.out; omega)
        rw [HA.out.2.2] at hby
        go_upto_region 14 with fail
        rename_i K hK
        refine wp_region_lit ?_
        refine wpList_runTo rfl (some 67) rfl (.pointer (some ⟨tg, 0, none⟩)) wc (by kernel_rfl) ?_
        simp only [Act.put, List.setIfInBounds_toArray, List.set_cons_zero, List.set_cons_succ]
        refine wpList_callW rfl (some 68) rfl 13 #[.pointer (some ⟨tg, 0, none⟩)] (by kernel_rfl) hby ?_
        clear hby
        rintro e W7 ⟨bv, rfl, hx7⟩
        refine ⟨_, rfl, ?_⟩
        simp only [Act.put, List.setIfInBounds_toArray, List.set_cons_zero, List.set_cons_succ]
        obtain ⟨B, hB⟩ : ∃ B, B = W7.heap.size := ⟨_, rfl⟩
        have HB : Hid (CB w W7 B av ev bv cs m) := by
          show CB w W7 B av ev bv cs m
          rw [hB]; exact HA.out.1.bytes hx7.out
        clear HA hx7 hB
        refine wpList_runTo rfl (some 13) rfl (bv) W7 (by kernel_rfl) ?_
        simp only [Act.put, List.setIfInBounds_toArray, List.set_cons_zero, List.set_cons_succ]
        refine wpList_nil ?_
        refine hK _ _ ?_
        clear hK
        obtain ⟨⟨hc1, hc2⟩, _⟩ := HC.out
        go_upto_if 71 with fail
        go_cut [14] from 72 to 74 (fun x14 wx => ∃ A : Nat, x14 = .int .i64 (A : Int) ∧ A ≤ 9223372036854775807 ∧ wx = W7)
        case first => as_aux_lemma =>
          by_cases hneg : cut < 0
          · go_wp2_with fail
            all_goals go_meet
            all_goals exact ⟨(-(cut + 1)).toNat, by rw [Int.toNat_of_nonneg (by omega)], by omega, rfl⟩
          · have hneg' : 0 ≤ cut := by omega
            go_wp2_with fail
            all_goals go_meet
            all_goals exact ⟨cut.toNat, by rw [Int.toNat_of_nonneg (by omega)], by omega, rfl⟩
        case rest =>
          obtain ⟨A, rfl, hA, hw⟩ := hcut
          subst hw
          clear hc1 hc2
          obtain ⟨ab, cb, hbf, hbc⟩ := HB.out.by'.form
          obtain ⟨L, hL⟩ : ∃ L, L = enN cs m := ⟨_, rfl⟩
          have hLl : (tpL cs m).length = L := hL.symm
          rw [hLl] at hbf hbc
          have hL4 : 4 ≤ L ∧ L ≤ 40000 := ⟨by rw [hL]; have := enN_le cs (Nat.zero_le m); rw [enN_zero] at this; exact this, by rw [hL]; exact HB.out.bd HM.out⟩
          have HL : Hid (L = enN cs m ∧ 4 ≤ L ∧ L ≤ 40000) := ⟨hL, hL4⟩
          clear hL hLl
          subst hbf
          go_upto_region 18 with fail
          rename_i K hK
          refine wp_region_lit ?_
          refine wpList_runTo rfl (some 75) rfl (.int .i64 (A : Int)) wc (by kernel_rfl) ?_
          simp only [Act.put, List.setIfInBounds_toArray, List.set_cons_zero, List.set_cons_succ]
          refine wpList_runTo rfl (some 76) rfl (.slice ab L cb) wc (by kernel_rfl) ?_
          simp only [Act.put, List.setIfInBounds_toArray, List.set_cons_zero, List.set_cons_succ]
          refine wpList_runTo rfl (some 77) rfl (.int .i64 (L : Int)) wc (by kernel_rfl) ?_
          simp only [Act.put, List.setIfInBounds_toArray, List.set_cons_zero, List.set_cons_succ]
          refine wpList_runTo rfl (some 78) rfl (.int .i64 ((L + 1 : Nat) : Int)) wc (by exact addN_run (q := 1) (.tmp 77) (.const (.int .i64 1)) rfl (by kernel_rfl) rfl (by omega) _) ?_
          simp only [Act.put, List.setIfInBounds_toArray, List.set_cons_zero, List.set_cons_succ]
          refine wpList_runTo rfl (some 79) rfl (.int .i64 ((A % (L + 1) : Nat) : Int)) wc (by exact remN_run (.tmp 75) (.tmp 78) rfl (by kernel_rfl) (by kernel_rfl) (by omega) hA _) ?_
          simp only [Act.put, List.setIfInBounds_toArray, List.set_cons_zero, List.set_cons_succ]
          obtain ⟨k, hk⟩ : ∃ k, k = A % (L + 1) := ⟨_, rfl⟩
          have hkL : k ≤ L := by have := Nat.mod_lt A (show 0 < L + 1 by omega); omega
          rw [← hk]
          clear hk
          generalize L + 1 = L1
          refine wpList_runTo rfl (some 14) rfl (.int .i64 (k : Int)) wc (by kernel_rfl) ?_
          simp only [Act.put, List.setIfInBounds_toArray, List.set_cons_zero, List.set_cons_succ]
          refine wpList_nil ?_
          refine hK _ _ ?_
          clear hK hA
          have hcut := HB.out.by'.cut (lo := 0) (hi := k) (mx := cb) (Nat.zero_le _) (by have := HL.out.1; unfold enN at this; omega) (by omega) (Nat.le_refl _)
          rw [List.drop_zero, Nat.sub_zero] at hcut
          have hkl : ((tpL cs m).take k).length = k := by rw [List.length_take]; have := HL.out.1; unfold enN at this; omega
          by_cases h4 : k < 4
          · have hop := Open_short hcut (by omega)
            have h4a : ¬ (4 : Int) ≤ (k : Int) := by omega
            have h4b : ¬ 4 ≤ k := by omega
            have HF : Hid (Below w.heap.size w wc) := HB.out.bel
            clear hcut hkl hL4 HB
            go_upto_region 19 with fail
            rename_i K hK
            refine wp_region_lit ?_
            refine wpList_runTo rfl (some 81) rfl (.slice ab L cb) wc (by kernel_rfl) ?_
            simp only [Act.put, List.setIfInBounds_toArray, List.set_cons_zero, List.set_cons_succ]
            refine wpList_runTo rfl (some 82) rfl (.int .i64 (k : Int)) wc (by kernel_rfl) ?_
            simp only [Act.put, List.setIfInBounds_toArray, List.set_cons_zero, List.set_cons_succ]
            refine wpList_runTo rfl (some 83) rfl (cutV (.slice ab L cb) 0 k cb) wc (by exact sliceT_run (hi := k) (.tmp 81) (.tmp 82) rfl (by kernel_rfl) (by kernel_rfl) (by omega) _) ?_
            simp only [Act.put, List.setIfInBounds_toArray, List.set_cons_zero, List.set_cons_succ]
            refine wpList_callW rfl (some 84) rfl 14 #[cutV (.slice ab L cb) 0 k cb] (by kernel_rfl) hop ?_
            clear hop
            rintro e W8 ⟨rfl, ew⟩
            replace ew := ew.symm
            subst ew
            refine ⟨_, rfl, ?_⟩
            simp only [Act.put, List.setIfInBounds_toArray, List.set_cons_zero, List.set_cons_succ]
            generalize cutV (.slice ab L cb) 0 k cb = cv
            refine wpList_runTo rfl (some 80) rfl (.tuple #[.pointer none, .int .i64 0, .int .i64 180]) wc (by kernel_rfl) ?_
            simp only [Act.put, List.setIfInBounds_toArray, List.set_cons_zero, List.set_cons_succ]
            refine wpList_runTo rfl (some 85) rfl (.pointer none) wc (by kernel_rfl) ?_
            simp only [Act.put, List.setIfInBounds_toArray, List.set_cons_zero, List.set_cons_succ]
            refine wpList_runTo rfl (some 86) rfl (.int .i64 0) wc (by kernel_rfl) ?_
            simp only [Act.put, List.setIfInBounds_toArray, List.set_cons_zero, List.set_cons_succ]
            refine wpList_runTo rfl (some 87) rfl (.int .i64 180) wc (by kernel_rfl) ?_
            simp only [Act.put, List.setIfInBounds_toArray, List.set_cons_zero, List.set_cons_succ]
            refine wpList_runTo rfl (some 15) rfl (.pointer none) wc (by kernel_rfl) ?_
            simp only [Act.put, List.setIfInBounds_toArray, List.set_cons_zero, List.set_cons_succ]
            refine wpList_runTo rfl (some 16) rfl (.int .i64 0) wc (by kernel_rfl) ?_
            simp only [Act.put, List.setIfInBounds_toArray, List.set_cons_zero, List.set_cons_succ]
            refine wpList_runTo rfl (some 17) rfl (.int .i64 180) wc (by kernel_rfl) ?_
            simp only [Act.put, List.setIfInBounds_toArray, List.set_cons_zero, List.set_cons_succ]
            refine wpList_nil ?_
            refine hK _ _ ?_
            clear hK
            go_wp2
            go_ret
            exact ⟨rfl, HF⟩
          · have hop := Open_yes hcut (.inr fun q hq => (hcut.lt hq).resolve_left fun e => by have := congrArg List.length e; rw [hkl] at this; simp at this; omega) (by omega) (tpL_take4 cs m (by omega))
            obtain ⟨q, hq1, hq2, hq3⟩ := exists_q cs (show 4 ≤ k by omega) m
            clear hcut hkl
            go_upto_region 19 with fail
            rename_i K hK
            refine wp_region_lit ?_
            refine wpList_runTo rfl (some 81) rfl (.slice ab L cb) wc (by kernel_rfl) ?_
            simp only [Act.put, List.setIfInBounds_toArray, List.set_cons_zero, List.set_cons_succ]
            refine wpList_runTo rfl (some 82) rfl (.int .i64 (k : Int)) wc (by kernel_rfl) ?_
            simp only [Act.put, List.setIfInBounds_toArray, List.set_cons_zero, List.set_cons_succ]
            refine wpList_runTo rfl (some 83) rfl (cutV (.slice ab L cb) 0 k cb) wc (by exact sliceT_run (hi := k) (.tmp 81) (.tmp 82) rfl (by kernel_rfl) (by kernel_rfl) (by omega) _) ?_
            simp only [Act.put, List.setIfInBounds_toArray, List.set_cons_zero, List.set_cons_succ]
            refine wpList_callW rfl (some 84) rfl 14 #[cutV (.slice ab L cb) 0 k cb] (by kernel_rfl) hop ?_
            clear hop
            rintro e W8 hr
            obtain ⟨o, rfl, ho⟩ := HB.out.open HM.out (by rw [← HL.out.1]; exact hkL) hq1 hq2 hq3 hr
            refine ⟨_, rfl, ?_⟩
            simp only [Act.put, List.setIfInBounds_toArray, List.set_cons_zero, List.set_cons_succ]
            have HO : Hid (CO w W8 B av ev (.slice ab L cb) cs m o q) := ho
            clear ho HB hr
            obtain ⟨og, hog⟩ : ∃ og, og = o.g := ⟨_, rfl⟩
            have HOG : Hid (o.g = og) := hog.symm
            rw [← hog]
            clear hog
            obtain ⟨E, hE⟩ : ∃ E, E = enN cs q := ⟨_, rfl⟩
            have HE : Hid (E = enN cs q) := hE
            rw [← hE]
            clear hE
            generalize cutV (.slice ab L cb) 0 k cb = cv
            refine wpList_runTo rfl (some 80) rfl (.tuple #[.pointer (some ⟨og, 0, none⟩), .int .i64 (E : Int), .int .i64 0]) W8 (by kernel_rfl) ?_
            simp only [Act.put, List.setIfInBounds_toArray, List.set_cons_zero, List.set_cons_succ]
            refine wpList_runTo rfl (some 85) rfl (.pointer (some ⟨og, 0, none⟩)) W8 (by kernel_rfl) ?_
            simp only [Act.put, List.setIfInBounds_toArray, List.set_cons_zero, List.set_cons_succ]
            refine wpList_runTo rfl (some 86) rfl (.int .i64 (E : Int)) W8 (by kernel_rfl) ?_
            simp only [Act.put, List.setIfInBounds_toArray, List.set_cons_zero, List.set_cons_succ]
            refine wpList_runTo rfl (some 87) rfl (.int .i64 0) W8 (by kernel_rfl) ?_
            simp only [Act.put, List.setIfInBounds_toArray, List.set_cons_zero, List.set_cons_succ]
            refine wpList_runTo rfl (some 15) rfl (.pointer (some ⟨og, 0, none⟩)) W8 (by kernel_rfl) ?_
            simp only [Act.put, List.setIfInBounds_toArray, List.set_cons_zero, List.set_cons_succ]
            refine wpList_runTo rfl (some 16) rfl (.int .i64 (E : Int)) W8 (by kernel_rfl) ?_
            simp only [Act.put, List.setIfInBounds_toArray, List.set_cons_zero, List.set_cons_succ]
            refine wpList_runTo rfl (some 17) rfl (.int .i64 0) W8 (by kernel_rfl) ?_
            simp only [Act.put, List.setIfInBounds_toArray, List.set_cons_zero, List.set_cons_succ]
            refine wpList_nil ?_
            refine hK _ _ ?_
            clear hK
            have h4a : (4 : Int) ≤ (k : Int) := by omega
            have h4b : 4 ≤ k := by omega
            have HQ : Hid (q ≤ m ∧ enN cs q ≤ k ∧ (q = m ∨ k < enN cs (q + 1))) := ⟨hq1, hq2, hq3⟩
            clear hq1 hq2 hq3 h4
            go_wp2
            go_loopw [18] (fun x wr => ∃ j : Nat, j ≤ q ∧ x = .int .i64 (j : Int) ∧ Hid (wr = W8)) (fun x _ => q - (intOf x).toNat)
            case atStart => exact ⟨0, Nat.zero_le _, rfl, rfl⟩
            case round =>
              obtain ⟨j, hjq, rfl, hw0⟩ := hrel
              have hw := hw0.out
              clear hw0
              subst hw
              obtain ⟨ea, ec, hef, hec⟩ := HO.out.cb.en.form
              by_cases hj : j < q
              · have hjm : j < m := by have := HQ.out.1; omega
                obtain ⟨eb, eo, ec', cur, hef', _⟩ := HO.out.cb.en.more (by omega)
                have hcl := row_int HO.out.cb.en hef' (ensL_get cs hjm)
                have hle : enN cs (j + 1) ≤ k := Nat.le_trans (enN_le cs hj) HQ.out.2.1
                subst hef'
                generalize enN cs (j + 1) = X at *
                have hle' : (X : Int) ≤ (k : Int) := by omega
                have hjm' : (j : Int) < (m : Int) := by omega
                have hm60 : m ≤ 60 := HM.out
                go_wp2
                exact ⟨⟨j + 1, hj, by go_num, trivial⟩, by simp [intOf]; omega⟩
              · obtain rfl : j = q := by omega
                go_upto_region 25 with fail
                go_cut [115] from 104 to 115 (fun x115 wx => x115 = .bool false ∧ wx = wr)
                case first => as_aux_lemma =>
                  by_cases hjm : j < m
                  · have hgt : k < enN cs (j + 1) := by rcases HQ.out.2.2 with h | h <;> omega
                    obtain ⟨eb, eo, ec', cur, hef', _⟩ := HO.out.cb.en.more (by omega)
                    have hcl := row_int HO.out.cb.en hef' (ensL_get cs hjm)
                    subst hef'
                    generalize enN cs (j + 1) = X at *
                    have hle' : ¬ (X : Int) ≤ (k : Int) := by omega
                    have hjm' : (j : Int) < (m : Int) := by omega
                    go_wp2
                    go_meet
                    exact ⟨rfl, rfl⟩
                  · have hjm' : ¬ (j : Int) < (m : Int) := by omega
                    subst hef
                    go_wp2
                    go_meet
                    exact ⟨rfl, rfl⟩
                case rest =>
                  obtain ⟨rfl, hw⟩ := hcut
                  subst hw
                  clear hj hjq
                  have hm60 : m ≤ 60 := HM.out
                  have hqm : j ≤ m := HQ.out.1
                  go_upto_if 119 with fail
                  go_cut [19] from 119 to 124 (fun x19 wx => x19 = .int .i64 (E : Int) ∧ wx = wc)
                  case first => as_aux_lemma =>
                    by_cases hq0 : 0 < j
                    · obtain ⟨eb, eo, ec', cur, hef', _⟩ := HO.out.cb.en.more (by omega)
                      have hcl := row_int HO.out.cb.en hef' (ensL_get cs (show j - 1 < m by omega))
                      rw [show j - 1 + 1 = j by omega, ← HE.out] at hcl
                      subst hef'
                      have h0' : (0 : Int) < (j : Int) := by omega
                      have h1' : 1 ≤ j := by omega
                      have h2' : (j : Int) - 1 < (m : Int) := by omega
                      have h3' : j - 1 < m := by omega
                      go_wp2
                      go_meet
                      exact ⟨rfl, rfl⟩
                    · have h0' : ¬ (0 : Int) < (j : Int) := by omega
                      have HE4 : Hid (E = 4) := by
                        show E = 4
                        rw [HE.out, show j = 0 by omega, enN_zero]
                      clear hef hec
                      go_wp2
                      go_meet
                      exact ⟨by rw [HE4.out]; rfl, rfl⟩
                  case rest =>
                    obtain ⟨rfl, hw⟩ := hcut
                    subst hw
                    have hln := Len_any HO.out.tp (by rw [HO.out.len]; omega)
                    rw [HO.out.len, HOG.out] at hln
                    go_upto_region 30 with fail
                    rename_i K hK
                    refine wp_region_lit ?_
                    refine wpList_runTo rfl (some 125) rfl (.pointer (some ⟨og, 0, none⟩)) wc (by kernel_rfl) ?_
                    simp only [Act.put, List.setIfInBounds_toArray, List.set_cons_zero, List.set_cons_succ]
                    refine wpList_callW rfl (some 126) rfl 15 #[.pointer (some ⟨og, 0, none⟩)] (by kernel_rfl) hln ?_
                    clear hln
                    rintro e w2 ⟨rfl, ew⟩
                    replace ew := ew.symm
                    subst ew
                    refine ⟨_, rfl, ?_⟩
                    simp only [Act.put, List.setIfInBounds_toArray, List.set_cons_zero, List.set_cons_succ]
                    refine wpList_runTo rfl (some 127) rfl (.int .i64 (j : Int)) wc (by kernel_rfl) ?_
                    simp only [Act.put, List.setIfInBounds_toArray, List.set_cons_zero, List.set_cons_succ]
                    refine wpList_runTo rfl (some 128) rfl (.bool false) wc (by exact neN_run (N := j) (.tmp 126) (.tmp 127) rfl (by kernel_rfl) (by kernel_rfl) _) ?_
                    simp only [Act.put, List.setIfInBounds_toArray, List.set_cons_zero, List.set_cons_succ]
                    refine wpList_runTo rfl (some 129) rfl (.bool false) wc (by kernel_rfl) ?_
                    simp only [Act.put, List.setIfInBounds_toArray, List.set_cons_zero, List.set_cons_succ]
                    refine wpList_runToG (by kernel_rfl) (some 130) rfl (.int .i64 (E : Int)) wc (by kernel_rfl) ?_
                    simp only [Act.put, List.setIfInBounds_toArray, List.set_cons_zero, List.set_cons_succ]
                    refine wpList_runToG (by kernel_rfl) (some 131) rfl (.int .i64 (E : Int)) wc (by kernel_rfl) ?_
                    simp only [Act.put, List.setIfInBounds_toArray, List.set_cons_zero, List.set_cons_succ]
                    refine wpList_runToG (by kernel_rfl) (some 132) rfl (.bool false) wc (by exact neN_run (N := E) (.tmp 130) (.tmp 131) rfl (by kernel_rfl) (by kernel_rfl) _) ?_
                    simp only [Act.put, List.setIfInBounds_toArray, List.set_cons_zero, List.set_cons_succ]
                    refine wpList_runTo rfl (some 133) rfl (.bool false) wc (by kernel_rfl) ?_
                    simp only [Act.put, List.setIfInBounds_toArray, List.set_cons_zero, List.set_cons_succ]
                    refine wpList_nil ?_
                    refine hK _ _ ?_
                    clear hK hef hec
                    go_wp2
                    go_loopw [20] (fun x wr => ∃ i : Nat, i ≤ j ∧ x = .int .i64 (i : Int) ∧ Hid (CO w wr B av ev (.slice ab L cb) cs m o j)) (fun x _ => j - (intOf x).toNat)
                    case atStart => exact ⟨0, Nat.zero_le _, rfl, HO⟩
                    case round =>
                      clear HO
                      obtain ⟨i, hij, rfl, HR⟩ := hrel
                      by_cases hi : i < j
                      · have hi' : (i : Int) < (j : Int) := by omega
                        have him : i < m := by omega
                        have hcm := HR.out.cmd HM.out hi
                        rw [HOG.out] at hcm
                        obtain ⟨ga, oa, ca, cur, haf, _⟩ := HR.out.cb.al.more (by omega)
                        subst haf
                        go_upto_region 35 with fail
                        rename_i K hK
                        refine wp_region_lit ?_
                        refine wpList_runTo rfl (some 140) rfl (.pointer (some ⟨og, 0, none⟩)) wr (by kernel_rfl) ?_
                        simp only [Act.put, List.setIfInBounds_toArray, List.set_cons_zero, List.set_cons_succ]
                        refine wpList_runTo rfl (some 141) rfl (.int .i64 (i : Int)) wr (by kernel_rfl) ?_
                        simp only [Act.put, List.setIfInBounds_toArray, List.set_cons_zero, List.set_cons_succ]
                        refine wpList_callW rfl (some 142) rfl 16 #[.pointer (some ⟨og, 0, none⟩), .int .i64 (i : Int)] (by kernel_rfl) hcm ?_
                        clear hcm
                        rintro e W9 ⟨rfl, hb9⟩
                        refine ⟨_, rfl, ?_⟩
                        simp only [Act.put, List.setIfInBounds_toArray, List.set_cons_zero, List.set_cons_succ]
                        have HR9 := HR.out.below hb9.out
                        refine wpList_runTo rfl (some 139) rfl (.tuple #[.agg (cs i).cs, .int .i64 0]) W9 (by kernel_rfl) ?_
                        simp only [Act.put, List.setIfInBounds_toArray, List.set_cons_zero, List.set_cons_succ]
                        refine wpList_runTo rfl (some 143) rfl (.agg (cs i).cs) W9 (by kernel_rfl) ?_
                        simp only [Act.put, List.setIfInBounds_toArray, List.set_cons_zero, List.set_cons_succ]
                        refine wpList_runTo rfl (some 144) rfl (.int .i64 0) W9 (by kernel_rfl) ?_
                        simp only [Act.put, List.setIfInBounds_toArray, List.set_cons_zero, List.set_cons_succ]
                        refine wpList_runTo rfl (some 21) rfl (.pointer (some ⟨W9.heap.size, 0, none⟩)) (W9.alloc (.cells zeroC.cs 27)) (by kernel_rfl) ?_
                        simp only [Act.put, List.setIfInBounds_toArray, List.set_cons_zero, List.set_cons_succ]
                        refine store_cmd (c := cs i) (c' := zeroC) (Blk.new W9 _ _) (.tmp 21) (.tmp 143) rfl rfl (by kernel_rfl) (by kernel_rfl) ?_
                        simp only [Act.put, List.setIfInBounds_toArray, List.set_cons_zero, List.set_cons_succ]
                        obtain ⟨hn1, hn2⟩ := newC2 W9 (cs i)
                        have HRA : Hid (CO w ((W9.alloc (.cells zeroC.cs 27)).setRow W9.heap.size (cs i).cs) B (.slice (some ⟨ga, oa, none⟩) m ca) ev (.slice ab L cb) cs m o j ∧ Blk ((W9.alloc (.cells zeroC.cs 27)).setRow W9.heap.size (cs i).cs) W9.heap.size 27 (cs i).cs) := ⟨HR9.below hn1, hn2⟩
                        clear HR HR9 hb9 hn1 hn2
                        generalize (W9.alloc (.cells zeroC.cs 27)).setRow W9.heap.size (cs i).cs = WA at *
                        generalize W9.heap.size = pc at *
                        refine wpList_runTo rfl (some 22) rfl (.int .i64 0) WA (by kernel_rfl) ?_
                        simp only [Act.put, List.setIfInBounds_toArray, List.set_cons_zero, List.set_cons_succ]
                        refine wpList_nil ?_
                        refine hK _ _ ?_
                        clear hK
                        generalize (cs i).cs = cc5
                        go_upto_region 36 with fail
                        have hbd : Below WA.heap.size WA WA.drew := ⟨rfl, rfl, rfl, Nat.le_refl _, fun _ _ => rfl⟩
                        have HRB : Hid (CO w WA.drew B (.slice (some ⟨ga, oa, none⟩) m ca) ev (.slice ab L cb) cs m o j) := HRA.out.1.below hbd
                        have hS : Blk WA.drew pc 27 (cs i).cs ∧ WA.drew.rangeAt ga (oa + i * 25) (cs i).cs.toList := ⟨HRA.out.2.below hbd HRA.out.2.lt, row_cmd HRB.out.cb.al rfl (by rw [List.getElem?_map, List.getElem?_range him]; rfl)⟩
                        clear hbd HRA
                        refine wp_region_held (S := fun w' => Blk w' pc 27 (cs i).cs ∧ w'.rangeAt ga (oa + i * 25) (cs i).cs.toList) (by kernel_rfl) ?_
                        change wpAnyH _ _ _ _ _ _ _ _ (World.drew _)
                        refine takeR (i := 0) (v := .int .i64 0) (some 145) rfl rfl (by kernel_rfl) (by kernel_rfl) (by kernel_rfl) (fun _ _ _ h => h) (Or.inl ⟨by kernel_rfl, fun w' hSw => by kernel_rfl⟩) hS ?_
                        simp only [Act.put, List.setIfInBounds_toArray, List.set_cons_zero, List.set_cons_succ]
                        refine takeR (i := 1) (v := .bool false) (some 146) rfl rfl (by kernel_rfl) (by kernel_rfl) (by kernel_rfl) (fun _ _ _ h => h) (Or.inl ⟨by kernel_rfl, fun w' hSw => by kernel_rfl⟩) hS ?_
                        simp only [Act.put, List.setIfInBounds_toArray, List.set_cons_zero, List.set_cons_succ]
                        refine takeR (i := 2) (v := .bool false) (some 147) rfl rfl (by kernel_rfl) (by kernel_rfl) (by kernel_rfl) (fun _ _ _ h => h) (Or.inl ⟨by kernel_rfl, fun w' hSw => by kernel_rfl⟩) hS ?_
                        simp only [Act.put, List.setIfInBounds_toArray, List.set_cons_zero, List.set_cons_succ]
                        refine takeR (i := 3) (v := .agg (cs i).cs) (some 148) rfl rfl (by kernel_rfl) (by kernel_rfl) (by kernel_rfl) (fun _ _ _ h => h) (Or.inl ⟨by kernel_rfl, fun w' hSw => by exact ldC_run (blk_range hSw.1) (.tmp 21) rfl (by kernel_rfl)⟩) hS ?_
                        simp only [Act.put, List.setIfInBounds_toArray, List.set_cons_zero, List.set_cons_succ]
                        refine takeR (i := 4) (v := .slice (some ⟨ga, oa, none⟩) m ca) (some 149) rfl rfl (by kernel_rfl) (by kernel_rfl) (by kernel_rfl) (fun _ _ _ h => h) (Or.inl ⟨by kernel_rfl, fun w' hSw => by kernel_rfl⟩) hS ?_
                        simp only [Act.put, List.setIfInBounds_toArray, List.set_cons_zero, List.set_cons_succ]
                        refine takeR (i := 5) (v := .int .i64 (i : Int)) (some 150) rfl rfl (by kernel_rfl) (by kernel_rfl) (by kernel_rfl) (fun _ _ _ h => h) (Or.inl ⟨by kernel_rfl, fun w' hSw => by kernel_rfl⟩) hS ?_
                        simp only [Act.put, List.setIfInBounds_toArray, List.set_cons_zero, List.set_cons_succ]
                        refine takeR (i := 6) (v := .pointer (some ⟨ga, oa + i * 25, none⟩)) (some 151) rfl rfl (by kernel_rfl) (by kernel_rfl) (by kernel_rfl) (fun _ _ _ h => h) (Or.inl ⟨by kernel_rfl, fun w' hSw => by exact ixC_run (c := ca) (.tmp 149) (.tmp 150) rfl (by kernel_rfl) (by kernel_rfl) him _⟩) hS ?_
                        simp only [Act.put, List.setIfInBounds_toArray, List.set_cons_zero, List.set_cons_succ]
                        refine takeR (i := 7) (v := .agg (cs i).cs) (some 152) rfl rfl (by kernel_rfl) (by kernel_rfl) (by kernel_rfl) (fun _ _ _ h => h) (Or.inl ⟨by kernel_rfl, fun w' hSw => by exact ldC_run hSw.2 (.tmp 151) rfl (by kernel_rfl)⟩) hS ?_
                        simp only [Act.put, List.setIfInBounds_toArray, List.set_cons_zero, List.set_cons_succ]
                        refine takeR (i := 8) (v := .bool false) (some 153) rfl rfl (by kernel_rfl) (by kernel_rfl) (by kernel_rfl) (fun _ _ _ h => h) (Or.inl ⟨by kernel_rfl, fun w' hSw => by exact neC_run (c := cs i) (.tmp 148) (.tmp 152) rfl (by kernel_rfl) (by kernel_rfl) _⟩) hS ?_
                        simp only [Act.put, List.setIfInBounds_toArray, List.set_cons_zero, List.set_cons_succ]
                        refine takeR (i := 9) (v := .bool false) (some 154) rfl rfl (by kernel_rfl) (by kernel_rfl) (by kernel_rfl) (fun _ _ _ h => h) (Or.inl ⟨by kernel_rfl, fun w' hSw => by kernel_rfl⟩) hS ?_
                        simp only [Act.put, List.setIfInBounds_toArray, List.set_cons_zero, List.set_cons_succ]
                        refine wpAnyH_done (by kernel_rfl) ?_ _
                        clear hS
                        generalize (cs i).cs = cc6
                        generalize WA.drew = WB at *
                        go_wp2
                        exact ⟨⟨i + 1, by omega, by go_num, HRB⟩, by simp [intOf]; omega⟩
                      · obtain rfl : i = j := by omega
                        have hi' : ¬ (i : Int) < (i : Int) := by omega
                        go_wp2
                        go_loopw [23] (fun x wr => ∃ (p : Nat) (o : Tp), p ≤ m ∧ x = .int .i64 (p : Int) ∧ Hid (CO w wr B av ev (.slice ab L cb) cs m o p ∧ o.g = og)) (fun x _ => m - (intOf x).toNat)
                        case atStart => exact ⟨i, o, hqm, rfl, HR.out, HOG.out⟩
                        case round =>
                          clear HR HOG
                          obtain ⟨p, o, hpm, rfl, HR⟩ := hrel
                          obtain ⟨aa, ca, haf, _⟩ := HR.out.1.cb.al.form
                          subst haf
                          by_cases hp : p < m
                          · have hp' : (p : Int) < (m : Int) := by omega
                            obtain ⟨ga, oa, ca', cur, haf, _⟩ := HR.out.1.cb.al.more (by omega)
                            injection haf with haf1 _ haf2
                            subst haf1
                            clear haf2
                            have hrg : wr.rangeAt ga (oa + p * 25) (cs p).cs.toList := row_cmd HR.out.1.cb.al rfl (by rw [List.getElem?_map, List.getElem?_range hp]; rfl)
                            have hcs := HR.out.1.cb.hE p hp
                            have hbd := HR.out.1.cb.bd HM.out
                            have hap := Append_any HR.out.1.tp (cs p) hcs.2 (by rw [HR.out.1.len]; omega) (by rw [HR.out.1.ol]; have := enN_le cs hpm; unfold enN at this hbd; omega)
                            rw [HR.out.2] at hap
                            clear hbd
                            go_upto_region 41 with fail
                            rename_i K hK
                            refine wp_region_lit ?_
                            refine wpList_runTo rfl (some 162) rfl (.pointer (some ⟨og, 0, none⟩)) wr (by kernel_rfl) ?_
                            simp only [Act.put, List.setIfInBounds_toArray, List.set_cons_zero, List.set_cons_succ]
                            refine wpList_runTo rfl (some 163) rfl (.slice (some ⟨ga, oa, none⟩) m ca) wr (by kernel_rfl) ?_
                            simp only [Act.put, List.setIfInBounds_toArray, List.set_cons_zero, List.set_cons_succ]
                            refine wpList_runTo rfl (some 164) rfl (.int .i64 (p : Int)) wr (by kernel_rfl) ?_
                            simp only [Act.put, List.setIfInBounds_toArray, List.set_cons_zero, List.set_cons_succ]
                            refine wpList_runTo rfl (some 165) rfl (.pointer (some ⟨ga, oa + p * 25, none⟩)) wr (by exact ixC_run (c := ca) (.tmp 163) (.tmp 164) rfl (by kernel_rfl) (by kernel_rfl) hp _) ?_
                            simp only [Act.put, List.setIfInBounds_toArray, List.set_cons_zero, List.set_cons_succ]
                            refine wpList_runTo rfl (some 166) rfl (.agg (cs p).cs) wr (by exact ldC_run hrg (.tmp 165) rfl (by kernel_rfl)) ?_
                            simp only [Act.put, List.setIfInBounds_toArray, List.set_cons_zero, List.set_cons_succ]
                            refine wpList_callW rfl (some 167) rfl 12 #[.pointer (some ⟨og, 0, none⟩), .agg (cs p).cs] (by kernel_rfl) hap ?_
                            clear hap hrg
                            rintro e WC hr
                            rcases hr with ⟨hne, _, _⟩ | ⟨_, rfl, hh⟩
                            · exact absurd hcs.1 hne
                            refine ⟨_, rfl, ?_⟩
                            simp only [Act.put, List.setIfInBounds_toArray, List.set_cons_zero, List.set_cons_succ]
                            obtain ⟨wv, ev', ht, hf, ho⟩ := hh.out
                            have HRC : Hid (CO w WC B (.slice (some ⟨ga, oa, none⟩) m ca) ev (.slice ab L cb) cs m (o.more (recL o.es.length (encL (cs p))) wv ev') (p + 1) ∧ (o.more (recL o.es.length (encL (cs p))) wv ev').g = og) := ⟨HR.out.1.app hp ht hf ho, HR.out.2⟩
                            clear HR hh ht hf ho hcs
                            generalize o.more (recL o.es.length (encL (cs p))) wv ev' = o1 at *
                            refine wpList_runTo rfl (some 24) rfl (.int .i64 0) WC (by kernel_rfl) ?_
                            simp only [Act.put, List.setIfInBounds_toArray, List.set_cons_zero, List.set_cons_succ]
                            refine wpList_nil ?_
                            refine hK _ _ ?_
                            clear hK
                            generalize (cs p).cs = cc7
                            go_wp2
                            exact ⟨⟨p + 1, o1, by omega, by go_num, HRC⟩, by simp [intOf]; omega⟩
                          · obtain rfl : p = m := by omega
                            have hp' : ¬ (p : Int) < (p : Int) := by omega
                            have hol : o.l = tpL cs p := HR.out.1.ol
                            have hl0 : o.l ≠ [] := fun e => by
                              have h1 := congrArg List.length e
                              rw [hol] at h1
                              have h2 := enN_le cs (Nat.zero_le p)
                              rw [enN_zero] at h2
                              unfold enN at h2
                              rw [h1] at h2
                              simp at h2
                            have hbd := HR.out.1.cb.bd HM.out
                            have HBD : Hid (o.l ≠ [] ∧ o.l.length ≤ 100000000000 ∧ o.l = tpL cs p) := ⟨hl0, by rw [hol]; unfold enN at hbd; omega, hol⟩
                            clear hl0 hol hbd
                            go_upto_region 44 with fail
                            have hbd : Below wr.heap.size wr wr.drew := ⟨rfl, rfl, rfl, Nat.le_refl _, fun _ _ => rfl⟩
                            have HRD : Hid (CO w wr.drew B (.slice aa p ca) ev (.slice ab L cb) cs p o p ∧ o.g = og) := ⟨HR.out.1.below hbd, HR.out.2⟩
                            clear hbd HR
                            refine wp_region_held (S := fun w' => By w' (.slice ab L cb) (tpL cs p)) (by kernel_rfl) ?_
                            change wpAnyH _ _ _ _ _ _ _ _ (World.drew _)
                            have hS := HRD.out.1.cb.by'
                            have hby := Bytes_any HRD.out.1.tp HBD.out.1 HBD.out.2.1
                            rw [HRD.out.2, HBD.out.2.2] at hby
                            generalize wr.drew = WD at *
                            refine takeR (i := 0) (v := .pointer (some ⟨og, 0, none⟩)) (some 170) rfl rfl (by kernel_rfl) (by kernel_rfl) (by kernel_rfl) (fun _ _ _ h => h) (Or.inl ⟨by kernel_rfl, fun w' hSw => by kernel_rfl⟩) hS ?_
                            simp only [Act.put, List.setIfInBounds_toArray, List.set_cons_zero, List.set_cons_succ]
                            refine takeR (i := 3) (v := .slice ab L cb) (some 173) rfl rfl (by kernel_rfl) (by kernel_rfl) (by kernel_rfl) (fun _ _ _ h => h) (Or.inl ⟨by kernel_rfl, fun w' hSw => by kernel_rfl⟩) hS ?_
                            simp only [Act.put, List.setIfInBounds_toArray, List.set_cons_zero, List.set_cons_succ]
                            refine takeR (i := 4) (v := .string (ofN (tpL cs p))) (some 174) rfl rfl (by kernel_rfl) (by kernel_rfl) (by kernel_rfl) (fun _ _ _ h => h) (Or.inl ⟨by kernel_rfl, fun w' hSw => by exact conv_run (.tmp 173) rfl (by kernel_rfl) hSw⟩) hS ?_
                            simp only [Act.put, List.setIfInBounds_toArray, List.set_cons_zero, List.set_cons_succ]
                            refine wpAnyH_ready (rs := [1]) (by kernel_rfl) (by simp) ?_
                            refine AllReadyH.cons rfl (fun K1 hK1 => ?_) AllReadyH.nil
                            rw [if_pos (by kernel_rfl)]
                            refine callR (d := some 171) rfl 13 #[.pointer (some ⟨og, 0, none⟩)] (by kernel_rfl) hby ?_
                            rintro e WE ⟨v1, rfl, hx⟩
                            refine ⟨_, rfl, ?_⟩
                            have hS1 : By WE (.slice ab L cb) (tpL cs p) := hS.below hx.out.bel
                            have HRE : Hid (CO w WE B (.slice aa p ca) ev (.slice ab L cb) cs p o p ∧ o.g = og) := ⟨HRD.out.1.below hx.out.bel, HRD.out.2⟩
                            have hy1 := hx.out.by'
                            clear hx hby HRD hS
                            refine hK1.out _ _ hS1 (fun _ => ?_)
                            clear hK1
                            simp only [Act.put, List.setIfInBounds_toArray, List.set_cons_zero, List.set_cons_succ]
                            refine wpAnyH_ready (rs := [2]) (by kernel_rfl) (by simp) ?_
                            refine AllReadyH.cons rfl (fun K1 hK1 => ?_) AllReadyH.nil
                            rw [if_pos (by kernel_rfl)]
                            refine valR (d := some 172) rfl (.string (ofN (tpL cs p))) (conv_run (.tmp 171) rfl (by kernel_rfl) hy1) ?_
                            refine hK1.out _ _ hS1 (fun _ => ?_)
                            clear hK1 hy1
                            simp only [Act.put, List.setIfInBounds_toArray, List.set_cons_zero, List.set_cons_succ]
                            refine takeR (i := 5) (v := .bool false) (some 175) rfl rfl (by kernel_rfl) (by kernel_rfl) (by kernel_rfl) (fun _ _ _ h => h) (Or.inl ⟨by kernel_rfl, fun w' hSw => by exact neS_run (s := ofN (tpL cs p)) (t := ofN (tpL cs p)) (.tmp 172) (.tmp 174) rfl (by kernel_rfl) (by kernel_rfl) rfl _⟩) hS1 ?_
                            simp only [Act.put, List.setIfInBounds_toArray, List.set_cons_zero, List.set_cons_succ]
                            refine takeR (i := 6) (v := .bool false) (some 176) rfl rfl (by kernel_rfl) (by kernel_rfl) (by kernel_rfl) (fun _ _ _ h => h) (Or.inl ⟨by kernel_rfl, fun w' hSw => by kernel_rfl⟩) hS1 ?_
                            simp only [Act.put, List.setIfInBounds_toArray, List.set_cons_zero, List.set_cons_succ]
                            refine takeR (i := 7) (v := .slice aa p ca) (some 177) rfl rfl (by kernel_rfl) (by kernel_rfl) (by kernel_rfl) (fun _ _ _ h => h) (Or.inl ⟨by kernel_rfl, fun w' hSw => by kernel_rfl⟩) hS1 ?_
                            simp only [Act.put, List.setIfInBounds_toArray, List.set_cons_zero, List.set_cons_succ]
                            refine takeR (i := 8) (v := .int .i64 (p : Int)) (some 178) rfl rfl (by kernel_rfl) (by kernel_rfl) (by kernel_rfl) (fun _ _ _ h => h) (Or.inl ⟨by kernel_rfl, fun w' hSw => by kernel_rfl⟩) hS1 ?_
                            simp only [Act.put, List.setIfInBounds_toArray, List.set_cons_zero, List.set_cons_succ]
                            by_cases hp0 : p = 0
                            · skip
                              refine takeR (i := 9) (v := .bool true) (some 179) rfl rfl (by kernel_rfl) (by kernel_rfl) (by kernel_rfl) (fun _ _ _ h => h) (Or.inl ⟨by kernel_rfl, fun w' hSw => by exact eqI_run (z := (p : Int)) (y0 := 0) (.inr rfl) (.tmp 178) (.const (.int .i64 0)) rfl (by kernel_rfl) rfl (by rw [hp0]; rfl) _⟩) hS1 ?_
                              simp only [Act.put, List.setIfInBounds_toArray, List.set_cons_zero, List.set_cons_succ]
                              refine takeR (i := 10) (v := .bool true) (some 180) rfl rfl (by kernel_rfl) (by kernel_rfl) (by kernel_rfl) (fun _ _ _ h => h) (Or.inl ⟨by kernel_rfl, fun w' hSw => by kernel_rfl⟩) hS1 ?_
                              simp only [Act.put, List.setIfInBounds_toArray, List.set_cons_zero, List.set_cons_succ]
                              refine wpAnyH_done (by kernel_rfl) ?_ _
                              clear hS1 hp0
                              generalize ofN (tpL cs p) = sx
                              go_upto_region 45 with fail
                              have hbd : Below WE.heap.size WE WE.drew := ⟨rfl, rfl, rfl, Nat.le_refl _, fun _ _ => rfl⟩
                              have HRF : Hid (CO w WE.drew B (.slice aa p ca) ev (.slice ab L cb) cs p o p ∧ o.g = og) := ⟨HRE.out.1.below hbd, HRE.out.2⟩
                              clear hbd HRE
                              refine wp_region_held (S := fun w' => By w' (.slice ab L cb) (tpL cs p)) (by kernel_rfl) ?_
                              change wpAnyH _ _ _ _ _ _ _ _ (World.drew _)
                              have hS := HRF.out.1.cb.by'
                              have hby := Bytes_any HRF.out.1.tp HBD.out.1 HBD.out.2.1
                              rw [HRF.out.2, HBD.out.2.2] at hby
                              generalize WE.drew = WF at *
                              refine takeR (i := 0) (v := .pointer (some ⟨og, 0, none⟩)) (some 181) rfl rfl (by kernel_rfl) (by kernel_rfl) (by kernel_rfl) (fun _ _ _ h => h) (Or.inl ⟨by kernel_rfl, fun w' hSw => by kernel_rfl⟩) hS ?_
                              simp only [Act.put, List.setIfInBounds_toArray, List.set_cons_zero, List.set_cons_succ]
                              refine takeR (i := 3) (v := .slice ab L cb) (some 184) rfl rfl (by kernel_rfl) (by kernel_rfl) (by kernel_rfl) (fun _ _ _ h => h) (Or.inl ⟨by kernel_rfl, fun w' hSw => by kernel_rfl⟩) hS ?_
                              simp only [Act.put, List.setIfInBounds_toArray, List.set_cons_zero, List.set_cons_succ]
                              refine takeR (i := 4) (v := .string (ofN (tpL cs p))) (some 185) rfl rfl (by kernel_rfl) (by kernel_rfl) (by kernel_rfl) (fun _ _ _ h => h) (Or.inl ⟨by kernel_rfl, fun w' hSw => by exact conv_run (.tmp 184) rfl (by kernel_rfl) hSw⟩) hS ?_
                              simp only [Act.put, List.setIfInBounds_toArray, List.set_cons_zero, List.set_cons_succ]
                              refine wpAnyH_ready (rs := [1]) (by kernel_rfl) (by simp) ?_
                              refine AllReadyH.cons rfl (fun K1 hK1 => ?_) AllReadyH.nil
                              rw [if_pos (by kernel_rfl)]
                              refine callR (d := some 182) rfl 13 #[.pointer (some ⟨og, 0, none⟩)] (by kernel_rfl) hby ?_
                              rintro e WG ⟨v2, rfl, hx⟩
                              refine ⟨_, rfl, ?_⟩
                              have hS2 : By WG (.slice ab L cb) (tpL cs p) := hS.below hx.out.bel
                              have HF : Hid (Below w.heap.size w WG) := (HRF.out.1.below hx.out.bel).cb.bel
                              have hy2 := hx.out.by'
                              clear hx hby HRF hS
                              refine hK1.out _ _ hS2 (fun _ => ?_)
                              clear hK1
                              simp only [Act.put, List.setIfInBounds_toArray, List.set_cons_zero, List.set_cons_succ]
                              refine wpAnyH_ready (rs := [2]) (by kernel_rfl) (by simp) ?_
                              refine AllReadyH.cons rfl (fun K1 hK1 => ?_) AllReadyH.nil
                              rw [if_pos (by kernel_rfl)]
                              refine valR (d := some 183) rfl (.string (ofN (tpL cs p))) (conv_run (.tmp 182) rfl (by kernel_rfl) hy2) ?_
                              refine hK1.out _ _ hS2 (fun _ => ?_)
                              clear hK1 hy2
                              simp only [Act.put, List.setIfInBounds_toArray, List.set_cons_zero, List.set_cons_succ]
                              refine takeR (i := 5) (v := .bool true) (some 186) rfl rfl (by kernel_rfl) (by kernel_rfl) (by kernel_rfl) (fun _ _ _ h => h) (Or.inl ⟨by kernel_rfl, fun w' hSw => by exact eqS_run (s := ofN (tpL cs p)) (.tmp 183) (.tmp 185) rfl (by kernel_rfl) (by kernel_rfl) _⟩) hS2 ?_
                              simp only [Act.put, List.setIfInBounds_toArray, List.set_cons_zero, List.set_cons_succ]
                              refine takeR (i := 6) (v := .bool true) (some 6) rfl rfl (by kernel_rfl) (by kernel_rfl) (by kernel_rfl) (fun _ _ _ h => h) (Or.inl ⟨by kernel_rfl, fun w' hSw => by kernel_rfl⟩) hS2 ?_
                              simp only [Act.put, List.setIfInBounds_toArray, List.set_cons_zero, List.set_cons_succ]
                              refine wpAnyH_done (by kernel_rfl) ?_ _
                              clear hS2
                              generalize ofN (tpL cs p) = sy
                              go_wp2
                              go_ret
                              exact ⟨rfl, HF⟩
                            · skip
                              refine takeR (i := 9) (v := .bool false) (some 179) rfl rfl (by kernel_rfl) (by kernel_rfl) (by kernel_rfl) (fun _ _ _ h => h) (Or.inl ⟨by kernel_rfl, fun w' hSw => by exact eqI_run (z := (p : Int)) (y0 := 0) (.inr rfl) (.tmp 178) (.const (.int .i64 0)) rfl (by kernel_rfl) rfl (by simpa using hp0) _⟩) hS1 ?_
                              simp only [Act.put, List.setIfInBounds_toArray, List.set_cons_zero, List.set_cons_succ]
                              refine takeR (i := 10) (v := .bool false) (some 180) rfl rfl (by kernel_rfl) (by kernel_rfl) (by kernel_rfl) (fun _ _ _ h => h) (Or.inl ⟨by kernel_rfl, fun w' hSw => by kernel_rfl⟩) hS1 ?_
                              simp only [Act.put, List.setIfInBounds_toArray, List.set_cons_zero, List.set_cons_succ]
                              refine wpAnyH_done (by kernel_rfl) ?_ _
                              clear hS1
                              generalize ofN (tpL cs p) = sx
                              have hm60 : p ≤ 60 := HM.out
                              have hF6 := enN_lt cs (show p - 1 < p by omega)
                              have hF4 := enN_le cs (Nat.zero_le (p - 1))
                              rw [enN_zero] at hF4
                              rw [← HL.out.1] at hF6
                              obtain ⟨F, hF⟩ : ∃ F, F = enN cs (p - 1) := ⟨_, rfl⟩
                              rw [← hF] at hF4 hF6
                              have HF : Hid (F = enN cs (p - 1)) := hF
                              clear hF
                              obtain ⟨ea, ec, hef, _⟩ := HRE.out.1.cb.en.form
                              subst hef
                              go_upto_if 189 with fail
                              go_cut [25] from 189 to 195 (fun x25 wx => x25 = .int .i64 (F : Int) ∧ wx = WE)
                              case first => as_aux_lemma =>
                                by_cases h1 : 1 < p
                                · obtain ⟨eb, eo, ec', cur, hef', _⟩ := HRE.out.1.cb.en.more (by omega)
                                  injection hef' with he1 _ he2
                                  subst he1
                                  subst he2
                                  have hcl := row_int HRE.out.1.cb.en rfl (ensL_get cs (show p - 2 < p by omega))
                                  rw [show p - 2 + 1 = p - 1 by omega, ← HF.out] at hcl
                                  have h1' : (1 : Int) < (p : Int) := by omega
                                  have h2 : 2 ≤ p := by omega
                                  have h2' : (p : Int) - 2 < (p : Int) := by omega
                                  have h3' : p - 2 < p := by omega
                                  go_wp2
                                  go_meet
                                  exact ⟨rfl, rfl⟩
                                · have h1' : ¬ (1 : Int) < (p : Int) := by omega
                                  have HF4 : Hid (F = 4) := by
                                    show F = 4
                                    rw [HF.out, show p - 1 = 0 by omega, enN_zero]
                                  go_wp2
                                  go_meet
                                  exact ⟨by rw [HF4.out]; rfl, rfl⟩
                              case rest =>
                                obtain ⟨rfl, hw⟩ := hcut
                                subst hw
                                have hsrc := HRE.out.1.cb.by'.src.2.2.1
                                have hle := lent8_any ab L cb (dN (tpL cs p)) wc (by omega) hsrc
                                clear hsrc
                                go_upto_region 49 with fail
                                rename_i K hK
                                refine wp_region_lit ?_
                                refine wpList_runTo rfl (some 196) rfl (.slice ab L cb) wc (by kernel_rfl) ?_
                                simp only [Act.put, List.setIfInBounds_toArray, List.set_cons_zero, List.set_cons_succ]
                                refine wpList_callW rfl (some 197) rfl 17 #[.slice ab L cb] (by kernel_rfl) hle ?_
                                clear hle
                                rintro e WH ⟨rfl, ho, hb⟩
                                refine ⟨_, rfl, ?_⟩
                                simp only [Act.put, List.setIfInBounds_toArray, List.set_cons_zero, List.set_cons_succ]
                                have HG : Hid (Below w.heap.size w WH ∧ OwnA WH wc.heap.size (L + 8) (fun j => if j < L then dN (tpL cs p) j else 201) ∧ w.heap.size ≤ wc.heap.size ∧ BB (tpL cs p) ∧ ∀ j, j < p → encE (cs j) = 0) := ⟨below_step HRE.out.1.cb.bel hb, ho, HRE.out.1.cb.bel.size, HRE.out.1.cb.by'.bb, fun j hj => (HRE.out.1.cb.hE j hj).1⟩
                                clear ho hb HRE HBD
                                generalize wc.heap.size = g at *
                                refine wpList_runTo rfl (some 26) rfl (.slice (some ⟨g, 0, none⟩) L (L + 8)) WH (by kernel_rfl) ?_
                                simp only [Act.put, List.setIfInBounds_toArray, List.set_cons_zero, List.set_cons_succ]
                                refine wpList_nil ?_
                                refine hK _ _ ?_
                                clear hK
                                obtain ⟨L8, hL8⟩ : ∃ L8, L8 = L + 8 := ⟨_, rfl⟩
                                have HL8 : Hid (L8 = L + 8) := hL8
                                rw [← hL8]
                                clear hL8
                                go_upto_region 50 with fail
                                rename_i K hK
                                refine wp_region_lit ?_
                                refine wpList_runTo rfl (some 198) rfl (.int .i64 (F : Int)) WH (by kernel_rfl) ?_
                                simp only [Act.put, List.setIfInBounds_toArray, List.set_cons_zero, List.set_cons_succ]
                                refine wpList_runTo rfl (some 199) rfl (.int .i64 (k : Int)) WH (by kernel_rfl) ?_
                                simp only [Act.put, List.setIfInBounds_toArray, List.set_cons_zero, List.set_cons_succ]
                                refine wpList_runTo rfl (some 200) rfl (.slice ab L cb) WH (by kernel_rfl) ?_
                                simp only [Act.put, List.setIfInBounds_toArray, List.set_cons_zero, List.set_cons_succ]
                                refine wpList_runTo rfl (some 201) rfl (.int .i64 (L : Int)) WH (by kernel_rfl) ?_
                                simp only [Act.put, List.setIfInBounds_toArray, List.set_cons_zero, List.set_cons_succ]
                                refine wpList_runTo rfl (some 202) rfl (.int .i64 (F : Int)) WH (by kernel_rfl) ?_
                                simp only [Act.put, List.setIfInBounds_toArray, List.set_cons_zero, List.set_cons_succ]
                                refine wpList_runTo rfl (some 203) rfl (.int .i64 ((L - F : Nat) : Int)) WH (by exact subN_run (.tmp 201) (.tmp 202) rfl (by kernel_rfl) (by kernel_rfl) (by omega) (by omega) _) ?_
                                simp only [Act.put, List.setIfInBounds_toArray, List.set_cons_zero, List.set_cons_succ]
                                refine wpList_runTo rfl (some 204) rfl (.int .i64 ((k % (L - F) : Nat) : Int)) WH (by exact remN_run (.tmp 199) (.tmp 203) rfl (by kernel_rfl) (by kernel_rfl) (by omega) (by omega) _) ?_
                                simp only [Act.put, List.setIfInBounds_toArray, List.set_cons_zero, List.set_cons_succ]
                                have hmod := Nat.mod_lt k (show 0 < L - F by omega)
                                refine wpList_runTo rfl (some 205) rfl (.int .i64 ((F + k % (L - F) : Nat) : Int)) WH (by exact addN_run (.tmp 198) (.tmp 204) rfl (by kernel_rfl) (by kernel_rfl) (by omega) _) ?_
                                simp only [Act.put, List.setIfInBounds_toArray, List.set_cons_zero, List.set_cons_succ]
                                obtain ⟨P, hP⟩ : ∃ P, P = F + k % (L - F) := ⟨_, rfl⟩
                                have hPL : P < L := by omega
                                have hFP : F ≤ P := by omega
                                rw [← hP]
                                clear hP hmod
                                generalize k % (L - F) = kx
                                generalize L - F = LF
                                refine wpList_runTo rfl (some 27) rfl (.int .i64 (P : Int)) WH (by kernel_rfl) ?_
                                simp only [Act.put, List.setIfInBounds_toArray, List.set_cons_zero, List.set_cons_succ]
                                refine wpList_nil ?_
                                refine hK _ _ ?_
                                clear hK
                                obtain ⟨T, hT⟩ : ∃ T : Nat, T = (turn % 256).toNat := ⟨_, rfl⟩
                                have hTw : IntKind.u8.wrap turn = (T : Int) := by rw [IntKind.wrap_u8]; omega
                                have hT6 : T < 256 := by omega
                                clear hT
                                have hcP : WH.cell? ⟨g, P, none⟩ = some (.int .u8 ((dN (tpL cs p) P : Nat) : Int)) := by
                                  have := HG.out.2.1.cell P (by omega)
                                  rw [if_pos hPL] at this
                                  exact this
                                have hfP := HG.out.2.1.froz P
                                have hx6 : dN (tpL cs p) P < 256 := dN_bb HG.out.2.2.2.1 P (by have := HL.out.1; unfold enN at this; omega)
                                have hy6 : dN (tpL cs p) P ^^^ T < 256 := Nat.xor_lt_two_pow (n := 8) hx6 hT6
                                have HY : Hid (Below w.heap.size w (WH.setCell ⟨g, P, none⟩ (.int .u8 ((dN (tpL cs p) P ^^^ T : Nat) : Int))) ∧ By (WH.setCell ⟨g, P, none⟩ (.int .u8 ((dN (tpL cs p) P ^^^ T : Nat) : Int))) (.slice (some ⟨g, 0, none⟩) L L8) ((tpL cs p).set P (dN (tpL cs p) P ^^^ T)) ∧ g < (WH.setCell ⟨g, P, none⟩ (.int .u8 ((dN (tpL cs p) P ^^^ T : Nat) : Int))).heap.size) := by
                                  have hO := HG.out.2.1.set P (dN (tpL cs p) P ^^^ T) (by omega) hy6
                                  have hlen : (tpL cs p).length = L := HL.out.1.symm
                                  refine ⟨below_fr HG.out.1 (Fr.setCell WH ⟨g, P, none⟩ _ (fun b => b = g) rfl) fun b e => by rw [e]; exact HG.out.2.2.1, ?_, hO.lt⟩
                                  rw [HL8.out]
                                  refine own_by hO (by rw [List.length_set]; exact hlen) (HG.out.2.2.2.1.set hy6) fun j hj => ?_
                                  by_cases e : j = P
                                  · rw [if_pos e, e, dN_set_eq (by omega)]
                                  · rw [if_neg e, if_pos hj, dN_set_ne e]
                                go_upto_region 51 with fail
                                rename_i K hK
                                refine wp_region_lit ?_
                                refine wpList_runTo rfl (some 206) rfl (.slice (some ⟨g, 0, none⟩) L L8) WH (by kernel_rfl) ?_
                                simp only [Act.put, List.setIfInBounds_toArray, List.set_cons_zero, List.set_cons_succ]
                                refine wpList_runTo rfl (some 207) rfl (.int .i64 (P : Int)) WH (by kernel_rfl) ?_
                                simp only [Act.put, List.setIfInBounds_toArray, List.set_cons_zero, List.set_cons_succ]
                                refine wpList_runTo rfl (some 208) rfl (.slice (some ⟨g, 0, none⟩) L L8) WH (by kernel_rfl) ?_
                                simp only [Act.put, List.setIfInBounds_toArray, List.set_cons_zero, List.set_cons_succ]
                                refine wpList_runTo rfl (some 209) rfl (.int .i64 (P : Int)) WH (by kernel_rfl) ?_
                                simp only [Act.put, List.setIfInBounds_toArray, List.set_cons_zero, List.set_cons_succ]
                                refine wpList_runTo rfl (some 210) rfl (.pointer (some ⟨g, P, none⟩)) WH (by exact ixZ_run (c := L8) (.tmp 208) (.tmp 209) rfl (by kernel_rfl) (by kernel_rfl) hPL _) ?_
                                simp only [Act.put, List.setIfInBounds_toArray, List.set_cons_zero, List.set_cons_succ]
                                refine wpList_runTo rfl (some 211) rfl (.int .u8 ((dN (tpL cs p) P : Nat) : Int)) WH (by exact ld5_run (.tmp 210) rfl (by kernel_rfl) hcP) ?_
                                simp only [Act.put, List.setIfInBounds_toArray, List.set_cons_zero, List.set_cons_succ]
                                refine wpList_runTo rfl (some 212) rfl (.int .i64 turn) WH (by kernel_rfl) ?_
                                simp only [Act.put, List.setIfInBounds_toArray, List.set_cons_zero, List.set_cons_succ]
                                refine wpList_runTo rfl (some 213) rfl (.int .u8 (T : Int)) WH (by exact cvb_run (.tmp 212) rfl (by kernel_rfl) hTw _) ?_
                                simp only [Act.put, List.setIfInBounds_toArray, List.set_cons_zero, List.set_cons_succ]
                                refine wpList_runTo rfl (some 214) rfl (.int .u8 ((dN (tpL cs p) P ^^^ T : Nat) : Int)) WH (by exact xrb_run (.tmp 211) (.tmp 213) rfl (by kernel_rfl) (by kernel_rfl) hx6 hT6 _) ?_
                                simp only [Act.put, List.setIfInBounds_toArray, List.set_cons_zero, List.set_cons_succ]
                                refine wpList_runTo rfl (some 215) rfl (.pointer (some ⟨g, P, none⟩)) WH (by exact ixZ_run (c := L8) (.tmp 206) (.tmp 207) rfl (by kernel_rfl) (by kernel_rfl) hPL _) ?_
                                simp only [Act.put, List.setIfInBounds_toArray, List.set_cons_zero, List.set_cons_succ]
                                refine wpList_plain rfl fun K1 hK1 => ?_
                                refine skipR (d := none) rfl (w' := WH.setCell ⟨g, P, none⟩ (.int .u8 ((dN (tpL cs p) P ^^^ T : Nat) : Int))) (st5_run (.tmp 215) (.tmp 214) rfl (by kernel_rfl) (by kernel_rfl) hcP hfP) ?_
                                refine hK1 _ _ ?_
                                clear hK1 hcP hfP
                                simp only [Act.put, List.setIfInBounds_toArray, List.set_cons_zero, List.set_cons_succ]
                                refine wpList_nil ?_
                                refine hK _ _ ?_
                                clear hK
                                have HT : Hid (∀ (es : List Nat) (a : Nat), Chain ((tpL cs p).set P (dN (tpL cs p) P ^^^ T)) es a → (es.length = 1000000 ∨ ∀ n, ¬ FrOk es.length (((tpL cs p).set P (dN (tpL cs p) P ^^^ T)).drop a) n) → (T = 0 → es.length = p) ∧ (T ≠ 0 → es.length = p - 1 ∧ a = F)) := fun es a h1 h2 => by
                                  have := turned_open (cs := cs) (p := p) (P := P) (T := T) (by omega) hm60 HG.out.2.2.2.2 HG.out.2.2.2.1 (by rw [← HF.out]; exact hFP) (by rw [← HL.out.1]; exact hPL) hT6 h1 h2
                                  rw [← HF.out] at this
                                  exact this
                                have HM4 : Hid (((tpL cs p).set P (dN (tpL cs p) P ^^^ T)).take 4 = magic ∧ ((tpL cs p).set P (dN (tpL cs p) P ^^^ T)).length = L) := by
                                  have h4 := tpL_take4 cs p (k := (tpL cs p).length) (by have := HL.out; unfold enN at this; omega)
                                  rw [List.take_length] at h4
                                  exact ⟨by rw [List.take_set_of_le (by omega)]; exact h4, by rw [List.length_set]; exact HL.out.1.symm⟩
                                clear HG hx6 hy6
                                generalize dN (tpL cs p) P ^^^ T = y at *
                                generalize dN (tpL cs p) P = x at *
                                generalize (tpL cs p).set P y = l2 at *
                                generalize WH.setCell ⟨g, P, none⟩ (.int .u8 (y : Int)) = WI at *
                                have hop := Open_yes HY.out.2.1 (.inr fun q hq => by
                                  have e : g = q := by injection hq
                                  rw [← e]; exact HY.out.2.2) (by rw [HM4.out.2]; omega) HM4.out.1
                                go_upto_region 52 with fail
                                rename_i K hK
                                refine wp_region_lit ?_
                                refine wpList_runTo rfl (some 217) rfl (.slice (some ⟨g, 0, none⟩) L L8) WI (by kernel_rfl) ?_
                                simp only [Act.put, List.setIfInBounds_toArray, List.set_cons_zero, List.set_cons_succ]
                                refine wpList_callW rfl (some 218) rfl 14 #[.slice (some ⟨g, 0, none⟩) L L8] (by kernel_rfl) hop ?_
                                clear hop
                                rintro e WJ ⟨o2, at_, rfl, hx⟩
                                refine ⟨_, rfl, ?_⟩
                                simp only [Act.put, List.setIfInBounds_toArray, List.set_cons_zero, List.set_cons_succ]
                                have HJ : Hid (Below w.heap.size w WJ ∧ TpAt WJ o2 ∧ (T = 0 → o2.es.length = p) ∧ (T ≠ 0 → o2.es.length = p - 1 ∧ at_ = F)) := ⟨below_step HY.out.1 hx.out.2.2.2.2.2.2.1, hx.out.1, HT.out _ _ hx.out.2.2.1 hx.out.2.2.2.2.2.1⟩
                                clear hx HY HT HM4
                                obtain ⟨g2, hg2⟩ : ∃ g2, g2 = o2.g := ⟨_, rfl⟩
                                refine wpList_runTo rfl (some 216) rfl (.tuple #[.pointer (some ⟨o2.g, 0, none⟩), .int .i64 (at_ : Int), .int .i64 0]) WJ (by kernel_rfl) ?_
                                simp only [Act.put, List.setIfInBounds_toArray, List.set_cons_zero, List.set_cons_succ]
                                refine wpList_runTo rfl (some 219) rfl (.pointer (some ⟨o2.g, 0, none⟩)) WJ (by kernel_rfl) ?_
                                simp only [Act.put, List.setIfInBounds_toArray, List.set_cons_zero, List.set_cons_succ]
                                refine wpList_runTo rfl (some 220) rfl (.int .i64 (at_ : Int)) WJ (by kernel_rfl) ?_
                                simp only [Act.put, List.setIfInBounds_toArray, List.set_cons_zero, List.set_cons_succ]
                                refine wpList_runTo rfl (some 221) rfl (.int .i64 0) WJ (by kernel_rfl) ?_
                                simp only [Act.put, List.setIfInBounds_toArray, List.set_cons_zero, List.set_cons_succ]
                                refine wpList_runTo rfl (some 15) rfl (.pointer (some ⟨o2.g, 0, none⟩)) WJ (by kernel_rfl) ?_
                                simp only [Act.put, List.setIfInBounds_toArray, List.set_cons_zero, List.set_cons_succ]
                                refine wpList_runTo rfl (some 16) rfl (.int .i64 (at_ : Int)) WJ (by kernel_rfl) ?_
                                simp only [Act.put, List.setIfInBounds_toArray, List.set_cons_zero, List.set_cons_succ]
                                refine wpList_runTo rfl (some 17) rfl (.int .i64 0) WJ (by kernel_rfl) ?_
                                simp only [Act.put, List.setIfInBounds_toArray, List.set_cons_zero, List.set_cons_succ]
                                refine wpList_nil ?_
                                refine hK _ _ ?_
                                clear hK
                                have hln := Len_any HJ.out.2.1 (by
                                  by_cases e : T = 0
                                  · rw [HJ.out.2.2.1 e]; omega
                                  · rw [(HJ.out.2.2.2 e).1]; omega)
                                rw [← hg2] at hln ⊢
                                clear hg2
                                go_upto_region 53 with fail
                                rename_i K hK
                                refine wp_region_lit ?_
                                refine wpList_runTo rfl (some 222) rfl (.int .i64 turn) WJ (by kernel_rfl) ?_
                                simp only [Act.put, List.setIfInBounds_toArray, List.set_cons_zero, List.set_cons_succ]
                                refine wpList_runTo rfl (some 223) rfl (.int .u8 (T : Int)) WJ (by exact cvb_run (.tmp 222) rfl (by kernel_rfl) hTw _) ?_
                                simp only [Act.put, List.setIfInBounds_toArray, List.set_cons_zero, List.set_cons_succ]
                                by_cases hT0 : T = 0
                                · skip
                                  rw [HJ.out.2.2.1 hT0] at hln
                                  refine wpList_runTo rfl (some 224) rfl (.bool true) WJ (by exact eqB_run (t := T) (.tmp 223) (.const (.int .u8 0)) rfl (by kernel_rfl) rfl (by rw [hT0]; rfl) _) ?_
                                  simp only [Act.put, List.setIfInBounds_toArray, List.set_cons_zero, List.set_cons_succ]
                                  refine wpList_nil ?_
                                  refine hK _ _ ?_
                                  clear hK hT0
                                  go_upto_region 54 with fail
                                  rename_i K hK
                                  refine wp_region_lit ?_
                                  refine wpList_runTo rfl (some 225) rfl (.pointer (some ⟨g2, 0, none⟩)) WJ (by kernel_rfl) ?_
                                  simp only [Act.put, List.setIfInBounds_toArray, List.set_cons_zero, List.set_cons_succ]
                                  refine wpList_runTo rfl (some 226) rfl (.bool true) WJ (by exact ptrT_run (ad := ⟨g2, 0, none⟩) (.tmp 225) (.const (.pointer none)) rfl (by kernel_rfl) rfl _) ?_
                                  simp only [Act.put, List.setIfInBounds_toArray, List.set_cons_zero, List.set_cons_succ]
                                  refine wpList_runTo rfl (some 227) rfl (.bool true) WJ (by kernel_rfl) ?_
                                  simp only [Act.put, List.setIfInBounds_toArray, List.set_cons_zero, List.set_cons_succ]
                                  refine wpList_runToG (by kernel_rfl) (some 228) rfl (.pointer (some ⟨g2, 0, none⟩)) WJ (by kernel_rfl) ?_
                                  simp only [Act.put, List.setIfInBounds_toArray, List.set_cons_zero, List.set_cons_succ]
                                  refine wpList_callG (by kernel_rfl) (some 229) rfl 15 #[.pointer (some ⟨g2, 0, none⟩)] (by kernel_rfl) hln ?_
                                  clear hln
                                  rintro e w2 ⟨rfl, ew⟩
                                  replace ew := ew.symm
                                  subst ew
                                  refine ⟨_, rfl, ?_⟩
                                  simp only [Act.put, List.setIfInBounds_toArray, List.set_cons_zero, List.set_cons_succ]
                                  refine wpList_runToG (by kernel_rfl) (some 230) rfl (.slice aa p ca) WJ (by kernel_rfl) ?_
                                  simp only [Act.put, List.setIfInBounds_toArray, List.set_cons_zero, List.set_cons_succ]
                                  refine wpList_runToG (by kernel_rfl) (some 231) rfl (.int .i64 (p : Int)) WJ (by kernel_rfl) ?_
                                  simp only [Act.put, List.setIfInBounds_toArray, List.set_cons_zero, List.set_cons_succ]
                                  refine wpList_runToG (by kernel_rfl) (some 232) rfl (.bool true) WJ (by exact eqI_run (z := (p : Int)) (y0 := (p : Int)) (.inr rfl) (.tmp 229) (.tmp 231) rfl (by kernel_rfl) (by kernel_rfl) (by simp) _) ?_
                                  simp only [Act.put, List.setIfInBounds_toArray, List.set_cons_zero, List.set_cons_succ]
                                  refine wpList_runTo rfl (some 233) rfl (.bool true) WJ (by kernel_rfl) ?_
                                  simp only [Act.put, List.setIfInBounds_toArray, List.set_cons_zero, List.set_cons_succ]
                                  refine wpList_runTo rfl (some 6) rfl (.bool true) WJ (by kernel_rfl) ?_
                                  simp only [Act.put, List.setIfInBounds_toArray, List.set_cons_zero, List.set_cons_succ]
                                  refine wpList_nil ?_
                                  refine hK _ _ ?_
                                  clear hK
                                  go_wp2
                                  go_ret
                                  exact ⟨rfl, HJ.out.1⟩
                                · skip
                                  rw [(HJ.out.2.2.2 hT0).1] at hln
                                  have HAt : Hid (at_ = F) := (HJ.out.2.2.2 hT0).2
                                  refine wpList_runTo rfl (some 224) rfl (.bool false) WJ (by exact eqB_run (t := T) (.tmp 223) (.const (.int .u8 0)) rfl (by kernel_rfl) rfl (by simpa using hT0) _) ?_
                                  simp only [Act.put, List.setIfInBounds_toArray, List.set_cons_zero, List.set_cons_succ]
                                  refine wpList_nil ?_
                                  refine hK _ _ ?_
                                  clear hK hT0
                                  go_upto_region 55 with fail
                                  rename_i K hK
                                  refine wp_region_lit ?_
                                  refine wpList_runTo rfl (some 234) rfl (.pointer (some ⟨g2, 0, none⟩)) WJ (by kernel_rfl) ?_
                                  simp only [Act.put, List.setIfInBounds_toArray, List.set_cons_zero, List.set_cons_succ]
                                  refine wpList_runTo rfl (some 235) rfl (.bool true) WJ (by exact ptrT_run (ad := ⟨g2, 0, none⟩) (.tmp 234) (.const (.pointer none)) rfl (by kernel_rfl) rfl _) ?_
                                  simp only [Act.put, List.setIfInBounds_toArray, List.set_cons_zero, List.set_cons_succ]
                                  refine wpList_runTo rfl (some 236) rfl (.bool true) WJ (by kernel_rfl) ?_
                                  simp only [Act.put, List.setIfInBounds_toArray, List.set_cons_zero, List.set_cons_succ]
                                  refine wpList_runToG (by kernel_rfl) (some 237) rfl (.int .i64 0) WJ (by kernel_rfl) ?_
                                  simp only [Act.put, List.setIfInBounds_toArray, List.set_cons_zero, List.set_cons_succ]
                                  refine wpList_runToG (by kernel_rfl) (some 238) rfl (.bool true) WJ (by kernel_rfl) ?_
                                  simp only [Act.put, List.setIfInBounds_toArray, List.set_cons_zero, List.set_cons_succ]
                                  refine wpList_runTo rfl (some 239) rfl (.bool true) WJ (by kernel_rfl) ?_
                                  simp only [Act.put, List.setIfInBounds_toArray, List.set_cons_zero, List.set_cons_succ]
                                  refine wpList_runTo rfl (some 240) rfl (.bool true) WJ (by kernel_rfl) ?_
                                  simp only [Act.put, List.setIfInBounds_toArray, List.set_cons_zero, List.set_cons_succ]
                                  refine wpList_runToG (by kernel_rfl) (some 241) rfl (.pointer (some ⟨g2, 0, none⟩)) WJ (by kernel_rfl) ?_
                                  simp only [Act.put, List.setIfInBounds_toArray, List.set_cons_zero, List.set_cons_succ]
                                  refine wpList_callG (by kernel_rfl) (some 242) rfl 15 #[.pointer (some ⟨g2, 0, none⟩)] (by kernel_rfl) hln ?_
                                  clear hln
                                  rintro e w2 ⟨rfl, ew⟩
                                  replace ew := ew.symm
                                  subst ew
                                  refine ⟨_, rfl, ?_⟩
                                  simp only [Act.put, List.setIfInBounds_toArray, List.set_cons_zero, List.set_cons_succ]
                                  refine wpList_runToG (by kernel_rfl) (some 243) rfl (.slice aa p ca) WJ (by kernel_rfl) ?_
                                  simp only [Act.put, List.setIfInBounds_toArray, List.set_cons_zero, List.set_cons_succ]
                                  refine wpList_runToG (by kernel_rfl) (some 244) rfl (.int .i64 (p : Int)) WJ (by kernel_rfl) ?_
                                  simp only [Act.put, List.setIfInBounds_toArray, List.set_cons_zero, List.set_cons_succ]
                                  refine wpList_runToG (by kernel_rfl) (some 245) rfl (.int .i64 ((p - 1 : Nat) : Int)) WJ (by exact subN_run (p := p) (q := 1) (.tmp 244) (.const (.int .i64 1)) rfl (by kernel_rfl) rfl (by omega) (by omega) _) ?_
                                  simp only [Act.put, List.setIfInBounds_toArray, List.set_cons_zero, List.set_cons_succ]
                                  refine wpList_runToG (by kernel_rfl) (some 246) rfl (.bool true) WJ (by exact eqI_run (z := ((p - 1 : Nat) : Int)) (y0 := ((p - 1 : Nat) : Int)) (.inr rfl) (.tmp 242) (.tmp 245) rfl (by kernel_rfl) (by kernel_rfl) (by simp) _) ?_
                                  simp only [Act.put, List.setIfInBounds_toArray, List.set_cons_zero, List.set_cons_succ]
                                  refine wpList_runTo rfl (some 247) rfl (.bool true) WJ (by kernel_rfl) ?_
                                  simp only [Act.put, List.setIfInBounds_toArray, List.set_cons_zero, List.set_cons_succ]
                                  refine wpList_runTo rfl (some 248) rfl (.bool true) WJ (by kernel_rfl) ?_
                                  simp only [Act.put, List.setIfInBounds_toArray, List.set_cons_zero, List.set_cons_succ]
                                  refine wpList_runToG (by kernel_rfl) (some 249) rfl (.int .i64 (at_ : Int)) WJ (by kernel_rfl) ?_
                                  simp only [Act.put, List.setIfInBounds_toArray, List.set_cons_zero, List.set_cons_succ]
                                  refine wpList_runToG (by kernel_rfl) (some 250) rfl (.int .i64 (F : Int)) WJ (by kernel_rfl) ?_
                                  simp only [Act.put, List.setIfInBounds_toArray, List.set_cons_zero, List.set_cons_succ]
                                  refine wpList_runToG (by kernel_rfl) (some 251) rfl (.bool true) WJ (by exact eqI_run (z := (at_ : Int)) (y0 := (F : Int)) (.inr rfl) (.tmp 249) (.tmp 250) rfl (by kernel_rfl) (by kernel_rfl) (by rw [HAt.out]; simp) _) ?_
                                  simp only [Act.put, List.setIfInBounds_toArray, List.set_cons_zero, List.set_cons_succ]
                                  refine wpList_runTo rfl (some 252) rfl (.bool true) WJ (by kernel_rfl) ?_
                                  simp only [Act.put, List.setIfInBounds_toArray, List.set_cons_zero, List.set_cons_succ]
                                  refine wpList_runTo rfl (some 6) rfl (.bool true) WJ (by kernel_rfl) ?_
                                  simp only [Act.put, List.setIfInBounds_toArray, List.set_cons_zero, List.set_cons_succ]
                                  refine wpList_nil ?_
                                  refine hK _ _ ?_
                                  clear hK
                                  go_wp2
                                  go_ret
                                  exact ⟨rfl, HJ.out.1⟩
theorem TapeCut_row {w : World} (a0 : Option Addr) (n0 c0 : Nat) (t0 : Nat → Cm) (hn : n0 ≤ maxLen) (hs : SrcC w a0 n0 t0) (cut turn : Int) (hc : -9223372036854775808 ≤ cut ∧ cut ≤ 9223372036854775807) (ht : -9223372036854775808 ≤ turn ∧ turn ≤ 9223372036854775807) : Calls Try.prog 4 #[.slice a0 n0 c0, .int .i64 cut, .int .i64 turn] w fun e w' => e = .returned (.bool true) ∧ Below w.heap.size w w' := (TapeCut_law a0 n0 c0 t0 hn hs cut turn hc.1 hc.2 ht.1 ht.2).mono fun _ _ ⟨h1, h2⟩ => ⟨h1, h2.out⟩
end Go.Proofs.Ytjnnecoikcmaeaa
