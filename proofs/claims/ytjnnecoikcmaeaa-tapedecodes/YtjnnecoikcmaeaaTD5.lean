/-
  tape: TapeDecodes' walk (laid by gentd5.py).
-/
import Derived.Test.YtjnnecoikcmaeaaTR3
import Derived.Test.YtjnnecoikcmaeaaTD3
import Derived.Test.YtjnnecoikcmaeaaTD4
namespace Go.Proofs.Ytjnnecoikcmaeaa
set_option linter.unusedVariables false
set_option linter.unusedSimpArgs false
open Go.RowKit Go.Great

/-- Where TapeDecodes stands: the bytes that came in, the list that was lent, and blocks of one's own. -/
structure TS (w W : World) (v : Value) (l : List Nat) (g : Nat) (f : Nat → Nat) (bs : List (Nat × TypeId × Array Value)) : Prop where
  bel : Below w.heap.size w W
  by' : By W v l
  hv : l = [] ∨ ∀ q, v.ownBlock = some q → q < w.heap.size
  own : OwnA W g (l.length + 8) f
  gg : w.heap.size ≤ g
  bk : ∀ x ∈ bs, Blk W x.1 x.2.1 x.2.2 ∧ x.1 ≠ g
section
variable {w W W' : World} {v : Value} {l : List Nat} {g : Nat} {f f' : Nat → Nat} {bs : List (Nat × TypeId × Array Value)}
theorem TS.below (h : TS w W v l g f bs) (hb : Below W.heap.size W W') : TS w W' v l g f bs :=
  ⟨below_step h.bel hb, h.by'.below hb, h.hv, h.own.keep (hb.block g h.own.lt), h.gg, fun x hx => ⟨(h.bk x hx).1.below hb (h.bk x hx).1.lt, (h.bk x hx).2⟩⟩
theorem TS.add (h : TS w W v l g f bs) {p : Nat} {T : TypeId} {cs : Array Value} (hb : Blk W p T cs) (hp : p ≠ g) : TS w W v l g f ((p, T, cs) :: bs) :=
  ⟨h.bel, h.by', h.hv, h.own, h.gg, fun x hx => by
    rcases List.mem_cons.1 hx with e | e
    · subst e; exact ⟨hb, hp⟩
    · exact h.bk x e⟩
theorem TS.turn (h : TS w W v l g f bs) (hf : Fr W W' (fun b => b = g)) (ho : OwnA W' g (l.length + 8) f') : TS w W' v l g f' bs := by
  refine ⟨⟨hf.os.trans h.bel.os, hf.tape.trans h.bel.tape, hf.output.trans h.bel.output, Nat.le_trans h.bel.size hf.size, fun q hq => (hf.block q (Nat.lt_of_lt_of_le hq h.bel.size) fun e => ?_).trans (h.bel.block q hq)⟩, h.by'.frE hf ?_, h.hv, ho, h.gg, fun x hx => ⟨(h.bk x hx).1.fr hf (h.bk x hx).2, (h.bk x hx).2⟩⟩
  · have := h.gg; omega
  · rcases h.hv with e | e
    · exact .inl e
    · refine .inr fun q hq e2 => ?_
      have := e q hq
      have := h.gg
      omega
theorem TS.lent (h : TS w W v l g f bs) (m : List Nat) (hm : m.length = l.length) (hb : BB m) (hf : ∀ j, j < l.length → f j = dN m j) : By W (.slice (some ⟨g, 0, none⟩) l.length (l.length + 8)) m := by
  refine ⟨⟨some ⟨g, 0, none⟩, l.length + 8, by rw [hm], by omega, fun e => (by cases e), .inr ⟨g, 0, rfl, fun j x hj => ?_⟩⟩, hb⟩
  have hj' := (List.getElem?_eq_some_iff.1 hj).1
  have := h.own.cell j (by omega)
  rw [Nat.zero_add, this, hf j (by omega), dN_at hj']
  rw [List.getElem?_eq_getElem hj'] at hj
  injection hj with hj
  rw [hj]
end
def revD (l : List Nat) (k j : Nat) : Nat := if j < k then dN l (l.length - 1 - j) else 202
theorem BB.rev {l : List Nat} (h : BB l) : BB l.reverse := fun x hx => h x (List.mem_reverse.1 hx)
theorem dN_rev (l : List Nat) {j : Nat} (h : j < l.length) : dN l.reverse j = dN l (l.length - 1 - j) := by
  rw [dN_at (by rw [List.length_reverse]; exact h), dN_at (by omega), List.getElem_reverse]
/-- A store of a command into a new block. -/
theorem newC (W : World) (c : Cm) : Below W.heap.size W ((W.alloc (.cells zeroC.cs 27)).setRow W.heap.size c.cs) ∧ Blk ((W.alloc (.cells zeroC.cs 27)).setRow W.heap.size c.cs) W.heap.size 27 c.cs := ⟨below_setRow ((Below.refl _ W).alloc (Nat.le_refl _) _) (Nat.le_refl _) _, (Blk.new W _ _).row⟩
theorem conv_back {w : World} {l : List Nat} (hb : BB l) : ∃ v w', (convert 9 28 (.string (ofN l))).run Try.prog w = .ok v w' ∧ By w' v l ∧ Below w.heap.size w w' := by
  refine ⟨_, _, Lib.run_convert_string_bytes w 9 28 5 (ofN l) Try.underlying9 Try.underlying28 Try.underlying5, ⟨⟨some ⟨w.heap.size, 0, none⟩, _, by rw [ofN_size], ?_, fun e => (by cases e), .inr ⟨w.heap.size, 0, rfl, fun j x hj => ?_⟩⟩, hb⟩, ?_⟩
  · rw [← ofN_size l]; exact grownCap_ge _ _ _ _
  · have hj' := (List.getElem?_eq_some_iff.1 hj).1
    have := Lib.bytesWorld_cell w 5 (ofN l) j (by rw [ofN_size]; exact hj')
    rw [Nat.zero_add, this]
    have e1 : ((ofN l).data.toList.getD j 0).toNat = x := by
      have h1 : (sB (ofN l)).getD j 0 = ((ofN l).data.toList.getD j 0).toNat := by
        unfold sB
        rw [List.getD_eq_getElem?_getD, List.getD_eq_getElem?_getD, List.getElem?_map]
        cases (ofN l).data.toList[j]? <;> rfl
      rw [← h1, sB_ofN hb, List.getD_eq_getElem?_getD, hj]
      rfl
    rw [e1]
  · exact ⟨rfl, rfl, rfl, by rw [Lib.bytesWorld_size]; omega, fun q hq => Lib.bytesWorld_at_old w 5 (ofN l) q hq⟩
theorem wpList_skipU {P : Program} {ops : Array Oper} {rest : List Oper} {o : Oper} {a : Act} {w : World} {Q : Exit → Act → World → Prop} {un : Value} (hun : un = undef) (hw : Region.wanted o (yielded ops a.tmps) = false) (dst : Option Tmp) (hdst : o.dst = dst) (h : wpList P ops Q rest (a.put dst un) w) : wpList P ops Q (o :: rest) a w := by
  subst hdst hun
  exact wpList_skip hw h
theorem ifE_run {op : Oper} {a : Act} {ad : Addr} (x y : Operand) (ho : op.op = .binOp .eql 34 x y 34) (hx : a.eval x = .iface 54 (.pointer (some ad))) (hy : a.eval y = .nilIface) (w : World) : (execOp a.eval op).run Try.prog w = .ok (.value (.bool false)) w := by
  unfold execOp
  simp only [ho, hx, hy]
  go_simp
theorem ifN_run {op : Oper} {a : Act} {ad : Addr} (x y : Operand) (ho : op.op = .binOp .neq 34 x y 34) (hx : a.eval x = .iface 54 (.pointer (some ad))) (hy : a.eval y = .nilIface) (w : World) : (execOp a.eval op).run Try.prog w = .ok (.value (.bool true)) w := by
  unfold execOp
  simp only [ho, hx, hy]
  go_simp
theorem ptrF_run {op : Oper} {a : Act} {ad : Addr} (x : Operand) (y : Operand) (ho : op.op = .binOp .eql 54 x y 54) (hx : a.eval x = .pointer (some ad)) (hy : a.eval y = .pointer none) (w : World) : (execOp a.eval op).run Try.prog w = .ok (.value (.bool false)) w := by
  unfold execOp
  simp only [ho, hx, hy]
  go_simp
theorem ptrG_run {op : Oper} {a : Act} {ad : Addr} (x : Operand) (y : Operand) (ho : op.op = .binOp .neq 54 x y 54) (hx : a.eval x = .pointer (some ad)) (hy : a.eval y = .pointer none) (w : World) : (execOp a.eval op).run Try.prog w = .ok (.value (.bool true)) w := by
  unfold execOp
  simp only [ho, hx, hy]
  go_simp
theorem ld3_run {op : Oper} {a : Act} {w : World} {g o : Nat} {z : Int} (x : Operand) (ho : op.op = .load 3 x) (hx : a.eval x = .pointer (some ⟨g, o, none⟩)) (h : w.cell? ⟨g, o, none⟩ = some (.int .i64 z)) : (execOp a.eval op).run Try.prog w = .ok (.value (.int .i64 z)) w := by
  unfold execOp
  simp only [ho, hx]
  go_simp
theorem ldE_run {op : Oper} {a : Act} {w : World} {g o : Nat} {z : Int} (x : Operand) (ho : op.op = .load 30 x) (hx : a.eval x = .pointer (some ⟨g, o, none⟩)) (h : w.cell? ⟨g, o, none⟩ = some (.int .i64 z)) : (execOp a.eval op).run Try.prog w = .ok (.value (.int .i64 z)) w := by
  unfold execOp
  simp only [ho, hx]
  go_simp
theorem convS_run {op : Oper} {a : Act} {w w' : World} {v u : Value} (x : Operand) (ho : op.op = .convert 9 28 x) (hx : a.eval x = v) (hc : (convert 9 28 v).run Try.prog w = .ok u w') : (execOp a.eval op).run Try.prog w = .ok (.value u) w' := by
  unfold execOp
  simp only [ho, hx]
  simp only [hc, Sem.run_bind, Result.andThen_ok]
  rfl
set_option maxRecDepth 100000 in
set_option maxHeartbeats 16000000 in
theorem TapeDecodes_law {w : World} {v : Value} {l : List Nat} (hv0 : By w v l) (hl : l.length ≤ 140737488351232) : Calls Try.prog 5 #[v] w fun e w' => e = .returned (.bool true) ∧ Hid (Below w.heap.size w w') := by
  have hbb := hv0.bb
  have hv : l = [] ∨ ∀ q, v.ownBlock = some q → q < w.heap.size := by
    by_cases e : l = []
    · exact .inl e
    · exact .inr fun q hq => (hv0.lt hq).resolve_left e
  have HL : Hid (l.length ≤ 140737488351232 ∧ BB l) := ⟨hl, hbb⟩
  have hsh := shown_any w
  obtain ⟨a, cap, hvf, hcap⟩ := hv0.form
  go_enter Try.func5, Try.ntmps5
  go_upto_region 1 with fail
  rename_i K1 hK1
  refine wp_region_lit ?_
  refine wpList_callW rfl (some 21) rfl 8 #[] (by kernel_rfl) hsh ?_
  clear hsh
  rintro e W1 ⟨rfl, hx⟩
  refine ⟨_, rfl, ?_⟩
  simp only [Act.put, List.setIfInBounds_toArray, List.set_cons_zero, List.set_cons_succ]
  refine wpList_runTo rfl (some 3) rfl (.bool true) W1 (by kernel_rfl) ?_
  simp only [Act.put, List.setIfInBounds_toArray, List.set_cons_zero, List.set_cons_succ]
  refine wpList_nil ?_
  refine hK1 _ _ ?_
  clear hK1
  have hy1 := hv0.below hx.out
  have hsrc : Src W1 a l.length (dN l) := by
    rw [hvf] at hy1
    exact hy1.src.2.2.1
  have hle := lent8_any a l.length cap (dN l) W1 hl hsrc
  rw [← hvf] at hle
  have HB1 : Hid (Below w.heap.size w W1) := hx.out
  have HV : Hid (l = [] ∨ ∀ q, v.ownBlock = some q → q < w.heap.size) := hv
  clear hx hv hsrc hbb
  go_upto_region 2 with fail
  rename_i K2 hK2
  refine wp_region_lit ?_
  refine wpList_runTo rfl (some 22) rfl (v) W1 (by kernel_rfl) ?_
  simp only [Act.put, List.setIfInBounds_toArray, List.set_cons_zero, List.set_cons_succ]
  refine wpList_callW rfl (some 23) rfl 17 #[v] (by kernel_rfl) hle ?_
  clear hle
  rintro e W2 ⟨rfl, ho, hb⟩
  refine ⟨_, rfl, ?_⟩
  simp only [Act.put, List.setIfInBounds_toArray, List.set_cons_zero, List.set_cons_succ]
  obtain ⟨g, hg⟩ : ∃ g, g = W1.heap.size := ⟨_, rfl⟩
  rw [← hg] at ho ⊢
  have HT2 : Hid (TS w W2 v l g (fun j => if j < l.length then dN l j else 201) []) := ⟨below_step HB1.out hb, hy1.below hb, HV.out, ho, by rw [hg]; exact HB1.out.size, fun x hx => by cases hx⟩
  clear ho hb hy1 HB1 hg hv0
  have hlv : By W2 (.slice (some ⟨g, 0, none⟩) l.length (l.length + 8)) l := HT2.out.lent l rfl HL.out.2 (fun j hj => by rw [if_pos hj])
  obtain ⟨lv, hlvf⟩ : ∃ lv, lv = Value.slice (some ⟨g, 0, none⟩) l.length (l.length + 8) := ⟨_, rfl⟩
  rw [← hlvf] at hlv ⊢
  refine wpList_runTo rfl (some 4) rfl (lv) W2 (by kernel_rfl) ?_
  simp only [Act.put, List.setIfInBounds_toArray, List.set_cons_zero, List.set_cons_succ]
  refine wpList_nil ?_
  refine hK2 _ _ ?_
  clear hK2
  have hde := Decode_any hlv (by omega)
  clear hlv
  cases hd1 : dec l with
  | error p1 =>
    rw [hd1] at hde
    go_upto_region 3 with fail
    rename_i K hK
    refine wp_region_lit ?_
    refine wpList_runTo rfl (some 25) rfl (lv) W2 (by kernel_rfl) ?_
    simp only [Act.put, List.setIfInBounds_toArray, List.set_cons_zero, List.set_cons_succ]
    refine wpList_callW rfl (some 26) rfl 10 #[lv] (by kernel_rfl) hde ?_
    clear hde
    rintro e W3 ⟨fg1, rfl, hx⟩
    refine ⟨_, rfl, ?_⟩
    simp only [Act.put, List.setIfInBounds_toArray, List.set_cons_zero, List.set_cons_succ]
    refine wpList_runTo rfl (some 24) rfl (.tuple #[.agg zeroC.cs, .iface 54 (.pointer (some ⟨fg1, 0, none⟩))]) W3 (by kernel_rfl) ?_
    simp only [Act.put, List.setIfInBounds_toArray, List.set_cons_zero, List.set_cons_succ]
    refine wpList_runTo rfl (some 27) rfl (.agg zeroC.cs) W3 (by kernel_rfl) ?_
    simp only [Act.put, List.setIfInBounds_toArray, List.set_cons_zero, List.set_cons_succ]
    refine wpList_runTo rfl (some 28) rfl (.iface 54 (.pointer (some ⟨fg1, 0, none⟩))) W3 (by kernel_rfl) ?_
    simp only [Act.put, List.setIfInBounds_toArray, List.set_cons_zero, List.set_cons_succ]
    refine wpList_runTo rfl (some 5) rfl (.pointer (some ⟨W3.heap.size, 0, none⟩)) (W3.alloc (.cells zeroC.cs 27)) (by kernel_rfl) ?_
    simp only [Act.put, List.setIfInBounds_toArray, List.set_cons_zero, List.set_cons_succ]
    refine store_cmd (c := zeroC) (c' := zeroC) (Blk.new W3 _ _) (.tmp 5) (.tmp 27) rfl rfl (by kernel_rfl) (by kernel_rfl) ?_
    simp only [Act.put, List.setIfInBounds_toArray, List.set_cons_zero, List.set_cons_succ]
    obtain ⟨hn1, hn2⟩ := newC W3 zeroC
    have hfg1 : w.heap.size ≤ fg1 := Nat.le_trans HT2.out.bel.size hx.out.2.1
    have HA1 := (HT2.out.below hx.out.1).add hx.out.2.2 (by have h1 := HT2.out.own.lt; have h2 := hx.out.2.1; omega)
    have HT4 : Hid (TS w _ v l g (fun j => if j < l.length then dN l j else 201) ((W3.heap.size, 27, zeroC.cs) :: (fg1, 57, #[.int .i64 (p1 : Int), .int .i64 180]) :: [])) := (HA1.below hn1).add hn2 (by have := HA1.own.lt; omega)
    clear HA1 hx
    clear hn1 hn2 HT2
    generalize (W3.alloc (.cells zeroC.cs 27)).setRow W3.heap.size zeroC.cs = W4 at *
    generalize W3.heap.size = pc5 at *
    refine wpList_runTo rfl (some 6) rfl (.iface 54 (.pointer (some ⟨fg1, 0, none⟩))) W4 (by kernel_rfl) ?_
    simp only [Act.put, List.setIfInBounds_toArray, List.set_cons_zero, List.set_cons_succ]
    refine wpList_nil ?_
    refine hK _ _ ?_
    clear hK
    generalize zeroC.cs = cs5
    have hbk : Calls Try.prog 18 #[lv, v] W4 fun e w' => e = .returned (.bool true) ∧ OwnA w' g (l.length + 8) (fun _ => 202) ∧ Fr W4 w' (fun b => b = g) := by
      have hy := HT4.out.by'
      rw [hvf] at hy
      have := back_any g l.length a cap (dN l) W4 hl hy.src.2.2.1 (fun b off e hn => by
        rcases HT4.out.hv with h | h
        · rw [h] at hn; exact absurd hn (by decide)
        · have h1 := h b (by rw [hvf, e]; rfl)
          have h2 := HT4.out.gg
          omega) HT4.out.own
      rw [hlvf, hvf]
      exact this
    go_upto_region 4 with fail
    rename_i K hK
    refine wp_region_lit ?_
    refine wpList_runTo rfl (some 29) rfl (lv) W4 (by kernel_rfl) ?_
    simp only [Act.put, List.setIfInBounds_toArray, List.set_cons_zero, List.set_cons_succ]
    refine wpList_runTo rfl (some 30) rfl (v) W4 (by kernel_rfl) ?_
    simp only [Act.put, List.setIfInBounds_toArray, List.set_cons_zero, List.set_cons_succ]
    refine wpList_callW rfl (some 31) rfl 18 #[lv, v] (by kernel_rfl) hbk ?_
    clear hbk
    rintro e W5 ⟨rfl, ho, hf⟩
    refine ⟨_, rfl, ?_⟩
    simp only [Act.put, List.setIfInBounds_toArray, List.set_cons_zero, List.set_cons_succ]
    have HT5 : Hid (TS w W5 v l g (fun _ => 202) ((pc5, 27, zeroC.cs) :: (fg1, 57, #[.int .i64 (p1 : Int), .int .i64 180]) :: [])) := HT4.out.turn hf ho
    clear HT4 ho hf
    refine wpList_runTo rfl (some 7) rfl (.bool true) W5 (by kernel_rfl) ?_
    simp only [Act.put, List.setIfInBounds_toArray, List.set_cons_zero, List.set_cons_succ]
    refine wpList_nil ?_
    refine hK _ _ ?_
    clear hK
    have hre := refDecode_any HT5.out.by' hl
    rw [hd1] at hre
    go_upto_region 5 with fail
    rename_i K hK
    refine wp_region_lit ?_
    refine wpList_runTo rfl (some 33) rfl (v) W5 (by kernel_rfl) ?_
    simp only [Act.put, List.setIfInBounds_toArray, List.set_cons_zero, List.set_cons_succ]
    refine wpList_callW rfl (some 34) rfl 19 #[v] (by kernel_rfl) hre ?_
    clear hre
    rintro e W6 ⟨rfl, hx⟩
    refine ⟨_, rfl, ?_⟩
    simp only [Act.put, List.setIfInBounds_toArray, List.set_cons_zero, List.set_cons_succ]
    refine wpList_runTo rfl (some 32) rfl (.tuple #[.agg zeroC.cs, .int .i64 (p1 : Int), .int .i64 180]) W6 (by kernel_rfl) ?_
    simp only [Act.put, List.setIfInBounds_toArray, List.set_cons_zero, List.set_cons_succ]
    refine wpList_runTo rfl (some 35) rfl (.agg zeroC.cs) W6 (by kernel_rfl) ?_
    simp only [Act.put, List.setIfInBounds_toArray, List.set_cons_zero, List.set_cons_succ]
    refine wpList_runTo rfl (some 36) rfl (.int .i64 (p1 : Int)) W6 (by kernel_rfl) ?_
    simp only [Act.put, List.setIfInBounds_toArray, List.set_cons_zero, List.set_cons_succ]
    refine wpList_runTo rfl (some 37) rfl (.int .i64 180) W6 (by kernel_rfl) ?_
    simp only [Act.put, List.setIfInBounds_toArray, List.set_cons_zero, List.set_cons_succ]
    refine wpList_runTo rfl (some 8) rfl (.pointer (some ⟨W6.heap.size, 0, none⟩)) (W6.alloc (.cells zeroC.cs 27)) (by kernel_rfl) ?_
    simp only [Act.put, List.setIfInBounds_toArray, List.set_cons_zero, List.set_cons_succ]
    refine store_cmd (c := zeroC) (c' := zeroC) (Blk.new W6 _ _) (.tmp 8) (.tmp 35) rfl rfl (by kernel_rfl) (by kernel_rfl) ?_
    simp only [Act.put, List.setIfInBounds_toArray, List.set_cons_zero, List.set_cons_succ]
    obtain ⟨hn1, hn2⟩ := newC W6 zeroC
    have HA1 := HT5.out.below hx.out
    have HT7 : Hid (TS w _ v l g (fun _ => 202) ((W6.heap.size, 27, zeroC.cs) :: (pc5, 27, zeroC.cs) :: (fg1, 57, #[.int .i64 (p1 : Int), .int .i64 180]) :: [])) := (HA1.below hn1).add hn2 (by have := HA1.own.lt; omega)
    clear HA1 hx hn1 hn2 HT5
    generalize (W6.alloc (.cells zeroC.cs 27)).setRow W6.heap.size zeroC.cs = W7 at *
    generalize W6.heap.size = pc8 at *
    refine wpList_runTo rfl (some 9) rfl (.int .i64 (p1 : Int)) W7 (by kernel_rfl) ?_
    simp only [Act.put, List.setIfInBounds_toArray, List.set_cons_zero, List.set_cons_succ]
    refine wpList_runTo rfl (some 10) rfl (.int .i64 180) W7 (by kernel_rfl) ?_
    simp only [Act.put, List.setIfInBounds_toArray, List.set_cons_zero, List.set_cons_succ]
    refine wpList_nil ?_
    refine hK _ _ ?_
    clear hK
    generalize zeroC.cs = cs8
    go_wp2
    go_loopw [11] (fun x wr => ∃ k : Nat, k ≤ l.length ∧ x = .int .i64 (k : Int) ∧ Hid (TS w wr v l g (revD l k) ((pc8, 27, zeroC.cs) :: (pc5, 27, zeroC.cs) :: (fg1, 57, #[.int .i64 (p1 : Int), .int .i64 180]) :: []))) (fun x _ => l.length - (intOf x).toNat)
    case atStart => exact ⟨0, Nat.zero_le _, rfl, ⟨HT7.out.bel, HT7.out.by', HT7.out.hv, HT7.out.own.ext fun j hj => by simp [revD], HT7.out.gg, HT7.out.bk⟩⟩
    case round =>
      clear HT7
      obtain ⟨k, hk, rfl, HR⟩ := hrel
      by_cases hlt : k < l.length
      · have hlt' : (k : Int) < (l.length : Int) := by omega
        obtain ⟨p, hp⟩ : ∃ p : Nat, p = l.length - 1 - k := ⟨_, rfl⟩
        have hpI : (l.length : Int) - 1 - (k : Int) = (p : Int) := by omega
        have hpn : p < l.length := by omega
        have hpn' : (p : Int) < (l.length : Int) := by omega
        have hw1 : IntKind.i64.wrap ((l.length : Int) - 1) = (l.length : Int) - 1 := by rw [IntKind.wrap_i64]; omega
        have hw2 : IntKind.i64.wrap ((l.length : Int) - 1 - (k : Int)) = (p : Int) := by rw [IntKind.wrap_i64]; omega
        have hcel : ∃ b off, a = some ⟨b, off, none⟩ ∧ wr.cell? ⟨b, off + p, none⟩ = some (.int .u8 ((dN l p : Nat) : Int)) := by
          have hy := HR.out.by'
          rw [hvf] at hy
          rcases hy.src.2.2.1 with h | ⟨b, off, e, h⟩
          · omega
          · exact ⟨b, off, e, (h p hpn).1⟩
        obtain ⟨b, off, ha, hcp⟩ := hcel
        have hc := HR.out.own.cell k (by omega)
        have hfz := HR.out.own.froz k
        have hd256 : dN l p < 256 := by rw [dN_at hpn]; exact HL.out.2 _ (List.getElem_mem hpn)
        have HF : Hid (TS w (wr.setCell ⟨g, k, none⟩ (.int .u8 ((dN l p : Nat) : Int))) v l g (revD l (k + 1)) ((pc8, 27, zeroC.cs) :: (pc5, 27, zeroC.cs) :: (fg1, 57, #[.int .i64 (p1 : Int), .int .i64 180]) :: [])) := HR.out.turn (Fr.setCell _ _ _ (fun b => b = g) rfl) ((HR.out.own.set k (dN l p) (by omega) hd256).ext fun j hj => by
          unfold revD
          by_cases e : j = k
          · rw [if_pos e, if_pos (by omega), e, hp]
          · rw [if_neg e]
            by_cases e2 : j < k
            · rw [if_pos e2, if_pos (by omega)]
            · rw [if_neg e2, if_neg (by omega)])
        clear HR hd256 hp
        generalize dN l p = xx at *
        generalize revD l k k = yy at *
        subst ha
        subst hvf
        subst hlvf
        go_wp2
        exact ⟨⟨k + 1, by omega, by go_num, HF⟩, by simp [intOf]; omega⟩
      · have ek : k = l.length := by omega
        have hnl : ¬ (k : Int) < (l.length : Int) := by omega
        have HT8 : Hid (TS w wr v l g (revD l l.length) ((pc8, 27, zeroC.cs) :: (pc5, 27, zeroC.cs) :: (fg1, 57, #[.int .i64 (p1 : Int), .int .i64 180]) :: [])) := by rw [← ek]; exact HR.out
        clear HR
        have hlv : By wr lv l.reverse := by
          rw [hlvf]
          exact HT8.out.lent l.reverse (List.length_reverse ..) HL.out.2.rev (fun j hj => by unfold revD; rw [if_pos hj, dN_rev l hj])
        have hde := Decode_any hlv (by rw [List.length_reverse]; omega)
        clear hlv
        obtain ⟨vk, hvk⟩ : ∃ vk : Value, vk = .int .i64 (k : Int) := ⟨_, rfl⟩
        cases hd2 : dec l.reverse with
        | error p2 =>
          rw [hd2] at hde
          as_aux_lemma =>
            go_upto_region 10 with fail
            rename_i K hK
            refine wp_region_lit ?_
            refine wpList_runTo rfl (some 56) rfl (lv) wr (by kernel_rfl) ?_
            simp only [Act.put, List.setIfInBounds_toArray, List.set_cons_zero, List.set_cons_succ]
            refine wpList_callW rfl (some 57) rfl 10 #[lv] (by kernel_rfl) hde ?_
            clear hde
            rintro e W9 ⟨fg2, rfl, hx⟩
            refine ⟨_, rfl, ?_⟩
            simp only [Act.put, List.setIfInBounds_toArray, List.set_cons_zero, List.set_cons_succ]
            refine wpList_runTo rfl (some 55) rfl (.tuple #[.agg zeroC.cs, .iface 54 (.pointer (some ⟨fg2, 0, none⟩))]) W9 (by kernel_rfl) ?_
            simp only [Act.put, List.setIfInBounds_toArray, List.set_cons_zero, List.set_cons_succ]
            refine wpList_runTo rfl (some 58) rfl (.agg zeroC.cs) W9 (by kernel_rfl) ?_
            simp only [Act.put, List.setIfInBounds_toArray, List.set_cons_zero, List.set_cons_succ]
            refine wpList_runTo rfl (some 59) rfl (.iface 54 (.pointer (some ⟨fg2, 0, none⟩))) W9 (by kernel_rfl) ?_
            simp only [Act.put, List.setIfInBounds_toArray, List.set_cons_zero, List.set_cons_succ]
            refine wpList_runTo rfl (some 12) rfl (.pointer (some ⟨W9.heap.size, 0, none⟩)) (W9.alloc (.cells zeroC.cs 27)) (by kernel_rfl) ?_
            simp only [Act.put, List.setIfInBounds_toArray, List.set_cons_zero, List.set_cons_succ]
            refine store_cmd (c := zeroC) (c' := zeroC) (Blk.new W9 _ _) (.tmp 12) (.tmp 58) rfl rfl (by kernel_rfl) (by kernel_rfl) ?_
            simp only [Act.put, List.setIfInBounds_toArray, List.set_cons_zero, List.set_cons_succ]
            obtain ⟨hn1, hn2⟩ := newC W9 zeroC
            have hfg2 : w.heap.size ≤ fg2 := Nat.le_trans HT8.out.bel.size hx.out.2.1
            have HA1 := (HT8.out.below hx.out.1).add hx.out.2.2 (by have h1 := HT8.out.own.lt; have h2 := hx.out.2.1; omega)
            have HTA : Hid (TS w _ v l g (revD l l.length) ((W9.heap.size, 27, zeroC.cs) :: (fg2, 57, #[.int .i64 (p2 : Int), .int .i64 180]) :: (pc8, 27, zeroC.cs) :: (pc5, 27, zeroC.cs) :: (fg1, 57, #[.int .i64 (p1 : Int), .int .i64 180]) :: [])) := (HA1.below hn1).add hn2 (by have := HA1.own.lt; omega)
            clear HA1 hx
            clear hn1 hn2 HT8
            generalize (W9.alloc (.cells zeroC.cs 27)).setRow W9.heap.size zeroC.cs = WA at *
            generalize W9.heap.size = pc12 at *
            refine wpList_runTo rfl (some 13) rfl (.iface 54 (.pointer (some ⟨fg2, 0, none⟩))) WA (by kernel_rfl) ?_
            simp only [Act.put, List.setIfInBounds_toArray, List.set_cons_zero, List.set_cons_succ]
            refine wpList_nil ?_
            refine hK _ _ ?_
            clear hK
            generalize zeroC.cs = cs12
            have hlv : By WA lv l.reverse := by
              rw [hlvf]
              exact HTA.out.lent l.reverse (List.length_reverse ..) HL.out.2.rev (fun j hj => by unfold revD; rw [if_pos hj, dN_rev l hj])
            obtain ⟨cv, WB, hcv, hcb, hcbel⟩ := conv_back (w := WA) HL.out.2.rev
            have HTB : Hid (TS w WB v l g (revD l l.length) ((pc12, 27, zeroC.cs) :: (fg2, 57, #[.int .i64 (p2 : Int), .int .i64 180]) :: (pc8, 27, zeroC.cs) :: (pc5, 27, zeroC.cs) :: (fg1, 57, #[.int .i64 (p1 : Int), .int .i64 180]) :: [])) := HTA.out.below hcbel
            have hre := refDecode_any hcb (by rw [List.length_reverse]; omega)
            rw [hd2] at hre
            clear hcb hcbel HTA
            go_upto_region 11 with fail
            rename_i K hK
            refine wp_region_lit ?_
            refine wpList_runTo rfl (some 61) rfl (lv) WA (by kernel_rfl) ?_
            simp only [Act.put, List.setIfInBounds_toArray, List.set_cons_zero, List.set_cons_succ]
            refine wpList_runTo rfl (some 62) rfl (.string (ofN l.reverse)) WA (by exact conv_run (.tmp 61) rfl (by kernel_rfl) hlv) ?_
            simp only [Act.put, List.setIfInBounds_toArray, List.set_cons_zero, List.set_cons_succ]
            refine wpList_runTo rfl (some 63) rfl (cv) WB (by exact convS_run (.tmp 62) rfl (by kernel_rfl) hcv) ?_
            simp only [Act.put, List.setIfInBounds_toArray, List.set_cons_zero, List.set_cons_succ]
            clear hlv hcv
            generalize ofN l.reverse = srv at *
            refine wpList_callW rfl (some 64) rfl 19 #[cv] (by kernel_rfl) hre ?_
            clear hre
            rintro e WC ⟨rfl, hx⟩
            refine ⟨_, rfl, ?_⟩
            simp only [Act.put, List.setIfInBounds_toArray, List.set_cons_zero, List.set_cons_succ]
            refine wpList_runTo rfl (some 60) rfl (.tuple #[.agg zeroC.cs, .int .i64 (p2 : Int), .int .i64 180]) WC (by kernel_rfl) ?_
            simp only [Act.put, List.setIfInBounds_toArray, List.set_cons_zero, List.set_cons_succ]
            refine wpList_runTo rfl (some 65) rfl (.agg zeroC.cs) WC (by kernel_rfl) ?_
            simp only [Act.put, List.setIfInBounds_toArray, List.set_cons_zero, List.set_cons_succ]
            refine wpList_runTo rfl (some 66) rfl (.int .i64 (p2 : Int)) WC (by kernel_rfl) ?_
            simp only [Act.put, List.setIfInBounds_toArray, List.set_cons_zero, List.set_cons_succ]
            refine wpList_runTo rfl (some 67) rfl (.int .i64 180) WC (by kernel_rfl) ?_
            simp only [Act.put, List.setIfInBounds_toArray, List.set_cons_zero, List.set_cons_succ]
            refine wpList_runTo rfl (some 14) rfl (.pointer (some ⟨WC.heap.size, 0, none⟩)) (WC.alloc (.cells zeroC.cs 27)) (by kernel_rfl) ?_
            simp only [Act.put, List.setIfInBounds_toArray, List.set_cons_zero, List.set_cons_succ]
            refine store_cmd (c := zeroC) (c' := zeroC) (Blk.new WC _ _) (.tmp 14) (.tmp 65) rfl rfl (by kernel_rfl) (by kernel_rfl) ?_
            simp only [Act.put, List.setIfInBounds_toArray, List.set_cons_zero, List.set_cons_succ]
            obtain ⟨hn1, hn2⟩ := newC WC zeroC
            have HA1 := HTB.out.below hx.out
            have HTD : Hid (TS w _ v l g (revD l l.length) ((WC.heap.size, 27, zeroC.cs) :: (pc12, 27, zeroC.cs) :: (fg2, 57, #[.int .i64 (p2 : Int), .int .i64 180]) :: (pc8, 27, zeroC.cs) :: (pc5, 27, zeroC.cs) :: (fg1, 57, #[.int .i64 (p1 : Int), .int .i64 180]) :: [])) := (HA1.below hn1).add hn2 (by have := HA1.own.lt; omega)
            clear HA1 hx hn1 hn2 HTB
            generalize (WC.alloc (.cells zeroC.cs 27)).setRow WC.heap.size zeroC.cs = WD at *
            generalize WC.heap.size = pc14 at *
            refine wpList_runTo rfl (some 15) rfl (.int .i64 (p2 : Int)) WD (by kernel_rfl) ?_
            simp only [Act.put, List.setIfInBounds_toArray, List.set_cons_zero, List.set_cons_succ]
            refine wpList_runTo rfl (some 16) rfl (.int .i64 180) WD (by kernel_rfl) ?_
            simp only [Act.put, List.setIfInBounds_toArray, List.set_cons_zero, List.set_cons_succ]
            refine wpList_nil ?_
            refine hK _ _ ?_
            clear hK
            generalize zeroC.cs = cs14
            go_upto_region 12 with fail
            rename_i K hK
            refine wp_region_lit ?_
            refine wpList_runTo rfl (some 69) rfl (.iface 54 (.pointer (some ⟨fg2, 0, none⟩))) WD (by kernel_rfl) ?_
            simp only [Act.put, List.setIfInBounds_toArray, List.set_cons_zero, List.set_cons_succ]
            refine wpList_runTo rfl (some 70) rfl (.tuple #[(.pointer (some ⟨fg2, 0, none⟩)), .bool true]) WD (by kernel_rfl) ?_
            simp only [Act.put, List.setIfInBounds_toArray, List.set_cons_zero, List.set_cons_succ]
            refine wpList_runTo rfl (some 68) rfl (.tuple #[(.pointer (some ⟨fg2, 0, none⟩)), .bool true]) WD (by kernel_rfl) ?_
            simp only [Act.put, List.setIfInBounds_toArray, List.set_cons_zero, List.set_cons_succ]
            refine wpList_runTo rfl (some 71) rfl ((.pointer (some ⟨fg2, 0, none⟩))) WD (by kernel_rfl) ?_
            simp only [Act.put, List.setIfInBounds_toArray, List.set_cons_zero, List.set_cons_succ]
            refine wpList_runTo rfl (some 72) rfl (.bool true) WD (by kernel_rfl) ?_
            simp only [Act.put, List.setIfInBounds_toArray, List.set_cons_zero, List.set_cons_succ]
            refine wpList_runTo rfl (some 17) rfl ((.pointer (some ⟨fg2, 0, none⟩))) WD (by kernel_rfl) ?_
            simp only [Act.put, List.setIfInBounds_toArray, List.set_cons_zero, List.set_cons_succ]
            refine wpList_runTo rfl (some 18) rfl (.bool true) WD (by kernel_rfl) ?_
            simp only [Act.put, List.setIfInBounds_toArray, List.set_cons_zero, List.set_cons_succ]
            refine wpList_nil ?_
            refine hK _ _ ?_
            clear hK
            go_upto_region 13 with fail
            rename_i K hK
            refine wp_region_lit ?_
            refine load_cmd (c := zeroC) (HTD.out.bk (pc12, 27, zeroC.cs) (by simp)).1 (.tmp 12) rfl rfl (by kernel_rfl) ?_
            simp only [Act.put, List.setIfInBounds_toArray, List.set_cons_zero, List.set_cons_succ]
            refine load_cmd (c := zeroC) (HTD.out.bk (pc14, 27, zeroC.cs) (by simp)).1 (.tmp 14) rfl rfl (by kernel_rfl) ?_
            simp only [Act.put, List.setIfInBounds_toArray, List.set_cons_zero, List.set_cons_succ]
            refine wpList_runTo rfl (some 75) rfl (.bool false) WD (by exact neC_run (c := zeroC) (.tmp 73) (.tmp 74) rfl (by kernel_rfl) (by kernel_rfl) _) ?_
            simp only [Act.put, List.setIfInBounds_toArray, List.set_cons_zero, List.set_cons_succ]
            generalize zeroC.cs = cx13
            refine wpList_runTo rfl (some 76) rfl (.bool false) WD (by kernel_rfl) ?_
            simp only [Act.put, List.setIfInBounds_toArray, List.set_cons_zero, List.set_cons_succ]
            refine wpList_runToG (by kernel_rfl) (some 77) rfl (.iface 54 (.pointer (some ⟨fg2, 0, none⟩))) WD (by kernel_rfl) ?_
            simp only [Act.put, List.setIfInBounds_toArray, List.set_cons_zero, List.set_cons_succ]
            refine wpList_runToG (by kernel_rfl) (some 78) rfl (.bool false) WD (by exact ifE_run (ad := ⟨fg2, 0, none⟩) (.tmp 77) (.const .nilIface) rfl (by kernel_rfl) rfl _) ?_
            simp only [Act.put, List.setIfInBounds_toArray, List.set_cons_zero, List.set_cons_succ]
            refine wpList_runToG (by kernel_rfl) (some 79) rfl (.int .i64 180) WD (by kernel_rfl) ?_
            simp only [Act.put, List.setIfInBounds_toArray, List.set_cons_zero, List.set_cons_succ]
            refine wpList_runToG (by kernel_rfl) (some 80) rfl (.bool false) WD (by kernel_rfl) ?_
            simp only [Act.put, List.setIfInBounds_toArray, List.set_cons_zero, List.set_cons_succ]
            refine wpList_runToG (by kernel_rfl) (some 81) rfl (.bool false) WD (by kernel_rfl) ?_
            simp only [Act.put, List.setIfInBounds_toArray, List.set_cons_zero, List.set_cons_succ]
            refine wpList_runTo rfl (some 82) rfl (.bool false) WD (by kernel_rfl) ?_
            simp only [Act.put, List.setIfInBounds_toArray, List.set_cons_zero, List.set_cons_succ]
            refine wpList_runTo rfl (some 83) rfl (.bool false) WD (by kernel_rfl) ?_
            simp only [Act.put, List.setIfInBounds_toArray, List.set_cons_zero, List.set_cons_succ]
            refine wpList_runToG (by kernel_rfl) (some 84) rfl (.iface 54 (.pointer (some ⟨fg2, 0, none⟩))) WD (by kernel_rfl) ?_
            simp only [Act.put, List.setIfInBounds_toArray, List.set_cons_zero, List.set_cons_succ]
            refine wpList_runToG (by kernel_rfl) (some 85) rfl (.bool true) WD (by exact ifN_run (ad := ⟨fg2, 0, none⟩) (.tmp 84) (.const .nilIface) rfl (by kernel_rfl) rfl _) ?_
            simp only [Act.put, List.setIfInBounds_toArray, List.set_cons_zero, List.set_cons_succ]
            have hc0 : WD.cell? ⟨fg2, 0, none⟩ = some (.int .i64 (p2 : Int)) := (HTD.out.bk (fg2, 57, #[.int .i64 (p2 : Int), .int .i64 180]) (by simp)).1.cell 0
            have hc1 : WD.cell? ⟨fg2, 1, none⟩ = some (.int .i64 180) := (HTD.out.bk (fg2, 57, #[.int .i64 (p2 : Int), .int .i64 180]) (by simp)).1.cell 1
            refine wpList_runToG (by kernel_rfl) (some 86) rfl (.bool true) WD (by kernel_rfl) ?_
            simp only [Act.put, List.setIfInBounds_toArray, List.set_cons_zero, List.set_cons_succ]
            refine wpList_runToG (by kernel_rfl) (some 87) rfl (.bool true) WD (by kernel_rfl) ?_
            simp only [Act.put, List.setIfInBounds_toArray, List.set_cons_zero, List.set_cons_succ]
            refine wpList_runToG (by kernel_rfl) (some 88) rfl (.bool false) WD (by kernel_rfl) ?_
            simp only [Act.put, List.setIfInBounds_toArray, List.set_cons_zero, List.set_cons_succ]
            refine wpList_runToG (by kernel_rfl) (some 89) rfl (.bool false) WD (by kernel_rfl) ?_
            simp only [Act.put, List.setIfInBounds_toArray, List.set_cons_zero, List.set_cons_succ]
            refine wpList_runToG (by kernel_rfl) (some 90) rfl ((.pointer (some ⟨fg2, 0, none⟩))) WD (by kernel_rfl) ?_
            simp only [Act.put, List.setIfInBounds_toArray, List.set_cons_zero, List.set_cons_succ]
            refine wpList_runToG (by kernel_rfl) (some 91) rfl (.bool false) WD (by exact ptrF_run (ad := ⟨fg2, 0, none⟩) (.tmp 90) (.const (.pointer none)) rfl (by kernel_rfl) rfl _) ?_
            simp only [Act.put, List.setIfInBounds_toArray, List.set_cons_zero, List.set_cons_succ]
            refine wpList_runToG (by kernel_rfl) (some 92) rfl (.bool false) WD (by kernel_rfl) ?_
            simp only [Act.put, List.setIfInBounds_toArray, List.set_cons_zero, List.set_cons_succ]
            refine wpList_runToG (by kernel_rfl) (some 93) rfl (.bool false) WD (by kernel_rfl) ?_
            simp only [Act.put, List.setIfInBounds_toArray, List.set_cons_zero, List.set_cons_succ]
            refine wpList_runToG (by kernel_rfl) (some 94) rfl ((.pointer (some ⟨fg2, 0, none⟩))) WD (by kernel_rfl) ?_
            simp only [Act.put, List.setIfInBounds_toArray, List.set_cons_zero, List.set_cons_succ]
            refine wpList_runToG (by kernel_rfl) (some 95) rfl ((.pointer (some ⟨fg2, 0, none⟩))) WD (by kernel_rfl) ?_
            simp only [Act.put, List.setIfInBounds_toArray, List.set_cons_zero, List.set_cons_succ]
            refine wpList_runToG (by kernel_rfl) (some 96) rfl ((.pointer (some ⟨fg2, 0, none⟩))) WD (by kernel_rfl) ?_
            simp only [Act.put, List.setIfInBounds_toArray, List.set_cons_zero, List.set_cons_succ]
            refine wpList_runToG (by kernel_rfl) (some 97) rfl (.int .i64 (p2 : Int)) WD (by exact ld3_run (.tmp 96) rfl (by kernel_rfl) hc0) ?_
            simp only [Act.put, List.setIfInBounds_toArray, List.set_cons_zero, List.set_cons_succ]
            refine wpList_runToG (by kernel_rfl) (some 98) rfl (.int .i64 (p2 : Int)) WD (by kernel_rfl) ?_
            simp only [Act.put, List.setIfInBounds_toArray, List.set_cons_zero, List.set_cons_succ]
            refine wpList_runToG (by kernel_rfl) (some 99) rfl (.bool false) WD (by exact neN_run (N := p2) (.tmp 97) (.tmp 98) rfl (by kernel_rfl) (by kernel_rfl) _) ?_
            simp only [Act.put, List.setIfInBounds_toArray, List.set_cons_zero, List.set_cons_succ]
            refine wpList_runToG (by kernel_rfl) (some 100) rfl (.bool false) WD (by kernel_rfl) ?_
            simp only [Act.put, List.setIfInBounds_toArray, List.set_cons_zero, List.set_cons_succ]
            refine wpList_runToG (by kernel_rfl) (some 101) rfl (.bool false) WD (by kernel_rfl) ?_
            simp only [Act.put, List.setIfInBounds_toArray, List.set_cons_zero, List.set_cons_succ]
            refine wpList_runToG (by kernel_rfl) (some 102) rfl ((.pointer (some ⟨fg2, 0, none⟩))) WD (by kernel_rfl) ?_
            simp only [Act.put, List.setIfInBounds_toArray, List.set_cons_zero, List.set_cons_succ]
            refine wpList_runToG (by kernel_rfl) (some 103) rfl ((.pointer (some ⟨fg2, 0, none⟩))) WD (by kernel_rfl) ?_
            simp only [Act.put, List.setIfInBounds_toArray, List.set_cons_zero, List.set_cons_succ]
            refine wpList_runToG (by kernel_rfl) (some 104) rfl ((.pointer (some ⟨fg2, 1, none⟩))) WD (by kernel_rfl) ?_
            simp only [Act.put, List.setIfInBounds_toArray, List.set_cons_zero, List.set_cons_succ]
            refine wpList_runToG (by kernel_rfl) (some 105) rfl (.int .i64 180) WD (by exact ldE_run (.tmp 104) rfl (by kernel_rfl) hc1) ?_
            simp only [Act.put, List.setIfInBounds_toArray, List.set_cons_zero, List.set_cons_succ]
            refine wpList_runToG (by kernel_rfl) (some 106) rfl (.int .i64 180) WD (by kernel_rfl) ?_
            simp only [Act.put, List.setIfInBounds_toArray, List.set_cons_zero, List.set_cons_succ]
            refine wpList_runToG (by kernel_rfl) (some 107) rfl (.bool false) WD (by kernel_rfl) ?_
            simp only [Act.put, List.setIfInBounds_toArray, List.set_cons_zero, List.set_cons_succ]
            refine wpList_runToG (by kernel_rfl) (some 108) rfl (.bool false) WD (by kernel_rfl) ?_
            simp only [Act.put, List.setIfInBounds_toArray, List.set_cons_zero, List.set_cons_succ]
            refine wpList_runToG (by kernel_rfl) (some 109) rfl (.bool false) WD (by kernel_rfl) ?_
            simp only [Act.put, List.setIfInBounds_toArray, List.set_cons_zero, List.set_cons_succ]
            refine wpList_runTo rfl (some 110) rfl (.bool false) WD (by kernel_rfl) ?_
            simp only [Act.put, List.setIfInBounds_toArray, List.set_cons_zero, List.set_cons_succ]
            clear hc0 hc1
            refine wpList_nil ?_
            refine hK _ _ ?_
            clear hK
            go_upto_region 15 with fail
            rename_i K hK
            refine wp_region_lit ?_
            refine wpList_runTo rfl (some 111) rfl (.bool true) WD (by kernel_rfl) ?_
            simp only [Act.put, List.setIfInBounds_toArray, List.set_cons_zero, List.set_cons_succ]
            refine wpList_runTo rfl (some 112) rfl (.bool false) WD (by kernel_rfl) ?_
            simp only [Act.put, List.setIfInBounds_toArray, List.set_cons_zero, List.set_cons_succ]
            refine wpList_runTo rfl (some 113) rfl (.bool false) WD (by kernel_rfl) ?_
            simp only [Act.put, List.setIfInBounds_toArray, List.set_cons_zero, List.set_cons_succ]
            refine wpList_runToG (by kernel_rfl) (some 114) rfl (.bool true) WD (by kernel_rfl) ?_
            simp only [Act.put, List.setIfInBounds_toArray, List.set_cons_zero, List.set_cons_succ]
            refine wpList_runToG (by kernel_rfl) (some 115) rfl (.bool false) WD (by kernel_rfl) ?_
            simp only [Act.put, List.setIfInBounds_toArray, List.set_cons_zero, List.set_cons_succ]
            refine wpList_runTo rfl (some 116) rfl (.bool false) WD (by kernel_rfl) ?_
            simp only [Act.put, List.setIfInBounds_toArray, List.set_cons_zero, List.set_cons_succ]
            refine wpList_runTo rfl (some 117) rfl (.bool false) WD (by kernel_rfl) ?_
            simp only [Act.put, List.setIfInBounds_toArray, List.set_cons_zero, List.set_cons_succ]
            refine loadG_cmd (c := zeroC) (HTD.out.bk (pc5, 27, zeroC.cs) (by simp)).1 (.tmp 5) (by kernel_rfl) rfl (by kernel_rfl) ?_
            simp only [Act.put, List.setIfInBounds_toArray, List.set_cons_zero, List.set_cons_succ]
            refine loadG_cmd (c := zeroC) (HTD.out.bk (pc8, 27, zeroC.cs) (by simp)).1 (.tmp 8) (by kernel_rfl) rfl (by kernel_rfl) ?_
            simp only [Act.put, List.setIfInBounds_toArray, List.set_cons_zero, List.set_cons_succ]
            refine wpList_runToG (by kernel_rfl) (some 120) rfl (.bool false) WD (by exact neC_run (c := zeroC) (.tmp 118) (.tmp 119) rfl (by kernel_rfl) (by kernel_rfl) _) ?_
            simp only [Act.put, List.setIfInBounds_toArray, List.set_cons_zero, List.set_cons_succ]
            generalize zeroC.cs = cx15
            refine wpList_runTo rfl (some 121) rfl (.bool false) WD (by kernel_rfl) ?_
            simp only [Act.put, List.setIfInBounds_toArray, List.set_cons_zero, List.set_cons_succ]
            refine wpList_runTo rfl (some 122) rfl (.bool false) WD (by kernel_rfl) ?_
            simp only [Act.put, List.setIfInBounds_toArray, List.set_cons_zero, List.set_cons_succ]
            refine wpList_runToG (by kernel_rfl) (some 123) rfl (.iface 54 (.pointer (some ⟨fg1, 0, none⟩))) WD (by kernel_rfl) ?_
            simp only [Act.put, List.setIfInBounds_toArray, List.set_cons_zero, List.set_cons_succ]
            refine wpList_runToG (by kernel_rfl) (some 124) rfl (.bool false) WD (by exact ifE_run (ad := ⟨fg1, 0, none⟩) (.tmp 123) (.const .nilIface) rfl (by kernel_rfl) rfl _) ?_
            simp only [Act.put, List.setIfInBounds_toArray, List.set_cons_zero, List.set_cons_succ]
            refine wpList_runToG (by kernel_rfl) (some 125) rfl (.int .i64 180) WD (by kernel_rfl) ?_
            simp only [Act.put, List.setIfInBounds_toArray, List.set_cons_zero, List.set_cons_succ]
            refine wpList_runToG (by kernel_rfl) (some 126) rfl (.bool false) WD (by kernel_rfl) ?_
            simp only [Act.put, List.setIfInBounds_toArray, List.set_cons_zero, List.set_cons_succ]
            refine wpList_runToG (by kernel_rfl) (some 127) rfl (.bool false) WD (by kernel_rfl) ?_
            simp only [Act.put, List.setIfInBounds_toArray, List.set_cons_zero, List.set_cons_succ]
            refine wpList_runTo rfl (some 128) rfl (.bool false) WD (by kernel_rfl) ?_
            simp only [Act.put, List.setIfInBounds_toArray, List.set_cons_zero, List.set_cons_succ]
            refine wpList_nil ?_
            refine hK _ _ ?_
            clear hK
            go_upto_region 17 with fail
            rename_i K hK
            refine wp_region_lit ?_
            refine wpList_runTo rfl (some 129) rfl (.iface 54 (.pointer (some ⟨fg1, 0, none⟩))) WD (by kernel_rfl) ?_
            simp only [Act.put, List.setIfInBounds_toArray, List.set_cons_zero, List.set_cons_succ]
            refine wpList_runTo rfl (some 130) rfl (.bool false) WD (by exact ifE_run (ad := ⟨fg1, 0, none⟩) (.tmp 129) (.const .nilIface) rfl (by kernel_rfl) rfl _) ?_
            simp only [Act.put, List.setIfInBounds_toArray, List.set_cons_zero, List.set_cons_succ]
            refine wpList_nil ?_
            refine hK _ _ ?_
            clear hK
            go_upto_region 19 with fail
            rename_i K hK
            refine wp_region_lit ?_
            refine wpList_runTo rfl (some 132) rfl (.iface 54 (.pointer (some ⟨fg1, 0, none⟩))) WD (by kernel_rfl) ?_
            simp only [Act.put, List.setIfInBounds_toArray, List.set_cons_zero, List.set_cons_succ]
            refine wpList_runTo rfl (some 133) rfl (.tuple #[(.pointer (some ⟨fg1, 0, none⟩)), .bool true]) WD (by kernel_rfl) ?_
            simp only [Act.put, List.setIfInBounds_toArray, List.set_cons_zero, List.set_cons_succ]
            refine wpList_runTo rfl (some 131) rfl (.tuple #[(.pointer (some ⟨fg1, 0, none⟩)), .bool true]) WD (by kernel_rfl) ?_
            simp only [Act.put, List.setIfInBounds_toArray, List.set_cons_zero, List.set_cons_succ]
            refine wpList_runTo rfl (some 134) rfl ((.pointer (some ⟨fg1, 0, none⟩))) WD (by kernel_rfl) ?_
            simp only [Act.put, List.setIfInBounds_toArray, List.set_cons_zero, List.set_cons_succ]
            refine wpList_runTo rfl (some 135) rfl (.bool true) WD (by kernel_rfl) ?_
            simp only [Act.put, List.setIfInBounds_toArray, List.set_cons_zero, List.set_cons_succ]
            refine wpList_runTo rfl (some 19) rfl ((.pointer (some ⟨fg1, 0, none⟩))) WD (by kernel_rfl) ?_
            simp only [Act.put, List.setIfInBounds_toArray, List.set_cons_zero, List.set_cons_succ]
            refine wpList_runTo rfl (some 20) rfl (.bool true) WD (by kernel_rfl) ?_
            simp only [Act.put, List.setIfInBounds_toArray, List.set_cons_zero, List.set_cons_succ]
            refine wpList_nil ?_
            refine hK _ _ ?_
            clear hK
            have hc0 : WD.cell? ⟨fg1, 0, none⟩ = some (.int .i64 (p1 : Int)) := (HTD.out.bk (fg1, 57, #[.int .i64 (p1 : Int), .int .i64 180]) (by simp)).1.cell 0
            have hc1 : WD.cell? ⟨fg1, 1, none⟩ = some (.int .i64 180) := (HTD.out.bk (fg1, 57, #[.int .i64 (p1 : Int), .int .i64 180]) (by simp)).1.cell 1
            go_upto_region 20 with fail
            rename_i K hK
            refine wp_region_lit ?_
            refine wpList_runTo rfl (some 136) rfl (.bool true) WD (by kernel_rfl) ?_
            simp only [Act.put, List.setIfInBounds_toArray, List.set_cons_zero, List.set_cons_succ]
            refine wpList_runTo rfl (some 137) rfl (.bool false) WD (by kernel_rfl) ?_
            simp only [Act.put, List.setIfInBounds_toArray, List.set_cons_zero, List.set_cons_succ]
            refine wpList_runTo rfl (some 138) rfl (.bool false) WD (by kernel_rfl) ?_
            simp only [Act.put, List.setIfInBounds_toArray, List.set_cons_zero, List.set_cons_succ]
            refine wpList_runToG (by kernel_rfl) (some 139) rfl ((.pointer (some ⟨fg1, 0, none⟩))) WD (by kernel_rfl) ?_
            simp only [Act.put, List.setIfInBounds_toArray, List.set_cons_zero, List.set_cons_succ]
            refine wpList_runToG (by kernel_rfl) (some 140) rfl (.bool false) WD (by exact ptrF_run (ad := ⟨fg1, 0, none⟩) (.tmp 139) (.const (.pointer none)) rfl (by kernel_rfl) rfl _) ?_
            simp only [Act.put, List.setIfInBounds_toArray, List.set_cons_zero, List.set_cons_succ]
            refine wpList_runTo rfl (some 141) rfl (.bool false) WD (by kernel_rfl) ?_
            simp only [Act.put, List.setIfInBounds_toArray, List.set_cons_zero, List.set_cons_succ]
            refine wpList_runTo rfl (some 142) rfl (.bool false) WD (by kernel_rfl) ?_
            simp only [Act.put, List.setIfInBounds_toArray, List.set_cons_zero, List.set_cons_succ]
            refine wpList_runToG (by kernel_rfl) (some 143) rfl ((.pointer (some ⟨fg1, 0, none⟩))) WD (by kernel_rfl) ?_
            simp only [Act.put, List.setIfInBounds_toArray, List.set_cons_zero, List.set_cons_succ]
            refine wpList_runToG (by kernel_rfl) (some 144) rfl ((.pointer (some ⟨fg1, 0, none⟩))) WD (by kernel_rfl) ?_
            simp only [Act.put, List.setIfInBounds_toArray, List.set_cons_zero, List.set_cons_succ]
            refine wpList_runToG (by kernel_rfl) (some 145) rfl ((.pointer (some ⟨fg1, 0, none⟩))) WD (by kernel_rfl) ?_
            simp only [Act.put, List.setIfInBounds_toArray, List.set_cons_zero, List.set_cons_succ]
            refine wpList_runToG (by kernel_rfl) (some 146) rfl (.int .i64 (p1 : Int)) WD (by exact ld3_run (.tmp 145) rfl (by kernel_rfl) hc0) ?_
            simp only [Act.put, List.setIfInBounds_toArray, List.set_cons_zero, List.set_cons_succ]
            refine wpList_runToG (by kernel_rfl) (some 147) rfl (.int .i64 (p1 : Int)) WD (by kernel_rfl) ?_
            simp only [Act.put, List.setIfInBounds_toArray, List.set_cons_zero, List.set_cons_succ]
            refine wpList_runToG (by kernel_rfl) (some 148) rfl (.bool false) WD (by exact neN_run (N := p1) (.tmp 146) (.tmp 147) rfl (by kernel_rfl) (by kernel_rfl) _) ?_
            simp only [Act.put, List.setIfInBounds_toArray, List.set_cons_zero, List.set_cons_succ]
            refine wpList_runTo rfl (some 149) rfl (.bool false) WD (by kernel_rfl) ?_
            simp only [Act.put, List.setIfInBounds_toArray, List.set_cons_zero, List.set_cons_succ]
            refine wpList_runTo rfl (some 150) rfl (.bool false) WD (by kernel_rfl) ?_
            simp only [Act.put, List.setIfInBounds_toArray, List.set_cons_zero, List.set_cons_succ]
            refine wpList_runToG (by kernel_rfl) (some 151) rfl ((.pointer (some ⟨fg1, 0, none⟩))) WD (by kernel_rfl) ?_
            simp only [Act.put, List.setIfInBounds_toArray, List.set_cons_zero, List.set_cons_succ]
            refine wpList_runToG (by kernel_rfl) (some 152) rfl ((.pointer (some ⟨fg1, 0, none⟩))) WD (by kernel_rfl) ?_
            simp only [Act.put, List.setIfInBounds_toArray, List.set_cons_zero, List.set_cons_succ]
            refine wpList_runToG (by kernel_rfl) (some 153) rfl ((.pointer (some ⟨fg1, 1, none⟩))) WD (by kernel_rfl) ?_
            simp only [Act.put, List.setIfInBounds_toArray, List.set_cons_zero, List.set_cons_succ]
            refine wpList_runToG (by kernel_rfl) (some 154) rfl (.int .i64 180) WD (by exact ldE_run (.tmp 153) rfl (by kernel_rfl) hc1) ?_
            simp only [Act.put, List.setIfInBounds_toArray, List.set_cons_zero, List.set_cons_succ]
            refine wpList_runToG (by kernel_rfl) (some 155) rfl (.int .i64 180) WD (by kernel_rfl) ?_
            simp only [Act.put, List.setIfInBounds_toArray, List.set_cons_zero, List.set_cons_succ]
            refine wpList_runToG (by kernel_rfl) (some 156) rfl (.bool false) WD (by kernel_rfl) ?_
            simp only [Act.put, List.setIfInBounds_toArray, List.set_cons_zero, List.set_cons_succ]
            refine wpList_runTo rfl (some 157) rfl (.bool false) WD (by kernel_rfl) ?_
            simp only [Act.put, List.setIfInBounds_toArray, List.set_cons_zero, List.set_cons_succ]
            refine wpList_nil ?_
            refine hK _ _ ?_
            clear hK
            have hf0 : WD.frozen? ⟨fg1, 0, none⟩ = false := (HTD.out.bk (fg1, 57, #[.int .i64 (p1 : Int), .int .i64 180]) (by simp)).1.frozen 0
            have hf1 : WD.frozen? ⟨fg1, 1, none⟩ = false := (HTD.out.bk (fg1, 57, #[.int .i64 (p1 : Int), .int .i64 180]) (by simp)).1.frozen 1
            have HE : Hid (Below w.heap.size w ((WD.setCell ⟨fg1, 0, none⟩ (.int .i64 (-7))).setCell ⟨fg1, 1, none⟩ (.int .i64 7)) ∧ By ((WD.setCell ⟨fg1, 0, none⟩ (.int .i64 (-7))).setCell ⟨fg1, 1, none⟩ (.int .i64 7)) v l) := by
              have hf : Fr WD ((WD.setCell ⟨fg1, 0, none⟩ (.int .i64 (-7))).setCell ⟨fg1, 1, none⟩ (.int .i64 7)) (fun b => b = fg1) := (Fr.setCell WD ⟨fg1, 0, none⟩ (.int .i64 (-7)) (fun b => b = fg1) rfl).trans (Fr.setCell _ ⟨fg1, 1, none⟩ (.int .i64 7) (fun b => b = fg1) rfl) fun i _ q => by rcases q with q | q <;> exact q
              refine ⟨⟨hf.os.trans HTD.out.bel.os, hf.tape.trans HTD.out.bel.tape, hf.output.trans HTD.out.bel.output, Nat.le_trans HTD.out.bel.size hf.size, fun q hq => (hf.block q (Nat.lt_of_lt_of_le hq HTD.out.bel.size) fun e => ?_).trans (HTD.out.bel.block q hq)⟩, HTD.out.by'.frE hf ?_⟩
              · omega
              · rcases HTD.out.hv with e | e
                · exact .inl e
                · exact .inr fun q hq e2 => by have := e q hq; omega
            clear HTD
            go_upto_region 24 with fail
            rename_i K hK
            generalize (WD.setCell ⟨fg1, 0, none⟩ (.int .i64 (-7))).setCell ⟨fg1, 1, none⟩ (.int .i64 7) = WE at *
            have hsrc : Src WE a l.length (dN l) := by
              have hy := HE.out.2
              rw [hvf] at hy
              exact hy.src.2.2.1
            have hle := lent8_any a l.length cap (dN l) WE hl hsrc
            rw [← hvf] at hle
            clear hsrc hc0 hc1 hf0 hf1
            refine wp_region_lit ?_
            refine wpList_runTo rfl (some 165) rfl (v) WE (by kernel_rfl) ?_
            simp only [Act.put, List.setIfInBounds_toArray, List.set_cons_zero, List.set_cons_succ]
            refine wpList_callW rfl (some 166) rfl 17 #[v] (by kernel_rfl) hle ?_
            clear hle
            rintro e WF ⟨rfl, ho, hb⟩
            refine ⟨_, rfl, ?_⟩
            simp only [Act.put, List.setIfInBounds_toArray, List.set_cons_zero, List.set_cons_succ]
            have HT9 : Hid (TS w WF v l WE.heap.size (fun j => if j < l.length then dN l j else 201) []) := ⟨below_step HE.out.1 hb, HE.out.2.below hb, HV.out, ho, HE.out.1.size, fun x hx => by cases hx⟩
            have hde := Decode_any (HT9.out.lent l rfl HL.out.2 (fun j hj => by rw [if_pos hj])) (by omega)
            rw [hd1] at hde
            clear ho hb HE
            generalize WE.heap.size = g3 at *
            refine wpList_callW rfl (some 167) rfl 10 #[.slice (some ⟨g3, 0, none⟩) l.length (l.length + 8)] (by kernel_rfl) hde ?_
            clear hde
            rintro e WG ⟨fg3, rfl, hx⟩
            refine ⟨_, rfl, ?_⟩
            simp only [Act.put, List.setIfInBounds_toArray, List.set_cons_zero, List.set_cons_succ]
            have HTG : Hid (Below w.heap.size w WG ∧ Blk WG fg3 57 #[.int .i64 (p1 : Int), .int .i64 180]) := ⟨below_step HT9.out.bel hx.out.1, hx.out.2.2⟩
            clear hx HT9
            refine wpList_runTo rfl (some 164) rfl (.tuple #[.agg zeroC.cs, .iface 54 (.pointer (some ⟨fg3, 0, none⟩))]) WG (by kernel_rfl) ?_
            simp only [Act.put, List.setIfInBounds_toArray, List.set_cons_zero, List.set_cons_succ]
            refine wpList_runTo rfl (some 168) rfl (.agg zeroC.cs) WG (by kernel_rfl) ?_
            simp only [Act.put, List.setIfInBounds_toArray, List.set_cons_zero, List.set_cons_succ]
            refine wpList_runTo rfl (some 169) rfl (.iface 54 (.pointer (some ⟨fg3, 0, none⟩))) WG (by kernel_rfl) ?_
            simp only [Act.put, List.setIfInBounds_toArray, List.set_cons_zero, List.set_cons_succ]
            refine wpList_runTo rfl (some 6) rfl (.iface 54 (.pointer (some ⟨fg3, 0, none⟩))) WG (by kernel_rfl) ?_
            simp only [Act.put, List.setIfInBounds_toArray, List.set_cons_zero, List.set_cons_succ]
            refine wpList_nil ?_
            refine hK _ _ ?_
            clear hK
            generalize zeroC.cs = cx24
            go_upto_region 25 with fail
            rename_i K hK
            refine wp_region_lit ?_
            refine wpList_runTo rfl (some 171) rfl (.iface 54 (.pointer (some ⟨fg3, 0, none⟩))) WG (by kernel_rfl) ?_
            simp only [Act.put, List.setIfInBounds_toArray, List.set_cons_zero, List.set_cons_succ]
            refine wpList_runTo rfl (some 172) rfl (.tuple #[(.pointer (some ⟨fg3, 0, none⟩)), .bool true]) WG (by kernel_rfl) ?_
            simp only [Act.put, List.setIfInBounds_toArray, List.set_cons_zero, List.set_cons_succ]
            refine wpList_runTo rfl (some 170) rfl (.tuple #[(.pointer (some ⟨fg3, 0, none⟩)), .bool true]) WG (by kernel_rfl) ?_
            simp only [Act.put, List.setIfInBounds_toArray, List.set_cons_zero, List.set_cons_succ]
            refine wpList_runTo rfl (some 173) rfl ((.pointer (some ⟨fg3, 0, none⟩))) WG (by kernel_rfl) ?_
            simp only [Act.put, List.setIfInBounds_toArray, List.set_cons_zero, List.set_cons_succ]
            refine wpList_runTo rfl (some 174) rfl (.bool true) WG (by kernel_rfl) ?_
            simp only [Act.put, List.setIfInBounds_toArray, List.set_cons_zero, List.set_cons_succ]
            refine wpList_runTo rfl (some 19) rfl ((.pointer (some ⟨fg3, 0, none⟩))) WG (by kernel_rfl) ?_
            simp only [Act.put, List.setIfInBounds_toArray, List.set_cons_zero, List.set_cons_succ]
            refine wpList_runTo rfl (some 20) rfl (.bool true) WG (by kernel_rfl) ?_
            simp only [Act.put, List.setIfInBounds_toArray, List.set_cons_zero, List.set_cons_succ]
            refine wpList_nil ?_
            refine hK _ _ ?_
            clear hK
            have hc0 : WG.cell? ⟨fg3, 0, none⟩ = some (.int .i64 (p1 : Int)) := HTG.out.2.cell 0
            have hc1 : WG.cell? ⟨fg3, 1, none⟩ = some (.int .i64 180) := HTG.out.2.cell 1
            go_upto_region 26 with fail
            rename_i K hK
            refine wp_region_lit ?_
            refine wpList_runTo rfl (some 175) rfl (.bool true) WG (by kernel_rfl) ?_
            simp only [Act.put, List.setIfInBounds_toArray, List.set_cons_zero, List.set_cons_succ]
            refine wpList_runTo rfl (some 176) rfl (.bool true) WG (by kernel_rfl) ?_
            simp only [Act.put, List.setIfInBounds_toArray, List.set_cons_zero, List.set_cons_succ]
            refine wpList_runToG (by kernel_rfl) (some 177) rfl ((.pointer (some ⟨fg3, 0, none⟩))) WG (by kernel_rfl) ?_
            simp only [Act.put, List.setIfInBounds_toArray, List.set_cons_zero, List.set_cons_succ]
            refine wpList_runToG (by kernel_rfl) (some 178) rfl (.bool true) WG (by exact ptrG_run (ad := ⟨fg3, 0, none⟩) (.tmp 177) (.const (.pointer none)) rfl (by kernel_rfl) rfl _) ?_
            simp only [Act.put, List.setIfInBounds_toArray, List.set_cons_zero, List.set_cons_succ]
            refine wpList_runTo rfl (some 179) rfl (.bool true) WG (by kernel_rfl) ?_
            simp only [Act.put, List.setIfInBounds_toArray, List.set_cons_zero, List.set_cons_succ]
            refine wpList_runTo rfl (some 180) rfl (.bool true) WG (by kernel_rfl) ?_
            simp only [Act.put, List.setIfInBounds_toArray, List.set_cons_zero, List.set_cons_succ]
            refine wpList_runToG (by kernel_rfl) (some 181) rfl ((.pointer (some ⟨fg3, 0, none⟩))) WG (by kernel_rfl) ?_
            simp only [Act.put, List.setIfInBounds_toArray, List.set_cons_zero, List.set_cons_succ]
            refine wpList_runToG (by kernel_rfl) (some 182) rfl ((.pointer (some ⟨fg3, 0, none⟩))) WG (by kernel_rfl) ?_
            simp only [Act.put, List.setIfInBounds_toArray, List.set_cons_zero, List.set_cons_succ]
            refine wpList_runToG (by kernel_rfl) (some 183) rfl ((.pointer (some ⟨fg3, 0, none⟩))) WG (by kernel_rfl) ?_
            simp only [Act.put, List.setIfInBounds_toArray, List.set_cons_zero, List.set_cons_succ]
            refine wpList_runToG (by kernel_rfl) (some 184) rfl (.int .i64 (p1 : Int)) WG (by exact ld3_run (.tmp 183) rfl (by kernel_rfl) hc0) ?_
            simp only [Act.put, List.setIfInBounds_toArray, List.set_cons_zero, List.set_cons_succ]
            refine wpList_runToG (by kernel_rfl) (some 185) rfl (.int .i64 (p1 : Int)) WG (by kernel_rfl) ?_
            simp only [Act.put, List.setIfInBounds_toArray, List.set_cons_zero, List.set_cons_succ]
            refine wpList_runToG (by kernel_rfl) (some 186) rfl (.bool true) WG (by exact eqI_run (z := (p1 : Int)) (y0 := (p1 : Int)) (.inr rfl) (.tmp 184) (.tmp 185) rfl (by kernel_rfl) (by kernel_rfl) (by simp) _) ?_
            simp only [Act.put, List.setIfInBounds_toArray, List.set_cons_zero, List.set_cons_succ]
            refine wpList_runTo rfl (some 187) rfl (.bool true) WG (by kernel_rfl) ?_
            simp only [Act.put, List.setIfInBounds_toArray, List.set_cons_zero, List.set_cons_succ]
            refine wpList_runTo rfl (some 188) rfl (.bool true) WG (by kernel_rfl) ?_
            simp only [Act.put, List.setIfInBounds_toArray, List.set_cons_zero, List.set_cons_succ]
            refine wpList_runToG (by kernel_rfl) (some 189) rfl ((.pointer (some ⟨fg3, 0, none⟩))) WG (by kernel_rfl) ?_
            simp only [Act.put, List.setIfInBounds_toArray, List.set_cons_zero, List.set_cons_succ]
            refine wpList_runToG (by kernel_rfl) (some 190) rfl ((.pointer (some ⟨fg3, 0, none⟩))) WG (by kernel_rfl) ?_
            simp only [Act.put, List.setIfInBounds_toArray, List.set_cons_zero, List.set_cons_succ]
            refine wpList_runToG (by kernel_rfl) (some 191) rfl ((.pointer (some ⟨fg3, 1, none⟩))) WG (by kernel_rfl) ?_
            simp only [Act.put, List.setIfInBounds_toArray, List.set_cons_zero, List.set_cons_succ]
            refine wpList_runToG (by kernel_rfl) (some 192) rfl (.int .i64 180) WG (by exact ldE_run (.tmp 191) rfl (by kernel_rfl) hc1) ?_
            simp only [Act.put, List.setIfInBounds_toArray, List.set_cons_zero, List.set_cons_succ]
            refine wpList_runToG (by kernel_rfl) (some 193) rfl (.int .i64 180) WG (by kernel_rfl) ?_
            simp only [Act.put, List.setIfInBounds_toArray, List.set_cons_zero, List.set_cons_succ]
            refine wpList_runToG (by kernel_rfl) (some 194) rfl (.bool true) WG (by kernel_rfl) ?_
            simp only [Act.put, List.setIfInBounds_toArray, List.set_cons_zero, List.set_cons_succ]
            refine wpList_runTo rfl (some 195) rfl (.bool true) WG (by kernel_rfl) ?_
            simp only [Act.put, List.setIfInBounds_toArray, List.set_cons_zero, List.set_cons_succ]
            refine wpList_runTo rfl (some 2) rfl (.bool true) WG (by kernel_rfl) ?_
            simp only [Act.put, List.setIfInBounds_toArray, List.set_cons_zero, List.set_cons_succ]
            refine wpList_nil ?_
            refine hK _ _ ?_
            clear hK
            go_wp2
            go_ret
            exact ⟨rfl, HTG.out.1⟩
        | ok d2 =>
          rw [hd2] at hde
          as_aux_lemma =>
            go_upto_region 10 with fail
            rename_i K hK
            refine wp_region_lit ?_
            refine wpList_runTo rfl (some 56) rfl (lv) wr (by kernel_rfl) ?_
            simp only [Act.put, List.setIfInBounds_toArray, List.set_cons_zero, List.set_cons_succ]
            refine wpList_callW rfl (some 57) rfl 10 #[lv] (by kernel_rfl) hde ?_
            clear hde
            rintro e W9 ⟨rfl, hx⟩
            refine ⟨_, rfl, ?_⟩
            simp only [Act.put, List.setIfInBounds_toArray, List.set_cons_zero, List.set_cons_succ]
            refine wpList_runTo rfl (some 55) rfl (.tuple #[.agg d2.cs, .nilIface]) W9 (by kernel_rfl) ?_
            simp only [Act.put, List.setIfInBounds_toArray, List.set_cons_zero, List.set_cons_succ]
            refine wpList_runTo rfl (some 58) rfl (.agg d2.cs) W9 (by kernel_rfl) ?_
            simp only [Act.put, List.setIfInBounds_toArray, List.set_cons_zero, List.set_cons_succ]
            refine wpList_runTo rfl (some 59) rfl (.nilIface) W9 (by kernel_rfl) ?_
            simp only [Act.put, List.setIfInBounds_toArray, List.set_cons_zero, List.set_cons_succ]
            refine wpList_runTo rfl (some 12) rfl (.pointer (some ⟨W9.heap.size, 0, none⟩)) (W9.alloc (.cells zeroC.cs 27)) (by kernel_rfl) ?_
            simp only [Act.put, List.setIfInBounds_toArray, List.set_cons_zero, List.set_cons_succ]
            refine store_cmd (c := d2) (c' := zeroC) (Blk.new W9 _ _) (.tmp 12) (.tmp 58) rfl rfl (by kernel_rfl) (by kernel_rfl) ?_
            simp only [Act.put, List.setIfInBounds_toArray, List.set_cons_zero, List.set_cons_succ]
            obtain ⟨hn1, hn2⟩ := newC W9 d2
            have HA1 := HT8.out.below hx.out
            have HTA : Hid (TS w _ v l g (revD l l.length) ((W9.heap.size, 27, d2.cs) :: (pc8, 27, zeroC.cs) :: (pc5, 27, zeroC.cs) :: (fg1, 57, #[.int .i64 (p1 : Int), .int .i64 180]) :: [])) := (HA1.below hn1).add hn2 (by have := HA1.own.lt; omega)
            clear HA1 hx
            clear hn1 hn2 HT8
            generalize (W9.alloc (.cells zeroC.cs 27)).setRow W9.heap.size d2.cs = WA at *
            generalize W9.heap.size = pc12 at *
            refine wpList_runTo rfl (some 13) rfl (.nilIface) WA (by kernel_rfl) ?_
            simp only [Act.put, List.setIfInBounds_toArray, List.set_cons_zero, List.set_cons_succ]
            refine wpList_nil ?_
            refine hK _ _ ?_
            clear hK
            generalize d2.cs = cs12
            have hlv : By WA lv l.reverse := by
              rw [hlvf]
              exact HTA.out.lent l.reverse (List.length_reverse ..) HL.out.2.rev (fun j hj => by unfold revD; rw [if_pos hj, dN_rev l hj])
            obtain ⟨cv, WB, hcv, hcb, hcbel⟩ := conv_back (w := WA) HL.out.2.rev
            have HTB : Hid (TS w WB v l g (revD l l.length) ((pc12, 27, d2.cs) :: (pc8, 27, zeroC.cs) :: (pc5, 27, zeroC.cs) :: (fg1, 57, #[.int .i64 (p1 : Int), .int .i64 180]) :: [])) := HTA.out.below hcbel
            have hre := refDecode_any hcb (by rw [List.length_reverse]; omega)
            rw [hd2] at hre
            clear hcb hcbel HTA
            go_upto_region 11 with fail
            rename_i K hK
            refine wp_region_lit ?_
            refine wpList_runTo rfl (some 61) rfl (lv) WA (by kernel_rfl) ?_
            simp only [Act.put, List.setIfInBounds_toArray, List.set_cons_zero, List.set_cons_succ]
            refine wpList_runTo rfl (some 62) rfl (.string (ofN l.reverse)) WA (by exact conv_run (.tmp 61) rfl (by kernel_rfl) hlv) ?_
            simp only [Act.put, List.setIfInBounds_toArray, List.set_cons_zero, List.set_cons_succ]
            refine wpList_runTo rfl (some 63) rfl (cv) WB (by exact convS_run (.tmp 62) rfl (by kernel_rfl) hcv) ?_
            simp only [Act.put, List.setIfInBounds_toArray, List.set_cons_zero, List.set_cons_succ]
            clear hlv hcv
            generalize ofN l.reverse = srv at *
            refine wpList_callW rfl (some 64) rfl 19 #[cv] (by kernel_rfl) hre ?_
            clear hre
            rintro e WC ⟨rfl, hx⟩
            refine ⟨_, rfl, ?_⟩
            simp only [Act.put, List.setIfInBounds_toArray, List.set_cons_zero, List.set_cons_succ]
            refine wpList_runTo rfl (some 60) rfl (.tuple #[.agg d2.cs, .int .i64 0, .int .i64 0]) WC (by kernel_rfl) ?_
            simp only [Act.put, List.setIfInBounds_toArray, List.set_cons_zero, List.set_cons_succ]
            refine wpList_runTo rfl (some 65) rfl (.agg d2.cs) WC (by kernel_rfl) ?_
            simp only [Act.put, List.setIfInBounds_toArray, List.set_cons_zero, List.set_cons_succ]
            refine wpList_runTo rfl (some 66) rfl (.int .i64 0) WC (by kernel_rfl) ?_
            simp only [Act.put, List.setIfInBounds_toArray, List.set_cons_zero, List.set_cons_succ]
            refine wpList_runTo rfl (some 67) rfl (.int .i64 0) WC (by kernel_rfl) ?_
            simp only [Act.put, List.setIfInBounds_toArray, List.set_cons_zero, List.set_cons_succ]
            refine wpList_runTo rfl (some 14) rfl (.pointer (some ⟨WC.heap.size, 0, none⟩)) (WC.alloc (.cells zeroC.cs 27)) (by kernel_rfl) ?_
            simp only [Act.put, List.setIfInBounds_toArray, List.set_cons_zero, List.set_cons_succ]
            refine store_cmd (c := d2) (c' := zeroC) (Blk.new WC _ _) (.tmp 14) (.tmp 65) rfl rfl (by kernel_rfl) (by kernel_rfl) ?_
            simp only [Act.put, List.setIfInBounds_toArray, List.set_cons_zero, List.set_cons_succ]
            obtain ⟨hn1, hn2⟩ := newC WC d2
            have HA1 := HTB.out.below hx.out
            have HTD : Hid (TS w _ v l g (revD l l.length) ((WC.heap.size, 27, d2.cs) :: (pc12, 27, d2.cs) :: (pc8, 27, zeroC.cs) :: (pc5, 27, zeroC.cs) :: (fg1, 57, #[.int .i64 (p1 : Int), .int .i64 180]) :: [])) := (HA1.below hn1).add hn2 (by have := HA1.own.lt; omega)
            clear HA1 hx hn1 hn2 HTB
            generalize (WC.alloc (.cells zeroC.cs 27)).setRow WC.heap.size d2.cs = WD at *
            generalize WC.heap.size = pc14 at *
            refine wpList_runTo rfl (some 15) rfl (.int .i64 0) WD (by kernel_rfl) ?_
            simp only [Act.put, List.setIfInBounds_toArray, List.set_cons_zero, List.set_cons_succ]
            refine wpList_runTo rfl (some 16) rfl (.int .i64 0) WD (by kernel_rfl) ?_
            simp only [Act.put, List.setIfInBounds_toArray, List.set_cons_zero, List.set_cons_succ]
            refine wpList_nil ?_
            refine hK _ _ ?_
            clear hK
            generalize d2.cs = cs14
            go_upto_region 12 with fail
            rename_i K hK
            refine wp_region_lit ?_
            refine wpList_runTo rfl (some 69) rfl (.nilIface) WD (by kernel_rfl) ?_
            simp only [Act.put, List.setIfInBounds_toArray, List.set_cons_zero, List.set_cons_succ]
            refine wpList_runTo rfl (some 70) rfl (.tuple #[(.pointer none), .bool false]) WD (by kernel_rfl) ?_
            simp only [Act.put, List.setIfInBounds_toArray, List.set_cons_zero, List.set_cons_succ]
            refine wpList_runTo rfl (some 68) rfl (.tuple #[(.pointer none), .bool false]) WD (by kernel_rfl) ?_
            simp only [Act.put, List.setIfInBounds_toArray, List.set_cons_zero, List.set_cons_succ]
            refine wpList_runTo rfl (some 71) rfl ((.pointer none)) WD (by kernel_rfl) ?_
            simp only [Act.put, List.setIfInBounds_toArray, List.set_cons_zero, List.set_cons_succ]
            refine wpList_runTo rfl (some 72) rfl (.bool false) WD (by kernel_rfl) ?_
            simp only [Act.put, List.setIfInBounds_toArray, List.set_cons_zero, List.set_cons_succ]
            refine wpList_runTo rfl (some 17) rfl ((.pointer none)) WD (by kernel_rfl) ?_
            simp only [Act.put, List.setIfInBounds_toArray, List.set_cons_zero, List.set_cons_succ]
            refine wpList_runTo rfl (some 18) rfl (.bool false) WD (by kernel_rfl) ?_
            simp only [Act.put, List.setIfInBounds_toArray, List.set_cons_zero, List.set_cons_succ]
            refine wpList_nil ?_
            refine hK _ _ ?_
            clear hK
            go_upto_region 13 with fail
            rename_i K hK
            refine wp_region_lit ?_
            refine load_cmd (c := d2) (HTD.out.bk (pc12, 27, d2.cs) (by simp)).1 (.tmp 12) rfl rfl (by kernel_rfl) ?_
            simp only [Act.put, List.setIfInBounds_toArray, List.set_cons_zero, List.set_cons_succ]
            refine load_cmd (c := d2) (HTD.out.bk (pc14, 27, d2.cs) (by simp)).1 (.tmp 14) rfl rfl (by kernel_rfl) ?_
            simp only [Act.put, List.setIfInBounds_toArray, List.set_cons_zero, List.set_cons_succ]
            refine wpList_runTo rfl (some 75) rfl (.bool false) WD (by exact neC_run (c := d2) (.tmp 73) (.tmp 74) rfl (by kernel_rfl) (by kernel_rfl) _) ?_
            simp only [Act.put, List.setIfInBounds_toArray, List.set_cons_zero, List.set_cons_succ]
            generalize d2.cs = cx13
            refine wpList_runTo rfl (some 76) rfl (.bool false) WD (by kernel_rfl) ?_
            simp only [Act.put, List.setIfInBounds_toArray, List.set_cons_zero, List.set_cons_succ]
            refine wpList_runToG (by kernel_rfl) (some 77) rfl (.nilIface) WD (by kernel_rfl) ?_
            simp only [Act.put, List.setIfInBounds_toArray, List.set_cons_zero, List.set_cons_succ]
            refine wpList_runToG (by kernel_rfl) (some 78) rfl (.bool true) WD (by kernel_rfl) ?_
            simp only [Act.put, List.setIfInBounds_toArray, List.set_cons_zero, List.set_cons_succ]
            refine wpList_runToG (by kernel_rfl) (some 79) rfl (.int .i64 0) WD (by kernel_rfl) ?_
            simp only [Act.put, List.setIfInBounds_toArray, List.set_cons_zero, List.set_cons_succ]
            refine wpList_runToG (by kernel_rfl) (some 80) rfl (.bool true) WD (by kernel_rfl) ?_
            simp only [Act.put, List.setIfInBounds_toArray, List.set_cons_zero, List.set_cons_succ]
            refine wpList_runToG (by kernel_rfl) (some 81) rfl (.bool false) WD (by kernel_rfl) ?_
            simp only [Act.put, List.setIfInBounds_toArray, List.set_cons_zero, List.set_cons_succ]
            refine wpList_runTo rfl (some 82) rfl (.bool false) WD (by kernel_rfl) ?_
            simp only [Act.put, List.setIfInBounds_toArray, List.set_cons_zero, List.set_cons_succ]
            refine wpList_runTo rfl (some 83) rfl (.bool false) WD (by kernel_rfl) ?_
            simp only [Act.put, List.setIfInBounds_toArray, List.set_cons_zero, List.set_cons_succ]
            refine wpList_runToG (by kernel_rfl) (some 84) rfl (.nilIface) WD (by kernel_rfl) ?_
            simp only [Act.put, List.setIfInBounds_toArray, List.set_cons_zero, List.set_cons_succ]
            refine wpList_runToG (by kernel_rfl) (some 85) rfl (.bool false) WD (by kernel_rfl) ?_
            simp only [Act.put, List.setIfInBounds_toArray, List.set_cons_zero, List.set_cons_succ]
            obtain ⟨bf, hbf⟩ : ∃ bf, bf = Value.bool false := ⟨_, rfl⟩
            obtain ⟨un, hun⟩ : ∃ un, un = undef := ⟨_, rfl⟩
            refine wpList_runToG (by kernel_rfl) (some 86) rfl (bf) WD (by subst hbf; kernel_rfl) ?_
            simp only [Act.put, List.setIfInBounds_toArray, List.set_cons_zero, List.set_cons_succ]
            refine wpList_skipU hun (by subst hbf; subst hun; kernel_rfl) (some 87) rfl ?_
            simp only [Act.put, List.setIfInBounds_toArray, List.set_cons_zero, List.set_cons_succ]
            refine wpList_skipU hun (by subst hbf; subst hun; kernel_rfl) (some 88) rfl ?_
            simp only [Act.put, List.setIfInBounds_toArray, List.set_cons_zero, List.set_cons_succ]
            refine wpList_skipU hun (by subst hbf; subst hun; kernel_rfl) (some 89) rfl ?_
            simp only [Act.put, List.setIfInBounds_toArray, List.set_cons_zero, List.set_cons_succ]
            refine wpList_skipU hun (by subst hbf; subst hun; kernel_rfl) (some 90) rfl ?_
            simp only [Act.put, List.setIfInBounds_toArray, List.set_cons_zero, List.set_cons_succ]
            refine wpList_skipU hun (by subst hbf; subst hun; kernel_rfl) (some 91) rfl ?_
            simp only [Act.put, List.setIfInBounds_toArray, List.set_cons_zero, List.set_cons_succ]
            refine wpList_skipU hun (by subst hbf; subst hun; kernel_rfl) (some 92) rfl ?_
            simp only [Act.put, List.setIfInBounds_toArray, List.set_cons_zero, List.set_cons_succ]
            refine wpList_skipU hun (by subst hbf; subst hun; kernel_rfl) (some 93) rfl ?_
            simp only [Act.put, List.setIfInBounds_toArray, List.set_cons_zero, List.set_cons_succ]
            refine wpList_skipU hun (by subst hbf; subst hun; kernel_rfl) (some 94) rfl ?_
            simp only [Act.put, List.setIfInBounds_toArray, List.set_cons_zero, List.set_cons_succ]
            refine wpList_skipU hun (by subst hbf; subst hun; kernel_rfl) (some 95) rfl ?_
            simp only [Act.put, List.setIfInBounds_toArray, List.set_cons_zero, List.set_cons_succ]
            refine wpList_skipU hun (by subst hbf; subst hun; kernel_rfl) (some 96) rfl ?_
            simp only [Act.put, List.setIfInBounds_toArray, List.set_cons_zero, List.set_cons_succ]
            refine wpList_skipU hun (by subst hbf; subst hun; kernel_rfl) (some 97) rfl ?_
            simp only [Act.put, List.setIfInBounds_toArray, List.set_cons_zero, List.set_cons_succ]
            refine wpList_skipU hun (by subst hbf; subst hun; kernel_rfl) (some 98) rfl ?_
            simp only [Act.put, List.setIfInBounds_toArray, List.set_cons_zero, List.set_cons_succ]
            refine wpList_skipU hun (by subst hbf; subst hun; kernel_rfl) (some 99) rfl ?_
            simp only [Act.put, List.setIfInBounds_toArray, List.set_cons_zero, List.set_cons_succ]
            refine wpList_skipU hun (by subst hbf; subst hun; kernel_rfl) (some 100) rfl ?_
            simp only [Act.put, List.setIfInBounds_toArray, List.set_cons_zero, List.set_cons_succ]
            refine wpList_skipU hun (by subst hbf; subst hun; kernel_rfl) (some 101) rfl ?_
            simp only [Act.put, List.setIfInBounds_toArray, List.set_cons_zero, List.set_cons_succ]
            refine wpList_skipU hun (by subst hbf; subst hun; kernel_rfl) (some 102) rfl ?_
            simp only [Act.put, List.setIfInBounds_toArray, List.set_cons_zero, List.set_cons_succ]
            refine wpList_skipU hun (by subst hbf; subst hun; kernel_rfl) (some 103) rfl ?_
            simp only [Act.put, List.setIfInBounds_toArray, List.set_cons_zero, List.set_cons_succ]
            refine wpList_skipU hun (by subst hbf; subst hun; kernel_rfl) (some 104) rfl ?_
            simp only [Act.put, List.setIfInBounds_toArray, List.set_cons_zero, List.set_cons_succ]
            refine wpList_skipU hun (by subst hbf; subst hun; kernel_rfl) (some 105) rfl ?_
            simp only [Act.put, List.setIfInBounds_toArray, List.set_cons_zero, List.set_cons_succ]
            refine wpList_skipU hun (by subst hbf; subst hun; kernel_rfl) (some 106) rfl ?_
            simp only [Act.put, List.setIfInBounds_toArray, List.set_cons_zero, List.set_cons_succ]
            refine wpList_skipU hun (by subst hbf; subst hun; kernel_rfl) (some 107) rfl ?_
            simp only [Act.put, List.setIfInBounds_toArray, List.set_cons_zero, List.set_cons_succ]
            refine wpList_skipU hun (by subst hbf; subst hun; kernel_rfl) (some 108) rfl ?_
            simp only [Act.put, List.setIfInBounds_toArray, List.set_cons_zero, List.set_cons_succ]
            refine wpList_runToG (by kernel_rfl) (some 109) rfl (.bool false) WD (by subst hbf; subst hun; kernel_rfl) ?_
            simp only [Act.put, List.setIfInBounds_toArray, List.set_cons_zero, List.set_cons_succ]
            refine wpList_runTo rfl (some 110) rfl (.bool false) WD (by kernel_rfl) ?_
            simp only [Act.put, List.setIfInBounds_toArray, List.set_cons_zero, List.set_cons_succ]
            refine wpList_nil ?_
            refine hK _ _ ?_
            clear hK
            go_upto_region 15 with fail
            rename_i K hK
            refine wp_region_lit ?_
            refine wpList_runTo rfl (some 111) rfl (.bool true) WD (by kernel_rfl) ?_
            simp only [Act.put, List.setIfInBounds_toArray, List.set_cons_zero, List.set_cons_succ]
            refine wpList_runTo rfl (some 112) rfl (.bool false) WD (by kernel_rfl) ?_
            simp only [Act.put, List.setIfInBounds_toArray, List.set_cons_zero, List.set_cons_succ]
            refine wpList_runTo rfl (some 113) rfl (.bool false) WD (by kernel_rfl) ?_
            simp only [Act.put, List.setIfInBounds_toArray, List.set_cons_zero, List.set_cons_succ]
            refine wpList_runToG (by kernel_rfl) (some 114) rfl (.bool true) WD (by kernel_rfl) ?_
            simp only [Act.put, List.setIfInBounds_toArray, List.set_cons_zero, List.set_cons_succ]
            refine wpList_runToG (by kernel_rfl) (some 115) rfl (.bool false) WD (by kernel_rfl) ?_
            simp only [Act.put, List.setIfInBounds_toArray, List.set_cons_zero, List.set_cons_succ]
            refine wpList_runTo rfl (some 116) rfl (.bool false) WD (by kernel_rfl) ?_
            simp only [Act.put, List.setIfInBounds_toArray, List.set_cons_zero, List.set_cons_succ]
            refine wpList_runTo rfl (some 117) rfl (.bool false) WD (by kernel_rfl) ?_
            simp only [Act.put, List.setIfInBounds_toArray, List.set_cons_zero, List.set_cons_succ]
            refine loadG_cmd (c := zeroC) (HTD.out.bk (pc5, 27, zeroC.cs) (by simp)).1 (.tmp 5) (by kernel_rfl) rfl (by kernel_rfl) ?_
            simp only [Act.put, List.setIfInBounds_toArray, List.set_cons_zero, List.set_cons_succ]
            refine loadG_cmd (c := zeroC) (HTD.out.bk (pc8, 27, zeroC.cs) (by simp)).1 (.tmp 8) (by kernel_rfl) rfl (by kernel_rfl) ?_
            simp only [Act.put, List.setIfInBounds_toArray, List.set_cons_zero, List.set_cons_succ]
            refine wpList_runToG (by kernel_rfl) (some 120) rfl (.bool false) WD (by exact neC_run (c := zeroC) (.tmp 118) (.tmp 119) rfl (by kernel_rfl) (by kernel_rfl) _) ?_
            simp only [Act.put, List.setIfInBounds_toArray, List.set_cons_zero, List.set_cons_succ]
            generalize zeroC.cs = cx15
            refine wpList_runTo rfl (some 121) rfl (.bool false) WD (by kernel_rfl) ?_
            simp only [Act.put, List.setIfInBounds_toArray, List.set_cons_zero, List.set_cons_succ]
            refine wpList_runTo rfl (some 122) rfl (.bool false) WD (by kernel_rfl) ?_
            simp only [Act.put, List.setIfInBounds_toArray, List.set_cons_zero, List.set_cons_succ]
            refine wpList_runToG (by kernel_rfl) (some 123) rfl (.iface 54 (.pointer (some ⟨fg1, 0, none⟩))) WD (by kernel_rfl) ?_
            simp only [Act.put, List.setIfInBounds_toArray, List.set_cons_zero, List.set_cons_succ]
            refine wpList_runToG (by kernel_rfl) (some 124) rfl (.bool false) WD (by exact ifE_run (ad := ⟨fg1, 0, none⟩) (.tmp 123) (.const .nilIface) rfl (by kernel_rfl) rfl _) ?_
            simp only [Act.put, List.setIfInBounds_toArray, List.set_cons_zero, List.set_cons_succ]
            refine wpList_runToG (by kernel_rfl) (some 125) rfl (.int .i64 180) WD (by kernel_rfl) ?_
            simp only [Act.put, List.setIfInBounds_toArray, List.set_cons_zero, List.set_cons_succ]
            refine wpList_runToG (by kernel_rfl) (some 126) rfl (.bool false) WD (by kernel_rfl) ?_
            simp only [Act.put, List.setIfInBounds_toArray, List.set_cons_zero, List.set_cons_succ]
            refine wpList_runToG (by kernel_rfl) (some 127) rfl (.bool false) WD (by kernel_rfl) ?_
            simp only [Act.put, List.setIfInBounds_toArray, List.set_cons_zero, List.set_cons_succ]
            refine wpList_runTo rfl (some 128) rfl (.bool false) WD (by kernel_rfl) ?_
            simp only [Act.put, List.setIfInBounds_toArray, List.set_cons_zero, List.set_cons_succ]
            refine wpList_nil ?_
            refine hK _ _ ?_
            clear hK
            go_upto_region 17 with fail
            rename_i K hK
            refine wp_region_lit ?_
            refine wpList_runTo rfl (some 129) rfl (.iface 54 (.pointer (some ⟨fg1, 0, none⟩))) WD (by kernel_rfl) ?_
            simp only [Act.put, List.setIfInBounds_toArray, List.set_cons_zero, List.set_cons_succ]
            refine wpList_runTo rfl (some 130) rfl (.bool false) WD (by exact ifE_run (ad := ⟨fg1, 0, none⟩) (.tmp 129) (.const .nilIface) rfl (by kernel_rfl) rfl _) ?_
            simp only [Act.put, List.setIfInBounds_toArray, List.set_cons_zero, List.set_cons_succ]
            refine wpList_nil ?_
            refine hK _ _ ?_
            clear hK
            go_upto_region 19 with fail
            rename_i K hK
            refine wp_region_lit ?_
            refine wpList_runTo rfl (some 132) rfl (.iface 54 (.pointer (some ⟨fg1, 0, none⟩))) WD (by kernel_rfl) ?_
            simp only [Act.put, List.setIfInBounds_toArray, List.set_cons_zero, List.set_cons_succ]
            refine wpList_runTo rfl (some 133) rfl (.tuple #[(.pointer (some ⟨fg1, 0, none⟩)), .bool true]) WD (by kernel_rfl) ?_
            simp only [Act.put, List.setIfInBounds_toArray, List.set_cons_zero, List.set_cons_succ]
            refine wpList_runTo rfl (some 131) rfl (.tuple #[(.pointer (some ⟨fg1, 0, none⟩)), .bool true]) WD (by kernel_rfl) ?_
            simp only [Act.put, List.setIfInBounds_toArray, List.set_cons_zero, List.set_cons_succ]
            refine wpList_runTo rfl (some 134) rfl ((.pointer (some ⟨fg1, 0, none⟩))) WD (by kernel_rfl) ?_
            simp only [Act.put, List.setIfInBounds_toArray, List.set_cons_zero, List.set_cons_succ]
            refine wpList_runTo rfl (some 135) rfl (.bool true) WD (by kernel_rfl) ?_
            simp only [Act.put, List.setIfInBounds_toArray, List.set_cons_zero, List.set_cons_succ]
            refine wpList_runTo rfl (some 19) rfl ((.pointer (some ⟨fg1, 0, none⟩))) WD (by kernel_rfl) ?_
            simp only [Act.put, List.setIfInBounds_toArray, List.set_cons_zero, List.set_cons_succ]
            refine wpList_runTo rfl (some 20) rfl (.bool true) WD (by kernel_rfl) ?_
            simp only [Act.put, List.setIfInBounds_toArray, List.set_cons_zero, List.set_cons_succ]
            refine wpList_nil ?_
            refine hK _ _ ?_
            clear hK
            have hc0 : WD.cell? ⟨fg1, 0, none⟩ = some (.int .i64 (p1 : Int)) := (HTD.out.bk (fg1, 57, #[.int .i64 (p1 : Int), .int .i64 180]) (by simp)).1.cell 0
            have hc1 : WD.cell? ⟨fg1, 1, none⟩ = some (.int .i64 180) := (HTD.out.bk (fg1, 57, #[.int .i64 (p1 : Int), .int .i64 180]) (by simp)).1.cell 1
            go_upto_region 20 with fail
            rename_i K hK
            refine wp_region_lit ?_
            refine wpList_runTo rfl (some 136) rfl (.bool true) WD (by kernel_rfl) ?_
            simp only [Act.put, List.setIfInBounds_toArray, List.set_cons_zero, List.set_cons_succ]
            refine wpList_runTo rfl (some 137) rfl (.bool false) WD (by kernel_rfl) ?_
            simp only [Act.put, List.setIfInBounds_toArray, List.set_cons_zero, List.set_cons_succ]
            refine wpList_runTo rfl (some 138) rfl (.bool false) WD (by kernel_rfl) ?_
            simp only [Act.put, List.setIfInBounds_toArray, List.set_cons_zero, List.set_cons_succ]
            refine wpList_runToG (by kernel_rfl) (some 139) rfl ((.pointer (some ⟨fg1, 0, none⟩))) WD (by kernel_rfl) ?_
            simp only [Act.put, List.setIfInBounds_toArray, List.set_cons_zero, List.set_cons_succ]
            refine wpList_runToG (by kernel_rfl) (some 140) rfl (.bool false) WD (by exact ptrF_run (ad := ⟨fg1, 0, none⟩) (.tmp 139) (.const (.pointer none)) rfl (by kernel_rfl) rfl _) ?_
            simp only [Act.put, List.setIfInBounds_toArray, List.set_cons_zero, List.set_cons_succ]
            refine wpList_runTo rfl (some 141) rfl (.bool false) WD (by kernel_rfl) ?_
            simp only [Act.put, List.setIfInBounds_toArray, List.set_cons_zero, List.set_cons_succ]
            refine wpList_runTo rfl (some 142) rfl (.bool false) WD (by kernel_rfl) ?_
            simp only [Act.put, List.setIfInBounds_toArray, List.set_cons_zero, List.set_cons_succ]
            refine wpList_runToG (by kernel_rfl) (some 143) rfl ((.pointer (some ⟨fg1, 0, none⟩))) WD (by kernel_rfl) ?_
            simp only [Act.put, List.setIfInBounds_toArray, List.set_cons_zero, List.set_cons_succ]
            refine wpList_runToG (by kernel_rfl) (some 144) rfl ((.pointer (some ⟨fg1, 0, none⟩))) WD (by kernel_rfl) ?_
            simp only [Act.put, List.setIfInBounds_toArray, List.set_cons_zero, List.set_cons_succ]
            refine wpList_runToG (by kernel_rfl) (some 145) rfl ((.pointer (some ⟨fg1, 0, none⟩))) WD (by kernel_rfl) ?_
            simp only [Act.put, List.setIfInBounds_toArray, List.set_cons_zero, List.set_cons_succ]
            refine wpList_runToG (by kernel_rfl) (some 146) rfl (.int .i64 (p1 : Int)) WD (by exact ld3_run (.tmp 145) rfl (by kernel_rfl) hc0) ?_
            simp only [Act.put, List.setIfInBounds_toArray, List.set_cons_zero, List.set_cons_succ]
            refine wpList_runToG (by kernel_rfl) (some 147) rfl (.int .i64 (p1 : Int)) WD (by kernel_rfl) ?_
            simp only [Act.put, List.setIfInBounds_toArray, List.set_cons_zero, List.set_cons_succ]
            refine wpList_runToG (by kernel_rfl) (some 148) rfl (.bool false) WD (by exact neN_run (N := p1) (.tmp 146) (.tmp 147) rfl (by kernel_rfl) (by kernel_rfl) _) ?_
            simp only [Act.put, List.setIfInBounds_toArray, List.set_cons_zero, List.set_cons_succ]
            refine wpList_runTo rfl (some 149) rfl (.bool false) WD (by kernel_rfl) ?_
            simp only [Act.put, List.setIfInBounds_toArray, List.set_cons_zero, List.set_cons_succ]
            refine wpList_runTo rfl (some 150) rfl (.bool false) WD (by kernel_rfl) ?_
            simp only [Act.put, List.setIfInBounds_toArray, List.set_cons_zero, List.set_cons_succ]
            refine wpList_runToG (by kernel_rfl) (some 151) rfl ((.pointer (some ⟨fg1, 0, none⟩))) WD (by kernel_rfl) ?_
            simp only [Act.put, List.setIfInBounds_toArray, List.set_cons_zero, List.set_cons_succ]
            refine wpList_runToG (by kernel_rfl) (some 152) rfl ((.pointer (some ⟨fg1, 0, none⟩))) WD (by kernel_rfl) ?_
            simp only [Act.put, List.setIfInBounds_toArray, List.set_cons_zero, List.set_cons_succ]
            refine wpList_runToG (by kernel_rfl) (some 153) rfl ((.pointer (some ⟨fg1, 1, none⟩))) WD (by kernel_rfl) ?_
            simp only [Act.put, List.setIfInBounds_toArray, List.set_cons_zero, List.set_cons_succ]
            refine wpList_runToG (by kernel_rfl) (some 154) rfl (.int .i64 180) WD (by exact ldE_run (.tmp 153) rfl (by kernel_rfl) hc1) ?_
            simp only [Act.put, List.setIfInBounds_toArray, List.set_cons_zero, List.set_cons_succ]
            refine wpList_runToG (by kernel_rfl) (some 155) rfl (.int .i64 180) WD (by kernel_rfl) ?_
            simp only [Act.put, List.setIfInBounds_toArray, List.set_cons_zero, List.set_cons_succ]
            refine wpList_runToG (by kernel_rfl) (some 156) rfl (.bool false) WD (by kernel_rfl) ?_
            simp only [Act.put, List.setIfInBounds_toArray, List.set_cons_zero, List.set_cons_succ]
            refine wpList_runTo rfl (some 157) rfl (.bool false) WD (by kernel_rfl) ?_
            simp only [Act.put, List.setIfInBounds_toArray, List.set_cons_zero, List.set_cons_succ]
            refine wpList_nil ?_
            refine hK _ _ ?_
            clear hK
            have hf0 : WD.frozen? ⟨fg1, 0, none⟩ = false := (HTD.out.bk (fg1, 57, #[.int .i64 (p1 : Int), .int .i64 180]) (by simp)).1.frozen 0
            have hf1 : WD.frozen? ⟨fg1, 1, none⟩ = false := (HTD.out.bk (fg1, 57, #[.int .i64 (p1 : Int), .int .i64 180]) (by simp)).1.frozen 1
            have HE : Hid (Below w.heap.size w ((WD.setCell ⟨fg1, 0, none⟩ (.int .i64 (-7))).setCell ⟨fg1, 1, none⟩ (.int .i64 7)) ∧ By ((WD.setCell ⟨fg1, 0, none⟩ (.int .i64 (-7))).setCell ⟨fg1, 1, none⟩ (.int .i64 7)) v l) := by
              have hf : Fr WD ((WD.setCell ⟨fg1, 0, none⟩ (.int .i64 (-7))).setCell ⟨fg1, 1, none⟩ (.int .i64 7)) (fun b => b = fg1) := (Fr.setCell WD ⟨fg1, 0, none⟩ (.int .i64 (-7)) (fun b => b = fg1) rfl).trans (Fr.setCell _ ⟨fg1, 1, none⟩ (.int .i64 7) (fun b => b = fg1) rfl) fun i _ q => by rcases q with q | q <;> exact q
              refine ⟨⟨hf.os.trans HTD.out.bel.os, hf.tape.trans HTD.out.bel.tape, hf.output.trans HTD.out.bel.output, Nat.le_trans HTD.out.bel.size hf.size, fun q hq => (hf.block q (Nat.lt_of_lt_of_le hq HTD.out.bel.size) fun e => ?_).trans (HTD.out.bel.block q hq)⟩, HTD.out.by'.frE hf ?_⟩
              · omega
              · rcases HTD.out.hv with e | e
                · exact .inl e
                · exact .inr fun q hq e2 => by have := e q hq; omega
            clear HTD
            go_upto_region 24 with fail
            rename_i K hK
            generalize (WD.setCell ⟨fg1, 0, none⟩ (.int .i64 (-7))).setCell ⟨fg1, 1, none⟩ (.int .i64 7) = WE at *
            have hsrc : Src WE a l.length (dN l) := by
              have hy := HE.out.2
              rw [hvf] at hy
              exact hy.src.2.2.1
            have hle := lent8_any a l.length cap (dN l) WE hl hsrc
            rw [← hvf] at hle
            clear hsrc hc0 hc1 hf0 hf1
            refine wp_region_lit ?_
            refine wpList_runTo rfl (some 165) rfl (v) WE (by kernel_rfl) ?_
            simp only [Act.put, List.setIfInBounds_toArray, List.set_cons_zero, List.set_cons_succ]
            refine wpList_callW rfl (some 166) rfl 17 #[v] (by kernel_rfl) hle ?_
            clear hle
            rintro e WF ⟨rfl, ho, hb⟩
            refine ⟨_, rfl, ?_⟩
            simp only [Act.put, List.setIfInBounds_toArray, List.set_cons_zero, List.set_cons_succ]
            have HT9 : Hid (TS w WF v l WE.heap.size (fun j => if j < l.length then dN l j else 201) []) := ⟨below_step HE.out.1 hb, HE.out.2.below hb, HV.out, ho, HE.out.1.size, fun x hx => by cases hx⟩
            have hde := Decode_any (HT9.out.lent l rfl HL.out.2 (fun j hj => by rw [if_pos hj])) (by omega)
            rw [hd1] at hde
            clear ho hb HE
            generalize WE.heap.size = g3 at *
            refine wpList_callW rfl (some 167) rfl 10 #[.slice (some ⟨g3, 0, none⟩) l.length (l.length + 8)] (by kernel_rfl) hde ?_
            clear hde
            rintro e WG ⟨fg3, rfl, hx⟩
            refine ⟨_, rfl, ?_⟩
            simp only [Act.put, List.setIfInBounds_toArray, List.set_cons_zero, List.set_cons_succ]
            have HTG : Hid (Below w.heap.size w WG ∧ Blk WG fg3 57 #[.int .i64 (p1 : Int), .int .i64 180]) := ⟨below_step HT9.out.bel hx.out.1, hx.out.2.2⟩
            clear hx HT9
            refine wpList_runTo rfl (some 164) rfl (.tuple #[.agg zeroC.cs, .iface 54 (.pointer (some ⟨fg3, 0, none⟩))]) WG (by kernel_rfl) ?_
            simp only [Act.put, List.setIfInBounds_toArray, List.set_cons_zero, List.set_cons_succ]
            refine wpList_runTo rfl (some 168) rfl (.agg zeroC.cs) WG (by kernel_rfl) ?_
            simp only [Act.put, List.setIfInBounds_toArray, List.set_cons_zero, List.set_cons_succ]
            refine wpList_runTo rfl (some 169) rfl (.iface 54 (.pointer (some ⟨fg3, 0, none⟩))) WG (by kernel_rfl) ?_
            simp only [Act.put, List.setIfInBounds_toArray, List.set_cons_zero, List.set_cons_succ]
            refine wpList_runTo rfl (some 6) rfl (.iface 54 (.pointer (some ⟨fg3, 0, none⟩))) WG (by kernel_rfl) ?_
            simp only [Act.put, List.setIfInBounds_toArray, List.set_cons_zero, List.set_cons_succ]
            refine wpList_nil ?_
            refine hK _ _ ?_
            clear hK
            generalize zeroC.cs = cx24
            go_upto_region 25 with fail
            rename_i K hK
            refine wp_region_lit ?_
            refine wpList_runTo rfl (some 171) rfl (.iface 54 (.pointer (some ⟨fg3, 0, none⟩))) WG (by kernel_rfl) ?_
            simp only [Act.put, List.setIfInBounds_toArray, List.set_cons_zero, List.set_cons_succ]
            refine wpList_runTo rfl (some 172) rfl (.tuple #[(.pointer (some ⟨fg3, 0, none⟩)), .bool true]) WG (by kernel_rfl) ?_
            simp only [Act.put, List.setIfInBounds_toArray, List.set_cons_zero, List.set_cons_succ]
            refine wpList_runTo rfl (some 170) rfl (.tuple #[(.pointer (some ⟨fg3, 0, none⟩)), .bool true]) WG (by kernel_rfl) ?_
            simp only [Act.put, List.setIfInBounds_toArray, List.set_cons_zero, List.set_cons_succ]
            refine wpList_runTo rfl (some 173) rfl ((.pointer (some ⟨fg3, 0, none⟩))) WG (by kernel_rfl) ?_
            simp only [Act.put, List.setIfInBounds_toArray, List.set_cons_zero, List.set_cons_succ]
            refine wpList_runTo rfl (some 174) rfl (.bool true) WG (by kernel_rfl) ?_
            simp only [Act.put, List.setIfInBounds_toArray, List.set_cons_zero, List.set_cons_succ]
            refine wpList_runTo rfl (some 19) rfl ((.pointer (some ⟨fg3, 0, none⟩))) WG (by kernel_rfl) ?_
            simp only [Act.put, List.setIfInBounds_toArray, List.set_cons_zero, List.set_cons_succ]
            refine wpList_runTo rfl (some 20) rfl (.bool true) WG (by kernel_rfl) ?_
            simp only [Act.put, List.setIfInBounds_toArray, List.set_cons_zero, List.set_cons_succ]
            refine wpList_nil ?_
            refine hK _ _ ?_
            clear hK
            have hc0 : WG.cell? ⟨fg3, 0, none⟩ = some (.int .i64 (p1 : Int)) := HTG.out.2.cell 0
            have hc1 : WG.cell? ⟨fg3, 1, none⟩ = some (.int .i64 180) := HTG.out.2.cell 1
            go_upto_region 26 with fail
            rename_i K hK
            refine wp_region_lit ?_
            refine wpList_runTo rfl (some 175) rfl (.bool true) WG (by kernel_rfl) ?_
            simp only [Act.put, List.setIfInBounds_toArray, List.set_cons_zero, List.set_cons_succ]
            refine wpList_runTo rfl (some 176) rfl (.bool true) WG (by kernel_rfl) ?_
            simp only [Act.put, List.setIfInBounds_toArray, List.set_cons_zero, List.set_cons_succ]
            refine wpList_runToG (by kernel_rfl) (some 177) rfl ((.pointer (some ⟨fg3, 0, none⟩))) WG (by kernel_rfl) ?_
            simp only [Act.put, List.setIfInBounds_toArray, List.set_cons_zero, List.set_cons_succ]
            refine wpList_runToG (by kernel_rfl) (some 178) rfl (.bool true) WG (by exact ptrG_run (ad := ⟨fg3, 0, none⟩) (.tmp 177) (.const (.pointer none)) rfl (by kernel_rfl) rfl _) ?_
            simp only [Act.put, List.setIfInBounds_toArray, List.set_cons_zero, List.set_cons_succ]
            refine wpList_runTo rfl (some 179) rfl (.bool true) WG (by kernel_rfl) ?_
            simp only [Act.put, List.setIfInBounds_toArray, List.set_cons_zero, List.set_cons_succ]
            refine wpList_runTo rfl (some 180) rfl (.bool true) WG (by kernel_rfl) ?_
            simp only [Act.put, List.setIfInBounds_toArray, List.set_cons_zero, List.set_cons_succ]
            refine wpList_runToG (by kernel_rfl) (some 181) rfl ((.pointer (some ⟨fg3, 0, none⟩))) WG (by kernel_rfl) ?_
            simp only [Act.put, List.setIfInBounds_toArray, List.set_cons_zero, List.set_cons_succ]
            refine wpList_runToG (by kernel_rfl) (some 182) rfl ((.pointer (some ⟨fg3, 0, none⟩))) WG (by kernel_rfl) ?_
            simp only [Act.put, List.setIfInBounds_toArray, List.set_cons_zero, List.set_cons_succ]
            refine wpList_runToG (by kernel_rfl) (some 183) rfl ((.pointer (some ⟨fg3, 0, none⟩))) WG (by kernel_rfl) ?_
            simp only [Act.put, List.setIfInBounds_toArray, List.set_cons_zero, List.set_cons_succ]
            refine wpList_runToG (by kernel_rfl) (some 184) rfl (.int .i64 (p1 : Int)) WG (by exact ld3_run (.tmp 183) rfl (by kernel_rfl) hc0) ?_
            simp only [Act.put, List.setIfInBounds_toArray, List.set_cons_zero, List.set_cons_succ]
            refine wpList_runToG (by kernel_rfl) (some 185) rfl (.int .i64 (p1 : Int)) WG (by kernel_rfl) ?_
            simp only [Act.put, List.setIfInBounds_toArray, List.set_cons_zero, List.set_cons_succ]
            refine wpList_runToG (by kernel_rfl) (some 186) rfl (.bool true) WG (by exact eqI_run (z := (p1 : Int)) (y0 := (p1 : Int)) (.inr rfl) (.tmp 184) (.tmp 185) rfl (by kernel_rfl) (by kernel_rfl) (by simp) _) ?_
            simp only [Act.put, List.setIfInBounds_toArray, List.set_cons_zero, List.set_cons_succ]
            refine wpList_runTo rfl (some 187) rfl (.bool true) WG (by kernel_rfl) ?_
            simp only [Act.put, List.setIfInBounds_toArray, List.set_cons_zero, List.set_cons_succ]
            refine wpList_runTo rfl (some 188) rfl (.bool true) WG (by kernel_rfl) ?_
            simp only [Act.put, List.setIfInBounds_toArray, List.set_cons_zero, List.set_cons_succ]
            refine wpList_runToG (by kernel_rfl) (some 189) rfl ((.pointer (some ⟨fg3, 0, none⟩))) WG (by kernel_rfl) ?_
            simp only [Act.put, List.setIfInBounds_toArray, List.set_cons_zero, List.set_cons_succ]
            refine wpList_runToG (by kernel_rfl) (some 190) rfl ((.pointer (some ⟨fg3, 0, none⟩))) WG (by kernel_rfl) ?_
            simp only [Act.put, List.setIfInBounds_toArray, List.set_cons_zero, List.set_cons_succ]
            refine wpList_runToG (by kernel_rfl) (some 191) rfl ((.pointer (some ⟨fg3, 1, none⟩))) WG (by kernel_rfl) ?_
            simp only [Act.put, List.setIfInBounds_toArray, List.set_cons_zero, List.set_cons_succ]
            refine wpList_runToG (by kernel_rfl) (some 192) rfl (.int .i64 180) WG (by exact ldE_run (.tmp 191) rfl (by kernel_rfl) hc1) ?_
            simp only [Act.put, List.setIfInBounds_toArray, List.set_cons_zero, List.set_cons_succ]
            refine wpList_runToG (by kernel_rfl) (some 193) rfl (.int .i64 180) WG (by kernel_rfl) ?_
            simp only [Act.put, List.setIfInBounds_toArray, List.set_cons_zero, List.set_cons_succ]
            refine wpList_runToG (by kernel_rfl) (some 194) rfl (.bool true) WG (by kernel_rfl) ?_
            simp only [Act.put, List.setIfInBounds_toArray, List.set_cons_zero, List.set_cons_succ]
            refine wpList_runTo rfl (some 195) rfl (.bool true) WG (by kernel_rfl) ?_
            simp only [Act.put, List.setIfInBounds_toArray, List.set_cons_zero, List.set_cons_succ]
            refine wpList_runTo rfl (some 2) rfl (.bool true) WG (by kernel_rfl) ?_
            simp only [Act.put, List.setIfInBounds_toArray, List.set_cons_zero, List.set_cons_succ]
            refine wpList_nil ?_
            refine hK _ _ ?_
            clear hK
            go_wp2
            go_ret
            exact ⟨rfl, HTG.out.1⟩
  | ok d1 =>
    rw [hd1] at hde
    go_upto_region 3 with fail
    rename_i K hK
    refine wp_region_lit ?_
    refine wpList_runTo rfl (some 25) rfl (lv) W2 (by kernel_rfl) ?_
    simp only [Act.put, List.setIfInBounds_toArray, List.set_cons_zero, List.set_cons_succ]
    refine wpList_callW rfl (some 26) rfl 10 #[lv] (by kernel_rfl) hde ?_
    clear hde
    rintro e W3 ⟨rfl, hx⟩
    refine ⟨_, rfl, ?_⟩
    simp only [Act.put, List.setIfInBounds_toArray, List.set_cons_zero, List.set_cons_succ]
    refine wpList_runTo rfl (some 24) rfl (.tuple #[.agg d1.cs, .nilIface]) W3 (by kernel_rfl) ?_
    simp only [Act.put, List.setIfInBounds_toArray, List.set_cons_zero, List.set_cons_succ]
    refine wpList_runTo rfl (some 27) rfl (.agg d1.cs) W3 (by kernel_rfl) ?_
    simp only [Act.put, List.setIfInBounds_toArray, List.set_cons_zero, List.set_cons_succ]
    refine wpList_runTo rfl (some 28) rfl (.nilIface) W3 (by kernel_rfl) ?_
    simp only [Act.put, List.setIfInBounds_toArray, List.set_cons_zero, List.set_cons_succ]
    refine wpList_runTo rfl (some 5) rfl (.pointer (some ⟨W3.heap.size, 0, none⟩)) (W3.alloc (.cells zeroC.cs 27)) (by kernel_rfl) ?_
    simp only [Act.put, List.setIfInBounds_toArray, List.set_cons_zero, List.set_cons_succ]
    refine store_cmd (c := d1) (c' := zeroC) (Blk.new W3 _ _) (.tmp 5) (.tmp 27) rfl rfl (by kernel_rfl) (by kernel_rfl) ?_
    simp only [Act.put, List.setIfInBounds_toArray, List.set_cons_zero, List.set_cons_succ]
    obtain ⟨hn1, hn2⟩ := newC W3 d1
    have HA1 := HT2.out.below hx.out
    have HT4 : Hid (TS w _ v l g (fun j => if j < l.length then dN l j else 201) ((W3.heap.size, 27, d1.cs) :: [])) := (HA1.below hn1).add hn2 (by have := HA1.own.lt; omega)
    clear HA1 hx
    clear hn1 hn2 HT2
    generalize (W3.alloc (.cells zeroC.cs 27)).setRow W3.heap.size d1.cs = W4 at *
    generalize W3.heap.size = pc5 at *
    refine wpList_runTo rfl (some 6) rfl (.nilIface) W4 (by kernel_rfl) ?_
    simp only [Act.put, List.setIfInBounds_toArray, List.set_cons_zero, List.set_cons_succ]
    refine wpList_nil ?_
    refine hK _ _ ?_
    clear hK
    generalize d1.cs = cs5
    have hbk : Calls Try.prog 18 #[lv, v] W4 fun e w' => e = .returned (.bool true) ∧ OwnA w' g (l.length + 8) (fun _ => 202) ∧ Fr W4 w' (fun b => b = g) := by
      have hy := HT4.out.by'
      rw [hvf] at hy
      have := back_any g l.length a cap (dN l) W4 hl hy.src.2.2.1 (fun b off e hn => by
        rcases HT4.out.hv with h | h
        · rw [h] at hn; exact absurd hn (by decide)
        · have h1 := h b (by rw [hvf, e]; rfl)
          have h2 := HT4.out.gg
          omega) HT4.out.own
      rw [hlvf, hvf]
      exact this
    go_upto_region 4 with fail
    rename_i K hK
    refine wp_region_lit ?_
    refine wpList_runTo rfl (some 29) rfl (lv) W4 (by kernel_rfl) ?_
    simp only [Act.put, List.setIfInBounds_toArray, List.set_cons_zero, List.set_cons_succ]
    refine wpList_runTo rfl (some 30) rfl (v) W4 (by kernel_rfl) ?_
    simp only [Act.put, List.setIfInBounds_toArray, List.set_cons_zero, List.set_cons_succ]
    refine wpList_callW rfl (some 31) rfl 18 #[lv, v] (by kernel_rfl) hbk ?_
    clear hbk
    rintro e W5 ⟨rfl, ho, hf⟩
    refine ⟨_, rfl, ?_⟩
    simp only [Act.put, List.setIfInBounds_toArray, List.set_cons_zero, List.set_cons_succ]
    have HT5 : Hid (TS w W5 v l g (fun _ => 202) ((pc5, 27, d1.cs) :: [])) := HT4.out.turn hf ho
    clear HT4 ho hf
    refine wpList_runTo rfl (some 7) rfl (.bool true) W5 (by kernel_rfl) ?_
    simp only [Act.put, List.setIfInBounds_toArray, List.set_cons_zero, List.set_cons_succ]
    refine wpList_nil ?_
    refine hK _ _ ?_
    clear hK
    have hre := refDecode_any HT5.out.by' hl
    rw [hd1] at hre
    go_upto_region 5 with fail
    rename_i K hK
    refine wp_region_lit ?_
    refine wpList_runTo rfl (some 33) rfl (v) W5 (by kernel_rfl) ?_
    simp only [Act.put, List.setIfInBounds_toArray, List.set_cons_zero, List.set_cons_succ]
    refine wpList_callW rfl (some 34) rfl 19 #[v] (by kernel_rfl) hre ?_
    clear hre
    rintro e W6 ⟨rfl, hx⟩
    refine ⟨_, rfl, ?_⟩
    simp only [Act.put, List.setIfInBounds_toArray, List.set_cons_zero, List.set_cons_succ]
    refine wpList_runTo rfl (some 32) rfl (.tuple #[.agg d1.cs, .int .i64 0, .int .i64 0]) W6 (by kernel_rfl) ?_
    simp only [Act.put, List.setIfInBounds_toArray, List.set_cons_zero, List.set_cons_succ]
    refine wpList_runTo rfl (some 35) rfl (.agg d1.cs) W6 (by kernel_rfl) ?_
    simp only [Act.put, List.setIfInBounds_toArray, List.set_cons_zero, List.set_cons_succ]
    refine wpList_runTo rfl (some 36) rfl (.int .i64 0) W6 (by kernel_rfl) ?_
    simp only [Act.put, List.setIfInBounds_toArray, List.set_cons_zero, List.set_cons_succ]
    refine wpList_runTo rfl (some 37) rfl (.int .i64 0) W6 (by kernel_rfl) ?_
    simp only [Act.put, List.setIfInBounds_toArray, List.set_cons_zero, List.set_cons_succ]
    refine wpList_runTo rfl (some 8) rfl (.pointer (some ⟨W6.heap.size, 0, none⟩)) (W6.alloc (.cells zeroC.cs 27)) (by kernel_rfl) ?_
    simp only [Act.put, List.setIfInBounds_toArray, List.set_cons_zero, List.set_cons_succ]
    refine store_cmd (c := d1) (c' := zeroC) (Blk.new W6 _ _) (.tmp 8) (.tmp 35) rfl rfl (by kernel_rfl) (by kernel_rfl) ?_
    simp only [Act.put, List.setIfInBounds_toArray, List.set_cons_zero, List.set_cons_succ]
    obtain ⟨hn1, hn2⟩ := newC W6 d1
    have HA1 := HT5.out.below hx.out
    have HT7 : Hid (TS w _ v l g (fun _ => 202) ((W6.heap.size, 27, d1.cs) :: (pc5, 27, d1.cs) :: [])) := (HA1.below hn1).add hn2 (by have := HA1.own.lt; omega)
    clear HA1 hx hn1 hn2 HT5
    generalize (W6.alloc (.cells zeroC.cs 27)).setRow W6.heap.size d1.cs = W7 at *
    generalize W6.heap.size = pc8 at *
    refine wpList_runTo rfl (some 9) rfl (.int .i64 0) W7 (by kernel_rfl) ?_
    simp only [Act.put, List.setIfInBounds_toArray, List.set_cons_zero, List.set_cons_succ]
    refine wpList_runTo rfl (some 10) rfl (.int .i64 0) W7 (by kernel_rfl) ?_
    simp only [Act.put, List.setIfInBounds_toArray, List.set_cons_zero, List.set_cons_succ]
    refine wpList_nil ?_
    refine hK _ _ ?_
    clear hK
    generalize d1.cs = cs8
    go_wp2
    go_loopw [11] (fun x wr => ∃ k : Nat, k ≤ l.length ∧ x = .int .i64 (k : Int) ∧ Hid (TS w wr v l g (revD l k) ((pc8, 27, d1.cs) :: (pc5, 27, d1.cs) :: []))) (fun x _ => l.length - (intOf x).toNat)
    case atStart => exact ⟨0, Nat.zero_le _, rfl, ⟨HT7.out.bel, HT7.out.by', HT7.out.hv, HT7.out.own.ext fun j hj => by simp [revD], HT7.out.gg, HT7.out.bk⟩⟩
    case round =>
      clear HT7
      obtain ⟨k, hk, rfl, HR⟩ := hrel
      by_cases hlt : k < l.length
      · have hlt' : (k : Int) < (l.length : Int) := by omega
        obtain ⟨p, hp⟩ : ∃ p : Nat, p = l.length - 1 - k := ⟨_, rfl⟩
        have hpI : (l.length : Int) - 1 - (k : Int) = (p : Int) := by omega
        have hpn : p < l.length := by omega
        have hpn' : (p : Int) < (l.length : Int) := by omega
        have hw1 : IntKind.i64.wrap ((l.length : Int) - 1) = (l.length : Int) - 1 := by rw [IntKind.wrap_i64]; omega
        have hw2 : IntKind.i64.wrap ((l.length : Int) - 1 - (k : Int)) = (p : Int) := by rw [IntKind.wrap_i64]; omega
        have hcel : ∃ b off, a = some ⟨b, off, none⟩ ∧ wr.cell? ⟨b, off + p, none⟩ = some (.int .u8 ((dN l p : Nat) : Int)) := by
          have hy := HR.out.by'
          rw [hvf] at hy
          rcases hy.src.2.2.1 with h | ⟨b, off, e, h⟩
          · omega
          · exact ⟨b, off, e, (h p hpn).1⟩
        obtain ⟨b, off, ha, hcp⟩ := hcel
        have hc := HR.out.own.cell k (by omega)
        have hfz := HR.out.own.froz k
        have hd256 : dN l p < 256 := by rw [dN_at hpn]; exact HL.out.2 _ (List.getElem_mem hpn)
        have HF : Hid (TS w (wr.setCell ⟨g, k, none⟩ (.int .u8 ((dN l p : Nat) : Int))) v l g (revD l (k + 1)) ((pc8, 27, d1.cs) :: (pc5, 27, d1.cs) :: [])) := HR.out.turn (Fr.setCell _ _ _ (fun b => b = g) rfl) ((HR.out.own.set k (dN l p) (by omega) hd256).ext fun j hj => by
          unfold revD
          by_cases e : j = k
          · rw [if_pos e, if_pos (by omega), e, hp]
          · rw [if_neg e]
            by_cases e2 : j < k
            · rw [if_pos e2, if_pos (by omega)]
            · rw [if_neg e2, if_neg (by omega)])
        clear HR hd256 hp
        generalize dN l p = xx at *
        generalize revD l k k = yy at *
        subst ha
        subst hvf
        subst hlvf
        go_wp2
        exact ⟨⟨k + 1, by omega, by go_num, HF⟩, by simp [intOf]; omega⟩
      · have ek : k = l.length := by omega
        have hnl : ¬ (k : Int) < (l.length : Int) := by omega
        have HT8 : Hid (TS w wr v l g (revD l l.length) ((pc8, 27, d1.cs) :: (pc5, 27, d1.cs) :: [])) := by rw [← ek]; exact HR.out
        clear HR
        have hlv : By wr lv l.reverse := by
          rw [hlvf]
          exact HT8.out.lent l.reverse (List.length_reverse ..) HL.out.2.rev (fun j hj => by unfold revD; rw [if_pos hj, dN_rev l hj])
        have hde := Decode_any hlv (by rw [List.length_reverse]; omega)
        clear hlv
        obtain ⟨vk, hvk⟩ : ∃ vk : Value, vk = .int .i64 (k : Int) := ⟨_, rfl⟩
        cases hd2 : dec l.reverse with
        | error p2 =>
          rw [hd2] at hde
          as_aux_lemma =>
            go_upto_region 10 with fail
            rename_i K hK
            refine wp_region_lit ?_
            refine wpList_runTo rfl (some 56) rfl (lv) wr (by kernel_rfl) ?_
            simp only [Act.put, List.setIfInBounds_toArray, List.set_cons_zero, List.set_cons_succ]
            refine wpList_callW rfl (some 57) rfl 10 #[lv] (by kernel_rfl) hde ?_
            clear hde
            rintro e W9 ⟨fg2, rfl, hx⟩
            refine ⟨_, rfl, ?_⟩
            simp only [Act.put, List.setIfInBounds_toArray, List.set_cons_zero, List.set_cons_succ]
            refine wpList_runTo rfl (some 55) rfl (.tuple #[.agg zeroC.cs, .iface 54 (.pointer (some ⟨fg2, 0, none⟩))]) W9 (by kernel_rfl) ?_
            simp only [Act.put, List.setIfInBounds_toArray, List.set_cons_zero, List.set_cons_succ]
            refine wpList_runTo rfl (some 58) rfl (.agg zeroC.cs) W9 (by kernel_rfl) ?_
            simp only [Act.put, List.setIfInBounds_toArray, List.set_cons_zero, List.set_cons_succ]
            refine wpList_runTo rfl (some 59) rfl (.iface 54 (.pointer (some ⟨fg2, 0, none⟩))) W9 (by kernel_rfl) ?_
            simp only [Act.put, List.setIfInBounds_toArray, List.set_cons_zero, List.set_cons_succ]
            refine wpList_runTo rfl (some 12) rfl (.pointer (some ⟨W9.heap.size, 0, none⟩)) (W9.alloc (.cells zeroC.cs 27)) (by kernel_rfl) ?_
            simp only [Act.put, List.setIfInBounds_toArray, List.set_cons_zero, List.set_cons_succ]
            refine store_cmd (c := zeroC) (c' := zeroC) (Blk.new W9 _ _) (.tmp 12) (.tmp 58) rfl rfl (by kernel_rfl) (by kernel_rfl) ?_
            simp only [Act.put, List.setIfInBounds_toArray, List.set_cons_zero, List.set_cons_succ]
            obtain ⟨hn1, hn2⟩ := newC W9 zeroC
            have hfg2 : w.heap.size ≤ fg2 := Nat.le_trans HT8.out.bel.size hx.out.2.1
            have HA1 := (HT8.out.below hx.out.1).add hx.out.2.2 (by have h1 := HT8.out.own.lt; have h2 := hx.out.2.1; omega)
            have HTA : Hid (TS w _ v l g (revD l l.length) ((W9.heap.size, 27, zeroC.cs) :: (fg2, 57, #[.int .i64 (p2 : Int), .int .i64 180]) :: (pc8, 27, d1.cs) :: (pc5, 27, d1.cs) :: [])) := (HA1.below hn1).add hn2 (by have := HA1.own.lt; omega)
            clear HA1 hx
            clear hn1 hn2 HT8
            generalize (W9.alloc (.cells zeroC.cs 27)).setRow W9.heap.size zeroC.cs = WA at *
            generalize W9.heap.size = pc12 at *
            refine wpList_runTo rfl (some 13) rfl (.iface 54 (.pointer (some ⟨fg2, 0, none⟩))) WA (by kernel_rfl) ?_
            simp only [Act.put, List.setIfInBounds_toArray, List.set_cons_zero, List.set_cons_succ]
            refine wpList_nil ?_
            refine hK _ _ ?_
            clear hK
            generalize zeroC.cs = cs12
            have hlv : By WA lv l.reverse := by
              rw [hlvf]
              exact HTA.out.lent l.reverse (List.length_reverse ..) HL.out.2.rev (fun j hj => by unfold revD; rw [if_pos hj, dN_rev l hj])
            obtain ⟨cv, WB, hcv, hcb, hcbel⟩ := conv_back (w := WA) HL.out.2.rev
            have HTB : Hid (TS w WB v l g (revD l l.length) ((pc12, 27, zeroC.cs) :: (fg2, 57, #[.int .i64 (p2 : Int), .int .i64 180]) :: (pc8, 27, d1.cs) :: (pc5, 27, d1.cs) :: [])) := HTA.out.below hcbel
            have hre := refDecode_any hcb (by rw [List.length_reverse]; omega)
            rw [hd2] at hre
            clear hcb hcbel HTA
            go_upto_region 11 with fail
            rename_i K hK
            refine wp_region_lit ?_
            refine wpList_runTo rfl (some 61) rfl (lv) WA (by kernel_rfl) ?_
            simp only [Act.put, List.setIfInBounds_toArray, List.set_cons_zero, List.set_cons_succ]
            refine wpList_runTo rfl (some 62) rfl (.string (ofN l.reverse)) WA (by exact conv_run (.tmp 61) rfl (by kernel_rfl) hlv) ?_
            simp only [Act.put, List.setIfInBounds_toArray, List.set_cons_zero, List.set_cons_succ]
            refine wpList_runTo rfl (some 63) rfl (cv) WB (by exact convS_run (.tmp 62) rfl (by kernel_rfl) hcv) ?_
            simp only [Act.put, List.setIfInBounds_toArray, List.set_cons_zero, List.set_cons_succ]
            clear hlv hcv
            generalize ofN l.reverse = srv at *
            refine wpList_callW rfl (some 64) rfl 19 #[cv] (by kernel_rfl) hre ?_
            clear hre
            rintro e WC ⟨rfl, hx⟩
            refine ⟨_, rfl, ?_⟩
            simp only [Act.put, List.setIfInBounds_toArray, List.set_cons_zero, List.set_cons_succ]
            refine wpList_runTo rfl (some 60) rfl (.tuple #[.agg zeroC.cs, .int .i64 (p2 : Int), .int .i64 180]) WC (by kernel_rfl) ?_
            simp only [Act.put, List.setIfInBounds_toArray, List.set_cons_zero, List.set_cons_succ]
            refine wpList_runTo rfl (some 65) rfl (.agg zeroC.cs) WC (by kernel_rfl) ?_
            simp only [Act.put, List.setIfInBounds_toArray, List.set_cons_zero, List.set_cons_succ]
            refine wpList_runTo rfl (some 66) rfl (.int .i64 (p2 : Int)) WC (by kernel_rfl) ?_
            simp only [Act.put, List.setIfInBounds_toArray, List.set_cons_zero, List.set_cons_succ]
            refine wpList_runTo rfl (some 67) rfl (.int .i64 180) WC (by kernel_rfl) ?_
            simp only [Act.put, List.setIfInBounds_toArray, List.set_cons_zero, List.set_cons_succ]
            refine wpList_runTo rfl (some 14) rfl (.pointer (some ⟨WC.heap.size, 0, none⟩)) (WC.alloc (.cells zeroC.cs 27)) (by kernel_rfl) ?_
            simp only [Act.put, List.setIfInBounds_toArray, List.set_cons_zero, List.set_cons_succ]
            refine store_cmd (c := zeroC) (c' := zeroC) (Blk.new WC _ _) (.tmp 14) (.tmp 65) rfl rfl (by kernel_rfl) (by kernel_rfl) ?_
            simp only [Act.put, List.setIfInBounds_toArray, List.set_cons_zero, List.set_cons_succ]
            obtain ⟨hn1, hn2⟩ := newC WC zeroC
            have HA1 := HTB.out.below hx.out
            have HTD : Hid (TS w _ v l g (revD l l.length) ((WC.heap.size, 27, zeroC.cs) :: (pc12, 27, zeroC.cs) :: (fg2, 57, #[.int .i64 (p2 : Int), .int .i64 180]) :: (pc8, 27, d1.cs) :: (pc5, 27, d1.cs) :: [])) := (HA1.below hn1).add hn2 (by have := HA1.own.lt; omega)
            clear HA1 hx hn1 hn2 HTB
            generalize (WC.alloc (.cells zeroC.cs 27)).setRow WC.heap.size zeroC.cs = WD at *
            generalize WC.heap.size = pc14 at *
            refine wpList_runTo rfl (some 15) rfl (.int .i64 (p2 : Int)) WD (by kernel_rfl) ?_
            simp only [Act.put, List.setIfInBounds_toArray, List.set_cons_zero, List.set_cons_succ]
            refine wpList_runTo rfl (some 16) rfl (.int .i64 180) WD (by kernel_rfl) ?_
            simp only [Act.put, List.setIfInBounds_toArray, List.set_cons_zero, List.set_cons_succ]
            refine wpList_nil ?_
            refine hK _ _ ?_
            clear hK
            generalize zeroC.cs = cs14
            go_upto_region 12 with fail
            rename_i K hK
            refine wp_region_lit ?_
            refine wpList_runTo rfl (some 69) rfl (.iface 54 (.pointer (some ⟨fg2, 0, none⟩))) WD (by kernel_rfl) ?_
            simp only [Act.put, List.setIfInBounds_toArray, List.set_cons_zero, List.set_cons_succ]
            refine wpList_runTo rfl (some 70) rfl (.tuple #[(.pointer (some ⟨fg2, 0, none⟩)), .bool true]) WD (by kernel_rfl) ?_
            simp only [Act.put, List.setIfInBounds_toArray, List.set_cons_zero, List.set_cons_succ]
            refine wpList_runTo rfl (some 68) rfl (.tuple #[(.pointer (some ⟨fg2, 0, none⟩)), .bool true]) WD (by kernel_rfl) ?_
            simp only [Act.put, List.setIfInBounds_toArray, List.set_cons_zero, List.set_cons_succ]
            refine wpList_runTo rfl (some 71) rfl ((.pointer (some ⟨fg2, 0, none⟩))) WD (by kernel_rfl) ?_
            simp only [Act.put, List.setIfInBounds_toArray, List.set_cons_zero, List.set_cons_succ]
            refine wpList_runTo rfl (some 72) rfl (.bool true) WD (by kernel_rfl) ?_
            simp only [Act.put, List.setIfInBounds_toArray, List.set_cons_zero, List.set_cons_succ]
            refine wpList_runTo rfl (some 17) rfl ((.pointer (some ⟨fg2, 0, none⟩))) WD (by kernel_rfl) ?_
            simp only [Act.put, List.setIfInBounds_toArray, List.set_cons_zero, List.set_cons_succ]
            refine wpList_runTo rfl (some 18) rfl (.bool true) WD (by kernel_rfl) ?_
            simp only [Act.put, List.setIfInBounds_toArray, List.set_cons_zero, List.set_cons_succ]
            refine wpList_nil ?_
            refine hK _ _ ?_
            clear hK
            go_upto_region 13 with fail
            rename_i K hK
            refine wp_region_lit ?_
            refine load_cmd (c := zeroC) (HTD.out.bk (pc12, 27, zeroC.cs) (by simp)).1 (.tmp 12) rfl rfl (by kernel_rfl) ?_
            simp only [Act.put, List.setIfInBounds_toArray, List.set_cons_zero, List.set_cons_succ]
            refine load_cmd (c := zeroC) (HTD.out.bk (pc14, 27, zeroC.cs) (by simp)).1 (.tmp 14) rfl rfl (by kernel_rfl) ?_
            simp only [Act.put, List.setIfInBounds_toArray, List.set_cons_zero, List.set_cons_succ]
            refine wpList_runTo rfl (some 75) rfl (.bool false) WD (by exact neC_run (c := zeroC) (.tmp 73) (.tmp 74) rfl (by kernel_rfl) (by kernel_rfl) _) ?_
            simp only [Act.put, List.setIfInBounds_toArray, List.set_cons_zero, List.set_cons_succ]
            generalize zeroC.cs = cx13
            refine wpList_runTo rfl (some 76) rfl (.bool false) WD (by kernel_rfl) ?_
            simp only [Act.put, List.setIfInBounds_toArray, List.set_cons_zero, List.set_cons_succ]
            refine wpList_runToG (by kernel_rfl) (some 77) rfl (.iface 54 (.pointer (some ⟨fg2, 0, none⟩))) WD (by kernel_rfl) ?_
            simp only [Act.put, List.setIfInBounds_toArray, List.set_cons_zero, List.set_cons_succ]
            refine wpList_runToG (by kernel_rfl) (some 78) rfl (.bool false) WD (by exact ifE_run (ad := ⟨fg2, 0, none⟩) (.tmp 77) (.const .nilIface) rfl (by kernel_rfl) rfl _) ?_
            simp only [Act.put, List.setIfInBounds_toArray, List.set_cons_zero, List.set_cons_succ]
            refine wpList_runToG (by kernel_rfl) (some 79) rfl (.int .i64 180) WD (by kernel_rfl) ?_
            simp only [Act.put, List.setIfInBounds_toArray, List.set_cons_zero, List.set_cons_succ]
            refine wpList_runToG (by kernel_rfl) (some 80) rfl (.bool false) WD (by kernel_rfl) ?_
            simp only [Act.put, List.setIfInBounds_toArray, List.set_cons_zero, List.set_cons_succ]
            refine wpList_runToG (by kernel_rfl) (some 81) rfl (.bool false) WD (by kernel_rfl) ?_
            simp only [Act.put, List.setIfInBounds_toArray, List.set_cons_zero, List.set_cons_succ]
            refine wpList_runTo rfl (some 82) rfl (.bool false) WD (by kernel_rfl) ?_
            simp only [Act.put, List.setIfInBounds_toArray, List.set_cons_zero, List.set_cons_succ]
            refine wpList_runTo rfl (some 83) rfl (.bool false) WD (by kernel_rfl) ?_
            simp only [Act.put, List.setIfInBounds_toArray, List.set_cons_zero, List.set_cons_succ]
            refine wpList_runToG (by kernel_rfl) (some 84) rfl (.iface 54 (.pointer (some ⟨fg2, 0, none⟩))) WD (by kernel_rfl) ?_
            simp only [Act.put, List.setIfInBounds_toArray, List.set_cons_zero, List.set_cons_succ]
            refine wpList_runToG (by kernel_rfl) (some 85) rfl (.bool true) WD (by exact ifN_run (ad := ⟨fg2, 0, none⟩) (.tmp 84) (.const .nilIface) rfl (by kernel_rfl) rfl _) ?_
            simp only [Act.put, List.setIfInBounds_toArray, List.set_cons_zero, List.set_cons_succ]
            have hc0 : WD.cell? ⟨fg2, 0, none⟩ = some (.int .i64 (p2 : Int)) := (HTD.out.bk (fg2, 57, #[.int .i64 (p2 : Int), .int .i64 180]) (by simp)).1.cell 0
            have hc1 : WD.cell? ⟨fg2, 1, none⟩ = some (.int .i64 180) := (HTD.out.bk (fg2, 57, #[.int .i64 (p2 : Int), .int .i64 180]) (by simp)).1.cell 1
            refine wpList_runToG (by kernel_rfl) (some 86) rfl (.bool true) WD (by kernel_rfl) ?_
            simp only [Act.put, List.setIfInBounds_toArray, List.set_cons_zero, List.set_cons_succ]
            refine wpList_runToG (by kernel_rfl) (some 87) rfl (.bool true) WD (by kernel_rfl) ?_
            simp only [Act.put, List.setIfInBounds_toArray, List.set_cons_zero, List.set_cons_succ]
            refine wpList_runToG (by kernel_rfl) (some 88) rfl (.bool false) WD (by kernel_rfl) ?_
            simp only [Act.put, List.setIfInBounds_toArray, List.set_cons_zero, List.set_cons_succ]
            refine wpList_runToG (by kernel_rfl) (some 89) rfl (.bool false) WD (by kernel_rfl) ?_
            simp only [Act.put, List.setIfInBounds_toArray, List.set_cons_zero, List.set_cons_succ]
            refine wpList_runToG (by kernel_rfl) (some 90) rfl ((.pointer (some ⟨fg2, 0, none⟩))) WD (by kernel_rfl) ?_
            simp only [Act.put, List.setIfInBounds_toArray, List.set_cons_zero, List.set_cons_succ]
            refine wpList_runToG (by kernel_rfl) (some 91) rfl (.bool false) WD (by exact ptrF_run (ad := ⟨fg2, 0, none⟩) (.tmp 90) (.const (.pointer none)) rfl (by kernel_rfl) rfl _) ?_
            simp only [Act.put, List.setIfInBounds_toArray, List.set_cons_zero, List.set_cons_succ]
            refine wpList_runToG (by kernel_rfl) (some 92) rfl (.bool false) WD (by kernel_rfl) ?_
            simp only [Act.put, List.setIfInBounds_toArray, List.set_cons_zero, List.set_cons_succ]
            refine wpList_runToG (by kernel_rfl) (some 93) rfl (.bool false) WD (by kernel_rfl) ?_
            simp only [Act.put, List.setIfInBounds_toArray, List.set_cons_zero, List.set_cons_succ]
            refine wpList_runToG (by kernel_rfl) (some 94) rfl ((.pointer (some ⟨fg2, 0, none⟩))) WD (by kernel_rfl) ?_
            simp only [Act.put, List.setIfInBounds_toArray, List.set_cons_zero, List.set_cons_succ]
            refine wpList_runToG (by kernel_rfl) (some 95) rfl ((.pointer (some ⟨fg2, 0, none⟩))) WD (by kernel_rfl) ?_
            simp only [Act.put, List.setIfInBounds_toArray, List.set_cons_zero, List.set_cons_succ]
            refine wpList_runToG (by kernel_rfl) (some 96) rfl ((.pointer (some ⟨fg2, 0, none⟩))) WD (by kernel_rfl) ?_
            simp only [Act.put, List.setIfInBounds_toArray, List.set_cons_zero, List.set_cons_succ]
            refine wpList_runToG (by kernel_rfl) (some 97) rfl (.int .i64 (p2 : Int)) WD (by exact ld3_run (.tmp 96) rfl (by kernel_rfl) hc0) ?_
            simp only [Act.put, List.setIfInBounds_toArray, List.set_cons_zero, List.set_cons_succ]
            refine wpList_runToG (by kernel_rfl) (some 98) rfl (.int .i64 (p2 : Int)) WD (by kernel_rfl) ?_
            simp only [Act.put, List.setIfInBounds_toArray, List.set_cons_zero, List.set_cons_succ]
            refine wpList_runToG (by kernel_rfl) (some 99) rfl (.bool false) WD (by exact neN_run (N := p2) (.tmp 97) (.tmp 98) rfl (by kernel_rfl) (by kernel_rfl) _) ?_
            simp only [Act.put, List.setIfInBounds_toArray, List.set_cons_zero, List.set_cons_succ]
            refine wpList_runToG (by kernel_rfl) (some 100) rfl (.bool false) WD (by kernel_rfl) ?_
            simp only [Act.put, List.setIfInBounds_toArray, List.set_cons_zero, List.set_cons_succ]
            refine wpList_runToG (by kernel_rfl) (some 101) rfl (.bool false) WD (by kernel_rfl) ?_
            simp only [Act.put, List.setIfInBounds_toArray, List.set_cons_zero, List.set_cons_succ]
            refine wpList_runToG (by kernel_rfl) (some 102) rfl ((.pointer (some ⟨fg2, 0, none⟩))) WD (by kernel_rfl) ?_
            simp only [Act.put, List.setIfInBounds_toArray, List.set_cons_zero, List.set_cons_succ]
            refine wpList_runToG (by kernel_rfl) (some 103) rfl ((.pointer (some ⟨fg2, 0, none⟩))) WD (by kernel_rfl) ?_
            simp only [Act.put, List.setIfInBounds_toArray, List.set_cons_zero, List.set_cons_succ]
            refine wpList_runToG (by kernel_rfl) (some 104) rfl ((.pointer (some ⟨fg2, 1, none⟩))) WD (by kernel_rfl) ?_
            simp only [Act.put, List.setIfInBounds_toArray, List.set_cons_zero, List.set_cons_succ]
            refine wpList_runToG (by kernel_rfl) (some 105) rfl (.int .i64 180) WD (by exact ldE_run (.tmp 104) rfl (by kernel_rfl) hc1) ?_
            simp only [Act.put, List.setIfInBounds_toArray, List.set_cons_zero, List.set_cons_succ]
            refine wpList_runToG (by kernel_rfl) (some 106) rfl (.int .i64 180) WD (by kernel_rfl) ?_
            simp only [Act.put, List.setIfInBounds_toArray, List.set_cons_zero, List.set_cons_succ]
            refine wpList_runToG (by kernel_rfl) (some 107) rfl (.bool false) WD (by kernel_rfl) ?_
            simp only [Act.put, List.setIfInBounds_toArray, List.set_cons_zero, List.set_cons_succ]
            refine wpList_runToG (by kernel_rfl) (some 108) rfl (.bool false) WD (by kernel_rfl) ?_
            simp only [Act.put, List.setIfInBounds_toArray, List.set_cons_zero, List.set_cons_succ]
            refine wpList_runToG (by kernel_rfl) (some 109) rfl (.bool false) WD (by kernel_rfl) ?_
            simp only [Act.put, List.setIfInBounds_toArray, List.set_cons_zero, List.set_cons_succ]
            refine wpList_runTo rfl (some 110) rfl (.bool false) WD (by kernel_rfl) ?_
            simp only [Act.put, List.setIfInBounds_toArray, List.set_cons_zero, List.set_cons_succ]
            clear hc0 hc1
            refine wpList_nil ?_
            refine hK _ _ ?_
            clear hK
            go_upto_region 15 with fail
            rename_i K hK
            refine wp_region_lit ?_
            refine wpList_runTo rfl (some 111) rfl (.bool true) WD (by kernel_rfl) ?_
            simp only [Act.put, List.setIfInBounds_toArray, List.set_cons_zero, List.set_cons_succ]
            refine wpList_runTo rfl (some 112) rfl (.bool false) WD (by kernel_rfl) ?_
            simp only [Act.put, List.setIfInBounds_toArray, List.set_cons_zero, List.set_cons_succ]
            refine wpList_runTo rfl (some 113) rfl (.bool false) WD (by kernel_rfl) ?_
            simp only [Act.put, List.setIfInBounds_toArray, List.set_cons_zero, List.set_cons_succ]
            refine wpList_runToG (by kernel_rfl) (some 114) rfl (.bool true) WD (by kernel_rfl) ?_
            simp only [Act.put, List.setIfInBounds_toArray, List.set_cons_zero, List.set_cons_succ]
            refine wpList_runToG (by kernel_rfl) (some 115) rfl (.bool false) WD (by kernel_rfl) ?_
            simp only [Act.put, List.setIfInBounds_toArray, List.set_cons_zero, List.set_cons_succ]
            refine wpList_runTo rfl (some 116) rfl (.bool false) WD (by kernel_rfl) ?_
            simp only [Act.put, List.setIfInBounds_toArray, List.set_cons_zero, List.set_cons_succ]
            refine wpList_runTo rfl (some 117) rfl (.bool false) WD (by kernel_rfl) ?_
            simp only [Act.put, List.setIfInBounds_toArray, List.set_cons_zero, List.set_cons_succ]
            refine loadG_cmd (c := d1) (HTD.out.bk (pc5, 27, d1.cs) (by simp)).1 (.tmp 5) (by kernel_rfl) rfl (by kernel_rfl) ?_
            simp only [Act.put, List.setIfInBounds_toArray, List.set_cons_zero, List.set_cons_succ]
            refine loadG_cmd (c := d1) (HTD.out.bk (pc8, 27, d1.cs) (by simp)).1 (.tmp 8) (by kernel_rfl) rfl (by kernel_rfl) ?_
            simp only [Act.put, List.setIfInBounds_toArray, List.set_cons_zero, List.set_cons_succ]
            refine wpList_runToG (by kernel_rfl) (some 120) rfl (.bool false) WD (by exact neC_run (c := d1) (.tmp 118) (.tmp 119) rfl (by kernel_rfl) (by kernel_rfl) _) ?_
            simp only [Act.put, List.setIfInBounds_toArray, List.set_cons_zero, List.set_cons_succ]
            generalize d1.cs = cx15
            refine wpList_runTo rfl (some 121) rfl (.bool false) WD (by kernel_rfl) ?_
            simp only [Act.put, List.setIfInBounds_toArray, List.set_cons_zero, List.set_cons_succ]
            refine wpList_runTo rfl (some 122) rfl (.bool false) WD (by kernel_rfl) ?_
            simp only [Act.put, List.setIfInBounds_toArray, List.set_cons_zero, List.set_cons_succ]
            refine wpList_runToG (by kernel_rfl) (some 123) rfl (.nilIface) WD (by kernel_rfl) ?_
            simp only [Act.put, List.setIfInBounds_toArray, List.set_cons_zero, List.set_cons_succ]
            refine wpList_runToG (by kernel_rfl) (some 124) rfl (.bool true) WD (by kernel_rfl) ?_
            simp only [Act.put, List.setIfInBounds_toArray, List.set_cons_zero, List.set_cons_succ]
            refine wpList_runToG (by kernel_rfl) (some 125) rfl (.int .i64 0) WD (by kernel_rfl) ?_
            simp only [Act.put, List.setIfInBounds_toArray, List.set_cons_zero, List.set_cons_succ]
            refine wpList_runToG (by kernel_rfl) (some 126) rfl (.bool true) WD (by kernel_rfl) ?_
            simp only [Act.put, List.setIfInBounds_toArray, List.set_cons_zero, List.set_cons_succ]
            refine wpList_runToG (by kernel_rfl) (some 127) rfl (.bool false) WD (by kernel_rfl) ?_
            simp only [Act.put, List.setIfInBounds_toArray, List.set_cons_zero, List.set_cons_succ]
            refine wpList_runTo rfl (some 128) rfl (.bool false) WD (by kernel_rfl) ?_
            simp only [Act.put, List.setIfInBounds_toArray, List.set_cons_zero, List.set_cons_succ]
            refine wpList_nil ?_
            refine hK _ _ ?_
            clear hK
            go_upto_region 17 with fail
            rename_i K hK
            refine wp_region_lit ?_
            refine wpList_runTo rfl (some 129) rfl (.nilIface) WD (by kernel_rfl) ?_
            simp only [Act.put, List.setIfInBounds_toArray, List.set_cons_zero, List.set_cons_succ]
            refine wpList_runTo rfl (some 130) rfl (.bool true) WD (by kernel_rfl) ?_
            simp only [Act.put, List.setIfInBounds_toArray, List.set_cons_zero, List.set_cons_succ]
            refine wpList_nil ?_
            refine hK _ _ ?_
            clear hK
            go_wp2
            go_ret
            exact ⟨rfl, HTD.out.bel⟩
        | ok d2 =>
          rw [hd2] at hde
          as_aux_lemma =>
            go_upto_region 10 with fail
            rename_i K hK
            refine wp_region_lit ?_
            refine wpList_runTo rfl (some 56) rfl (lv) wr (by kernel_rfl) ?_
            simp only [Act.put, List.setIfInBounds_toArray, List.set_cons_zero, List.set_cons_succ]
            refine wpList_callW rfl (some 57) rfl 10 #[lv] (by kernel_rfl) hde ?_
            clear hde
            rintro e W9 ⟨rfl, hx⟩
            refine ⟨_, rfl, ?_⟩
            simp only [Act.put, List.setIfInBounds_toArray, List.set_cons_zero, List.set_cons_succ]
            refine wpList_runTo rfl (some 55) rfl (.tuple #[.agg d2.cs, .nilIface]) W9 (by kernel_rfl) ?_
            simp only [Act.put, List.setIfInBounds_toArray, List.set_cons_zero, List.set_cons_succ]
            refine wpList_runTo rfl (some 58) rfl (.agg d2.cs) W9 (by kernel_rfl) ?_
            simp only [Act.put, List.setIfInBounds_toArray, List.set_cons_zero, List.set_cons_succ]
            refine wpList_runTo rfl (some 59) rfl (.nilIface) W9 (by kernel_rfl) ?_
            simp only [Act.put, List.setIfInBounds_toArray, List.set_cons_zero, List.set_cons_succ]
            refine wpList_runTo rfl (some 12) rfl (.pointer (some ⟨W9.heap.size, 0, none⟩)) (W9.alloc (.cells zeroC.cs 27)) (by kernel_rfl) ?_
            simp only [Act.put, List.setIfInBounds_toArray, List.set_cons_zero, List.set_cons_succ]
            refine store_cmd (c := d2) (c' := zeroC) (Blk.new W9 _ _) (.tmp 12) (.tmp 58) rfl rfl (by kernel_rfl) (by kernel_rfl) ?_
            simp only [Act.put, List.setIfInBounds_toArray, List.set_cons_zero, List.set_cons_succ]
            obtain ⟨hn1, hn2⟩ := newC W9 d2
            have HA1 := HT8.out.below hx.out
            have HTA : Hid (TS w _ v l g (revD l l.length) ((W9.heap.size, 27, d2.cs) :: (pc8, 27, d1.cs) :: (pc5, 27, d1.cs) :: [])) := (HA1.below hn1).add hn2 (by have := HA1.own.lt; omega)
            clear HA1 hx
            clear hn1 hn2 HT8
            generalize (W9.alloc (.cells zeroC.cs 27)).setRow W9.heap.size d2.cs = WA at *
            generalize W9.heap.size = pc12 at *
            refine wpList_runTo rfl (some 13) rfl (.nilIface) WA (by kernel_rfl) ?_
            simp only [Act.put, List.setIfInBounds_toArray, List.set_cons_zero, List.set_cons_succ]
            refine wpList_nil ?_
            refine hK _ _ ?_
            clear hK
            generalize d2.cs = cs12
            have hlv : By WA lv l.reverse := by
              rw [hlvf]
              exact HTA.out.lent l.reverse (List.length_reverse ..) HL.out.2.rev (fun j hj => by unfold revD; rw [if_pos hj, dN_rev l hj])
            obtain ⟨cv, WB, hcv, hcb, hcbel⟩ := conv_back (w := WA) HL.out.2.rev
            have HTB : Hid (TS w WB v l g (revD l l.length) ((pc12, 27, d2.cs) :: (pc8, 27, d1.cs) :: (pc5, 27, d1.cs) :: [])) := HTA.out.below hcbel
            have hre := refDecode_any hcb (by rw [List.length_reverse]; omega)
            rw [hd2] at hre
            clear hcb hcbel HTA
            go_upto_region 11 with fail
            rename_i K hK
            refine wp_region_lit ?_
            refine wpList_runTo rfl (some 61) rfl (lv) WA (by kernel_rfl) ?_
            simp only [Act.put, List.setIfInBounds_toArray, List.set_cons_zero, List.set_cons_succ]
            refine wpList_runTo rfl (some 62) rfl (.string (ofN l.reverse)) WA (by exact conv_run (.tmp 61) rfl (by kernel_rfl) hlv) ?_
            simp only [Act.put, List.setIfInBounds_toArray, List.set_cons_zero, List.set_cons_succ]
            refine wpList_runTo rfl (some 63) rfl (cv) WB (by exact convS_run (.tmp 62) rfl (by kernel_rfl) hcv) ?_
            simp only [Act.put, List.setIfInBounds_toArray, List.set_cons_zero, List.set_cons_succ]
            clear hlv hcv
            generalize ofN l.reverse = srv at *
            refine wpList_callW rfl (some 64) rfl 19 #[cv] (by kernel_rfl) hre ?_
            clear hre
            rintro e WC ⟨rfl, hx⟩
            refine ⟨_, rfl, ?_⟩
            simp only [Act.put, List.setIfInBounds_toArray, List.set_cons_zero, List.set_cons_succ]
            refine wpList_runTo rfl (some 60) rfl (.tuple #[.agg d2.cs, .int .i64 0, .int .i64 0]) WC (by kernel_rfl) ?_
            simp only [Act.put, List.setIfInBounds_toArray, List.set_cons_zero, List.set_cons_succ]
            refine wpList_runTo rfl (some 65) rfl (.agg d2.cs) WC (by kernel_rfl) ?_
            simp only [Act.put, List.setIfInBounds_toArray, List.set_cons_zero, List.set_cons_succ]
            refine wpList_runTo rfl (some 66) rfl (.int .i64 0) WC (by kernel_rfl) ?_
            simp only [Act.put, List.setIfInBounds_toArray, List.set_cons_zero, List.set_cons_succ]
            refine wpList_runTo rfl (some 67) rfl (.int .i64 0) WC (by kernel_rfl) ?_
            simp only [Act.put, List.setIfInBounds_toArray, List.set_cons_zero, List.set_cons_succ]
            refine wpList_runTo rfl (some 14) rfl (.pointer (some ⟨WC.heap.size, 0, none⟩)) (WC.alloc (.cells zeroC.cs 27)) (by kernel_rfl) ?_
            simp only [Act.put, List.setIfInBounds_toArray, List.set_cons_zero, List.set_cons_succ]
            refine store_cmd (c := d2) (c' := zeroC) (Blk.new WC _ _) (.tmp 14) (.tmp 65) rfl rfl (by kernel_rfl) (by kernel_rfl) ?_
            simp only [Act.put, List.setIfInBounds_toArray, List.set_cons_zero, List.set_cons_succ]
            obtain ⟨hn1, hn2⟩ := newC WC d2
            have HA1 := HTB.out.below hx.out
            have HTD : Hid (TS w _ v l g (revD l l.length) ((WC.heap.size, 27, d2.cs) :: (pc12, 27, d2.cs) :: (pc8, 27, d1.cs) :: (pc5, 27, d1.cs) :: [])) := (HA1.below hn1).add hn2 (by have := HA1.own.lt; omega)
            clear HA1 hx hn1 hn2 HTB
            generalize (WC.alloc (.cells zeroC.cs 27)).setRow WC.heap.size d2.cs = WD at *
            generalize WC.heap.size = pc14 at *
            refine wpList_runTo rfl (some 15) rfl (.int .i64 0) WD (by kernel_rfl) ?_
            simp only [Act.put, List.setIfInBounds_toArray, List.set_cons_zero, List.set_cons_succ]
            refine wpList_runTo rfl (some 16) rfl (.int .i64 0) WD (by kernel_rfl) ?_
            simp only [Act.put, List.setIfInBounds_toArray, List.set_cons_zero, List.set_cons_succ]
            refine wpList_nil ?_
            refine hK _ _ ?_
            clear hK
            generalize d2.cs = cs14
            go_upto_region 12 with fail
            rename_i K hK
            refine wp_region_lit ?_
            refine wpList_runTo rfl (some 69) rfl (.nilIface) WD (by kernel_rfl) ?_
            simp only [Act.put, List.setIfInBounds_toArray, List.set_cons_zero, List.set_cons_succ]
            refine wpList_runTo rfl (some 70) rfl (.tuple #[(.pointer none), .bool false]) WD (by kernel_rfl) ?_
            simp only [Act.put, List.setIfInBounds_toArray, List.set_cons_zero, List.set_cons_succ]
            refine wpList_runTo rfl (some 68) rfl (.tuple #[(.pointer none), .bool false]) WD (by kernel_rfl) ?_
            simp only [Act.put, List.setIfInBounds_toArray, List.set_cons_zero, List.set_cons_succ]
            refine wpList_runTo rfl (some 71) rfl ((.pointer none)) WD (by kernel_rfl) ?_
            simp only [Act.put, List.setIfInBounds_toArray, List.set_cons_zero, List.set_cons_succ]
            refine wpList_runTo rfl (some 72) rfl (.bool false) WD (by kernel_rfl) ?_
            simp only [Act.put, List.setIfInBounds_toArray, List.set_cons_zero, List.set_cons_succ]
            refine wpList_runTo rfl (some 17) rfl ((.pointer none)) WD (by kernel_rfl) ?_
            simp only [Act.put, List.setIfInBounds_toArray, List.set_cons_zero, List.set_cons_succ]
            refine wpList_runTo rfl (some 18) rfl (.bool false) WD (by kernel_rfl) ?_
            simp only [Act.put, List.setIfInBounds_toArray, List.set_cons_zero, List.set_cons_succ]
            refine wpList_nil ?_
            refine hK _ _ ?_
            clear hK
            go_upto_region 13 with fail
            rename_i K hK
            refine wp_region_lit ?_
            refine load_cmd (c := d2) (HTD.out.bk (pc12, 27, d2.cs) (by simp)).1 (.tmp 12) rfl rfl (by kernel_rfl) ?_
            simp only [Act.put, List.setIfInBounds_toArray, List.set_cons_zero, List.set_cons_succ]
            refine load_cmd (c := d2) (HTD.out.bk (pc14, 27, d2.cs) (by simp)).1 (.tmp 14) rfl rfl (by kernel_rfl) ?_
            simp only [Act.put, List.setIfInBounds_toArray, List.set_cons_zero, List.set_cons_succ]
            refine wpList_runTo rfl (some 75) rfl (.bool false) WD (by exact neC_run (c := d2) (.tmp 73) (.tmp 74) rfl (by kernel_rfl) (by kernel_rfl) _) ?_
            simp only [Act.put, List.setIfInBounds_toArray, List.set_cons_zero, List.set_cons_succ]
            generalize d2.cs = cx13
            refine wpList_runTo rfl (some 76) rfl (.bool false) WD (by kernel_rfl) ?_
            simp only [Act.put, List.setIfInBounds_toArray, List.set_cons_zero, List.set_cons_succ]
            refine wpList_runToG (by kernel_rfl) (some 77) rfl (.nilIface) WD (by kernel_rfl) ?_
            simp only [Act.put, List.setIfInBounds_toArray, List.set_cons_zero, List.set_cons_succ]
            refine wpList_runToG (by kernel_rfl) (some 78) rfl (.bool true) WD (by kernel_rfl) ?_
            simp only [Act.put, List.setIfInBounds_toArray, List.set_cons_zero, List.set_cons_succ]
            refine wpList_runToG (by kernel_rfl) (some 79) rfl (.int .i64 0) WD (by kernel_rfl) ?_
            simp only [Act.put, List.setIfInBounds_toArray, List.set_cons_zero, List.set_cons_succ]
            refine wpList_runToG (by kernel_rfl) (some 80) rfl (.bool true) WD (by kernel_rfl) ?_
            simp only [Act.put, List.setIfInBounds_toArray, List.set_cons_zero, List.set_cons_succ]
            refine wpList_runToG (by kernel_rfl) (some 81) rfl (.bool false) WD (by kernel_rfl) ?_
            simp only [Act.put, List.setIfInBounds_toArray, List.set_cons_zero, List.set_cons_succ]
            refine wpList_runTo rfl (some 82) rfl (.bool false) WD (by kernel_rfl) ?_
            simp only [Act.put, List.setIfInBounds_toArray, List.set_cons_zero, List.set_cons_succ]
            refine wpList_runTo rfl (some 83) rfl (.bool false) WD (by kernel_rfl) ?_
            simp only [Act.put, List.setIfInBounds_toArray, List.set_cons_zero, List.set_cons_succ]
            refine wpList_runToG (by kernel_rfl) (some 84) rfl (.nilIface) WD (by kernel_rfl) ?_
            simp only [Act.put, List.setIfInBounds_toArray, List.set_cons_zero, List.set_cons_succ]
            refine wpList_runToG (by kernel_rfl) (some 85) rfl (.bool false) WD (by kernel_rfl) ?_
            simp only [Act.put, List.setIfInBounds_toArray, List.set_cons_zero, List.set_cons_succ]
            obtain ⟨bf, hbf⟩ : ∃ bf, bf = Value.bool false := ⟨_, rfl⟩
            obtain ⟨un, hun⟩ : ∃ un, un = undef := ⟨_, rfl⟩
            refine wpList_runToG (by kernel_rfl) (some 86) rfl (bf) WD (by subst hbf; kernel_rfl) ?_
            simp only [Act.put, List.setIfInBounds_toArray, List.set_cons_zero, List.set_cons_succ]
            refine wpList_skipU hun (by subst hbf; subst hun; kernel_rfl) (some 87) rfl ?_
            simp only [Act.put, List.setIfInBounds_toArray, List.set_cons_zero, List.set_cons_succ]
            refine wpList_skipU hun (by subst hbf; subst hun; kernel_rfl) (some 88) rfl ?_
            simp only [Act.put, List.setIfInBounds_toArray, List.set_cons_zero, List.set_cons_succ]
            refine wpList_skipU hun (by subst hbf; subst hun; kernel_rfl) (some 89) rfl ?_
            simp only [Act.put, List.setIfInBounds_toArray, List.set_cons_zero, List.set_cons_succ]
            refine wpList_skipU hun (by subst hbf; subst hun; kernel_rfl) (some 90) rfl ?_
            simp only [Act.put, List.setIfInBounds_toArray, List.set_cons_zero, List.set_cons_succ]
            refine wpList_skipU hun (by subst hbf; subst hun; kernel_rfl) (some 91) rfl ?_
            simp only [Act.put, List.setIfInBounds_toArray, List.set_cons_zero, List.set_cons_succ]
            refine wpList_skipU hun (by subst hbf; subst hun; kernel_rfl) (some 92) rfl ?_
            simp only [Act.put, List.setIfInBounds_toArray, List.set_cons_zero, List.set_cons_succ]
            refine wpList_skipU hun (by subst hbf; subst hun; kernel_rfl) (some 93) rfl ?_
            simp only [Act.put, List.setIfInBounds_toArray, List.set_cons_zero, List.set_cons_succ]
            refine wpList_skipU hun (by subst hbf; subst hun; kernel_rfl) (some 94) rfl ?_
            simp only [Act.put, List.setIfInBounds_toArray, List.set_cons_zero, List.set_cons_succ]
            refine wpList_skipU hun (by subst hbf; subst hun; kernel_rfl) (some 95) rfl ?_
            simp only [Act.put, List.setIfInBounds_toArray, List.set_cons_zero, List.set_cons_succ]
            refine wpList_skipU hun (by subst hbf; subst hun; kernel_rfl) (some 96) rfl ?_
            simp only [Act.put, List.setIfInBounds_toArray, List.set_cons_zero, List.set_cons_succ]
            refine wpList_skipU hun (by subst hbf; subst hun; kernel_rfl) (some 97) rfl ?_
            simp only [Act.put, List.setIfInBounds_toArray, List.set_cons_zero, List.set_cons_succ]
            refine wpList_skipU hun (by subst hbf; subst hun; kernel_rfl) (some 98) rfl ?_
            simp only [Act.put, List.setIfInBounds_toArray, List.set_cons_zero, List.set_cons_succ]
            refine wpList_skipU hun (by subst hbf; subst hun; kernel_rfl) (some 99) rfl ?_
            simp only [Act.put, List.setIfInBounds_toArray, List.set_cons_zero, List.set_cons_succ]
            refine wpList_skipU hun (by subst hbf; subst hun; kernel_rfl) (some 100) rfl ?_
            simp only [Act.put, List.setIfInBounds_toArray, List.set_cons_zero, List.set_cons_succ]
            refine wpList_skipU hun (by subst hbf; subst hun; kernel_rfl) (some 101) rfl ?_
            simp only [Act.put, List.setIfInBounds_toArray, List.set_cons_zero, List.set_cons_succ]
            refine wpList_skipU hun (by subst hbf; subst hun; kernel_rfl) (some 102) rfl ?_
            simp only [Act.put, List.setIfInBounds_toArray, List.set_cons_zero, List.set_cons_succ]
            refine wpList_skipU hun (by subst hbf; subst hun; kernel_rfl) (some 103) rfl ?_
            simp only [Act.put, List.setIfInBounds_toArray, List.set_cons_zero, List.set_cons_succ]
            refine wpList_skipU hun (by subst hbf; subst hun; kernel_rfl) (some 104) rfl ?_
            simp only [Act.put, List.setIfInBounds_toArray, List.set_cons_zero, List.set_cons_succ]
            refine wpList_skipU hun (by subst hbf; subst hun; kernel_rfl) (some 105) rfl ?_
            simp only [Act.put, List.setIfInBounds_toArray, List.set_cons_zero, List.set_cons_succ]
            refine wpList_skipU hun (by subst hbf; subst hun; kernel_rfl) (some 106) rfl ?_
            simp only [Act.put, List.setIfInBounds_toArray, List.set_cons_zero, List.set_cons_succ]
            refine wpList_skipU hun (by subst hbf; subst hun; kernel_rfl) (some 107) rfl ?_
            simp only [Act.put, List.setIfInBounds_toArray, List.set_cons_zero, List.set_cons_succ]
            refine wpList_skipU hun (by subst hbf; subst hun; kernel_rfl) (some 108) rfl ?_
            simp only [Act.put, List.setIfInBounds_toArray, List.set_cons_zero, List.set_cons_succ]
            refine wpList_runToG (by kernel_rfl) (some 109) rfl (.bool false) WD (by subst hbf; subst hun; kernel_rfl) ?_
            simp only [Act.put, List.setIfInBounds_toArray, List.set_cons_zero, List.set_cons_succ]
            refine wpList_runTo rfl (some 110) rfl (.bool false) WD (by kernel_rfl) ?_
            simp only [Act.put, List.setIfInBounds_toArray, List.set_cons_zero, List.set_cons_succ]
            refine wpList_nil ?_
            refine hK _ _ ?_
            clear hK
            go_upto_region 15 with fail
            rename_i K hK
            refine wp_region_lit ?_
            refine wpList_runTo rfl (some 111) rfl (.bool true) WD (by kernel_rfl) ?_
            simp only [Act.put, List.setIfInBounds_toArray, List.set_cons_zero, List.set_cons_succ]
            refine wpList_runTo rfl (some 112) rfl (.bool false) WD (by kernel_rfl) ?_
            simp only [Act.put, List.setIfInBounds_toArray, List.set_cons_zero, List.set_cons_succ]
            refine wpList_runTo rfl (some 113) rfl (.bool false) WD (by kernel_rfl) ?_
            simp only [Act.put, List.setIfInBounds_toArray, List.set_cons_zero, List.set_cons_succ]
            refine wpList_runToG (by kernel_rfl) (some 114) rfl (.bool true) WD (by kernel_rfl) ?_
            simp only [Act.put, List.setIfInBounds_toArray, List.set_cons_zero, List.set_cons_succ]
            refine wpList_runToG (by kernel_rfl) (some 115) rfl (.bool false) WD (by kernel_rfl) ?_
            simp only [Act.put, List.setIfInBounds_toArray, List.set_cons_zero, List.set_cons_succ]
            refine wpList_runTo rfl (some 116) rfl (.bool false) WD (by kernel_rfl) ?_
            simp only [Act.put, List.setIfInBounds_toArray, List.set_cons_zero, List.set_cons_succ]
            refine wpList_runTo rfl (some 117) rfl (.bool false) WD (by kernel_rfl) ?_
            simp only [Act.put, List.setIfInBounds_toArray, List.set_cons_zero, List.set_cons_succ]
            refine loadG_cmd (c := d1) (HTD.out.bk (pc5, 27, d1.cs) (by simp)).1 (.tmp 5) (by kernel_rfl) rfl (by kernel_rfl) ?_
            simp only [Act.put, List.setIfInBounds_toArray, List.set_cons_zero, List.set_cons_succ]
            refine loadG_cmd (c := d1) (HTD.out.bk (pc8, 27, d1.cs) (by simp)).1 (.tmp 8) (by kernel_rfl) rfl (by kernel_rfl) ?_
            simp only [Act.put, List.setIfInBounds_toArray, List.set_cons_zero, List.set_cons_succ]
            refine wpList_runToG (by kernel_rfl) (some 120) rfl (.bool false) WD (by exact neC_run (c := d1) (.tmp 118) (.tmp 119) rfl (by kernel_rfl) (by kernel_rfl) _) ?_
            simp only [Act.put, List.setIfInBounds_toArray, List.set_cons_zero, List.set_cons_succ]
            generalize d1.cs = cx15
            refine wpList_runTo rfl (some 121) rfl (.bool false) WD (by kernel_rfl) ?_
            simp only [Act.put, List.setIfInBounds_toArray, List.set_cons_zero, List.set_cons_succ]
            refine wpList_runTo rfl (some 122) rfl (.bool false) WD (by kernel_rfl) ?_
            simp only [Act.put, List.setIfInBounds_toArray, List.set_cons_zero, List.set_cons_succ]
            refine wpList_runToG (by kernel_rfl) (some 123) rfl (.nilIface) WD (by kernel_rfl) ?_
            simp only [Act.put, List.setIfInBounds_toArray, List.set_cons_zero, List.set_cons_succ]
            refine wpList_runToG (by kernel_rfl) (some 124) rfl (.bool true) WD (by kernel_rfl) ?_
            simp only [Act.put, List.setIfInBounds_toArray, List.set_cons_zero, List.set_cons_succ]
            refine wpList_runToG (by kernel_rfl) (some 125) rfl (.int .i64 0) WD (by kernel_rfl) ?_
            simp only [Act.put, List.setIfInBounds_toArray, List.set_cons_zero, List.set_cons_succ]
            refine wpList_runToG (by kernel_rfl) (some 126) rfl (.bool true) WD (by kernel_rfl) ?_
            simp only [Act.put, List.setIfInBounds_toArray, List.set_cons_zero, List.set_cons_succ]
            refine wpList_runToG (by kernel_rfl) (some 127) rfl (.bool false) WD (by kernel_rfl) ?_
            simp only [Act.put, List.setIfInBounds_toArray, List.set_cons_zero, List.set_cons_succ]
            refine wpList_runTo rfl (some 128) rfl (.bool false) WD (by kernel_rfl) ?_
            simp only [Act.put, List.setIfInBounds_toArray, List.set_cons_zero, List.set_cons_succ]
            refine wpList_nil ?_
            refine hK _ _ ?_
            clear hK
            go_upto_region 17 with fail
            rename_i K hK
            refine wp_region_lit ?_
            refine wpList_runTo rfl (some 129) rfl (.nilIface) WD (by kernel_rfl) ?_
            simp only [Act.put, List.setIfInBounds_toArray, List.set_cons_zero, List.set_cons_succ]
            refine wpList_runTo rfl (some 130) rfl (.bool true) WD (by kernel_rfl) ?_
            simp only [Act.put, List.setIfInBounds_toArray, List.set_cons_zero, List.set_cons_succ]
            refine wpList_nil ?_
            refine hK _ _ ?_
            clear hK
            go_wp2
            go_ret
            exact ⟨rfl, HTD.out.bel⟩
theorem TapeDecodes_row {w : World} {v : Value} {l : List Nat} (h : By w v l) (hl : l.length ≤ 140737488351232) : Calls Try.prog 5 #[v] w fun e w' => e = .returned (.bool true) ∧ Below w.heap.size w w' := (TapeDecodes_law h hl).mono fun _ _ ⟨h1, h2⟩ => ⟨h1, h2.out⟩
end Go.Proofs.Ytjnnecoikcmaeaa
