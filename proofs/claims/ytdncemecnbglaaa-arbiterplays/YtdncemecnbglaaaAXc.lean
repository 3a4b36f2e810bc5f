import Derived.Test.YtdncemecnbglaaaA42

namespace Go.Proofs.Ytdncemecnbglaaa
set_option linter.unusedVariables false
set_option linter.unusedSimpArgs false
open Go.RowKit Go.Great Go.Maps

/-- An operation that came in. -/
structure OpC where
  kd : Int
  hh : Int
  ln : Int
  now : Int
  a : Option Addr
  bl : Nat
  bc : Nat
  l : List Nat
def OpC.v (o : OpC) : Array Value := opV o.kd o.hh o.ln (.slice o.a o.bl o.bc) o.now
/-- Operations that came in. -/
def SrcO (w : World) (a : Option Addr) (n : Nat) (t : Nat → OpC) : Prop := n = 0 ∨ ∃ b o, a = some ⟨b, o, none⟩ ∧ ∀ i, i < n → w.rangeAt b (o + i * 5) (t i).v.toList ∧ By w (.slice (t i).a (t i).bl (t i).bc) (t i).l ∧ (t i).l.length ≤ 140737488351232
theorem range_keep {w W : World} {b o : Nat} {cs : List Value} (h : w.rangeAt b o cs) (hb : Below w.heap.size w W) : W.rangeAt b o cs := fun j v hv => (Fr.of_below hb (fun _ => False)).cell (h j v hv) id
def PC0 (g h : Nat) : PC := ⟨.pointer (some ⟨g, 0, none⟩), .pointer (some ⟨h, 0, none⟩), .slice none 0 0, .slice none 0 0, .slice none 0 0, .slice none 0 0, .slice none 0 0, .slice none 0 0⟩
def PR0 (p g b h : Nat) (a : Ab) : PR := ⟨p, g, b, h, a, a, .slice none 0 0, PC0 g h, [], [], [], [], 0⟩
theorem PR0.own {p g b h : Nat} {a : Ab} {q : Nat} (hq : (PR0 p g b h a).own q) : q = p ∨ q = g ∨ q = b ∨ q = h := by
  rcases hq with e | e | e | (e | e) | e | e | e | e
  · exact .inl e
  · exact .inr (.inl e)
  · exact .inr (.inr (.inl e))
  · exact .inr (.inr (.inr e))
  · cases e
  · cases e
  · cases e
  · cases e
  · cases e
theorem PrAt.new {s : Nat} {w : World} {p g b h win : Nat} {pat : Int} (hb : Blk w p 54 (PC0 g h).cs) (ha : AbAt w g b (new0 win pat)) (hr : RbAt w h (.slice none 0 0) (new0 win pat)) : PrAt s (fun _ => (0, 0)) w (PR0 p g b h (new0 win pat)) 0 := by
  have gi : Gi (fun _ => (0, 0)) w := ⟨fun q hq => absurd rfl hq, fun q m hq => by simp at hq⟩
  exact ⟨gi, rfl, rfl, hb, ha, fun k hk => (List.not_mem_nil hk).elim, hr, Rel.new win pat,
    ⟨RowAt.none0 _ _ _, fun k hk => (List.not_mem_nil hk).elim⟩, ⟨RowAt.none0 _ _ _, fun i x hx => by simp [PR0] at hx⟩, ⟨RowAt.none0 _ _ _, fun i x hx => by simp [PR0] at hx⟩,
    ⟨RowAt.none0 _ _ _, fun q hq => (by cases hq), fun k hk => (List.not_mem_nil hk).elim, fun k hk => (List.not_mem_nil hk).elim, List.Pairwise.nil⟩, RowAt.none0 _ _ _, MkA.nil _ _ _ _ _,
    fun k hk => (List.not_mem_nil hk).elim, fun k hk => (List.not_mem_nil hk).elim, fun k hk => (List.not_mem_nil hk).elim, fun k hk => (List.not_mem_nil hk).elim, fun k hk => (List.not_mem_nil hk).elim, fun i => Nat.zero_le _, Nat.zero_le _, rfl, rfl, Nat.le_refl _, Nat.le_refl _⟩
/-- Two pairs. -/
def LJ (s t : Nat) (w : World) (p q N : Nat) (wr : World) : Prop := ∃ G P Q, P.p = p ∧ Q.p = q ∧ PrAt s G wr P N ∧ PrAt t G wr Q N ∧ (∀ x, P.own x → ¬ Q.own x) ∧ (∀ x, G x ≠ (0, 0) → w.heap.size ≤ x) ∧ (∀ x, P.own x → w.heap.size ≤ x) ∧ (∀ x, Q.own x → w.heap.size ≤ x) ∧ Below w.heap.size w wr
section
variable {s t p q N : Nat} {w wr W : World}
theorem LJ.swap (h : LJ s t w p q N wr) : LJ t s w q p N wr := by
  obtain ⟨G, P, Q, a, b, c, d, e, f, g, i, j⟩ := h
  exact ⟨G, Q, P, b, a, d, c, fun x h1 h2 => e x h2 h1, f, i, g, j⟩
theorem LJ.bel (h : LJ s t w p q N wr) : Below w.heap.size w wr := by
  obtain ⟨G, P, Q, a, b, c, d, e, f, g, i, j⟩ := h
  exact j
theorem LJ.below (h : LJ s t w p q N wr) (hb : Below wr.heap.size wr W) : LJ s t w p q N W := by
  obtain ⟨G, P, Q, a, b, c, d, e, f, g, i, j⟩ := h
  exact ⟨G, P, Q, a, b, c.below hb, d.below hb, e, f, g, i, below_step j hb⟩
theorem LJ.step (h : LJ s t w p q N wr) (hst : s ≠ t) (hs : s < 400) (ht : t < 400) (hN : N < 1000) {o : OpC} (hB : By w (.slice o.a o.bl o.bc) o.l) (hl : o.l.length ≤ 140737488351232) :
    Calls Try.prog 15 #[.pointer (some ⟨p, 0, none⟩), .agg o.v] wr fun e w' => e = .returned (.bool true) ∧ Hid (LJ s t w p q (N + 1) w') := by
  obtain ⟨G, P, Q, rfl, rfl, c, d, e, f, g, i, j⟩ := h
  refine (step_any c hs hN j.size f g o.kd o.hh o.ln o.now (fun W hW => hB.below (j.trans hW)) hl).mono fun e2 w' ⟨e3, h⟩ => ⟨e3, ?_⟩
  obtain ⟨G', P', k1, k2, k3, k4⟩ := h.out
  obtain ⟨b1, b2⟩ := k3.low j.size f g
  exact ⟨G', P', Q, k2, rfl, k1, (d.other k3 hst.symm ht hs fun x hx hx2 => e x hx2 hx).mono (Nat.le_succ _), fun x hx hx2 => by
    rcases k4 x hx with h1 | h1
    · exact e x h1 hx2
    · have := d.own_lt hx2
      omega, b2, fun x hx => by
    rcases k4 x hx with h1 | h1
    · exact g x h1
    · exact Nat.le_trans j.size h1, i, j.trans b1⟩
theorem LJ.looks (h : LJ s t w p q N wr) (hN : N ≤ 1000) :
    Calls Try.prog 16 #[.pointer (some ⟨p, 0, none⟩)] wr fun e w' => e = .returned (.bool true) ∧ Hid (LJ s t w p q N w') := by
  have h0 := h
  obtain ⟨G, P, Q, rfl, rfl, c, d, e, f, g, i, j⟩ := h
  have hnx := c.ab.bd.nx
  exact (looks_any c.gi c.blk c.hs c.os c.rs (by have := c.eb; omega) (by have := c.ob; omega) (by have := c.rb8; omega)).mono fun e2 w' ⟨e3, h⟩ => ⟨e3, h0.below h.out⟩
end
theorem LJ.new {w W1 W2 W3 W4 W5 : World} {g b h g2 b2 h2 win win2 : Nat} {pat pat2 : Int} (h1 : Below w.heap.size w W1) (h2' : AbAt W2 g b (new0 win pat) ∧ W1.heap.size ≤ g ∧ W1.heap.size ≤ b ∧ Below W1.heap.size W1 W2) (h3 : RbAt W3 h (.slice none 0 0) (new0 win pat) ∧ W2.heap.size ≤ h ∧ Below W2.heap.size W2 W3) (h4 : AbAt W4 g2 b2 (new0 win2 pat2) ∧ W3.heap.size ≤ g2 ∧ W3.heap.size ≤ b2 ∧ Below W3.heap.size W3 W4) (h5 : RbAt W5 h2 (.slice none 0 0) (new0 win2 pat2) ∧ W4.heap.size ≤ h2 ∧ Below W4.heap.size W4 W5) :
    LJ 0 1 w W5.heap.size (W5.heap.size + 1) 0 ((W5.alloc (.cells (PC0 g h).cs 54)).alloc (.cells (PC0 g2 h2).cs 54)) := by
  obtain ⟨a1, a2, a3, a4⟩ := h2'
  obtain ⟨b1, bb2, b3⟩ := h3
  obtain ⟨c1, c2, c3, c4⟩ := h4
  obtain ⟨d1, dd2, d3⟩ := h5
  have s1 := h1.size
  have s2 := a4.size
  have s3 := b3.size
  have s4 := c4.size
  have s5 := d3.size
  have gi : ∀ W, Gi (fun _ => (0, 0)) W := fun W => ⟨fun q hq => absurd rfl hq, fun q m hq => by simp at hq⟩
  have e6 : Below W5.heap.size W5 (W5.alloc (.cells (PC0 g h).cs 54)) := (Below.refl _ W5).alloc (Nat.le_refl _) _
  have e7 : Below (W5.alloc (.cells (PC0 g h).cs 54)).heap.size (W5.alloc (.cells (PC0 g h).cs 54)) ((W5.alloc (.cells (PC0 g h).cs 54)).alloc (.cells (PC0 g2 h2).cs 54)) := (Below.refl _ _).alloc (Nat.le_refl _) _
  have e57 := below_step e6 e7
  have e47 := below_step d3 e57
  have e37 := below_step c4 e47
  have e27 := below_step b3 e37
  have e17 := below_step a4 e27
  have ab : ∀ {W W' : World} {g b : Nat} {a : Ab}, AbAt W g b a → Below W.heap.size W W' → AbAt W' g b a := fun h hb => h.stp (Stp.below (s := 0) (gi _) hb) id id fun k hk q hq m e => by simp at e
  have rb : ∀ {W W' : World} {h : Nat} {a : Ab}, RbAt W h (.slice none 0 0) a → Below W.heap.size W W' → RbAt W' h (.slice none 0 0) a := fun h hb => h.stp (Stp.below (s := 0) (gi _) hb) (fun _ _ => id) fun k hk q hq m e => by simp at e
  have g1 : g < W2.heap.size := a1.blk.lt
  have g2l : g2 < W4.heap.size := c1.blk.lt
  have q1 : b < W2.heap.size := a1.map.lt
  have q2 : b2 < W4.heap.size := c1.map.lt
  have r1 : h < W3.heap.size := b1.blk.lt
  have r2 : h2 < W5.heap.size := d1.blk.lt
  refine ⟨fun _ => (0, 0), PR0 W5.heap.size g b h (new0 win pat), PR0 (W5.heap.size + 1) g2 b2 h2 (new0 win2 pat2), rfl, rfl, PrAt.new ((Blk.new W5 _ _).alloc _) (ab a1 e27) (rb b1 e37), PrAt.new ?_ (ab c1 e47) (rb d1 e57), fun x hx hy => ?_, fun x hx => absurd rfl hx, fun x hx => ?_, fun x hx => ?_, below_step h1 e17⟩
  · have := Blk.new (W5.alloc (.cells (PC0 g h).cs 54)) 54 (PC0 g2 h2).cs
    rw [show (W5.alloc (.cells (PC0 g h).cs 54)).heap.size = W5.heap.size + 1 by simp] at this
    exact this
  · rcases PR0.own hx with e | e | e | e <;> rcases PR0.own hy with e2 | e2 | e2 | e2 <;> omega
  · rcases PR0.own hx with e | e | e | e <;> omega
  · rcases PR0.own hx with e | e | e | e <;> omega
theorem and1_ex (h : Int) : ∃ z : Int, ∀ (op : Oper) (a : Act) (x : Operand) (w : World), op.op = .binOp .and 3 x (.const (.int .i64 1)) 3 → a.eval x = .int .i64 h → (execOp a.eval op).run Try.prog w = .ok (.value (.int .i64 z)) w := by
  refine ⟨bits .and .i64 h 1, fun op a x w ho hx => ?_⟩
  have e : a.eval (.const (.int .i64 1)) = .int .i64 1 := rfl
  unfold execOp
  simp only [ho, hx, e]
  go_simp
theorem eq1_run {op : Oper} {a : Act} {z : Int} {r : Bool} (hr : decide (z = 1) = r) (x : Operand) (ho : op.op = .binOp .eql 3 x (.const (.int .i64 1)) 3) (hx : a.eval x = .int .i64 z) (w : World) : (execOp a.eval op).run Try.prog w = .ok (.value (.bool r)) w := by
  have e : a.eval (.const (.int .i64 1)) = .int .i64 1 := rfl
  have e2 : (z == 1) = r := by rw [← hr]; by_cases h : z = 1 <;> simp [h]
  unfold execOp
  simp only [ho, hx, e]
  go_simp
theorem ptrR_run {op : Oper} {a : Act} {ad : Addr} (x : Operand) (y : Operand) (ho : op.op = .binOp .eql 45 x y 45) (hx : a.eval x = .pointer (some ad)) (hy : a.eval y = .pointer none) (w : World) : (execOp a.eval op).run Try.prog w = .ok (.value (.bool false)) w := by
  unfold execOp
  simp only [ho, hx, hy]
  go_simp
theorem ixOp_run {op : Oper} {a : Act} {g o n c i : Nat} (x y : Operand) (ho : op.op = .indexAddr 44 x y) (hx : a.eval x = .slice (some ⟨g, o, none⟩) n c) (hy : a.eval y = .int .i64 (i : Int)) (hi : i < n) (w : World) : (execOp a.eval op).run Try.prog w = .ok (.value (.pointer (some ⟨g, o + i * 5, none⟩))) w := by
  have h1 : (i : Int) < (n : Int) := by omega
  have h2 : ¬ (n : Int) ≤ (i : Int) := by omega
  unfold execOp
  simp only [ho, hx, hy]
  go_simp
theorem lenO_run {op : Oper} {a : Act} {v : Value} {ao : Option Addr} {n c : Nat} (hv : v = .slice ao n c) (x : Operand) (ho : op.op = .call { callee := .builtin .len, args := #[x], argTypes := #[44] }) (hx : a.eval x = v) (w : World) : (execOp a.eval op).run Try.prog w = .ok (.value (.int .i64 (n : Int))) w := by
  subst hv
  unfold execOp
  simp only [ho, resolve, invoke, builtin, Sem.run_bind, Sem.run_pure, Result.andThen_ok, List.map_toArray, List.map_cons, List.map_nil, hx]
  go_simp
theorem fld1_run {op : Oper} {a : Act} {g o : Nat} (x : Operand) (ho : op.op = .fieldAddr 56 x 1) (hx : a.eval x = .pointer (some ⟨g, o, none⟩)) (w : World) : (execOp a.eval op).run Try.prog w = .ok (.value (.pointer (some ⟨g, o + 1, none⟩))) w := by
  unfold execOp
  simp only [ho, hx]
  go_simp
end Go.Proofs.Ytdncemecnbglaaa

namespace Go.Proofs.Ytdncemecnbglaaa
set_option linter.unusedVariables false
set_option linter.unusedSimpArgs false
open Go.RowKit Go.Great Go.Maps

theorem below_self (w : World) : Below w.heap.size w w := Below.refl _ w
set_option maxRecDepth 100000 in
set_option maxHeartbeats 4000000 in
theorem ArbiterPlays_bad {w : World} (wd pd : Int) (hbad : ¬ (1 ≤ wd ∧ wd ≤ 1000 ∧ 0 ≤ pd ∧ pd ≤ 253402300799999)) (a1 : Option Addr) (n1 c1 : Nat) : Calls Try.prog 5 #[.int .i64 wd, .int .i64 pd, .slice a1 n1 c1] w fun e w' => e = .returned (.bool true) ∧ Hid (Below w.heap.size w w') := by
  have hsh := shown_any w
  obtain ⟨L1, hL1⟩ : ∃ L1, L1 = Value.slice a1 n1 c1 := ⟨_, rfl⟩
  rw [← hL1]
  have HL1 : Hid (L1 = Value.slice a1 n1 c1) := hL1
  clear hL1
  go_enter Try.func5, Try.ntmps5
  go_upto_region 1 with fail
  rename_i K hK
  refine wp_region_lit ?_
  refine wpList_callW rfl (some 22) rfl 6 #[] (by kernel_rfl) hsh ?_
  clear hsh
  rintro e W1 ⟨rfl, hx1⟩
  refine ⟨_, rfl, ?_⟩
  simp only [Act.put, List.setIfInBounds_toArray, List.set_cons_zero, List.set_cons_succ]
  refine wpList_runTo rfl (some 7) rfl (.bool true) W1 (by kernel_rfl) ?_
  simp only [Act.put, List.setIfInBounds_toArray, List.set_cons_zero, List.set_cons_succ]
  refine wpList_nil ?_
  refine hK _ _ ?_
  clear hK
  have hn1 := New_no W1 wd pd hbad
  go_upto_region 2 with fail
  rename_i K hK
  refine wp_region_lit ?_
  refine wpList_runTo rfl (some 24) rfl (.int .i64 wd) W1 (by kernel_rfl) ?_
  simp only [Act.put, List.setIfInBounds_toArray, List.set_cons_zero, List.set_cons_succ]
  refine wpList_runTo rfl (some 25) rfl (.int .i64 pd) W1 (by kernel_rfl) ?_
  simp only [Act.put, List.setIfInBounds_toArray, List.set_cons_zero, List.set_cons_succ]
  refine wpList_callW rfl (some 26) rfl 7 #[.int .i64 wd, .int .i64 pd] (by kernel_rfl) hn1 ?_
  clear hn1
  rintro e w9 ⟨rfl, ew⟩
  replace ew := ew.symm
  subst ew
  refine ⟨_, rfl, ?_⟩
  simp only [Act.put, List.setIfInBounds_toArray, List.set_cons_zero, List.set_cons_succ]
  refine wpList_runTo rfl (some 23) rfl (.tuple #[.pointer none, .int .i64 1]) W1 (by kernel_rfl) ?_
  simp only [Act.put, List.setIfInBounds_toArray, List.set_cons_zero, List.set_cons_succ]
  refine wpList_runTo rfl (some 27) rfl (.pointer none) W1 (by kernel_rfl) ?_
  simp only [Act.put, List.setIfInBounds_toArray, List.set_cons_zero, List.set_cons_succ]
  refine wpList_runTo rfl (some 28) rfl (.int .i64 1) W1 (by kernel_rfl) ?_
  simp only [Act.put, List.setIfInBounds_toArray, List.set_cons_zero, List.set_cons_succ]
  refine wpList_runTo rfl (some 8) rfl (.pointer none) W1 (by kernel_rfl) ?_
  simp only [Act.put, List.setIfInBounds_toArray, List.set_cons_zero, List.set_cons_succ]
  refine wpList_runTo rfl (some 9) rfl (.int .i64 1) W1 (by kernel_rfl) ?_
  simp only [Act.put, List.setIfInBounds_toArray, List.set_cons_zero, List.set_cons_succ]
  refine wpList_nil ?_
  refine hK _ _ ?_
  clear hK
  have hn2 := rNew_no W1 wd pd hbad
  go_upto_region 3 with fail
  rename_i K hK
  refine wp_region_lit ?_
  refine wpList_runTo rfl (some 30) rfl (.int .i64 wd) W1 (by kernel_rfl) ?_
  simp only [Act.put, List.setIfInBounds_toArray, List.set_cons_zero, List.set_cons_succ]
  refine wpList_runTo rfl (some 31) rfl (.int .i64 pd) W1 (by kernel_rfl) ?_
  simp only [Act.put, List.setIfInBounds_toArray, List.set_cons_zero, List.set_cons_succ]
  refine wpList_callW rfl (some 32) rfl 14 #[.int .i64 wd, .int .i64 pd] (by kernel_rfl) hn2 ?_
  clear hn2
  rintro e w9 ⟨rfl, ew⟩
  replace ew := ew.symm
  subst ew
  refine ⟨_, rfl, ?_⟩
  simp only [Act.put, List.setIfInBounds_toArray, List.set_cons_zero, List.set_cons_succ]
  refine wpList_runTo rfl (some 29) rfl (.tuple #[.pointer none, .int .i64 1]) W1 (by kernel_rfl) ?_
  simp only [Act.put, List.setIfInBounds_toArray, List.set_cons_zero, List.set_cons_succ]
  refine wpList_runTo rfl (some 33) rfl (.pointer none) W1 (by kernel_rfl) ?_
  simp only [Act.put, List.setIfInBounds_toArray, List.set_cons_zero, List.set_cons_succ]
  refine wpList_runTo rfl (some 34) rfl (.int .i64 1) W1 (by kernel_rfl) ?_
  simp only [Act.put, List.setIfInBounds_toArray, List.set_cons_zero, List.set_cons_succ]
  refine wpList_runTo rfl (some 10) rfl (.pointer none) W1 (by kernel_rfl) ?_
  simp only [Act.put, List.setIfInBounds_toArray, List.set_cons_zero, List.set_cons_succ]
  refine wpList_runTo rfl (some 11) rfl (.int .i64 1) W1 (by kernel_rfl) ?_
  simp only [Act.put, List.setIfInBounds_toArray, List.set_cons_zero, List.set_cons_succ]
  refine wpList_nil ?_
  refine hK _ _ ?_
  clear hK
  have hn3 := New_yes W1 5 50 (by decide) (by decide) (by decide) (by decide)
  go_upto_region 4 with fail
  rename_i K hK
  refine wp_region_lit ?_
  refine wpList_callW rfl (some 36) rfl 7 #[.int .i64 5, .int .i64 50] (by kernel_rfl) hn3 ?_
  clear hn3
  rintro e W4 ⟨g2, b2, rfl, hx4⟩
  refine ⟨_, rfl, ?_⟩
  simp only [Act.put, List.setIfInBounds_toArray, List.set_cons_zero, List.set_cons_succ]
  refine wpList_runTo rfl (some 35) rfl (.tuple #[.pointer (some ⟨g2, 0, none⟩), .int .i64 0]) W4 (by kernel_rfl) ?_
  simp only [Act.put, List.setIfInBounds_toArray, List.set_cons_zero, List.set_cons_succ]
  refine wpList_runTo rfl (some 37) rfl (.pointer (some ⟨g2, 0, none⟩)) W4 (by kernel_rfl) ?_
  simp only [Act.put, List.setIfInBounds_toArray, List.set_cons_zero, List.set_cons_succ]
  refine wpList_runTo rfl (some 38) rfl (.int .i64 0) W4 (by kernel_rfl) ?_
  simp only [Act.put, List.setIfInBounds_toArray, List.set_cons_zero, List.set_cons_succ]
  refine wpList_runTo rfl (some 12) rfl (.pointer (some ⟨g2, 0, none⟩)) W4 (by kernel_rfl) ?_
  simp only [Act.put, List.setIfInBounds_toArray, List.set_cons_zero, List.set_cons_succ]
  refine wpList_runTo rfl (some 13) rfl (.int .i64 0) W4 (by kernel_rfl) ?_
  simp only [Act.put, List.setIfInBounds_toArray, List.set_cons_zero, List.set_cons_succ]
  refine wpList_nil ?_
  refine hK _ _ ?_
  clear hK
  have hn4 := rNew_yes W4 5 50 (by decide) (by decide) (by decide) (by decide)
  go_upto_region 5 with fail
  rename_i K hK
  refine wp_region_lit ?_
  refine wpList_callW rfl (some 40) rfl 14 #[.int .i64 5, .int .i64 50] (by kernel_rfl) hn4 ?_
  clear hn4
  rintro e W5 ⟨j2, rfl, hx5⟩
  refine ⟨_, rfl, ?_⟩
  simp only [Act.put, List.setIfInBounds_toArray, List.set_cons_zero, List.set_cons_succ]
  refine wpList_runTo rfl (some 39) rfl (.tuple #[.pointer (some ⟨j2, 0, none⟩), .int .i64 0]) W5 (by kernel_rfl) ?_
  simp only [Act.put, List.setIfInBounds_toArray, List.set_cons_zero, List.set_cons_succ]
  refine wpList_runTo rfl (some 41) rfl (.pointer (some ⟨j2, 0, none⟩)) W5 (by kernel_rfl) ?_
  simp only [Act.put, List.setIfInBounds_toArray, List.set_cons_zero, List.set_cons_succ]
  refine wpList_runTo rfl (some 42) rfl (.int .i64 0) W5 (by kernel_rfl) ?_
  simp only [Act.put, List.setIfInBounds_toArray, List.set_cons_zero, List.set_cons_succ]
  refine wpList_runTo rfl (some 14) rfl (.pointer (some ⟨j2, 0, none⟩)) W5 (by kernel_rfl) ?_
  simp only [Act.put, List.setIfInBounds_toArray, List.set_cons_zero, List.set_cons_succ]
  refine wpList_runTo rfl (some 15) rfl (.int .i64 0) W5 (by kernel_rfl) ?_
  simp only [Act.put, List.setIfInBounds_toArray, List.set_cons_zero, List.set_cons_succ]
  refine wpList_nil ?_
  refine hK _ _ ?_
  clear hK
  go_upto_region 6 with fail
  rename_i K hK
  refine wp_region_lit ?_
  refine wpList_runTo rfl (some 43) rfl (.bool true) W5 (by kernel_rfl) ?_
  simp only [Act.put, List.setIfInBounds_toArray, List.set_cons_zero, List.set_cons_succ]
  refine wpList_runTo rfl (some 44) rfl (.bool false) W5 (by kernel_rfl) ?_
  simp only [Act.put, List.setIfInBounds_toArray, List.set_cons_zero, List.set_cons_succ]
  refine wpList_runTo rfl (some 45) rfl (.bool false) W5 (by kernel_rfl) ?_
  simp only [Act.put, List.setIfInBounds_toArray, List.set_cons_zero, List.set_cons_succ]
  refine wpList_runToG (by kernel_rfl) (some 46) rfl (.int .i64 1) W5 (by kernel_rfl) ?_
  simp only [Act.put, List.setIfInBounds_toArray, List.set_cons_zero, List.set_cons_succ]
  refine wpList_runToG (by kernel_rfl) (some 47) rfl (.int .i64 1) W5 (by kernel_rfl) ?_
  simp only [Act.put, List.setIfInBounds_toArray, List.set_cons_zero, List.set_cons_succ]
  refine wpList_runToG (by kernel_rfl) (some 48) rfl (.bool false) W5 (by kernel_rfl) ?_
  simp only [Act.put, List.setIfInBounds_toArray, List.set_cons_zero, List.set_cons_succ]
  refine wpList_runTo rfl (some 49) rfl (.bool false) W5 (by kernel_rfl) ?_
  simp only [Act.put, List.setIfInBounds_toArray, List.set_cons_zero, List.set_cons_succ]
  refine wpList_runTo rfl (some 50) rfl (.bool false) W5 (by kernel_rfl) ?_
  simp only [Act.put, List.setIfInBounds_toArray, List.set_cons_zero, List.set_cons_succ]
  refine wpList_runToG (by kernel_rfl) (some 51) rfl (.pointer none) W5 (by kernel_rfl) ?_
  simp only [Act.put, List.setIfInBounds_toArray, List.set_cons_zero, List.set_cons_succ]
  refine wpList_runToG (by kernel_rfl) (some 52) rfl (.bool true) W5 (by kernel_rfl) ?_
  simp only [Act.put, List.setIfInBounds_toArray, List.set_cons_zero, List.set_cons_succ]
  refine wpList_runToG (by kernel_rfl) (some 53) rfl (.pointer none) W5 (by kernel_rfl) ?_
  simp only [Act.put, List.setIfInBounds_toArray, List.set_cons_zero, List.set_cons_succ]
  refine wpList_runToG (by kernel_rfl) (some 54) rfl (.bool true) W5 (by kernel_rfl) ?_
  simp only [Act.put, List.setIfInBounds_toArray, List.set_cons_zero, List.set_cons_succ]
  refine wpList_runToG (by kernel_rfl) (some 55) rfl (.bool false) W5 (by kernel_rfl) ?_
  simp only [Act.put, List.setIfInBounds_toArray, List.set_cons_zero, List.set_cons_succ]
  refine wpList_runTo rfl (some 56) rfl (.bool false) W5 (by kernel_rfl) ?_
  simp only [Act.put, List.setIfInBounds_toArray, List.set_cons_zero, List.set_cons_succ]
  refine wpList_runTo rfl (some 57) rfl (.bool false) W5 (by kernel_rfl) ?_
  simp only [Act.put, List.setIfInBounds_toArray, List.set_cons_zero, List.set_cons_succ]
  refine wpList_runToG (by kernel_rfl) (some 58) rfl (.int .i64 0) W5 (by kernel_rfl) ?_
  simp only [Act.put, List.setIfInBounds_toArray, List.set_cons_zero, List.set_cons_succ]
  refine wpList_runToG (by kernel_rfl) (some 59) rfl (.int .i64 0) W5 (by kernel_rfl) ?_
  simp only [Act.put, List.setIfInBounds_toArray, List.set_cons_zero, List.set_cons_succ]
  refine wpList_runToG (by kernel_rfl) (some 60) rfl (.bool false) W5 (by kernel_rfl) ?_
  simp only [Act.put, List.setIfInBounds_toArray, List.set_cons_zero, List.set_cons_succ]
  refine wpList_runTo rfl (some 61) rfl (.bool false) W5 (by kernel_rfl) ?_
  simp only [Act.put, List.setIfInBounds_toArray, List.set_cons_zero, List.set_cons_succ]
  refine wpList_runTo rfl (some 62) rfl (.bool false) W5 (by kernel_rfl) ?_
  simp only [Act.put, List.setIfInBounds_toArray, List.set_cons_zero, List.set_cons_succ]
  refine wpList_runToG (by kernel_rfl) (some 63) rfl (.pointer (some ⟨g2, 0, none⟩)) W5 (by kernel_rfl) ?_
  simp only [Act.put, List.setIfInBounds_toArray, List.set_cons_zero, List.set_cons_succ]
  refine wpList_runToG (by kernel_rfl) (some 64) rfl (.bool false) W5 (by exact ptrN_run (ad := ⟨g2, 0, none⟩) (.tmp 63) (.const (.pointer none)) rfl (by kernel_rfl) rfl _) ?_
  simp only [Act.put, List.setIfInBounds_toArray, List.set_cons_zero, List.set_cons_succ]
  refine wpList_runTo rfl (some 65) rfl (.bool false) W5 (by kernel_rfl) ?_
  simp only [Act.put, List.setIfInBounds_toArray, List.set_cons_zero, List.set_cons_succ]
  refine wpList_nil ?_
  refine hK _ _ ?_
  clear hK
  go_upto_region 8 with fail
  rename_i K hK
  refine wp_region_lit ?_
  refine wpList_runTo rfl (some 66) rfl (.pointer none) W5 (by kernel_rfl) ?_
  simp only [Act.put, List.setIfInBounds_toArray, List.set_cons_zero, List.set_cons_succ]
  refine wpList_runTo rfl (some 67) rfl (.bool true) W5 (by kernel_rfl) ?_
  simp only [Act.put, List.setIfInBounds_toArray, List.set_cons_zero, List.set_cons_succ]
  refine wpList_nil ?_
  refine hK _ _ ?_
  clear hK
  have HZ : Hid (Below w.heap.size w W5) := below_step (below_step hx1.out hx4.out.2.2.2) hx5.out.2.2
  clear hx1 hx4 hx5
  go_wp2
  go_ret
  exact ⟨rfl, HZ.out⟩
set_option maxRecDepth 100000 in
set_option maxHeartbeats 4000000 in
theorem ArbiterPlays_good {w : World} (win : Nat) (pd : Int) (hw1 : 1 ≤ win) (hw2 : win ≤ 1000) (hp1 : 0 ≤ pd) (hp2 : pd ≤ 253402300799999) (a1 : Option Addr) (n1 c1 : Nat) (t1 : Nat → OpC) (HS : Hid (SrcO w a1 n1 t1)) : Calls Try.prog 5 #[.int .i64 (win : Int), .int .i64 pd, .slice a1 n1 c1] w fun e w' => e = .returned (.bool true) ∧ Hid (Below w.heap.size w w') := by
  have hsh := shown_any w
  obtain ⟨L1, hL1⟩ : ∃ L1, L1 = Value.slice a1 n1 c1 := ⟨_, rfl⟩
  rw [← hL1]
  have HL1 : Hid (L1 = Value.slice a1 n1 c1) := hL1
  clear hL1
  go_enter Try.func5, Try.ntmps5
  go_upto_region 1 with fail
  rename_i K hK
  refine wp_region_lit ?_
  refine wpList_callW rfl (some 22) rfl 6 #[] (by kernel_rfl) hsh ?_
  clear hsh
  rintro e W1 ⟨rfl, hx1⟩
  refine ⟨_, rfl, ?_⟩
  simp only [Act.put, List.setIfInBounds_toArray, List.set_cons_zero, List.set_cons_succ]
  refine wpList_runTo rfl (some 7) rfl (.bool true) W1 (by kernel_rfl) ?_
  simp only [Act.put, List.setIfInBounds_toArray, List.set_cons_zero, List.set_cons_succ]
  refine wpList_nil ?_
  refine hK _ _ ?_
  clear hK
  have hn1 := New_yes W1 win pd hw1 hw2 hp1 hp2
  go_upto_region 2 with fail
  rename_i K hK
  refine wp_region_lit ?_
  refine wpList_runTo rfl (some 24) rfl (.int .i64 (win : Int)) W1 (by kernel_rfl) ?_
  simp only [Act.put, List.setIfInBounds_toArray, List.set_cons_zero, List.set_cons_succ]
  refine wpList_runTo rfl (some 25) rfl (.int .i64 pd) W1 (by kernel_rfl) ?_
  simp only [Act.put, List.setIfInBounds_toArray, List.set_cons_zero, List.set_cons_succ]
  refine wpList_callW rfl (some 26) rfl 7 #[.int .i64 (win : Int), .int .i64 pd] (by kernel_rfl) hn1 ?_
  clear hn1
  rintro e W2 ⟨g1, b1, rfl, hx2⟩
  refine ⟨_, rfl, ?_⟩
  simp only [Act.put, List.setIfInBounds_toArray, List.set_cons_zero, List.set_cons_succ]
  refine wpList_runTo rfl (some 23) rfl (.tuple #[.pointer (some ⟨g1, 0, none⟩), .int .i64 0]) W2 (by kernel_rfl) ?_
  simp only [Act.put, List.setIfInBounds_toArray, List.set_cons_zero, List.set_cons_succ]
  refine wpList_runTo rfl (some 27) rfl (.pointer (some ⟨g1, 0, none⟩)) W2 (by kernel_rfl) ?_
  simp only [Act.put, List.setIfInBounds_toArray, List.set_cons_zero, List.set_cons_succ]
  refine wpList_runTo rfl (some 28) rfl (.int .i64 0) W2 (by kernel_rfl) ?_
  simp only [Act.put, List.setIfInBounds_toArray, List.set_cons_zero, List.set_cons_succ]
  refine wpList_runTo rfl (some 8) rfl (.pointer (some ⟨g1, 0, none⟩)) W2 (by kernel_rfl) ?_
  simp only [Act.put, List.setIfInBounds_toArray, List.set_cons_zero, List.set_cons_succ]
  refine wpList_runTo rfl (some 9) rfl (.int .i64 0) W2 (by kernel_rfl) ?_
  simp only [Act.put, List.setIfInBounds_toArray, List.set_cons_zero, List.set_cons_succ]
  refine wpList_nil ?_
  refine hK _ _ ?_
  clear hK
  have hn2 := rNew_yes W2 win pd hw1 hw2 hp1 hp2
  go_upto_region 3 with fail
  rename_i K hK
  refine wp_region_lit ?_
  refine wpList_runTo rfl (some 30) rfl (.int .i64 (win : Int)) W2 (by kernel_rfl) ?_
  simp only [Act.put, List.setIfInBounds_toArray, List.set_cons_zero, List.set_cons_succ]
  refine wpList_runTo rfl (some 31) rfl (.int .i64 pd) W2 (by kernel_rfl) ?_
  simp only [Act.put, List.setIfInBounds_toArray, List.set_cons_zero, List.set_cons_succ]
  refine wpList_callW rfl (some 32) rfl 14 #[.int .i64 (win : Int), .int .i64 pd] (by kernel_rfl) hn2 ?_
  clear hn2
  rintro e W3 ⟨j1, rfl, hx3⟩
  refine ⟨_, rfl, ?_⟩
  simp only [Act.put, List.setIfInBounds_toArray, List.set_cons_zero, List.set_cons_succ]
  refine wpList_runTo rfl (some 29) rfl (.tuple #[.pointer (some ⟨j1, 0, none⟩), .int .i64 0]) W3 (by kernel_rfl) ?_
  simp only [Act.put, List.setIfInBounds_toArray, List.set_cons_zero, List.set_cons_succ]
  refine wpList_runTo rfl (some 33) rfl (.pointer (some ⟨j1, 0, none⟩)) W3 (by kernel_rfl) ?_
  simp only [Act.put, List.setIfInBounds_toArray, List.set_cons_zero, List.set_cons_succ]
  refine wpList_runTo rfl (some 34) rfl (.int .i64 0) W3 (by kernel_rfl) ?_
  simp only [Act.put, List.setIfInBounds_toArray, List.set_cons_zero, List.set_cons_succ]
  refine wpList_runTo rfl (some 10) rfl (.pointer (some ⟨j1, 0, none⟩)) W3 (by kernel_rfl) ?_
  simp only [Act.put, List.setIfInBounds_toArray, List.set_cons_zero, List.set_cons_succ]
  refine wpList_runTo rfl (some 11) rfl (.int .i64 0) W3 (by kernel_rfl) ?_
  simp only [Act.put, List.setIfInBounds_toArray, List.set_cons_zero, List.set_cons_succ]
  refine wpList_nil ?_
  refine hK _ _ ?_
  clear hK
  have hn3 := New_yes W3 5 50 (by decide) (by decide) (by decide) (by decide)
  go_upto_region 4 with fail
  rename_i K hK
  refine wp_region_lit ?_
  refine wpList_callW rfl (some 36) rfl 7 #[.int .i64 5, .int .i64 50] (by kernel_rfl) hn3 ?_
  clear hn3
  rintro e W4 ⟨g2, b2, rfl, hx4⟩
  refine ⟨_, rfl, ?_⟩
  simp only [Act.put, List.setIfInBounds_toArray, List.set_cons_zero, List.set_cons_succ]
  refine wpList_runTo rfl (some 35) rfl (.tuple #[.pointer (some ⟨g2, 0, none⟩), .int .i64 0]) W4 (by kernel_rfl) ?_
  simp only [Act.put, List.setIfInBounds_toArray, List.set_cons_zero, List.set_cons_succ]
  refine wpList_runTo rfl (some 37) rfl (.pointer (some ⟨g2, 0, none⟩)) W4 (by kernel_rfl) ?_
  simp only [Act.put, List.setIfInBounds_toArray, List.set_cons_zero, List.set_cons_succ]
  refine wpList_runTo rfl (some 38) rfl (.int .i64 0) W4 (by kernel_rfl) ?_
  simp only [Act.put, List.setIfInBounds_toArray, List.set_cons_zero, List.set_cons_succ]
  refine wpList_runTo rfl (some 12) rfl (.pointer (some ⟨g2, 0, none⟩)) W4 (by kernel_rfl) ?_
  simp only [Act.put, List.setIfInBounds_toArray, List.set_cons_zero, List.set_cons_succ]
  refine wpList_runTo rfl (some 13) rfl (.int .i64 0) W4 (by kernel_rfl) ?_
  simp only [Act.put, List.setIfInBounds_toArray, List.set_cons_zero, List.set_cons_succ]
  refine wpList_nil ?_
  refine hK _ _ ?_
  clear hK
  have hn4 := rNew_yes W4 5 50 (by decide) (by decide) (by decide) (by decide)
  go_upto_region 5 with fail
  rename_i K hK
  refine wp_region_lit ?_
  refine wpList_callW rfl (some 40) rfl 14 #[.int .i64 5, .int .i64 50] (by kernel_rfl) hn4 ?_
  clear hn4
  rintro e W5 ⟨j2, rfl, hx5⟩
  refine ⟨_, rfl, ?_⟩
  simp only [Act.put, List.setIfInBounds_toArray, List.set_cons_zero, List.set_cons_succ]
  refine wpList_runTo rfl (some 39) rfl (.tuple #[.pointer (some ⟨j2, 0, none⟩), .int .i64 0]) W5 (by kernel_rfl) ?_
  simp only [Act.put, List.setIfInBounds_toArray, List.set_cons_zero, List.set_cons_succ]
  refine wpList_runTo rfl (some 41) rfl (.pointer (some ⟨j2, 0, none⟩)) W5 (by kernel_rfl) ?_
  simp only [Act.put, List.setIfInBounds_toArray, List.set_cons_zero, List.set_cons_succ]
  refine wpList_runTo rfl (some 42) rfl (.int .i64 0) W5 (by kernel_rfl) ?_
  simp only [Act.put, List.setIfInBounds_toArray, List.set_cons_zero, List.set_cons_succ]
  refine wpList_runTo rfl (some 14) rfl (.pointer (some ⟨j2, 0, none⟩)) W5 (by kernel_rfl) ?_
  simp only [Act.put, List.setIfInBounds_toArray, List.set_cons_zero, List.set_cons_succ]
  refine wpList_runTo rfl (some 15) rfl (.int .i64 0) W5 (by kernel_rfl) ?_
  simp only [Act.put, List.setIfInBounds_toArray, List.set_cons_zero, List.set_cons_succ]
  refine wpList_nil ?_
  refine hK _ _ ?_
  clear hK
  go_upto_region 6 with fail
  rename_i K hK
  refine wp_region_lit ?_
  refine wpList_runTo rfl (some 43) rfl (.bool true) W5 (by kernel_rfl) ?_
  simp only [Act.put, List.setIfInBounds_toArray, List.set_cons_zero, List.set_cons_succ]
  refine wpList_runTo rfl (some 44) rfl (.bool false) W5 (by kernel_rfl) ?_
  simp only [Act.put, List.setIfInBounds_toArray, List.set_cons_zero, List.set_cons_succ]
  refine wpList_runTo rfl (some 45) rfl (.bool false) W5 (by kernel_rfl) ?_
  simp only [Act.put, List.setIfInBounds_toArray, List.set_cons_zero, List.set_cons_succ]
  refine wpList_runToG (by kernel_rfl) (some 46) rfl (.int .i64 0) W5 (by kernel_rfl) ?_
  simp only [Act.put, List.setIfInBounds_toArray, List.set_cons_zero, List.set_cons_succ]
  refine wpList_runToG (by kernel_rfl) (some 47) rfl (.int .i64 0) W5 (by kernel_rfl) ?_
  simp only [Act.put, List.setIfInBounds_toArray, List.set_cons_zero, List.set_cons_succ]
  refine wpList_runToG (by kernel_rfl) (some 48) rfl (.bool false) W5 (by kernel_rfl) ?_
  simp only [Act.put, List.setIfInBounds_toArray, List.set_cons_zero, List.set_cons_succ]
  refine wpList_runTo rfl (some 49) rfl (.bool false) W5 (by kernel_rfl) ?_
  simp only [Act.put, List.setIfInBounds_toArray, List.set_cons_zero, List.set_cons_succ]
  refine wpList_runTo rfl (some 50) rfl (.bool false) W5 (by kernel_rfl) ?_
  simp only [Act.put, List.setIfInBounds_toArray, List.set_cons_zero, List.set_cons_succ]
  refine wpList_runToG (by kernel_rfl) (some 51) rfl (.pointer (some ⟨g1, 0, none⟩)) W5 (by kernel_rfl) ?_
  simp only [Act.put, List.setIfInBounds_toArray, List.set_cons_zero, List.set_cons_succ]
  refine wpList_runToG (by kernel_rfl) (some 52) rfl (.bool false) W5 (by exact ptrN_run (ad := ⟨g1, 0, none⟩) (.tmp 51) (.const (.pointer none)) rfl (by kernel_rfl) rfl _) ?_
  simp only [Act.put, List.setIfInBounds_toArray, List.set_cons_zero, List.set_cons_succ]
  refine wpList_runToG (by kernel_rfl) (some 53) rfl (.pointer (some ⟨j1, 0, none⟩)) W5 (by kernel_rfl) ?_
  simp only [Act.put, List.setIfInBounds_toArray, List.set_cons_zero, List.set_cons_succ]
  refine wpList_runToG (by kernel_rfl) (some 54) rfl (.bool false) W5 (by exact ptrR_run (ad := ⟨j1, 0, none⟩) (.tmp 53) (.const (.pointer none)) rfl (by kernel_rfl) rfl _) ?_
  simp only [Act.put, List.setIfInBounds_toArray, List.set_cons_zero, List.set_cons_succ]
  refine wpList_runToG (by kernel_rfl) (some 55) rfl (.bool false) W5 (by kernel_rfl) ?_
  simp only [Act.put, List.setIfInBounds_toArray, List.set_cons_zero, List.set_cons_succ]
  refine wpList_runTo rfl (some 56) rfl (.bool false) W5 (by kernel_rfl) ?_
  simp only [Act.put, List.setIfInBounds_toArray, List.set_cons_zero, List.set_cons_succ]
  refine wpList_runTo rfl (some 57) rfl (.bool false) W5 (by kernel_rfl) ?_
  simp only [Act.put, List.setIfInBounds_toArray, List.set_cons_zero, List.set_cons_succ]
  refine wpList_runToG (by kernel_rfl) (some 58) rfl (.int .i64 0) W5 (by kernel_rfl) ?_
  simp only [Act.put, List.setIfInBounds_toArray, List.set_cons_zero, List.set_cons_succ]
  refine wpList_runToG (by kernel_rfl) (some 59) rfl (.int .i64 0) W5 (by kernel_rfl) ?_
  simp only [Act.put, List.setIfInBounds_toArray, List.set_cons_zero, List.set_cons_succ]
  refine wpList_runToG (by kernel_rfl) (some 60) rfl (.bool false) W5 (by kernel_rfl) ?_
  simp only [Act.put, List.setIfInBounds_toArray, List.set_cons_zero, List.set_cons_succ]
  refine wpList_runTo rfl (some 61) rfl (.bool false) W5 (by kernel_rfl) ?_
  simp only [Act.put, List.setIfInBounds_toArray, List.set_cons_zero, List.set_cons_succ]
  refine wpList_runTo rfl (some 62) rfl (.bool false) W5 (by kernel_rfl) ?_
  simp only [Act.put, List.setIfInBounds_toArray, List.set_cons_zero, List.set_cons_succ]
  refine wpList_runToG (by kernel_rfl) (some 63) rfl (.pointer (some ⟨g2, 0, none⟩)) W5 (by kernel_rfl) ?_
  simp only [Act.put, List.setIfInBounds_toArray, List.set_cons_zero, List.set_cons_succ]
  refine wpList_runToG (by kernel_rfl) (some 64) rfl (.bool false) W5 (by exact ptrN_run (ad := ⟨g2, 0, none⟩) (.tmp 63) (.const (.pointer none)) rfl (by kernel_rfl) rfl _) ?_
  simp only [Act.put, List.setIfInBounds_toArray, List.set_cons_zero, List.set_cons_succ]
  refine wpList_runTo rfl (some 65) rfl (.bool false) W5 (by kernel_rfl) ?_
  simp only [Act.put, List.setIfInBounds_toArray, List.set_cons_zero, List.set_cons_succ]
  refine wpList_nil ?_
  refine hK _ _ ?_
  clear hK
  go_upto_region 8 with fail
  rename_i K hK
  refine wp_region_lit ?_
  refine wpList_runTo rfl (some 66) rfl (.pointer (some ⟨g1, 0, none⟩)) W5 (by kernel_rfl) ?_
  simp only [Act.put, List.setIfInBounds_toArray, List.set_cons_zero, List.set_cons_succ]
  refine wpList_runTo rfl (some 67) rfl (.bool false) W5 (by exact ptrN_run (ad := ⟨g1, 0, none⟩) (.tmp 66) (.const (.pointer none)) rfl (by kernel_rfl) rfl _) ?_
  simp only [Act.put, List.setIfInBounds_toArray, List.set_cons_zero, List.set_cons_succ]
  refine wpList_nil ?_
  refine hK _ _ ?_
  clear hK
  have HJ0 := LJ.new hx1.out hx2.out hx3.out hx4.out hx5.out
  have HJ : Hid (LJ 0 1 w W5.heap.size (W5.heap.size + 1) 0 ((W5.alloc (.cells #[.pointer (some ⟨g1, 0, none⟩), .pointer (some ⟨j1, 0, none⟩), .slice none 0 0, .slice none 0 0, .slice none 0 0, .slice none 0 0, .slice none 0 0, .slice none 0 0] 54)).alloc (.cells #[.pointer (some ⟨g2, 0, none⟩), .pointer (some ⟨j2, 0, none⟩), .slice none 0 0, .slice none 0 0, .slice none 0 0, .slice none 0 0, .slice none 0 0, .slice none 0 0] 54))) := HJ0
  clear HJ0 hx1 hx2 hx3 hx4 hx5
  go_upto_region 10 with fail
  rename_i K hK
  refine wp_region_lit ?_
  refine wpList_runTo rfl (some 68) rfl (.pointer (some ⟨g1, 0, none⟩)) W5 (by kernel_rfl) ?_
  simp only [Act.put, List.setIfInBounds_toArray, List.set_cons_zero, List.set_cons_succ]
  refine wpList_runTo rfl (some 69) rfl (.pointer (some ⟨j1, 0, none⟩)) W5 (by kernel_rfl) ?_
  simp only [Act.put, List.setIfInBounds_toArray, List.set_cons_zero, List.set_cons_succ]
  refine wpList_runTo rfl (some 70) rfl (.agg #[.pointer (some ⟨g1, 0, none⟩), .pointer (some ⟨j1, 0, none⟩), .slice none 0 0, .slice none 0 0, .slice none 0 0, .slice none 0 0, .slice none 0 0, .slice none 0 0]) W5 (by kernel_rfl) ?_
  simp only [Act.put, List.setIfInBounds_toArray, List.set_cons_zero, List.set_cons_succ]
  refine wpList_runTo rfl (some 71) rfl (.pointer (some ⟨W5.heap.size, 0, none⟩)) (W5.alloc (.cells #[.pointer (some ⟨g1, 0, none⟩), .pointer (some ⟨j1, 0, none⟩), .slice none 0 0, .slice none 0 0, .slice none 0 0, .slice none 0 0, .slice none 0 0, .slice none 0 0] 54)) (by kernel_rfl) ?_
  simp only [Act.put, List.setIfInBounds_toArray, List.set_cons_zero, List.set_cons_succ]
  refine wpList_runTo rfl (some 16) rfl (.pointer (some ⟨W5.heap.size, 0, none⟩)) (W5.alloc (.cells #[.pointer (some ⟨g1, 0, none⟩), .pointer (some ⟨j1, 0, none⟩), .slice none 0 0, .slice none 0 0, .slice none 0 0, .slice none 0 0, .slice none 0 0, .slice none 0 0] 54)) (by kernel_rfl) ?_
  simp only [Act.put, List.setIfInBounds_toArray, List.set_cons_zero, List.set_cons_succ]
  refine wpList_nil ?_
  refine hK _ _ ?_
  clear hK
  obtain ⟨W6, hW6⟩ : ∃ W6, W6 = (W5.alloc (.cells #[.pointer (some ⟨g1, 0, none⟩), .pointer (some ⟨j1, 0, none⟩), .slice none 0 0, .slice none 0 0, .slice none 0 0, .slice none 0 0, .slice none 0 0, .slice none 0 0] 54)) := ⟨_, rfl⟩
  have hs6 : W6.heap.size = W5.heap.size + 1 := by rw [hW6]; simp
  rw [← hW6] at HJ ⊢
  rw [← hs6] at HJ
  obtain ⟨p, hp⟩ : ∃ p, p = W5.heap.size := ⟨_, rfl⟩
  rw [← hp] at HJ ⊢
  clear hW6 hs6 hp
  go_upto_region 11 with fail
  rename_i K hK
  refine wp_region_lit ?_
  refine wpList_runTo rfl (some 72) rfl (.pointer (some ⟨g2, 0, none⟩)) W6 (by kernel_rfl) ?_
  simp only [Act.put, List.setIfInBounds_toArray, List.set_cons_zero, List.set_cons_succ]
  refine wpList_runTo rfl (some 73) rfl (.pointer (some ⟨j2, 0, none⟩)) W6 (by kernel_rfl) ?_
  simp only [Act.put, List.setIfInBounds_toArray, List.set_cons_zero, List.set_cons_succ]
  refine wpList_runTo rfl (some 74) rfl (.agg #[.pointer (some ⟨g2, 0, none⟩), .pointer (some ⟨j2, 0, none⟩), .slice none 0 0, .slice none 0 0, .slice none 0 0, .slice none 0 0, .slice none 0 0, .slice none 0 0]) W6 (by kernel_rfl) ?_
  simp only [Act.put, List.setIfInBounds_toArray, List.set_cons_zero, List.set_cons_succ]
  refine wpList_runTo rfl (some 75) rfl (.pointer (some ⟨W6.heap.size, 0, none⟩)) (W6.alloc (.cells #[.pointer (some ⟨g2, 0, none⟩), .pointer (some ⟨j2, 0, none⟩), .slice none 0 0, .slice none 0 0, .slice none 0 0, .slice none 0 0, .slice none 0 0, .slice none 0 0] 54)) (by kernel_rfl) ?_
  simp only [Act.put, List.setIfInBounds_toArray, List.set_cons_zero, List.set_cons_succ]
  refine wpList_runTo rfl (some 17) rfl (.pointer (some ⟨W6.heap.size, 0, none⟩)) (W6.alloc (.cells #[.pointer (some ⟨g2, 0, none⟩), .pointer (some ⟨j2, 0, none⟩), .slice none 0 0, .slice none 0 0, .slice none 0 0, .slice none 0 0, .slice none 0 0, .slice none 0 0] 54)) (by kernel_rfl) ?_
  simp only [Act.put, List.setIfInBounds_toArray, List.set_cons_zero, List.set_cons_succ]
  refine wpList_nil ?_
  refine hK _ _ ?_
  clear hK
  obtain ⟨W7, hW7⟩ : ∃ W7, W7 = (W6.alloc (.cells #[.pointer (some ⟨g2, 0, none⟩), .pointer (some ⟨j2, 0, none⟩), .slice none 0 0, .slice none 0 0, .slice none 0 0, .slice none 0 0, .slice none 0 0, .slice none 0 0] 54)) := ⟨_, rfl⟩
  rw [← hW7] at HJ ⊢
  obtain ⟨q, hq⟩ : ∃ q, q = W6.heap.size := ⟨_, rfl⟩
  rw [← hq] at HJ ⊢
  clear hW7 hq
  go_upto_region 13 with fail
  go_loopw [18, 19, 20, 21] (fun x18 _ _ _ wr => ∃ i : Nat, x18 = .int .i64 (i : Int) ∧ i ≤ 1000 ∧ Hid (LJ 0 1 w p q i wr)) (fun x18 _ _ _ _ => 1000 - (RowKit.intOf x18).toNat)
  case atStart => exact ⟨0, rfl, by decide, HJ.out⟩
  case round =>
    clear HJ
    obtain ⟨i, rfl, hi, HO⟩ := hrel
    by_cases hlt : i < n1 ∧ i < 1000
    · obtain ⟨hl1, hl2⟩ := hlt
      have d1 : decide (i < n1) = true := by simp [hl1]
      have d2 : decide (i < 1000) = true := by simp [hl2]
      go_upto_region 13 with fail
      rename_i K hK
      refine wp_region_lit ?_
      refine wpList_runTo rfl (some 76) rfl (.int .i64 (i : Int)) wr (by kernel_rfl) ?_
      simp only [Act.put, List.setIfInBounds_toArray, List.set_cons_zero, List.set_cons_succ]
      refine wpList_runTo rfl (some 77) rfl (L1) wr (by kernel_rfl) ?_
      simp only [Act.put, List.setIfInBounds_toArray, List.set_cons_zero, List.set_cons_succ]
      refine wpList_runTo rfl (some 78) rfl (.int .i64 (n1 : Int)) wr (by exact lenO_run HL1.out (.tmp 77) rfl (by kernel_rfl) _) ?_
      simp only [Act.put, List.setIfInBounds_toArray, List.set_cons_zero, List.set_cons_succ]
      refine wpList_runTo rfl (some 79) rfl (.bool true) wr (by exact ltN_run (n := i) (k := n1) (.tmp 76) (.tmp 78) rfl (by kernel_rfl) (by kernel_rfl) d1 _) ?_
      simp only [Act.put, List.setIfInBounds_toArray, List.set_cons_zero, List.set_cons_succ]
      refine wpList_runTo rfl (some 80) rfl (.bool true) wr (by kernel_rfl) ?_
      simp only [Act.put, List.setIfInBounds_toArray, List.set_cons_zero, List.set_cons_succ]
      refine wpList_runToG (by kernel_rfl) (some 81) rfl (.int .i64 (i : Int)) wr (by kernel_rfl) ?_
      simp only [Act.put, List.setIfInBounds_toArray, List.set_cons_zero, List.set_cons_succ]
      refine wpList_runToG (by kernel_rfl) (some 82) rfl (.bool true) wr (by exact ltN_run (n := i) (k := 1000) (.tmp 81) (.const (.int .i64 1000)) rfl (by kernel_rfl) rfl d2 _) ?_
      simp only [Act.put, List.setIfInBounds_toArray, List.set_cons_zero, List.set_cons_succ]
      refine wpList_runTo rfl (some 83) rfl (.bool true) wr (by kernel_rfl) ?_
      simp only [Act.put, List.setIfInBounds_toArray, List.set_cons_zero, List.set_cons_succ]
      refine wpList_nil ?_
      refine hK _ _ ?_
      clear hK
      clear d1 d2
      obtain ⟨ob, oo, hqa, hqc⟩ : ∃ ob oo, a1 = some ⟨ob, oo, none⟩ ∧ wr.rangeAt ob (oo + i * 5) (t1 i).v.toList ∧ By w (.slice (t1 i).a (t1 i).bl (t1 i).bc) (t1 i).l ∧ (t1 i).l.length ≤ 140737488351232 := by
        rcases HS.out with h | ⟨ob, oo, e, h⟩
        · omega
        · exact ⟨ob, oo, e, range_keep (h i hl1).1 HO.out.bel, (h i hl1).2⟩
      have HL1' : Hid (L1 = .slice (some ⟨ob, oo, none⟩) n1 c1) := by show L1 = _; rw [HL1.out, hqa]
      clear hqa
      obtain ⟨hrg, hBy⟩ := hqc
      generalize t1 i = o at *
      have c1h : wr.cell? ⟨ob, oo + i * 5 + 1, none⟩ = some (.int .i64 o.hh) := hrg 1 _ rfl
      obtain ⟨z, hz⟩ := and1_ex o.hh
      have HB : Hid (By w (.slice o.a o.bl o.bc) o.l ∧ o.l.length ≤ 140737488351232) := hBy
      clear hBy
      obtain ⟨ov, hov⟩ : ∃ ov, ov = o.v := ⟨_, rfl⟩
      have hosz : ov.size = 5 := by rw [hov]; rfl
      have HV : Hid (ov = o.v) := hov
      rw [← hov] at hrg
      obtain ⟨oh, hoh⟩ : ∃ oh, oh = o.hh := ⟨_, rfl⟩
      rw [← hoh] at c1h hz
      clear hov hoh
      go_upto_region 15 with fail
      rename_i K hK
      refine wp_region_lit ?_
      refine wpList_runTo rfl (some 86) rfl (.pointer (some ⟨p, 0, none⟩)) wr (by kernel_rfl) ?_
      simp only [Act.put, List.setIfInBounds_toArray, List.set_cons_zero, List.set_cons_succ]
      refine wpList_runTo rfl (some 19) rfl (.pointer (some ⟨p, 0, none⟩)) wr (by kernel_rfl) ?_
      simp only [Act.put, List.setIfInBounds_toArray, List.set_cons_zero, List.set_cons_succ]
      refine wpList_nil ?_
      refine hK _ _ ?_
      clear hK
      by_cases ez : z = 1
      · have dz : decide (z = 1) = true := by simp [ez]
        clear ez
        go_upto_region 16 with fail
        rename_i K hK
        refine wp_region_lit ?_
        refine wpList_runTo rfl (some 87) rfl (L1) wr (by kernel_rfl) ?_
        simp only [Act.put, List.setIfInBounds_toArray, List.set_cons_zero, List.set_cons_succ]
        refine wpList_runTo rfl (some 88) rfl (.int .i64 (i : Int)) wr (by kernel_rfl) ?_
        simp only [Act.put, List.setIfInBounds_toArray, List.set_cons_zero, List.set_cons_succ]
        refine wpList_runTo rfl (some 89) rfl (.pointer (some ⟨ob, oo + i * 5, none⟩)) wr (by exact ixOp_run (i := i) (n := n1) (c := c1) (.tmp 87) (.tmp 88) rfl (by rw [← HL1'.out]; kernel_rfl) (by kernel_rfl) hl1 _) ?_
        simp only [Act.put, List.setIfInBounds_toArray, List.set_cons_zero, List.set_cons_succ]
        refine wpList_runTo rfl (some 90) rfl (.pointer (some ⟨ob, oo + i * 5 + 1, none⟩)) wr (by exact fld1_run (.tmp 89) rfl (by kernel_rfl) _) ?_
        simp only [Act.put, List.setIfInBounds_toArray, List.set_cons_zero, List.set_cons_succ]
        refine wpList_runTo rfl (some 91) rfl (.int .i64 oh) wr (by exact ldN_run (.inr rfl) (.tmp 90) rfl (by kernel_rfl) c1h) ?_
        simp only [Act.put, List.setIfInBounds_toArray, List.set_cons_zero, List.set_cons_succ]
        refine wpList_runTo rfl (some 92) rfl (.int .i64 z) wr (by exact hz _ _ (.tmp 91) _ rfl (by kernel_rfl)) ?_
        simp only [Act.put, List.setIfInBounds_toArray, List.set_cons_zero, List.set_cons_succ]
        refine wpList_runTo rfl (some 93) rfl (.bool true) wr (by exact eq1_run dz (.tmp 92) rfl (by kernel_rfl) _) ?_
        simp only [Act.put, List.setIfInBounds_toArray, List.set_cons_zero, List.set_cons_succ]
        refine wpList_nil ?_
        refine hK _ _ ?_
        clear hK
        clear dz
        go_upto_region 17 with fail
        rename_i K hK
        refine wp_region_lit ?_
        refine wpList_runTo rfl (some 94) rfl (.pointer (some ⟨q, 0, none⟩)) wr (by kernel_rfl) ?_
        simp only [Act.put, List.setIfInBounds_toArray, List.set_cons_zero, List.set_cons_succ]
        refine wpList_runTo rfl (some 19) rfl (.pointer (some ⟨q, 0, none⟩)) wr (by kernel_rfl) ?_
        simp only [Act.put, List.setIfInBounds_toArray, List.set_cons_zero, List.set_cons_succ]
        refine wpList_nil ?_
        refine hK _ _ ?_
        clear hK
        have hst : Calls Try.prog 15 #[.pointer (some ⟨q, 0, none⟩), .agg ov] wr fun e w' => e = .returned (.bool true) ∧ Hid (LJ 1 0 w q p (i + 1) w') := by
          rw [HV.out]
          exact HO.out.swap.step (by decide) (by decide) (by decide) hl2 HB.out.1 HB.out.2
        clear c1h hz
        go_upto_region 18 with fail
        rename_i K hK
        refine wp_region_lit ?_
        refine wpList_runTo rfl (some 95) rfl (.pointer (some ⟨q, 0, none⟩)) wr (by kernel_rfl) ?_
        simp only [Act.put, List.setIfInBounds_toArray, List.set_cons_zero, List.set_cons_succ]
        refine wpList_runTo rfl (some 96) rfl (L1) wr (by kernel_rfl) ?_
        simp only [Act.put, List.setIfInBounds_toArray, List.set_cons_zero, List.set_cons_succ]
        refine wpList_runTo rfl (some 97) rfl (.int .i64 (i : Int)) wr (by kernel_rfl) ?_
        simp only [Act.put, List.setIfInBounds_toArray, List.set_cons_zero, List.set_cons_succ]
        refine wpList_runTo rfl (some 98) rfl (.pointer (some ⟨ob, oo + i * 5, none⟩)) wr (by exact ixOp_run (i := i) (n := n1) (c := c1) (.tmp 96) (.tmp 97) rfl (by rw [← HL1'.out]; kernel_rfl) (by kernel_rfl) hl1 _) ?_
        simp only [Act.put, List.setIfInBounds_toArray, List.set_cons_zero, List.set_cons_succ]
        refine wpList_runTo rfl (some 99) rfl (.agg ov) wr (by exact ldA_run hrg Try.underlying56 rfl (by rw [hosz]; exact infoOp) (.tmp 98) rfl (by kernel_rfl)) ?_
        simp only [Act.put, List.setIfInBounds_toArray, List.set_cons_zero, List.set_cons_succ]
        refine wpList_callW rfl (some 100) rfl 15 #[.pointer (some ⟨q, 0, none⟩), .agg ov] (by kernel_rfl) hst ?_
        clear hst
        rintro e W8 ⟨rfl, hx⟩
        refine ⟨_, rfl, ?_⟩
        simp only [Act.put, List.setIfInBounds_toArray, List.set_cons_zero, List.set_cons_succ]
        refine wpList_runTo rfl (some 20) rfl (.bool true) W8 (by kernel_rfl) ?_
        simp only [Act.put, List.setIfInBounds_toArray, List.set_cons_zero, List.set_cons_succ]
        refine wpList_nil ?_
        refine hK _ _ ?_
        clear hK
        have hlk := hx.out.looks (by omega)
        clear hx hrg HB HV HO
        go_upto_region 19 with fail
        rename_i K hK
        refine wp_region_lit ?_
        refine wpList_runTo rfl (some 101) rfl (.pointer (some ⟨q, 0, none⟩)) W8 (by kernel_rfl) ?_
        simp only [Act.put, List.setIfInBounds_toArray, List.set_cons_zero, List.set_cons_succ]
        refine wpList_callW rfl (some 102) rfl 16 #[.pointer (some ⟨q, 0, none⟩)] (by kernel_rfl) hlk ?_
        clear hlk
        rintro e W9 ⟨rfl, hx⟩
        refine ⟨_, rfl, ?_⟩
        simp only [Act.put, List.setIfInBounds_toArray, List.set_cons_zero, List.set_cons_succ]
        refine wpList_runTo rfl (some 21) rfl (.bool true) W9 (by kernel_rfl) ?_
        simp only [Act.put, List.setIfInBounds_toArray, List.set_cons_zero, List.set_cons_succ]
        refine wpList_nil ?_
        refine hK _ _ ?_
        clear hK
        have HE : Hid (LJ 0 1 w p q (i + 1) W9) := hx.out.swap
        clear hx
        go_upto_region 20 with fail
        rename_i K hK
        refine wp_region_lit ?_
        refine wpList_runTo rfl (some 103) rfl (.bool true) W9 (by kernel_rfl) ?_
        simp only [Act.put, List.setIfInBounds_toArray, List.set_cons_zero, List.set_cons_succ]
        refine wpList_runTo rfl (some 104) rfl (.bool false) W9 (by kernel_rfl) ?_
        simp only [Act.put, List.setIfInBounds_toArray, List.set_cons_zero, List.set_cons_succ]
        refine wpList_runTo rfl (some 105) rfl (.bool false) W9 (by kernel_rfl) ?_
        simp only [Act.put, List.setIfInBounds_toArray, List.set_cons_zero, List.set_cons_succ]
        refine wpList_runToG (by kernel_rfl) (some 106) rfl (.bool true) W9 (by kernel_rfl) ?_
        simp only [Act.put, List.setIfInBounds_toArray, List.set_cons_zero, List.set_cons_succ]
        refine wpList_runToG (by kernel_rfl) (some 107) rfl (.bool false) W9 (by kernel_rfl) ?_
        simp only [Act.put, List.setIfInBounds_toArray, List.set_cons_zero, List.set_cons_succ]
        refine wpList_runTo rfl (some 108) rfl (.bool false) W9 (by kernel_rfl) ?_
        simp only [Act.put, List.setIfInBounds_toArray, List.set_cons_zero, List.set_cons_succ]
        refine wpList_nil ?_
        refine hK _ _ ?_
        clear hK
        go_wp2
        exact ⟨⟨i + 1, by go_num, by omega, HE.out⟩, by simp [RowKit.intOf]; omega⟩
      · have dz : decide (z = 1) = false := by simp [ez]
        clear ez
        go_upto_region 16 with fail
        rename_i K hK
        refine wp_region_lit ?_
        refine wpList_runTo rfl (some 87) rfl (L1) wr (by kernel_rfl) ?_
        simp only [Act.put, List.setIfInBounds_toArray, List.set_cons_zero, List.set_cons_succ]
        refine wpList_runTo rfl (some 88) rfl (.int .i64 (i : Int)) wr (by kernel_rfl) ?_
        simp only [Act.put, List.setIfInBounds_toArray, List.set_cons_zero, List.set_cons_succ]
        refine wpList_runTo rfl (some 89) rfl (.pointer (some ⟨ob, oo + i * 5, none⟩)) wr (by exact ixOp_run (i := i) (n := n1) (c := c1) (.tmp 87) (.tmp 88) rfl (by rw [← HL1'.out]; kernel_rfl) (by kernel_rfl) hl1 _) ?_
        simp only [Act.put, List.setIfInBounds_toArray, List.set_cons_zero, List.set_cons_succ]
        refine wpList_runTo rfl (some 90) rfl (.pointer (some ⟨ob, oo + i * 5 + 1, none⟩)) wr (by exact fld1_run (.tmp 89) rfl (by kernel_rfl) _) ?_
        simp only [Act.put, List.setIfInBounds_toArray, List.set_cons_zero, List.set_cons_succ]
        refine wpList_runTo rfl (some 91) rfl (.int .i64 oh) wr (by exact ldN_run (.inr rfl) (.tmp 90) rfl (by kernel_rfl) c1h) ?_
        simp only [Act.put, List.setIfInBounds_toArray, List.set_cons_zero, List.set_cons_succ]
        refine wpList_runTo rfl (some 92) rfl (.int .i64 z) wr (by exact hz _ _ (.tmp 91) _ rfl (by kernel_rfl)) ?_
        simp only [Act.put, List.setIfInBounds_toArray, List.set_cons_zero, List.set_cons_succ]
        refine wpList_runTo rfl (some 93) rfl (.bool false) wr (by exact eq1_run dz (.tmp 92) rfl (by kernel_rfl) _) ?_
        simp only [Act.put, List.setIfInBounds_toArray, List.set_cons_zero, List.set_cons_succ]
        refine wpList_nil ?_
        refine hK _ _ ?_
        clear hK
        clear dz
        have hst : Calls Try.prog 15 #[.pointer (some ⟨p, 0, none⟩), .agg ov] wr fun e w' => e = .returned (.bool true) ∧ Hid (LJ 0 1 w p q (i + 1) w') := by
          rw [HV.out]
          exact HO.out.step (by decide) (by decide) (by decide) hl2 HB.out.1 HB.out.2
        clear c1h hz
        go_upto_region 18 with fail
        rename_i K hK
        refine wp_region_lit ?_
        refine wpList_runTo rfl (some 95) rfl (.pointer (some ⟨p, 0, none⟩)) wr (by kernel_rfl) ?_
        simp only [Act.put, List.setIfInBounds_toArray, List.set_cons_zero, List.set_cons_succ]
        refine wpList_runTo rfl (some 96) rfl (L1) wr (by kernel_rfl) ?_
        simp only [Act.put, List.setIfInBounds_toArray, List.set_cons_zero, List.set_cons_succ]
        refine wpList_runTo rfl (some 97) rfl (.int .i64 (i : Int)) wr (by kernel_rfl) ?_
        simp only [Act.put, List.setIfInBounds_toArray, List.set_cons_zero, List.set_cons_succ]
        refine wpList_runTo rfl (some 98) rfl (.pointer (some ⟨ob, oo + i * 5, none⟩)) wr (by exact ixOp_run (i := i) (n := n1) (c := c1) (.tmp 96) (.tmp 97) rfl (by rw [← HL1'.out]; kernel_rfl) (by kernel_rfl) hl1 _) ?_
        simp only [Act.put, List.setIfInBounds_toArray, List.set_cons_zero, List.set_cons_succ]
        refine wpList_runTo rfl (some 99) rfl (.agg ov) wr (by exact ldA_run hrg Try.underlying56 rfl (by rw [hosz]; exact infoOp) (.tmp 98) rfl (by kernel_rfl)) ?_
        simp only [Act.put, List.setIfInBounds_toArray, List.set_cons_zero, List.set_cons_succ]
        refine wpList_callW rfl (some 100) rfl 15 #[.pointer (some ⟨p, 0, none⟩), .agg ov] (by kernel_rfl) hst ?_
        clear hst
        rintro e W8 ⟨rfl, hx⟩
        refine ⟨_, rfl, ?_⟩
        simp only [Act.put, List.setIfInBounds_toArray, List.set_cons_zero, List.set_cons_succ]
        refine wpList_runTo rfl (some 20) rfl (.bool true) W8 (by kernel_rfl) ?_
        simp only [Act.put, List.setIfInBounds_toArray, List.set_cons_zero, List.set_cons_succ]
        refine wpList_nil ?_
        refine hK _ _ ?_
        clear hK
        have hlk := hx.out.looks (by omega)
        clear hx hrg HB HV HO
        go_upto_region 19 with fail
        rename_i K hK
        refine wp_region_lit ?_
        refine wpList_runTo rfl (some 101) rfl (.pointer (some ⟨p, 0, none⟩)) W8 (by kernel_rfl) ?_
        simp only [Act.put, List.setIfInBounds_toArray, List.set_cons_zero, List.set_cons_succ]
        refine wpList_callW rfl (some 102) rfl 16 #[.pointer (some ⟨p, 0, none⟩)] (by kernel_rfl) hlk ?_
        clear hlk
        rintro e W9 ⟨rfl, hx⟩
        refine ⟨_, rfl, ?_⟩
        simp only [Act.put, List.setIfInBounds_toArray, List.set_cons_zero, List.set_cons_succ]
        refine wpList_runTo rfl (some 21) rfl (.bool true) W9 (by kernel_rfl) ?_
        simp only [Act.put, List.setIfInBounds_toArray, List.set_cons_zero, List.set_cons_succ]
        refine wpList_nil ?_
        refine hK _ _ ?_
        clear hK
        have HE : Hid (LJ 0 1 w p q (i + 1) W9) := hx.out
        clear hx
        go_upto_region 20 with fail
        rename_i K hK
        refine wp_region_lit ?_
        refine wpList_runTo rfl (some 103) rfl (.bool true) W9 (by kernel_rfl) ?_
        simp only [Act.put, List.setIfInBounds_toArray, List.set_cons_zero, List.set_cons_succ]
        refine wpList_runTo rfl (some 104) rfl (.bool false) W9 (by kernel_rfl) ?_
        simp only [Act.put, List.setIfInBounds_toArray, List.set_cons_zero, List.set_cons_succ]
        refine wpList_runTo rfl (some 105) rfl (.bool false) W9 (by kernel_rfl) ?_
        simp only [Act.put, List.setIfInBounds_toArray, List.set_cons_zero, List.set_cons_succ]
        refine wpList_runToG (by kernel_rfl) (some 106) rfl (.bool true) W9 (by kernel_rfl) ?_
        simp only [Act.put, List.setIfInBounds_toArray, List.set_cons_zero, List.set_cons_succ]
        refine wpList_runToG (by kernel_rfl) (some 107) rfl (.bool false) W9 (by kernel_rfl) ?_
        simp only [Act.put, List.setIfInBounds_toArray, List.set_cons_zero, List.set_cons_succ]
        refine wpList_runTo rfl (some 108) rfl (.bool false) W9 (by kernel_rfl) ?_
        simp only [Act.put, List.setIfInBounds_toArray, List.set_cons_zero, List.set_cons_succ]
        refine wpList_nil ?_
        refine hK _ _ ?_
        clear hK
        go_wp2
        exact ⟨⟨i + 1, by go_num, by omega, HE.out⟩, by simp [RowKit.intOf]; omega⟩
    · go_upto_region 13 with fail
      go_cut [83] from 76 to 83 (fun x83 wx => x83 = .bool false ∧ wx = wr)
      case first => as_aux_lemma =>
        obtain ⟨bf, hbf⟩ : ∃ bf : Bool, bf = false := ⟨_, rfl⟩
        obtain ⟨un, hun⟩ : ∃ un : Value, un = undef := ⟨_, rfl⟩
        by_cases q1 : i < n1
        · have d1 : decide (i < n1) = true := by simp [q1]
          have d2 : decide (i < 1000) = false := by
            have : ¬ i < 1000 := fun q => hlt ⟨q1, q⟩
            simp; omega
          refine wp_region_lit ?_
          refine wpList_runTo rfl (some 76) rfl (.int .i64 (i : Int)) wr (by kernel_rfl) ?_
          simp only [Act.put, List.setIfInBounds_toArray, List.set_cons_zero, List.set_cons_succ]
          refine wpList_runTo rfl (some 77) rfl (L1) wr (by kernel_rfl) ?_
          simp only [Act.put, List.setIfInBounds_toArray, List.set_cons_zero, List.set_cons_succ]
          refine wpList_runTo rfl (some 78) rfl (.int .i64 (n1 : Int)) wr (by exact lenO_run HL1.out (.tmp 77) rfl (by kernel_rfl) _) ?_
          simp only [Act.put, List.setIfInBounds_toArray, List.set_cons_zero, List.set_cons_succ]
          refine wpList_runTo rfl (some 79) rfl (.bool true) wr (by exact ltN_run (n := i) (k := n1) (.tmp 76) (.tmp 78) rfl (by kernel_rfl) (by kernel_rfl) d1 _) ?_
          simp only [Act.put, List.setIfInBounds_toArray, List.set_cons_zero, List.set_cons_succ]
          refine wpList_runTo rfl (some 80) rfl (.bool true) wr (by kernel_rfl) ?_
          simp only [Act.put, List.setIfInBounds_toArray, List.set_cons_zero, List.set_cons_succ]
          refine wpList_runToG (by kernel_rfl) (some 81) rfl (.int .i64 (i : Int)) wr (by kernel_rfl) ?_
          simp only [Act.put, List.setIfInBounds_toArray, List.set_cons_zero, List.set_cons_succ]
          refine wpList_runToG (by kernel_rfl) (some 82) rfl (.bool false) wr (by exact ltN_run (n := i) (k := 1000) (.tmp 81) (.const (.int .i64 1000)) rfl (by kernel_rfl) rfl d2 _) ?_
          simp only [Act.put, List.setIfInBounds_toArray, List.set_cons_zero, List.set_cons_succ]
          refine wpList_runTo rfl (some 83) rfl (.bool false) wr (by kernel_rfl) ?_
          simp only [Act.put, List.setIfInBounds_toArray, List.set_cons_zero, List.set_cons_succ]
          refine wpList_nil ?_
          clear d1 d2
          first
            | (go_wp2; go_meet)
            | go_meet
          exact ⟨rfl, rfl⟩
        · have d1 : decide (i < n1) = bf := by rw [hbf]; simp; omega
          refine wp_region_lit ?_
          refine wpList_runTo rfl (some 76) rfl (.int .i64 (i : Int)) wr (by kernel_rfl) ?_
          simp only [Act.put, List.setIfInBounds_toArray, List.set_cons_zero, List.set_cons_succ]
          refine wpList_runTo rfl (some 77) rfl (L1) wr (by kernel_rfl) ?_
          simp only [Act.put, List.setIfInBounds_toArray, List.set_cons_zero, List.set_cons_succ]
          refine wpList_runTo rfl (some 78) rfl (.int .i64 (n1 : Int)) wr (by exact lenO_run HL1.out (.tmp 77) rfl (by kernel_rfl) _) ?_
          simp only [Act.put, List.setIfInBounds_toArray, List.set_cons_zero, List.set_cons_succ]
          refine wpList_runTo rfl (some 79) rfl (.bool bf) wr (by exact ltN_run (n := i) (k := n1) (.tmp 76) (.tmp 78) rfl (by kernel_rfl) (by kernel_rfl) d1 _) ?_
          simp only [Act.put, List.setIfInBounds_toArray, List.set_cons_zero, List.set_cons_succ]
          refine wpList_runTo rfl (some 80) rfl (.bool bf) wr (by kernel_rfl) ?_
          simp only [Act.put, List.setIfInBounds_toArray, List.set_cons_zero, List.set_cons_succ]
          refine wpList_skipU hun (by subst hbf; kernel_rfl) (some 81) rfl ?_
          simp only [Act.put, List.setIfInBounds_toArray, List.set_cons_zero, List.set_cons_succ]
          refine wpList_skipU hun (by subst hbf; kernel_rfl) (some 82) rfl ?_
          simp only [Act.put, List.setIfInBounds_toArray, List.set_cons_zero, List.set_cons_succ]
          refine wpList_runTo rfl (some 83) rfl (.bool false) wr (by subst hbf; kernel_rfl) ?_
          simp only [Act.put, List.setIfInBounds_toArray, List.set_cons_zero, List.set_cons_succ]
          refine wpList_nil ?_
          clear d1
          first
            | (go_wp2; go_meet)
            | go_meet
          exact ⟨rfl, rfl⟩
      case rest => as_aux_lemma =>
        obtain ⟨rfl, hw⟩ := hcut
        subst hw
        have HZ : Hid (Below w.heap.size w wc) := HO.out.bel
        clear hlt HO HS
        go_wp2
        go_ret
        exact ⟨rfl, HZ.out⟩
end Go.Proofs.Ytdncemecnbglaaa
