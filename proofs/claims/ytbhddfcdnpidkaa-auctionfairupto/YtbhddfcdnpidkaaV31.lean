/-
  auction: the law of AuctionMost.
-/
import Derived.Test.YtbhddfcdnpidkaaV30
import Derived.Test.YtbhddfcdnpidkaaV29
import Derived.Test.YtbhddfcdnpidkaaV7
import Derived.Test.YtbhddfcdnpidkaaV3
import Derived.Test.YtbhddfcdnpidkaaV0
namespace Go.Proofs.Ytbhddfcdnpidkaa
set_option linter.unusedVariables false
set_option linter.unusedSimpArgs false
open Go.RowKit Go.Great
attribute [local irreducible] wpList

theorem lenR_run {op : Oper} {a : Act} {v : Value} {ao : Option Addr} {n c : Nat} (hv : v = .slice ao n c) (x : Operand) (ho : op.op = .call { callee := .builtin .len, args := #[x], argTypes := #[22] }) (hx : a.eval x = v) (w : World) : (execOp a.eval op).run Try.prog w = .ok (.value (.int .i64 (n : Int))) w := by
  subst hv
  unfold execOp
  simp only [ho, resolve, invoke, builtin, Sem.run_bind, Sem.run_pure, Result.andThen_ok, List.map_toArray, List.map_cons, List.map_nil, hx]
  go_simp
theorem gtV_run {op : Oper} {a : Act} {p q : Int} {r : Bool} (x y : Operand) (ho : op.op = .binOp .gtr 2 x y 2) (hx : a.eval x = .int .i64 p) (hy : a.eval y = .int .i64 q) (hr : decide (q < p) = r) (w : World) : (execOp a.eval op).run Try.prog w = .ok (.value (.bool r)) w := by
  subst hr
  unfold execOp
  simp only [ho, hx, hy]
  go_simp
theorem ltV_run {op : Oper} {a : Act} {p q : Int} {r : Bool} (x y : Operand) (ho : op.op = .binOp .lss 2 x y 2) (hx : a.eval x = .int .i64 p) (hy : a.eval y = .int .i64 q) (hr : decide (p < q) = r) (w : World) : (execOp a.eval op).run Try.prog w = .ok (.value (.bool r)) w := by
  subst hr
  unfold execOp
  simp only [ho, hx, hy]
  go_simp
theorem eqV_run {op : Oper} {a : Act} {p q : Int} {r : Bool} {T : TypeId} (hT : T = 2 ∨ T = 3) (x y : Operand) (ho : op.op = .binOp .eql T x y T) (hx : a.eval x = .int .i64 p) (hy : a.eval y = .int .i64 q) (hr : decide (p = q) = r) (w : World) : (execOp a.eval op).run Try.prog w = .ok (.value (.bool r)) w := by
  subst hr
  unfold execOp
  rcases hT with rfl | rfl <;> simp only [ho, hx, hy] <;> go_simp <;> try (by_cases h : p = q <;> simp [h])
theorem neV_run {op : Oper} {a : Act} {p q : Int} {r : Bool} {T : TypeId} (hT : T = 2 ∨ T = 3) (x y : Operand) (ho : op.op = .binOp .neq T x y T) (hx : a.eval x = .int .i64 p) (hy : a.eval y = .int .i64 q) (hr : decide (p ≠ q) = r) (w : World) : (execOp a.eval op).run Try.prog w = .ok (.value (.bool r)) w := by
  subst hr
  unfold execOp
  rcases hT with rfl | rfl <;> simp only [ho, hx, hy] <;> go_simp <;> try (by_cases h : p = q <;> simp [h])
theorem neB_run {op : Oper} {a : Act} {p q : Bool} {r : Bool} (x y : Operand) (ho : op.op = .binOp .neq 4 x y 4) (hx : a.eval x = .bool p) (hy : a.eval y = .bool q) (hr : (p != q) = r) (w : World) : (execOp a.eval op).run Try.prog w = .ok (.value (.bool r)) w := by
  subst hr
  unfold execOp
  simp only [ho, hx, hy]
  cases p <;> cases q <;> kernel_rfl
theorem eqB_run {op : Oper} {a : Act} {p q : Bool} {r : Bool} (x y : Operand) (ho : op.op = .binOp .eql 4 x y 4) (hx : a.eval x = .bool p) (hy : a.eval y = .bool q) (hr : (p == q) = r) (w : World) : (execOp a.eval op).run Try.prog w = .ok (.value (.bool r)) w := by
  subst hr
  unfold execOp
  simp only [ho, hx, hy]
  cases p <;> cases q <;> kernel_rfl
theorem mulW_run {op : Oper} {a : Act} {p q : Int} (x y : Operand) (ho : op.op = .binOp .mul 2 x y 2) (hx : a.eval x = .int .i64 p) (hy : a.eval y = .int .i64 q) (h : -9223372036854775808 ≤ p * q ∧ p * q ≤ 9223372036854775807) (w : World) : (execOp a.eval op).run Try.prog w = .ok (.value (.int .i64 (p * q))) w := by
  unfold execOp
  simp only [ho, hx, hy]
  go_simp
  try (rw [IntKind.wrap_i64]; omega)
/-- What stands all along. -/
structure MX (w W : World) (b s : List Od) (av az : Option Addr) (cv cs g : Nat) (r : Rs) : Prop where
  bel : Below w.heap.size w W
  rb : RowAt W 42 15 (.slice av b.length cv) b.length (flatL (fun o => o.cs.toList) b)
  rs : RowAt W 42 15 (.slice az s.length cs) s.length (flatL (fun o => o.cs.toList) s)
  blk : Blk W g 28 r.cs
theorem MX.below {w W W' : World} {b s : List Od} {av az : Option Addr} {cv cs g : Nat} {r : Rs} (h : MX w W b s av az cv cs g r) (hb : Below W.heap.size W W') : MX w W' b s av az cv cs g r := ⟨below_step h.bel hb, h.rb.fr (Fr.of_below hb (fun _ => False)) fun _ _ => id, h.rs.fr (Fr.of_below hb (fun _ => False)) fun _ _ => id, h.blk.below hb h.blk.lt⟩
theorem orders_at {w : World} {l : List Rw} {a : Option Addr} {c n : Nat} (fr : Int) (hn : n = l.length) (hr : PrAt w a l) (hok : ∀ r ∈ l, r.ok) (hl : n ≤ 2000000) (hf : 0 ≤ fr ∧ fr ≤ 2000001) :
    Calls Try.prog 7 #[.slice a n c, .int .i64 fr] w fun e w' => ∃ v, e = .returned v ∧ Hid (OO w w' v (odsL fr l)) := by
  subst hn
  exact orders_any fr hr hok (by omega) (by omega)
set_option maxRecDepth 100000 in
set_option maxHeartbeats 8000000 in
theorem AuctionMost_law {w : World} {b s : List Rw} {a a' : Option Addr} {c c' : Nat} (hb : PrAt w a b) (hbo : ∀ r ∈ b, r.ok) (hbl : b.length ≤ 2000000) (hs : PrAt w a' s) (hso : ∀ r ∈ s, r.ok) (hsl : s.length ≤ 2000000) (z : Int) (hz : -9223372036854775808 ≤ z ∧ z ≤ 9223372036854775807) :
    Calls Try.prog 3 #[.slice a b.length c, .slice a' s.length c', .int .i64 z] w fun e w' => e = .returned (.bool true) ∧ Hid (Below w.heap.size w w') := by
  obtain ⟨nb, hnb⟩ : ∃ nb, nb = b.length := ⟨_, rfl⟩
  obtain ⟨ns, hns⟩ : ∃ ns, ns = s.length := ⟨_, rfl⟩
  rw [← hnb] at hbl ⊢
  rw [← hns] at hsl ⊢
  have HN : Hid (nb = b.length ∧ ns = s.length) := ⟨hnb, hns⟩
  have HBO : Hid ((∀ r ∈ b, r.ok) ∧ ∀ r ∈ s, r.ok) := ⟨hbo, hso⟩
  have hsh := shown_any w
  have HZ := hz
  have HR : Hid (PrAt w a b ∧ PrAt w a' s) := ⟨hb, hs⟩
  clear hb hbo hs hso hnb hns hz
  go_enter Try.func3, Try.ntmps3
  go_upto_region 1 with fail
  rename_i K hK
  refine wp_region_lit ?_
  refine wpList_callW rfl (some 17) rfl 6 #[] (by kernel_rfl) hsh ?_
  clear hsh
  rintro e w1 ⟨rfl, H1⟩
  refine ⟨_, rfl, ?_⟩
  simp only [Act.put, List.setIfInBounds_toArray, List.set_cons_zero, List.set_cons_succ]
  refine wpList_runTo rfl (some 7) rfl (.bool true) w1 (by kernel_rfl) ?_
  simp only [Act.put, List.setIfInBounds_toArray, List.set_cons_zero, List.set_cons_succ]
  refine wpList_nil ?_
  refine hK _ _ ?_
  clear hK
  have ho1 := orders_at (w := w1) (a := a) (c := c) (n := nb) 1 HN.out.1 (HR.out.1.fr (Fr.of_below H1.out (fun _ => False)) fun _ _ => id) HBO.out.1 hbl (by omega)
  go_upto_region 2 with fail
  rename_i K hK
  refine wp_region_lit ?_
  refine wpList_runTo rfl (some 18) rfl (.slice a nb c) w1 (by kernel_rfl) ?_
  simp only [Act.put, List.setIfInBounds_toArray, List.set_cons_zero, List.set_cons_succ]
  refine wpList_callW rfl (some 19) rfl 7 #[.slice a nb c, .int .i64 1] (by kernel_rfl) ho1 ?_
  clear ho1
  rintro e w2 ⟨v8, rfl, H2⟩
  refine ⟨_, rfl, ?_⟩
  simp only [Act.put, List.setIfInBounds_toArray, List.set_cons_zero, List.set_cons_succ]
  refine wpList_runTo rfl (some 8) rfl (v8) w2 (by kernel_rfl) ?_
  simp only [Act.put, List.setIfInBounds_toArray, List.set_cons_zero, List.set_cons_succ]
  refine wpList_nil ?_
  refine hK _ _ ?_
  clear hK
  have hb2 : Below w.heap.size w w2 := below_step H1.out H2.out.bel
  have ho2 := orders_at (w := w2) (a := a') (c := c') (n := ns) (1 + (nb : Int)) HN.out.2 (HR.out.2.fr (Fr.of_below hb2 (fun _ => False)) fun _ _ => id) HBO.out.2 hsl (by omega)
  have HB2 : Hid (Below w.heap.size w w2) := hb2
  clear hb2 H1
  go_upto_region 3 with fail
  rename_i K hK
  refine wp_region_lit ?_
  refine wpList_runTo rfl (some 20) rfl (.slice a' ns c') w2 (by kernel_rfl) ?_
  simp only [Act.put, List.setIfInBounds_toArray, List.set_cons_zero, List.set_cons_succ]
  refine wpList_runTo rfl (some 21) rfl (.slice a nb c) w2 (by kernel_rfl) ?_
  simp only [Act.put, List.setIfInBounds_toArray, List.set_cons_zero, List.set_cons_succ]
  refine wpList_runTo rfl (some 22) rfl (.int .i64 (nb : Int)) w2 (by exact lenR_run (v := .slice a nb c) (ao := a) (c := c) rfl (.tmp 21) rfl (by kernel_rfl) _) ?_
  simp only [Act.put, List.setIfInBounds_toArray, List.set_cons_zero, List.set_cons_succ]
  refine wpList_runTo rfl (some 23) rfl (.int .i64 (1 + (nb : Int))) w2 (by exact addN_run (.const (.int .i64 1)) (.tmp 22) rfl (by kernel_rfl) (by kernel_rfl) (by omega) _) ?_
  simp only [Act.put, List.setIfInBounds_toArray, List.set_cons_zero, List.set_cons_succ]
  refine wpList_callW rfl (some 24) rfl 7 #[.slice a' ns c', .int .i64 (1 + (nb : Int))] (by kernel_rfl) ho2 ?_
  clear ho2
  rintro e w3 ⟨v9, rfl, H3⟩
  refine ⟨_, rfl, ?_⟩
  simp only [Act.put, List.setIfInBounds_toArray, List.set_cons_zero, List.set_cons_succ]
  refine wpList_runTo rfl (some 9) rfl (v9) w3 (by kernel_rfl) ?_
  simp only [Act.put, List.setIfInBounds_toArray, List.set_cons_zero, List.set_cons_succ]
  refine wpList_nil ?_
  refine hK _ _ ?_
  clear hK
  have H2' := H2.out.below H3.out.bel
  have HD : Hid ((∀ o ∈ odsL 1 b, o.ok) ∧ (∀ o ∈ odsL (1 + (nb : Int)) s, o.ok) ∧ (∀ o ∈ odsL 1 b, Gd o) ∧ (∀ o ∈ odsL (1 + (nb : Int)) s, Gd o) ∧ (odsL 1 b).length ≤ 2000000 ∧ (odsL (1 + (nb : Int)) s).length ≤ 2000000) := ⟨odsL_ok _ _, odsL_ok _ _, odsL_gd _ _, odsL_gd _ _, by rw [odsL_len, ← HN.out.1]; exact hbl, by rw [odsL_len, ← HN.out.2]; exact hsl⟩
  have H3' := H3.out
  clear H2 H3
  generalize odsL 1 b = D at *
  generalize odsL (1 + (nb : Int)) s = E at *
  obtain ⟨av, cv, ev, _⟩ := H2'.row.form
  obtain ⟨az, cs, es, _⟩ := H3'.row.form
  subst ev es
  have H4 : Hid (Below w.heap.size w w3 ∧ RowAt w3 42 15 (.slice av D.length cv) D.length (flatL (fun o => o.cs.toList) D) ∧ RowAt w3 42 15 (.slice az E.length cs) E.length (flatL (fun o => o.cs.toList) E)) := ⟨below_step HB2.out H3'.bel, H2'.row, H3'.row⟩
  clear H2' H3' HB2 HR HN HBO
  obtain ⟨rf, hrf⟩ : ∃ rf, rf = pk z 40 := ⟨_, rfl⟩
  have hpk := pick_any z 40 HZ (by omega) w3
  rw [← hrf] at hpk
  have hrb : 0 ≤ rf ∧ rf < 40 := by rw [hrf]; exact pk_bd z (by omega)
  clear hrf
  go_upto_region 4 with fail
  rename_i K hK
  refine wp_region_lit ?_
  refine wpList_runTo rfl (some 25) rfl (.int .i64 z) w3 (by kernel_rfl) ?_
  simp only [Act.put, List.setIfInBounds_toArray, List.set_cons_zero, List.set_cons_succ]
  refine wpList_callW rfl (some 26) rfl 8 #[.int .i64 z, .int .i64 40] (by kernel_rfl) hpk ?_
  clear hpk
  rintro e w4 ⟨rfl, ew⟩
  replace ew := ew.symm
  subst ew
  refine ⟨_, rfl, ?_⟩
  simp only [Act.put, List.setIfInBounds_toArray, List.set_cons_zero, List.set_cons_succ]
  refine wpList_runTo rfl (some 10) rfl (.int .i64 rf) w3 (by kernel_rfl) ?_
  simp only [Act.put, List.setIfInBounds_toArray, List.set_cons_zero, List.set_cons_succ]
  refine wpList_nil ?_
  refine hK _ _ ?_
  clear hK
  have hcp := Price_any H4.out.2.1 HD.out.1 (by have := HD.out.2.2.2.2.1; omega) H4.out.2.2 HD.out.2.1 (by have := HD.out.2.2.2.2.2; omega) rf
  go_upto_region 5 with fail
  rename_i K hK
  refine wp_region_lit ?_
  refine wpList_runTo rfl (some 27) rfl (.slice av D.length cv) w3 (by kernel_rfl) ?_
  simp only [Act.put, List.setIfInBounds_toArray, List.set_cons_zero, List.set_cons_succ]
  refine wpList_runTo rfl (some 28) rfl (.slice az E.length cs) w3 (by kernel_rfl) ?_
  simp only [Act.put, List.setIfInBounds_toArray, List.set_cons_zero, List.set_cons_succ]
  refine wpList_runTo rfl (some 29) rfl (.int .i64 rf) w3 (by kernel_rfl) ?_
  simp only [Act.put, List.setIfInBounds_toArray, List.set_cons_zero, List.set_cons_succ]
  refine wpList_callW rfl (some 30) rfl 9 #[.slice av D.length cv, .slice az E.length cs, .int .i64 rf] (by kernel_rfl) hcp ?_
  clear hcp
  rintro e w5 ⟨r, rfl, H5⟩
  refine ⟨_, rfl, ?_⟩
  simp only [Act.put, List.setIfInBounds_toArray, List.set_cons_zero, List.set_cons_succ]
  have HA : Hid (Ans D E rf r) := by
    obtain ⟨B, S, h1, h2⟩ := H5.out.2
    show Ans D E rf r
    rw [h2]
    exact ans_of HD.out.2.2.1 HD.out.2.2.2.1 h1 hrb
  refine wpList_runTo rfl (some 11) rfl (.pointer (some ⟨w5.heap.size, 0, none⟩)) (w5.alloc (.cells #[.int .i64 0, .int .i64 0, .int .i64 0, .int .i64 0] 28)) (by kernel_rfl) ?_
  simp only [Act.put, List.setIfInBounds_toArray, List.set_cons_zero, List.set_cons_succ]
  refine wpList_plain rfl fun K1 hK1 => ?_
  refine wp_store_row 28 (.tmp 11) (.tmp 30) rfl w5.heap.size r.cs (by kernel_rfl) (by kernel_rfl) 28 #[.int .i64 0, .int .i64 0, .int .i64 0, .int .i64 0] (heap_alloc_new w5 _) infoRs rfl (by simp [Rs.cs, Value.oneCell']) ?_
  rw [World.setRow_alloc_new]
  refine hK1 _ _ ?_
  clear hK1
  refine wpList_nil ?_
  refine hK _ _ ?_
  clear hK
  have HM : Hid (MX w (w5.alloc (.cells r.cs 28)) D E av az cv cs w5.heap.size r) := by
    have hx := below_step H5.out.1 ((Below.refl _ w5).alloc (Nat.le_refl _) (.cells r.cs 28))
    exact ⟨below_step H4.out.1 hx, H4.out.2.1.fr (Fr.of_below hx (fun _ => False)) fun _ _ => id, H4.out.2.2.fr (Fr.of_below hx (fun _ => False)) fun _ _ => id, Blk.new _ _ _⟩
  clear H4 H5
  generalize w5.alloc (.cells r.cs 28) = w6 at *
  generalize w5.heap.size = g at *
  --LOOP
  go_upto_region 9 with fail
  go_loopw [12] (fun x12 wr => ∃ p : Nat, 1 ≤ p ∧ p ≤ 45 ∧ x12 = .int .i64 (p : Int) ∧ Hid (MX w wr D E av az cv cs g r)) (fun x12 _ => 45 - (RowKit.intOf x12).toNat)
  case atStart => exact ⟨1, by omega, by omega, rfl, HM.out⟩
  case round =>
    obtain ⟨p, hp1, h45, rfl, HW⟩ := hrel
    generalize wr = W at *
    clear HM
    by_cases hlt : p < 45
    · have hlt' : (p : Int) < 45 := by omega
      have hcv := Curve_any HW.out.rb HD.out.1 (by have := HD.out.2.2.2.2.1; omega) HW.out.rs HD.out.2.1 (by have := HD.out.2.2.2.2.2; omega) (p : Int)
      obtain ⟨X, hX⟩ : ∃ X, X = bo (wns D) p := ⟨_, rfl⟩
      obtain ⟨Y, hY⟩ : ∃ Y, Y = so (wns E) p := ⟨_, rfl⟩
      have hXb : 0 ≤ X ∧ X ≤ 2000000000000 := by
        have h := sumW_le (f := atB p) (l := wns D) wns_q
        have hl : (wns D).length ≤ D.length := List.length_filterMap_le _ _
        have := HD.out.2.2.2.2.1
        rw [hX]; unfold bo; omega
      have hYb : 0 ≤ Y ∧ Y ≤ 2000000000000 := by
        have h := sumW_le (f := atS p) (l := wns E) wns_q
        have hl : (wns E).length ≤ E.length := List.length_filterMap_le _ _
        have := HD.out.2.2.2.2.2
        rw [hY]; unfold so; omega
      rw [← hX, ← hY] at hcv
      have HXY : Hid (X = bo (wns D) p ∧ Y = so (wns E) p) := ⟨hX, hY⟩
      clear hX hY
      go_upto_region 11 with fail
      rename_i K hK
      refine wp_region_lit ?_
      refine wpList_runTo rfl (some 38) rfl (.slice av D.length cv) W (by kernel_rfl) ?_
      simp only [Act.put, List.setIfInBounds_toArray, List.set_cons_zero, List.set_cons_succ]
      refine wpList_runTo rfl (some 39) rfl (.slice az E.length cs) W (by kernel_rfl) ?_
      simp only [Act.put, List.setIfInBounds_toArray, List.set_cons_zero, List.set_cons_succ]
      refine wpList_runTo rfl (some 40) rfl (.int .i64 (p : Int)) W (by kernel_rfl) ?_
      simp only [Act.put, List.setIfInBounds_toArray, List.set_cons_zero, List.set_cons_succ]
      refine wpList_callW rfl (some 41) rfl 10 #[.slice av D.length cv, .slice az E.length cs, .int .i64 (p : Int)] (by kernel_rfl) hcv ?_
      clear hcv
      rintro e W2 ⟨rfl, hb2⟩
      refine ⟨_, rfl, ?_⟩
      simp only [Act.put, List.setIfInBounds_toArray, List.set_cons_zero, List.set_cons_succ]
      refine wpList_runTo rfl (some 37) rfl (.tuple #[.int .i64 X, .int .i64 Y]) W2 (by kernel_rfl) ?_
      simp only [Act.put, List.setIfInBounds_toArray, List.set_cons_zero, List.set_cons_succ]
      refine wpList_runTo rfl (some 42) rfl (.int .i64 X) W2 (by kernel_rfl) ?_
      simp only [Act.put, List.setIfInBounds_toArray, List.set_cons_zero, List.set_cons_succ]
      refine wpList_runTo rfl (some 43) rfl (.int .i64 Y) W2 (by kernel_rfl) ?_
      simp only [Act.put, List.setIfInBounds_toArray, List.set_cons_zero, List.set_cons_succ]
      refine wpList_runTo rfl (some 13) rfl (.int .i64 X) W2 (by kernel_rfl) ?_
      simp only [Act.put, List.setIfInBounds_toArray, List.set_cons_zero, List.set_cons_succ]
      refine wpList_runTo rfl (some 14) rfl (.int .i64 Y) W2 (by kernel_rfl) ?_
      simp only [Act.put, List.setIfInBounds_toArray, List.set_cons_zero, List.set_cons_succ]
      refine wpList_nil ?_
      refine hK _ _ ?_
      clear hK
      have HW2 : Hid (MX w W2 D E av az cv cs g r) := HW.out.below hb2.out
      clear HW hb2
      obtain ⟨T, hT⟩ : ∃ T, T = (if X < Y then X else Y) := ⟨_, rfl⟩
      have hls := lesser_any W2 X Y
      rw [← hT] at hls
      have HT : Hid (T = tr (wns D) (wns E) p) := by
        show T = tr (wns D) (wns E) p
        unfold tr
        rw [hT, ← HXY.out.1, ← HXY.out.2]
        split <;> split <;> omega
      have hTb : 0 ≤ T ∧ T ≤ 2000000000000 := by rw [hT]; split <;> omega
      clear hT
      go_upto_region 12 with fail
      rename_i K hK
      refine wp_region_lit ?_
      refine wpList_runTo rfl (some 44) rfl (.int .i64 X) W2 (by kernel_rfl) ?_
      simp only [Act.put, List.setIfInBounds_toArray, List.set_cons_zero, List.set_cons_succ]
      refine wpList_runTo rfl (some 45) rfl (.int .i64 Y) W2 (by kernel_rfl) ?_
      simp only [Act.put, List.setIfInBounds_toArray, List.set_cons_zero, List.set_cons_succ]
      refine wpList_callW rfl (some 46) rfl 11 #[.int .i64 X, .int .i64 Y] (by kernel_rfl) hls ?_
      clear hls
      rintro e w' ⟨rfl, ew⟩
      replace ew := ew.symm
      subst ew
      refine ⟨_, rfl, ?_⟩
      simp only [Act.put, List.setIfInBounds_toArray, List.set_cons_zero, List.set_cons_succ]
      refine wpList_runTo rfl (some 15) rfl (.int .i64 T) W2 (by kernel_rfl) ?_
      simp only [Act.put, List.setIfInBounds_toArray, List.set_cons_zero, List.set_cons_succ]
      refine wpList_nil ?_
      refine hK _ _ ?_
      clear hK
      go_upto_region 13 with fail
      go_cut [64] (fun x64 wx => x64 = .bool false ∧ wx = W2)
      case first => as_aux_lemma =>
        by_cases hq : r.qty < T
        · obtain ⟨e1, e2, e3⟩ := HA.out.no p (by rw [← HT.out]; exact hq)
          rename_i K hK
          refine wp_region_lit ?_
          refine wpList_runTo rfl (some 47) rfl (.int .i64 T) W2 (by kernel_rfl) ?_
          simp only [Act.put, List.setIfInBounds_toArray, List.set_cons_zero, List.set_cons_succ]
          refine wpList_runTo rfl (some 48) rfl (.pointer (some ⟨g, 1, none⟩)) W2 (by kernel_rfl) ?_
          simp only [Act.put, List.setIfInBounds_toArray, List.set_cons_zero, List.set_cons_succ]
          refine wpList_runTo rfl (some 49) rfl (.int .i64 r.qty) W2 (by exact ldN_run (.inl rfl) (.tmp 48) rfl (by kernel_rfl) (HW2.out.blk.cell 1)) ?_
          simp only [Act.put, List.setIfInBounds_toArray, List.set_cons_zero, List.set_cons_succ]
          refine wpList_runTo rfl (some 50) rfl (.bool true) W2 (by exact gtV_run (.tmp 47) (.tmp 49) rfl (by kernel_rfl) (by kernel_rfl) (decide_eq_true hq) _) ?_
          simp only [Act.put, List.setIfInBounds_toArray, List.set_cons_zero, List.set_cons_succ]
          refine wpList_runTo rfl (some 51) rfl (.bool true) W2 (by kernel_rfl) ?_
          simp only [Act.put, List.setIfInBounds_toArray, List.set_cons_zero, List.set_cons_succ]
          refine wpList_runToG (by kernel_rfl) (some 52) rfl (.int .i64 rf) W2 (by kernel_rfl) ?_
          simp only [Act.put, List.setIfInBounds_toArray, List.set_cons_zero, List.set_cons_succ]
          refine wpList_runToG (by kernel_rfl) (some 53) rfl (.bool false) W2 (by exact gt02_run (p := rf) (.tmp 52) rfl (by kernel_rfl) (decide_eq_false (by omega)) _) ?_
          simp only [Act.put, List.setIfInBounds_toArray, List.set_cons_zero, List.set_cons_succ]
          refine wpList_runToG (by kernel_rfl) (some 54) rfl (.bool false) W2 (by kernel_rfl) ?_
          simp only [Act.put, List.setIfInBounds_toArray, List.set_cons_zero, List.set_cons_succ]
          refine wpList_runToG (by kernel_rfl) (some 55) rfl (.slice av D.length cv) W2 (by kernel_rfl) ?_
          simp only [Act.put, List.setIfInBounds_toArray, List.set_cons_zero, List.set_cons_succ]
          refine wpList_callG (by kernel_rfl) (some 56) rfl 12 #[.slice av D.length cv] (by kernel_rfl) (bare_any HW2.out.rb HD.out.1 (by have := HD.out.2.2.2.2.1; omega)) ?_
          rintro e w' ⟨rfl, ew⟩
          replace ew := ew.symm
          subst ew
          rw [e2]
          refine ⟨_, rfl, ?_⟩
          simp only [Act.put, List.setIfInBounds_toArray, List.set_cons_zero, List.set_cons_succ]
          refine wpList_runToG (by kernel_rfl) (some 57) rfl (.bool false) W2 (by exact not_run (c := true) (.tmp 56) rfl (by kernel_rfl) _) ?_
          simp only [Act.put, List.setIfInBounds_toArray, List.set_cons_zero, List.set_cons_succ]
          refine wpList_runToG (by kernel_rfl) (some 58) rfl (.bool false) W2 (by exact pickN_run (c := false) (.tmp 54) (.tmp 57) rfl (by kernel_rfl) (by kernel_rfl) _) ?_
          simp only [Act.put, List.setIfInBounds_toArray, List.set_cons_zero, List.set_cons_succ]
          refine wpList_runToG (by kernel_rfl) (some 59) rfl (.bool false) W2 (by kernel_rfl) ?_
          simp only [Act.put, List.setIfInBounds_toArray, List.set_cons_zero, List.set_cons_succ]
          refine wpList_runToG (by kernel_rfl) (some 60) rfl (.slice az E.length cs) W2 (by kernel_rfl) ?_
          simp only [Act.put, List.setIfInBounds_toArray, List.set_cons_zero, List.set_cons_succ]
          refine wpList_callG (by kernel_rfl) (some 61) rfl 12 #[.slice az E.length cs] (by kernel_rfl) (bare_any HW2.out.rs HD.out.2.1 (by have := HD.out.2.2.2.2.2; omega)) ?_
          rintro e w' ⟨rfl, ew⟩
          replace ew := ew.symm
          subst ew
          rw [e3]
          refine ⟨_, rfl, ?_⟩
          simp only [Act.put, List.setIfInBounds_toArray, List.set_cons_zero, List.set_cons_succ]
          refine wpList_runToG (by kernel_rfl) (some 62) rfl (.bool false) W2 (by exact not_run (c := true) (.tmp 61) rfl (by kernel_rfl) _) ?_
          simp only [Act.put, List.setIfInBounds_toArray, List.set_cons_zero, List.set_cons_succ]
          refine wpList_runToG (by kernel_rfl) (some 63) rfl (.bool false) W2 (by exact pickN_run (c := false) (.tmp 59) (.tmp 62) rfl (by kernel_rfl) (by kernel_rfl) _) ?_
          simp only [Act.put, List.setIfInBounds_toArray, List.set_cons_zero, List.set_cons_succ]
          refine wpList_runTo rfl (some 64) rfl (.bool false) W2 (by exact pick_run (c := false) (.tmp 51) (.tmp 63) rfl (by kernel_rfl) (by kernel_rfl) _) ?_
          simp only [Act.put, List.setIfInBounds_toArray, List.set_cons_zero, List.set_cons_succ]
          refine wpList_nil ?_
          refine hK _ _ ?_
          clear hK
          go_meet
          exact ⟨rfl, rfl⟩
        · skip
          rename_i K hK
          refine wp_region_lit ?_
          refine wpList_runTo rfl (some 47) rfl (.int .i64 T) W2 (by kernel_rfl) ?_
          simp only [Act.put, List.setIfInBounds_toArray, List.set_cons_zero, List.set_cons_succ]
          refine wpList_runTo rfl (some 48) rfl (.pointer (some ⟨g, 1, none⟩)) W2 (by kernel_rfl) ?_
          simp only [Act.put, List.setIfInBounds_toArray, List.set_cons_zero, List.set_cons_succ]
          refine wpList_runTo rfl (some 49) rfl (.int .i64 r.qty) W2 (by exact ldN_run (.inl rfl) (.tmp 48) rfl (by kernel_rfl) (HW2.out.blk.cell 1)) ?_
          simp only [Act.put, List.setIfInBounds_toArray, List.set_cons_zero, List.set_cons_succ]
          refine wpList_runTo rfl (some 50) rfl (.bool false) W2 (by exact gtV_run (.tmp 47) (.tmp 49) rfl (by kernel_rfl) (by kernel_rfl) (decide_eq_false hq) _) ?_
          simp only [Act.put, List.setIfInBounds_toArray, List.set_cons_zero, List.set_cons_succ]
          refine wpList_runTo rfl (some 51) rfl (.bool false) W2 (by kernel_rfl) ?_
          simp only [Act.put, List.setIfInBounds_toArray, List.set_cons_zero, List.set_cons_succ]
          refine wpList_skipG (by kernel_rfl) ?_
          simp only [Act.put, List.setIfInBounds_toArray, List.set_cons_zero, List.set_cons_succ]
          refine wpList_skipG (by kernel_rfl) ?_
          simp only [Act.put, List.setIfInBounds_toArray, List.set_cons_zero, List.set_cons_succ]
          refine wpList_skipG (by kernel_rfl) ?_
          simp only [Act.put, List.setIfInBounds_toArray, List.set_cons_zero, List.set_cons_succ]
          refine wpList_skipG (by kernel_rfl) ?_
          simp only [Act.put, List.setIfInBounds_toArray, List.set_cons_zero, List.set_cons_succ]
          refine wpList_skipG (by kernel_rfl) ?_
          simp only [Act.put, List.setIfInBounds_toArray, List.set_cons_zero, List.set_cons_succ]
          refine wpList_skipG (by kernel_rfl) ?_
          simp only [Act.put, List.setIfInBounds_toArray, List.set_cons_zero, List.set_cons_succ]
          refine wpList_skipG (by kernel_rfl) ?_
          simp only [Act.put, List.setIfInBounds_toArray, List.set_cons_zero, List.set_cons_succ]
          refine wpList_skipG (by kernel_rfl) ?_
          simp only [Act.put, List.setIfInBounds_toArray, List.set_cons_zero, List.set_cons_succ]
          refine wpList_skipG (by kernel_rfl) ?_
          simp only [Act.put, List.setIfInBounds_toArray, List.set_cons_zero, List.set_cons_succ]
          refine wpList_skipG (by kernel_rfl) ?_
          simp only [Act.put, List.setIfInBounds_toArray, List.set_cons_zero, List.set_cons_succ]
          refine wpList_skipG (by kernel_rfl) ?_
          simp only [Act.put, List.setIfInBounds_toArray, List.set_cons_zero, List.set_cons_succ]
          refine wpList_skipG (by kernel_rfl) ?_
          simp only [Act.put, List.setIfInBounds_toArray, List.set_cons_zero, List.set_cons_succ]
          refine wpList_runTo rfl (some 64) rfl (.bool false) W2 (by kernel_rfl) ?_
          simp only [Act.put, List.setIfInBounds_toArray, List.set_cons_zero, List.set_cons_succ]
          refine wpList_nil ?_
          refine hK _ _ ?_
          clear hK
          go_meet
          exact ⟨rfl, rfl⟩
      case rest => as_aux_lemma =>
        obtain ⟨rfl, ew⟩ := hcut
        replace ew := ew.symm
        subst ew
        obtain ⟨S, hS⟩ : ∃ S, S = X + Y - 2 * T := ⟨_, rfl⟩
        have HS : Hid (S = X + Y - 2 * T) := hS
        go_upto_region 15 with fail
        rename_i K hK
        refine wp_region_lit ?_
        refine wpList_runTo rfl (some 65) rfl (.int .i64 X) W2 (by kernel_rfl) ?_
        simp only [Act.put, List.setIfInBounds_toArray, List.set_cons_zero, List.set_cons_succ]
        refine wpList_runTo rfl (some 66) rfl (.int .i64 Y) W2 (by kernel_rfl) ?_
        simp only [Act.put, List.setIfInBounds_toArray, List.set_cons_zero, List.set_cons_succ]
        refine wpList_runTo rfl (some 67) rfl (.int .i64 (X + Y)) W2 (by exact addW_run (.tmp 65) (.tmp 66) rfl (by kernel_rfl) (by kernel_rfl) (by omega) _) ?_
        simp only [Act.put, List.setIfInBounds_toArray, List.set_cons_zero, List.set_cons_succ]
        refine wpList_runTo rfl (some 68) rfl (.int .i64 T) W2 (by kernel_rfl) ?_
        simp only [Act.put, List.setIfInBounds_toArray, List.set_cons_zero, List.set_cons_succ]
        refine wpList_runTo rfl (some 69) rfl (.int .i64 (2 * T)) W2 (by exact mulW_run (.const (.int .i64 2)) (.tmp 68) rfl (by kernel_rfl) (by kernel_rfl) (by omega) _) ?_
        simp only [Act.put, List.setIfInBounds_toArray, List.set_cons_zero, List.set_cons_succ]
        refine wpList_runTo rfl (some 70) rfl (.int .i64 (X + Y - 2 * T)) W2 (by exact subW_run (.tmp 67) (.tmp 69) rfl (by kernel_rfl) (by kernel_rfl) (by omega) _) ?_
        simp only [Act.put, List.setIfInBounds_toArray, List.set_cons_zero, List.set_cons_succ]
        rw [← hS]
        clear hS
        refine wpList_runTo rfl (some 16) rfl (.int .i64 S) W2 (by kernel_rfl) ?_
        simp only [Act.put, List.setIfInBounds_toArray, List.set_cons_zero, List.set_cons_succ]
        refine wpList_nil ?_
        refine hK _ _ ?_
        clear hK
        go_upto_region 16 with fail
        go_cut [99] (fun x99 wx => x99 = .bool false ∧ wx = W2)
        case first => as_aux_lemma =>
          by_cases hq : T = r.qty
          · by_cases h0 : 0 < T
            · by_cases hov : S < r.over
              · obtain ⟨e1, e2, e3⟩ := HA.out.over p (by omega) (by rw [← HT.out]; exact hq) (by rw [← HT.out]; exact h0) (by rw [← HT.out, ← HXY.out.1, ← HXY.out.2, ← HS.out]; exact hov)
                rename_i K hK
                refine wp_region_lit ?_
                refine wpList_runTo rfl (some 71) rfl (.int .i64 T) W2 (by kernel_rfl) ?_
                simp only [Act.put, List.setIfInBounds_toArray, List.set_cons_zero, List.set_cons_succ]
                refine wpList_runTo rfl (some 72) rfl (.pointer (some ⟨g, 1, none⟩)) W2 (by kernel_rfl) ?_
                simp only [Act.put, List.setIfInBounds_toArray, List.set_cons_zero, List.set_cons_succ]
                refine wpList_runTo rfl (some 73) rfl (.int .i64 r.qty) W2 (by exact ldN_run (.inl rfl) (.tmp 72) rfl (by kernel_rfl) (HW2.out.blk.cell 1)) ?_
                simp only [Act.put, List.setIfInBounds_toArray, List.set_cons_zero, List.set_cons_succ]
                refine wpList_runTo rfl (some 74) rfl (.bool true) W2 (by exact eqV_run (.inl rfl) (.tmp 71) (.tmp 73) rfl (by kernel_rfl) (by kernel_rfl) (decide_eq_true hq) _) ?_
                simp only [Act.put, List.setIfInBounds_toArray, List.set_cons_zero, List.set_cons_succ]
                refine wpList_runTo rfl (some 75) rfl (.bool true) W2 (by kernel_rfl) ?_
                simp only [Act.put, List.setIfInBounds_toArray, List.set_cons_zero, List.set_cons_succ]
                refine wpList_runToG (by kernel_rfl) (some 76) rfl (.int .i64 T) W2 (by kernel_rfl) ?_
                simp only [Act.put, List.setIfInBounds_toArray, List.set_cons_zero, List.set_cons_succ]
                refine wpList_runToG (by kernel_rfl) (some 77) rfl (.bool true) W2 (by exact gt02_run (.tmp 76) rfl (by kernel_rfl) (decide_eq_true h0) _) ?_
                simp only [Act.put, List.setIfInBounds_toArray, List.set_cons_zero, List.set_cons_succ]
                refine wpList_runTo rfl (some 78) rfl (.bool true) W2 (by exact pick_run (c := true) (.tmp 75) (.tmp 77) rfl (by kernel_rfl) (by kernel_rfl) _) ?_
                simp only [Act.put, List.setIfInBounds_toArray, List.set_cons_zero, List.set_cons_succ]
                refine wpList_runTo rfl (some 79) rfl (.bool true) W2 (by kernel_rfl) ?_
                simp only [Act.put, List.setIfInBounds_toArray, List.set_cons_zero, List.set_cons_succ]
                refine wpList_runToG (by kernel_rfl) (some 80) rfl (.int .i64 S) W2 (by kernel_rfl) ?_
                simp only [Act.put, List.setIfInBounds_toArray, List.set_cons_zero, List.set_cons_succ]
                refine wpList_runToG (by kernel_rfl) (some 81) rfl (.pointer (some ⟨g, 2, none⟩)) W2 (by kernel_rfl) ?_
                simp only [Act.put, List.setIfInBounds_toArray, List.set_cons_zero, List.set_cons_succ]
                refine wpList_runToG (by kernel_rfl) (some 82) rfl (.int .i64 r.over) W2 (by exact ldN_run (.inl rfl) (.tmp 81) rfl (by kernel_rfl) (HW2.out.blk.cell 2)) ?_
                simp only [Act.put, List.setIfInBounds_toArray, List.set_cons_zero, List.set_cons_succ]
                refine wpList_runToG (by kernel_rfl) (some 83) rfl (.bool true) W2 (by exact ltV_run (.tmp 80) (.tmp 82) rfl (by kernel_rfl) (by kernel_rfl) (decide_eq_true hov) _) ?_
                simp only [Act.put, List.setIfInBounds_toArray, List.set_cons_zero, List.set_cons_succ]
                refine wpList_runTo rfl (some 84) rfl (.bool true) W2 (by exact pick_run (c := true) (.tmp 79) (.tmp 83) rfl (by kernel_rfl) (by kernel_rfl) _) ?_
                simp only [Act.put, List.setIfInBounds_toArray, List.set_cons_zero, List.set_cons_succ]
                refine wpList_runTo rfl (some 85) rfl (.bool true) W2 (by kernel_rfl) ?_
                simp only [Act.put, List.setIfInBounds_toArray, List.set_cons_zero, List.set_cons_succ]
                refine wpList_runToG (by kernel_rfl) (some 86) rfl (.int .i64 (p : Int)) W2 (by kernel_rfl) ?_
                simp only [Act.put, List.setIfInBounds_toArray, List.set_cons_zero, List.set_cons_succ]
                refine wpList_runToG (by kernel_rfl) (some 87) rfl (.int .i64 rf) W2 (by kernel_rfl) ?_
                simp only [Act.put, List.setIfInBounds_toArray, List.set_cons_zero, List.set_cons_succ]
                refine wpList_runToG (by kernel_rfl) (some 88) rfl (.bool false) W2 (by exact eqV_run (.inl rfl) (.tmp 86) (.tmp 87) rfl (by kernel_rfl) (by kernel_rfl) (decide_eq_false e1) _) ?_
                simp only [Act.put, List.setIfInBounds_toArray, List.set_cons_zero, List.set_cons_succ]
                refine wpList_runToG (by kernel_rfl) (some 89) rfl (.bool false) W2 (by kernel_rfl) ?_
                simp only [Act.put, List.setIfInBounds_toArray, List.set_cons_zero, List.set_cons_succ]
                refine wpList_runToG (by kernel_rfl) (some 90) rfl (.slice av D.length cv) W2 (by kernel_rfl) ?_
                simp only [Act.put, List.setIfInBounds_toArray, List.set_cons_zero, List.set_cons_succ]
                refine wpList_runToG (by kernel_rfl) (some 91) rfl (.int .i64 (p : Int)) W2 (by kernel_rfl) ?_
                simp only [Act.put, List.setIfInBounds_toArray, List.set_cons_zero, List.set_cons_succ]
                refine wpList_callG (by kernel_rfl) (some 92) rfl 13 #[.slice av D.length cv, .int .i64 (p : Int)] (by kernel_rfl) (priced_any HW2.out.rb HD.out.1 (by have := HD.out.2.2.2.2.1; omega) (p : Int)) ?_
                rintro e w' ⟨rfl, ew⟩
                replace ew := ew.symm
                subst ew
                rw [e2]
                refine ⟨_, rfl, ?_⟩
                simp only [Act.put, List.setIfInBounds_toArray, List.set_cons_zero, List.set_cons_succ]
                refine wpList_runToG (by kernel_rfl) (some 93) rfl (.bool false) W2 (by exact pickN_run (c := false) (.tmp 89) (.tmp 92) rfl (by kernel_rfl) (by kernel_rfl) _) ?_
                simp only [Act.put, List.setIfInBounds_toArray, List.set_cons_zero, List.set_cons_succ]
                refine wpList_runToG (by kernel_rfl) (some 94) rfl (.bool false) W2 (by kernel_rfl) ?_
                simp only [Act.put, List.setIfInBounds_toArray, List.set_cons_zero, List.set_cons_succ]
                refine wpList_runToG (by kernel_rfl) (some 95) rfl (.slice az E.length cs) W2 (by kernel_rfl) ?_
                simp only [Act.put, List.setIfInBounds_toArray, List.set_cons_zero, List.set_cons_succ]
                refine wpList_runToG (by kernel_rfl) (some 96) rfl (.int .i64 (p : Int)) W2 (by kernel_rfl) ?_
                simp only [Act.put, List.setIfInBounds_toArray, List.set_cons_zero, List.set_cons_succ]
                refine wpList_callG (by kernel_rfl) (some 97) rfl 13 #[.slice az E.length cs, .int .i64 (p : Int)] (by kernel_rfl) (priced_any HW2.out.rs HD.out.2.1 (by have := HD.out.2.2.2.2.2; omega) (p : Int)) ?_
                rintro e w' ⟨rfl, ew⟩
                replace ew := ew.symm
                subst ew
                rw [e3]
                refine ⟨_, rfl, ?_⟩
                simp only [Act.put, List.setIfInBounds_toArray, List.set_cons_zero, List.set_cons_succ]
                refine wpList_runToG (by kernel_rfl) (some 98) rfl (.bool false) W2 (by exact pickN_run (c := false) (.tmp 94) (.tmp 97) rfl (by kernel_rfl) (by kernel_rfl) _) ?_
                simp only [Act.put, List.setIfInBounds_toArray, List.set_cons_zero, List.set_cons_succ]
                refine wpList_runTo rfl (some 99) rfl (.bool false) W2 (by exact pick_run (c := false) (.tmp 85) (.tmp 98) rfl (by kernel_rfl) (by kernel_rfl) _) ?_
                simp only [Act.put, List.setIfInBounds_toArray, List.set_cons_zero, List.set_cons_succ]
                refine wpList_nil ?_
                refine hK _ _ ?_
                clear hK
                go_meet
                exact ⟨rfl, rfl⟩
              · skip
                rename_i K hK
                refine wp_region_lit ?_
                refine wpList_runTo rfl (some 71) rfl (.int .i64 T) W2 (by kernel_rfl) ?_
                simp only [Act.put, List.setIfInBounds_toArray, List.set_cons_zero, List.set_cons_succ]
                refine wpList_runTo rfl (some 72) rfl (.pointer (some ⟨g, 1, none⟩)) W2 (by kernel_rfl) ?_
                simp only [Act.put, List.setIfInBounds_toArray, List.set_cons_zero, List.set_cons_succ]
                refine wpList_runTo rfl (some 73) rfl (.int .i64 r.qty) W2 (by exact ldN_run (.inl rfl) (.tmp 72) rfl (by kernel_rfl) (HW2.out.blk.cell 1)) ?_
                simp only [Act.put, List.setIfInBounds_toArray, List.set_cons_zero, List.set_cons_succ]
                refine wpList_runTo rfl (some 74) rfl (.bool true) W2 (by exact eqV_run (.inl rfl) (.tmp 71) (.tmp 73) rfl (by kernel_rfl) (by kernel_rfl) (decide_eq_true hq) _) ?_
                simp only [Act.put, List.setIfInBounds_toArray, List.set_cons_zero, List.set_cons_succ]
                refine wpList_runTo rfl (some 75) rfl (.bool true) W2 (by kernel_rfl) ?_
                simp only [Act.put, List.setIfInBounds_toArray, List.set_cons_zero, List.set_cons_succ]
                refine wpList_runToG (by kernel_rfl) (some 76) rfl (.int .i64 T) W2 (by kernel_rfl) ?_
                simp only [Act.put, List.setIfInBounds_toArray, List.set_cons_zero, List.set_cons_succ]
                refine wpList_runToG (by kernel_rfl) (some 77) rfl (.bool true) W2 (by exact gt02_run (.tmp 76) rfl (by kernel_rfl) (decide_eq_true h0) _) ?_
                simp only [Act.put, List.setIfInBounds_toArray, List.set_cons_zero, List.set_cons_succ]
                refine wpList_runTo rfl (some 78) rfl (.bool true) W2 (by exact pick_run (c := true) (.tmp 75) (.tmp 77) rfl (by kernel_rfl) (by kernel_rfl) _) ?_
                simp only [Act.put, List.setIfInBounds_toArray, List.set_cons_zero, List.set_cons_succ]
                refine wpList_runTo rfl (some 79) rfl (.bool true) W2 (by kernel_rfl) ?_
                simp only [Act.put, List.setIfInBounds_toArray, List.set_cons_zero, List.set_cons_succ]
                refine wpList_runToG (by kernel_rfl) (some 80) rfl (.int .i64 S) W2 (by kernel_rfl) ?_
                simp only [Act.put, List.setIfInBounds_toArray, List.set_cons_zero, List.set_cons_succ]
                refine wpList_runToG (by kernel_rfl) (some 81) rfl (.pointer (some ⟨g, 2, none⟩)) W2 (by kernel_rfl) ?_
                simp only [Act.put, List.setIfInBounds_toArray, List.set_cons_zero, List.set_cons_succ]
                refine wpList_runToG (by kernel_rfl) (some 82) rfl (.int .i64 r.over) W2 (by exact ldN_run (.inl rfl) (.tmp 81) rfl (by kernel_rfl) (HW2.out.blk.cell 2)) ?_
                simp only [Act.put, List.setIfInBounds_toArray, List.set_cons_zero, List.set_cons_succ]
                refine wpList_runToG (by kernel_rfl) (some 83) rfl (.bool false) W2 (by exact ltV_run (.tmp 80) (.tmp 82) rfl (by kernel_rfl) (by kernel_rfl) (decide_eq_false hov) _) ?_
                simp only [Act.put, List.setIfInBounds_toArray, List.set_cons_zero, List.set_cons_succ]
                refine wpList_runTo rfl (some 84) rfl (.bool false) W2 (by exact pick_run (c := false) (.tmp 79) (.tmp 83) rfl (by kernel_rfl) (by kernel_rfl) _) ?_
                simp only [Act.put, List.setIfInBounds_toArray, List.set_cons_zero, List.set_cons_succ]
                refine wpList_runTo rfl (some 85) rfl (.bool false) W2 (by kernel_rfl) ?_
                simp only [Act.put, List.setIfInBounds_toArray, List.set_cons_zero, List.set_cons_succ]
                refine wpList_skipG (by kernel_rfl) ?_
                simp only [Act.put, List.setIfInBounds_toArray, List.set_cons_zero, List.set_cons_succ]
                refine wpList_skipG (by kernel_rfl) ?_
                simp only [Act.put, List.setIfInBounds_toArray, List.set_cons_zero, List.set_cons_succ]
                refine wpList_skipG (by kernel_rfl) ?_
                simp only [Act.put, List.setIfInBounds_toArray, List.set_cons_zero, List.set_cons_succ]
                refine wpList_skipG (by kernel_rfl) ?_
                simp only [Act.put, List.setIfInBounds_toArray, List.set_cons_zero, List.set_cons_succ]
                refine wpList_skipG (by kernel_rfl) ?_
                simp only [Act.put, List.setIfInBounds_toArray, List.set_cons_zero, List.set_cons_succ]
                refine wpList_skipG (by kernel_rfl) ?_
                simp only [Act.put, List.setIfInBounds_toArray, List.set_cons_zero, List.set_cons_succ]
                refine wpList_skipG (by kernel_rfl) ?_
                simp only [Act.put, List.setIfInBounds_toArray, List.set_cons_zero, List.set_cons_succ]
                refine wpList_skipG (by kernel_rfl) ?_
                simp only [Act.put, List.setIfInBounds_toArray, List.set_cons_zero, List.set_cons_succ]
                refine wpList_skipG (by kernel_rfl) ?_
                simp only [Act.put, List.setIfInBounds_toArray, List.set_cons_zero, List.set_cons_succ]
                refine wpList_skipG (by kernel_rfl) ?_
                simp only [Act.put, List.setIfInBounds_toArray, List.set_cons_zero, List.set_cons_succ]
                refine wpList_skipG (by kernel_rfl) ?_
                simp only [Act.put, List.setIfInBounds_toArray, List.set_cons_zero, List.set_cons_succ]
                refine wpList_skipG (by kernel_rfl) ?_
                simp only [Act.put, List.setIfInBounds_toArray, List.set_cons_zero, List.set_cons_succ]
                refine wpList_skipG (by kernel_rfl) ?_
                simp only [Act.put, List.setIfInBounds_toArray, List.set_cons_zero, List.set_cons_succ]
                refine wpList_runTo rfl (some 99) rfl (.bool false) W2 (by kernel_rfl) ?_
                simp only [Act.put, List.setIfInBounds_toArray, List.set_cons_zero, List.set_cons_succ]
                refine wpList_nil ?_
                refine hK _ _ ?_
                clear hK
                go_meet
                exact ⟨rfl, rfl⟩
            · skip
              rename_i K hK
              refine wp_region_lit ?_
              refine wpList_runTo rfl (some 71) rfl (.int .i64 T) W2 (by kernel_rfl) ?_
              simp only [Act.put, List.setIfInBounds_toArray, List.set_cons_zero, List.set_cons_succ]
              refine wpList_runTo rfl (some 72) rfl (.pointer (some ⟨g, 1, none⟩)) W2 (by kernel_rfl) ?_
              simp only [Act.put, List.setIfInBounds_toArray, List.set_cons_zero, List.set_cons_succ]
              refine wpList_runTo rfl (some 73) rfl (.int .i64 r.qty) W2 (by exact ldN_run (.inl rfl) (.tmp 72) rfl (by kernel_rfl) (HW2.out.blk.cell 1)) ?_
              simp only [Act.put, List.setIfInBounds_toArray, List.set_cons_zero, List.set_cons_succ]
              refine wpList_runTo rfl (some 74) rfl (.bool true) W2 (by exact eqV_run (.inl rfl) (.tmp 71) (.tmp 73) rfl (by kernel_rfl) (by kernel_rfl) (decide_eq_true hq) _) ?_
              simp only [Act.put, List.setIfInBounds_toArray, List.set_cons_zero, List.set_cons_succ]
              refine wpList_runTo rfl (some 75) rfl (.bool true) W2 (by kernel_rfl) ?_
              simp only [Act.put, List.setIfInBounds_toArray, List.set_cons_zero, List.set_cons_succ]
              refine wpList_runToG (by kernel_rfl) (some 76) rfl (.int .i64 T) W2 (by kernel_rfl) ?_
              simp only [Act.put, List.setIfInBounds_toArray, List.set_cons_zero, List.set_cons_succ]
              refine wpList_runToG (by kernel_rfl) (some 77) rfl (.bool false) W2 (by exact gt02_run (.tmp 76) rfl (by kernel_rfl) (decide_eq_false h0) _) ?_
              simp only [Act.put, List.setIfInBounds_toArray, List.set_cons_zero, List.set_cons_succ]
              refine wpList_runTo rfl (some 78) rfl (.bool false) W2 (by exact pick_run (c := false) (.tmp 75) (.tmp 77) rfl (by kernel_rfl) (by kernel_rfl) _) ?_
              simp only [Act.put, List.setIfInBounds_toArray, List.set_cons_zero, List.set_cons_succ]
              refine wpList_runTo rfl (some 79) rfl (.bool false) W2 (by kernel_rfl) ?_
              simp only [Act.put, List.setIfInBounds_toArray, List.set_cons_zero, List.set_cons_succ]
              refine wpList_skipG (by kernel_rfl) ?_
              simp only [Act.put, List.setIfInBounds_toArray, List.set_cons_zero, List.set_cons_succ]
              refine wpList_skipG (by kernel_rfl) ?_
              simp only [Act.put, List.setIfInBounds_toArray, List.set_cons_zero, List.set_cons_succ]
              refine wpList_skipG (by kernel_rfl) ?_
              simp only [Act.put, List.setIfInBounds_toArray, List.set_cons_zero, List.set_cons_succ]
              refine wpList_skipG (by kernel_rfl) ?_
              simp only [Act.put, List.setIfInBounds_toArray, List.set_cons_zero, List.set_cons_succ]
              refine wpList_runTo rfl (some 84) rfl (.bool false) W2 (by kernel_rfl) ?_
              simp only [Act.put, List.setIfInBounds_toArray, List.set_cons_zero, List.set_cons_succ]
              refine wpList_runTo rfl (some 85) rfl (.bool false) W2 (by kernel_rfl) ?_
              simp only [Act.put, List.setIfInBounds_toArray, List.set_cons_zero, List.set_cons_succ]
              refine wpList_skipG (by kernel_rfl) ?_
              simp only [Act.put, List.setIfInBounds_toArray, List.set_cons_zero, List.set_cons_succ]
              refine wpList_skipG (by kernel_rfl) ?_
              simp only [Act.put, List.setIfInBounds_toArray, List.set_cons_zero, List.set_cons_succ]
              refine wpList_skipG (by kernel_rfl) ?_
              simp only [Act.put, List.setIfInBounds_toArray, List.set_cons_zero, List.set_cons_succ]
              refine wpList_skipG (by kernel_rfl) ?_
              simp only [Act.put, List.setIfInBounds_toArray, List.set_cons_zero, List.set_cons_succ]
              refine wpList_skipG (by kernel_rfl) ?_
              simp only [Act.put, List.setIfInBounds_toArray, List.set_cons_zero, List.set_cons_succ]
              refine wpList_skipG (by kernel_rfl) ?_
              simp only [Act.put, List.setIfInBounds_toArray, List.set_cons_zero, List.set_cons_succ]
              refine wpList_skipG (by kernel_rfl) ?_
              simp only [Act.put, List.setIfInBounds_toArray, List.set_cons_zero, List.set_cons_succ]
              refine wpList_skipG (by kernel_rfl) ?_
              simp only [Act.put, List.setIfInBounds_toArray, List.set_cons_zero, List.set_cons_succ]
              refine wpList_skipG (by kernel_rfl) ?_
              simp only [Act.put, List.setIfInBounds_toArray, List.set_cons_zero, List.set_cons_succ]
              refine wpList_skipG (by kernel_rfl) ?_
              simp only [Act.put, List.setIfInBounds_toArray, List.set_cons_zero, List.set_cons_succ]
              refine wpList_skipG (by kernel_rfl) ?_
              simp only [Act.put, List.setIfInBounds_toArray, List.set_cons_zero, List.set_cons_succ]
              refine wpList_skipG (by kernel_rfl) ?_
              simp only [Act.put, List.setIfInBounds_toArray, List.set_cons_zero, List.set_cons_succ]
              refine wpList_skipG (by kernel_rfl) ?_
              simp only [Act.put, List.setIfInBounds_toArray, List.set_cons_zero, List.set_cons_succ]
              refine wpList_runTo rfl (some 99) rfl (.bool false) W2 (by kernel_rfl) ?_
              simp only [Act.put, List.setIfInBounds_toArray, List.set_cons_zero, List.set_cons_succ]
              refine wpList_nil ?_
              refine hK _ _ ?_
              clear hK
              go_meet
              exact ⟨rfl, rfl⟩
          · skip
            rename_i K hK
            refine wp_region_lit ?_
            refine wpList_runTo rfl (some 71) rfl (.int .i64 T) W2 (by kernel_rfl) ?_
            simp only [Act.put, List.setIfInBounds_toArray, List.set_cons_zero, List.set_cons_succ]
            refine wpList_runTo rfl (some 72) rfl (.pointer (some ⟨g, 1, none⟩)) W2 (by kernel_rfl) ?_
            simp only [Act.put, List.setIfInBounds_toArray, List.set_cons_zero, List.set_cons_succ]
            refine wpList_runTo rfl (some 73) rfl (.int .i64 r.qty) W2 (by exact ldN_run (.inl rfl) (.tmp 72) rfl (by kernel_rfl) (HW2.out.blk.cell 1)) ?_
            simp only [Act.put, List.setIfInBounds_toArray, List.set_cons_zero, List.set_cons_succ]
            refine wpList_runTo rfl (some 74) rfl (.bool false) W2 (by exact eqV_run (.inl rfl) (.tmp 71) (.tmp 73) rfl (by kernel_rfl) (by kernel_rfl) (decide_eq_false hq) _) ?_
            simp only [Act.put, List.setIfInBounds_toArray, List.set_cons_zero, List.set_cons_succ]
            refine wpList_runTo rfl (some 75) rfl (.bool false) W2 (by kernel_rfl) ?_
            simp only [Act.put, List.setIfInBounds_toArray, List.set_cons_zero, List.set_cons_succ]
            refine wpList_skipG (by kernel_rfl) ?_
            simp only [Act.put, List.setIfInBounds_toArray, List.set_cons_zero, List.set_cons_succ]
            refine wpList_skipG (by kernel_rfl) ?_
            simp only [Act.put, List.setIfInBounds_toArray, List.set_cons_zero, List.set_cons_succ]
            refine wpList_runTo rfl (some 78) rfl (.bool false) W2 (by kernel_rfl) ?_
            simp only [Act.put, List.setIfInBounds_toArray, List.set_cons_zero, List.set_cons_succ]
            refine wpList_runTo rfl (some 79) rfl (.bool false) W2 (by kernel_rfl) ?_
            simp only [Act.put, List.setIfInBounds_toArray, List.set_cons_zero, List.set_cons_succ]
            refine wpList_skipG (by kernel_rfl) ?_
            simp only [Act.put, List.setIfInBounds_toArray, List.set_cons_zero, List.set_cons_succ]
            refine wpList_skipG (by kernel_rfl) ?_
            simp only [Act.put, List.setIfInBounds_toArray, List.set_cons_zero, List.set_cons_succ]
            refine wpList_skipG (by kernel_rfl) ?_
            simp only [Act.put, List.setIfInBounds_toArray, List.set_cons_zero, List.set_cons_succ]
            refine wpList_skipG (by kernel_rfl) ?_
            simp only [Act.put, List.setIfInBounds_toArray, List.set_cons_zero, List.set_cons_succ]
            refine wpList_runTo rfl (some 84) rfl (.bool false) W2 (by kernel_rfl) ?_
            simp only [Act.put, List.setIfInBounds_toArray, List.set_cons_zero, List.set_cons_succ]
            refine wpList_runTo rfl (some 85) rfl (.bool false) W2 (by kernel_rfl) ?_
            simp only [Act.put, List.setIfInBounds_toArray, List.set_cons_zero, List.set_cons_succ]
            refine wpList_skipG (by kernel_rfl) ?_
            simp only [Act.put, List.setIfInBounds_toArray, List.set_cons_zero, List.set_cons_succ]
            refine wpList_skipG (by kernel_rfl) ?_
            simp only [Act.put, List.setIfInBounds_toArray, List.set_cons_zero, List.set_cons_succ]
            refine wpList_skipG (by kernel_rfl) ?_
            simp only [Act.put, List.setIfInBounds_toArray, List.set_cons_zero, List.set_cons_succ]
            refine wpList_skipG (by kernel_rfl) ?_
            simp only [Act.put, List.setIfInBounds_toArray, List.set_cons_zero, List.set_cons_succ]
            refine wpList_skipG (by kernel_rfl) ?_
            simp only [Act.put, List.setIfInBounds_toArray, List.set_cons_zero, List.set_cons_succ]
            refine wpList_skipG (by kernel_rfl) ?_
            simp only [Act.put, List.setIfInBounds_toArray, List.set_cons_zero, List.set_cons_succ]
            refine wpList_skipG (by kernel_rfl) ?_
            simp only [Act.put, List.setIfInBounds_toArray, List.set_cons_zero, List.set_cons_succ]
            refine wpList_skipG (by kernel_rfl) ?_
            simp only [Act.put, List.setIfInBounds_toArray, List.set_cons_zero, List.set_cons_succ]
            refine wpList_skipG (by kernel_rfl) ?_
            simp only [Act.put, List.setIfInBounds_toArray, List.set_cons_zero, List.set_cons_succ]
            refine wpList_skipG (by kernel_rfl) ?_
            simp only [Act.put, List.setIfInBounds_toArray, List.set_cons_zero, List.set_cons_succ]
            refine wpList_skipG (by kernel_rfl) ?_
            simp only [Act.put, List.setIfInBounds_toArray, List.set_cons_zero, List.set_cons_succ]
            refine wpList_skipG (by kernel_rfl) ?_
            simp only [Act.put, List.setIfInBounds_toArray, List.set_cons_zero, List.set_cons_succ]
            refine wpList_skipG (by kernel_rfl) ?_
            simp only [Act.put, List.setIfInBounds_toArray, List.set_cons_zero, List.set_cons_succ]
            refine wpList_runTo rfl (some 99) rfl (.bool false) W2 (by kernel_rfl) ?_
            simp only [Act.put, List.setIfInBounds_toArray, List.set_cons_zero, List.set_cons_succ]
            refine wpList_nil ?_
            refine hK _ _ ?_
            clear hK
            go_meet
            exact ⟨rfl, rfl⟩
        case rest => as_aux_lemma =>
          obtain ⟨rfl, ew⟩ := hcut
          replace ew := ew.symm
          subst ew
          go_upto_region 18 with fail
          go_cut [133] (fun x133 wx => x133 = .bool false ∧ wx = W2)
          case first => as_aux_lemma =>
            by_cases hq : (p : Int) = r.price
            · obtain ⟨e1, e2, e3, e4⟩ := HA.out.at' (by omega)
              rw [← hq, ← HT.out] at e1 e2
              rw [← hq] at e3 e4
              rw [← HXY.out.1, ← HXY.out.2] at e2 e3 e4
              rw [← HS.out] at e2
              replace e3 : (decide (r.side = 1) != decide (Y < X)) = false := bne_eq_false_iff_eq.2 (decide_eq_decide.2 e3)
              replace e4 : (decide (r.side = 2) != decide (X < Y)) = false := bne_eq_false_iff_eq.2 (decide_eq_decide.2 e4)
              rename_i K hK
              refine wp_region_lit ?_
              refine wpList_runTo rfl (some 100) rfl (.int .i64 (p : Int)) W2 (by kernel_rfl) ?_
              simp only [Act.put, List.setIfInBounds_toArray, List.set_cons_zero, List.set_cons_succ]
              refine wpList_runTo rfl (some 101) rfl (.pointer (some ⟨g, 0, none⟩)) W2 (by kernel_rfl) ?_
              simp only [Act.put, List.setIfInBounds_toArray, List.set_cons_zero, List.set_cons_succ]
              refine wpList_runTo rfl (some 102) rfl (.int .i64 r.price) W2 (by exact ldN_run (.inl rfl) (.tmp 101) rfl (by kernel_rfl) (HW2.out.blk.cell 0)) ?_
              simp only [Act.put, List.setIfInBounds_toArray, List.set_cons_zero, List.set_cons_succ]
              refine wpList_runTo rfl (some 103) rfl (.bool true) W2 (by exact eqV_run (.inl rfl) (.tmp 100) (.tmp 102) rfl (by kernel_rfl) (by kernel_rfl) (decide_eq_true hq) _) ?_
              simp only [Act.put, List.setIfInBounds_toArray, List.set_cons_zero, List.set_cons_succ]
              refine wpList_runTo rfl (some 104) rfl (.bool true) W2 (by kernel_rfl) ?_
              simp only [Act.put, List.setIfInBounds_toArray, List.set_cons_zero, List.set_cons_succ]
              refine wpList_runToG (by kernel_rfl) (some 105) rfl (.int .i64 T) W2 (by kernel_rfl) ?_
              simp only [Act.put, List.setIfInBounds_toArray, List.set_cons_zero, List.set_cons_succ]
              refine wpList_runToG (by kernel_rfl) (some 106) rfl (.pointer (some ⟨g, 1, none⟩)) W2 (by kernel_rfl) ?_
              simp only [Act.put, List.setIfInBounds_toArray, List.set_cons_zero, List.set_cons_succ]
              refine wpList_runToG (by kernel_rfl) (some 107) rfl (.int .i64 r.qty) W2 (by exact ldN_run (.inl rfl) (.tmp 106) rfl (by kernel_rfl) (HW2.out.blk.cell 1)) ?_
              simp only [Act.put, List.setIfInBounds_toArray, List.set_cons_zero, List.set_cons_succ]
              refine wpList_runToG (by kernel_rfl) (some 108) rfl (.bool false) W2 (by exact neV_run (.inl rfl) (.tmp 105) (.tmp 107) rfl (by kernel_rfl) (by kernel_rfl) (decide_eq_false (fun h => h e1)) _) ?_
              simp only [Act.put, List.setIfInBounds_toArray, List.set_cons_zero, List.set_cons_succ]
              refine wpList_runToG (by kernel_rfl) (some 109) rfl (.bool false) W2 (by kernel_rfl) ?_
              simp only [Act.put, List.setIfInBounds_toArray, List.set_cons_zero, List.set_cons_succ]
              refine wpList_runToG (by kernel_rfl) (some 110) rfl (.int .i64 S) W2 (by kernel_rfl) ?_
              simp only [Act.put, List.setIfInBounds_toArray, List.set_cons_zero, List.set_cons_succ]
              refine wpList_runToG (by kernel_rfl) (some 111) rfl (.pointer (some ⟨g, 2, none⟩)) W2 (by kernel_rfl) ?_
              simp only [Act.put, List.setIfInBounds_toArray, List.set_cons_zero, List.set_cons_succ]
              refine wpList_runToG (by kernel_rfl) (some 112) rfl (.int .i64 r.over) W2 (by exact ldN_run (.inl rfl) (.tmp 111) rfl (by kernel_rfl) (HW2.out.blk.cell 2)) ?_
              simp only [Act.put, List.setIfInBounds_toArray, List.set_cons_zero, List.set_cons_succ]
              refine wpList_runToG (by kernel_rfl) (some 113) rfl (.bool false) W2 (by exact neV_run (.inl rfl) (.tmp 110) (.tmp 112) rfl (by kernel_rfl) (by kernel_rfl) (decide_eq_false (fun h => h e2)) _) ?_
              simp only [Act.put, List.setIfInBounds_toArray, List.set_cons_zero, List.set_cons_succ]
              refine wpList_runToG (by kernel_rfl) (some 114) rfl (.bool false) W2 (by exact pickN_run (c := false) (.tmp 109) (.tmp 113) rfl (by kernel_rfl) (by kernel_rfl) _) ?_
              simp only [Act.put, List.setIfInBounds_toArray, List.set_cons_zero, List.set_cons_succ]
              refine wpList_runToG (by kernel_rfl) (some 115) rfl (.bool false) W2 (by kernel_rfl) ?_
              simp only [Act.put, List.setIfInBounds_toArray, List.set_cons_zero, List.set_cons_succ]
              refine wpList_runToG (by kernel_rfl) (some 116) rfl (.pointer (some ⟨g, 3, none⟩)) W2 (by kernel_rfl) ?_
              simp only [Act.put, List.setIfInBounds_toArray, List.set_cons_zero, List.set_cons_succ]
              refine wpList_runToG (by kernel_rfl) (some 117) rfl (.int .i64 r.side) W2 (by exact ldN_run (.inr rfl) (.tmp 116) rfl (by kernel_rfl) (HW2.out.blk.cell 3)) ?_
              simp only [Act.put, List.setIfInBounds_toArray, List.set_cons_zero, List.set_cons_succ]
              refine wpList_runToG (by kernel_rfl) (some 118) rfl (.bool (decide (r.side = 1))) W2 (by exact eqV_run (.inr rfl) (.tmp 117) (.const (.int .i64 1)) rfl (by kernel_rfl) (by kernel_rfl) (rfl) _) ?_
              simp only [Act.put, List.setIfInBounds_toArray, List.set_cons_zero, List.set_cons_succ]
              refine wpList_runToG (by kernel_rfl) (some 119) rfl (.int .i64 X) W2 (by kernel_rfl) ?_
              simp only [Act.put, List.setIfInBounds_toArray, List.set_cons_zero, List.set_cons_succ]
              refine wpList_runToG (by kernel_rfl) (some 120) rfl (.int .i64 Y) W2 (by kernel_rfl) ?_
              simp only [Act.put, List.setIfInBounds_toArray, List.set_cons_zero, List.set_cons_succ]
              refine wpList_runToG (by kernel_rfl) (some 121) rfl (.bool (decide (Y < X))) W2 (by exact gtV_run (.tmp 119) (.tmp 120) rfl (by kernel_rfl) (by kernel_rfl) (rfl) _) ?_
              simp only [Act.put, List.setIfInBounds_toArray, List.set_cons_zero, List.set_cons_succ]
              refine wpList_runToG (by kernel_rfl) (some 122) rfl (.bool false) W2 (by exact neB_run (.tmp 118) (.tmp 121) rfl (by kernel_rfl) (by kernel_rfl) (e3) _) ?_
              simp only [Act.put, List.setIfInBounds_toArray, List.set_cons_zero, List.set_cons_succ]
              refine wpList_runToG (by kernel_rfl) (some 123) rfl (.bool false) W2 (by exact pickN_run (c := false) (.tmp 115) (.tmp 122) rfl (by kernel_rfl) (by kernel_rfl) _) ?_
              simp only [Act.put, List.setIfInBounds_toArray, List.set_cons_zero, List.set_cons_succ]
              refine wpList_runToG (by kernel_rfl) (some 124) rfl (.bool false) W2 (by kernel_rfl) ?_
              simp only [Act.put, List.setIfInBounds_toArray, List.set_cons_zero, List.set_cons_succ]
              refine wpList_runToG (by kernel_rfl) (some 125) rfl (.pointer (some ⟨g, 3, none⟩)) W2 (by kernel_rfl) ?_
              simp only [Act.put, List.setIfInBounds_toArray, List.set_cons_zero, List.set_cons_succ]
              refine wpList_runToG (by kernel_rfl) (some 126) rfl (.int .i64 r.side) W2 (by exact ldN_run (.inr rfl) (.tmp 125) rfl (by kernel_rfl) (HW2.out.blk.cell 3)) ?_
              simp only [Act.put, List.setIfInBounds_toArray, List.set_cons_zero, List.set_cons_succ]
              refine wpList_runToG (by kernel_rfl) (some 127) rfl (.bool (decide (r.side = 2))) W2 (by exact eqV_run (.inr rfl) (.tmp 126) (.const (.int .i64 2)) rfl (by kernel_rfl) (by kernel_rfl) (rfl) _) ?_
              simp only [Act.put, List.setIfInBounds_toArray, List.set_cons_zero, List.set_cons_succ]
              refine wpList_runToG (by kernel_rfl) (some 128) rfl (.int .i64 X) W2 (by kernel_rfl) ?_
              simp only [Act.put, List.setIfInBounds_toArray, List.set_cons_zero, List.set_cons_succ]
              refine wpList_runToG (by kernel_rfl) (some 129) rfl (.int .i64 Y) W2 (by kernel_rfl) ?_
              simp only [Act.put, List.setIfInBounds_toArray, List.set_cons_zero, List.set_cons_succ]
              refine wpList_runToG (by kernel_rfl) (some 130) rfl (.bool (decide (X < Y))) W2 (by exact ltV_run (.tmp 128) (.tmp 129) rfl (by kernel_rfl) (by kernel_rfl) (rfl) _) ?_
              simp only [Act.put, List.setIfInBounds_toArray, List.set_cons_zero, List.set_cons_succ]
              refine wpList_runToG (by kernel_rfl) (some 131) rfl (.bool false) W2 (by exact neB_run (.tmp 127) (.tmp 130) rfl (by kernel_rfl) (by kernel_rfl) (e4) _) ?_
              simp only [Act.put, List.setIfInBounds_toArray, List.set_cons_zero, List.set_cons_succ]
              refine wpList_runToG (by kernel_rfl) (some 132) rfl (.bool false) W2 (by exact pickN_run (c := false) (.tmp 124) (.tmp 131) rfl (by kernel_rfl) (by kernel_rfl) _) ?_
              simp only [Act.put, List.setIfInBounds_toArray, List.set_cons_zero, List.set_cons_succ]
              refine wpList_runTo rfl (some 133) rfl (.bool false) W2 (by exact pick_run (c := false) (.tmp 104) (.tmp 132) rfl (by kernel_rfl) (by kernel_rfl) _) ?_
              simp only [Act.put, List.setIfInBounds_toArray, List.set_cons_zero, List.set_cons_succ]
              refine wpList_nil ?_
              refine hK _ _ ?_
              clear hK
              go_meet
              exact ⟨rfl, rfl⟩
            · skip
              rename_i K hK
              refine wp_region_lit ?_
              refine wpList_runTo rfl (some 100) rfl (.int .i64 (p : Int)) W2 (by kernel_rfl) ?_
              simp only [Act.put, List.setIfInBounds_toArray, List.set_cons_zero, List.set_cons_succ]
              refine wpList_runTo rfl (some 101) rfl (.pointer (some ⟨g, 0, none⟩)) W2 (by kernel_rfl) ?_
              simp only [Act.put, List.setIfInBounds_toArray, List.set_cons_zero, List.set_cons_succ]
              refine wpList_runTo rfl (some 102) rfl (.int .i64 r.price) W2 (by exact ldN_run (.inl rfl) (.tmp 101) rfl (by kernel_rfl) (HW2.out.blk.cell 0)) ?_
              simp only [Act.put, List.setIfInBounds_toArray, List.set_cons_zero, List.set_cons_succ]
              refine wpList_runTo rfl (some 103) rfl (.bool false) W2 (by exact eqV_run (.inl rfl) (.tmp 100) (.tmp 102) rfl (by kernel_rfl) (by kernel_rfl) (decide_eq_false hq) _) ?_
              simp only [Act.put, List.setIfInBounds_toArray, List.set_cons_zero, List.set_cons_succ]
              refine wpList_runTo rfl (some 104) rfl (.bool false) W2 (by kernel_rfl) ?_
              simp only [Act.put, List.setIfInBounds_toArray, List.set_cons_zero, List.set_cons_succ]
              refine wpList_skipG (by kernel_rfl) ?_
              simp only [Act.put, List.setIfInBounds_toArray, List.set_cons_zero, List.set_cons_succ]
              refine wpList_skipG (by kernel_rfl) ?_
              simp only [Act.put, List.setIfInBounds_toArray, List.set_cons_zero, List.set_cons_succ]
              refine wpList_skipG (by kernel_rfl) ?_
              simp only [Act.put, List.setIfInBounds_toArray, List.set_cons_zero, List.set_cons_succ]
              refine wpList_skipG (by kernel_rfl) ?_
              simp only [Act.put, List.setIfInBounds_toArray, List.set_cons_zero, List.set_cons_succ]
              refine wpList_skipG (by kernel_rfl) ?_
              simp only [Act.put, List.setIfInBounds_toArray, List.set_cons_zero, List.set_cons_succ]
              refine wpList_skipG (by kernel_rfl) ?_
              simp only [Act.put, List.setIfInBounds_toArray, List.set_cons_zero, List.set_cons_succ]
              refine wpList_skipG (by kernel_rfl) ?_
              simp only [Act.put, List.setIfInBounds_toArray, List.set_cons_zero, List.set_cons_succ]
              refine wpList_skipG (by kernel_rfl) ?_
              simp only [Act.put, List.setIfInBounds_toArray, List.set_cons_zero, List.set_cons_succ]
              refine wpList_skipG (by kernel_rfl) ?_
              simp only [Act.put, List.setIfInBounds_toArray, List.set_cons_zero, List.set_cons_succ]
              refine wpList_skipG (by kernel_rfl) ?_
              simp only [Act.put, List.setIfInBounds_toArray, List.set_cons_zero, List.set_cons_succ]
              refine wpList_skipG (by kernel_rfl) ?_
              simp only [Act.put, List.setIfInBounds_toArray, List.set_cons_zero, List.set_cons_succ]
              refine wpList_skipG (by kernel_rfl) ?_
              simp only [Act.put, List.setIfInBounds_toArray, List.set_cons_zero, List.set_cons_succ]
              refine wpList_skipG (by kernel_rfl) ?_
              simp only [Act.put, List.setIfInBounds_toArray, List.set_cons_zero, List.set_cons_succ]
              refine wpList_skipG (by kernel_rfl) ?_
              simp only [Act.put, List.setIfInBounds_toArray, List.set_cons_zero, List.set_cons_succ]
              refine wpList_skipG (by kernel_rfl) ?_
              simp only [Act.put, List.setIfInBounds_toArray, List.set_cons_zero, List.set_cons_succ]
              refine wpList_skipG (by kernel_rfl) ?_
              simp only [Act.put, List.setIfInBounds_toArray, List.set_cons_zero, List.set_cons_succ]
              refine wpList_skipG (by kernel_rfl) ?_
              simp only [Act.put, List.setIfInBounds_toArray, List.set_cons_zero, List.set_cons_succ]
              refine wpList_skipG (by kernel_rfl) ?_
              simp only [Act.put, List.setIfInBounds_toArray, List.set_cons_zero, List.set_cons_succ]
              refine wpList_skipG (by kernel_rfl) ?_
              simp only [Act.put, List.setIfInBounds_toArray, List.set_cons_zero, List.set_cons_succ]
              refine wpList_skipG (by kernel_rfl) ?_
              simp only [Act.put, List.setIfInBounds_toArray, List.set_cons_zero, List.set_cons_succ]
              refine wpList_skipG (by kernel_rfl) ?_
              simp only [Act.put, List.setIfInBounds_toArray, List.set_cons_zero, List.set_cons_succ]
              refine wpList_skipG (by kernel_rfl) ?_
              simp only [Act.put, List.setIfInBounds_toArray, List.set_cons_zero, List.set_cons_succ]
              refine wpList_skipG (by kernel_rfl) ?_
              simp only [Act.put, List.setIfInBounds_toArray, List.set_cons_zero, List.set_cons_succ]
              refine wpList_skipG (by kernel_rfl) ?_
              simp only [Act.put, List.setIfInBounds_toArray, List.set_cons_zero, List.set_cons_succ]
              refine wpList_skipG (by kernel_rfl) ?_
              simp only [Act.put, List.setIfInBounds_toArray, List.set_cons_zero, List.set_cons_succ]
              refine wpList_skipG (by kernel_rfl) ?_
              simp only [Act.put, List.setIfInBounds_toArray, List.set_cons_zero, List.set_cons_succ]
              refine wpList_skipG (by kernel_rfl) ?_
              simp only [Act.put, List.setIfInBounds_toArray, List.set_cons_zero, List.set_cons_succ]
              refine wpList_skipG (by kernel_rfl) ?_
              simp only [Act.put, List.setIfInBounds_toArray, List.set_cons_zero, List.set_cons_succ]
              refine wpList_runTo rfl (some 133) rfl (.bool false) W2 (by kernel_rfl) ?_
              simp only [Act.put, List.setIfInBounds_toArray, List.set_cons_zero, List.set_cons_succ]
              refine wpList_nil ?_
              refine hK _ _ ?_
              clear hK
              go_meet
              exact ⟨rfl, rfl⟩
          case rest => as_aux_lemma =>
            obtain ⟨rfl, ew⟩ := hcut
            replace ew := ew.symm
            subst ew
            go_wp2
            exact ⟨⟨p + 1, by omega, by omega, by go_num, HW2.out⟩, by simp [RowKit.intOf]; omega⟩
    · have hlt' : ¬ (p : Int) < 45 := by omega
      generalize W = W2 at *
      have HW2 := HW
      go_upto_region 20 with fail
      rename_i K hK
      refine wp_region_lit ?_
      refine wpList_runTo rfl (some 134) rfl (.pointer (some ⟨g, 1, none⟩)) W2 (by kernel_rfl) ?_
      simp only [Act.put, List.setIfInBounds_toArray, List.set_cons_zero, List.set_cons_succ]
      refine wpList_runTo rfl (some 135) rfl (.int .i64 r.qty) W2 (by exact ldN_run (.inl rfl) (.tmp 134) rfl (by kernel_rfl) (HW2.out.blk.cell 1)) ?_
      simp only [Act.put, List.setIfInBounds_toArray, List.set_cons_zero, List.set_cons_succ]
      refine wpList_runTo rfl (some 136) rfl (.bool (decide (0 < r.qty))) W2 (by exact gt02_run (.tmp 135) rfl (by kernel_rfl) rfl _) ?_
      simp only [Act.put, List.setIfInBounds_toArray, List.set_cons_zero, List.set_cons_succ]
      refine wpList_runTo rfl (some 137) rfl (.pointer (some ⟨g, 0, none⟩)) W2 (by kernel_rfl) ?_
      simp only [Act.put, List.setIfInBounds_toArray, List.set_cons_zero, List.set_cons_succ]
      refine wpList_runTo rfl (some 138) rfl (.int .i64 r.price) W2 (by exact ldN_run (.inl rfl) (.tmp 137) rfl (by kernel_rfl) (HW2.out.blk.cell 0)) ?_
      simp only [Act.put, List.setIfInBounds_toArray, List.set_cons_zero, List.set_cons_succ]
      refine wpList_runTo rfl (some 139) rfl (.bool (decide (0 < r.price))) W2 (by exact gt02_run (.tmp 138) rfl (by kernel_rfl) rfl _) ?_
      simp only [Act.put, List.setIfInBounds_toArray, List.set_cons_zero, List.set_cons_succ]
      refine wpList_runTo rfl (some 140) rfl (.bool true) W2 (by exact eqB_run (p := decide (0 < r.qty)) (q := decide (0 < r.price)) (.tmp 136) (.tmp 139) rfl (by kernel_rfl) (by kernel_rfl) (beq_iff_eq.2 (decide_eq_decide.2 HA.out.iff)) _) ?_
      simp only [Act.put, List.setIfInBounds_toArray, List.set_cons_zero, List.set_cons_succ]
      refine wpList_runTo rfl (some 6) rfl (.bool true) W2 (by kernel_rfl) ?_
      simp only [Act.put, List.setIfInBounds_toArray, List.set_cons_zero, List.set_cons_succ]
      refine wpList_nil ?_
      refine hK _ _ ?_
      clear hK
      go_wp2
      go_ret
      exact ⟨rfl, HW2.out.bel⟩
end Go.Proofs.Ytbhddfcdnpidkaa
