import Derived.Test.YtbhddfcdnpidkaaMB
import Derived.Test.YtbhddfcdnpidkaaV3
import Derived.Test.YtbhddfcdnpidkaaV0
import Derived.Laws.StructEq

namespace Go.Proofs.Ytbhddfcdnpidkaa
set_option linter.unusedVariables false
set_option linter.unusedSimpArgs false
open Go.RowKit Go.Great
attribute [local irreducible] wpList

theorem lenR_run {op : Oper} {a : Act} {v : Value} {ao : Option Addr} {n c : Nat} (hv : v = .slice ao n c) (x : Operand) (ho : op.op = .call { callee := .builtin .len, args := #[x], argTypes := #[22] }) (hx : a.eval x = v) (w : World) : (execOp a.eval op).run Try.prog w = .ok (.value (.int .i64 (n : Int))) w := by
  subst hv
  unfold execOp
  simp only [ho, resolve, invoke, builtin, Sem.run_bind, Sem.run_pure, Result.andThen_ok, List.map_toArray, List.map_cons, List.map_nil, hx]
  go_simp
theorem gtV_run {op : Oper} {a : Act} {p q : Int} {r : Bool} (x y : Operand) (ho : op.op = .binOp .gtr 2 x y 2) (hx : a.eval x = .int .i64 p) (hy : a.eval y = .int .i64 q) (hr : decide (q < p) = r) (w : World) : (execOp a.eval op).run Try.prog w = .ok (.value (.bool r)) w := by
  subst hr
  unfold execOp
  simp only [ho, hx, hy]
  go_simp
theorem ltV_run {op : Oper} {a : Act} {p q : Int} {r : Bool} (x y : Operand) (ho : op.op = .binOp .lss 2 x y 2) (hx : a.eval x = .int .i64 p) (hy : a.eval y = .int .i64 q) (hr : decide (p < q) = r) (w : World) : (execOp a.eval op).run Try.prog w = .ok (.value (.bool r)) w := by
  subst hr
  unfold execOp
  simp only [ho, hx, hy]
  go_simp
theorem eqV_run {op : Oper} {a : Act} {p q : Int} {r : Bool} {T : TypeId} (hT : T = 2 ∨ T = 3) (x y : Operand) (ho : op.op = .binOp .eql T x y T) (hx : a.eval x = .int .i64 p) (hy : a.eval y = .int .i64 q) (hr : decide (p = q) = r) (w : World) : (execOp a.eval op).run Try.prog w = .ok (.value (.bool r)) w := by
  subst hr
  unfold execOp
  rcases hT with rfl | rfl <;> simp only [ho, hx, hy] <;> go_simp <;> try (by_cases h : p = q <;> simp [h])
theorem neV_run {op : Oper} {a : Act} {p q : Int} {r : Bool} {T : TypeId} (hT : T = 2 ∨ T = 3) (x y : Operand) (ho : op.op = .binOp .neq T x y T) (hx : a.eval x = .int .i64 p) (hy : a.eval y = .int .i64 q) (hr : decide (p ≠ q) = r) (w : World) : (execOp a.eval op).run Try.prog w = .ok (.value (.bool r)) w := by
  subst hr
  unfold execOp
  rcases hT with rfl | rfl <;> simp only [ho, hx, hy] <;> go_simp <;> try (by_cases h : p = q <;> simp [h])
theorem neB_run {op : Oper} {a : Act} {p q : Bool} {r : Bool} (x y : Operand) (ho : op.op = .binOp .neq 4 x y 4) (hx : a.eval x = .bool p) (hy : a.eval y = .bool q) (hr : (p != q) = r) (w : World) : (execOp a.eval op).run Try.prog w = .ok (.value (.bool r)) w := by
  subst hr
  unfold execOp
  simp only [ho, hx, hy]
  cases p <;> cases q <;> kernel_rfl
theorem eqB_run {op : Oper} {a : Act} {p q : Bool} {r : Bool} (x y : Operand) (ho : op.op = .binOp .eql 4 x y 4) (hx : a.eval x = .bool p) (hy : a.eval y = .bool q) (hr : (p == q) = r) (w : World) : (execOp a.eval op).run Try.prog w = .ok (.value (.bool r)) w := by
  subst hr
  unfold execOp
  simp only [ho, hx, hy]
  cases p <;> cases q <;> kernel_rfl
theorem mulW_run {op : Oper} {a : Act} {p q : Int} (x y : Operand) (ho : op.op = .binOp .mul 2 x y 2) (hx : a.eval x = .int .i64 p) (hy : a.eval y = .int .i64 q) (h : -9223372036854775808 ≤ p * q ∧ p * q ≤ 9223372036854775807) (w : World) : (execOp a.eval op).run Try.prog w = .ok (.value (.int .i64 (p * q))) w := by
  unfold execOp
  simp only [ho, hx, hy]
  go_simp
  try (rw [IntKind.wrap_i64]; omega)
/-- What stands all along. -/
structure MX (w W : World) (b s : List Od) (av az : Option Addr) (cv cs g : Nat) (r : Rs) : Prop where
  bel : Below w.heap.size w W
  rb : RowAt W 42 15 (.slice av b.length cv) b.length (flatL (fun o => o.cs.toList) b)
  rs : RowAt W 42 15 (.slice az s.length cs) s.length (flatL (fun o => o.cs.toList) s)
  blk : Blk W g 28 r.cs
theorem MX.below {w W W' : World} {b s : List Od} {av az : Option Addr} {cv cs g : Nat} {r : Rs} (h : MX w W b s av az cv cs g r) (hb : Below W.heap.size W W') : MX w W' b s av az cv cs g r := ⟨below_step h.bel hb, h.rb.fr (Fr.of_below hb (fun _ => False)) fun _ _ => id, h.rs.fr (Fr.of_below hb (fun _ => False)) fun _ _ => id, h.blk.below hb h.blk.lt⟩
theorem orders_at {w : World} {l : List Rw} {a : Option Addr} {c n : Nat} (fr : Int) (hn : n = l.length) (hr : PrAt w a l) (hok : ∀ r ∈ l, r.ok) (hl : n ≤ 2000000) (hf : 0 ≤ fr ∧ fr ≤ 2000001) :
    Calls Try.prog 7 #[.slice a n c, .int .i64 fr] w fun e w' => ∃ v, e = .returned v ∧ Hid (OO w w' v (odsL fr l)) := by
  subst hn
  exact orders_any fr hr hok (by omega) (by omega)
end Go.Proofs.Ytbhddfcdnpidkaa

namespace Go.Proofs.Ytbhddfcdnpidkaa
set_option linter.unusedVariables false
set_option linter.unusedSimpArgs false
open Go.RowKit Go.Great

theorem flL_len (f : Fl) : (flL f).length = 5 := rfl
theorem fl_cell {w : World} {g of c n i j : Nat} {l : List Fl} {f : Fl} {u : Value} (h : RowAt w 39 5 (.slice (some ⟨g, of, none⟩) n c) n (flatL flL l)) (hf : l[i]? = some f) (hj : j < 5) (hu : (flL f)[j]? = some u) : w.cell? ⟨g, of + i * 5 + j, none⟩ = some u := by
  have := h.cell rfl (j := i * 5 + j) (u := u) (by rw [flatL_get flL_len hf hj]; exact hu)
  rw [← Nat.add_assoc] at this
  exact this
theorem gotF_app (buy : Bool) (i : Int) : ∀ (a b : List Fl), gotF buy i (a ++ b) = gotF buy i a + gotF buy i b
  | [], _ => by simp [gotF]
  | f :: a, b => by simp only [List.cons_append, gotF, gotF_app buy i a b]; omega
theorem gotF_take {buy : Bool} {i : Int} {l : List Fl} {k : Nat} {f : Fl} (h : l[k]? = some f) : gotF buy i (l.take (k + 1)) = gotF buy i (l.take k) + (if (if buy = true then f.b else f.s) = i then f.q else 0) := by
  rw [List.take_add_one, h, gotF_app]
  simp [gotF]
theorem totF_app : ∀ (a b : List Fl), totF (a ++ b) = totF a + totF b
  | [], _ => by simp [totF]
  | f :: a, b => by simp only [List.cons_append, totF, totF_app a b]; omega
theorem totF_take {l : List Fl} {k : Nat} {f : Fl} (h : l[k]? = some f) : totF (l.take (k + 1)) = totF (l.take k) + f.q := by
  rw [List.take_add_one, h, totF_app]
  simp [totF]
theorem totF_bd : ∀ {l : List Fl}, (∀ f ∈ l, 1 ≤ f.q ∧ f.q ≤ 1000000) → 0 ≤ totF l ∧ totF l ≤ l.length * 1000000
  | [], _ => by simp [totF]
  | f :: l, h => by
    have := totF_bd (l := l) fun x hx => h x (List.mem_cons_of_mem _ hx)
    have := h f List.mem_cons_self
    simp only [totF, List.length_cons]
    omega
theorem gotF_bd {buy : Bool} {i : Int} : ∀ {l : List Fl}, (∀ f ∈ l, 1 ≤ f.q ∧ f.q ≤ 1000000) → 0 ≤ gotF buy i l ∧ gotF buy i l ≤ l.length * 1000000
  | [], _ => by simp [gotF]
  | f :: l, h => by
    have := gotF_bd (buy := buy) (i := i) (l := l) fun x hx => h x (List.mem_cons_of_mem _ hx)
    have := h f List.mem_cons_self
    simp only [gotF, List.length_cons]
    split <;> omega
theorem take_q {l : List Fl} {k : Nat} (h : ∀ f ∈ l, 1 ≤ f.q ∧ f.q ≤ 1000000) : ∀ f ∈ l.take k, 1 ≤ f.q ∧ f.q ≤ 1000000 := fun f hf => h f ((List.take_prefix k l).subset hf)
set_option maxRecDepth 100000 in
theorem tradedL_any {w : World} {F : List Fl} {a : Option Addr} {c : Nat} (hr : RowAt w 39 5 (.slice a F.length c) F.length (flatL flL F)) (hq : ∀ f ∈ F, 1 ≤ f.q ∧ f.q ≤ 1000000) (hl : F.length ≤ 1000000000000) (id : Int) (buy : Bool) :
    Calls Try.prog 35 #[.slice a F.length c, .int .i64 id, .bool buy] w fun e w' => e = .returned (.int .i64 (gotF buy id F)) ∧ w' = w := by
  obtain ⟨n, hn⟩ : ∃ n, n = F.length := ⟨_, rfl⟩
  have HR : Hid (RowAt w 39 5 (.slice a n c) n (flatL flL F) ∧ (∀ f ∈ F, 1 ≤ f.q ∧ f.q ≤ 1000000) ∧ n = F.length) := ⟨by rw [hn]; exact hr, hq, hn⟩
  obtain ⟨R, hR⟩ : ∃ R, R = gotF buy id F := ⟨_, rfl⟩
  have HB : Hid (R = gotF buy id F) := hR
  rw [← hn] at hl ⊢
  rw [← hR]
  clear hr hq hn hR
  go_enter Try.func35, Try.ntmps35
  go_upto_region 3 with fail
  go_loopw [7, 8] (fun x7 x8 wr => ∃ (i : Nat) (s : Int), i ≤ n ∧ x7 = .int .i64 s ∧ x8 = .int .i64 (i : Int) ∧ wr = w ∧ Hid (s = gotF buy id (F.take i))) (fun _ x8 _ => n - (RowKit.intOf x8).toNat)
  case atStart => exact ⟨0, 0, Nat.zero_le _, rfl, rfl, rfl, rfl⟩
  case round =>
    obtain ⟨i, s, hi, rfl, rfl, hw, HA⟩ := hrel
    subst hw
    by_cases hlt : i < n
    · have hlt' : (i : Int) < (n : Int) := by omega
      obtain ⟨f, hf⟩ : ∃ f, F[i]? = some f := ⟨_, List.getElem?_eq_getElem (by rw [← HR.out.2.2]; exact hlt)⟩
      obtain ⟨g, of, c', cur, ea, _⟩ := HR.out.1.more (by omega)
      injection ea with ea1 _ ea2
      subst ea1 ea2
      have q0 := fl_cell HR.out.1 hf (j := 0) (by decide) rfl
      rw [Nat.add_zero] at q0
      have q1 := fl_cell HR.out.1 hf (j := 1) (by decide) rfl
      have q4 := fl_cell HR.out.1 hf (j := 4) (by decide) rfl
      have hb := gotF_bd (buy := buy) (i := id) (take_q (k := i) HR.out.2.1)
      have hlen : (F.take i).length ≤ i := by rw [List.length_take]; omega
      have hfq := HR.out.2.1 f (List.mem_of_getElem? hf)
      rw [← HA.out] at hb
      have hs : IntKind.i64.wrap (s + f.q) = s + f.q := by rw [IntKind.wrap_i64]; omega
      have hS := gotF_take (buy := buy) (i := id) hf
      rw [← HA.out] at hS
      have HS : Hid (gotF buy id (F.take (i + 1)) = s + (if (if buy = true then f.b else f.s) = id then f.q else 0)) := hS
      clear HA hb hlen hfq hf hS HB
      generalize f.q = fq at *
      cases buy with
      | true =>
        by_cases he : f.b = id
        · have e1 : (f.b == id) = true := by simp [he]
          have HS2 : Hid (s + fq = gotF true id (F.take (i + 1))) := by
            show _ = _
            rw [HS.out]; simp [he]
          clear HS
          generalize f.b = fb at *
          go_wp2
          exact ⟨⟨i + 1, _, by omega, rfl, by go_num, by first | rfl | trivial, HS2.out⟩, by simp [RowKit.intOf]; omega⟩
        · have e1 : (f.b == id) = false := by simp [he]
          have HS2 : Hid (s = gotF true id (F.take (i + 1))) := by
            show _ = _
            rw [HS.out]; simp [he]
          clear HS
          generalize f.b = fb at *
          go_wp2
          exact ⟨⟨i + 1, _, by omega, rfl, by go_num, by first | rfl | trivial, HS2.out⟩, by simp [RowKit.intOf]; omega⟩
      | false =>
        by_cases he : f.s = id
        · have e1 : (f.s == id) = true := by simp [he]
          have HS2 : Hid (s + fq = gotF false id (F.take (i + 1))) := by
            show _ = _
            rw [HS.out]; simp [he]
          clear HS
          generalize f.s = fs at *
          go_wp2
          exact ⟨⟨i + 1, _, by omega, rfl, by go_num, by first | rfl | trivial, HS2.out⟩, by simp [RowKit.intOf]; omega⟩
        · have e1 : (f.s == id) = false := by simp [he]
          have HS2 : Hid (s = gotF false id (F.take (i + 1))) := by
            show _ = _
            rw [HS.out]; simp [he]
          clear HS
          generalize f.s = fs at *
          go_wp2
          exact ⟨⟨i + 1, _, by omega, rfl, by go_num, by first | rfl | trivial, HS2.out⟩, by simp [RowKit.intOf]; omega⟩
    · have hin : i = n := by omega
      have hf : R = s := by
        rw [HB.out, HA.out, hin, HR.out.2.2, List.take_length]
      have hlt' : ¬ (i : Int) < (n : Int) := by omega
      clear HA HB
      subst hf
      go_wp2
      go_ret
      exact ⟨rfl, rfl⟩
set_option maxRecDepth 100000 in
theorem betterL_any {w : World} {a b : Od} (ha : a.ok) (hb : b.ok) (buy : Bool) :
    Calls Try.prog 36 #[.agg a.cs, .agg b.cs, .bool buy] w fun e w' => e = .returned (.bool (betR buy a b)) ∧ Below w.heap.size w w' := by
  have H0 : Hid (Below w.heap.size w ((w.alloc (.cells a.cs 42)).alloc (.cells b.cs 42)) ∧ Blk ((w.alloc (.cells a.cs 42)).alloc (.cells b.cs 42)) w.heap.size 42 a.cs ∧ Blk ((w.alloc (.cells a.cs 42)).alloc (.cells b.cs 42)) (w.alloc (.cells a.cs 42)).heap.size 42 b.cs) :=
    ⟨below_step ((Below.refl _ w).alloc (Nat.le_refl _) _) ((Below.refl _ _).alloc (Nat.le_refl _) _), (Blk.new w _ _).alloc _, Blk.new _ _ _⟩
  have HO : Hid (a.ok ∧ b.ok) := ⟨ha, hb⟩
  obtain ⟨R, hR⟩ : ∃ R, R = betR buy a b := ⟨_, rfl⟩
  have HB : Hid (R = betR buy a b) := hR
  rw [← hR]
  clear ha hb hR
  go_enter Try.func36, Try.ntmps36
  go_upto_region 1 with fail
  have hz : (w.alloc (.cells a.cs 42)).heap.size = w.heap.size + 1 := World.size_alloc _ _
  rw [hz] at H0
  generalize (w.alloc (.cells a.cs 42)).alloc (.cells b.cs 42) = w2 at *
  generalize w.heap.size + 1 = gb at *
  have H1 : Hid (Below w.heap.size w w2) := H0.out.1
  have a0 := (H0.out.2.1.cell 0).trans HO.out.1.c0
  have a5 := (H0.out.2.1.cell 5).trans HO.out.1.c5
  have a7 := (H0.out.2.1.cell 7).trans HO.out.1.c7
  have b0 := (H0.out.2.2.cell 0).trans HO.out.2.c0
  have b5 := (H0.out.2.2.cell 5).trans HO.out.2.c5
  have b7 := (H0.out.2.2.cell 7).trans HO.out.2.c7
  clear H0 hz HO
  have HB2 : R = (if a.ty = 2 ∨ b.ty = 2 then decide (a.ty = 2 ∧ (b.ty ≠ 2 ∨ a.id < b.id)) else if a.pr ≠ b.pr then (decide (b.pr < a.pr) == buy) else decide (a.id < b.id)) := HB.out
  clear HB
  generalize a.cs = ca at *
  generalize b.cs = cb at *
  generalize a.id = ai at *
  generalize b.id = bi at *
  generalize a.ty = at_ at *
  generalize b.ty = bt at *
  generalize a.pr = ap at *
  generalize b.pr = bp at *
  by_cases ha : at_ = 2
  · have e1 : (at_ == 2) = true := by simp [ha]
    rw [if_pos (.inl ha)] at HB2
    by_cases hb : bt = 2
    · have e2 : (bt == 2) = true := by simp [hb]
      have e3 : (bt != 2) = false := by simp [hb]
      have HR : Hid (decide (ai < bi) = R) := by
        show _ = _
        rw [HB2]; simp [ha, hb]
      clear HB2 ha hb
      go_wp2
      go_ret
      exact ⟨by rw [HR.out]; rfl, H1.out⟩
    · have e2 : (bt == 2) = false := by simp [hb]
      have e3 : (bt != 2) = true := by simp [hb]
      have HR : Hid (R = true) := by
        show _ = _
        rw [HB2]; simp [ha, hb]
      clear HB2 ha hb
      go_wp2
      go_ret
      exact ⟨by rw [HR.out]; rfl, H1.out⟩
  · have e1 : (at_ == 2) = false := by simp [ha]
    by_cases hb : bt = 2
    · have e2 : (bt == 2) = true := by simp [hb]
      rw [if_pos (.inr hb)] at HB2
      have HR : Hid (R = false) := by
        show _ = _
        rw [HB2]; simp [ha]
      clear HB2 ha hb
      go_wp2
      go_ret
      exact ⟨by rw [HR.out]; rfl, H1.out⟩
    · have e2 : (bt == 2) = false := by simp [hb]
      rw [if_neg (by simp [ha, hb])] at HB2
      by_cases hp : ap = bp
      · have e4 : (ap != bp) = false := by simp [hp]
        have HR : Hid (decide (ai < bi) = R) := by
          show _ = _
          rw [HB2]; simp [hp]
        clear HB2 ha hb hp
        go_wp2
        go_ret
        exact ⟨by rw [HR.out]; rfl, H1.out⟩
      · have e4 : (ap != bp) = true := by simp [hp]
        by_cases hg : bp < ap
        · have e5 : decide (bp < ap) = true := by simp [hg]
          have HR : Hid (buy = R) := by
            show _ = _
            rw [HB2]; simp [hp, hg]
          clear HB2 ha hb hp
          cases buy with
          | true =>
            go_wp2
            go_ret
            exact ⟨by rw [← HR.out]; rfl, H1.out⟩
          | false =>
            go_wp2
            go_ret
            exact ⟨by rw [← HR.out]; rfl, H1.out⟩
        · have e5 : decide (bp < ap) = false := by simp [hg]
          have HR : Hid ((!buy) = R) := by
            show _ = _
            rw [HB2]; simp [hp, hg]
          clear HB2 ha hb hp
          cases buy with
          | true =>
            go_wp2
            go_ret
            exact ⟨by rw [← HR.out]; rfl, H1.out⟩
          | false =>
            go_wp2
            go_ret
            exact ⟨by rw [← HR.out]; rfl, H1.out⟩
end Go.Proofs.Ytbhddfcdnpidkaa

namespace Go.Proofs.Ytbhddfcdnpidkaa
set_option linter.unusedVariables false
set_option linter.unusedSimpArgs false
open Go.RowKit Go.Great
attribute [local irreducible] wpList

def flA (f : Fl) : Array Value := #[.int .i64 f.b, .int .i64 f.s, .int .i64 0, .int .i64 f.p, .int .i64 f.q]
theorem neFl_run {op : Oper} {a : Act} (f : Fl) (x y : Operand) (ho : op.op = .binOp .neq 39 x y 39) (hx : a.eval x = .agg (flA f)) (hy : a.eval y = .agg (flA f)) (w : World) : (execOp a.eval op).run Try.prog w = .ok (.value (.bool false)) w := by
  unfold flA at hx hy
  unfold execOp
  simp only [ho, hx, hy]
  go_simp
theorem eqRs_run {op : Oper} {a : Act} (r : Rs) (x y : Operand) (ho : op.op = .binOp .eql 28 x y 28) (hx : a.eval x = .agg r.cs) (hy : a.eval y = .agg r.cs) (w : World) : (execOp a.eval op).run Try.prog w = .ok (.value (.bool true)) w := by
  unfold Rs.cs at hx hy
  unfold execOp
  simp only [ho, hx, hy]
  go_simp
theorem infoFz : (Try.prog.info? 39).map (·.size) = some 5 := by kernel_rfl
theorem row_rangeF {w : World} {g o c i n : Nat} {l : List Fl} {p : Fl} (h : RowAt w 39 5 (.slice (some ⟨g, o, none⟩) n c) n (flatL flL l)) (hp : l[i]? = some p) : w.rangeAt g (o + i * 5) (flA p).toList := fun j u hu => by
  have hj : j < 5 := (List.getElem?_eq_some_iff.1 hu).1
  exact fl_cell h hp hj (u := u) hu
theorem ixFl_run {op : Oper} {a : Act} {g o n c i : Nat} (x y : Operand) (ho : op.op = .indexAddr 36 x y) (hx : a.eval x = .slice (some ⟨g, o, none⟩) n c) (hy : a.eval y = .int .i64 (i : Int)) (hi : i < n) (w : World) : (execOp a.eval op).run Try.prog w = .ok (.value (.pointer (some ⟨g, o + i * 5, none⟩))) w := by
  have h1 : (i : Int) < (n : Int) := by omega
  have h2 : ¬ (n : Int) ≤ (i : Int) := by omega
  unfold execOp
  simp only [ho, hx, hy]
  go_simp
set_option maxRecDepth 100000 in
set_option maxHeartbeats 1000000 in
theorem fillsL_any {w : World} {F : List Fl} {a b : Option Addr} {c d : Nat} (h1 : RowAt w 39 5 (.slice a F.length c) F.length (flatL flL F)) (h2 : RowAt w 39 5 (.slice b F.length d) F.length (flatL flL F)) (hl : F.length ≤ 1000000000000) :
    Calls Try.prog 16 #[.slice a F.length c, .slice b F.length d] w fun e w' => e = .returned (.bool true) ∧ Below w.heap.size w w' := by
  obtain ⟨n, hn⟩ : ∃ n, n = F.length := ⟨_, rfl⟩
  have HR : Hid (RowAt w 39 5 (.slice a n c) n (flatL flL F) ∧ RowAt w 39 5 (.slice b n d) n (flatL flL F) ∧ n = F.length) := by rw [hn]; exact ⟨h1, h2, rfl⟩
  rw [← hn] at hl ⊢
  clear h1 h2 hn
  go_enter Try.func16, Try.ntmps16
  go_upto_region 4 with fail
  go_loopw [5] (fun x5 wr => ∃ i : Nat, i ≤ n ∧ x5 = .int .i64 (i : Int) ∧ Hid (Below w.heap.size w wr)) (fun x5 _ => n - (RowKit.intOf x5).toNat)
  case atStart => exact ⟨0, Nat.zero_le _, rfl, Below.refl _ _⟩
  case round =>
    obtain ⟨i, hi, rfl, HW⟩ := hrel
    by_cases hlt : i < n
    · have hlt' : (i : Int) < (n : Int) := by omega
      obtain ⟨f, hf⟩ : ∃ f, F[i]? = some f := ⟨_, List.getElem?_eq_getElem (by rw [← HR.out.2.2]; exact hlt)⟩
      obtain ⟨g, of, c', cur, ea, _⟩ := HR.out.1.more (by omega)
      injection ea with ea1 _ ea2
      subst ea1 ea2
      obtain ⟨g2, of2, c2', cur2, ea', _⟩ := HR.out.2.1.more (by omega)
      injection ea' with ea1 _ ea2
      subst ea1 ea2
      have HG : Hid (∀ (w' : World), Below wr.heap.size wr w' → w'.rangeAt g (of + i * 5) (flA f).toList ∧ w'.rangeAt g2 (of2 + i * 5) (flA f).toList) := fun w' h => ⟨row_rangeF (HR.out.1.fr (Fr.of_below (below_step HW.out h) (fun _ => False)) fun _ _ => id) hf, row_rangeF (HR.out.2.1.fr (Fr.of_below (below_step HW.out h) (fun _ => False)) fun _ _ => id) hf⟩
      clear hf
      generalize wr = w1 at *
      go_upto_region 6 with fail
      rename_i K hK
      refine wp_region_held (S := fun w' => Below w1.heap.size w1 w') (by kernel_rfl) ?_
      change wpAnyH _ _ _ _ _ _ _ _ (World.drew _)
      have hS0 : Below w1.heap.size w1 w1.drew := (Below.refl _ w1).drew
      generalize w1.drew = Z0 at *
      refine takeR (i := 0) (v := .slice (some ⟨g, of, none⟩) n c) (some 17) rfl rfl (by kernel_rfl) (by kernel_rfl) (by kernel_rfl) (fun _ _ _ h => h) (Or.inl ⟨by kernel_rfl, fun w' hSw => by kernel_rfl⟩) hS0 ?_
      simp only [Act.put, List.setIfInBounds_toArray, List.set_cons_zero, List.set_cons_succ]
      refine takeR (i := 1) (v := .int .i64 (i : Int)) (some 18) rfl rfl (by kernel_rfl) (by kernel_rfl) (by kernel_rfl) (fun _ _ _ h => h) (Or.inl ⟨by kernel_rfl, fun w' hSw => by kernel_rfl⟩) hS0 ?_
      simp only [Act.put, List.setIfInBounds_toArray, List.set_cons_zero, List.set_cons_succ]
      refine takeR (i := 2) (v := .pointer (some ⟨g, of + i * 5, none⟩)) (some 19) rfl rfl (by kernel_rfl) (by kernel_rfl) (by kernel_rfl) (fun _ _ _ h => h) (Or.inl ⟨by kernel_rfl, fun w' hSw => by exact ixFl_run (n := n) (c := c) (.tmp 17) (.tmp 18) rfl (by kernel_rfl) (by kernel_rfl) hlt _⟩) hS0 ?_
      simp only [Act.put, List.setIfInBounds_toArray, List.set_cons_zero, List.set_cons_succ]
      refine takeR (i := 3) (v := .agg (flA f)) (some 20) rfl rfl (by kernel_rfl) (by kernel_rfl) (by kernel_rfl) (fun _ _ _ h => h) (Or.inl ⟨by kernel_rfl, fun w' hSw => by exact ldA_run (HG.out _ hSw).1 Try.underlying39 rfl infoFz (.tmp 19) rfl (by kernel_rfl)⟩) hS0 ?_
      simp only [Act.put, List.setIfInBounds_toArray, List.set_cons_zero, List.set_cons_succ]
      refine takeR (i := 4) (v := .slice (some ⟨g2, of2, none⟩) n d) (some 21) rfl rfl (by kernel_rfl) (by kernel_rfl) (by kernel_rfl) (fun _ _ _ h => h) (Or.inl ⟨by kernel_rfl, fun w' hSw => by kernel_rfl⟩) hS0 ?_
      simp only [Act.put, List.setIfInBounds_toArray, List.set_cons_zero, List.set_cons_succ]
      refine takeR (i := 5) (v := .int .i64 (i : Int)) (some 22) rfl rfl (by kernel_rfl) (by kernel_rfl) (by kernel_rfl) (fun _ _ _ h => h) (Or.inl ⟨by kernel_rfl, fun w' hSw => by kernel_rfl⟩) hS0 ?_
      simp only [Act.put, List.setIfInBounds_toArray, List.set_cons_zero, List.set_cons_succ]
      refine takeR (i := 6) (v := .pointer (some ⟨g2, of2 + i * 5, none⟩)) (some 23) rfl rfl (by kernel_rfl) (by kernel_rfl) (by kernel_rfl) (fun _ _ _ h => h) (Or.inl ⟨by kernel_rfl, fun w' hSw => by exact ixFl_run (n := n) (c := d) (.tmp 21) (.tmp 22) rfl (by kernel_rfl) (by kernel_rfl) hlt _⟩) hS0 ?_
      simp only [Act.put, List.setIfInBounds_toArray, List.set_cons_zero, List.set_cons_succ]
      refine takeR (i := 7) (v := .agg (flA f)) (some 24) rfl rfl (by kernel_rfl) (by kernel_rfl) (by kernel_rfl) (fun _ _ _ h => h) (Or.inl ⟨by kernel_rfl, fun w' hSw => by exact ldA_run (HG.out _ hSw).2 Try.underlying39 rfl infoFz (.tmp 23) rfl (by kernel_rfl)⟩) hS0 ?_
      simp only [Act.put, List.setIfInBounds_toArray, List.set_cons_zero, List.set_cons_succ]
      refine takeR (i := 8) (v := .bool false) (some 25) rfl rfl (by kernel_rfl) (by kernel_rfl) (by kernel_rfl) (fun _ _ _ h => h) (Or.inl ⟨by kernel_rfl, fun w' hSw => by exact neFl_run f (.tmp 20) (.tmp 24) rfl (by kernel_rfl) (by kernel_rfl) _⟩) hS0 ?_
      simp only [Act.put, List.setIfInBounds_toArray, List.set_cons_zero, List.set_cons_succ]
      refine wpAnyH_done (by kernel_rfl) ?_ _
      have HW3 : Hid (Below w.heap.size w Z0) := below_step HW.out hS0
      clear hS0 HG HW
      generalize Z0 = w3 at *
      refine hK _ _ ?_
      clear hK
      go_wp2
      exact ⟨⟨i + 1, by omega, by go_num, HW3.out⟩, by simp [RowKit.intOf]; omega⟩
    · have hlt' : ¬ (i : Int) < (n : Int) := by omega
      go_wp2
      go_ret
      exact ⟨rfl, HW.out⟩
/-- (i + pick) % n, as the law reckons it. -/
theorem pickW_any (c n : Int) (hc : -9223372036854775808 ≤ c ∧ c ≤ 9223372036854775807) (hn : 0 < n ∧ n ≤ 9223372036854775807) (w : World) : Calls Try.prog 8 #[.int .i64 c, .int .i64 n] w fun e w' => e = .returned (.int .i64 (pk c n)) ∧ w' = w := by
  have hn0 : ¬ n = 0 := by omega
  have hn1 : ¬ n = -1 := by omega
  have hnb : (n == 0) = false := by simp [hn0]
  have hnc : (n == -1) = false := by simp [hn1]
  by_cases h : c < 0
  · have e1 : IntKind.i64.wrap (c + 1) = c + 1 := by rw [IntKind.wrap_i64]; omega
    have e2 : IntKind.i64.wrap (-(c + 1)) = -(c + 1) := by rw [IntKind.wrap_i64]; omega
    have ht : Int.tmod (-(c + 1)) n = pk c n := by unfold pk; rw [if_pos h]; exact Int.tmod_eq_emod_of_nonneg (by omega)
    have hb := pk_bd c hn.1
    have e3 : IntKind.i64.wrap (pk c n) = pk c n := by rw [IntKind.wrap_i64]; omega
    generalize pk c n = R at *
    go_enter Try.func8, Try.ntmps8
    go_wp2
    go_ret
    exact ⟨by simp_all, rfl⟩
  · have ht : Int.tmod c n = pk c n := by unfold pk; rw [if_neg h]; exact Int.tmod_eq_emod_of_nonneg (by omega)
    have hb := pk_bd c hn.1
    have e3 : IntKind.i64.wrap (pk c n) = pk c n := by rw [IntKind.wrap_i64]; omega
    generalize pk c n = R at *
    go_enter Try.func8, Try.ntmps8
    go_wp2
    go_ret
    exact ⟨by simp_all, rfl⟩
end Go.Proofs.Ytbhddfcdnpidkaa

namespace Go.Proofs.Ytbhddfcdnpidkaa
set_option linter.unusedVariables false
set_option linter.unusedSimpArgs false
open Go.RowKit Go.Great
attribute [local irreducible] wpList

theorem geV_run {op : Oper} {a : Act} {p q : Int} {r : Bool} (x y : Operand) (ho : op.op = .binOp .geq 2 x y 2) (hx : a.eval x = .int .i64 p) (hy : a.eval y = .int .i64 q) (hr : decide (q ≤ p) = r) (w : World) : (execOp a.eval op).run Try.prog w = .ok (.value (.bool r)) w := by
  subst hr
  unfold execOp
  simp only [ho, hx, hy]
  go_simp
theorem leV_run {op : Oper} {a : Act} {p q : Int} {r : Bool} (x y : Operand) (ho : op.op = .binOp .leq 2 x y 2) (hx : a.eval x = .int .i64 p) (hy : a.eval y = .int .i64 q) (hr : decide (p ≤ q) = r) (w : World) : (execOp a.eval op).run Try.prog w = .ok (.value (.bool r)) w := by
  subst hr
  unfold execOp
  simp only [ho, hx, hy]
  go_simp
theorem row_rangeO {w : World} {g o c i n : Nat} {l : List Od} {p : Od} (h : RowAt w 42 15 (.slice (some ⟨g, o, none⟩) n c) n (flatL (fun o => o.cs.toList) l)) (hok : ∀ o ∈ l, o.ok) (hp : l[i]? = some p) : w.rangeAt g (o + i * 15) p.cs.toList := fun j u hu => by
  have hj : j < 15 := by
    have := (List.getElem?_eq_some_iff.1 hu).1
    rw [Array.length_toList, (hok p (List.mem_of_getElem? hp)).sz] at this
    exact this
  have := od_cell h hok hp hj (u := u) (by rw [← Array.getElem?_toList]; exact hu)
  exact this
end Go.Proofs.Ytbhddfcdnpidkaa

namespace Go.Proofs.Ytbhddfcdnpidkaa
set_option linter.unusedVariables false
set_option linter.unusedSimpArgs false
open Go.RowKit Go.Great
attribute [local irreducible] wpList

theorem res_bd {b s : List Od} {B S : List Wn} (h : Rws b s B S) (hbl : B.length ≤ 4398046511104) (hsl : S.length ≤ 4398046511104) {ref : Int} (href : 0 ≤ ref ∧ ref ≤ 1000000000) {r : Rs} (hr : r = resOf ref (ptsOf B S (cndL (gat ref B S 2)))) : (0 ≤ r.qty ∧ r.qty ≤ 9223372036854775807) ∧ 0 ≤ r.price ∧ r.price ≤ 1000000000 := by
  rcases resOf_cases ref (pts_asc (h.cnd ref)) with ⟨_, e⟩ | ⟨p, hc, e⟩
  · rw [hr, e]
    show (0 ≤ (0 : Int) ∧ (0 : Int) ≤ 9223372036854775807) ∧ 0 ≤ (0 : Int) ∧ (0 : Int) ≤ 1000000000
    omega
  · obtain ⟨h1, h2, _⟩ := bestL_mem.1 hc.1
    obtain ⟨k1, k2⟩ := h.pts hbl hsl href p h1
    rw [hr, e]
    show (0 ≤ p.tr ∧ p.tr ≤ 9223372036854775807) ∧ 0 ≤ p.c ∧ p.c ≤ 1000000000
    have k3 := k1.nn
    unfold okP at k1
    unfold inP at k2
    refine ⟨⟨k3, ?_⟩, k2⟩
    unfold Pt.tr
    split <;> omega
theorem Rws.lens {b s : List Od} {B S : List Wn} (h : Rws b s B S) : B.length ≤ b.length ∧ S.length ≤ s.length := by
  have h1 : (wns b).length ≤ b.length := List.length_filterMap_le _ _
  have h2 : (wns s).length ≤ s.length := List.length_filterMap_le _ _
  rw [h.pb.length_eq, h.ps.length_eq]
  exact ⟨h1, h2⟩
/-- The same result, in whatever order. -/
theorem res_one {b b' s s' : List Od} {B B' S S' : List Wn} {ref : Int} (pb : b'.Perm b) (ps : s'.Perm s) (h : Rws b s B S) (h' : Rws b' s' B' S') : resOf ref (ptsOf B' S' (cndL (gat ref B' S' 2))) = resOf ref (ptsOf B S (cndL (gat ref B S 2))) :=
  resOf_perm ((h'.pb.trans (pb.filterMap _)).trans h.pb.symm) ((h'.ps.trans (ps.filterMap _)).trans h.ps.symm) (h'.cnd ref) (h.cnd ref)
theorem fills_len {r : Rs} {b s : List Od} {F : List Fl} (h : FV b s r F) : F.length ≤ b.length + s.length := by
  rcases h with ⟨_, rfl⟩ | ⟨h1, h2, B, S, h3, rfl⟩
  · exact Nat.zero_le _
  · have hl := h3.lens
    have l1 : (B.takeWhile (atB r.price)).length ≤ B.length := (List.takeWhile_prefix _).length_le
    have l2 : (S.takeWhile (atS r.price)).length ≤ S.length := (List.takeWhile_prefix _).length_le
    have key : ∀ (k : Nat) (left : Int) (X Y : List Wn), (fillsF r.price k left X Y).length ≤ k := fun k => by
      induction k with
      | zero => intro _ _ _; exact Nat.le_refl _
      | succ k ih =>
        intro left X Y
        cases X with
        | nil => exact Nat.zero_le _
        | cons x X =>
          cases Y with
          | nil => exact Nat.zero_le _
          | cons y Y =>
            unfold fillsF
            split
            · simp only [List.length_cons]
              have := ih (left - mnF left x y) (lessL (mnF left x y) (x :: X)) (lessL (mnF left x y) (y :: Y))
              omega
            · exact Nat.zero_le _
    have := key ((B.takeWhile (atB r.price)).length + (S.takeWhile (atS r.price)).length) r.qty (B.takeWhile (atB r.price)) (S.takeWhile (atS r.price))
    omega
/-! Orders, the last one first; and from some place on, round about. -/
def revT (D : List Od) (k : Nat) : List Od := (D.drop (D.length - k)).reverse
theorem revT_zero (D : List Od) : revT D 0 = [] := by unfold revT; rw [Nat.sub_zero, List.drop_length]; rfl
theorem revT_all (D : List Od) : revT D D.length = D.reverse := by unfold revT; rw [Nat.sub_self, List.drop_zero]
theorem revT_len {D : List Od} {k : Nat} (hk : k ≤ D.length) : (revT D k).length = k := by unfold revT; rw [List.length_reverse, List.length_drop]; omega
theorem revT_succ {D : List Od} {k : Nat} {o : Od} (hk : k < D.length) (ho : D[D.length - 1 - k]? = some o) : revT D (k + 1) = revT D k ++ [o] := by
  unfold revT
  have e : D.drop (D.length - (k + 1)) = o :: D.drop (D.length - k) := by
    have := List.drop_eq_getElem_cons (l := D) (i := D.length - (k + 1)) (by omega)
    rw [this]
    have h1 : D[D.length - (k + 1)]'(by omega) = o := by
      have h2 : D[D.length - (k + 1)]? = some o := by rw [show D.length - (k + 1) = D.length - 1 - k by omega]; exact ho
      rw [List.getElem?_eq_getElem (by omega)] at h2
      exact Option.some.inj h2
    rw [h1, show D.length - (k + 1) + 1 = D.length - k by omega]
  rw [e, List.reverse_cons]
def rotL (D : List Od) (s : Nat) : List Od := D.drop s ++ D.take s
theorem rotL_len {D : List Od} {s : Nat} (hs : s ≤ D.length) : (rotL D s).length = D.length := by unfold rotL; rw [List.length_append, List.length_drop, List.length_take]; omega
theorem rotL_perm (D : List Od) (s : Nat) : (rotL D s).Perm D := by
  unfold rotL
  exact List.perm_append_comm.trans (by rw [List.take_append_drop])
theorem rotL_get {D : List Od} {s i : Nat} (hs : s < D.length) (hi : i < D.length) : (rotL D s)[i]? = D[(i + s) % D.length]? := by
  unfold rotL
  by_cases h : i + s < D.length
  · rw [List.getElem?_append_left (by rw [List.length_drop]; omega), List.getElem?_drop, Nat.mod_eq_of_lt h, Nat.add_comm]
  · have e : (i + s) % D.length = i + s - D.length := by
      rw [Nat.mod_eq_sub_mod (by omega), Nat.mod_eq_of_lt (by omega)]
    rw [List.getElem?_append_right (by rw [List.length_drop]; omega), List.length_drop, List.getElem?_take_of_lt (by omega), e]
    congr 1
    omega
/-- An order as the law makes it. -/
def OdC (o : Od) : Prop := o = ⟨odC o.id o.ty o.pr o.qt, o.id, o.ty, o.pr, o.qt⟩
theorem odsL_odc : ∀ (l : List Rw) (f : Int), ∀ o ∈ odsL f l, OdC o
  | [], _, o, h => by simp [odsL] at h
  | r :: l, f, o, h => by
    rcases List.mem_cons.1 h with rfl | h
    · rfl
    · exact odsL_odc l _ o h
/-- What the law holds of its orders. -/
structure DD (D : List Od) : Prop where
  ok : ∀ o ∈ D, o.ok
  gd : ∀ o ∈ D, Gd o
  odc : ∀ o ∈ D, OdC o
  nd : (D.map (·.id)).Nodup
  len : D.length ≤ 2000000
theorem DD.of (l : List Rw) (f : Int) (h : l.length ≤ 2000000) : DD (odsL f l) := ⟨odsL_ok _ _, odsL_gd _ _, odsL_odc _ _, (odsL_ids l f).2, by rw [odsL_len]; exact h⟩
/-- What stands all along. -/
structure AF (w W : World) (D E : List Od) (F : List Fl) (av az af : Option Addr) (cv cs cf g : Nat) (r : Rs) : Prop where
  bel : Below w.heap.size w W
  rb : RowAt W 42 15 (.slice av D.length cv) D.length (flatL (fun o => o.cs.toList) D)
  rs : RowAt W 42 15 (.slice az E.length cs) E.length (flatL (fun o => o.cs.toList) E)
  rf : RowAt W 39 5 (.slice af F.length cf) F.length (flatL flL F)
  blk : Blk W g 28 r.cs
theorem AF.below {w W W' : World} {D E : List Od} {F : List Fl} {av az af : Option Addr} {cv cs cf g : Nat} {r : Rs} (h : AF w W D E F av az af cv cs cf g r) (hb : Below W.heap.size W W') : AF w W' D E F av az af cv cs cf g r := ⟨below_step h.bel hb, h.rb.fr (Fr.of_below hb (fun _ => False)) fun _ _ => id, h.rs.fr (Fr.of_below hb (fun _ => False)) fun _ _ => id, h.rf.fr (Fr.of_below hb (fun _ => False)) fun _ _ => id, h.blk.below hb h.blk.lt⟩
end Go.Proofs.Ytbhddfcdnpidkaa

namespace Go.Proofs.Ytbhddfcdnpidkaa
set_option linter.unusedVariables false
set_option linter.unusedSimpArgs false
open Go.RowKit Go.Great

/-- A row that can be read, in whatever block. -/
def RowIn (w : World) (e : TypeId) (size : Nat) (v : Value) (n : Nat) (xs : List Value) : Prop :=
  xs.length = n * size ∧ ∃ ao cap, v = .slice ao n cap ∧ n ≤ cap ∧ cap ≤ maxLen ∧
    (0 < n → ∃ g off, ao = some ⟨g, off, none⟩ ∧ ∀ (j : Nat) (u : Value), xs[j]? = some u → w.cell? ⟨g, off + j, none⟩ = some u)
section
variable {w w' : World} {e : TypeId} {size n : Nat} {v : Value} {xs : List Value}
theorem RowIn.form (h : RowIn w e size v n xs) : ∃ ao cap, v = .slice ao n cap ∧ n ≤ cap := by
  obtain ⟨_, ao, cap, h1, h2, _⟩ := h
  exact ⟨ao, cap, h1, h2⟩
theorem RowIn.more (h : RowIn w e size v n xs) (hn : 0 < n) : ∃ (g off cap : Nat) (cur : Unit), v = .slice (some ⟨g, off, none⟩) n cap ∧ n ≤ cap := by
  obtain ⟨_, ao, cap, h1, h2, _, h4⟩ := h
  obtain ⟨g, off, rfl, _⟩ := h4 hn
  exact ⟨g, off, cap, (), h1, h2⟩
theorem RowIn.cell {g off cap : Nat} (h : RowIn w e size v n xs) (hv : v = .slice (some ⟨g, off, none⟩) n cap) {j : Nat} {u : Value} (hj : xs[j]? = some u) : w.cell? ⟨g, off + j, none⟩ = some u := by
  obtain ⟨h0, ao, cap', h1, h2, _, h4⟩ := h
  have hn : 0 < n := by
    have := (List.getElem?_eq_some_iff.1 hj).1
    rcases Nat.eq_zero_or_pos n with q | q
    · subst q
      simp [h0] at this
    · exact q
  obtain ⟨g', off', rfl, h5⟩ := h4 hn
  rw [hv] at h1
  injection h1 with h1 _ _
  injection h1 with h1
  injection h1 with h1 h1' _
  subst h1 h1'
  exact h5 j u hj
theorem RowIn.fr {ex : Nat → Prop} (h : RowIn w e size v n xs) (hf : Fr w w' ex) (hn : ∀ g, v.ownBlock = some g → ¬ ex g) : RowIn w' e size v n xs := by
  obtain ⟨h0, ao, cap', h1, h2, h3, h4⟩ := h
  refine ⟨h0, ao, cap', h1, h2, h3, fun hp => ?_⟩
  obtain ⟨g, off, rfl, h5⟩ := h4 hp
  exact ⟨g, off, rfl, fun j u hj => hf.cell (h5 j u hj) (hn g (by rw [h1]; rfl))⟩
theorem RowAt.inn (h : RowAt w e size v n xs) : RowIn w e size v n xs := by
  refine ⟨h.1, ?_⟩
  rcases h.2 with ⟨rfl, rfl⟩ | ⟨g, off, cap, cur, rfl, h2, h3, h4, _⟩
  · exact ⟨none, 0, rfl, Nat.le_refl _, by decide, fun hn => absurd hn (by decide)⟩
  · exact ⟨_, cap, rfl, h3, h4, fun _ => ⟨g, off, rfl, fun j u hj => h.cell rfl hj⟩⟩
end
theorem od_cellI {w : World} {g o c i j n : Nat} {l : List Od} {p : Od} {u : Value} (h : RowIn w 42 15 (.slice (some ⟨g, o, none⟩) n c) n (flatL (fun o => o.cs.toList) l)) (hok : ∀ o ∈ l, o.ok) (hp : l[i]? = some p) (hj : j < 15) (hu : p.cs[j]? = some u) : w.cell? ⟨g, o + i * 15 + j, none⟩ = some u := by
  have hlen : ∀ o ∈ l, ((fun o : Od => o.cs.toList) o).length = 15 := fun o h => (Array.length_toList).trans (hok o h).sz
  have := h.cell rfl (j := i * 15 + j) (u := u) (by rw [flatL_getM hlen hp hj]; simpa using hu)
  rw [← Nat.add_assoc] at this
  exact this
theorem row_rangeOI {w : World} {g o c i n : Nat} {l : List Od} {p : Od} (h : RowIn w 42 15 (.slice (some ⟨g, o, none⟩) n c) n (flatL (fun o => o.cs.toList) l)) (hok : ∀ o ∈ l, o.ok) (hp : l[i]? = some p) : w.rangeAt g (o + i * 15) p.cs.toList := fun j u hu => by
  have hj : j < 15 := by
    have := (List.getElem?_eq_some_iff.1 hu).1
    rw [Array.length_toList, (hok p (List.mem_of_getElem? hp)).sz] at this
    exact this
  have := od_cellI h hok hp hj (u := u) (by rw [← Array.getElem?_toList]; exact hu)
  exact this
end Go.Proofs.Ytbhddfcdnpidkaa
