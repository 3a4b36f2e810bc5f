import Derived.Test.YtdncemecnbglaaaA37

namespace Go.Proofs.Ytdncemecnbglaaa
set_option linter.unusedVariables false
set_option linter.unusedSimpArgs false
open Go.RowKit Go.Great Go.Maps

theorem Stp.low {t B0 : Nat} {ex : Nat → Prop} {G G' : Gh} {w w' : World} (h : Stp t ex G w G' w') (hB : B0 ≤ w.heap.size) (hG : ∀ q, G q ≠ (0, 0) → B0 ≤ q) (hx : ∀ q, ex q → B0 ≤ q) : Below B0 w w' ∧ ∀ q, G' q ≠ (0, 0) → B0 ≤ q := by
  have hG' : ∀ q, G' q ≠ (0, 0) → B0 ≤ q := fun q hq => by
    by_cases hl : q < w.heap.size
    · rcases h.col q hl with e | ⟨e, _⟩
      · exact hG q (by rw [← e]; exact hq)
      · exact hG q fun e2 => by rw [e2] at e; simp at e
    · omega
  refine ⟨⟨h.os, h.tape, h.output, h.size, fun q hq => ?_⟩, hG'⟩
  rcases h.block q (by omega) (fun e => by have := hx q e; omega) with e | ⟨m, _, _, _, e, _⟩
  · exact e
  · have := hG' q (by rw [e]; simp)
    omega
theorem Fr.low {B0 : Nat} {ex : Nat → Prop} {w w' : World} (h : Fr w w' ex) (hB : B0 ≤ w.heap.size) (hx : ∀ q, ex q → B0 ≤ q) : Below B0 w w' := h.below hB fun q hq e => by have := hx q e; omega
/-- The pair, with another desk. -/
def PR.dk (P : PR) (v : Value) (n : Nat) : PR := { P with c := { P.c with d := v }, dn := n }
theorem PR.dk_own (P : PR) (v : Value) (n : Nat) (q : Nat) : (P.dk v n).own q ↔ P.own q := Iff.rfl
theorem StepR.comp {s N : Nat} {G G1 : Gh} {w W w' : World} {P P1 : PR} (h1 : Stp (1000 + s) P.own G w G1 W) (h2 : StepR s G1 W P1 N w') (hp : P1.p = P.p) (ho : ∀ q, P1.own q ↔ P.own q) : StepR s G w P N w' := by
  obtain ⟨G', P', k1, k2, k3, k4⟩ := h2
  refine ⟨G', P', k1, k2.trans hp, h1.trans k3 fun q _ e => (ho q).1 e, fun q hq => ?_⟩
  rcases k4 q hq with e | e
  · exact .inl ((ho q).1 e)
  · exact .inr (Nat.le_trans h1.size e)
theorem StepR.comp2 {s N M : Nat} {G : Gh} {w W w' : World} {P : PR} (h1 : StepR s G w P N W) (h2 : ∀ G1 P1, PrAt s G1 W P1 N → P1.p = P.p → StepR s G1 W P1 M w') : StepR s G w P M w' := by
  obtain ⟨G1, P1, a1, a2, a3, a4⟩ := h1
  obtain ⟨G', P', k1, k2, k3, k4⟩ := h2 G1 P1 a1 a2
  refine ⟨G', P', k1, k2.trans a2, a3.trans k3 fun q hl e => ?_, fun q hq => ?_⟩
  · rcases a4 q e with e | e
    · exact e
    · omega
  · rcases k4 q hq with e | e
    · exact a4 q e
    · exact .inr (Nat.le_trans a3.size e)
/-- The desk, as bytes. -/
theorem MkA.desk {w : World} {G : Gh} {v : Value} {n : Nat} (h : MkA w G 5 1 300 v n) : ∃ xs : List Nat, RowAt w 5 1 v n (bvals xs) ∧ xs.length = n ∧ BB xs := by
  obtain ⟨ys, r, hy, _⟩ := h
  have key : ∀ l : List Value, (∀ x ∈ l, Cm G 5 300 x) → ∃ xs : List Nat, l = bvals xs ∧ BB xs := by
    intro l
    induction l with
    | nil => intro _; exact ⟨[], rfl, fun x hx => (by cases hx)⟩
    | cons a t ih =>
      intro hl
      obtain ⟨xs, e, hb⟩ := ih fun x hx => hl x (List.mem_cons_of_mem _ hx)
      obtain ⟨y, hy, hay⟩ : ∃ y : Nat, y < 256 ∧ a = .int .u8 (y : Int) := by
        rcases hl a (List.mem_cons_self ..) with ⟨_, ⟨_, h⟩ | ⟨_, h⟩⟩ | ⟨h, _⟩ | ⟨h, _⟩
        · omega
        · exact h
        · exact absurd h (by decide)
        · exact absurd h (by decide)
      refine ⟨y :: xs, by rw [e, hay]; rfl, fun x hx => ?_⟩
      rcases List.mem_cons.1 hx with rfl | hx
      · exact hy
      · exact hb x hx
  obtain ⟨xs, e, hb⟩ := key ys hy
  refine ⟨xs, by rw [← e]; exact r, ?_, hb⟩
  have := r.1
  rw [e, bvals_length] at this
  omega
theorem RowAt.pre {w : World} {e : TypeId} {size g off n cap m : Nat} {xs : List Value} (h : RowAt w e size (.slice (some ⟨g, off, none⟩) n cap) n xs) (hm : m ≤ n) : RowAt w e size (.slice (some ⟨g, off, none⟩) m cap) m (xs.take (m * size)) := by
  have hle : m * size ≤ n * size := Nat.mul_le_mul_right _ hm
  refine ⟨by rw [List.length_take, h.1]; exact Nat.min_eq_left hle, ?_⟩
  rcases h.2 with ⟨h0, _⟩ | ⟨g', off', cap', cur, h1, h2, h3, h4, h5, h6⟩
  · cases h0
  · injection h1 with h1 _ hc
    injection h1 with h1
    injection h1 with h1 h1' _
    subst h1 h1' hc
    exact .inr ⟨g, off, cap, cur, rfl, h2, Nat.le_trans hm h3, h4, h5, by rw [← h6, List.take_take, Nat.min_eq_left hle]⟩
/-- A marked block is written. -/
theorem Stp.marked {s g m : Nat} {G : Gh} {w w' : World} {cur cur' : Array Value} {T : TypeId} (gi : Gi G w) (hg : G g = (2, m)) (hf : Fr w w' (fun q => q = g)) (hb : w.heap[g]? = some (.cells cur T (0, 0))) (hb' : w'.heap[g]? = some (.cells cur' T (0, 0))) (hs : cur'.size = cur.size) (hx : ∀ (j : Nat) x, cur'[j]? = some x → cur[j]? = some x ∨ Cm G T m x) : Stp s (fun _ => False) G w G w' := by
  have hT : hotT T := by
    obtain ⟨c, U, h1, h2⟩ := gi.ty g (by rw [hg]; simp)
    rw [hb] at h1
    injection h1 with h1
    injection h1 with _ h1 _
    rw [h1]; exact h2
  refine ⟨hf.os, hf.tape, hf.output, hf.size, gi, ⟨fun q hq => ?_, fun q j hq => ?_⟩, fun _ _ => .inl rfl, fun _ _ _ h => h.elim, fun q hq _ => ?_⟩
  · by_cases e : q = g
    · subst e; exact ⟨_, T, hb', hT⟩
    · obtain ⟨c, U, h1, h2⟩ := gi.ty q hq
      exact ⟨c, U, (hf.block q (gi.lt hq) e).trans h1, h2⟩
  · have hne : q ≠ g := fun e => by subst e; rw [hg] at hq; simp at hq
    exact (hf.block q (gi.lt (by rw [hq]; simp)) hne).trans (gi.inn q j hq)
  · by_cases e : q = g
    · subst e; exact .inr ⟨m, cur, cur', T, hg, hb, hb', hs, hx⟩
    · exact .inl (hf.block q hq e)
theorem bvals_dropA (l : List Nat) (k : Nat) : bvals (l.drop k) = (bvals l).drop k := by unfold bvals; rw [List.map_drop]
theorem desk_copy {s g o m cap : Nat} (ty : TypeId) {G : Gh} {w : World} {xs l : List Nat} {bv : Value} (gi : Gi G w) (hg : G g = (2, 300)) (hD : RowAt w 5 1 (.slice (some ⟨g, o, none⟩) m cap) m (bvals xs)) (hxb : BB xs) (hB : By w bv l) (hl : l.length ≤ m) :
    ∃ w', (Builtin.copy_ #[35, 35] ty #[.slice (some ⟨g, o, none⟩) m cap, bv]).run Try.prog w = .ok (.int .i64 (l.length : Int)) w' ∧ RowAt w' 5 1 (.slice (some ⟨g, o, none⟩) m cap) m (bvals (l ++ xs.drop l.length)) ∧ Stp s (fun _ => False) G w G w' := by
  obtain ⟨a, c, rfl, h1, h2, h3⟩ := hB.ex
  rcases h3 with h3 | ⟨b, off, rfl, h3⟩
  · subst h3
    refine ⟨w, run_copy_none (P := Try.prog) w 35 35 ty 5 _ a m cap 0 c Try.underlying35 size5 (by simp), ?_, Stp.refl0 gi⟩
    simpa using hD
  · have hml : (bvals xs).length = m * 1 := hD.1
    rw [bvals_length, Nat.mul_one] at hml
    rcases hD.2 with ⟨h0, _⟩ | ⟨g', off', cap', cur, e1, e2, e3, e4, e5, e6⟩
    · cases h0
    · injection e1 with e1 _ ec
      injection e1 with e1
      injection e1 with e1 e1' _
      subst e1 e1' ec
      have hfit : o + (bvals l).length ≤ cur.size := by rw [bvals_length]; omega
      have hr := run_copy_row (P := Try.prog) w 35 35 ty 5 g o m cap ⟨b, off, none⟩ l.length c cur 5 (bvals l) Try.underlying35 size5 e2 (by rw [bvals_length]; exact (Nat.min_eq_left hl).symm) (fun j v hv => by
        rw [Addr.add_mid]
        unfold bvals at hv
        rw [List.getElem?_map] at hv
        cases hx : l[j]? with
        | none => rw [hx] at hv; cases hv
        | some y =>
          rw [hx] at hv
          have e : .int .u8 (y : Int) = v := by simpa using hv
          subst e
          exact h3 j y hx) hfit (bvals_one l)
      have hn := setRow_heap w g cur (cur.toList.take o ++ bvals l ++ cur.toList.drop (o + (bvals l).length)).toArray 5 (0, 0) e2
      have hsz : (cur.toList.take o ++ bvals l ++ cur.toList.drop (o + (bvals l).length)).toArray.size = cur.size := by
        simp only [List.size_toArray, List.length_append, List.length_take, List.length_drop, Array.length_toList]; omega
      refine ⟨_, by rw [hr, bvals_length]; rfl, ⟨by rw [bvals_length, List.length_append, List.length_drop]; omega, .inr ⟨g, o, cap, _, rfl, hn, e3, e4, by rw [hsz]; exact e5, ?_⟩⟩, Stp.marked gi hg ⟨rfl, rfl, rfl, by simp, fun q hq hne => setRow_other w g q _ hne⟩ e2 hn hsz fun j x hx => ?_⟩
      · rw [bvals_append, bvals_dropA, ← e6]
        rw [List.append_assoc, List.drop_append_of_le_length (by rw [List.length_take, Array.length_toList]; omega), List.drop_take, Nat.sub_self, List.take_zero, List.nil_append, List.drop_take, List.drop_drop, bvals_length, Nat.mul_one]
        rw [List.take_append, bvals_length, List.take_of_length_le (by rw [bvals_length]; exact hl)]
      · rw [List.getElem?_toArray] at hx
        by_cases hj1 : j < o
        · left
          rw [List.append_assoc, List.getElem?_append_left (by rw [List.length_take, Array.length_toList]; omega), List.getElem?_take, if_pos hj1, Array.getElem?_toList] at hx
          exact hx
        · rw [List.append_assoc, List.getElem?_append_right (by rw [List.length_take, Array.length_toList]; omega)] at hx
          have hlt : (cur.toList.take o).length = o := by rw [List.length_take, Array.length_toList]; omega
          rw [hlt] at hx
          by_cases hj2 : j - o < (bvals l).length
          · rw [List.getElem?_append_left hj2] at hx
            right
            unfold bvals at hx
            rw [List.getElem?_map] at hx
            cases hy : l[j - o]? with
            | none => rw [hy] at hx; cases hx
            | some y =>
              rw [hy] at hx
              have e : .int .u8 (y : Int) = x := by simpa using hx
              exact .inl ⟨rfl, .inr ⟨rfl, y, hB.bb y (List.mem_of_getElem? hy), e.symm⟩⟩
          · rw [List.getElem?_append_right (by omega), List.getElem?_drop, Array.getElem?_toList] at hx
            left
            rw [show o + (bvals l).length + (j - o - (bvals l).length) = j by omega] at hx
            exact hx
theorem desk_set {s g o m cap i y : Nat} {G : Gh} {w : World} {xs : List Nat} (gi : Gi G w) (hg : G g = (2, 300)) (hD : RowAt w 5 1 (.slice (some ⟨g, o, none⟩) m cap) m (bvals xs)) (hi : i < m) (hy : y < 256) : RowAt (w.setCell ⟨g, o + i, none⟩ (.int .u8 (y : Int))) 5 1 (.slice (some ⟨g, o, none⟩) m cap) m (bvals (xs.set i y)) ∧ Stp s (fun _ => False) G w G (w.setCell ⟨g, o + i, none⟩ (.int .u8 (y : Int))) := by
  obtain ⟨_, cur, hc⟩ := hD.lt (g := g) rfl
  refine ⟨?_, Stp.set gi hg hc (.inl ⟨rfl, .inr ⟨rfl, y, hy, rfl⟩⟩)⟩
  have := hD.setE (u := .int .u8 (y : Int)) hi
  have e : (bvals xs).set i (.int .u8 (y : Int)) = bvals (xs.set i y) := by unfold bvals; rw [List.map_set]
  rw [← e]; exact this
end Go.Proofs.Ytdncemecnbglaaa

namespace Go.Proofs.Ytdncemecnbglaaa
set_option linter.unusedVariables false
set_option linter.unusedSimpArgs false
open Go.RowKit Go.Great Go.Maps

theorem mul2_run {op : Oper} {a : Act} {p : Nat} (x : Operand) (ho : op.op = .binOp .mul 3 (.const (.int .i64 2)) x 3) (hx : a.eval x = .int .i64 (p : Int)) (hp : 2 * p ≤ 9223372036854775807) (w : World) : (execOp a.eval op).run Try.prog w = .ok (.value (.int .i64 ((2 * p : Nat) : Int))) w := by
  have h3 : IntKind.i64.wrap (2 * (p : Int)) = 2 * (p : Int) := by rw [IntKind.wrap_i64]; omega
  have e : a.eval (.const (.int .i64 2)) = .int .i64 2 := rfl
  unfold execOp
  simp only [ho, hx, e]
  go_simp
theorem mkB_run {op : Oper} {a : Act} {n : Nat} (x y : Operand) (ho : op.op = .makeSlice 35 x y) (hx : a.eval x = .int .i64 (n : Int)) (hy : a.eval y = .int .i64 (n : Int)) (hn : n ≤ 281474976710656) (w : World) : (execOp a.eval op).run Try.prog w = .ok (.value (.slice (some ⟨w.heap.size, 0, none⟩) n n)) (w.alloc (.cells (madeCells #[Value.int .u8 0] n) 5)) := by
  obtain ⟨i0, hi, hz0, hz1, hz2⟩ := info_parts info5
  have h := run_make (P := Try.prog) w 35 5 i0 (.int .u8 0) Try.underlying35 hi hz0 .i64 .i64 (n : Int) (n : Int) (by omega) (Int.le_refl _) (by rw [hz2]; omega) (by omega)
  have e : madeCells (Value.int .u8 0).cells ((n : Int).toNat * i0.size) = madeCells #[Value.int .u8 0] n := by rw [hz1, Int.toNat_natCast, Nat.mul_one]; rfl
  rw [e, Int.toNat_natCast] at h
  unfold execOp
  simp only [ho, hx, hy, h, Sem.run_bind, Result.andThen_ok]
  rfl
theorem ldP_run {op : Oper} {a : Act} {w : World} {g o : Nat} {ad : Addr} {T : TypeId} (hT : T = 24 ∨ T = 45) (x : Operand) (ho : op.op = .load T x) (hx : a.eval x = .pointer (some ⟨g, o, none⟩)) (h : w.cell? ⟨g, o, none⟩ = some (.pointer (some ad))) : (execOp a.eval op).run Try.prog w = .ok (.value (.pointer (some ad))) w := by
  unfold execOp
  simp only [ho, hx]
  rcases hT with rfl | rfl <;> go_simp
theorem exec_copy {op : Oper} {a : Act} {w w' : World} {v v1 v2 : Value} {t u : TypeId} (x y : Operand) (ho : op.op = .call { callee := .builtin .copy, args := #[x, y], argTypes := #[t, u] }) (hx : a.eval x = v1) (hy : a.eval y = v2) (hr : (Builtin.copy_ #[t, u] op.type #[v1, v2]).run Try.prog w = .ok v w') : (execOp a.eval op).run Try.prog w = .ok (.value v) w' := by
  unfold execOp
  simp only [ho, resolve, invoke, builtin, Sem.run_bind, Sem.run_pure, Result.andThen_ok, List.map_toArray, List.map_cons, List.map_nil, hx, hy, hr]
theorem ne8_run {op : Oper} {a : Act} {p : Nat} (x y : Operand) (ho : op.op = .binOp .neq 5 x y 5) (hx : a.eval x = .int .u8 (p : Int)) (hy : a.eval y = .int .u8 (p : Int)) (w : World) : (execOp a.eval op).run Try.prog w = .ok (.value (.bool false)) w := by
  have h1 : ((p : Int) != (p : Int)) = false := by simp
  unfold execOp
  simp only [ho, hx, hy]
  go_simp
theorem geqN_run {op : Oper} {a : Act} {p q : Nat} {r : Bool} (x y : Operand) (ho : op.op = .binOp .geq 3 x y 3) (hx : a.eval x = .int .i64 (p : Int)) (hy : a.eval y = .int .i64 (q : Int)) (hr : decide (q ≤ p) = r) (w : World) : (execOp a.eval op).run Try.prog w = .ok (.value (.bool r)) w := by
  have h1 : decide ((q : Int) ≤ (p : Int)) = r := by
    rw [← hr]
    by_cases h : q ≤ p
    · rw [decide_eq_true h, decide_eq_true (by omega)]
    · rw [decide_eq_false h, decide_eq_false (by omega)]
  unfold execOp
  simp only [ho, hx, hy]
  go_simp
theorem cut0 {dg o m n c : Nat} (h : n ≤ c) : cutV (.slice (some ⟨dg, o, none⟩) m c) 0 n c = .slice (some ⟨dg, o, none⟩) n c := by
  unfold cutV
  have e : (Option.some (⟨dg, o, none⟩ : Addr)).map (·.add 0) = some ⟨dg, o, none⟩ := by
    show some ((⟨dg, o, none⟩ : Addr).add 0) = _
    rw [Addr.add_mid, Nat.add_zero]
  simp only [e, Nat.sub_zero, ite_self]
theorem PrAt.setD {s N n : Nat} {G : Gh} {w : World} {P : PR} {v : Value} (h : PrAt s G w P N) (hv : MkA w G 5 1 300 v n) : PrAt s G (w.setCell ⟨P.p, 7, none⟩ v) (P.dk v n) N := by
  have hf : Fr w (w.setCell ⟨P.p, 7, none⟩ v) (fun q => q = P.p) := Fr.setCell w ⟨P.p, 7, none⟩ v (fun q => q = P.p) rfl
  have hst : Stp s (fun q => q = P.p) G w G (w.setCell ⟨P.p, 7, none⟩ v) := Stp.of_fr h.gi hf fun q cur T hq hc => by subst hq; exact h.blk.nh nhP hc
  have rn : ∀ {e : TypeId} {size n : Nat} {v : Value} {xs : List Value}, RowAt w e size v n xs → e ≠ 54 → ∀ q, v.ownBlock = some q → ¬ q = P.p := fun r he q hq e => by subst e; exact r.ne_type h.blk he hq
  have hpk : ∀ k, PkAt w k → PkAt (w.setCell ⟨P.p, 7, none⟩ v) k := fun k hk => hk.fr hf (rn hk.1 (by decide))
  have hgp : P.g ≠ P.p := fun e => by
    have := h.ab.blk
    rw [e] at this
    exact Blk.neT this h.blk (by decide)
  have hhp : P.h ≠ P.p := fun e => by
    have := h.rb.blk
    rw [e] at this
    exact Blk.neT this h.blk (by decide)
  have hbp : P.b ≠ P.p := fun e => by
    obtain ⟨es, c, hm⟩ := h.ab.map.is
    have h1 := h.blk
    unfold Blk at h1
    rw [e, h1] at hm
    cases hm
  exact ⟨hst.gi, h.ca, h.cb, h.blk.set 7 v, h.ab.fr hf hgp hbp fun k hk => rn (h.ab.pk k hk).1 (by decide), h.gt, h.rb.fr hf (fun q hq => by
      rcases hq with rfl | hq
      · exact hhp
      · exact rn h.rb.row (by decide) q hq) fun k hk => rn (h.rb.pk k hk).1 (by decide), h.rel, h.hs.stp hst (rn h.hs.row (by decide)), h.os.stp nhO hst (rn h.os.row (by decide)), h.rs.stp nhR hst (rn h.rs.row (by decide)), ⟨h.wt.row.fr hf (rn h.wt.row (by decide)), h.wt.col, fun k hk => hpk k (h.wt.pk k hk), h.wt.pc, h.wt.dis⟩, h.sr.fr hf (rn h.sr (by decide)), hv.stp hst, h.kc, h.kd, h.rc, h.kl, h.wl, h.cn, h.eb, h.o4, h.r4, h.ob, h.rb8⟩
/-- Where hears stands, ahead of its calls. -/
structure HSt (s N : Nat) (G : Gh) (w : World) (P : PR) (bx : Nat) (opv : Array Value) (G1 : Gh) (W : World) (vd : Value) (dn : Nat) : Prop where
  pr : PrAt s G1 W (P.dk vd dn) N
  st : Stp (1000 + s) P.own G w G1 W
  bk : Blk W bx 56 opv
  bl : w.heap.size ≤ bx
section
variable {s N bx dn : Nat} {G G1 : Gh} {w W W' : World} {P : PR} {opv : Array Value} {vd : Value}
theorem HSt.below (h : HSt s N G w P bx opv G1 W vd dn) (hb : Below W.heap.size W W') : HSt s N G w P bx opv G1 W' vd dn :=
  ⟨h.pr.below hb, h.st.trans0 (Stp.below h.pr.gi hb), h.bk.fr (Fr.of_below hb (fun _ => False)) id, h.bl⟩
theorem HSt.make (h : HSt s N G w P bx opv G1 W vd dn) (n : Nat) (hn : n ≤ 281474976710656) : ∃ G2, HSt s N G w P bx opv G2 ((W.alloc (.cells (madeCells #[Value.int .u8 0] n) 5)).setCell ⟨P.p, 7, none⟩ (.slice (some ⟨W.heap.size, 0, none⟩) n n)) (.slice (some ⟨W.heap.size, 0, none⟩) n n) n := by
  have hal : Stp (1000 + s) (fun _ => False) G1 W (pnt G1 W.heap.size (2, 300)) (W.alloc (.cells (madeCells #[Value.int .u8 0] n) 5)) := (Stp.alloc h.pr.gi _).paint (Nat.le_refl _) (h.pr.gi.zero (Nat.le_refl _)) (heap_alloc_new W _) (.inl rfl) fun j hj => by simp at hj
  have hmx : 281474976710656 ≤ maxLen := by decide
  have hmk : MkA (W.alloc (.cells (madeCells #[Value.int .u8 0] n) 5)) (pnt G1 W.heap.size (2, 300)) 5 1 300 (.slice (some ⟨W.heap.size, 0, none⟩) n n) n := by
    refine ⟨(madeCells #[Value.int .u8 0] n).toList, ⟨by rw [Array.length_toList, size_madeCells, Nat.mul_one], .inr ⟨W.heap.size, 0, n, _, rfl, heap_alloc_new W _, Nat.le_refl _, by omega, by rw [size_madeCells]; omega, ?_⟩⟩, fun x hx => ?_, fun q hq => ?_⟩
    · rw [List.drop_zero, List.take_of_length_le (by rw [Array.length_toList, size_madeCells]; omega)]
    · rw [toList_madeCells_one] at hx
      have e := List.eq_of_mem_replicate hx
      exact .inl ⟨rfl, .inr ⟨rfl, 0, by decide, e⟩⟩
    · have e : W.heap.size = q := by injection hq
      rw [← e]; exact pnt_at _ _ _
  have hp2 := h.pr.keep hal (fun _ _ => id) fun q _ hq => pnt_ne _ _ (by omega)
  have hp3 := hp2.setD hmk
  have hpb : ¬ bx = P.p := fun e => by
    have := h.bk
    rw [e] at this
    exact Blk.neT this h.pr.blk (by decide)
  have hf : Fr (W.alloc (.cells (madeCells #[Value.int .u8 0] n) 5)) ((W.alloc (.cells (madeCells #[Value.int .u8 0] n) 5)).setCell ⟨P.p, 7, none⟩ (.slice (some ⟨W.heap.size, 0, none⟩) n n)) (fun q => q = P.p) := Fr.setCell _ ⟨P.p, 7, none⟩ _ (fun q => q = P.p) rfl
  have hst : Stp (1000 + s) (fun q => q = P.p) (pnt G1 W.heap.size (2, 300)) (W.alloc (.cells (madeCells #[Value.int .u8 0] n) 5)) (pnt G1 W.heap.size (2, 300)) ((W.alloc (.cells (madeCells #[Value.int .u8 0] n) 5)).setCell ⟨P.p, 7, none⟩ (.slice (some ⟨W.heap.size, 0, none⟩) n n)) := Stp.of_fr hal.gi hf fun q cur T hq hc => by subst hq; exact hp2.blk.nh nhP hc
  exact ⟨_, hp3, (h.st.trans0 hal).trans hst fun q _ e => .inl e, (h.bk.alloc _).fr hf hpb, h.bl⟩
/-- The desk is written. -/
theorem HSt.desk (h : HSt s N G w P bx opv G1 W vd dn) (hd : Stp (1000 + s) (fun _ => False) G1 W G1 W') : HSt s N G w P bx opv G1 W' vd dn :=
  ⟨h.pr.keep hd (fun _ _ => id) fun _ _ _ => rfl, h.st.trans0 hd, h.bk.stp hd (by unfold hotT; decide) id, h.bl⟩
end
/-- The bytes that are handed in. -/
theorem desk_by {w : World} {g o m bl cap : Nat} {xs l : List Nat} (h : RowAt w 5 1 (.slice (some ⟨g, o, none⟩) m cap) m (bvals xs)) (hm : bl ≤ m) (hx : ∀ j, j < bl → xs[j]? = l[j]?) (hl : bl = l.length) (hb : BB l) : By w (.slice (some ⟨g, o, none⟩) bl cap) l := by
  have hc : m ≤ cap := by
    obtain ⟨a, c, e, h1⟩ := h.form
    injection e with _ _ e
    omega
  subst hl
  refine ⟨⟨some ⟨g, o, none⟩, cap, rfl, by omega, fun e => (by cases e), .inr ⟨g, o, rfl, fun j x hj => ?_⟩⟩, hb⟩
  have hjl : j < l.length := (List.getElem?_eq_some_iff.1 hj).1
  refine h.cell rfl ?_
  unfold bvals
  rw [List.getElem?_map, hx j hjl, hj]
  rfl
/-- The desk, as the call has it. -/
structure DSt (s N : Nat) (G : Gh) (w : World) (P : PR) (bx : Nat) (opv : Array Value) (G1 : Gh) (W : World) (vd : Value) (dn : Nat) (dg dz m dc : Nat) (xs : List Nat) : Prop where
  hs : HSt s N G w P bx opv G1 W vd dn
  row : RowAt W 5 1 (.slice (some ⟨dg, dz, none⟩) m dc) m (bvals xs)
  col : G1 dg = (2, 300)
theorem DSt.set {s N bx dn dg dz m dc i y : Nat} {G G1 : Gh} {w W : World} {P : PR} {opv : Array Value} {vd : Value} {xs : List Nat} (h : DSt s N G w P bx opv G1 W vd dn dg dz m dc xs) (hi : i < m) (hy : y < 256) : DSt s N G w P bx opv G1 (W.setCell ⟨dg, dz + i, none⟩ (.int .u8 (y : Int))) vd dn dg dz m dc (xs.set i y) := by
  obtain ⟨h1, h2⟩ := desk_set (s := 1000 + s) h.hs.pr.gi h.col h.row hi hy
  exact ⟨h.hs.desk h2, h1, h.col⟩
theorem DSt.below {s N bx dn dg dz m dc : Nat} {G G1 : Gh} {w W W' : World} {P : PR} {opv : Array Value} {vd : Value} {xs : List Nat} (h : DSt s N G w P bx opv G1 W vd dn dg dz m dc xs) (hb : Below W.heap.size W W') : DSt s N G w P bx opv G1 W' vd dn dg dz m dc xs := ⟨h.hs.below hb, h.row.fr (Fr.of_below hb (fun _ => False)) fun _ _ => id, h.col⟩
end Go.Proofs.Ytdncemecnbglaaa
