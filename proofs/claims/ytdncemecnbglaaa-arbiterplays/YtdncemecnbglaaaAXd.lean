import Derived.Test.YtdncemecnbglaaaA28

namespace Go.Proofs.Ytdncemecnbglaaa
set_option linter.unusedVariables false
set_option linter.unusedSimpArgs false
open Go.RowKit Go.Great Go.Maps

def rx (p : Nat) (c : PC) (q : Nat) : Prop := q = p ∨ c.r.ownBlock = some q
/-- Where wants stands. -/
structure RV (s : Nat) (G : Gh) (w : World) (p : Nat) (c0 : PC) (G' : Gh) (w' : World) (c : PC) (rs : List (Value × Nat)) : Prop where
  st : Stp s (rx p c0) G w G' w'
  blk : Blk w' p 54 c.cs
  rs : Ls 59 61 2 w' G' c.r rs
  same : c = { c0 with r := c.r }
  ro : ∀ q, c.r.ownBlock = some q → c0.r.ownBlock = some q ∨ w.heap.size ≤ q
section
variable {s : Nat} {G G' G2 : Gh} {w w' w2 w3 : World} {p : Nat} {c0 c : PC} {rs : List (Value × Nat)}
theorem RV.start (gi : Gi G w) (hb : Blk w p 54 c0.cs) (hr : Ls 59 61 2 w G c0.r rs) : RV s G w p c0 G w c0 rs :=
  ⟨Stp.refl gi fun q cur T hq hc => by
    rcases hq with rfl | hq
    · exact hb.nh nhP hc
    · exact hr.row.nh nhR hq hc, hb, hr, rfl, fun _ => .inl⟩
theorem RV.step (h : RV s G w p c0 G' w' c rs) (k : Stp s (fun _ => False) G' w' G2 w2) : RV s G w p c0 G2 w2 c rs :=
  ⟨h.st.trans0 k, h.blk.stp k nhP id, h.rs.stp nhR k fun _ _ => id, h.same, h.ro⟩
theorem RV.push (h : RV s G w p c0 G' w' c rs) {v' : Value} {x : Value × Nat} (hm : MkA w' G' 61 2 (rs.length - rs.length % 4) x.1 x.2) (k : Psh w' w3 p c.cs (c.cs.setIfInBounds 3 v') 59 1 c.r v' rs.length (rs.map (·.1)) [x.1]) : RV s G w p c0 G' w3 { c with r := v' } (rs ++ [x]) := by
  have hx : ∀ q cur T, (q = p ∨ c.r.ownBlock = some q) → w'.heap[q]? = some (.cells cur T (0, 0)) → ¬ hotT T := fun q cur T hq hc => by
    rcases hq with rfl | hq
    · exact h.blk.nh nhP hc
    · exact h.rs.row.nh nhR hq hc
  have hst : Stp s (fun q => q = p ∨ c.r.ownBlock = some q) G' w' G' w3 := Stp.of_fr h.st.gi k.fr hx
  refine ⟨h.st.trans hst fun q hq e => ?_, k.blk, ⟨by rw [List.length_append, List.map_append]; exact k.row, fun i y hy => ?_⟩, by rw [h.same], fun q hq => ?_⟩
  · rcases e with e | e
    · exact .inl e
    · rcases h.ro q e with e | e
      · exact .inr e
      · omega
  · rcases get_snoc2 hy with hy | ⟨rfl, rfl⟩
    · exact (h.rs.ok i y hy).stp hst
    · exact hm.stp hst
  · rcases k.own q hq with e | e
    · exact h.ro q e
    · right; have := h.st.size; omega
end
/-- A row of pairs of which the first i are written over. -/
def RR (w : World) (v : Value) (rs : List (Nat × Nat)) (i m : Nat) : Prop := ∃ xs, RowAt w 61 2 v rs.length xs ∧ ∀ (j : Nat) r, rs[j]? = some r → (j < i → xs[j * 2]? = some (.int .i64 (m : Int)) ∧ xs[j * 2 + 1]? = some (.int .i64 (m : Int))) ∧ (i ≤ j → xs[j * 2]? = some (.int .i64 (r.1 : Int)) ∧ xs[j * 2 + 1]? = some (.int .i64 (r.2 : Int)))
theorem rC_len (r : Nat × Nat) : (rC r).length = 2 := rfl
theorem rV_at {rs : List (Nat × Nat)} {j : Nat} {r : Nat × Nat} (h : rs[j]? = some r) : (rV rs)[j * 2]? = some (.int .i64 (r.1 : Int)) ∧ (rV rs)[j * 2 + 1]? = some (.int .i64 (r.2 : Int)) := by
  have h0 := flatL_get rC_len h (k := 0) (by decide)
  have h1 := flatL_get rC_len h (k := 1) (by decide)
  exact ⟨h0, h1⟩
theorem RR.start {w : World} {v : Value} {rs : List (Nat × Nat)} (h : RowAt w 61 2 v rs.length (rV rs)) (m : Nat) : RR w v rs 0 m := ⟨_, h, fun j r hr => ⟨fun hl => absurd hl (Nat.not_lt_zero _), fun _ => rV_at hr⟩⟩
theorem RR.fr {w w' : World} {v : Value} {rs : List (Nat × Nat)} {i m : Nat} {ex : Nat → Prop} (h : RR w v rs i m) (hf : Fr w w' ex) (hn : ∀ q, v.ownBlock = some q → ¬ ex q) : RR w' v rs i m := by
  obtain ⟨xs, r, k⟩ := h
  exact ⟨xs, r.fr hf hn, k⟩
theorem two_range {w : World} {g o : Nat} {x y : Value} (h0 : w.cell? ⟨g, o, none⟩ = some x) (h1 : w.cell? ⟨g, o + 1, none⟩ = some y) : w.rangeAt g o (#[x, y] : Array Value).toList := fun j u hu => by
  have hj : j < 2 := (List.getElem?_eq_some_iff.1 hu).1
  match j, hj with
  | 0, _ => have e : x = u := by simpa using hu
            subst e; exact h0
  | 1, _ => have e : y = u := by simpa using hu
            subst e; exact h1
theorem RR.range {w : World} {g off c i m : Nat} {rs : List (Nat × Nat)} {r : Nat × Nat} (h : RR w (.slice (some ⟨g, off, none⟩) rs.length c) rs i m) (hr : rs[i]? = some r) : w.rangeAt g (off + i * 2) (#[Value.int .i64 (r.1 : Int), .int .i64 (r.2 : Int)] : Array Value).toList := by
  obtain ⟨xs, ro, k⟩ := h
  obtain ⟨h0, h1⟩ := (k i r hr).2 (Nat.le_refl _)
  exact two_range (ro.cell rfl h0) (ro.cell rfl h1)
theorem row_range {w : World} {g off c i : Nat} {rs : List (Nat × Nat)} {r : Nat × Nat} (h : RowAt w 61 2 (.slice (some ⟨g, off, none⟩) rs.length c) rs.length (rV rs)) (hr : rs[i]? = some r) : w.rangeAt g (off + i * 2) (#[Value.int .i64 (r.1 : Int), .int .i64 (r.2 : Int)] : Array Value).toList := by
  obtain ⟨h0, h1⟩ := rV_at hr
  exact two_range (h.cell rfl h0) (h.cell rfl h1)
theorem RowAt.setC {w : World} {e : TypeId} {g off n cap i size : Nat} {xs : List Value} {u : Value} (h : RowAt w e size (.slice (some ⟨g, off, none⟩) n cap) n xs) (hi : i < n * size) : RowAt (w.setCell ⟨g, off + i, none⟩ u) e size (.slice (some ⟨g, off, none⟩) n cap) n (xs.set i u) := by
  have hn : 0 < n := Nat.pos_of_ne_zero fun e0 => by subst e0; omega
  obtain ⟨g', off', cap', cur, e1, e3, e4, e5, e6, e7⟩ := h.more hn
  injection e1 with e1 _ e8
  injection e1 with e1
  injection e1 with e1 e9
  subst e1 e8 e9
  rw [setCell_eq_setRow w g (off + i) cur e (0, 0) u e3]
  refine ⟨by rw [List.length_set]; exact h.1, .inr ⟨g, off, cap, _, rfl, setRow_heap w g cur _ e (0, 0) e3, e4, e5, by simpa using e6, ?_⟩⟩
  rw [← e7, Array.toList_setIfInBounds, List.drop_set, if_neg (by omega), show off + i - off = i by omega, List.take_set]
theorem RR.blk {w : World} {g off c i m : Nat} {rs : List (Nat × Nat)} (h : RR w (.slice (some ⟨g, off, none⟩) rs.length c) rs i m) : ∃ cur, w.heap[g]? = some (.cells cur 61 (0, 0)) := by
  obtain ⟨xs, r, _⟩ := h
  exact (r.lt rfl).2
theorem RR.there {w : World} {g off c i m : Nat} {rs : List (Nat × Nat)} (h : RR w (.slice (some ⟨g, off, none⟩) rs.length c) rs i m) (hi : i < rs.length) : w.there g (off + i * 2) 2 := by
  obtain ⟨xs, r, _⟩ := h
  intro j hj
  have hl : i * 2 + j < xs.length := by rw [r.1]; omega
  rw [Nat.add_assoc]
  exact ⟨by rw [r.cell rfl (List.getElem?_eq_getElem hl)]; rfl, r.frozen rfl _⟩
theorem RR.set {w : World} {g off c i m : Nat} {rs : List (Nat × Nat)} (h : RR w (.slice (some ⟨g, off, none⟩) rs.length c) rs i m) (hi : i < rs.length) : RR (w.setCells g (off + i * 2) [.int .i64 (m : Int), .int .i64 (m : Int)]) (.slice (some ⟨g, off, none⟩) rs.length c) rs (i + 1) m := by
  obtain ⟨xs, r, k⟩ := h
  have hl : xs.length = rs.length * 2 := r.1
  have h1 := r.setC (i := i * 2) (u := .int .i64 (m : Int)) (by omega)
  have h2 := h1.setC (i := i * 2 + 1) (u := .int .i64 (m : Int)) (by omega)
  rw [← Nat.add_assoc] at h2
  refine ⟨_, h2, fun j x hx => ?_⟩
  have hj : j < rs.length := (List.getElem?_eq_some_iff.1 hx).1
  obtain ⟨a, b⟩ := k j x hx
  by_cases e : j = i
  · subst e
    refine ⟨fun _ => ⟨?_, ?_⟩, fun hle => by omega⟩
    · rw [List.getElem?_set_ne (by omega), List.getElem?_set_self (by omega)]
    · rw [List.getElem?_set_self (by simp; omega)]
  · refine ⟨fun hlt => ?_, fun hle => ?_⟩
    · obtain ⟨a1, a2⟩ := a (by omega)
      exact ⟨by rw [List.getElem?_set_ne (by omega), List.getElem?_set_ne (by omega)]; exact a1, by rw [List.getElem?_set_ne (by omega), List.getElem?_set_ne (by omega)]; exact a2⟩
    · obtain ⟨b1, b2⟩ := b (by omega)
      exact ⟨by rw [List.getElem?_set_ne (by omega), List.getElem?_set_ne (by omega)]; exact b1, by rw [List.getElem?_set_ne (by omega), List.getElem?_set_ne (by omega)]; exact b2⟩
theorem RR.done {w : World} {G : Gh} {v : Value} {rs : List (Nat × Nat)} {m : Nat} (h : RR w v rs rs.length m) (hg : ∀ q, v.ownBlock = some q → G q = (2, m)) : MkA w G 61 2 m v rs.length := by
  obtain ⟨xs, r, k⟩ := h
  refine ⟨xs, r, fun x hx => ?_, hg⟩
  obtain ⟨j, hj⟩ := List.getElem?_of_mem hx
  have hlt : j < rs.length * 2 := by have := (List.getElem?_eq_some_iff.1 hj).1; rw [r.1] at this; exact this
  obtain ⟨y, hy⟩ : ∃ y, rs[j / 2]? = some y := ⟨_, List.getElem?_eq_getElem (by omega)⟩
  obtain ⟨a1, a2⟩ := (k _ y hy).1 (by omega)
  rcases Nat.mod_two_eq_zero_or_one j with e | e
  · rw [show j / 2 * 2 = j by omega, hj] at a1
    injection a1 with a1
    exact .inr (.inl ⟨rfl, a1⟩)
  · rw [show j / 2 * 2 + 1 = j by omega, hj] at a2
    injection a2 with a2
    exact .inr (.inl ⟨rfl, a2⟩)
set_option maxRecDepth 100000 in
theorem run_equalIn_array {P : Program} (w : World) (d : Nat) (t elem : TypeId) (len n : Nat) (xs ys : Array Value) (ht : P.underlying t = some (.array len elem)) (hs : (sizeOf elem).run P w = .ok n w)
    (h : ∀ i, i < len → ∃ u, (part elem xs (i * n)).run P w = .ok u w ∧ (part elem ys (i * n)).run P w = .ok u w ∧ (Op.equalIn d elem u u).run P w = .ok true w) : (Op.equalIn (d + 1) t (.agg xs) (.agg ys)).run P w = .ok true w := by
  simp only [Op.equalIn, Sem.run_bind, run_underlying ht, Result.andThen_ok, hs]
  rw [Std.Legacy.Range.forIn_eq_forIn_range']
  have key : ∀ l : List Nat, (∀ i ∈ l, i < len) → (forIn l ((none : Option Bool), ()) fun i __s => do
            let __do_lift ← part elem xs (i * n)
            let __do_lift_1 ← part elem ys (i * n)
            let __do_lift ← Op.equalIn d elem __do_lift __do_lift_1
            if (!__do_lift) = true then pure (ForInStep.done (some false, ())) else pure (ForInStep.yield ((none : Option Bool), ())) : Sem _).run P w = .ok (none, ()) w := by
    intro l
    induction l with
    | nil => intro _; rfl
    | cons i r ih =>
      intro hl
      obtain ⟨u, h1, h2, h3⟩ := h i (hl i (List.mem_cons_self ..))
      rw [List.forIn_cons]
      simp only [Sem.run_bind, h1, h2, h3, Result.andThen_ok]
      exact ih fun j hj => hl j (List.mem_cons_of_mem _ hj)
  rw [key _ (fun i hi => by
    have := List.mem_range'_1.1 hi
    simp [Std.Legacy.Range.size] at this
    omega)]
  rfl
theorem int_eq (w : World) (d : Nat) (x : Int) : (Op.equalIn (d + 1) 3 (.int .i64 x) (.int .i64 x)).run Try.prog w = .ok true w := by
  rw [run_equalIn_int w d 3 .i64 .i64 x x Try.underlying3]
  simp
set_option maxRecDepth 100000 in
theorem eqTwo (d : Nat) (x y : Int) (w : World) : (Op.equalIn (d + 1 + 1) 61 (.agg #[.int .i64 x, .int .i64 y]) (.agg #[.int .i64 x, .int .i64 y])).run Try.prog w = .ok true w := by
  refine run_equalIn_array w (d + 1) 61 3 2 1 _ _ (by kernel_rfl) (by kernel_rfl) fun i hi => ?_
  match i, hi with
  | 0, _ => exact ⟨.int .i64 x, by kernel_rfl, by kernel_rfl, int_eq w d x⟩
  | 1, _ => exact ⟨.int .i64 y, by kernel_rfl, by kernel_rfl, int_eq w d y⟩
set_option maxRecDepth 100000 in
theorem eqFour (d : Nat) (x y z u : Int) (w : World) : (Op.equalIn (d + 1 + 1) 62 (.agg #[.int .i64 x, .int .i64 y, .int .i64 z, .int .i64 u]) (.agg #[.int .i64 x, .int .i64 y, .int .i64 z, .int .i64 u])).run Try.prog w = .ok true w := by
  refine run_equalIn_array w (d + 1) 62 3 4 1 _ _ (by kernel_rfl) (by kernel_rfl) fun i hi => ?_
  match i, hi with
  | 0, _ => exact ⟨.int .i64 x, by kernel_rfl, by kernel_rfl, int_eq w d x⟩
  | 1, _ => exact ⟨.int .i64 y, by kernel_rfl, by kernel_rfl, int_eq w d y⟩
  | 2, _ => exact ⟨.int .i64 z, by kernel_rfl, by kernel_rfl, int_eq w d z⟩
  | 3, _ => exact ⟨.int .i64 u, by kernel_rfl, by kernel_rfl, int_eq w d u⟩
set_option maxRecDepth 100000 in
theorem eqLines (d : Nat) (a b c e x y z u : Int) (w : World) : (Op.equalIn (d + 1 + 1 + 1) 63 (.agg #[.int .i64 a, .int .i64 b, .int .i64 c, .int .i64 e, .int .i64 x, .int .i64 y, .int .i64 z, .int .i64 u]) (.agg #[.int .i64 a, .int .i64 b, .int .i64 c, .int .i64 e, .int .i64 x, .int .i64 y, .int .i64 z, .int .i64 u])).run Try.prog w = .ok true w := by
  refine run_equalIn_array w (d + 1 + 1) 63 62 2 4 _ _ (by kernel_rfl) (by kernel_rfl) fun i hi => ?_
  match i, hi with
  | 0, _ => exact ⟨.agg #[.int .i64 a, .int .i64 b, .int .i64 c, .int .i64 e], by kernel_rfl, by kernel_rfl, eqFour d a b c e w⟩
  | 1, _ => exact ⟨.agg #[.int .i64 x, .int .i64 y, .int .i64 z, .int .i64 u], by kernel_rfl, by kernel_rfl, eqFour d x y z u w⟩
set_option maxRecDepth 100000 in
theorem eqW_run {op : Oper} {a : Act} {x y : Int} {b : Bool} {o : BinOp} (hb : o = .eql ∧ b = true ∨ o = .neq ∧ b = false) (p q : Operand) (ho : op.op = .binOp o 61 p q 61) (hp : a.eval p = .agg #[.int .i64 x, .int .i64 y]) (hq : a.eval q = .agg #[.int .i64 x, .int .i64 y]) (w : World) : (execOp a.eval op).run Try.prog w = .ok (.value (.bool b)) w := by
  have h : (Op.equalIn 10000 61 (.agg #[.int .i64 x, .int .i64 y]) (.agg #[.int .i64 x, .int .i64 y])).run Try.prog w = .ok true w := eqTwo 9998 x y w
  unfold execOp
  simp only [ho, hp, hq]
  rcases hb with ⟨rfl, rfl⟩ | ⟨rfl, rfl⟩ <;> go_simp
set_option maxRecDepth 100000 in
theorem eqL_run {op : Oper} {a : Act} {ab : Ab} (p q : Operand) (ho : op.op = .binOp .eql 63 p q 63) (hp : a.eval p = .agg ab.ls) (hq : a.eval q = .agg ab.ls) (w : World) : (execOp a.eval op).run Try.prog w = .ok (.value (.bool true)) w := by
  have h : (Op.equalIn 10000 63 (.agg ab.ls) (.agg ab.ls)).run Try.prog w = .ok true w := eqLines 9997 _ _ _ _ _ _ _ _ w
  generalize ab.ls = L at *
  unfold execOp
  simp only [ho, hp, hq]
  go_simp
theorem buildW_run {op : Oper} {a : Act} {x y : Int} (p q : Operand) (ho : op.op = .build 61 #[(0, p), (1, q)]) (hp : a.eval p = .int .i64 x) (hq : a.eval q = .int .i64 y) (w : World) : (execOp a.eval op).run Try.prog w = .ok (.value (.agg #[.int .i64 x, .int .i64 y])) w := by
  unfold execOp
  simp only [ho, List.map_toArray, List.map_cons, List.map_nil, hp, hq]
  kernel_rfl
theorem buildW1_run {op : Oper} {a : Act} {x y : Int} (p : Operand) (ho : op.op = .buildSlice 59 1 #[(0, p)]) (hp : a.eval p = .agg #[.int .i64 x, .int .i64 y]) (w : World) : (execOp a.eval op).run Try.prog w = .ok (.value (.slice (some ⟨w.heap.size, 0, none⟩) 1 1)) (w.alloc (.cells #[.int .i64 x, .int .i64 y] 61)) := by
  unfold execOp
  simp only [ho, List.map_toArray, List.map_cons, List.map_nil, hp]
  kernel_rfl
/-- The rows themselves are their owner's now. -/
theorem RV.list {s : Nat} {G G' : Gh} {w w' : World} {p : Nat} {c0 c : PC} {rs : List (Value × Nat)} (h : RV s G w p c0 G' w' c rs) {av : Value} {n : Nat} {xs : List Value} (hr : RowAt w' 61 2 av n xs) (hc : ∀ q, av.ownBlock = some q → G' q = (1, s)) (m : Nat) : ∃ G2, RV s G w p c0 G2 w' c rs ∧ Stp s (fun _ => False) G' w' G2 w' ∧ (∀ q, av.ownBlock = some q → G2 q = (2, m)) ∧ ∀ q, av.ownBlock ≠ some q → G2 q = G' q := by
  rcases hr.2 with ⟨e1, e2⟩ | ⟨g, off, cap, cur, e1, _⟩
  · exact ⟨G', h, Stp.refl0 h.st.gi, fun q hq => (by rw [e1] at hq; cases hq), fun _ _ => rfl⟩
  · have hg : av.ownBlock = some g := by rw [e1]; rfl
    have hst : Stp s (fun _ => False) G' w' (pnt G' g (2, m)) w' := Stp.turn h.st.gi (hc g hg) m
    refine ⟨pnt G' g (2, m), h.step hst, hst, fun q hq => ?_, fun q hq => pnt_ne _ _ fun e => hq (by rw [e]; exact hg)⟩
    rw [hg] at hq; injection hq with hq; subst hq; exact pnt_at _ _ _
end Go.Proofs.Ytdncemecnbglaaa

namespace Go.Proofs.Ytdncemecnbglaaa
set_option linter.unusedVariables false
set_option linter.unusedSimpArgs false
open Go.RowKit Go.Great Go.Maps

set_option maxRecDepth 100000 in
set_option maxHeartbeats 4000000 in
theorem wants_any {s : Nat} {G : Gh} {w : World} {p : Nat} {c0 : PC} {rs0 : List (Value × Nat)} {av bv : Value} {rs : List (Nat × Nat)} (gi : Gi G w) (hb : Blk w p 54 c0.cs) (hr : Ls 59 61 2 w G c0.r rs0) (ha : RowAt w 61 2 av rs.length (rV rs)) (hac : ∀ q, av.ownBlock = some q → G q = (1, s)) (hbv : RowAt w 61 2 bv rs.length (rV rs)) (hbc : ∀ q, bv.ownBlock = some q → (G q).1 = 0) (h4 : rs0.length % 4 = 0)
    (hR : rs0.length + 4 ≤ 1000000000000) (hn : rs.length ≤ 1000000000000) :
    Calls Try.prog 33 #[.pointer (some ⟨p, 0, none⟩), av, bv] w fun e w' => e = .returned (.bool true) ∧ Hid (∃ G' c rs', RV s G w p c0 G' w' c rs' ∧ rs'.length = rs0.length + 4) := by
  obtain ⟨aa, ac, hav, hacap⟩ := ha.form
  obtain ⟨ba, bc, hbe, hbcap⟩ := hbv.form
  obtain ⟨n, hnn⟩ : ∃ n, n = rs.length := ⟨_, rfl⟩
  obtain ⟨mR, hmR⟩ : ∃ mR, mR = rs0.length := ⟨_, rfl⟩
  rw [← hnn] at hav hbe hn hacap hbcap
  rw [← hmR] at hR
  obtain ⟨ra, rc, hre, _⟩ := hr.row.form
  rw [← hmR] at hre
  have q3 : w.cell? ⟨p, 3, none⟩ = some (.slice ra mR rc) := by rw [← hre]; exact hb.cell 3
  have HN : Hid (n = rs.length ∧ mR = rs0.length ∧ mR % 4 = 0) := ⟨hnn, hmR, by rw [hmR]; exact h4⟩
  obtain ⟨G1, h1, hst1, hc1, hk1⟩ := (RV.start (s := s) gi hb hr).list ha hac mR
  have H0 : Hid (RV s G w p c0 G1 w c0 rs0 ∧ (∀ q, av.ownBlock = some q → G1 q = (2, mR)) ∧ RR w av rs 0 mR ∧ RowAt w 61 2 bv rs.length (rV rs) ∧ ∀ q, bv.ownBlock = some q → (G1 q).1 = 0) := ⟨h1, hc1, RR.start ha mR, hbv, fun q hq => by
    rw [hk1 q fun e => by have h := hac q e; have k := hbc q hq; rw [h] at k; simp at k]
    exact hbc q hq⟩
  clear gi hb hr ha hac hbv hbc h4 hre h1 hst1 hc1 hk1 hmR hnn
  subst hav hbe
  have hnn2 : ((n : Int) == (n : Int)) = true := by simp
  go_enter Try.func33, Try.ntmps33
  go_wp2
  clear q3 hnn2
  go_loopw [7, 9] (fun x7 x9 wr => ∃ i : Nat, i ≤ n ∧ x7 = .bool true ∧ x9 = .int .i64 (i : Int) ∧ Hid (RV s G w p c0 G1 wr c0 rs0 ∧ (∀ q, (Value.slice aa n ac).ownBlock = some q → G1 q = (2, mR)) ∧ RR wr (.slice aa n ac) rs i mR ∧ RowAt wr 61 2 (.slice ba n bc) rs.length (rV rs) ∧ ∀ q, (Value.slice ba n bc).ownBlock = some q → (G1 q).1 = 0)) (fun _ x9 _ => n - (RowKit.intOf x9).toNat)
  case atStart => exact ⟨0, Nat.zero_le _, rfl, rfl, H0.out⟩
  case round =>
    obtain ⟨i, hi, rfl, rfl, HS⟩ := hrel
    clear H0
    by_cases hlt : i < n
    · have hlt' : (i : Int) < (n : Int) := by omega
      obtain ⟨r, hr⟩ : ∃ r, rs[i]? = some r := ⟨_, List.getElem?_eq_getElem (by rw [← HN.out.1]; exact hlt)⟩
      obtain ⟨ag, ao, ac', ea⟩ : ∃ ag ao ac', Value.slice aa n ac = .slice (some ⟨ag, ao, none⟩) n ac' := by
        obtain ⟨xs, ro, _⟩ := HS.out.2.2.1
        obtain ⟨ag, ao, ac', cur, ea, _⟩ := ro.more (by rw [← HN.out.1]; omega)
        rw [← HN.out.1] at ea
        exact ⟨ag, ao, ac', ea⟩
      injection ea with ea1 _ ea2
      subst ea1 ea2
      obtain ⟨bg, bo, bc', bcur, eb, _⟩ := HS.out.2.2.2.1.more (by rw [← HN.out.1]; omega)
      injection eb with eb1 eb3 eb2
      clear eb3
      subst eb1 eb2
      obtain ⟨x, y⟩ := r
      have hd : Stp s (fun _ => False) G1 wr G1 wr.drew := Stp.drew HS.out.1.st.gi
      have hneg : ag ≠ bg := fun e => by
        have h1 := HS.out.2.1 ag rfl
        have h2 := HS.out.2.2.2.2 bg rfl
        rw [← e, h1] at h2
        simp at h2
      have HD : Hid (RV s G w p c0 G1 wr.drew c0 rs0 ∧ (∀ q, (Value.slice (some ⟨ag, ao, none⟩) n ac).ownBlock = some q → G1 q = (2, mR)) ∧ RR wr.drew (.slice (some ⟨ag, ao, none⟩) n ac) rs i mR ∧ RowAt wr.drew 61 2 (.slice (some ⟨bg, bo, none⟩) n bc) rs.length (rV rs) ∧ ∀ q, (Value.slice (some ⟨bg, bo, none⟩) n bc).ownBlock = some q → (G1 q).1 = 0) := by
        have hf : Fr wr wr.drew (fun _ => False) := Fr.drew (Fr.refl wr _)
        exact ⟨HS.out.1.step hd, HS.out.2.1, HS.out.2.2.1.fr hf fun _ _ => id, HS.out.2.2.2.1.fr hf fun _ _ => id, HS.out.2.2.2.2⟩
      have HR : Hid (rs[i]? = some (x, y)) := hr
      clear HS hd hr
      go_upto_region 6 with fail
      rename_i K hK
      refine wp_region_held (S := fun w' => w'.rangeAt ag (ao + i * 2) (#[Value.int .i64 (x : Int), .int .i64 (y : Int)] : Array Value).toList ∧ w'.rangeAt bg (bo + i * 2) (#[Value.int .i64 (x : Int), .int .i64 (y : Int)] : Array Value).toList) (by kernel_rfl) ?_
      change wpAnyH _ _ _ _ _ _ _ _ (World.drew _)
      generalize wr.drew = Z at *
      have hS : Z.rangeAt ag (ao + i * 2) (#[Value.int .i64 (x : Int), .int .i64 (y : Int)] : Array Value).toList ∧ Z.rangeAt bg (bo + i * 2) (#[Value.int .i64 (x : Int), .int .i64 (y : Int)] : Array Value).toList := by
        have h1 := HD.out.2.2.1
        have h2 := HD.out.2.2.2.1
        rw [HN.out.1] at h1 h2
        exact ⟨h1.range HR.out, row_range h2 HR.out⟩
      refine takeR (i := 0) (v := .bool true) (some 27) rfl rfl (by kernel_rfl) (by kernel_rfl) (by kernel_rfl) (fun _ _ _ h => h) (Or.inl ⟨by kernel_rfl, fun w' hSw => by kernel_rfl⟩) hS ?_
      simp only [Act.put, List.setIfInBounds_toArray, List.set_cons_zero, List.set_cons_succ]
      refine takeR (i := 1) (v := .bool true) (some 28) rfl rfl (by kernel_rfl) (by kernel_rfl) (by kernel_rfl) (fun _ _ _ h => h) (Or.inl ⟨by kernel_rfl, fun w' hSw => by kernel_rfl⟩) hS ?_
      simp only [Act.put, List.setIfInBounds_toArray, List.set_cons_zero, List.set_cons_succ]
      refine takeR (i := 2) (v := .slice (some ⟨ag, ao, none⟩) n ac) (some 29) rfl rfl (by kernel_rfl) (by kernel_rfl) (by kernel_rfl) (fun _ _ _ h => h) (Or.inl ⟨by kernel_rfl, fun w' hSw => by kernel_rfl⟩) hS ?_
      simp only [Act.put, List.setIfInBounds_toArray, List.set_cons_zero, List.set_cons_succ]
      refine takeR (i := 3) (v := .int .i64 (i : Int)) (some 30) rfl rfl (by kernel_rfl) (by kernel_rfl) (by kernel_rfl) (fun _ _ _ h => h) (Or.inl ⟨by kernel_rfl, fun w' hSw => by kernel_rfl⟩) hS ?_
      simp only [Act.put, List.setIfInBounds_toArray, List.set_cons_zero, List.set_cons_succ]
      refine takeR (i := 4) (v := .pointer (some ⟨ag, ao + i * 2, none⟩)) (some 31) rfl rfl (by kernel_rfl) (by kernel_rfl) (by kernel_rfl) (fun _ _ _ h => h) (Or.inl ⟨by kernel_rfl, fun w' hSw => by exact ixR_run (n := n) (c := ac) (.tmp 29) (.tmp 30) rfl (by kernel_rfl) (by kernel_rfl) hlt _⟩) hS ?_
      simp only [Act.put, List.setIfInBounds_toArray, List.set_cons_zero, List.set_cons_succ]
      refine takeR (i := 5) (v := .agg #[.int .i64 (x : Int), .int .i64 (y : Int)]) (some 32) rfl rfl (by kernel_rfl) (by kernel_rfl) (by kernel_rfl) (fun _ _ _ h => h) (Or.inl ⟨by kernel_rfl, fun w' hSw => by exact ldA_run hSw.1 Try.underlying61 rfl infoT (.tmp 31) rfl (by kernel_rfl)⟩) hS ?_
      simp only [Act.put, List.setIfInBounds_toArray, List.set_cons_zero, List.set_cons_succ]
      refine takeR (i := 6) (v := .slice (some ⟨bg, bo, none⟩) n bc) (some 33) rfl rfl (by kernel_rfl) (by kernel_rfl) (by kernel_rfl) (fun _ _ _ h => h) (Or.inl ⟨by kernel_rfl, fun w' hSw => by kernel_rfl⟩) hS ?_
      simp only [Act.put, List.setIfInBounds_toArray, List.set_cons_zero, List.set_cons_succ]
      refine takeR (i := 7) (v := .int .i64 (i : Int)) (some 34) rfl rfl (by kernel_rfl) (by kernel_rfl) (by kernel_rfl) (fun _ _ _ h => h) (Or.inl ⟨by kernel_rfl, fun w' hSw => by kernel_rfl⟩) hS ?_
      simp only [Act.put, List.setIfInBounds_toArray, List.set_cons_zero, List.set_cons_succ]
      refine takeR (i := 8) (v := .pointer (some ⟨bg, bo + i * 2, none⟩)) (some 35) rfl rfl (by kernel_rfl) (by kernel_rfl) (by kernel_rfl) (fun _ _ _ h => h) (Or.inl ⟨by kernel_rfl, fun w' hSw => by exact ixR_run (n := n) (c := bc) (.tmp 33) (.tmp 34) rfl (by kernel_rfl) (by kernel_rfl) hlt _⟩) hS ?_
      simp only [Act.put, List.setIfInBounds_toArray, List.set_cons_zero, List.set_cons_succ]
      refine takeR (i := 9) (v := .agg #[.int .i64 (x : Int), .int .i64 (y : Int)]) (some 36) rfl rfl (by kernel_rfl) (by kernel_rfl) (by kernel_rfl) (fun _ _ _ h => h) (Or.inl ⟨by kernel_rfl, fun w' hSw => by exact ldA_run hSw.2 Try.underlying61 rfl infoT (.tmp 35) rfl (by kernel_rfl)⟩) hS ?_
      simp only [Act.put, List.setIfInBounds_toArray, List.set_cons_zero, List.set_cons_succ]
      refine takeR (i := 10) (v := .bool true) (some 37) rfl rfl (by kernel_rfl) (by kernel_rfl) (by kernel_rfl) (fun _ _ _ h => h) (Or.inl ⟨by kernel_rfl, fun w' hSw => by exact eqW_run (x := (x : Int)) (y := (y : Int)) (.inl ⟨rfl, rfl⟩) (.tmp 32) (.tmp 36) rfl (by kernel_rfl) (by kernel_rfl) _⟩) hS ?_
      simp only [Act.put, List.setIfInBounds_toArray, List.set_cons_zero, List.set_cons_succ]
      refine takeR (i := 11) (v := .bool true) (some 38) rfl rfl (by kernel_rfl) (by kernel_rfl) (by kernel_rfl) (fun _ _ _ h => h) (Or.inl ⟨by kernel_rfl, fun w' hSw => by kernel_rfl⟩) hS ?_
      simp only [Act.put, List.setIfInBounds_toArray, List.set_cons_zero, List.set_cons_succ]
      refine takeR (i := 12) (v := .bool true) (some 7) rfl rfl (by kernel_rfl) (by kernel_rfl) (by kernel_rfl) (fun _ _ _ h => h) (Or.inl ⟨by kernel_rfl, fun w' hSw => by kernel_rfl⟩) hS ?_
      simp only [Act.put, List.setIfInBounds_toArray, List.set_cons_zero, List.set_cons_succ]
      refine wpAnyH_done (by kernel_rfl) ?_ _
      refine hK _ _ ?_
      clear hK hS
      have hth : Z.there ag (ao + i * 2) 2 := by
        have h1 := HD.out.2.2.1
        rw [HN.out.1] at h1
        exact h1.there (by rw [← HN.out.1]; exact hlt)
      have HW : Hid (RV s G w p c0 G1 (Z.setCells ag (ao + i * 2) [.int .i64 (mR : Int), .int .i64 (mR : Int)]) c0 rs0 ∧ (∀ q, (Value.slice (some ⟨ag, ao, none⟩) n ac).ownBlock = some q → G1 q = (2, mR)) ∧ RR (Z.setCells ag (ao + i * 2) [.int .i64 (mR : Int), .int .i64 (mR : Int)]) (.slice (some ⟨ag, ao, none⟩) n ac) rs (i + 1) mR ∧ RowAt (Z.setCells ag (ao + i * 2) [.int .i64 (mR : Int), .int .i64 (mR : Int)]) 61 2 (.slice (some ⟨bg, bo, none⟩) n bc) rs.length (rV rs) ∧ ∀ q, (Value.slice (some ⟨bg, bo, none⟩) n bc).ownBlock = some q → (G1 q).1 = 0) := by
        have h1 := HD.out.2.2.1
        rw [HN.out.1] at h1
        obtain ⟨cur, hcur⟩ := h1.blk
        have hst : Stp s (fun _ => False) G1 Z G1 (Z.setCells ag (ao + i * 2) [.int .i64 (mR : Int), .int .i64 (mR : Int)]) := Stp.sets _ _ Z cur HD.out.1.st.gi (HD.out.2.1 ag rfl) hcur fun u hu => by
          have e : u = .int .i64 (mR : Int) := by simpa using hu
          exact .inr (.inl ⟨rfl, e⟩)
        refine ⟨HD.out.1.step hst, HD.out.2.1, ?_, HD.out.2.2.2.1.fr (Fr.setCells ag (fun q => q = ag) rfl _ _ Z) fun q hq e => ?_, HD.out.2.2.2.2⟩
        · rw [HN.out.1]
          exact h1.set (by rw [← HN.out.1]; exact hlt)
        · have e2 : bg = q := by injection hq
          exact hneg (e.symm.trans e2.symm)
      clear HD
      go_upto_region 7 with fail
      refine wp_region_lit ?_
      refine wpList_runTo rfl (some 39) rfl (.slice (some ⟨ag, ao, none⟩) n ac) Z (by kernel_rfl) ?_
      simp only [Act.put, List.setIfInBounds_toArray, List.set_cons_zero, List.set_cons_succ]
      refine wpList_runTo rfl (some 40) rfl (.int .i64 (i : Int)) Z (by kernel_rfl) ?_
      simp only [Act.put, List.setIfInBounds_toArray, List.set_cons_zero, List.set_cons_succ]
      refine wpList_runTo rfl (some 41) rfl (.int .i64 (mR : Int)) Z (by kernel_rfl) ?_
      simp only [Act.put, List.setIfInBounds_toArray, List.set_cons_zero, List.set_cons_succ]
      refine wpList_runTo rfl (some 42) rfl (.int .i64 (mR : Int)) Z (by kernel_rfl) ?_
      simp only [Act.put, List.setIfInBounds_toArray, List.set_cons_zero, List.set_cons_succ]
      refine wpList_runTo rfl (some 43) rfl (.agg #[.int .i64 (mR : Int), .int .i64 (mR : Int)]) Z (by exact buildW_run (.tmp 41) (.tmp 42) rfl (by kernel_rfl) (by kernel_rfl) _) ?_
      simp only [Act.put, List.setIfInBounds_toArray, List.set_cons_zero, List.set_cons_succ]
      refine wpList_runTo rfl (some 44) rfl (.pointer (some ⟨ag, ao + i * 2, none⟩)) Z (by exact ixR_run (n := n) (c := ac) (.tmp 39) (.tmp 40) rfl (by kernel_rfl) (by kernel_rfl) hlt _) ?_
      simp only [Act.put, List.setIfInBounds_toArray, List.set_cons_zero, List.set_cons_succ]
      refine wpList_store_mid rfl 61 (.tmp 44) (.tmp 43) rfl ag (ao + i * 2) #[.int .i64 (mR : Int), .int .i64 (mR : Int)] (by kernel_rfl) (by kernel_rfl) hth (by kernel_rfl) (by kernel_rfl) ?_
      refine wpList_nil ?_
      clear hth
      generalize Z.setCells ag (ao + i * 2) [.int .i64 (mR : Int), .int .i64 (mR : Int)] = W4 at *
      go_wp2
      exact ⟨⟨i + 1, by omega, rfl, by go_num, HW.out⟩, by simp [RowKit.intOf]; omega⟩
    · obtain rfl : i = n := by omega
      have hmk : MkA wr G1 61 2 mR (.slice aa i ac) i := by
        have h1 := HS.out.2.2.1
        have h2 : RR wr (.slice aa i ac) rs rs.length mR := by rw [← HN.out.1]; exact h1
        have h3 := h2.done HS.out.2.1
        rw [← HN.out.1] at h3
        exact h3
      have h3 := HS.out.1
      clear HS hlt
      obtain ⟨ih, hih, hh0, hh1, hh2⟩ := info_parts infoRs
      have hmx : 140737488355328 ≤ maxLen := by decide
      obtain ⟨ok, oc, eok, _⟩ := h3.rs.row.form
      have h3p := h3.blk
      have h3r := h3.rs.row
      obtain ⟨v2, w2, hr, hp2, hf2, hps, a2, c2, hv2⟩ := push_any (c := 3) h3p h3r (by decide) 50 50 ih (.slice none 0 0) 24 Try.underlying50 hih hh0 hh1 hh2 rfl [.slice aa i ac] rfl (fun u hu => by
        have e : u = .slice aa i ac := by simpa using hu
        subst e; rfl) (by rw [← HN.out.2.1]; omega) (by rw [← HN.out.2.1]; omega)
      have h5 := h3.push (x := (.slice aa i ac, i)) (by rw [← HN.out.2.1, show mR - mR % 4 = mR by have := HN.out.2.2; omega]; exact hmk) hps
      have hm5 := (h5.rs.ok rs0.length (.slice aa i ac, i) (by simp))
      rw [← HN.out.2.1, show mR - mR % 4 = mR by have := HN.out.2.2; omega] at hm5
      rw [eok, ← HN.out.2.1] at hr
      rw [← HN.out.2.1] at eok
      have q4 : wr.cell? ⟨p, 3, none⟩ = some (.slice ok mR oc) := by rw [← eok]; exact h3p.cell 3
      have q42 : w2.cell? ⟨p, 3, none⟩ = some (.slice ok mR oc) := by rw [← eok]; exact hp2.cell 3
      have qf2 : w2.frozen? ⟨p, 3, none⟩ = false := hp2.frozen 3
      have H5 : Hid (∃ G' c os, RV s G w p c0 G' (w2.setCell ⟨p, 3, none⟩ v2) c os ∧ MkA (w2.setCell ⟨p, 3, none⟩ v2) G' 61 2 mR (.slice aa i ac) i ∧ os.length = mR + 1) := ⟨_, _, _, h5, hm5, by rw [List.length_append, ← HN.out.2.1]; rfl⟩
      clear h3 hmk h3p h3r hp2 hf2 hps h5 hm5 eok
      go_upto_region 8 with fail
      rename_i K hK
      refine wp_region_lit ?_
      refine wpList_runTo rfl (some 45) rfl (.pointer (some ⟨p, 0, none⟩)) wr (by kernel_rfl) ?_
      simp only [Act.put, List.setIfInBounds_toArray, List.set_cons_zero, List.set_cons_succ]
      refine wpList_runTo rfl (some 46) rfl (.pointer (some ⟨p, 0, none⟩)) wr (by kernel_rfl) ?_
      simp only [Act.put, List.setIfInBounds_toArray, List.set_cons_zero, List.set_cons_succ]
      refine wpList_runTo rfl (some 47) rfl (.pointer (some ⟨p, 0, none⟩)) wr (by kernel_rfl) ?_
      simp only [Act.put, List.setIfInBounds_toArray, List.set_cons_zero, List.set_cons_succ]
      refine wpList_runTo rfl (some 48) rfl (.pointer (some ⟨p, 3, none⟩)) wr (by kernel_rfl) ?_
      simp only [Act.put, List.setIfInBounds_toArray, List.set_cons_zero, List.set_cons_succ]
      refine wpList_runTo rfl (some 49) rfl (.slice ok mR oc) wr (by exact ldS_run (.inr (.inr (.inr (.inl rfl)))) (.tmp 48) rfl (by kernel_rfl) q4) ?_
      simp only [Act.put, List.setIfInBounds_toArray, List.set_cons_zero, List.set_cons_succ]
      refine wpList_runTo rfl (some 50) rfl (.slice aa i ac) wr (by kernel_rfl) ?_
      simp only [Act.put, List.setIfInBounds_toArray, List.set_cons_zero, List.set_cons_succ]
      refine wpList_runTo rfl (some 51) rfl (.slice (some ⟨wr.heap.size, 0, none⟩) 1 1) (wr.alloc (.cells #[.slice aa i ac] 59)) (by exact buildO1_run (.inr ⟨rfl, rfl⟩) ⟨_, _, _, rfl⟩ (.tmp 50) rfl (by kernel_rfl) _) ?_
      simp only [Act.put, List.setIfInBounds_toArray, List.set_cons_zero, List.set_cons_succ]
      refine wpList_runTo rfl (some 52) rfl (v2) w2 (by exact exec_append (v1 := .slice ok mR oc) (v2 := .slice (some ⟨wr.heap.size, 0, none⟩) 1 1) (.tmp 49) (.tmp 51) rfl (by kernel_rfl) (by kernel_rfl) hr) ?_
      simp only [Act.put, List.setIfInBounds_toArray, List.set_cons_zero, List.set_cons_succ]
      refine wpList_runTo rfl (some 53) rfl (.pointer (some ⟨p, 0, none⟩)) w2 (by kernel_rfl) ?_
      simp only [Act.put, List.setIfInBounds_toArray, List.set_cons_zero, List.set_cons_succ]
      refine wpList_runTo rfl (some 54) rfl (.pointer (some ⟨p, 3, none⟩)) w2 (by kernel_rfl) ?_
      simp only [Act.put, List.setIfInBounds_toArray, List.set_cons_zero, List.set_cons_succ]
      refine wpList_skipW rfl none rfl (w' := w2.setCell ⟨p, 3, none⟩ v2) (stS_run (.inr (.inr (.inr (.inl rfl)))) ⟨_, _, _, hv2⟩ ⟨_, _, _, rfl⟩ (.tmp 54) (.tmp 52) rfl (by kernel_rfl) (by kernel_rfl) q42 qf2) ?_
      refine wpList_nil ?_
      refine hK _ _ ?_
      clear hK q4 q42 qf2 hr hv2
      generalize w2.setCell ⟨p, 3, none⟩ v2 = W3 at *
      go_upto_region 10 with fail
      go_loopw [1, 10] (fun x1 x14 wr => ∃ (t : Nat) (xa : Option Addr) (xn xc : Nat), t ≤ 3 ∧ x14 = .int .i64 (t : Int) ∧ x1 = .slice xa xn xc ∧ xn = i + t ∧ Hid (∃ G' c os, RV s G w p c0 G' wr c os ∧ MkA wr G' 61 2 mR (.slice xa xn xc) xn ∧ os.length = mR + 1 + t)) (fun _ x14 _ => 3 - (RowKit.intOf x14).toNat)
      case atStart => exact ⟨0, aa, i, ac, by omega, rfl, rfl, rfl, H5.out⟩
      case round =>
        obtain ⟨t, xa, xn, xc, ht, rfl, rfl, hxn, HT⟩ := hrel
        clear H5
        by_cases ht3 : t < 3
        · have ht' : (t : Int) < 3 := by omega
          obtain ⟨G5, c5, os5, h5, hm5, hos5⟩ := HT.out
          have hxb : xn ≤ 2000000000000 := by omega
          have HXN : Hid (xn = i + t) := hxn
          clear HT hxn
          have hst2 : Stp s (fun _ => False) G5 wr G5 (wr.alloc (.cells #[.int .i64 (mR : Int), .int .i64 (mR : Int)] 61)) := Stp.alloc h5.st.gi _
          obtain ⟨ib, hib, hb0, hb1, hb2⟩ := info_parts info2
          obtain ⟨v3, W3, G6, hr, hm6, hst6, _⟩ := MkA.app (s := s) (hm5.stp hst2) hst2.gi (.inr (.inl rfl)) 59 59 ib (.agg #[.int .i64 0, .int .i64 0]) 16 Try.underlying59 hib hb0 hb1 hb2 rfl ⟨wr.heap.size, 0, none⟩ 1 1 [.int .i64 (mR : Int), .int .i64 (mR : Int)] rfl (fun z u hu => by
            rw [Addr.add_mid, Nat.zero_add, cell_of_row _ _ _ _ _ _ (heap_alloc_new wr _)]
            simpa using hu) (fun u hu => by
            have e : u = .int .i64 (mR : Int) := by simpa using hu
            subst e
            exact .inr (.inl ⟨rfl, rfl⟩)) (by decide) (by omega) (by omega)
          have h6 := (h5.step hst2).step hst6
          obtain ⟨ya, yc, hv3, _⟩ := hm6.form
          subst hv3
          clear h5 hm5 hst2 hst6
          obtain ⟨ok, oc, eok, _⟩ := h6.rs.row.form
          have h6p := h6.blk
          have h6r := h6.rs.row
          obtain ⟨v2, w2, hr2, hp2, hf2, hps, a2, c2, hv2⟩ := push_any (c := 3) h6p h6r (by decide) 50 50 ih (.slice none 0 0) 24 Try.underlying50 hih hh0 hh1 hh2 rfl [.slice ya (xn + 1) yc] rfl (fun u hu => by
            have e : u = .slice ya (xn + 1) yc := by simpa using hu
            subst e; rfl) (by rw [hos5]; omega) (by rw [hos5]; omega)
          have h7 := h6.push (x := (.slice ya (xn + 1) yc, xn + 1)) (by rw [hos5, show mR + 1 + t - (mR + 1 + t) % 4 = mR by have := HN.out.2.2; omega]; exact hm6) hps
          have hm7 := (h7.rs.ok os5.length (.slice ya (xn + 1) yc, xn + 1) (by simp))
          rw [hos5, show mR + 1 + t - (mR + 1 + t) % 4 = mR by have := HN.out.2.2; omega] at hm7
          obtain ⟨n5, hn5⟩ : ∃ n5, n5 = os5.length := ⟨_, rfl⟩
          rw [eok, ← hn5] at hr2
          rw [← hn5] at eok
          have q4 : W3.cell? ⟨p, 3, none⟩ = some (.slice ok n5 oc) := by rw [← eok]; exact h6p.cell 3
          have q42 : w2.cell? ⟨p, 3, none⟩ = some (.slice ok n5 oc) := by rw [← eok]; exact hp2.cell 3
          have qf2 : w2.frozen? ⟨p, 3, none⟩ = false := hp2.frozen 3
          have H7 : Hid (∃ G' c os, RV s G w p c0 G' (w2.setCell ⟨p, 3, none⟩ v2) c os ∧ MkA (w2.setCell ⟨p, 3, none⟩ v2) G' 61 2 mR (.slice ya (xn + 1) yc) (xn + 1) ∧ os.length = mR + 1 + (t + 1)) := ⟨_, _, _, h7, hm7, by rw [List.length_append, hos5]; rfl⟩
          clear h6 hm6 h6p h6r hp2 hf2 hps h7 hm7 eok hn5 hos5
          go_upto_region 12 with fail
          rename_i K hK
          refine wp_region_lit ?_
          refine wpList_runTo rfl (some 59) rfl (.slice xa xn xc) wr (by kernel_rfl) ?_
          simp only [Act.put, List.setIfInBounds_toArray, List.set_cons_zero, List.set_cons_succ]
          refine wpList_runTo rfl (some 60) rfl (.int .i64 (mR : Int)) wr (by kernel_rfl) ?_
          simp only [Act.put, List.setIfInBounds_toArray, List.set_cons_zero, List.set_cons_succ]
          refine wpList_runTo rfl (some 61) rfl (.int .i64 (mR : Int)) wr (by kernel_rfl) ?_
          simp only [Act.put, List.setIfInBounds_toArray, List.set_cons_zero, List.set_cons_succ]
          refine wpList_runTo rfl (some 62) rfl (.agg #[.int .i64 (mR : Int), .int .i64 (mR : Int)]) wr (by exact buildW_run (.tmp 60) (.tmp 61) rfl (by kernel_rfl) (by kernel_rfl) _) ?_
          simp only [Act.put, List.setIfInBounds_toArray, List.set_cons_zero, List.set_cons_succ]
          refine wpList_runTo rfl (some 63) rfl (.slice (some ⟨wr.heap.size, 0, none⟩) 1 1) (wr.alloc (.cells #[.int .i64 (mR : Int), .int .i64 (mR : Int)] 61)) (by exact buildW1_run (.tmp 62) rfl (by kernel_rfl) _) ?_
          simp only [Act.put, List.setIfInBounds_toArray, List.set_cons_zero, List.set_cons_succ]
          refine wpList_runTo rfl (some 64) rfl (.slice ya (xn + 1) yc) W3 (by exact exec_append (v1 := .slice xa xn xc) (v2 := .slice (some ⟨wr.heap.size, 0, none⟩) 1 1) (.tmp 59) (.tmp 63) rfl (by kernel_rfl) (by kernel_rfl) hr) ?_
          simp only [Act.put, List.setIfInBounds_toArray, List.set_cons_zero, List.set_cons_succ]
          refine wpList_runTo rfl (some 1) rfl (.slice ya (xn + 1) yc) W3 (by kernel_rfl) ?_
          simp only [Act.put, List.setIfInBounds_toArray, List.set_cons_zero, List.set_cons_succ]
          refine wpList_nil ?_
          refine hK _ _ ?_
          clear hK hr
          go_upto_region 13 with fail
          refine wp_region_lit ?_
          refine wpList_runTo rfl (some 65) rfl (.pointer (some ⟨p, 0, none⟩)) W3 (by kernel_rfl) ?_
          simp only [Act.put, List.setIfInBounds_toArray, List.set_cons_zero, List.set_cons_succ]
          refine wpList_runTo rfl (some 66) rfl (.pointer (some ⟨p, 0, none⟩)) W3 (by kernel_rfl) ?_
          simp only [Act.put, List.setIfInBounds_toArray, List.set_cons_zero, List.set_cons_succ]
          refine wpList_runTo rfl (some 67) rfl (.pointer (some ⟨p, 0, none⟩)) W3 (by kernel_rfl) ?_
          simp only [Act.put, List.setIfInBounds_toArray, List.set_cons_zero, List.set_cons_succ]
          refine wpList_runTo rfl (some 68) rfl (.pointer (some ⟨p, 3, none⟩)) W3 (by kernel_rfl) ?_
          simp only [Act.put, List.setIfInBounds_toArray, List.set_cons_zero, List.set_cons_succ]
          refine wpList_runTo rfl (some 69) rfl (.slice ok n5 oc) W3 (by exact ldS_run (.inr (.inr (.inr (.inl rfl)))) (.tmp 68) rfl (by kernel_rfl) q4) ?_
          simp only [Act.put, List.setIfInBounds_toArray, List.set_cons_zero, List.set_cons_succ]
          refine wpList_runTo rfl (some 70) rfl (.slice ya (xn + 1) yc) W3 (by kernel_rfl) ?_
          simp only [Act.put, List.setIfInBounds_toArray, List.set_cons_zero, List.set_cons_succ]
          refine wpList_runTo rfl (some 71) rfl (.slice (some ⟨W3.heap.size, 0, none⟩) 1 1) (W3.alloc (.cells #[.slice ya (xn + 1) yc] 59)) (by exact buildO1_run (.inr ⟨rfl, rfl⟩) ⟨_, _, _, rfl⟩ (.tmp 70) rfl (by kernel_rfl) _) ?_
          simp only [Act.put, List.setIfInBounds_toArray, List.set_cons_zero, List.set_cons_succ]
          refine wpList_runTo rfl (some 72) rfl (v2) w2 (by exact exec_append (v1 := .slice ok n5 oc) (v2 := .slice (some ⟨W3.heap.size, 0, none⟩) 1 1) (.tmp 69) (.tmp 71) rfl (by kernel_rfl) (by kernel_rfl) hr2) ?_
          simp only [Act.put, List.setIfInBounds_toArray, List.set_cons_zero, List.set_cons_succ]
          refine wpList_runTo rfl (some 73) rfl (.pointer (some ⟨p, 0, none⟩)) w2 (by kernel_rfl) ?_
          simp only [Act.put, List.setIfInBounds_toArray, List.set_cons_zero, List.set_cons_succ]
          refine wpList_runTo rfl (some 74) rfl (.pointer (some ⟨p, 3, none⟩)) w2 (by kernel_rfl) ?_
          simp only [Act.put, List.setIfInBounds_toArray, List.set_cons_zero, List.set_cons_succ]
          refine wpList_skipW rfl none rfl (w' := w2.setCell ⟨p, 3, none⟩ v2) (stS_run (.inr (.inr (.inr (.inl rfl)))) ⟨_, _, _, hv2⟩ ⟨_, _, _, rfl⟩ (.tmp 74) (.tmp 72) rfl (by kernel_rfl) (by kernel_rfl) q42 qf2) ?_
          refine wpList_nil ?_
          clear q4 q42 qf2 hr2 hv2
          generalize w2.setCell ⟨p, 3, none⟩ v2 = W5 at *
          go_wp2
          exact ⟨⟨t + 1, ya, xn + 1, yc, by omega, by go_num, rfl, by rw [HXN.out]; omega, H7.out⟩, by simp [RowKit.intOf]; omega⟩
        · obtain rfl : t = 3 := by omega
          go_wp2
          go_ret
          obtain ⟨G5, c5, os5, h5, _, hos5⟩ := HT.out
          exact ⟨rfl, G5, c5, os5, h5, by rw [hos5, HN.out.2.1]⟩
end Go.Proofs.Ytdncemecnbglaaa

namespace Go.Proofs.Ytdncemecnbglaaa
set_option linter.unusedVariables false
set_option linter.unusedSimpArgs false
open Go.RowKit Go.Great Go.Maps

def sV (ks : List Kp) : List Value := ks.map fun k => .string (ofN k.l)
theorem ixS9_run {op : Oper} {a : Act} {g o n c i : Nat} (x y : Operand) (ho : op.op = .indexAddr 52 x y) (hx : a.eval x = .slice (some ⟨g, o, none⟩) n c) (hy : a.eval y = .int .i64 (i : Int)) (hi : i < n) (w : World) : (execOp a.eval op).run Try.prog w = .ok (.value (.pointer (some ⟨g, o + i, none⟩))) w := by
  have h1 : (i : Int) < (n : Int) := by omega
  have h2 : ¬ (n : Int) ≤ (i : Int) := by omega
  unfold execOp
  simp only [ho, hx, hy]
  go_simp
theorem ldS9_run {op : Oper} {a : Act} {w : World} {g o : Nat} {b : ByteArray} (x : Operand) (ho : op.op = .load 9 x) (hx : a.eval x = .pointer (some ⟨g, o, none⟩)) (h : w.cell? ⟨g, o, none⟩ = some (.string b)) : (execOp a.eval op).run Try.prog w = .ok (.value (.string b)) w := by
  unfold execOp
  simp only [ho, hx]
  go_simp
theorem RowAt.drw {w : World} {e : TypeId} {size n : Nat} {v : Value} {xs : List Value} (h : RowAt w e size v n xs) (q : Nat) : RowAt (w.drewN q) e size v n xs := h.fr ((Fr.refl w (fun _ => False)).drewN q) fun _ _ => id
set_option maxRecDepth 100000 in
set_option maxHeartbeats 4000000 in
theorem samePackets_any {w : World} {av sv : Value} {ks : List Kp} (ha : RowAt w 35 1 av ks.length (ks.map (·.v))) (hk : ∀ k ∈ ks, By w k.v k.l) (hs : RowAt w 9 1 sv ks.length (sV ks)) (hn : ks.length ≤ 1000000000000) : Calls Try.prog 41 #[av, sv] w fun e w' => e = .returned (.bool true) ∧ Hid (Below w.heap.size w w') := by
  obtain ⟨aa, ac, hav, _⟩ := ha.form
  obtain ⟨sa, sc, hsv, _⟩ := hs.form
  obtain ⟨n, hnn⟩ : ∃ n, n = ks.length := ⟨_, rfl⟩
  rw [← hnn] at hav hsv hn
  have HN : Hid (n = ks.length) := hnn
  have HA : Hid (RowAt w 35 1 av ks.length (ks.map (·.v)) ∧ (∀ k ∈ ks, By w k.v k.l) ∧ RowAt w 9 1 sv ks.length (sV ks)) := ⟨ha, hk, hs⟩
  clear ha hk hs hnn
  subst hav hsv
  have hnn2 : ((n : Int) == (n : Int)) = true := by simp
  go_enter Try.func41, Try.ntmps41
  go_wp2
  clear hnn2
  go_loopw [5, 6] (fun x5 x6 wr => ∃ i : Nat, i ≤ n ∧ x5 = .bool true ∧ x6 = .int .i64 (i : Int) ∧ Hid (Below w.heap.size w wr)) (fun _ x6 _ => n - (RowKit.intOf x6).toNat)
  case atStart => exact ⟨0, Nat.zero_le _, rfl, rfl, Below.refl _ _⟩
  case round =>
    obtain ⟨i, hi, rfl, rfl, HB⟩ := hrel
    by_cases hlt : i < n
    · have hlt' : (i : Int) < (n : Int) := by omega
      obtain ⟨k, hk⟩ : ∃ k, ks[i]? = some k := ⟨_, List.getElem?_eq_getElem (by rw [← HN.out]; exact hlt)⟩
      obtain ⟨ag, ao, ac', acur, ea, _⟩ := HA.out.1.more (by rw [← HN.out]; omega)
      injection ea with ea1 ea3 ea2
      clear ea3
      subst ea1 ea2
      obtain ⟨sg, so, sc', scur, es, _⟩ := HA.out.2.2.more (by rw [← HN.out]; omega)
      injection es with es1 es3 es2
      clear es3
      subst es1 es2
      have HC : Hid (∀ W, Below w.heap.size w W → W.cell? ⟨ag, ao + i, none⟩ = some k.v ∧ W.cell? ⟨sg, so + i, none⟩ = some (.string (ofN k.l)) ∧ By W k.v k.l) := fun W hW => by
        have hf := Fr.of_below hW (fun _ => False)
        have h1 : w.cell? ⟨ag, ao + i, none⟩ = some k.v := HA.out.1.cell (congrArg (fun z => Value.slice (some ⟨ag, ao, none⟩) z ac) HN.out) (by rw [List.getElem?_map, hk]; rfl)
        have h2 : w.cell? ⟨sg, so + i, none⟩ = some (.string (ofN k.l)) := HA.out.2.2.cell (congrArg (fun z => Value.slice (some ⟨sg, so, none⟩) z sc) HN.out) (by unfold sV; rw [List.getElem?_map, hk]; rfl)
        exact ⟨hf.cell h1 id, hf.cell h2 id, (HA.out.2.1 k (List.mem_of_getElem? hk)).below hW⟩
      obtain ⟨ka, kc, hkv, _⟩ := (HC.out w (Below.refl _ _)).2.2.form
      obtain ⟨kn, hkn⟩ : ∃ kn, kn = k.l.length := ⟨_, rfl⟩
      obtain ⟨kb, hkb⟩ : ∃ kb, kb = ofN k.l := ⟨_, rfl⟩
      rw [← hkn] at hkv
      have HD : Hid (∀ W, Below w.heap.size w W → W.cell? ⟨ag, ao + i, none⟩ = some (.slice ka kn kc) ∧ W.cell? ⟨sg, so + i, none⟩ = some (.string kb) ∧ By W (.slice ka kn kc) k.l) := by
        have := HC.out
        rw [hkv, ← hkb] at this
        exact this
      have HKB : Hid (kb = ofN k.l) := hkb
      clear HC hk hkv hkn hkb
      go_upto_region 5 with fail
      rename_i K hK
      refine wp_region_held (S := fun w' => Below w.heap.size w w') (by kernel_rfl) ?_
      change wpAnyH _ _ _ _ _ _ _ _ (World.drew _)
      have hS : Below w.heap.size w wr.drew := ⟨HB.out.os, HB.out.tape, HB.out.output, HB.out.size, HB.out.block⟩
      clear HB
      generalize wr.drew = Z at *
      refine takeR (i := 0) (v := .slice (some ⟨ag, ao, none⟩) n ac) (some 21) rfl rfl (by kernel_rfl) (by kernel_rfl) (by kernel_rfl) (fun _ _ _ h => h) (Or.inl ⟨by kernel_rfl, fun w' hSw => by kernel_rfl⟩) hS ?_
      simp only [Act.put, List.setIfInBounds_toArray, List.set_cons_zero, List.set_cons_succ]
      refine takeR (i := 1) (v := .int .i64 (i : Int)) (some 22) rfl rfl (by kernel_rfl) (by kernel_rfl) (by kernel_rfl) (fun _ _ _ h => h) (Or.inl ⟨by kernel_rfl, fun w' hSw => by kernel_rfl⟩) hS ?_
      simp only [Act.put, List.setIfInBounds_toArray, List.set_cons_zero, List.set_cons_succ]
      refine takeR (i := 2) (v := .pointer (some ⟨ag, ao + i, none⟩)) (some 23) rfl rfl (by kernel_rfl) (by kernel_rfl) (by kernel_rfl) (fun _ _ _ h => h) (Or.inl ⟨by kernel_rfl, fun w' hSw => by exact ixV_run (n := n) (c := ac) (.tmp 21) (.tmp 22) rfl (by kernel_rfl) (by kernel_rfl) hlt _⟩) hS ?_
      simp only [Act.put, List.setIfInBounds_toArray, List.set_cons_zero, List.set_cons_succ]
      refine takeR (i := 3) (v := .slice ka kn kc) (some 24) rfl rfl (by kernel_rfl) (by kernel_rfl) (by kernel_rfl) (fun _ _ _ h => h) (Or.inl ⟨by kernel_rfl, fun w' hSw => by exact ldS_run (.inr (.inr (.inl rfl))) (.tmp 23) rfl (by kernel_rfl) (HD.out _ hSw).1⟩) hS ?_
      simp only [Act.put, List.setIfInBounds_toArray, List.set_cons_zero, List.set_cons_succ]
      refine takeR (i := 4) (v := .string kb) (some 25) rfl rfl (by kernel_rfl) (by kernel_rfl) (by kernel_rfl) (fun _ _ _ h => h) (Or.inl ⟨by kernel_rfl, fun w' hSw => by (rw [HKB.out]; exact conv_run (.tmp 24) rfl (by kernel_rfl) (HD.out _ hSw).2.2)⟩) hS ?_
      simp only [Act.put, List.setIfInBounds_toArray, List.set_cons_zero, List.set_cons_succ]
      refine takeR (i := 5) (v := .slice (some ⟨sg, so, none⟩) n sc) (some 26) rfl rfl (by kernel_rfl) (by kernel_rfl) (by kernel_rfl) (fun _ _ _ h => h) (Or.inl ⟨by kernel_rfl, fun w' hSw => by kernel_rfl⟩) hS ?_
      simp only [Act.put, List.setIfInBounds_toArray, List.set_cons_zero, List.set_cons_succ]
      refine takeR (i := 6) (v := .int .i64 (i : Int)) (some 27) rfl rfl (by kernel_rfl) (by kernel_rfl) (by kernel_rfl) (fun _ _ _ h => h) (Or.inl ⟨by kernel_rfl, fun w' hSw => by kernel_rfl⟩) hS ?_
      simp only [Act.put, List.setIfInBounds_toArray, List.set_cons_zero, List.set_cons_succ]
      refine takeR (i := 7) (v := .pointer (some ⟨sg, so + i, none⟩)) (some 28) rfl rfl (by kernel_rfl) (by kernel_rfl) (by kernel_rfl) (fun _ _ _ h => h) (Or.inl ⟨by kernel_rfl, fun w' hSw => by exact ixS9_run (n := n) (c := sc) (.tmp 26) (.tmp 27) rfl (by kernel_rfl) (by kernel_rfl) hlt _⟩) hS ?_
      simp only [Act.put, List.setIfInBounds_toArray, List.set_cons_zero, List.set_cons_succ]
      refine takeR (i := 8) (v := .string kb) (some 29) rfl rfl (by kernel_rfl) (by kernel_rfl) (by kernel_rfl) (fun _ _ _ h => h) (Or.inl ⟨by kernel_rfl, fun w' hSw => by exact ldS9_run (.tmp 28) rfl (by kernel_rfl) (HD.out _ hSw).2.1⟩) hS ?_
      simp only [Act.put, List.setIfInBounds_toArray, List.set_cons_zero, List.set_cons_succ]
      refine takeR (i := 9) (v := .bool true) (some 30) rfl rfl (by kernel_rfl) (by kernel_rfl) (by kernel_rfl) (fun _ _ _ h => h) (Or.inl ⟨by kernel_rfl, fun w' hSw => by exact eqS_run (s := kb) (.tmp 25) (.tmp 29) rfl (by kernel_rfl) (by kernel_rfl) _⟩) hS ?_
      simp only [Act.put, List.setIfInBounds_toArray, List.set_cons_zero, List.set_cons_succ]
      refine takeR (i := 10) (v := .bool true) (some 5) rfl rfl (by kernel_rfl) (by kernel_rfl) (by kernel_rfl) (fun _ _ _ h => h) (Or.inl ⟨by kernel_rfl, fun w' hSw => by kernel_rfl⟩) hS ?_
      simp only [Act.put, List.setIfInBounds_toArray, List.set_cons_zero, List.set_cons_succ]
      refine wpAnyH_done (by kernel_rfl) ?_ _
      have HB : Hid (Below w.heap.size w Z) := hS
      clear hS HD HKB
      go_wp2
      exact ⟨⟨i + 1, by omega, rfl, by go_num, HB.out⟩, by simp [RowKit.intOf]; omega⟩
    · obtain rfl : i = n := by omega
      go_wp2
      go_ret
      exact ⟨rfl, HB.out⟩
end Go.Proofs.Ytdncemecnbglaaa
