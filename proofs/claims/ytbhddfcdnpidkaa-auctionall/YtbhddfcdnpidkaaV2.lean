/-
  auction: what counts of orders.
-/
import Derived.Test.YtbhddfcdnpidkaaV1
namespace Go.Proofs.Ytbhddfcdnpidkaa
set_option linter.unusedVariables false
set_option linter.unusedSimpArgs false
open Go.RowKit Go.Great

/-- An order, by what counts of it. -/
structure Od where
  cs : Array Value
  id : Int
  ty : Int
  pr : Int
  qt : Int
structure Od.ok (o : Od) : Prop where
  sz : o.cs.size = 15
  one : (o.cs.all fun x => x.oneCell') = true
  c0 : o.cs[0]? = some (.int .i64 o.id)
  c5 : o.cs[5]? = some (.int .i64 o.ty)
  c7 : o.cs[7]? = some (.int .i64 o.pr)
  c9 : o.cs[9]? = some (.int .i64 o.qt)
def wnO (o : Od) : Option Wn := if o.qt < 1 ∨ 1000000 < o.qt then none else if o.ty = 2 then some ⟨o.id, true, 0, o.qt⟩ else if 1 ≤ o.pr ∧ o.pr ≤ 1000000000 then some ⟨o.id, false, o.pr, o.qt⟩ else none
def wns (l : List Od) : List Wn := l.filterMap wnO
theorem wns_take {l : List Od} {i : Nat} {o : Od} (h : l[i]? = some o) : wns (l.take (i + 1)) = wns (l.take i) ++ (wnO o).toList := by
  unfold wns
  rw [List.take_add_one, h, List.filterMap_append]
  cases e : wnO o <;> simp [e]
theorem wns_len (l : List Od) (i : Nat) : (wns (l.take i)).length ≤ i := Nat.le_trans (List.length_filterMap_le _ _) (by rw [List.length_take]; omega)
theorem infoO : (Try.prog.info? 42).map (·.size) = some 15 := by kernel_rfl
theorem infoWn : (Try.prog.info? 69).map (fun i => (i.zero, i.size, i.bytes)) = some (some (.agg #[.int .i64 0, .bool false, .int .i64 0, .int .i64 0]), 4, 32) := by kernel_rfl
theorem info_parts {T : TypeId} {z : Value} {s b : Nat} (h : (Try.prog.info? T).map (fun i => (i.zero, i.size, i.bytes)) = some (some z, s, b)) : ∃ i, Try.prog.info? T = some i ∧ i.zero = some z ∧ i.size = s ∧ i.bytes = b := by
  cases hq : Try.prog.info? T with
  | none => simp [hq] at h
  | some i => simp [hq] at h; exact ⟨i, rfl, h.1, h.2.1, h.2.2⟩
theorem ixOr_run {op : Oper} {a : Act} {g o n c i : Nat} (x y : Operand) (ho : op.op = .indexAddr 24 x y) (hx : a.eval x = .slice (some ⟨g, o, none⟩) n c) (hy : a.eval y = .int .i64 (i : Int)) (hi : i < n) (w : World) : (execOp a.eval op).run Try.prog w = .ok (.value (.pointer (some ⟨g, o + i * 15, none⟩))) w := by
  have h1 : (i : Int) < (n : Int) := by omega
  have h2 : ¬ (n : Int) ≤ (i : Int) := by omega
  unfold execOp
  simp only [ho, hx, hy]
  go_simp
theorem buildWn_run {op : Oper} {a : Act} {od q : Int} (x z y : Operand) (ho : op.op = .build 69 #[(0, x), (1, z), (3, y)]) (hx : a.eval x = .int .i64 od) (hz : a.eval z = .bool true) (hy : a.eval y = .int .i64 q) (w : World) : (execOp a.eval op).run Try.prog w = .ok (.value (.agg #[.int .i64 od, .bool true, .int .i64 0, .int .i64 q])) w := by
  unfold execOp
  simp only [ho, List.map_toArray, List.map_cons, List.map_nil, hx, hy, hz]
  kernel_rfl
theorem buildWp_run {op : Oper} {a : Act} {id p q : Int} (x y z : Operand) (ho : op.op = .build 69 #[(0, x), (2, y), (3, z)]) (hx : a.eval x = .int .i64 id) (hy : a.eval y = .int .i64 p) (hz : a.eval z = .int .i64 q) (w : World) : (execOp a.eval op).run Try.prog w = .ok (.value (.agg #[.int .i64 id, .bool false, .int .i64 p, .int .i64 q])) w := by
  unfold execOp
  simp only [ho, List.map_toArray, List.map_cons, List.map_nil, hx, hy, hz]
  kernel_rfl
theorem buildWs_run {op : Oper} {a : Act} {id p q : Int} {m : Bool} (x : Operand) (ho : op.op = .buildSlice 58 1 #[(0, x)]) (hx : a.eval x = .agg #[.int .i64 id, .bool m, .int .i64 p, .int .i64 q]) (w : World) : (execOp a.eval op).run Try.prog w = .ok (.value (.slice (some ⟨w.heap.size, 0, none⟩) 1 1)) (w.alloc (.cells #[.int .i64 id, .bool m, .int .i64 p, .int .i64 q] 69)) := by
  unfold execOp
  simp only [ho, List.map_toArray, List.map_cons, List.map_nil, hx]
  kernel_rfl
theorem ldN_run {op : Oper} {a : Act} {w : World} {g o : Nat} {z : Int} {T : TypeId} (hT : T = 2 ∨ T = 3) (x : Operand) (ho : op.op = .load T x) (hx : a.eval x = .pointer (some ⟨g, o, none⟩)) (h : w.cell? ⟨g, o, none⟩ = some (.int .i64 z)) : (execOp a.eval op).run Try.prog w = .ok (.value (.int .i64 z)) w := by
  unfold execOp
  simp only [ho, hx]
  rcases hT with rfl | rfl <;> go_simp
theorem wL_one (v : Wn) : ∀ u ∈ wL v, u.oneCell' = true := fun u hu => by
  simp [wL] at hu
  rcases hu with rfl | rfl | rfl | rfl <;> rfl
theorem flatL_getM {α : Type} {f : α → List Value} {size : Nat} : ∀ {l : List α} (hf : ∀ a ∈ l, (f a).length = size) {i : Nat} {a : α} (h : l[i]? = some a) {k : Nat} (hk : k < size), (flatL f l)[i * size + k]? = (f a)[k]?
  | [], _, i, a, h, k, hk => by simp at h
  | b :: l, hf, 0, a, h, k, hk => by
    simp at h
    subst h
    show (f b ++ flatL f l)[0 * size + k]? = _
    rw [Nat.zero_mul, Nat.zero_add, List.getElem?_append_left (by rw [hf b List.mem_cons_self]; exact hk)]
  | b :: l, hf, i + 1, a, h, k, hk => by
    simp at h
    show (f b ++ flatL f l)[(i + 1) * size + k]? = _
    rw [List.getElem?_append_right (by rw [hf b List.mem_cons_self, Nat.add_mul]; omega), hf b List.mem_cons_self, show (i + 1) * size + k - size = i * size + k by rw [Nat.add_mul]; omega]
    exact flatL_getM (fun a ha => hf a (List.mem_cons_of_mem _ ha)) h hk
/-- Where counted stands. -/
structure CO (w W : World) (v : Value) (D : List Wn) : Prop where
  row : RowAt W 69 4 v D.length (flatL wL D)
  bel : Below w.heap.size w W
  own : ∀ q, v.ownBlock = some q → w.heap.size ≤ q
theorem CO.below {w W W' : World} {v : Value} {D : List Wn} (h : CO w W v D) (hb : Below W.heap.size W W') : CO w W' v D := ⟨h.row.fr (Fr.of_below hb (fun _ => False)) fun _ _ => id, below_step h.bel hb, h.own⟩
theorem CO.app {w W W' : World} {v v' : Value} {D : List Wn} {p : Wn} (h : CO w W v D) (hrow : RowAt W' 69 4 v' (D.length + 1) (flatL wL D ++ wL p)) (hfr : Fr W W' (fun b => v.ownBlock = some b)) (hnew : v'.ownBlock = v.ownBlock ∨ v'.ownBlock = some W.heap.size ∧ ∀ k, k < W.heap.size → W'.heap[k]? = W.heap[k]?) : CO w W' v' (D ++ [p]) := by
  refine ⟨?_, ⟨hfr.os.trans h.bel.os, hfr.tape.trans h.bel.tape, hfr.output.trans h.bel.output, Nat.le_trans h.bel.size hfr.size, fun q hq => (hfr.block q (Nat.lt_of_lt_of_le hq h.bel.size) (fun e => by have := h.own q e; omega)).trans (h.bel.block q hq)⟩, fun q hq => ?_⟩
  · rw [List.length_append, flatL_app, flatL_one]
    exact hrow
  · rcases hnew with h1 | ⟨h1, _⟩
    · exact h.own q (h1 ▸ hq)
    · rw [h1] at hq
      injection hq with hq
      have := h.bel.size
      omega
set_option maxRecDepth 100000 in
set_option maxHeartbeats 1000000 in
theorem counted_any {w : World} {l : List Od} {a : Option Addr} {c : Nat} (hr : RowAt w 42 15 (.slice a l.length c) l.length (flatL (fun o => o.cs.toList) l)) (hok : ∀ o ∈ l, o.ok) (hl : l.length ≤ 4398046511104) :
    Calls Try.prog 32 #[.slice a l.length c] w fun e w' => ∃ v, e = .returned v ∧ Hid (CO w w' v (wns l)) := by
  obtain ⟨i0, hi0, hz0, hz1, hz2⟩ := info_parts infoWn
  have HI : Hid (Try.prog.info? 69 = some i0 ∧ i0.zero = some (.agg #[.int .i64 0, .bool false, .int .i64 0, .int .i64 0]) ∧ i0.size = 4 ∧ i0.bytes = 32) := ⟨hi0, hz0, hz1, hz2⟩
  clear hi0 hz0 hz1 hz2
  obtain ⟨n, hn⟩ : ∃ n, n = l.length := ⟨_, rfl⟩
  have HR : Hid (RowAt w 42 15 (.slice a n c) n (flatL (fun o => o.cs.toList) l) ∧ (∀ o ∈ l, o.ok) ∧ n = l.length ∧ ∀ i, (flatL (fun o => o.cs.toList) l).length = i → True) := ⟨by rw [hn]; exact hr, hok, hn, fun _ _ => trivial⟩
  rw [← hn] at hl ⊢
  clear hr hok hn
  go_enter Try.func32, Try.ntmps32
  go_upto_region 3 with fail
  go_loopw [3, 8] (fun x3 x8 wr => ∃ (i : Nat) (xv : Value), xv = x3 ∧ i ≤ n ∧ x8 = .int .i64 (i : Int) ∧ Hid (CO w wr xv (wns (l.take i)))) (fun _ x8 _ => n - (RowKit.intOf x8).toNat)
  case atStart => exact ⟨0, _, rfl, Nat.zero_le _, rfl, RowAt.none0 _ _ _, Below.refl _ w, fun q hq => by cases hq⟩
  case round =>
    obtain ⟨i, xv, rfl, hi, rfl, HB⟩ := hrel
    by_cases hlt : i < n
    · have hlt' : (i : Int) < (n : Int) := by omega
      obtain ⟨o, ho⟩ : ∃ o, l[i]? = some o := ⟨_, List.getElem?_eq_getElem (by rw [← HR.out.2.2.1]; exact hlt)⟩
      have hoo := HR.out.2.1 o (List.mem_of_getElem? ho)
      have hlen : ∀ o ∈ l, ((fun o : Od => o.cs.toList) o).length = 15 := fun o h => (Array.length_toList).trans (HR.out.2.1 o h).sz
      obtain ⟨g, of, c', cur, ea, _⟩ := HR.out.1.more (by omega)
      injection ea with ea1 _ ea2
      subst ea1 ea2
      have hf := Fr.of_below HB.out.bel (fun _ => False)
      have hrg : wr.rangeAt g (of + i * 15) o.cs.toList := fun j u hu => by
        have hj : j < 15 := by
          have := (List.getElem?_eq_some_iff.1 hu).1
          rw [Array.length_toList, hoo.sz] at this
          exact this
        have := HR.out.1.cell rfl (j := i * 15 + j) (u := u) (by rw [flatL_getM hlen ho hj]; exact hu)
        rw [← Nat.add_assoc] at this
        exact hf.cell this id
      have HW : Hid (wns (l.take (i + 1)) = wns (l.take i) ++ (wnO o).toList ∧ (wns (l.take i)).length ≤ i) := ⟨wns_take ho, wns_len l i⟩
      have HO : Hid o.ok := hoo
      obtain ⟨ov, hov⟩ : ∃ ov, ov = o.cs := ⟨_, rfl⟩
      have hvs : ov.size = 15 := by rw [hov]; exact hoo.sz
      have hv1 : (ov.all fun x => x.oneCell') = true := by rw [hov]; exact hoo.one
      have HV : Hid (ov = o.cs) := hov
      rw [← hov] at hrg
      clear hoo hlen hf ho hov
      go_upto_region 4 with fail
      rename_i K hK
      refine wp_region_lit ?_
      refine wpList_runTo rfl (some 10) rfl (.pointer (some ⟨g, of + i * 15, none⟩)) wr (by exact ixOr_run (n := n) (c := c) (.tmp 6) (.tmp 8) rfl (by kernel_rfl) (by kernel_rfl) hlt _) ?_
      simp only [Act.put, List.setIfInBounds_toArray, List.set_cons_zero, List.set_cons_succ]
      refine wpList_runTo rfl (some 11) rfl (.agg ov) wr (by exact ldA_run hrg Try.underlying42 rfl (by rw [hvs]; exact infoO) (.tmp 10) rfl (by kernel_rfl)) ?_
      simp only [Act.put, List.setIfInBounds_toArray, List.set_cons_zero, List.set_cons_succ]
      refine wpList_runTo rfl (some 5) rfl (.pointer (some ⟨wr.heap.size, 0, none⟩)) (wr.alloc (.cells #[.int .i64 0, .string ⟨#[]⟩, .string ⟨#[]⟩, .string ⟨#[]⟩, .int .i64 0, .int .i64 0, .int .i64 0, .int .i64 0, .int .i64 0, .int .i64 0, .int .i64 0, .int .i64 0, .int .i64 0, .int .i64 0, .int .i64 0] 42)) (by kernel_rfl) ?_
      simp only [Act.put, List.setIfInBounds_toArray, List.set_cons_zero, List.set_cons_succ]
      refine wpList_plain rfl fun K1 hK1 => ?_
      refine wp_store_row 42 (.tmp 5) (.tmp 11) rfl wr.heap.size ov (by kernel_rfl) (by kernel_rfl) 42 #[.int .i64 0, .string ⟨#[]⟩, .string ⟨#[]⟩, .string ⟨#[]⟩, .int .i64 0, .int .i64 0, .int .i64 0, .int .i64 0, .int .i64 0, .int .i64 0, .int .i64 0, .int .i64 0, .int .i64 0, .int .i64 0, .int .i64 0] (heap_alloc_new wr _) (by rw [hvs]; exact infoO) (by rw [hvs]; rfl) hv1 ?_
      rw [World.setRow_alloc_new]
      refine hK1 _ _ ?_
      clear hK1
      refine wpList_nil ?_
      refine hK _ _ ?_
      clear hK hrg hvs hv1
      have hk0 : Blk (wr.alloc (.cells ov 42)) wr.heap.size 42 ov := Blk.new wr _ _
      have q0 : (wr.alloc (.cells ov 42)).cell? ⟨wr.heap.size, 0, none⟩ = some (.int .i64 o.id) := by rw [hk0.cell, HV.out]; exact HO.out.c0
      have q5 : (wr.alloc (.cells ov 42)).cell? ⟨wr.heap.size, 5, none⟩ = some (.int .i64 o.ty) := by rw [hk0.cell, HV.out]; exact HO.out.c5
      have q7 : (wr.alloc (.cells ov 42)).cell? ⟨wr.heap.size, 7, none⟩ = some (.int .i64 o.pr) := by rw [hk0.cell, HV.out]; exact HO.out.c7
      have q9 : (wr.alloc (.cells ov 42)).cell? ⟨wr.heap.size, 9, none⟩ = some (.int .i64 o.qt) := by rw [hk0.cell, HV.out]; exact HO.out.c9
      have HB1 : Hid (CO w (wr.alloc (.cells ov 42)) xv (wns (l.take i))) := HB.out.below ((Below.refl _ wr).alloc (Nat.le_refl _) _)
      clear HB hk0 HO HV
      generalize wr.alloc (.cells ov 42) = w3 at *
      generalize wr.heap.size = bx at *
      obtain ⟨od, hid⟩ : ∃ x, x = o.id := ⟨_, rfl⟩
      obtain ⟨ty, hty⟩ : ∃ x, x = o.ty := ⟨_, rfl⟩
      obtain ⟨pr, hpr⟩ : ∃ x, x = o.pr := ⟨_, rfl⟩
      obtain ⟨qt, hqt⟩ : ∃ x, x = o.qt := ⟨_, rfl⟩
      have HE : Hid (wnO o = if qt < 1 ∨ 1000000 < qt then none else if ty = 2 then some ⟨od, true, 0, qt⟩ else if 1 ≤ pr ∧ pr ≤ 1000000000 then some ⟨od, false, pr, qt⟩ else none) := by rw [hid, hty, hpr, hqt]; rfl
      rw [← hid] at q0
      rw [← hty] at q5
      rw [← hpr] at q7
      rw [← hqt] at q9
      clear hid hty hpr hqt
      obtain ⟨D, hD⟩ : ∃ D, D = wns (l.take i) := ⟨_, rfl⟩
      have HW2 : Hid (wns (l.take (i + 1)) = D ++ (wnO o).toList ∧ D.length ≤ i) := by rw [hD]; exact HW.out
      rw [← hD] at HB1
      clear hD HW
      by_cases hq1 : qt < 1
      · have HB2 : Hid (CO w w3 xv (wns (l.take (i + 1)))) := by
          have e : wnO o = none := by rw [HE.out]; rw [if_pos (Or.inl hq1)]
          rw [HW2.out.1, e]
          simp only [Option.toList_none, List.append_nil]
          exact HB1.out
        clear HB1 HW2 HE
        go_wp2
        exact ⟨⟨i + 1, _, rfl, by omega, by go_num, HB2.out⟩, by simp [RowKit.intOf]; omega⟩
      · by_cases hq2 : 1000000 < qt
        · have HB2 : Hid (CO w w3 xv (wns (l.take (i + 1)))) := by
            have e : wnO o = none := by rw [HE.out]; rw [if_pos (Or.inr hq2)]
            rw [HW2.out.1, e]
            simp only [Option.toList_none, List.append_nil]
            exact HB1.out
          clear HB1 HW2 HE
          go_wp2
          exact ⟨⟨i + 1, _, rfl, by omega, by go_num, HB2.out⟩, by simp [RowKit.intOf]; omega⟩
        · by_cases ht : ty = 2
          · have ht' : (ty == 2) = true := by simp [ht]
            go_upto_region 7 with fail
            rename_i K hK
            refine wp_region_lit ?_
            refine wpList_runTo rfl (some 23) rfl (xv) w3 (by kernel_rfl) ?_
            simp only [Act.put, List.setIfInBounds_toArray, List.set_cons_zero, List.set_cons_succ]
            refine wpList_runTo rfl (some 24) rfl (.pointer (some ⟨bx, 0, none⟩)) w3 (by kernel_rfl) ?_
            simp only [Act.put, List.setIfInBounds_toArray, List.set_cons_zero, List.set_cons_succ]
            refine wpList_runTo rfl (some 25) rfl (.int .i64 od) w3 (by exact ldN_run (.inr rfl) (.tmp 24) rfl (by kernel_rfl) q0) ?_
            simp only [Act.put, List.setIfInBounds_toArray, List.set_cons_zero, List.set_cons_succ]
            refine wpList_runTo rfl (some 26) rfl (.pointer (some ⟨bx, 9, none⟩)) w3 (by kernel_rfl) ?_
            simp only [Act.put, List.setIfInBounds_toArray, List.set_cons_zero, List.set_cons_succ]
            refine wpList_runTo rfl (some 27) rfl (.int .i64 qt) w3 (by exact ldN_run (.inl rfl) (.tmp 26) rfl (by kernel_rfl) q9) ?_
            simp only [Act.put, List.setIfInBounds_toArray, List.set_cons_zero, List.set_cons_succ]
            refine wpList_runTo rfl (some 28) rfl (.agg #[.int .i64 od, .bool true, .int .i64 0, .int .i64 qt]) w3 (by exact buildWn_run (.tmp 25) (.const (.bool true)) (.tmp 27) rfl (by kernel_rfl) rfl (by kernel_rfl) _) ?_
            simp only [Act.put, List.setIfInBounds_toArray, List.set_cons_zero, List.set_cons_succ]
            refine wpList_runTo rfl (some 29) rfl (.slice (some ⟨w3.heap.size, 0, none⟩) 1 1) (w3.alloc (.cells #[.int .i64 od, .bool true, .int .i64 0, .int .i64 qt] 69)) (by exact buildWs_run (.tmp 28) rfl (by kernel_rfl) _) ?_
            simp only [Act.put, List.setIfInBounds_toArray, List.set_cons_zero, List.set_cons_succ]
            have hrA : RowAt (w3.alloc (.cells #[.int .i64 od, .bool true, .int .i64 0, .int .i64 qt] 69)) 69 4 xv D.length (flatL wL D) := HB1.out.row.fr (Fr.alloc w3 _ (fun _ => False)) fun _ _ => id
            refine wpList_append_row _ rfl (.tmp 23) (.tmp 29) 58 rfl 69 i0 _ 4 32 Try.underlying58 HI.out.1 HI.out.2.1 HI.out.2.2.1 HI.out.2.2.2 (by rfl) xv D.length (flatL wL D) (by kernel_rfl) hrA ⟨w3.heap.size, 0, none⟩ 1 1 (wL ⟨od, true, 0, qt⟩) (by kernel_rfl) (by rfl) (fun j u hj => by rw [Addr.add_mid, Nat.zero_add, (Blk.new w3 69 #[.int .i64 od, .bool true, .int .i64 0, .int .i64 qt]).cell, ← Array.getElem?_toList]; exact hj) (wL_one _) (.inl (by decide)) (by have := HW2.out.2; unfold maxLen; omega) (by have := HW2.out.2; omega) ?_
            intro v5 w5 hrow hfr hnew
            have HB2 : Hid (CO w w5 v5 (wns (l.take (i + 1)))) := by
              have e : wnO o = some ⟨od, true, 0, qt⟩ := by rw [HE.out, if_neg (by omega)]; rw [if_pos ht]
              rw [HW2.out.1, e]
              exact (HB1.out.below ((Below.refl _ w3).alloc (Nat.le_refl _) _)).app hrow hfr hnew
            clear hrow hfr hnew hrA HB1 HW2 HE
            simp only [Act.put, List.setIfInBounds_toArray, List.set_cons_zero, List.set_cons_succ]
            refine wpList_runTo rfl (some 3) rfl (v5) w5 (by kernel_rfl) ?_
            simp only [Act.put, List.setIfInBounds_toArray, List.set_cons_zero, List.set_cons_succ]
            refine wpList_nil ?_
            refine hK _ _ ?_
            clear hK
            go_wp2
            exact ⟨⟨i + 1, _, rfl, by omega, by go_num, HB2.out⟩, by simp [RowKit.intOf]; omega⟩
          · by_cases hp : 1 ≤ pr ∧ pr ≤ 1000000000
            · have ht' : (ty == 2) = false := by simp [ht]
              have hisp := isPrice_any w3 pr
              rw [show decide (1 ≤ pr ∧ pr ≤ 1000000000) = true by simp; omega] at hisp
              go_upto_region 8 with fail
              rename_i K hK
              refine wp_region_lit ?_
              refine wpList_runTo rfl (some 31) rfl (.pointer (some ⟨bx, 7, none⟩)) w3 (by kernel_rfl) ?_
              simp only [Act.put, List.setIfInBounds_toArray, List.set_cons_zero, List.set_cons_succ]
              refine wpList_runTo rfl (some 32) rfl (.int .i64 pr) w3 (by exact ldN_run (.inl rfl) (.tmp 31) rfl (by kernel_rfl) q7) ?_
              simp only [Act.put, List.setIfInBounds_toArray, List.set_cons_zero, List.set_cons_succ]
              refine wpList_callW rfl (some 33) rfl 23 #[.int .i64 pr] (by kernel_rfl) hisp ?_
              clear hisp
              rintro e w9 ⟨rfl, ew⟩
              replace ew := ew.symm
              subst ew
              refine ⟨_, rfl, ?_⟩
              simp only [Act.put, List.setIfInBounds_toArray, List.set_cons_zero, List.set_cons_succ]
              refine wpList_nil ?_
              refine hK _ _ ?_
              clear hK
              go_upto_region 9 with fail
              refine wp_region_lit ?_
              refine wpList_runTo rfl (some 34) rfl (xv) w3 (by kernel_rfl) ?_
              simp only [Act.put, List.setIfInBounds_toArray, List.set_cons_zero, List.set_cons_succ]
              refine wpList_runTo rfl (some 35) rfl (.pointer (some ⟨bx, 0, none⟩)) w3 (by kernel_rfl) ?_
              simp only [Act.put, List.setIfInBounds_toArray, List.set_cons_zero, List.set_cons_succ]
              refine wpList_runTo rfl (some 36) rfl (.int .i64 od) w3 (by exact ldN_run (.inr rfl) (.tmp 35) rfl (by kernel_rfl) q0) ?_
              simp only [Act.put, List.setIfInBounds_toArray, List.set_cons_zero, List.set_cons_succ]
              refine wpList_runTo rfl (some 37) rfl (.pointer (some ⟨bx, 7, none⟩)) w3 (by kernel_rfl) ?_
              simp only [Act.put, List.setIfInBounds_toArray, List.set_cons_zero, List.set_cons_succ]
              refine wpList_runTo rfl (some 38) rfl (.int .i64 pr) w3 (by exact ldN_run (.inl rfl) (.tmp 37) rfl (by kernel_rfl) q7) ?_
              simp only [Act.put, List.setIfInBounds_toArray, List.set_cons_zero, List.set_cons_succ]
              refine wpList_runTo rfl (some 39) rfl (.pointer (some ⟨bx, 9, none⟩)) w3 (by kernel_rfl) ?_
              simp only [Act.put, List.setIfInBounds_toArray, List.set_cons_zero, List.set_cons_succ]
              refine wpList_runTo rfl (some 40) rfl (.int .i64 qt) w3 (by exact ldN_run (.inl rfl) (.tmp 39) rfl (by kernel_rfl) q9) ?_
              simp only [Act.put, List.setIfInBounds_toArray, List.set_cons_zero, List.set_cons_succ]
              refine wpList_runTo rfl (some 41) rfl (.agg #[.int .i64 od, .bool false, .int .i64 pr, .int .i64 qt]) w3 (by exact buildWp_run (.tmp 36) (.tmp 38) (.tmp 40) rfl (by kernel_rfl) (by kernel_rfl) (by kernel_rfl) _) ?_
              simp only [Act.put, List.setIfInBounds_toArray, List.set_cons_zero, List.set_cons_succ]
              refine wpList_runTo rfl (some 42) rfl (.slice (some ⟨w3.heap.size, 0, none⟩) 1 1) (w3.alloc (.cells #[.int .i64 od, .bool false, .int .i64 pr, .int .i64 qt] 69)) (by exact buildWs_run (.tmp 41) rfl (by kernel_rfl) _) ?_
              simp only [Act.put, List.setIfInBounds_toArray, List.set_cons_zero, List.set_cons_succ]
              have hrA : RowAt (w3.alloc (.cells #[.int .i64 od, .bool false, .int .i64 pr, .int .i64 qt] 69)) 69 4 xv D.length (flatL wL D) := HB1.out.row.fr (Fr.alloc w3 _ (fun _ => False)) fun _ _ => id
              refine wpList_append_row _ rfl (.tmp 34) (.tmp 42) 58 rfl 69 i0 _ 4 32 Try.underlying58 HI.out.1 HI.out.2.1 HI.out.2.2.1 HI.out.2.2.2 (by rfl) xv D.length (flatL wL D) (by kernel_rfl) hrA ⟨w3.heap.size, 0, none⟩ 1 1 (wL ⟨od, false, pr, qt⟩) (by kernel_rfl) (by rfl) (fun j u hj => by rw [Addr.add_mid, Nat.zero_add, (Blk.new w3 69 #[.int .i64 od, .bool false, .int .i64 pr, .int .i64 qt]).cell, ← Array.getElem?_toList]; exact hj) (wL_one _) (.inl (by decide)) (by have := HW2.out.2; unfold maxLen; omega) (by have := HW2.out.2; omega) ?_
              intro v5 w5 hrow hfr hnew
              have HB2 : Hid (CO w w5 v5 (wns (l.take (i + 1)))) := by
                have e : wnO o = some ⟨od, false, pr, qt⟩ := by rw [HE.out, if_neg (by omega)]; rw [if_neg ht, if_pos hp]
                rw [HW2.out.1, e]
                exact (HB1.out.below ((Below.refl _ w3).alloc (Nat.le_refl _) _)).app hrow hfr hnew
              clear hrow hfr hnew hrA HB1 HW2 HE
              simp only [Act.put, List.setIfInBounds_toArray, List.set_cons_zero, List.set_cons_succ]
              refine wpList_runTo rfl (some 3) rfl (v5) w5 (by kernel_rfl) ?_
              simp only [Act.put, List.setIfInBounds_toArray, List.set_cons_zero, List.set_cons_succ]
              refine wpList_nil ?_
              go_wp2
              exact ⟨⟨i + 1, _, rfl, by omega, by go_num, HB2.out⟩, by simp [RowKit.intOf]; omega⟩
            · have ht' : (ty == 2) = false := by simp [ht]
              have hisp := isPrice_any w3 pr
              rw [show decide (1 ≤ pr ∧ pr ≤ 1000000000) = false by simp; omega] at hisp
              go_upto_region 8 with fail
              rename_i K hK
              refine wp_region_lit ?_
              refine wpList_runTo rfl (some 31) rfl (.pointer (some ⟨bx, 7, none⟩)) w3 (by kernel_rfl) ?_
              simp only [Act.put, List.setIfInBounds_toArray, List.set_cons_zero, List.set_cons_succ]
              refine wpList_runTo rfl (some 32) rfl (.int .i64 pr) w3 (by exact ldN_run (.inl rfl) (.tmp 31) rfl (by kernel_rfl) q7) ?_
              simp only [Act.put, List.setIfInBounds_toArray, List.set_cons_zero, List.set_cons_succ]
              refine wpList_callW rfl (some 33) rfl 23 #[.int .i64 pr] (by kernel_rfl) hisp ?_
              clear hisp
              rintro e w9 ⟨rfl, ew⟩
              replace ew := ew.symm
              subst ew
              refine ⟨_, rfl, ?_⟩
              simp only [Act.put, List.setIfInBounds_toArray, List.set_cons_zero, List.set_cons_succ]
              refine wpList_nil ?_
              refine hK _ _ ?_
              clear hK
              have HB2 : Hid (CO w w3 xv (wns (l.take (i + 1)))) := by
                have e : wnO o = none := by rw [HE.out]; rw [if_neg (by omega), if_neg ht, if_neg hp]
                rw [HW2.out.1, e]
                simp only [Option.toList_none, List.append_nil]
                exact HB1.out
              clear HB1 HW2 HE
              go_wp2
              exact ⟨⟨i + 1, _, rfl, by omega, by go_num, HB2.out⟩, by simp [RowKit.intOf]; omega⟩
    · obtain rfl : i = n := by omega
      have HZ : Hid (CO w wr xv (wns l)) := by
        have h := HB.out
        rw [HR.out.2.2.1, List.take_length] at h
        exact h
      clear HB
      go_wp2
      go_ret
      exact ⟨_, rfl, HZ.out⟩
end Go.Proofs.Ytbhddfcdnpidkaa
