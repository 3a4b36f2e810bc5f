import Derived.Test.YtkpoheknmcepnaaGreatDoorRMem
import Derived.Test.YtkpoheknmcepnaaGreatDoorFrA
import Derived.Lib.SliceRun
import Derived.Deep.RegionHeld
import Derived.Deep.RegionHeld3
import Derived.Deep.AppendLies
import Derived.Great.Walk
import Derived.RegionTactic
import Derived.Deep.WholeRow
import Derived.Deep.DeepCutAuto

namespace Go.Proofs.YtkpoheknmcepnaaGreatDoor
set_option linter.unusedVariables false
set_option linter.unusedSimpArgs false
open Go.RowKit Go.Great

/-- All blocks stay. -/
def Sm (w w' : World) : Prop := Fr w w' (fun _ => False)
theorem Sm.refl (w : World) : Sm w w := Fr.refl w _
theorem Sm.trans {a b c : World} (h : Sm a b) (k : Sm b c) : Sm a c := Fr.trans h k fun _ _ q => by rcases q with q | q <;> exact q
theorem Sm.drewN {w wr : World} (h : Sm w wr) (q : Nat) : Sm w (wr.drewN q) := Fr.drewN h q
theorem Sm.of_below {w w' : World} (h : Below w.heap.size w w') : Sm w w' := Fr.of_below h _
def u8V (c : UInt8) : List Value := [.int .u8 (c.toNat : Int)]
theorem u8V_len (c : UInt8) : (u8V c).length = 1 := rfl
theorem u8_one (l : List UInt8) : ∀ u, u ∈ flatL u8V l → u.oneCell' = true := by
  induction l with
  | nil => intro u hu; cases hu
  | cons c t ih =>
    intro u hu
    rcases List.mem_cons.1 hu with rfl | hu
    · rfl
    · exact ih u hu
theorem u8_get {l : List UInt8} {j : Nat} (h : j < l.length) : (flatL u8V l)[j]? = some (.int .u8 (l[j].toNat : Int)) := by
  have := flatL_get (f := u8V) u8V_len (l := l) (i := j) (a := l[j]) (List.getElem?_eq_getElem h) (k := 0) (by decide)
  rw [Nat.mul_one, Nat.add_zero] at this
  exact this
/-- Bytes in a row. -/
def ByAt (w : World) (v : Value) (l : List UInt8) : Prop := RowAt w 5 1 v l.length (flatL u8V l)
theorem ByAt.src {w : World} {a : Option Addr} {n cap : Nat} {l : List UInt8} (h : ByAt w (.slice a n cap) l) : LSrc w a l := by
  by_cases h0 : l = []
  · exact .inl h0
  · obtain ⟨g, off, c, cur, e, h2, _⟩ := RowAt.more h (List.length_pos_iff.2 h0)
    injection e with e e2 e3
    subst e e2 e3
    refine .inr ⟨g, off, rfl, fun j hj => ?_⟩
    exact RowAt.cell h rfl (u8_get hj)
theorem lsrc_cells {w : World} {g o : Nat} {l : List UInt8} (h : LSrc w (some ⟨g, o, none⟩) l) : ∀ j u, (flatL u8V l)[j]? = some u → w.cell? ((⟨g, o, none⟩ : Addr).add j) = some u := fun j u hj => by
  have hlt : j < l.length := by
    have := (List.getElem?_eq_some_iff.1 hj).1
    rw [flatL_len u8V_len] at this; omega
  rcases h with h | ⟨b, off, e, hr⟩
  · subst h; cases hlt
  · injection e with e
    injection e with e1 e2 _
    subst e1 e2
    rw [Addr.add_mid, hr j hlt]
    rw [u8_get hlt] at hj
    exact hj
theorem LSrc.fr {w w' : World} {ex : Nat → Prop} {g o : Nat} {l : List UInt8} (h : LSrc w (some ⟨g, o, none⟩) l) (hf : Fr w w' ex) (hn : ¬ ex g) : LSrc w' (some ⟨g, o, none⟩) l := by
  rcases h with h | ⟨b, off, e, hr⟩
  · exact .inl h
  · injection e with e
    injection e with e1 e2 _
    subst e1 e2
    exact .inr ⟨g, o, rfl, fun j hj => hf.cell (hr j hj) hn⟩
theorem infoB : ∃ i, Tryz.prog.info? 5 = some i ∧ i.zero = some (.int .u8 0) ∧ i.size = 1 ∧ i.bytes = 1 := by
  have h : (Tryz.prog.info? 5).map (fun i => (i.zero, i.size, i.bytes)) = some (some (.int .u8 0), 1, 1) := by kernel_rfl
  obtain ⟨i, hi, he⟩ := Option.map_eq_some_iff.1 h
  injection he with h1 h2
  injection h2 with h2 h3
  exact ⟨i, hi, h1, h2, h3⟩
theorem run_eqb_nil (a : Option Addr) (l c : Nat) (W : World) : (binOp .eql 22 (.slice a l c) (.slice none 0 0)).run Tryz.prog W = .ok (.bool a.isNone) W := by
  simp [binOp, run_equal_slice_nil (P := Tryz.prog) W 22 5 a l c Tryz.underlying22]
theorem exec_append {P : Program} {w w' : World} {o : Oper} {a : Act} (s x : Operand) (t : TypeId) (ho : o.op = .call { callee := .builtin .append, args := #[s, x], argTypes := #[t, t] }) {v u r : Value} (hs : a.eval s = v) (hx : a.eval x = u)
    (hr : (Builtin.append_ #[t, t] o.type #[v, u]).run P w = .ok r w') : (execOp a.eval o).run P w = .ok (.value r) w' := by
  unfold execOp
  simp only [ho, resolve, invoke, builtin, Sem.run_bind, Sem.run_pure, Result.andThen_ok, List.map_toArray, List.map_cons, List.map_nil, hs, hx, hr]
set_option maxRecDepth 100000 in
set_option maxHeartbeats 1000000 in
theorem Clone_any {w : World} {g o n c : Nat} {l : List UInt8} (hs : LSrc w (some ⟨g, o, none⟩) l) (hn : l.length = n) (hn0 : 0 < n) (hn1 : n ≤ 1048576) :
    Calls Tryz.prog 75 #[.slice (some ⟨g, o, none⟩) n c] w fun e w' => ∃ v, e = .returned v ∧ ByAt w' v l ∧ Below w.heap.size w w' ∧ ∀ b, v.ownBlock = some b → w.heap.size ≤ b := by
  obtain ⟨i, hi, hz, hsz, hby⟩ := infoB
  have hen := run_eqb_nil (some ⟨g, o, none⟩) n c
  simp only [Option.isNone_some] at hen
  have hF : Fr w (w.alloc (.cells #[] 5)) (fun _ => False) := Fr.alloc _ _ _
  have hrow : RowAt (w.alloc (.cells #[] 5)) 5 1 (.slice (some ⟨w.heap.size, 0, none⟩) 0 0) 0 [] := ⟨rfl, .inr ⟨w.heap.size, 0, 0, #[], rfl, heap_alloc_new w _, Nat.le_refl _, by decide, by simp, rfl⟩⟩
  obtain ⟨v', w', hr, hrw, hfr, hnw⟩ := run_append_row (P := Tryz.prog) (w.alloc (.cells #[] 5)) 22 22 5 i _ 1 1 Tryz.underlying22 hi hz hsz hby (by rfl) (.slice (some ⟨w.heap.size, 0, none⟩) 0 0) 0 [] hrow ⟨g, o, none⟩ n c (flatL u8V l) (by rw [flatL_len u8V_len, hn]) (lsrc_cells (hs.fr hF id)) (u8_one l) (.inl hn0) (by unfold maxLen; omega) (by omega)
  have hall : ByAt w' v' l ∧ Below w.heap.size w w' ∧ ∀ b, v'.ownBlock = some b → w.heap.size ≤ b := by
    have hsz2 : w.heap.size < (w.alloc (.cells #[] 5)).heap.size := by simp
    refine ⟨?_, ?_, fun b hb => ?_⟩
    · unfold ByAt; rw [hn]; rw [Nat.zero_add, List.nil_append] at hrw; exact hrw
    · refine ((Below.refl _ w).alloc (Nat.le_refl _) _).trans (hfr.below (by omega) fun b hb q => ?_)
      have : w.heap.size = b := by simpa [Value.ownBlock] using q
      omega
    · rcases hnw with q | ⟨q, _⟩
      · rw [q] at hb
        have : w.heap.size = b := by simpa [Value.ownBlock] using hb
        omega
      · rw [q] at hb; injection hb with hb; omega
  have HA : Hid _ := hall
  obtain ⟨ao, co, rfl, -⟩ := hrw.form
  clear hall hrw hfr hnw hrow hF hs
  go_enter Tryz.func75, Tryz.ntmps75
  go_upto_region 3 with fail
  rename_i Kc hKc
  refine wp_region_lit ?_
  refine wpList_runTo rfl (some 5) rfl (.slice (some ⟨w.heap.size, 0, none⟩) 0 0) (w.alloc (.cells #[] 5)) (by kernel_rfl) ?_
  simp only [Act.put, List.setIfInBounds_toArray, List.set_cons_zero, List.set_cons_succ]
  refine wpList_runTo rfl (some 6) rfl (.slice (some ⟨g, o, none⟩) n c) (w.alloc (.cells #[] 5)) (by kernel_rfl) ?_
  simp only [Act.put, List.setIfInBounds_toArray, List.set_cons_zero, List.set_cons_succ]
  refine wpList_runTo rfl (some 7) rfl (.slice ao (0 + n) co) w' (exec_append (.tmp 5) (.tmp 6) 22 rfl (by kernel_rfl) (by kernel_rfl) hr) ?_
  simp only [Act.put, List.setIfInBounds_toArray, List.set_cons_zero, List.set_cons_succ]
  refine wpList_runTo rfl (some 2) rfl (.slice ao (0 + n) co) w' (by kernel_rfl) ?_
  simp only [Act.put, List.setIfInBounds_toArray, List.set_cons_zero, List.set_cons_succ]
  refine wpList_nil ?_
  refine hKc _ _ ?_
  clear hKc hr
  go_wp2
  go_ret
  exact ⟨_, rfl, HA.out⟩
end Go.Proofs.YtkpoheknmcepnaaGreatDoor

namespace Go.Proofs.YtkpoheknmcepnaaGreatDoor
set_option linter.unusedVariables false
set_option linter.unusedSimpArgs false
open Go.RowKit Go.Great

theorem cell_at {w : World} {p i : Nat} {cur : Array Value} {e : TypeId} {u : Value} (h : w.heap[p]? = some (.cells cur e (0, 0))) (hu : cur[i]? = some u) : w.cell? ⟨p, i, none⟩ = some u := by rw [cell_of_row _ _ _ _ _ _ h]; exact hu
/-- The framer's block. -/
def FmB (w : World) (p : Nat) (fv vb : Value) (wants K told : Nat) : Prop := w.heap[p]? = some (.cells #[fv, vb, .int .i64 (wants : Int), .int .i64 (K : Int), .int .i64 (told : Int)] 66 (0, 0))
section
variable {w : World} {p wants K told : Nat} {fv vb : Value}
theorem FmB.at (h : FmB w p fv vb wants K told) : w.cell? ⟨p, 0, none⟩ = some fv ∧ w.cell? ⟨p, 1, none⟩ = some vb ∧ w.cell? ⟨p, 2, none⟩ = some (.int .i64 (wants : Int)) ∧ w.cell? ⟨p, 3, none⟩ = some (.int .i64 (K : Int)) ∧ w.cell? ⟨p, 4, none⟩ = some (.int .i64 (told : Int)) :=
  ⟨cell_at h rfl, cell_at h rfl, cell_at h rfl, cell_at h rfl, cell_at h rfl⟩
theorem FmB.frz (h : FmB w p fv vb wants K told) (i : Nat) : w.frozen? ⟨p, i, none⟩ = false := frozen_of_row w p i _ _ h
theorem FmB.set1 (h : FmB w p fv vb wants K told) (v : Value) : FmB (w.setCell ⟨p, 1, none⟩ v) p fv v wants K told := by
  unfold FmB; rw [setCell_eq_setRow w p 1 _ _ _ _ h]; exact setRow_heap _ _ _ _ _ _ h
theorem FmB.set2 (h : FmB w p fv vb wants K told) (n : Nat) : FmB (w.setCell ⟨p, 2, none⟩ (.int .i64 (n : Int))) p fv vb n K told := by
  unfold FmB; rw [setCell_eq_setRow w p 2 _ _ _ _ h]; exact setRow_heap _ _ _ _ _ _ h
theorem FmB.set3 (h : FmB w p fv vb wants K told) (n : Nat) : FmB (w.setCell ⟨p, 3, none⟩ (.int .i64 (n : Int))) p fv vb wants n told := by
  unfold FmB; rw [setCell_eq_setRow w p 3 _ _ _ _ h]; exact setRow_heap _ _ _ _ _ _ h
theorem FmB.set4 (h : FmB w p fv vb wants K told) (n : Nat) : FmB (w.setCell ⟨p, 4, none⟩ (.int .i64 (n : Int))) p fv vb wants K n := by
  unfold FmB; rw [setCell_eq_setRow w p 4 _ _ _ _ h]; exact setRow_heap _ _ _ _ _ _ h
theorem FmB.lt (h : FmB w p fv vb wants K told) : p < w.heap.size := (Array.getElem?_eq_some_iff.1 h).1
theorem FmB.fr {w' : World} {ex : Nat → Prop} (h : FmB w p fv vb wants K told) (hf : Fr w w' ex) (hn : ¬ ex p) : FmB w' p fv vb wants K told := (hf.block p h.lt hn).trans h
end
set_option maxRecDepth 100000 in
set_option maxHeartbeats 1000000 in
theorem frame_any {w : World} {p g o n c wants K told j : Nat} {fv vb : Value} {l : List UInt8} (h : FmB w p fv vb wants K told) (hs : LSrc w (some ⟨g, o, none⟩) l) (hg : g < w.heap.size) (hgp : g ≠ p) (hn : l.length = n) (hn0 : 0 < n) (hn1 : n ≤ 1048576) (hK : told + j = K) (hK1 : K ≤ 4611686018427387904) :
    Calls Tryz.prog 54 #[.pointer (some ⟨p, 0, none⟩), .slice (some ⟨g, o, none⟩) n c] w fun e w' => ∃ v, e = .returned (.agg #[v, .int .i64 (j : Int)]) ∧ FmB w' p fv vb wants K K ∧ ByAt w' v l ∧ Fr w w' (fun b => b = p) ∧ ∀ b, v.ownBlock = some b → w.heap.size ≤ b := by
  have hF1 : Fr w (w.alloc (.cells #[.slice none 0 0, .int .i64 0] 36)) (fun _ => False) := Fr.alloc _ _ _
  have hb1 : (w.alloc (.cells #[.slice none 0 0, .int .i64 0] 36)).heap[w.heap.size]? = some (.cells #[.slice none 0 0, .int .i64 0] 36 (0, 0)) := heap_alloc_new w _
  have h1 := h.fr hF1 id
  have hlt := h.lt
  obtain ⟨-, -, -, c3, c4⟩ := h1.at
  have f4 := h1.frz 4
  have HX : Hid (FmB (w.alloc (.cells #[.slice none 0 0, .int .i64 0] 36)) p fv vb wants K told ∧ Fr w (w.alloc (.cells #[.slice none 0 0, .int .i64 0] 36)) (fun _ => False) ∧ (w.alloc (.cells #[.slice none 0 0, .int .i64 0] 36)).heap[w.heap.size]? = some (.cells #[.slice none 0 0, .int .i64 0] 36 (0, 0)) ∧ LSrc w (some ⟨g, o, none⟩) l) := ⟨h1, hF1, hb1, hs⟩
  have HP : Hid (g < w.heap.size ∧ g ≠ p ∧ p < w.heap.size ∧ l.length = n) := ⟨hg, hgp, hlt, hn⟩
  clear h hs hF1 hb1 h1 hg hgp hlt hn
  generalize hw1 : w.alloc (.cells #[.slice none 0 0, .int .i64 0] 36) = w1 at *
  have hjw : IntKind.i64.wrap ((K : Int) - (told : Int)) = (j : Int) := by rw [IntKind.wrap_i64]; omega
  go_enter Tryz.func54, Tryz.ntmps54
  go_upto_region 1 with fail
  clear hw1
  go_quiet (fail)
  go_wp2_with (go_at_call 75; fail)
  have hdr : Fr w1 (w1.drewN nq) (fun _ => False) := (Fr.refl w1 fun _ => False).drewN nq
  have hst : Fr (w1.drewN nq) ((w1.drewN nq).setCell ⟨p, 4, none⟩ (.int .i64 (K : Int))) (fun b => b = p) := Fr.setCell _ _ _ _ rfl
  have hF2 : Fr w ((w1.drewN nq).setCell ⟨p, 4, none⟩ (.int .i64 (K : Int))) (fun b => b = p) := (HX.out.2.1.trans hdr (e3 := fun _ => False) fun _ _ q => by rcases q with q | q <;> exact q).trans hst fun _ _ q => by rcases q with q | q; exact q.elim; exact q
  have h2 : FmB ((w1.drewN nq).setCell ⟨p, 4, none⟩ (.int .i64 (K : Int))) p fv vb wants K K := (HX.out.1.fr hdr id).set4 K
  have hG : ((w1.drewN nq).setCell ⟨p, 4, none⟩ (.int .i64 (K : Int))).heap[w.heap.size]? = some (.cells #[.slice none 0 0, .int .i64 0] 36 (0, 0)) := (hst.block _ (by have := (Array.getElem?_eq_some_iff.1 HX.out.2.2.1).1; exact this) (by have := HP.out.2.2.1; omega)).trans HX.out.2.2.1
  have hcl := Clone_any (c := c) (HX.out.2.2.2.fr hF2 HP.out.2.1) HP.out.2.2.2 hn0 hn1
  have HX2 : Hid _ := And.intro h2 (And.intro hF2 hG)
  clear hdr hst hF2 h2 hG c3 c4 f4
  generalize (w1.drewN nq).setCell ⟨p, 4, none⟩ (.int .i64 (K : Int)) = w2 at *
  refine hcl.mono ?_
  rintro e w3 ⟨v, rfl, hby, hb3, hnv⟩
  obtain ⟨ao, co, rfl, -⟩ := RowAt.form hby
  have hG3 := (hb3.block w.heap.size (Array.getElem?_eq_some_iff.1 HX2.out.2.2).1).trans HX2.out.2.2
  have d0 : w3.cell? ⟨w.heap.size, 0, none⟩ = some (.slice none 0 0) := cell_at hG3 rfl
  have d1 : w3.cell? ⟨w.heap.size, 1, none⟩ = some (.int .i64 0) := cell_at hG3 rfl
  have e0 := frozen_of_row w3 w.heap.size 0 _ _ hG3
  have e1 := frozen_of_row w3 w.heap.size 1 _ _ hG3
  have HX3 : Hid (FmB w3 p fv vb wants K K ∧ ByAt w3 (.slice ao l.length co) l ∧ Fr w w3 (fun b => b = p) ∧ (∀ b, (Value.slice ao l.length co).ownBlock = some b → w.heap.size < b) ∧ w3.heap[w.heap.size]? = some (.cells #[.slice none 0 0, .int .i64 0] 36 (0, 0))) := by
    have hlt2 := (Array.getElem?_eq_some_iff.1 HX2.out.2.2).1
    exact ⟨HX2.out.1.fr (Fr.of_below hb3 fun _ => False) id, hby, HX2.out.2.1.trans (Fr.of_below hb3 fun _ => False) fun _ _ q => by rcases q with q | q; exact q; exact q.elim, fun b hb => by have := hnv b hb; omega, hG3⟩
  clear hcl hby hb3 hnv hG3 HX HX2
  generalize hG : w.heap.size = G at *
  generalize l.length = ll at *
  go_wp2
  have hA : (w3.setCell ⟨G, 0, none⟩ (.slice ao ll co)).heap[G]? = some (.cells #[.slice ao ll co, .int .i64 0] 36 (0, 0)) := by
    rw [setCell_eq_setRow w3 G 0 _ _ _ _ HX3.out.2.2.2.2]; exact setRow_heap _ _ _ _ _ _ HX3.out.2.2.2.2
  have hB : ((w3.setCell ⟨G, 0, none⟩ (.slice ao ll co)).setCell ⟨G, 1, none⟩ (.int .i64 (j : Int))).heap[G]? = some (.cells #[.slice ao ll co, .int .i64 (j : Int)] 36 (0, 0)) := by
    rw [setCell_eq_setRow _ G 1 _ _ _ _ hA]; exact setRow_heap _ _ _ _ _ _ hA
  have hfr : Fr w3 ((w3.setCell ⟨G, 0, none⟩ (.slice ao ll co)).setCell ⟨G, 1, none⟩ (.int .i64 (j : Int))) (fun b => b = G) := (Fr.setCell w3 ⟨G, 0, none⟩ _ (fun b => b = G) rfl).trans (Fr.setCell _ ⟨G, 1, none⟩ _ (fun b => b = G) rfl) fun _ _ q => by rcases q with q | q <;> exact q
  refine bodyPost_ret (results_cell_row (fn := Tryz.f54) (p := 4) (ty := 36) rfl _ _ G 36 #[.slice ao ll co, .int .i64 (j : Int)] (0, 0) _ (by kernel_rfl) hB Tryz.underlying36 rfl (by kernel_rfl)) (by kernel_rfl) ?_
  have hpG : p ≠ G := by have := HP.out; omega
  refine ⟨_, rfl, HX3.out.1.fr hfr hpG, RowAt.fr HX3.out.2.1 hfr fun b hb q => by have := HX3.out.2.2.2.1 b hb; omega, HX3.out.2.2.1.trans hfr fun b hb q => ?_, fun b hb => by have := HX3.out.2.2.2.1 b hb; omega⟩
  rcases q with q | q
  · exact q
  · omega
end Go.Proofs.YtkpoheknmcepnaaGreatDoor

namespace Go.Proofs.YtkpoheknmcepnaaGreatDoor
set_option linter.unusedVariables false
set_option linter.unusedSimpArgs false
open Go.RowKit Go.Great

theorem takeR {P : Program} {md : Region.Mode} {ops : Array Oper} {Q : Exit → Act → World → Prop} {S : World → Prop} {i : Nat} {oi : Oper} {v : Value} {fuel : Nat} {listed : Array Bool} {a : Act} {w : World} (d : Option Tmp) (hi : ops[i]? = some oi) (hd : oi.dst = d)
    (hs : Region.noSelect ops = true) (hf : Region.free md ops listed i = true) (hr : (Region.ready md ops listed).contains i = true)
    (hQ : ∀ c a w, Q (.panic c) (a.put d v) w → Q (.panic c) a w) (hy : YieldsIf P ops S oi v a) (hS : S w)
    (h : wpAnyH P md ops Q S fuel (listed.setIfInBounds i true) (a.put d v) w) : wpAnyH P md ops Q S (fuel + 1) listed a w := by
  subst hd
  exact wpAnyH_take hi hs hf hr hQ hy hS h
theorem callR {P : Program} {op : Oper} {a : Act} {w : World} {K : Act → World → Prop} {Q : Exit → Act → World → Prop} {d : Option Tmp} (hd : op.dst = d)
    (f : FuncId) (args : Array Value) (hrun : (execOp a.eval op).run P w = .ok (.enter f args) w) {R : Ending → World → Prop} (hc : Calls P f args w R)
    (h : ∀ e w', R e w' → ∃ v, e = .returned v ∧ K (a.put d v) w') : op.wp P a w K Q := by
  subst hd
  unfold Oper.wp
  rw [hrun, Oper.upon_enter]
  refine hc.mono fun e w'' hh => ?_
  obtain ⟨v, rfl, hw⟩ := h _ _ hh
  exact hw
theorem valR {P : Program} {op : Oper} {a : Act} {w w' : World} {K : Act → World → Prop} {Q : Exit → Act → World → Prop} {d : Option Tmp} (hd : op.dst = d) (v : Value)
    (hrun : (execOp a.eval op).run P w = .ok (.value v) w') (h : K (a.put d v) w') : op.wp P a w K Q := by
  subst hd
  unfold Oper.wp
  rw [hrun, Oper.upon_value]
  exact h
theorem skipR {P : Program} {op : Oper} {a : Act} {w w' : World} {K : Act → World → Prop} {Q : Exit → Act → World → Prop} {d : Option Tmp} (hd : op.dst = d)
    (hrun : (execOp a.eval op).run P w = .ok .skip w') (h : K (a.put d undef) w') : op.wp P a w K Q := by
  subst hd
  unfold Oper.wp
  rw [hrun]
  exact h
theorem blk_setCells {g : Nat} {e : TypeId} : ∀ (vs : List Value) (o : Nat) (w1 : World) (c1 : Array Value), w1.heap[g]? = some (.cells c1 e (0, 0)) → ∃ c2, (w1.setCells g o vs).heap[g]? = some (.cells c2 e (0, 0)) ∧ c2.size = c1.size := by
  intro vs
  induction vs with
  | nil => intro o w1 c1 hh; exact ⟨c1, hh, rfl⟩
  | cons u r ih =>
    intro o w1 c1 hh
    obtain ⟨c2, q1, q2⟩ := ih (o + 1) (w1.setCell ⟨g, o, none⟩ u) (c1.setIfInBounds o u) (by rw [setCell_eq_setRow w1 g o c1 _ _ u hh]; exact setRow_heap _ _ _ _ _ _ hh)
    exact ⟨c2, q1, by rw [q2]; simp⟩
/-- What is written behind a row does not turn it. -/
theorem RowAt.ahead {w : World} {e : TypeId} {size n g off cap o : Nat} {xs zz : List Value} (h : RowAt w e size (.slice (some ⟨g, off, none⟩) n cap) n xs) (ho : off + n * size ≤ o) : RowAt (w.setCells g o zz) e size (.slice (some ⟨g, off, none⟩) n cap) n xs := by
  rcases h.2 with ⟨h0, _⟩ | ⟨g', off', cap', cur', e2, e3, e4, e5, e6, e7⟩
  · cases h0
  · injection e2 with e2 _ e8
    injection e2 with e2
    injection e2 with e2 e9 _
    subst e2 e8 e9
    obtain ⟨cur2, hc2⟩ := blk_setCells zz o w cur' e3
    refine ⟨h.1, .inr ⟨g, off, cap, cur2, rfl, hc2.1, e4, e5, by rw [hc2.2]; exact e6, ?_⟩⟩
    rw [← e7]
    apply List.ext_getElem?
    intro j
    rw [List.getElem?_take, List.getElem?_take]
    split
    · next hj =>
      rw [List.getElem?_drop, List.getElem?_drop, Array.getElem?_toList, Array.getElem?_toList]
      have : (w.setCells g o zz).cell? ⟨g, off + j, none⟩ = w.cell? ⟨g, off + j, none⟩ := World.cell?_setCells_out g _ _ _ _ fun _ _ => .inl (by show off + j < o; omega)
      rw [cell_of_row _ _ _ _ _ _ hc2.1, cell_of_row _ _ _ _ _ _ e3] at this
      rw [this]
    · rfl
set_option maxRecDepth 100000 in
set_option maxHeartbeats 1000000 in
theorem Delete_any {w : World} {g off n cap s : Nat} {l : List UInt8} (h : ByAt w (.slice (some ⟨g, off, none⟩) n cap) l) (hn : l.length = n) (hs : s ≤ n) (hn1 : n ≤ 1048576) :
    Calls Tryz.prog 55 #[.slice (some ⟨g, off, none⟩) n cap, .int .i64 0, .int .i64 (s : Int)] w fun e w' => e = .returned (.slice (some ⟨g, off, none⟩) (n - s) cap) ∧ ByAt w' (.slice (some ⟨g, off, none⟩) (n - s) cap) (l.drop s) ∧ Fr w w' (fun b => b = g) := by
  have hrow := h
  unfold ByAt at hrow
  rw [hn] at hrow
  obtain ⟨g', off', cap', cur, he, hg, hnc, hcm, hcs, htk⟩ : ∃ g' off' cap' cur, Value.slice (some ⟨g, off, none⟩) n cap = .slice (some ⟨g', off', none⟩) n cap' ∧ w.heap[g']? = some (.cells cur 5 (0, 0)) ∧ n ≤ cap' ∧ cap' ≤ maxLen ∧ off' + cap' * 1 ≤ cur.size ∧ (cur.toList.drop off').take (n * 1) = flatL u8V l := by
    rcases hrow.2 with ⟨h0, _⟩ | h0
    · cases h0
    · exact h0
  injection he with he _ hc
  injection he with he
  injection he with e1 e2 _
  subst e1 e2 hc
  unfold maxLen at hcm
  by_cases hs0 : s = 0
  · subst hs0
    have HA : Hid (ByAt w (.slice (some ⟨g, off, none⟩) (n - 0) cap) (l.drop 0)) := h
    clear h hrow htk hcs hg
    go_enter Tryz.func55, Tryz.ntmps55
    go_wp2
    go_ret
    exact ⟨rfl, HA.out, Fr.refl _ _⟩
  · obtain ⟨i, hi, hz, hsz, hby⟩ := infoB
    have hdF : Fr w w.drew (fun b => b = g) := (Fr.refl w _).drew
    have hd' : ByAt w.drew (.slice (some ⟨g, off, none⟩) n cap) l := RowAt.fr h ((Fr.refl w fun _ => False).drew) (fun _ _ q => q)
    have hg' : w.drew.heap[g]? = some (.cells cur 5 (0, 0)) := hg
    generalize hwd : w.drew = wd at *
    clear h hg hrow
    have h := hd'
    have hg := hg'
    clear hd' hg'
    have hsrc : LSrc wd (some ⟨g, off + s, none⟩) (l.drop s) := LSrc.drop (ByAt.src h) s
    obtain ⟨o', hif, hsrc'⟩ : ∃ o', (if cap = s then some (⟨g, off, none⟩ : Addr) else some ⟨g, off + s, none⟩) = some ⟨g, o', none⟩ ∧ LSrc wd (some ⟨g, o', none⟩) (l.drop s) := by
      by_cases hc : cap = s
      · exact ⟨off, by rw [if_pos hc], .inl (List.drop_eq_nil_of_le (by omega))⟩
      · exact ⟨off + s, by rw [if_neg hc], hsrc⟩
    have hrun := run_append_room_cells (P := Tryz.prog) wd 22 22 5 i Tryz.underlying22 hi g off 0 cap ⟨g, o', none⟩ (n - s) (cap - s) (flatL u8V (l.drop s)) (by rw [flatL_len u8V_len, List.length_drop, hsz, hn]) (lsrc_cells hsrc') (u8_one _) (by omega)
      (fun j hj => by rw [flatL_len u8V_len, List.length_drop] at hj; rw [cell_of_row _ _ _ _ _ _ hg, Array.getElem?_eq_getElem (by omega)]; rfl) (fun j hj => frozen_of_row wd g _ _ _ hg)
    have h0 : RowAt wd 5 1 (.slice (some ⟨g, off, none⟩) 0 cap) 0 [] := ⟨rfl, .inr ⟨g, off, cap, cur, rfl, hg, Nat.zero_le _, by unfold maxLen; omega, hcs, by simp⟩⟩
    have hnew : RowAt (wd.setCells g (off + 0 * i.size) (flatL u8V (l.drop s))) 5 1 (.slice (some ⟨g, off, none⟩) (0 + (n - s)) cap) (0 + (n - s)) (flatL u8V (l.drop s)) := by
      by_cases hm : n - s = 0
      · have hd : l.drop s = [] := List.drop_eq_nil_of_le (by omega)
        rw [hd, hm]; exact h0
      · obtain ⟨v2, w2, hr2, hrw2, _, _⟩ := run_append_row (P := Tryz.prog) wd 22 22 5 i _ 1 1 Tryz.underlying22 hi hz hsz hby (by rfl) (.slice (some ⟨g, off, none⟩) 0 cap) 0 [] h0 ⟨g, o', none⟩ (n - s) (cap - s) (flatL u8V (l.drop s)) (by rw [flatL_len u8V_len, List.length_drop, hn]) (lsrc_cells hsrc') (u8_one _) (.inl (by omega)) (by unfold maxLen; omega) (by omega)
        rw [hrun] at hr2
        injection hr2 with hr2 hw2
        subst hr2 hw2
        exact hrw2
    rw [Nat.zero_add] at hnew hrun
    rw [Nat.zero_mul, Nat.add_zero] at hnew hrun
    have hF1 : Fr wd (wd.setCells g off (flatL u8V (l.drop s))) (fun b => b = g) := Fr.setCells g (fun b => b = g) rfl _ _ _
    obtain ⟨cu1, hb1, hz1⟩ := blk_setCells (flatL u8V (l.drop s)) off wd cur hg
    generalize wd.setCells g off (flatL u8V (l.drop s)) = w1 at *
    have hcl : ∀ ty, (Builtin.clear_ #[22] ty #[.slice (some ⟨g, off + (n - s), none⟩) (n - (n - s)) (cap - (n - s))]).run Tryz.prog w1 = .ok (.tuple #[]) (w1.setCells g (off + (n - s)) (List.replicate (n - (n - s)) (.int .u8 0))) := fun ty =>
      Lib.run_clear_slice (P := Tryz.prog) w1 22 5 ty (.int .u8 0) Tryz.underlying22 (Tryz.zeroValue5) rfl rfl g (off + (n - s)) _ _ (by omega) (fun j hj => by rw [cell_of_row _ _ _ _ _ _ hb1, Array.getElem?_eq_getElem (by omega)]; rfl) (fun j hj => frozen_of_row w1 g _ _ _ hb1)
    have HE : Hid (ByAt (w1.setCells g (off + (n - s)) (List.replicate (n - (n - s)) (.int .u8 0))) (.slice (some ⟨g, off, none⟩) (n - s) cap) (l.drop s) ∧ Fr w (w1.setCells g (off + (n - s)) (List.replicate (n - (n - s)) (.int .u8 0))) (fun b => b = g)) := by
      refine ⟨?_, hdF.trans (hF1.trans (Fr.setCells g (fun b => b = g) rfl _ _ _) (e3 := fun b => b = g) fun _ _ q => by rcases q with q | q <;> exact q) fun _ _ q => by rcases q with q | q <;> exact q⟩
      unfold ByAt
      rw [List.length_drop, hn]
      exact hnew.ahead (by omega)
    have HR : Hid _ := hrun
    clear hrun hnew hF1 hb1 hz1 h h0 htk hcs hg hsrc hsrc' hi hz hsz hby hdF
    have hs0' : ¬ (0 : Int) = (s : Int) := by omega
    have hs1 : (s : Int) ≤ (n : Int) := by omega
    go_enter Tryz.func55, Tryz.ntmps55
    go_upto_region 5 with fail
    rename_i Kc hKc
    refine wp_region_held (S := fun _ => True) (by kernel_rfl) ?_
    change wpAnyH _ _ _ _ _ _ _ _ (World.drew _)
    rw [hwd]
    have hS : True := trivial
    refine takeR (i := 0) (v := .slice (some ⟨g, off, none⟩) n cap) (some 20) rfl rfl (by kernel_rfl) (by kernel_rfl) (by kernel_rfl) (fun _ _ _ h => h) (Or.inl ⟨by kernel_rfl, fun w' hSw => by kernel_rfl⟩) hS ?_
    simp only [Act.put, List.setIfInBounds_toArray, List.set_cons_zero, List.set_cons_succ]
    refine takeR (i := 1) (v := .int .i64 0) (some 21) rfl rfl (by kernel_rfl) (by kernel_rfl) (by kernel_rfl) (fun _ _ _ h => h) (Or.inl ⟨by kernel_rfl, fun w' hSw => by kernel_rfl⟩) hS ?_
    simp only [Act.put, List.setIfInBounds_toArray, List.set_cons_zero, List.set_cons_succ]
    refine takeR (i := 2) (v := .slice (some ⟨g, off, none⟩) 0 cap) (some 22) rfl rfl (by kernel_rfl) (by kernel_rfl) (by kernel_rfl) (fun _ _ _ h => h) (Or.inl ⟨by kernel_rfl, fun w' hSw => by go_simp⟩) hS ?_
    simp only [Act.put, List.setIfInBounds_toArray, List.set_cons_zero, List.set_cons_succ]
    refine takeR (i := 3) (v := .slice (some ⟨g, off, none⟩) n cap) (some 23) rfl rfl (by kernel_rfl) (by kernel_rfl) (by kernel_rfl) (fun _ _ _ h => h) (Or.inl ⟨by kernel_rfl, fun w' hSw => by kernel_rfl⟩) hS ?_
    simp only [Act.put, List.setIfInBounds_toArray, List.set_cons_zero, List.set_cons_succ]
    refine takeR (i := 4) (v := .int .i64 (s : Int)) (some 24) rfl rfl (by kernel_rfl) (by kernel_rfl) (by kernel_rfl) (fun _ _ _ h => h) (Or.inl ⟨by kernel_rfl, fun w' hSw => by kernel_rfl⟩) hS ?_
    simp only [Act.put, List.setIfInBounds_toArray, List.set_cons_zero, List.set_cons_succ]
    refine takeR (i := 5) (v := .slice (some ⟨g, o', none⟩) (n - s) (cap - s)) (some 25) rfl rfl (by kernel_rfl) (by kernel_rfl) (by kernel_rfl) (fun _ _ _ h => h) (Or.inl ⟨by kernel_rfl, fun w' hSw => by go_simp⟩) hS ?_
    simp only [Act.put, List.setIfInBounds_toArray, List.set_cons_zero, List.set_cons_succ]
    refine wpAnyH_ready (rs := [6]) (by kernel_rfl) (by simp) ?_
    refine AllReadyH.cons rfl (fun K1 hK1 => ?_) AllReadyH.nil
    rw [if_pos (by kernel_rfl)]
    refine valR (d := some 26) rfl (.slice (some ⟨g, off, none⟩) (n - s) cap) (exec_append (.tmp 22) (.tmp 25) 22 rfl (by kernel_rfl) (by kernel_rfl) HR.out) ?_
    refine hK1.out _ _ trivial (fun _ => ?_)
    clear hK1
    simp only [Act.put, List.setIfInBounds_toArray, List.set_cons_zero, List.set_cons_succ]
    refine takeR (i := 7) (v := .slice (some ⟨g, off, none⟩) (n - s) cap) (some 0) rfl rfl (by kernel_rfl) (by kernel_rfl) (by kernel_rfl) (fun _ _ _ h => h) (Or.inl ⟨by kernel_rfl, fun w' hSw => by kernel_rfl⟩) hS ?_
    simp only [Act.put, List.setIfInBounds_toArray, List.set_cons_zero, List.set_cons_succ]
    refine wpAnyH_done (by kernel_rfl) ?_ _
    refine hKc _ _ ?_
    clear hKc HR hwd hif
    go_wp2
    go_ret
    exact ⟨rfl, HE.out⟩
end Go.Proofs.YtkpoheknmcepnaaGreatDoor

namespace Go.Proofs.YtkpoheknmcepnaaGreatDoor
set_option linter.unusedVariables false
set_option linter.unusedSimpArgs false
open Go.RowKit Go.Great

def Sight.sg : Sight → Int
  | .begun _ => 0
  | .whole _ => 1
  | .wrong => 2
def Sight.sz : Sight → Nat
  | .begun n => n
  | .whole n => n
  | .wrong => 0
/-- A look as a function of the program. -/
def LookOK (W0 : World) (lk : FuncId) (f : List UInt8 → Sight) : Prop := ∀ (g o n c : Nat) (l : List UInt8) (w : World), Below W0.heap.size W0 w → LSrc w (some ⟨g, o, none⟩) l → l.length = n → n ≤ c → n ≤ 2048 →
  Calls Tryz.prog lk #[.slice (some ⟨g, o, none⟩) n c] w fun e w' => e = .returned (.tuple #[.int .i64 (f l).sg, .int .i64 ((f l).sz : Int)]) ∧ Sm w w'
theorem exec_fv {op : Oper} {a : Act} {w : World} {lk : FuncId} {v : Value} {ty : TypeId} (t x : Operand) (ho : op.op = .call { callee := .value t, args := #[x], argTypes := #[ty] }) (ht : a.eval t = .func (.func lk) #[] #[]) (hx : a.eval x = v)
    (hcf : ∀ args w, (callFunc lk args).run Tryz.prog w = .ok (.enter lk args) w) : (execOp a.eval op).run Tryz.prog w = .ok (.enter lk #[v]) w := by
  unfold execOp
  simp only [ho, resolve, invoke, Sem.run_bind, Sem.run_pure, Result.andThen_ok, List.map_toArray, List.map_cons, List.map_nil, ht, hx, Deferred.ofValue, Array.empty_append, Array.append_empty]
  exact hcf #[v] w
/-- A frame that was found. -/
structure Fm where
  v : Value
  j : Nat
  l : List UInt8
def fmV (x : Fm) : List Value := [x.v, .int .i64 (x.j : Int)]
theorem fmV_len (x : Fm) : (fmV x).length = 2 := rfl
def fsOf (fs : List Fm) : List (List UInt8 × Nat) := fs.map fun x => (x.l, x.j)
/-- Two frames lie in two blocks. -/
def Sep (x y : Fm) : Prop := ∀ b, x.v.ownBlock = some b → y.v.ownBlock ≠ some b
structure FoundAt (w : World) (v : Value) (fs : List Fm) : Prop where
  row : RowAt w 36 2 v fs.length (flatL fmV fs)
  each : ∀ x, x ∈ fs → ByAt w x.v x.l
  sep : fs.Pairwise Sep
def newer (w : World) (v v' : Value) : Prop := v'.ownBlock = v.ownBlock ∨ ∃ g, v'.ownBlock = some g ∧ w.heap.size ≤ g
theorem newer.trans {w w2 : World} {a b c : Value} (h : newer w a b) (k : newer w2 b c) (hs : w.heap.size ≤ w2.heap.size) : newer w a c := by
  rcases k with q | ⟨g, q, hg⟩
  · rcases h with q2 | ⟨g, q2, hg⟩
    · exact .inl (q.trans q2)
    · exact .inr ⟨g, q.trans q2, hg⟩
  · exact .inr ⟨g, q, by omega⟩
theorem obj_type {w : World} {b : Nat} {c1 c2 : Array Value} {e1 e2 : TypeId} (h : w.heap[b]? = some (.cells c1 e1 (0, 0))) (k : w.heap[b]? = some (.cells c2 e2 (0, 0))) : e1 = e2 := by
  rw [h] at k; injection k with k; injection k with _ k
/-- What walk has done: s bytes are behind it. -/
structure WK (f : List UInt8 → Sight) (w wr : World) (p g : Nat) (fv vb v v2 : Value) (wants K j : Nat) (l : List UInt8) (fs fs2 : List Fm) (s K2 j2 : Nat) : Prop where
  blk : ∃ told, FmB wr p fv vb wants K2 told ∧ told + j2 = K2
  row : ByAt wr vb l
  found : FoundAt wr v2 fs2
  sle : s ≤ l.length
  eq : ∃ F k2, fsOf fs2 = fsOf fs ++ F ∧ K2 = K + k2 ∧ k2 ≤ s ∧ walkL f l j = ⟨F ++ (walkL f (l.drop s) j2).fs, (walkL f (l.drop s) j2).j, k2 + (walkL f (l.drop s) j2).k, (walkL f (l.drop s) j2).r⟩
  fr : Fr w wr (fun b => b = p ∨ v.ownBlock = some b)
  new : newer w v v2
  news : ∀ x, x ∈ fs2 → x ∈ fs ∨ ∀ b, x.v.ownBlock = some b → w.heap.size ≤ b
  apart : ∀ x, x ∈ fs2 → x.v.ownBlock ≠ some g
  own : vb.ownBlock = some g
  cnt : fs2.length ≤ fs.length + s
section
variable {f : List UInt8 → Sight} {w wr wx : World} {p g : Nat} {fv vb v v2 : Value} {wants K j : Nat} {l : List UInt8} {fs fs2 : List Fm} {s K2 j2 : Nat}
theorem WK.sm (h : WK f w wr p g fv vb v v2 wants K j l fs fs2 s K2 j2) (hs : Sm wr wx) : WK f w wx p g fv vb v v2 wants K j l fs fs2 s K2 j2 := by
  obtain ⟨told, h1, h2⟩ := h.blk
  exact ⟨⟨told, h1.fr hs id, h2⟩, RowAt.fr h.row hs fun _ _ q => q, ⟨h.found.row.fr hs fun _ _ q => q, fun x hx => RowAt.fr (h.found.each x hx) hs fun _ _ q => q, h.found.sep⟩, h.sle, h.eq, h.fr.trans hs fun _ _ q => by rcases q with q | q; exact q; exact q.elim, h.new, h.news, h.apart, h.own, h.cnt⟩
theorem WK.gp (h : WK f w wr p g fv vb v v2 wants K j l fs fs2 s K2 j2) : g ≠ p ∧ g < wr.heap.size ∧ v2.ownBlock ≠ some p ∧ v2.ownBlock ≠ some g ∧ ∀ x, x ∈ fs2 → x.v.ownBlock ≠ some p ∧ v2.ownBlock ≠ x.v.ownBlock ∨ x.v.ownBlock = none := by
  obtain ⟨told, h1, h2⟩ := h.blk
  obtain ⟨hg, c1, hc1⟩ := RowAt.lt h.row h.own
  refine ⟨fun e => ?_, hg, fun e => ?_, fun e => ?_, fun x hx => ?_⟩
  · subst e; exact absurd (obj_type hc1 h1) (by decide)
  · obtain ⟨_, c2, hc2⟩ := h.found.row.lt e; exact absurd (obj_type hc2 h1) (by decide)
  · obtain ⟨_, c2, hc2⟩ := h.found.row.lt e; exact absurd (obj_type hc2 hc1) (by decide)
  · cases hx0 : x.v.ownBlock with
    | none => exact .inr rfl
    | some b =>
      obtain ⟨_, c2, hc2⟩ := RowAt.lt (h.found.each x hx) hx0
      refine .inl ⟨fun e => ?_, fun e => ?_⟩
      · injection e with e; subst e; exact absurd (obj_type hc2 h1) (by decide)
      · obtain ⟨_, c3, hc3⟩ := h.found.row.lt e; exact absurd (obj_type hc3 hc2) (by decide)
/-- A byte of junk. -/
theorem WK.junk (hf : Steady f) (h : WK f w wr p g fv vb v v2 wants K j l fs fs2 s K2 j2) (hw : f (l.drop s) = .wrong) : WK f w (wr.setCell ⟨p, 3, none⟩ (.int .i64 ((K2 + 1 : Nat) : Int))) p g fv vb v v2 wants K j l fs fs2 (s + 1) (K2 + 1) (j2 + 1) ∧ s < l.length := by
  obtain ⟨told, h1, h2⟩ := h.blk
  obtain ⟨gp1, gp2, gp3, gp4, gp5⟩ := h.gp
  have hst : Fr wr (wr.setCell ⟨p, 3, none⟩ (.int .i64 ((K2 + 1 : Nat) : Int))) (fun b => b = p) := Fr.setCell _ _ _ _ rfl
  have hlt : s < l.length := by
    have := List.length_pos_iff.2 (hf.wrong hw).1
    rw [List.length_drop] at this; omega
  obtain ⟨F, k2, q1, q2, q3, q4⟩ := h.eq
  refine ⟨⟨⟨told, h1.set3 (K2 + 1), by omega⟩, RowAt.fr h.row hst fun b hb e => ?_, ⟨h.found.row.fr hst fun b hb e => gp3 (e ▸ hb), fun x hx => RowAt.fr (h.found.each x hx) hst fun b hb e => ?_, h.found.sep⟩, by omega, ⟨F, k2 + 1, q1, by omega, by omega, ?_⟩, h.fr.trans hst fun b _ q => by rcases q with q | q; exact q; exact .inl q, h.new, h.news, h.apart, h.own, by have := h.cnt; omega⟩, hlt⟩
  · rw [h.own] at hb; injection hb with hb; exact gp1 (hb.trans e)
  · rcases gp5 x hx with q | q
    · exact q.1 (e ▸ hb)
    · rw [q] at hb; cases hb
  · rw [q4, walkL_wrong hf hw, List.drop_drop]
    simp only [Nat.add_assoc, Nat.add_comm 1]
theorem infoFm : ∃ i, Tryz.prog.info? 36 = some i ∧ i.zero = some (.agg #[.slice none 0 0, .int .i64 0]) ∧ i.size = 2 ∧ i.bytes = 32 := by
  have h : (Tryz.prog.info? 36).map (fun i => (i.zero, i.size, i.bytes)) = some (some (.agg #[.slice none 0 0, .int .i64 0]), 2, 32) := by kernel_rfl
  obtain ⟨i, hi, he⟩ := Option.map_eq_some_iff.1 h
  injection he with h1 h2
  injection h2 with h2 h3
  exact ⟨i, hi, h1, h2, h3⟩
/-- A frame. -/
theorem WK.whole (hf : Steady f) (h : WK f w wr p g fv vb v v2 wants K j l fs fs2 s K2 j2) {n : Nat} (hw : f (l.drop s) = .whole n) {vf : Value} (hb : FmB wx p fv vb wants K2 K2) (hby : ByAt wx vf ((l.drop s).take n)) (hfr : Fr wr wx (fun b => b = p)) (hnv : ∀ b, vf.ownBlock = some b → wr.heap.size ≤ b) (hcnt : fs2.length ≤ 2000005000) (ty : TypeId) (hvf : vf.oneCell' = true) :
    ∃ v' w', (Builtin.append_ #[30, 30] ty #[v2, .slice (some ⟨wx.heap.size, 0, none⟩) 1 1]).run Tryz.prog (wx.alloc (.cells #[vf, .int .i64 (j2 : Int)] 36)) = .ok v' w' ∧ WK f w w' p g fv vb v v' wants K j l fs (fs2 ++ [⟨vf, j2, (l.drop s).take n⟩]) (s + n) K2 0 ∧ 0 < n ∧ s + n ≤ l.length ∧ ∃ ao cp, v' = .slice ao (fs2.length + 1) cp := by
  obtain ⟨i, hi, hz, hsz, hby2⟩ := infoFm
  obtain ⟨told, h1, h2⟩ := h.blk
  obtain ⟨gp1, gp2, gp3, gp4, gp5⟩ := h.gp
  obtain ⟨hn0, hnl, _⟩ := hf.whole hw
  rw [List.length_drop] at hnl
  have hF7 : Fr wx (wx.alloc (.cells #[vf, .int .i64 (j2 : Int)] 36)) (fun _ => False) := Fr.alloc _ _ _
  have hb7 : (wx.alloc (.cells #[vf, .int .i64 (j2 : Int)] 36)).heap[wx.heap.size]? = some (.cells #[vf, .int .i64 (j2 : Int)] 36 (0, 0)) := heap_alloc_new wx _
  have hsz7 : wx.heap.size < (wx.alloc (.cells #[vf, .int .i64 (j2 : Int)] 36)).heap.size := by simp
  generalize wx.alloc (.cells #[vf, .int .i64 (j2 : Int)] 36) = w7 at *
  have hf7 : Fr wr w7 (fun b => b = p) := hfr.trans hF7 fun _ _ q => by rcases q with q | q; exact q; exact q.elim
  have hrow7 : RowAt w7 36 2 v2 fs2.length (flatL fmV fs2) := h.found.row.fr hf7 fun b hb e => gp3 (e ▸ hb)
  obtain ⟨v', w', hr, hrow, hfa, hnw⟩ := run_append_row (P := Tryz.prog) w7 30 ty 36 i _ 2 32 Tryz.underlying30 hi hz hsz hby2 (by rfl) v2 fs2.length (flatL fmV fs2) hrow7 ⟨wx.heap.size, 0, none⟩ 1 1 [vf, .int .i64 (j2 : Int)] rfl
    (fun k u hk => by rw [Addr.add_mid, cell_of_row _ _ _ _ _ _ hb7, Nat.zero_add]; simpa using hk) (fun u hu => by simp at hu; rcases hu with rfl | rfl; exact hvf; rfl) (.inl (by decide)) (by unfold maxLen; omega) (by omega)
  have hall : Fr wr w' (fun b => b = p ∨ v2.ownBlock = some b) := hf7.trans hfa fun _ _ q => q
  have hvx : ∀ b, vf.ownBlock = some b → v2.ownBlock ≠ some b := fun b hb e => by have h3 := hnv b hb; have h4 := (h.found.row.lt e).1; omega
  obtain ⟨F, k2, q1, q2, q3, q4⟩ := h.eq
  refine ⟨v', w', hr, ⟨⟨K2, (hb.fr hF7 id).fr hfa gp3, by omega⟩, RowAt.fr h.row hall fun b hb e => ?_, ⟨?_, fun x hx => ?_, List.pairwise_append.2 ⟨h.found.sep, List.pairwise_singleton _ _, fun x hx y hy b hb e => by obtain rfl := List.mem_singleton.1 hy; have := hnv b e; have := (RowAt.lt (h.found.each x hx) hb).1; omega⟩⟩, by omega, ⟨F ++ [((l.drop s).take n, j2)], k2, ?_, q2, by omega, ?_⟩, h.fr.trans hall fun b hb q => ?_, h.new.trans (w2 := wr) ?_ h.fr.size, fun x hx => ?_, fun x hx => ?_, h.own, by rw [List.length_append]; have := h.cnt; simp; omega⟩, hn0, by omega, ?_⟩
  · rw [h.own] at hb; injection hb with hb
    rcases e with e | e
    · exact gp1 (hb.trans e)
    · rw [← hb] at e; exact gp4 e
  · rw [List.length_append, flatL_app, flatL_one]; exact hrow
  · rcases List.mem_append.1 hx with hx | hx
    · refine RowAt.fr (h.found.each x hx) hall fun b hb e => ?_
      rcases gp5 x hx with q | q
      · rcases e with e | e
        · exact q.1 (e ▸ hb)
        · exact q.2 (e.trans hb.symm)
      · rw [q] at hb; cases hb
    · obtain rfl := List.mem_singleton.1 hx
      exact RowAt.fr (RowAt.fr hby hF7 fun _ _ q => q) hfa fun b hb e => hvx b hb e
  · unfold fsOf at q1 ⊢; rw [List.map_append, q1, List.append_assoc]; rfl
  · rw [q4, walkL_whole hf hw, List.drop_drop]
    simp only [List.append_assoc, List.singleton_append]
  · rcases q with q | q | q
    · exact q
    · exact .inl q
    · rcases h.new with e | ⟨g', e, hg'⟩
      · rw [e] at q; exact .inr q
      · rw [e] at q; injection q with q; omega
  · rcases hnw with q | ⟨q, _⟩
    · exact .inl q
    · exact .inr ⟨_, q, hf7.size⟩
  · rcases List.mem_append.1 hx with hx | hx
    · exact h.news x hx
    · obtain rfl := List.mem_singleton.1 hx
      exact .inr fun b hb => Nat.le_trans h.fr.size (hnv b hb)
  · rcases List.mem_append.1 hx with hx | hx
    · exact h.apart x hx
    · obtain rfl := List.mem_singleton.1 hx
      intro e
      have := hnv g e; omega
  · obtain ⟨ao, cp, e, _⟩ := hrow.form
    exact ⟨ao, cp, e⟩
end
end Go.Proofs.YtkpoheknmcepnaaGreatDoor
