/-
  arbiter: blocks, bytes, drawn regions by hand.
-/
import Derived.Test.YtdncemecnbglaaaVar2
import Derived.Test.YtdncemecnbglaaaBytes2
import Derived.Test.YtdncemecnbglaaaBytes4
import Derived.Test.YtdncemecnbglaaaRMem
import Derived.Deep.RegionHeld3
import Derived.Great.Walk
import Derived.Deep.DeepCutAuto
import Derived.Laws.AppendOwnNone
import Derived.Lib.ConvBytes
namespace Go.Proofs.Ytdncemecnbglaaa
set_option linter.unusedVariables false
set_option linter.unusedSimpArgs false
open Go.RowKit Go.Great

/-- A block of one's own. -/
def Blk (w : World) (g : Nat) (T : TypeId) (cs : Array Value) : Prop := w.heap[g]? = some (.cells cs T (0, 0))
section
variable {w w' : World} {g h : Nat} {T : TypeId} {cs : Array Value}
theorem Blk.lt (b : Blk w g T cs) : g < w.heap.size := (Array.getElem?_eq_some_iff.1 b).1
theorem Blk.new (w : World) (T : TypeId) (cs : Array Value) : Blk (w.alloc (.cells cs T)) w.heap.size T cs := heap_alloc_new w _
theorem Blk.alloc (b : Blk w g T cs) (o : Obj) : Blk (w.alloc o) g T cs := (heap_alloc_old w o b.lt).trans b
theorem Blk.below {B : Nat} (b : Blk w g T cs) (hb : Below B w w') (hg : g < B) : Blk w' g T cs := (hb.block g hg).trans b
theorem Blk.fr {ex : Nat → Prop} (b : Blk w g T cs) (hf : Fr w w' ex) (hn : ¬ ex g) : Blk w' g T cs := (hf.block g b.lt hn).trans b
theorem Blk.cell (b : Blk w g T cs) (k : Nat) : w.cell? ⟨g, k, none⟩ = cs[k]? := cell_of_row _ _ _ _ _ _ b
theorem Blk.frozen (b : Blk w g T cs) (k : Nat) : w.frozen? ⟨g, k, none⟩ = false := frozen_of_row w g k _ _ b
theorem Blk.set (b : Blk w g T cs) (k : Nat) (v : Value) : Blk (w.setCell ⟨g, k, none⟩ v) g T (cs.setIfInBounds k v) := by
  unfold Blk
  rw [setCell_eq_setRow w g k cs T (0, 0) v b]
  exact setRow_heap _ _ _ _ _ _ b
end
theorem below_step {a b c : World} (h : Below a.heap.size a b) (k : Below b.heap.size b c) : Below a.heap.size a c := h.trans (k.mono h.size)
def dN (l : List Nat) (j : Nat) : Nat := l.getD j 0
theorem rowL_dN (l : List Nat) : rowL (dN l) l.length = l := by
  apply List.ext_getElem
  · simp [rowL]
  · intro j h1 h2
    simp [rowL, dN, h2]
def BB (l : List Nat) : Prop := ∀ x ∈ l, x < 256
theorem BB.app {a b : List Nat} (h : BB a) (k : BB b) : BB (a ++ b) := fun x hx => by
  rcases List.mem_append.1 hx with q | q
  · exact h x q
  · exact k x q
theorem BB.take {a : List Nat} (h : BB a) (n : Nat) : BB (a.take n) := fun x hx => h x (List.mem_of_mem_take hx)
theorem BB.drop {a : List Nat} (h : BB a) (n : Nat) : BB (a.drop n) := fun x hx => h x (List.mem_of_mem_drop hx)
/-- Bytes that can be read. -/
structure By (w : World) (v : Value) (l : List Nat) : Prop where
  ex : ∃ a cap, v = .slice a l.length cap ∧ l.length ≤ cap ∧ (a = none → cap = 0) ∧ (l = [] ∨ ∃ b off, a = some ⟨b, off, none⟩ ∧ ∀ (j x : Nat), l[j]? = some x → w.cell? ⟨b, off + j, none⟩ = some (.int .u8 (x : Int)))
  bb : BB l
theorem By.nil (w : World) : By w (.slice none 0 0) [] := ⟨⟨none, 0, rfl, Nat.le_refl _, fun _ => rfl, .inl rfl⟩, fun x hx => by cases hx⟩
theorem By.form {w : World} {v : Value} {l : List Nat} (h : By w v l) : ∃ a cap, v = .slice a l.length cap ∧ l.length ≤ cap := by
  obtain ⟨a, cap, e, h1, _⟩ := h.ex
  exact ⟨a, cap, e, h1⟩
theorem By.src {w : World} {a : Option Addr} {n cap : Nat} {l : List Nat} (h : By w (.slice a n cap) l) : n = l.length ∧ n ≤ cap ∧ Src w a n (dN l) ∧ (a = none → n = 0 ∧ cap = 0) := by
  obtain ⟨a', cap', e, h1, h2, h3⟩ := h.ex
  injection e with e1 e2 e3
  subst e1 e2 e3
  refine ⟨rfl, h1, ?_, fun e => ⟨by have := h2 e; omega, h2 e⟩⟩
  rcases h3 with h3 | ⟨b, off, e, h3⟩
  · exact .inl (by rw [h3]; rfl)
  · refine .inr ⟨b, off, e, fun j hj => ?_⟩
    have hg : l[j]? = some l[j] := List.getElem?_eq_getElem hj
    have hd : dN l j = l[j] := by simp [dN, hj]
    rw [hd]
    exact ⟨h3 j _ hg, h.bb _ (List.getElem_mem hj)⟩
theorem By.fr {w w' : World} {v : Value} {l : List Nat} {ex : Nat → Prop} (h : By w v l) (hf : Fr w w' ex) (hn : ∀ q, v.ownBlock = some q → ¬ ex q) : By w' v l := by
  obtain ⟨a, cap, rfl, h1, h2, h3⟩ := h.ex
  refine ⟨⟨a, cap, rfl, h1, h2, ?_⟩, h.bb⟩
  rcases h3 with h3 | ⟨b, off, rfl, h3⟩
  · exact .inl h3
  · exact .inr ⟨b, off, rfl, fun j x hj => hf.cell (h3 j x hj) (hn b rfl)⟩
theorem By.below {w w' : World} {v : Value} {l : List Nat} (h : By w v l) (hb : Below w.heap.size w w') : By w' v l := h.fr (Fr.of_below hb (fun _ => False)) fun _ _ => id
theorem RowAt.by' {w : World} {v : Value} {l : List Nat} (h : RowAt w 5 1 v l.length (bvals l)) (hb : BB l) : By w v l := by
  refine ⟨?_, hb⟩
  rcases h.2 with ⟨e1, e2⟩ | ⟨g, off, cap, cur, e1, _, e3, _⟩
  · exact ⟨none, 0, by rw [e1, e2], by omega, fun _ => rfl, .inl (List.eq_nil_of_length_eq_zero e2)⟩
  · refine ⟨_, cap, e1, e3, fun e => (by cases e), ?_⟩
    by_cases h0 : l = []
    · exact .inl h0
    · refine .inr ⟨g, off, rfl, fun j x hj => h.cell e1 ?_⟩
      simp [bvals, hj]
theorem own_rowAt {w : World} {B n : Nat} {v : Value} {l : List Nat} (h : w.ownsRow B 5 1 v n (bvals l)) : RowAt w 5 1 v n (bvals l) ∧ (∀ g, v.ownBlock = some g → B ≤ g) ∧ n = l.length := by
  have hn : n = l.length := by have := h.1; rw [bvals_length] at this; omega
  refine ⟨⟨h.1, ?_⟩, ?_, hn⟩
  · rcases h.2 with h2 | ⟨g, cap, cur, e1, e2, e3, e4, e5, e6, e7⟩
    · exact .inl h2
    · exact .inr ⟨g, 0, cap, cur, e1, e3, e4, e5, by omega, by rw [List.drop_zero]; exact e7⟩
  · intro g hg
    rcases h.2 with ⟨h2, _⟩ | ⟨g', cap, cur, e1, e2, _⟩
    · rw [h2] at hg; cases hg
    · rw [e1] at hg
      have e : g' = g := by injection hg
      subst e; exact e2
/-- Bytes of one's own. -/
structure OwnB (w w' : World) (v : Value) (l : List Nat) : Prop where
  own : w'.ownsRow w.heap.size 5 1 v l.length (bvals l)
  bb : BB l
  bel : Below w.heap.size w w'
theorem OwnB.row {w w' : World} {v : Value} {l : List Nat} (h : OwnB w w' v l) : RowAt w' 5 1 v l.length (bvals l) := (own_rowAt h.own).1
theorem OwnB.low {w w' : World} {v : Value} {l : List Nat} (h : OwnB w w' v l) : ∀ g, v.ownBlock = some g → w.heap.size ≤ g := (own_rowAt h.own).2.1
theorem OwnB.by' {w w' : World} {v : Value} {l : List Nat} (h : OwnB w w' v l) : By w' v l := h.row.by' h.bb
theorem own_mono {w : World} {base base' size n : Nat} {e : TypeId} {v : Value} {xs : List Value} (h : w.ownsRow base e size v n xs) (hb : base' ≤ base) : w.ownsRow base' e size v n xs := by
  refine ⟨h.1, ?_⟩
  rcases h.2 with h2 | ⟨g, cap, cur, e1, e2, e3⟩
  · exact .inl h2
  · exact .inr ⟨g, cap, cur, e1, Nat.le_trans hb e2, e3⟩
theorem OwnB.since {w0 w w' : World} {v : Value} {l : List Nat} (h : OwnB w w' v l) (hb : Below w0.heap.size w0 w) : OwnB w0 w' v l := ⟨own_mono h.own hb.size, h.bb, below_step hb h.bel⟩
theorem OwnB.of {w w' : World} {n : Nat} {v : Value} {l : List Nat} (h : w'.ownsRow w.heap.size 5 1 v n (bvals l)) (hb : Below w.heap.size w w') (hl : BB l) : OwnB w w' v l := by
  obtain ⟨h1, h2, rfl⟩ := own_rowAt h
  exact ⟨h, hl, hb⟩
theorem putTo_bb (n s m : Nat) : BB (putTo n s m) := fun x hx => putTo_lt hx
/-- So many bytes of a number, highest first. -/
theorem Put_by (w : World) (u s : Nat) (hs8 : s ≤ 8) (hu : u < 18446744073709551616) :
    Calls Try.prog 23 #[.slice none 0 0, .int .u64 (u : Int), .int .i64 (s : Int)] w fun e w' => ∃ v', e = .returned v' ∧ Hid (OwnB w w' v' (putTo u s s)) := by
  obtain ⟨_, _, hs, ha⟩ := (By.nil w).src
  refine (Put_any none 0 0 (dN []) u s hs8 w (by omega) hu hs ha).mono fun e w' ⟨v', e1, h2, h3⟩ => ⟨v', e1, ?_⟩
  exact OwnB.of (l := putTo u s s) h2 h3 (putTo_bb _ _ _)
/-- A part of bytes. -/
def cutV (v : Value) (lo hi mx : Nat) : Value := match v with
  | .slice a _ _ => .slice (if mx = lo then a else a.map (·.add lo)) (hi - lo) (mx - lo)
  | x => x
theorem By.cut {w : World} {a : Option Addr} {n cap : Nat} {l : List Nat} (h : By w (.slice a n cap) l) {lo hi mx : Nat} (h1 : lo ≤ hi) (h2 : hi ≤ l.length) (h3 : hi ≤ mx) (h4 : mx ≤ cap) : By w (cutV (.slice a n cap) lo hi mx) ((l.drop lo).take (hi - lo)) := by
  have hlen : ((l.drop lo).take (hi - lo)).length = hi - lo := by rw [List.length_take, List.length_drop]; omega
  obtain ⟨a', cap', e, k1, k2, k3⟩ := h.ex
  injection e with e1 e2 e3
  subst e1 e2 e3
  refine ⟨⟨_, mx - lo, by rw [hlen]; rfl, by rw [hlen]; omega, fun e => ?_, ?_⟩, (h.bb.drop lo).take _⟩
  · have : a = none := by
      split at e
      · exact e
      · cases a with
        | none => rfl
        | some x => cases e
    have := k2 this
    omega
  · rcases k3 with k3 | ⟨b, off, rfl, k3⟩
    · subst k3; left; simp
    · by_cases h0 : lo = hi
      · left
        apply List.eq_nil_of_length_eq_zero
        rw [hlen]; omega
      · refine .inr ⟨b, off + lo, ?_, fun j x hj => ?_⟩
        · rw [if_neg (by omega)]
          show some ((⟨b, off, none⟩ : Addr).add lo) = some _
          rw [Addr.add_mid]
        · rw [List.getElem?_take] at hj
          split at hj
          · rw [List.getElem?_drop] at hj
            rw [Nat.add_assoc]
            exact k3 _ _ hj
          · cases hj
theorem By.cutV {w : World} {v : Value} {l : List Nat} (h : By w v l) {lo hi : Nat} (h1 : lo ≤ hi) (h2 : hi ≤ l.length) : By w (cutV v lo hi hi) ((l.drop lo).take (hi - lo)) := by
  obtain ⟨a, cap, rfl, k⟩ := h.form
  exact h.cut h1 h2 (Nat.le_refl _) (by omega)
theorem size5' : (sizeOf (Try.prog.elem 35)).run Try.prog = fun w => .ok 1 w := by funext w; kernel_rfl
theorem undB : Try.prog.underlying 35 = some (.slice (Try.prog.elem 35)) := by kernel_rfl
theorem wpList_callW {P : Program} {ops : Array Oper} {rest : List Oper} {op : Oper} {a : Act} {w : World} {Q : Exit → Act → World → Prop} (hg : op.guard = none) (d : Option Tmp) (hd : op.dst = d)
    (f : FuncId) (args : Array Value) (hrun : (execOp a.eval op).run P w = .ok (.enter f args) w) {R : Ending → World → Prop} (hc : Calls P f args w R)
    (h : ∀ e w', R e w' → ∃ v, e = .returned v ∧ wpList P ops Q rest (a.put d v) w') : wpList P ops Q (op :: rest) a w := by
  subst hd
  refine wpList_plain hg fun K hK => ?_
  unfold Oper.wp
  rw [hrun, Oper.upon_enter]
  refine hc.mono fun e w'' hh => ?_
  obtain ⟨v, rfl, hw⟩ := h _ _ hh
  exact hK _ _ hw
theorem sliceL_run {op : Oper} {a : Act} {ao : Option Addr} {n cap lo : Nat} (x y : Operand) (ho : op.op = .slice 35 x (some y) none none) (hx : a.eval x = .slice ao n cap) (hy : a.eval y = .int .i64 (lo : Int)) (h : lo ≤ n) (w : World) : (execOp a.eval op).run Try.prog w = .ok (.value (cutV (.slice ao n cap) lo n cap)) w := by
  have HS : (Instr.sliceAt 35 (.slice ao n cap) (some (.int .i64 (lo : Int))) none none).run Try.prog w = .ok (cutV (.slice ao n cap) lo n cap) w := by
    rw [run_sliceAt_slice _ _ _ _ _ _ undB, run_slice_l _ _ _ _ _ undB .i64 (lo : Int) (by omega) (by omega), size5']
    show Result.ok _ w = _
    unfold sliced cutV
    simp
  unfold execOp
  simp only [ho, hx, hy, Option.map_some, Option.map_none]
  simp only [HS, Sem.run_bind, Result.andThen_ok]
  rfl
theorem takeR {P : Program} {md : Region.Mode} {ops : Array Oper} {Q : Exit → Act → World → Prop} {S : World → Prop} {i : Nat} {oi : Oper} {v : Value} {fuel : Nat} {listed : Array Bool} {a : Act} {w : World} (d : Option Tmp) (hi : ops[i]? = some oi) (hd : oi.dst = d)
    (hs : Region.noSelect ops = true) (hf : Region.free md ops listed i = true) (hr : (Region.ready md ops listed).contains i = true)
    (hQ : ∀ c a w, Q (.panic c) (a.put d v) w → Q (.panic c) a w) (hy : YieldsIf P ops S oi v a) (hS : S w)
    (h : wpAnyH P md ops Q S fuel (listed.setIfInBounds i true) (a.put d v) w) : wpAnyH P md ops Q S (fuel + 1) listed a w := by
  subst hd
  exact wpAnyH_take hi hs hf hr hQ hy hS h
theorem takeA {P : Program} {md : Region.Mode} {ops : Array Oper} {Q : Exit → Act → World → Prop} {i : Nat} {oi : Oper} {v : Value} {fuel : Nat} {listed : Array Bool} {a : Act} {w : World} (d : Option Tmp) (hi : ops[i]? = some oi) (hd : oi.dst = d)
    (hs : Region.noSelect ops = true) (hf : Region.free md ops listed i = true) (hr : (Region.ready md ops listed).contains i = true)
    (hQ : ∀ c a w, Q (.panic c) (a.put d v) w → Q (.panic c) a w) (hy : Yields P ops oi v a)
    (h : wpAny P md ops Q fuel (listed.setIfInBounds i true) (a.put d v) w) : wpAny P md ops Q (fuel + 1) listed a w := by
  subst hd
  exact wpAny_take hi hs hf hr hQ hy h
theorem callR {P : Program} {op : Oper} {a : Act} {w : World} {K : Act → World → Prop} {Q : Exit → Act → World → Prop} {d : Option Tmp} (hd : op.dst = d)
    (f : FuncId) (args : Array Value) (hrun : (execOp a.eval op).run P w = .ok (.enter f args) w) {R : Ending → World → Prop} (hc : Calls P f args w R)
    (h : ∀ e w', R e w' → ∃ v, e = .returned v ∧ K (a.put d v) w') : op.wp P a w K Q := by
  subst hd
  unfold Oper.wp
  rw [hrun, Oper.upon_enter]
  refine hc.mono fun e w'' hh => ?_
  obtain ⟨v, rfl, hw⟩ := h _ _ hh
  exact hw
theorem valR {P : Program} {op : Oper} {a : Act} {w w' : World} {K : Act → World → Prop} {Q : Exit → Act → World → Prop} {d : Option Tmp} (hd : op.dst = d) (v : Value)
    (hrun : (execOp a.eval op).run P w = .ok (.value v) w') (h : K (a.put d v) w') : op.wp P a w K Q := by
  subst hd
  unfold Oper.wp
  rw [hrun, Oper.upon_value]
  exact h
theorem skipR {P : Program} {op : Oper} {a : Act} {w w' : World} {K : Act → World → Prop} {Q : Exit → Act → World → Prop} {d : Option Tmp} (hd : op.dst = d)
    (hrun : (execOp a.eval op).run P w = .ok .skip w') (h : K (a.put d undef) w') : op.wp P a w K Q := by
  subst hd
  unfold Oper.wp
  rw [hrun]
  exact h
theorem exec_append {op : Oper} {a : Act} {w w' : World} {v v1 v2 : Value} {t u : TypeId} (x y : Operand) (ho : op.op = .call { callee := .builtin .append, args := #[x, y], argTypes := #[t, u] }) (hx : a.eval x = v1) (hy : a.eval y = v2) (hr : (Builtin.append_ #[t, u] op.type #[v1, v2]).run Try.prog w = .ok v w') : (execOp a.eval op).run Try.prog w = .ok (.value v) w' := by
  unfold execOp
  simp only [ho, resolve, invoke, builtin, Sem.run_bind, Sem.run_pure, Result.andThen_ok, List.map_toArray, List.map_cons, List.map_nil, hx, hy, hr]
def ofN (l : List Nat) : ByteArray := ⟨(l.map UInt8.ofNat).toArray⟩
theorem ofN_size (l : List Nat) : (ofN l).size = l.length := by simp [ofN, ByteArray.size]
set_option maxRecDepth 100000 in
theorem conv_by {w : World} {v : Value} {l : List Nat} (h : By w v l) : (convert 35 9 v).run Try.prog w = .ok (.string (ofN l)) w := by
  obtain ⟨a, cap, rfl, h1, h2, h3⟩ := h.ex
  cases a with
  | none =>
    have : cap = 0 := h2 rfl
    have hl : l = [] := List.eq_nil_of_length_eq_zero (by omega)
    subst hl
    subst this
    exact (by kernel_rfl : (convert 35 9 (.slice none 0 0)).run Try.prog w = .ok (.string ⟨#[]⟩) w)
  | some ad =>
    have := run_convert_bytes_back (P := Try.prog) w 35 9 5 ad cap (l.map UInt8.ofNat) Try.underlying35 Try.underlying5 Try.underlying9 (fun j hj => by
      rw [List.length_map] at hj
      rcases h3 with h3 | ⟨b, off, e, h3⟩
      · rw [h3] at hj; simp at hj
      · injection e with e
        subst e
        rw [Addr.add_mid, h3 j l[j] (List.getElem?_eq_getElem hj), List.getElem_map]
        have := h.bb _ (List.getElem_mem hj)
        rw [UInt8.toNat_ofNat', Nat.mod_eq_of_lt (by omega)])
    rw [List.length_map] at this
    exact this
theorem dN_at {l : List Nat} {j : Nat} (h : j < l.length) : dN l j = l[j] := by
  unfold dN
  rw [List.getD_eq_getElem?_getD, List.getElem?_eq_getElem h]; rfl
theorem conv_run {op : Oper} {a : Act} {w : World} {v : Value} {l : List Nat} (x : Operand) (ho : op.op = .convert 35 9 x) (hx : a.eval x = v) (h : By w v l) : (execOp a.eval op).run Try.prog w = .ok (.value (.string (ofN l))) w := by
  have hc := conv_by h
  unfold execOp
  simp only [ho, hx]
  simp only [hc, Sem.run_bind, Result.andThen_ok]
  rfl
end Go.Proofs.Ytdncemecnbglaaa
