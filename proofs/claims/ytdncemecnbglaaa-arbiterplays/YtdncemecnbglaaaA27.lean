/-
  given: single operations, where its three parts stand.
-/
import Derived.Test.YtdncemecnbglaaaA26
namespace Go.Proofs.Ytdncemecnbglaaa
set_option linter.unusedVariables false
set_option linter.unusedSimpArgs false
open Go.RowKit Go.Great Go.Maps

/-- The types of lists. -/
def LT (T : TypeId) : Prop := T = 49 ∨ T = 32 ∨ T = 35 ∨ T = 50 ∨ T = 51 ∨ T = 52 ∨ T = 59
theorem ldS_run {op : Oper} {a : Act} {w : World} {g o : Nat} {v : Value} {T : TypeId} (hT : LT T) (x : Operand) (ho : op.op = .load T x) (hx : a.eval x = .pointer (some ⟨g, o, none⟩)) (h : w.cell? ⟨g, o, none⟩ = some v) : (execOp a.eval op).run Try.prog w = .ok (.value v) w := by
  unfold execOp
  simp only [ho, hx]
  rcases hT with rfl | rfl | rfl | rfl | rfl | rfl | rfl <;> go_simp
theorem stS_run {op : Oper} {a : Act} {w : World} {g o : Nat} {v v0 : Value} {T : TypeId} (hT : LT T) (hvf : ∃ a n c, v = .slice a n c) (hvf0 : ∃ a n c, v0 = .slice a n c) (x y : Operand) (ho : op.op = .store T x y) (hx : a.eval x = .pointer (some ⟨g, o, none⟩)) (hy : a.eval y = v) (h : w.cell? ⟨g, o, none⟩ = some v0) (hf : w.frozen? ⟨g, o, none⟩ = false) : (execOp a.eval op).run Try.prog w = .ok .skip (w.setCell ⟨g, o, none⟩ v) := by
  obtain ⟨_, _, _, rfl⟩ := hvf
  obtain ⟨_, _, _, rfl⟩ := hvf0
  unfold execOp
  simp only [ho, hx, hy]
  rcases hT with rfl | rfl | rfl | rfl | rfl | rfl | rfl <;> go_simp
theorem buildH_run {op : Oper} {a : Act} {v : Value} {m : Nat} (hv : ∃ a n c, v = .slice a n c) (x y : Operand) (ho : op.op = .build 89 #[(0, x), (1, y)]) (hx : a.eval x = v) (hy : a.eval y = .int .u8 (m : Int)) (w : World) : (execOp a.eval op).run Try.prog w = .ok (.value (.agg #[v, .int .u8 (m : Int)])) w := by
  obtain ⟨_, _, _, rfl⟩ := hv
  unfold execOp
  simp only [ho, List.map_toArray, List.map_cons, List.map_nil, hx, hy]
  kernel_rfl
theorem buildH1_run {op : Oper} {a : Act} {v : Value} {m : Nat} (hv : ∃ a n c, v = .slice a n c) (x : Operand) (ho : op.op = .buildSlice 49 1 #[(0, x)]) (hx : a.eval x = .agg #[v, .int .u8 (m : Int)]) (w : World) : (execOp a.eval op).run Try.prog w = .ok (.value (.slice (some ⟨w.heap.size, 0, none⟩) 1 1)) (w.alloc (.cells #[v, .int .u8 (m : Int)] 89)) := by
  obtain ⟨_, _, _, rfl⟩ := hv
  unfold execOp
  simp only [ho, List.map_toArray, List.map_cons, List.map_nil, hx]
  kernel_rfl
theorem buildO1_run {op : Oper} {a : Act} {v : Value} {T E : TypeId} (hT : T = 51 ∧ E = 32 ∨ T = 50 ∧ E = 59) (hv : ∃ a n c, v = .slice a n c) (x : Operand) (ho : op.op = .buildSlice T 1 #[(0, x)]) (hx : a.eval x = v) (w : World) : (execOp a.eval op).run Try.prog w = .ok (.value (.slice (some ⟨w.heap.size, 0, none⟩) 1 1)) (w.alloc (.cells #[v] E)) := by
  obtain ⟨_, _, _, rfl⟩ := hv
  unfold execOp
  simp only [ho, List.map_toArray, List.map_cons, List.map_nil, hx]
  rcases hT with ⟨rfl, rfl⟩ | ⟨rfl, rfl⟩ <;> kernel_rfl
theorem eV_one {w : World} {G : Gh} {e : En} (h : EOk w G e) : ∀ u ∈ eV e, u.oneCell' = true := fun u hu => by
  obtain ⟨ao, cap, hv, _⟩ := h.mr.form
  unfold eV at hu
  rw [hv] at hu
  simp at hu
  rcases hu with rfl | rfl <;> rfl
/-- The first part of given: so many packets are written over and kept. -/
structure P1 (s : Nat) (G : Gh) (w : World) (p : Nat) (c0 : PC) (av : Value) (ks : List Kp) (os : List (Value × Nat)) (i : Nat) (G' : Gh) (w' : World) (c : PC) (es : List En) : Prop where
  gv : GV s G w p c0 G' w' c es os
  row : RowAt w' 35 1 av ks.length (ks.map (·.v))
  col : ∀ q, av.ownBlock = some q → G' q = (1, s)
  pk : ∀ (j : Nat) k, i ≤ j → ks[j]? = some k → PkAt w' k ∧ ∀ q, k.v.ownBlock = some q → G' q = (1, s)
section
variable {s : Nat} {G G' G2 : Gh} {w w' w2 w3 : World} {p : Nat} {c0 c : PC} {es : List En} {os : List (Value × Nat)} {av : Value} {ks : List Kp} {i : Nat}
theorem P1.step (h : P1 s G w p c0 av ks os i G' w' c es) (k : Stp s (fun _ => False) G' w' G2 w2) (hc : ∀ q, G' q = (1, s) → G2 q = (1, s)) : P1 s G w p c0 av ks os i G2 w2 c es := by
  have n2 : ∀ q, G2 q = (1, s) → ∀ m, G2 q ≠ (2, m) := fun q h m e => by rw [h] at e; simp at e
  exact ⟨h.gv.step k, h.row.stpC k (.inr (.inr rfl)) fun q hq => n2 q (hc q (h.col q hq)), fun q hq => hc q (h.col q hq), fun j x hj hx => ⟨(h.pk j x hj hx).1.stp k fun q hq => n2 q (hc q ((h.pk j x hj hx).2 q hq)), fun q hq => hc q ((h.pk j x hj hx).2 q hq)⟩⟩
/-- The next packet is its owner's to write over. -/
theorem P1.turn (h : P1 s G w p c0 av ks os i G' w' c es) (hd : ks.Pairwise fun a b => a.v.ownBlock ≠ b.v.ownBlock) {k : Kp} (hk : ks[i]? = some k) {b : Nat} (hb : k.v.ownBlock = some b) (m : Nat) : P1 s G w p c0 av ks os (i + 1) (pnt G' b (2, m)) w' c es := by
  have hkp := h.pk i k (Nat.le_refl _) hk
  have hst : Stp s (fun _ => False) G' w' (pnt G' b (2, m)) w' := Stp.turn h.gv.st.gi (hkp.2 b hb) m
  obtain ⟨_, cur, hcur⟩ := hkp.1.1.lt hb
  have hav : ∀ q, av.ownBlock = some q → q ≠ b := fun q hq e => by
    subst e
    exact h.row.ne_type hcur (by decide) hq
  have hne : ∀ (j : Nat) x, i + 1 ≤ j → ks[j]? = some x → ∀ q, x.v.ownBlock = some q → q ≠ b := fun j x hj hx q hq e => by
    subst e
    refine absurd (hb.trans hq.symm) ?_
    obtain ⟨h1, e1⟩ := List.getElem?_eq_some_iff.1 hk
    obtain ⟨h2, e2⟩ := List.getElem?_eq_some_iff.1 hx
    have := List.pairwise_iff_getElem.1 hd i j h1 h2 (by omega)
    rw [e1, e2] at this
    exact this
  have n2 : ∀ q, q ≠ b → G' q = (1, s) → ∀ z, pnt G' b (2, m) q ≠ (2, z) := fun q hq h1 z e => by rw [pnt_ne _ _ hq, h1] at e; simp at e
  refine ⟨h.gv.step hst, h.row.stpC hst (.inr (.inr rfl)) fun q hq => n2 q (hav q hq) (h.col q hq), fun q hq => by rw [pnt_ne _ _ (hav q hq)]; exact h.col q hq, fun j x hj hx => ?_⟩
  have hj2 := h.pk j x (by omega) hx
  exact ⟨hj2.1.stp hst fun q hq => n2 q (hne j x hj hx q hq) (hj2.2 q hq), fun q hq => by rw [pnt_ne _ _ (hne j x hj hx q hq)]; exact hj2.2 q hq⟩
theorem P1.push (h : P1 s G w p c0 av ks os i G' w' c es) {v' : Value} {e : En} (he : EOk w' G' e) (k : Psh w' w3 p c.cs (c.cs.setIfInBounds 2 v') 89 2 c.k v' es.length (flatL eV es) (eV e)) : P1 s G w p c0 av ks os i G' w3 { c with k := v' } (es ++ [e]) := by
  have hx : ∀ q, q = p ∨ c.k.ownBlock = some q → ∀ (cur : Array Value) (T : TypeId), w'.heap[q]? = some (.cells cur T (0, 0)) → ¬ hotT T := fun q hq cur T hc => by
    rcases hq with rfl | hq
    · exact h.gv.blk.nh nhP hc
    · exact h.gv.hs.row.nh nhH hq hc
  have key : ∀ (q : Nat) (cur : Array Value) (T : TypeId), w'.heap[q]? = some (.cells cur T (0, 0)) → hotT T → w3.heap[q]? = w'.heap[q]? := fun q cur T hc hT => k.fr.block q (Array.getElem?_eq_some_iff.1 hc).1 fun e => hx q e cur T hc hT
  refine ⟨h.gv.pushK he k, h.row.keep fun q hq => ?_, h.col, fun j x hj hx2 => ⟨⟨(h.pk j x hj hx2).1.1.keep fun q hq => ?_, (h.pk j x hj hx2).1.2⟩, (h.pk j x hj hx2).2⟩⟩
  · obtain ⟨_, cur, hc⟩ := h.row.lt hq
    exact key q cur _ hc (.inr (.inr rfl))
  · obtain ⟨_, cur, hc⟩ := (h.pk j x hj hx2).1.1.lt hq
    exact key q cur _ hc (.inl rfl)
end
/-- A hold put onto the list of holds. -/
theorem P1.pushR {s : Nat} {G G' : Gh} {w w' : World} {p : Nat} {c0 c : PC} {es : List En} {os : List (Value × Nat)} {av : Value} {ks : List Kp} {i : Nat} (h : P1 s G w p c0 av ks os i G' w' c es) {e : En} (he : EOk w' G' e) (hn : es.length + 1 ≤ 4000000000000) (ty : TypeId) :
    ∃ v' w2, (Builtin.append_ #[49, 49] ty #[c.k, .slice (some ⟨w'.heap.size, 0, none⟩) 1 1]).run Try.prog (w'.alloc (.cells #[e.v, .int .u8 (e.m : Int)] 89)) = .ok v' w2 ∧ Blk w2 p 54 c.cs ∧ Fr w' w2 (fun q => c.k.ownBlock = some q) ∧ RowAt w2 35 1 av ks.length (ks.map (·.v)) ∧ P1 s G w p c0 av ks os i G' (w2.setCell ⟨p, 2, none⟩ v') { c with k := v' } (es ++ [e]) ∧ (∃ a cap, v' = .slice a (es.length + 1) cap) ∧ ∀ q, v'.ownBlock = some q → c.k.ownBlock = some q ∨ w'.heap.size ≤ q := by
  obtain ⟨ih, hih, hh0, hh1, hh2⟩ := info_parts infoH
  have hmx : 140737488355328 ≤ maxLen := by decide
  obtain ⟨v', w2, h1, h2, h3, h4, h5⟩ := push_any (c := 2) h.gv.blk h.gv.hs.row (by decide) 49 ty ih (.agg #[.slice none 0 0, .int .u8 0]) 32 Try.underlying49 hih hh0 hh1 hh2 rfl (eV e) rfl (eV_one he) (by omega) (by omega)
  refine ⟨v', w2, h1, h2, h3, h.row.fr h3 fun q hq e2 => ?_, h.push he h4, h5, h4.own⟩
  obtain ⟨_, cur, hc⟩ := h.row.lt hq
  exact h.gv.hs.row.ne_type hc (by decide) e2
/-- Bytes of which the first q are written over. -/
def BR (w : World) (v : Value) (bl q mk : Nat) : Prop := ∃ xs, RowAt w 5 1 v bl xs ∧ ∀ j, j < bl → ∃ c : Nat, xs[j]? = some (.int .u8 (c : Int)) ∧ (j < q → c = mk)
theorem PkAt.br {w : World} {k : Kp} (h : PkAt w k) (mk : Nat) : BR w k.v k.l.length 0 mk := ⟨_, h.1, fun j hj => ⟨k.l[j], by unfold bvals; rw [List.getElem?_map, List.getElem?_eq_getElem hj]; rfl, fun h => absurd h (Nat.not_lt_zero _)⟩⟩
theorem BR.cell {w : World} {g off bl c q mk : Nat} (h : BR w (.slice (some ⟨g, off, none⟩) bl c) bl q mk) (hq : q < bl) : (∃ x : Nat, w.cell? ⟨g, off + q, none⟩ = some (.int .u8 (x : Int))) ∧ w.frozen? ⟨g, off + q, none⟩ = false := by
  obtain ⟨xs, r, hx⟩ := h
  obtain ⟨x, h1, _⟩ := hx q hq
  exact ⟨⟨x, r.cell rfl h1⟩, r.frozen rfl _⟩
theorem BR.set {w : World} {g off bl c q mk : Nat} (h : BR w (.slice (some ⟨g, off, none⟩) bl c) bl q mk) (hq : q < bl) : BR (w.setCell ⟨g, off + q, none⟩ (.int .u8 (mk : Int))) (.slice (some ⟨g, off, none⟩) bl c) bl (q + 1) mk := by
  obtain ⟨xs, r, hx⟩ := h
  have hl : xs.length = bl := by rw [r.1]; omega
  refine ⟨_, r.setE hq, fun j hj => ?_⟩
  rw [List.getElem?_set]
  by_cases e : q = j
  · subst e
    rw [if_pos rfl, if_pos (by omega)]
    exact ⟨mk, rfl, fun _ => rfl⟩
  · rw [if_neg e]
    obtain ⟨x, h1, h2⟩ := hx j hj
    exact ⟨x, h1, fun hlt => h2 (by omega)⟩
theorem BR.done {w : World} {v : Value} {bl mk : Nat} {G : Gh} (h : BR w v bl bl mk) (hm : mk < 256) (hg : ∀ q, v.ownBlock = some q → G q = (2, mk)) : MkA w G 5 1 mk v bl := by
  obtain ⟨xs, r, hx⟩ := h
  refine ⟨xs, r, fun x hxm => ?_, hg⟩
  obtain ⟨j, hj⟩ := List.getElem?_of_mem hxm
  have hlt : j < bl := by have := (List.getElem?_eq_some_iff.1 hj).1; rw [r.1] at this; omega
  obtain ⟨c, h1, h2⟩ := hx j hlt
  rw [hj] at h1
  injection h1 with h1
  rw [h1, h2 hlt]
  exact .inl ⟨rfl, .inl ⟨rfl, hm⟩⟩
theorem BR.blk {w : World} {g off bl c q mk : Nat} (h : BR w (.slice (some ⟨g, off, none⟩) bl c) bl q mk) : ∃ cur, w.heap[g]? = some (.cells cur 5 (0, 0)) := by
  obtain ⟨xs, r, _⟩ := h
  exact (r.lt rfl).2
theorem ixH_run {op : Oper} {a : Act} {g o n c i : Nat} (x y : Operand) (ho : op.op = .indexAddr 49 x y) (hx : a.eval x = .slice (some ⟨g, o, none⟩) n c) (hy : a.eval y = .int .i64 (i : Int)) (hi : i < n) (w : World) : (execOp a.eval op).run Try.prog w = .ok (.value (.pointer (some ⟨g, o + i * 2, none⟩))) w := by
  have h1 : (i : Int) < (n : Int) := by omega
  have h2 : ¬ (n : Int) ≤ (i : Int) := by omega
  unfold execOp
  simp only [ho, hx, hy]
  go_simp
theorem lenL_run {op : Oper} {a : Act} {v : Value} {ao : Option Addr} {n c : Nat} (hv : v = .slice ao n c) {T : TypeId} (x : Operand) (ho : op.op = .call { callee := .builtin .len, args := #[x], argTypes := #[T] }) (hT : LT T) (hx : a.eval x = v) (w : World) : (execOp a.eval op).run Try.prog w = .ok (.value (.int .i64 (n : Int))) w := by
  subst hv
  unfold execOp
  simp only [ho, resolve, invoke, builtin, Sem.run_bind, Sem.run_pure, Result.andThen_ok, List.map_toArray, List.map_cons, List.map_nil, hx]
  rcases hT with rfl | rfl | rfl | rfl | rfl | rfl | rfl <;> go_simp
theorem infoHs : (Try.prog.info? 89).map (·.size) = some 2 := by kernel_rfl
theorem cvB_run {op : Oper} {a : Act} {p : Nat} (x : Operand) (ho : op.op = .convert 3 5 x) (hx : a.eval x = .int .i64 (p : Int)) (w : World) : (execOp a.eval op).run Try.prog w = .ok (.value (.int .u8 ((p % 256 : Nat) : Int))) w := by
  have hw : IntKind.u8.wrap (p : Int) = ((p % 256 : Nat) : Int) := by rw [IntKind.wrap_u8]; omega
  unfold execOp
  simp only [ho, hx]
  go_simp
theorem quo256_run {op : Oper} {a : Act} {p : Nat} (x : Operand) (ho : op.op = .binOp .quo 3 x (.const (.int .i64 256)) 3) (hx : a.eval x = .int .i64 (p : Int)) (hp : p ≤ 9223372036854775807) (w : World) : (execOp a.eval op).run Try.prog w = .ok (.value (.int .i64 ((p / 256 : Nat) : Int))) w := by
  have h1 : Int.tdiv (p : Int) 256 = ((p / 256 : Nat) : Int) := by rw [Int.tdiv_eq_ediv_of_nonneg (by omega)]; omega
  have h2 : wrap64 ((p / 256 : Nat) : Int) = ((p / 256 : Nat) : Int) := by unfold wrap64; omega
  have h3 : IntKind.i64.wrap ((p / 256 : Nat) : Int) = ((p / 256 : Nat) : Int) := by rw [IntKind.wrap_i64]; omega
  have h4 : IntKind.i64.wrap ((p : Int) / 256) = (p : Int) / 256 := by rw [IntKind.wrap_i64]; omega
  have e : a.eval (.const (.int .i64 256)) = .int .i64 256 := rfl
  unfold execOp
  simp only [ho, hx, e]
  go_simp
theorem buildB2_run {op : Oper} {a : Act} {p q : Int} (x y : Operand) (ho : op.op = .buildSlice 35 2 #[(0, x), (1, y)]) (hx : a.eval x = .int .u8 p) (hy : a.eval y = .int .u8 q) (w : World) : (execOp a.eval op).run Try.prog w = .ok (.value (.slice (some ⟨w.heap.size, 0, none⟩) 2 2)) (w.alloc (.cells #[.int .u8 p, .int .u8 q] 5)) := by
  unfold execOp
  simp only [ho, List.map_toArray, List.map_cons, List.map_nil, hx, hy]
  kernel_rfl
theorem buildB1_run {op : Oper} {a : Act} {p : Int} (x : Operand) (ho : op.op = .buildSlice 35 1 #[(0, x)]) (hx : a.eval x = .int .u8 p) (w : World) : (execOp a.eval op).run Try.prog w = .ok (.value (.slice (some ⟨w.heap.size, 0, none⟩) 1 1)) (w.alloc (.cells #[.int .u8 p] 5)) := by
  unfold execOp
  simp only [ho, List.map_toArray, List.map_cons, List.map_nil, hx]
  kernel_rfl
section
variable {s : Nat} {G G' G2 : Gh} {w w' w2 w3 : World} {p : Nat} {c0 c : PC} {es : List En} {os : List (Value × Nat)} {av : Value} {ks : List Kp} {i : Nat}
/-- A box of the call's own is written. -/
theorem GV.box (h : GV s G w p c0 G' w' c es os) {bx k : Nat} {cs : Array Value} {v : Value} (hb : Blk w' bx 89 cs) (hx : w.heap.size ≤ bx) (hk : c.k.ownBlock ≠ some bx) : GV s G w p c0 G' (w'.setCell ⟨bx, k, none⟩ v) c es os := by
  have hst : Stp s (fun q => q = bx) G' w' G' (w'.setCell ⟨bx, k, none⟩ v) := Stp.of_fr h.st.gi (Fr.setCell w' ⟨bx, k, none⟩ v (fun q => q = bx) rfl) fun q cur T hq hc => by subst hq; exact hb.nh nhH hc
  refine ⟨h.st.trans hst fun q hq e => by omega, h.blk.stp hst nhP fun e => by subst e; exact Blk.neT h.blk hb (by decide), h.hs.stp hst fun q hq e => hk (e ▸ hq), h.os.stp nhO hst fun q hq e => ?_, h.same, h.ko, h.oo⟩
  subst e
  exact h.os.row.ne_type hb (by decide) hq
theorem P1.box (h : P1 s G w p c0 av ks os i G' w' c es) {bx k : Nat} {cs : Array Value} {v : Value} (hb : Blk w' bx 89 cs) (hx : w.heap.size ≤ bx) (hk : c.k.ownBlock ≠ some bx) : P1 s G w p c0 av ks os i G' (w'.setCell ⟨bx, k, none⟩ v) c es := by
  have hf : Fr w' (w'.setCell ⟨bx, k, none⟩ v) (fun q => q = bx) := Fr.setCell w' ⟨bx, k, none⟩ v (fun q => q = bx) rfl
  refine ⟨h.gv.box hb hx hk, h.row.fr hf fun q hq e => ?_, h.col, fun j x hj hx2 => ⟨(h.pk j x hj hx2).1.fr hf fun q hq e => ?_, (h.pk j x hj hx2).2⟩⟩
  · subst e; exact h.row.ne_type hb (by decide) hq
  · subst e; exact (h.pk j x hj hx2).1.1.ne_type hb (by decide) hq
end
theorem MkA.box {w : World} {G : Gh} {T U : TypeId} {size m n : Nat} {v x : Value} (k : MkA w G T size m v n) {bx j : Nat} {cs : Array Value} (hb : Blk w bx U cs) (hT : T ≠ U) : MkA (w.setCell ⟨bx, j, none⟩ x) G T size m v n := by
  obtain ⟨xs, r, h1, h2⟩ := k
  exact ⟨xs, r.fr (Fr.setCell w ⟨bx, j, none⟩ x (fun q => q = bx) rfl) fun q hq e => by subst e; exact r.ne_type hb hT hq, h1, h2⟩
/-- Two bytes of a mark are made. -/
theorem Stp.two {s : Nat} {G : Gh} {w : World} (gi : Gi G w) (m : Nat) : Stp s (fun _ => False) G w (pnt G w.heap.size (3, m)) (w.alloc (.cells (twoB m) 5)) :=
  (Stp.alloc gi _).paint (Nat.le_refl _) (gi.zero (Nat.le_refl _)) (heap_alloc_new w _) (.inl rfl) fun j hj => by
    injection hj with _ hj
    subst hj
    exact ⟨rfl, rfl⟩
/-- A list of packets of which the first i are written over. -/
def OR (w : World) (G : Gh) (v : Value) (n i m : Nat) : Prop := ∃ xs, RowAt w 35 1 v n xs ∧ (∀ q, v.ownBlock = some q → G q = (2, m)) ∧ ∀ j, j < n → ∃ x, xs[j]? = some x ∧ (∃ a n c, x = .slice a n c) ∧ (j < i → Cm G 35 m x)
theorem OR.two {w : World} {G : Gh} {v : Value} {n i m : Nat} (h : OR w G v n i m) (gi : Gi G w) : OR (w.alloc (.cells (twoB m) 5)) (pnt G w.heap.size (3, m)) v n i m := by
  obtain ⟨xs, r, h1, h2⟩ := h
  refine ⟨xs, r.fr (Fr.alloc w _ (fun _ => False)) fun _ _ => id, fun q hq => ?_, fun j hj => ?_⟩
  · have := gi.lt (q := q) (by rw [h1 q hq]; simp)
    rw [pnt_ne _ _ (by omega)]
    exact h1 q hq
  · obtain ⟨x, a, b, c⟩ := h2 j hj
    exact ⟨x, a, b, fun hl => (Stp.two (s := 0) gi m).cm (c hl)⟩
theorem OR.cell {w : World} {G : Gh} {g off n c i m : Nat} (h : OR w G (.slice (some ⟨g, off, none⟩) n c) n i m) (hi : i < n) : (∃ a n2 c2, w.cell? ⟨g, off + i, none⟩ = some (.slice a n2 c2)) ∧ w.frozen? ⟨g, off + i, none⟩ = false := by
  obtain ⟨xs, r, h1, h2⟩ := h
  obtain ⟨x, hx, ⟨a, n2, c2, rfl⟩, _⟩ := h2 i hi
  exact ⟨⟨a, n2, c2, r.cell rfl hx⟩, r.frozen rfl _⟩
theorem OR.blk {w : World} {G : Gh} {g off n c i m : Nat} (h : OR w G (.slice (some ⟨g, off, none⟩) n c) n i m) : ∃ cur, w.heap[g]? = some (.cells cur 35 (0, 0)) := by
  obtain ⟨xs, r, _⟩ := h
  exact (r.lt rfl).2
theorem OR.set {w : World} {G : Gh} {g off n c i m : Nat} {x : Value} (h : OR w G (.slice (some ⟨g, off, none⟩) n c) n i m) (hi : i < n) (hx : Cm G 35 m x) (hf : ∃ a n c, x = .slice a n c) : OR (w.setCell ⟨g, off + i, none⟩ x) G (.slice (some ⟨g, off, none⟩) n c) n (i + 1) m := by
  obtain ⟨xs, r, h1, h2⟩ := h
  have hl : xs.length = n := by rw [r.1]; omega
  refine ⟨_, r.setE hi, h1, fun j hj => ?_⟩
  rw [List.getElem?_set]
  by_cases e : i = j
  · subst e
    rw [if_pos rfl, if_pos (by omega)]
    exact ⟨x, rfl, hf, fun _ => hx⟩
  · rw [if_neg e]
    obtain ⟨y, a, b, d⟩ := h2 j hj
    exact ⟨y, a, b, fun hlt => d (by omega)⟩
theorem OR.done {w : World} {G : Gh} {v : Value} {n m : Nat} (h : OR w G v n n m) : MkA w G 35 1 m v n := by
  obtain ⟨xs, r, h1, h2⟩ := h
  refine ⟨xs, r, fun x hx => ?_, h1⟩
  obtain ⟨j, hj⟩ := List.getElem?_of_mem hx
  have hlt : j < n := by have := (List.getElem?_eq_some_iff.1 hj).1; rw [r.1] at this; omega
  obtain ⟨y, a, _, b⟩ := h2 j hlt
  rw [hj] at a
  injection a with a
  rw [a]; exact b hlt
/-- The list itself is its owner's now. -/
theorem P1.list {s : Nat} {G G' : Gh} {w w' : World} {p : Nat} {c0 c : PC} {es : List En} {os : List (Value × Nat)} {av : Value} {ks : List Kp} {i : Nat} (h : P1 s G w p c0 av ks os i G' w' c es) (hf : ∀ k ∈ ks, ∃ a n c, k.v = .slice a n c) (m : Nat) : ∃ G2, GV s G w p c0 G2 w' c es os ∧ OR w' G2 av ks.length 0 m := by
  have hform : ∀ j, j < ks.length → ∃ x, (ks.map (·.v))[j]? = some x ∧ (∃ a n c, x = .slice a n c) := fun j hj => ⟨ks[j].v, by rw [List.getElem?_map, List.getElem?_eq_getElem hj]; rfl, hf _ (List.getElem_mem hj)⟩
  rcases h.row.2 with ⟨e1, e2⟩ | ⟨g, off, cap, cur, e1, _⟩
  · refine ⟨G', h.gv, _, h.row, fun q hq => ?_, fun j hj => by omega⟩
    rw [e1] at hq; cases hq
  · have hg : av.ownBlock = some g := by rw [e1]; rfl
    refine ⟨pnt G' g (2, m), h.gv.step (Stp.turn h.gv.st.gi (h.col g hg) m), _, h.row, fun q hq => ?_, fun j hj => ?_⟩
    · rw [hg] at hq; injection hq with hq; subst hq; exact pnt_at _ _ _
    · obtain ⟨x, a, b⟩ := hform j hj
      exact ⟨x, a, b, fun hl => absurd hl (Nat.not_lt_zero _)⟩
end Go.Proofs.Ytdncemecnbglaaa
