/-
  The law's owner: its state, and its steps.
-/
import Derived.Test.YtfgfjkchcnpakaaDoorFOwner
import Derived.Deep.AppendLies
namespace Go.Proofs.YtfgfjkchcnpakaaDoor
set_option linter.unusedVariables false
open Go.RowKit

/-- append onto a row of one's own: in place, or into a new block: then nothing that was there turns. -/
theorem run_append_keep {P : Program} (w : World) (base : Nat) (t ty e : TypeId) (i : TypeInfo) (z : Value) (size bytes : Nat) (ht : P.underlying t = some (.slice e)) (hi : P.info? e = some i) (hz : i.zero = some z)
    (hsize : i.size = size) (hby : i.bytes = bytes) (hzs : z.cells.size = size) (hsz : 0 < size)
    (v : Value) (n : Nat) (xs : List Value) (hown : w.ownsRow base e size v n xs)
    (a : Addr) (m c : Nat) (news : List Value) (hl : news.length = m * size) (hnews : ∀ j u, news[j]? = some u → w.cell? (a.add j) = some u) (h1 : ∀ u ∈ news, u.oneCell' = true)
    (hm : 0 < m) (h63 : n + m ≤ maxLen) (hbytes : (n + m) * bytes ≤ 140737488355328) (hbase : base ≤ w.heap.size) :
    ∃ g cap w', (Builtin.append_ #[t, t] ty #[v, .slice (some a) m c]).run P w = .ok (.slice (some ⟨g, 0, none⟩) (n + m) cap) w' ∧ w'.ownsRow base e size (.slice (some ⟨g, 0, none⟩) (n + m) cap) (n + m) (xs ++ news) ∧ w.grownBy w' v.ownBlock ∧
      (v.ownBlock = some g ∨ (g = w.heap.size ∧ ∀ k, k < w.heap.size → w'.heap[k]? = w.heap[k]?)) := by
  subst hsize
  subst hby
  have hsmall : n + m ≤ 9223372036854775807 := by simp only [maxLen] at h63; omega
  have hlen : (xs ++ news).length = (n + m) * i.size := by rw [List.length_append, hown.1, hl, Nat.add_mul]
  have grown : ∀ (old : Nat), old < n + m →
      (w.drew.alloc (.cells (xs.toArray ++ news.toArray ++ Builtin.zeroCells z.cells (grownCap w (n + m) old e - (n + m))) e)).ownsRow base e i.size
        (.slice (some ⟨w.heap.size, 0, none⟩) (n + m) (grownCap w (n + m) old e)) (n + m) (xs ++ news) ∧
      (∀ row, w.grownBy (w.drew.alloc (.cells (xs.toArray ++ news.toArray ++ Builtin.zeroCells z.cells (grownCap w (n + m) old e - (n + m))) e)) row) ∧
      ∀ k, k < w.heap.size → (w.drew.alloc (.cells (xs.toArray ++ news.toArray ++ Builtin.zeroCells z.cells (grownCap w (n + m) old e - (n + m))) e)).heap[k]? = w.heap[k]? := by
    intro old ho
    have hge := grownCap_ge w (n + m) old e
    have hcm : grownCap w (n + m) old e ≤ maxLen := grownCap_le_maxLen w (n + m) old e h63
    refine ⟨⟨hlen, .inr ⟨w.heap.size, _, _, rfl, hbase, heap_alloc_new w.drew _, hge, hcm, ?_, ?_⟩⟩, fun row => ⟨rfl, rfl, rfl, by simp, fun k hk _ => heap_alloc_old w.drew _ hk⟩, fun k hk => heap_alloc_old w.drew _ hk⟩
    · simp only [Array.size_append, List.size_toArray, size_zeroCells, hzs, hown.1, hl, ← Nat.add_mul]
      congr 1
      omega
    · simp only [Array.toList_append, List.append_assoc]
      rw [← List.append_assoc, ← hlen]
      exact List.take_left
  rcases hown.2 with ⟨rfl, rfl⟩ | ⟨g, cap, cur, rfl, hbg, hg, hnc, hcm, hcs, htake⟩
  · have hx : xs = [] := List.eq_nil_of_length_eq_zero (by simpa using hown.1)
    subst hx
    have hr := run_append_nil (P := P) w t ty e i z ht hi hz a m c news hl hnews (by omega) (by omega) (by have hb := hbytes; simp only [Nat.zero_add] at hb; omega)
    have hgr := grown 0 (by omega)
    simp only [Nat.zero_add, List.nil_append, Array.empty_append] at hgr ⊢
    exact ⟨_, _, _, hr, hgr.1, hgr.2.1 _, .inr ⟨rfl, hgr.2.2⟩⟩
  · by_cases hroom : n + m ≤ cap
    · have hfit : n * i.size + news.length ≤ cur.size := by rw [hl, hcs, ← Nat.add_mul]; exact Nat.mul_le_mul_right _ hroom
      have hr := run_append_room (P := P) w t ty e i ht hi g n cap cur hg a m c news hl hnews h1 hroom hfit
      refine ⟨_, _, _, hr, ⟨hlen, .inr ⟨g, cap, _, rfl, hbg, setRow_heap w g cur _ e _ hg, hroom, hcm, ?_, ?_⟩⟩, ⟨rfl, rfl, rfl, by simp, fun k _ hk => setRow_other w g k _ (fun e => hk (by simp [Value.ownBlock, e]))⟩, Or.inl rfl⟩
      · simp only [List.size_toArray, List.length_append, List.length_take, List.length_drop, Array.length_toList]
        omega
      · rw [htake, ← hlen]
        exact List.take_left
    · have holds : ∀ j u, xs[j]? = some u → w.cell? ((⟨g, 0, none⟩ : Addr).add j) = some u := hown.cells (g := g) rfl
      have hr := run_append_grow (P := P) w t ty e i z ht hi hz ⟨g, 0, none⟩ n cap xs hown.1 holds a m c news hl hnews (by omega) (by omega) (growslice_fits (by omega) hbytes)
      have hgr := grown cap (by omega)
      exact ⟨_, _, _, hr, hgr.1, hgr.2.1 _, .inr ⟨rfl, hgr.2.2⟩⟩
theorem wpList_append_keep {P : Program} (w : World) {ops : Array Oper} {rest : List Oper} {o : Oper} {a : Act} {Q : Exit → Act → World → Prop} (hgd : o.guard = none) (s x : Operand) (t : TypeId)
    (ho : o.op = .call { callee := .builtin .append, args := #[s, x], argTypes := #[t, t] })
    (base : Nat) (e : TypeId) (i : TypeInfo) (z : Value) (size bytes : Nat) (ht : P.underlying t = some (.slice e)) (hi : P.info? e = some i) (hz : i.zero = some z)
    (hsize : i.size = size) (hby : i.bytes = bytes) (hzs : z.cells.size = size) (hsz : 0 < size)
    (v : Value) (n : Nat) (xs : List Value) (hs : a.eval s = v) (hown : w.ownsRow base e size v n xs)
    (ad : Addr) (m c : Nat) (news : List Value) (hx : a.eval x = .slice (some ad) m c) (hl : news.length = m * size) (hnews : ∀ j u, news[j]? = some u → w.cell? (ad.add j) = some u) (h1 : ∀ u ∈ news, u.oneCell' = true)
    (hm : 0 < m) (h63 : n + m ≤ maxLen) (hbytes : (n + m) * bytes ≤ 140737488355328) (hbase : base ≤ w.heap.size)
    (h : ∀ g cap w', w'.ownsRow base e size (.slice (some ⟨g, 0, none⟩) (n + m) cap) (n + m) (xs ++ news) → w.grownBy w' v.ownBlock → (v.ownBlock = some g ∨ (g = w.heap.size ∧ ∀ k, k < w.heap.size → w'.heap[k]? = w.heap[k]?)) → wpList P ops Q rest (a.put o.dst (.slice (some ⟨g, 0, none⟩) (n + m) cap)) w') : wpList P ops Q (o :: rest) a w := by
  refine wpList_plain hgd fun K hK => ?_
  obtain ⟨g, cap, w', hr, h2, h3, h4⟩ := run_append_keep (P := P) w base t o.type e i z size bytes ht hi hz hsize hby hzs hsz v n xs hown ad m c news hl hnews h1 hm h63 hbytes hbase
  unfold Oper.wp execOp
  simp only [ho, resolve, invoke, builtin, Sem.run_bind, Sem.run_pure, Result.andThen_ok, List.map_toArray, List.map_cons, List.map_nil, hs, hx, hr]
  exact hK _ _ (h g cap w' h2 h3 h4)
theorem SrcF.of_block {w w' : World} {v : Value} {fs : List Fld} (h : SrcF w v fs) (hk : ∀ k, v.ownBlock = some k → w'.heap[k]? = w.heap[k]?) : SrcF w' v fs := by
  obtain ⟨ao, cap, rfl, hc, h⟩ := h
  refine ⟨ao, cap, rfl, hc, ?_⟩
  rcases h with h | ⟨b, off, rfl, h⟩
  · exact .inl h
  · exact .inr ⟨b, off, rfl, fun j c hj => by
    have e1 : w'.cell? ⟨b, off + j * 2, none⟩ = w.cell? ⟨b, off + j * 2, none⟩ := World.cell?_of_block (hk b rfl)
    have e2 : w'.cell? ⟨b, off + j * 2 + 1, none⟩ = w.cell? ⟨b, off + j * 2 + 1, none⟩ := World.cell?_of_block (hk b rfl)
    rw [e1, e2]; exact h j c hj⟩
def ecs (E : List (Value × Nat)) : List Value := E.flatMap fun e => [e.1, .int .i64 (e.2 : Int)]
theorem ecs_app (a b : List (Value × Nat)) : ecs (a ++ b) = ecs a ++ ecs b := by simp [ecs]
theorem ecs_length (E : List (Value × Nat)) : (ecs E).length = E.length * 2 := by
  induction E with
  | nil => rfl
  | cons f fs ih => show (([_, _] : List Value) ++ ecs fs).length = _; simp [ih]; omega
theorem ecs_at : ∀ (E : List (Value × Nat)) (j : Nat) (v : Value) (n : Nat), E[j]? = some (v, n) → (ecs E)[j * 2]? = some v ∧ (ecs E)[j * 2 + 1]? = some (.int .i64 (n : Int))
  | [], j, v, n, h => by simp at h
  | g :: fs, 0, v, n, h => by simp at h; subst h; exact ⟨rfl, rfl⟩
  | g :: fs, j + 1, v, n, h => by
    have := ecs_at fs j v n (by simpa using h)
    show (([_, _] : List Value) ++ ecs fs)[(j + 1) * 2]? = _ ∧ (([_, _] : List Value) ++ ecs fs)[(j + 1) * 2 + 1]? = _
    rw [show (j + 1) * 2 = j * 2 + 2 by omega]
    simpa using this
theorem infoE : (Tryd.prog.info? 89).map (fun i => (i.zero, i.size, i.bytes)) = some (some (.agg #[.slice none 0 0, .int .i64 0]), 2, 32) := by kernel_rfl
/-- A list full of a mark. -/
def Ent (w : World) (B : Nat) (v : Value) (n : Nat) : Prop := n ≤ 1048576 ∧ (∃ len, len ≤ 5864062014700 ∧ SrcF w v (List.replicate len (mk (n : Int)))) ∧ (∀ ao l c, v = .slice ao l c → ao = none ∨ ∃ b, ao = some ⟨b, 0, none⟩) ∧ ∀ k, v.ownBlock = some k → B ≤ k ∧ k < w.heap.size ∧ ∃ cur, w.heap[k]? = some (.cells cur 36 (0, 0))
theorem Ent.of_block {w w' : World} {B : Nat} {v : Value} {n : Nat} (h : Ent w B v n) (hs : w.heap.size ≤ w'.heap.size) (hk : ∀ k, v.ownBlock = some k → w'.heap[k]? = w.heap[k]?) : Ent w' B v n := by
  obtain ⟨h1, ⟨len, h2, h3⟩, hz, h4⟩ := h
  refine ⟨h1, ⟨len, h2, h3.of_block hk⟩, hz, fun k e => ?_⟩
  obtain ⟨q1, q2, cur, q3⟩ := h4 k e
  exact ⟨q1, by omega, cur, (hk k e).trans q3⟩
theorem OwnF.typed {w : World} {B : Nat} {v : Value} {fs : List Fld} (h : OwnF w B v fs) {k : Nat} (hk : v.ownBlock = some k) : B ≤ k ∧ k < w.heap.size ∧ ∃ cur, w.heap[k]? = some (.cells cur 36 (0, 0)) := by
  refine ⟨(h.lt k hk).1, (h.lt k hk).2, ?_⟩
  rcases h.2 with ⟨e, _⟩ | ⟨g, cap, cur, e, r1, r2, _⟩
  · rw [e] at hk; cases hk
  · rw [e] at hk
    have : g = k := by simpa [Value.ownBlock] using hk
    subst this
    exact ⟨cur, r2⟩
theorem OwnF.ent {w : World} {B : Nat} {v : Value} {len n : Nat} (h : OwnF w B v (List.replicate len (mk (n : Int)))) (hn : n ≤ 1048576) (hl : len ≤ 5864062014700) : Ent w B v n := by
  refine ⟨hn, ⟨len, hl, h.src⟩, fun ao l c e => ?_, fun k hk => h.typed hk⟩
  rcases h.2 with ⟨e2, _⟩ | ⟨g, cap, cur, e2, _⟩
  · rw [e2] at e; injection e with e; exact .inl e.symm
  · rw [e2] at e; injection e with e; exact .inr ⟨g, e.symm⟩
theorem row_typed {w : World} {B T s n : Nat} {v : Value} {xs : List Value} (h : w.ownsRow B T s v n xs) {k : Nat} (hk : v.ownBlock = some k) : B ≤ k ∧ k < w.heap.size ∧ ∃ cur, w.heap[k]? = some (.cells cur T (0, 0)) := by
  refine ⟨(h.lt k hk).1, (h.lt k hk).2, ?_⟩
  rcases h.2 with ⟨e, _⟩ | ⟨g, cap, cur, e, r1, r2, _⟩
  · rw [e] at hk; cases hk
  · rw [e] at hk
    have : g = k := by simpa [Value.ownBlock] using hk
    subst this
    exact ⟨cur, r2⟩
/-- The owner with its entries, and lists: entry i may lie with list j where F says so. -/
structure FS (B : Nat) (w0 w : World) (p : Nat) (vo : Value) (E : List (Value × Nat)) (us : List (Value × List Fld)) (F : Nat → Nat → Prop) : Prop where
  bel : Below B w0 w
  hB : B ≤ w0.heap.size
  pb : w.heap[p]? = some (.cells #[vo] 48 (0, 0))
  hp : B ≤ p
  row : w.ownsRow B 89 2 vo E.length (ecs E)
  ent : ∀ (i : Nat) v n, E[i]? = some (v, n) → Ent w B v n
  own : ∀ (j : Nat) u fs, us[j]? = some (u, fs) → OwnF w B u fs
  app : ∀ (i j : Nat) u fs v gs, us[i]? = some (u, fs) → us[j]? = some (v, gs) → i ≠ j → Ap u v
  ape : ∀ (i : Nat) v n (j : Nat) u fs, E[i]? = some (v, n) → us[j]? = some (u, fs) → ¬ F i j → Ap v u
  kp : ∀ (k : Nat) o, w0.heap[k]? = some o → (∀ cur, o ≠ .cells cur 36 (0, 0)) → (∀ cur, o ≠ .cells cur 89 (0, 0)) → k ≠ p → w.heap[k]? = some o
theorem lt_of_heap {w : World} {k : Nat} {o : Obj} (h : w.heap[k]? = some o) : k < w.heap.size := by
  rcases Nat.lt_or_ge k w.heap.size with h' | h'
  · exact h'
  · rw [Array.getElem?_eq_none h'] at h; cases h
theorem FS.size {B : Nat} {w0 w : World} {p : Nat} {vo : Value} {E : List (Value × Nat)} {us : List (Value × List Fld)} {F : Nat → Nat → Prop} (h : FS B w0 w p vo E us F) : B ≤ w.heap.size := Nat.le_trans h.hB h.bel.size
theorem FS.plt {B : Nat} {w0 w : World} {p : Nat} {vo : Value} {E : List (Value × Nat)} {us : List (Value × List Fld)} {F : Nat → Nat → Prop} (h : FS B w0 w p vo E us F) : p < w.heap.size := by
  rcases Nat.lt_or_ge p w.heap.size with h' | h'
  · exact h'
  · have := h.pb; rw [Array.getElem?_eq_none h'] at this; cases this
theorem FS.below {B : Nat} {w0 w w' : World} {p : Nat} {vo : Value} {E : List (Value × Nat)} {us : List (Value × List Fld)} {F : Nat → Nat → Prop} (h : FS B w0 w p vo E us F) (hb : Below w.heap.size w w') : FS B w0 w' p vo E us F :=
  ⟨h.bel.trans (hb.mono h.size), h.hB, (hb.block p h.plt).trans h.pb, h.hp, ownsRow_below h.row hb, fun i v n e => (h.ent i v n e).of_block hb.size (fun k hk => hb.block k ((h.ent i v n e).2.2.2 k hk).2.1), fun j u fs e => (h.own j u fs e).below hb, h.app, h.ape, fun k o e1 e2 e3 e4 => by have := h.kp k o e1 e2 e3 e4; rw [hb.block k (lt_of_heap this)]; exact this⟩
theorem FS.weaken {B : Nat} {w0 w : World} {p : Nat} {vo : Value} {E : List (Value × Nat)} {us : List (Value × List Fld)} {F F' : Nat → Nat → Prop} (h : FS B w0 w p vo E us F) (hF : ∀ i j, F i j → F' i j) : FS B w0 w p vo E us F' :=
  ⟨h.bel, h.hB, h.pb, h.hp, h.row, h.ent, h.own, h.app, fun i v n j u fs e1 e2 hn => h.ape i v n j u fs e1 e2 (fun hf => hn (hF i j hf)), h.kp⟩
/-- What the owner's cell holds. -/
theorem FS.cell {B : Nat} {w0 w : World} {p : Nat} {vo : Value} {E : List (Value × Nat)} {us : List (Value × List Fld)} {F : Nat → Nat → Prop} (h : FS B w0 w p vo E us F) : w.cell? ⟨p, 0, none⟩ = some vo ∧ w.frozen? ⟨p, 0, none⟩ = false := by
  have e := h.pb
  exact ⟨by rw [cell_of_row w p _ _ _ _ e]; rfl, by simp [World.frozen?, e]⟩
/-- What an entry's cells hold. -/
theorem FS.entry {B : Nat} {w0 w : World} {p : Nat} {vo : Value} {E : List (Value × Nat)} {us : List (Value × List Fld)} {F : Nat → Nat → Prop} (h : FS B w0 w p vo E us F) {i : Nat} {v : Value} {n : Nat} (hi : E[i]? = some (v, n)) :
    ∃ g c, vo = .slice (some ⟨g, 0, none⟩) E.length c ∧ E.length ≤ c ∧ w.cell? ⟨g, i * 2, none⟩ = some v ∧ w.cell? ⟨g, i * 2 + 1, none⟩ = some (.int .i64 (n : Int)) := by
  have hlt := (List.getElem?_eq_some_iff.1 hi).1
  rcases h.row.2 with ⟨_, h0⟩ | ⟨g, cap, cur, rfl, r1, r2, r3, r4, r5, r6⟩
  · omega
  · obtain ⟨e1, e2⟩ := ecs_at E i v n hi
    rw [← r6, List.getElem?_take] at e1 e2
    rw [if_pos (by omega)] at e1 e2
    exact ⟨g, cap, rfl, r3, by rw [cell_of_row w g _ cur _ _ r2]; simpa using e1, by rw [cell_of_row w g _ cur _ _ r2]; simpa using e2⟩
theorem FS.ownr {B : Nat} {w0 w : World} {p : Nat} {vo : Value} {E : List (Value × Nat)} {us : List (Value × List Fld)} {F : Nat → Nat → Prop} (h : FS B w0 w p vo E us F) : OwnrAt w p E := by
  rcases h.row.2 with ⟨e, h0⟩ | ⟨g, cap, cur, e, r1, r2, r3, _⟩
  · have h1 := h.cell.1
    rw [e] at h1
    exact ⟨none, 0, by rw [h0]; exact h1, by omega, fun i v n hi => by have := (List.getElem?_eq_some_iff.1 hi).1; omega⟩
  · have h1 := h.cell.1
    rw [e] at h1
    refine ⟨_, cap, h1, r3, fun i v n hi => ?_⟩
    obtain ⟨g', c', e', _, q1, q2⟩ := h.entry hi
    rw [e] at e'
    injection e' with e'
    injection e' with e'
    injection e' with e'
    subst e'
    obtain ⟨a1, a2, _⟩ := h.ent i v n hi
    exact ⟨a1, g, rfl, q1, q2, a2⟩
/-- A list is written at a place. -/
theorem FS.write {B : Nat} {w0 w : World} {p : Nat} {vo : Value} {E : List (Value × Nat)} {us : List (Value × List Fld)} {F : Nat → Nat → Prop} (h : FS B w0 w p vo E us F) {d g n c : Nat} {fs : List Fld} (hd : us[d]? = some (.slice (some ⟨g, 0, none⟩) n c, fs)) (hF : ∀ i, i < E.length → ¬ F i d) (k : Nat) (hk : k < fs.length) (f : Fld) :
    FS B w0 ((w.setCell ⟨g, k * 2, none⟩ (.int .i64 f.1)).setCell ⟨g, k * 2 + 1, none⟩ (.string (bs f.2))) p vo E (us.set d (.slice (some ⟨g, 0, none⟩) n c, fs.set k f)) F := by
  have ho := h.own d _ _ hd
  obtain ⟨t1, t2, cur0, t3⟩ := ho.typed (k := g) rfl
  have hblk : ∀ q, q ≠ g → ((w.setCell ⟨g, k * 2, none⟩ (.int .i64 f.1)).setCell ⟨g, k * 2 + 1, none⟩ (.string (bs f.2))).heap[q]? = w.heap[q]? := fun q hq => by
    rw [Below.heap_setCell _ _ _ _ hq, Below.heap_setCell _ _ _ _ hq]
  have hsz : ((w.setCell ⟨g, k * 2, none⟩ (.int .i64 f.1)).setCell ⟨g, k * 2 + 1, none⟩ (.string (bs f.2))).heap.size = w.heap.size := by simp [World.setCell]
  have hpg : p ≠ g := fun e => by subst e; have := h.pb; rw [t3] at this; cases this
  refine ⟨(h.bel.setCell t1 _).setCell t1 _, h.hB, (hblk p hpg).trans h.pb, h.hp, ownsRow_of_block h.row (fun q hq => hblk q (fun e => ?_)), fun i v m e => (h.ent i v m e).of_block (by rw [hsz]; exact Nat.le_refl _) (fun q hq => hblk q (fun e2 => ?_)), fun j u gs e => ?_, fun i j u fs' v gs e1 e2 hne => ?_, fun i v m j u gs e1 e2 hn => ?_, fun k o e1 e2 e3 e4 => by have := h.kp k o e1 e2 e3 e4; rw [hblk k (fun e => by subst e; rw [t3] at this; injection this with this; exact e2 _ this.symm)]; exact this⟩
  · subst e
    obtain ⟨_, _, cur1, t4⟩ := row_typed h.row hq
    rw [t3] at t4; cases t4
  · subst e2
    exact h.ape i v m d _ _ e hd (hF i (List.getElem?_eq_some_iff.1 e).1) q hq rfl
  · rw [List.getElem?_set] at e
    split at e
    · next hj =>
      subst hj
      rw [if_pos (List.getElem?_eq_some_iff.1 hd).1] at e
      injection e with e
      injection e with e1 e2
      subst e1 e2
      rcases ho.2 with ⟨e, _⟩ | ⟨g', cap', cur, e, r1, r2, r3, r4, r5, r6⟩
      · cases e
      injection e with e1 e2 e3
      injection e1 with e1
      injection e1 with e1
      subst e1 e2 e3
      have h1 : (w.setCell ⟨g, k * 2, none⟩ (.int .i64 f.1)).heap[g]? = some (.cells (cur.setIfInBounds (k * 2) (.int .i64 f.1)) 36 (0, 0)) := by
        rw [setCell_eq_setRow w g _ _ 36 (0, 0) _ r2]
        exact setRow_heap w g _ _ 36 (0, 0) r2
      have h2 : ((w.setCell ⟨g, k * 2, none⟩ (.int .i64 f.1)).setCell ⟨g, k * 2 + 1, none⟩ (.string (bs f.2))).heap[g]? = some (.cells ((cur.setIfInBounds (k * 2) (.int .i64 f.1)).setIfInBounds (k * 2 + 1) (.string (bs f.2))) 36 (0, 0)) := by
        rw [setCell_eq_setRow _ g _ _ 36 (0, 0) _ h1]
        exact setRow_heap _ g _ _ 36 (0, 0) h1
      unfold OwnF
      rw [List.length_set]
      refine ⟨by rw [fcs_length, List.length_set], .inr ⟨g, c, _, rfl, r1, h2, r3, r4, by simpa using r5, ?_⟩⟩
      rw [fcs_set, ← r6]
      simp only [Array.toList_setIfInBounds, List.take_set]
    · exact ownsRow_of_block (h.own j u gs e) (fun q hq => hblk q (fun e2 => by subst e2; exact h.app d j _ _ u gs hd e (by assumption) q rfl hq))
  · have key : ∀ j x y, (us.set d (.slice (some ⟨g, 0, none⟩) n c, fs.set k f))[j]? = some (x, y) → ∃ y', us[j]? = some (x, y') := fun j x y e => by
      rw [List.getElem?_set] at e
      split at e
      · next hj =>
        subst hj
        rw [if_pos (List.getElem?_eq_some_iff.1 hd).1] at e
        injection e with e
        injection e with e1 e2
        exact ⟨fs, by rw [← e1]; exact hd⟩
      · exact ⟨y, e⟩
    obtain ⟨y1, k1⟩ := key i u fs' e1
    obtain ⟨y2, k2⟩ := key j v gs e2
    exact h.app i j u y1 v y2 k1 k2 hne
  · have key : ∀ j x y, (us.set d (.slice (some ⟨g, 0, none⟩) n c, fs.set k f))[j]? = some (x, y) → ∃ y', us[j]? = some (x, y') := fun j x y e => by
      rw [List.getElem?_set] at e
      split at e
      · next hj =>
        subst hj
        rw [if_pos (List.getElem?_eq_some_iff.1 hd).1] at e
        injection e with e
        injection e with e1 e2
        exact ⟨fs, by rw [← e1]; exact hd⟩
      · exact ⟨y, e⟩
    obtain ⟨y1, k1⟩ := key j u gs e2
    exact h.ape i v m j u y1 e1 k1 hn
end Go.Proofs.YtfgfjkchcnpakaaDoor
