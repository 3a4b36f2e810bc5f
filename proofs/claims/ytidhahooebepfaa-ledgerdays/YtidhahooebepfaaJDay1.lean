/-
  LedgerDays: the list of all that was told; a whole list behind another one.
-/
import Derived.Test.YtidhahooebepfaaJDoes
namespace Go.Proofs.Ytidhahooebepfaa
set_option linter.unusedVariables false
set_option linter.unusedSimpArgs false
open Go.RowKit Go.Great Go.Maps

theorem run_append_none0 {P : Program} (w : World) (t ty e : TypeId) (i : TypeInfo) (ht : P.underlying t = some (.slice e)) (hi : P.info? e = some i) (base : Option Addr) (n cap : Nat) (h : n ≤ cap) (ax : Option Addr) (cx : Nat) :
    (Builtin.append_ #[t, t] ty #[.slice base n cap, .slice ax 0 cx]).run P w = .ok (.slice base n cap) w := by
  cases base <;> cases ax <;> simp [Builtin.append_, run_underlying ht, sizeOf, typeInfo, hi, Builtin.lenOf, Builtin.firstCells, h, storeCells, loadCells, loadCellsFrom]
/-- A row behind a row. -/
theorem run_append_rows {P : Program} (w : World) (t ty e : TypeId) (i : TypeInfo) (z : Value) (size bytes : Nat) (ht : P.underlying t = some (.slice e)) (hi : P.info? e = some i) (hz : i.zero = some z)
    (hsize : i.size = size) (hby : i.bytes = bytes) (hzs : z.cells.size = size)
    (v : Value) (n : Nat) (xs : List Value) (hown : RowAt w e size v n xs) (u : Value) (m : Nat) (ys : List Value) (hsrc : RowAt w e size u m ys) (h1 : ∀ x ∈ ys, x.oneCell' = true) (h63 : n + m ≤ maxLen) (hbytes : (n + m) * bytes ≤ 140737488355328) :
    ∃ v' w', (Builtin.append_ #[t, t] ty #[v, u]).run P w = .ok v' w' ∧ RowAt w' e size v' (n + m) (xs ++ ys) ∧ Fr w w' (fun b => v.ownBlock = some b) ∧ (v'.ownBlock = v.ownBlock ∨ v'.ownBlock = some w.heap.size ∧ ∀ k, k < w.heap.size → w'.heap[k]? = w.heap[k]?) := by
  by_cases hm : m = 0
  · subst hm
    have e0 : ys = [] := List.eq_nil_of_length_eq_zero (by rw [hsrc.1, Nat.zero_mul])
    subst e0
    obtain ⟨ao, cap, rfl, hle⟩ := hown.form
    obtain ⟨bo, cb, rfl, _⟩ := hsrc.form
    exact ⟨_, _, run_append_none0 w t ty e i ht hi ao n cap hle bo cb, by rw [List.append_nil]; exact hown, Fr.refl _ _, .inl rfl⟩
  · obtain ⟨g, off, cap, cur, rfl, _⟩ := hsrc.more (by omega)
    exact run_append_row w t ty e i z size bytes ht hi hz hsize hby hzs v n xs hown ⟨g, off, none⟩ m cap ys hsrc.1 (fun j x hj => by rw [Addr.add_mid]; exact hsrc.cell rfl hj) h1 (.inl (by omega)) h63 hbytes
theorem bk_one (l : List Bk) : ∀ u ∈ flatL Bk.cl l, u.oneCell' = true := by
  induction l with
  | nil => intro u hu; cases hu
  | cons b l ih =>
    intro u hu
    rcases List.mem_append.1 hu with h | h
    · exact List.all_eq_true.1 (show b.cl.all (fun u => u.oneCell') = true from rfl) u h
    · exact ih u h
/-- Where LedgerDays stands. -/
structure DI (w W : World) (G : Lg) (i : Nat) (v : Value) (D : List Bk) : Prop where
  gi : GI mM (DS D) w W G i
  row : RowAt W 42 5 v D.length (flatL Bk.cl D)
  low : ∀ q, v.ownBlock = some q → w.heap.size ≤ q ∧ ¬ G.own q
  dl : D.length ≤ 900 * i
section
variable {w W W' : World} {G G' : Lg} {i : Nat} {v v' : Value} {D net : List Bk}
theorem DI.below (h : DI w W G i v D) (hb : Below W.heap.size W W') : DI w W' G i v D :=
  ⟨h.gi.below hb, h.row.fr (Fr.of_below hb (fun _ => False)) fun _ _ => id, h.low, h.dl⟩
theorem DI.new (h : DI w W G i v D) (hg : GI mM (DS D) w W' G' (i + 1)) (hn : NewG W W' G G') : DI w W' G' (i + 1) v D :=
  ⟨hg, h.row.fr hn.2.1 fun q hq => (h.low q hq).2, fun q hq => ⟨(h.low q hq).1, fun ho => by
    rcases hn.2.2 q ho with h1 | h1
    · exact (h.low q hq).2 h1
    · have := (h.row.lt hq).1; omega⟩, Nat.le_trans h.dl (by omega)⟩
/-- The day ends; what was told is kept. -/
theorem GI.closes {M : Int} {Z Z' : List Bk → List Bk → List To → Prop} {nm : Nat} (hM : 0 ≤ M) (h : GI M Z w W G i) (hc : CL W W' G nm net v) (hz : Z' G.A [] G.O) : GI M Z' w W' (G.closed nm) (i + 1) := by
  have hb := h.bdUp hM
  have h0 : 0 ≤ ((i + 1 : Nat) : Int) * (3 * M) := Int.mul_nonneg (by omega) (by omega)
  refine ⟨h.lv.step hc.at' hc.fr hc.own, ⟨hb.a, fun ac sy => ?_, hb.o, hb.la, Nat.zero_le _, hb.lo⟩, Nat.le_succ_of_le h.bl, Nat.zero_le _, fun t ht => (by cases ht), hz⟩
  generalize ((i + 1 : Nat) : Int) * (3 * M) = B at *
  exact (show Am.inn _ Am.zero from ⟨by show _ ≤ (0 : Int); omega, by show (0 : Int) ≤ _; omega, by show _ ≤ (0 : Int); omega, by show (0 : Int) ≤ _; omega, by show _ ≤ (0 : Int); omega, by show (0 : Int) ≤ _; omega⟩)
theorem CL.newG {nm : Nat} (hc : CL W W' G nm net v) : NewG W W' G (G.closed nm) := ⟨rfl, hc.fr, hc.own⟩
/-- Behind Net, Close, Net: two lists beside the one that is kept. -/
structure DT (w W : World) (G : Lg) (i : Nat) (v : Value) (D : List Bk) (vn vd : Value) (net : List Bk) : Prop where
  gi : GI mM (DS (D ++ net)) w W G i
  row : RowAt W 42 5 v D.length (flatL Bk.cl D)
  low : ∀ q, v.ownBlock = some q → w.heap.size ≤ q ∧ ¬ G.own q
  dl : D.length + net.length ≤ 900 * i
  nt : RowAt W 42 5 vn net.length (flatL Bk.cl net)
  dy : RowAt W 42 5 vd net.length (flatL Bk.cl net)
theorem DT.below {vn vd : Value} (h : DT w W G i v D vn vd net) (hb : Below W.heap.size W W') : DT w W' G i v D vn vd net :=
  ⟨h.gi.below hb, h.row.fr (Fr.of_below hb (fun _ => False)) fun _ _ => id, h.low, h.dl, h.nt.fr (Fr.of_below hb (fun _ => False)) fun _ _ => id, h.dy.fr (Fr.of_below hb (fun _ => False)) fun _ _ => id⟩
theorem DT.mk' {W1 W2 : World} {nm : Nat} {vn vd : Value} {day : List Bk} (h : DI w W G i v D) (hi : i < 300) (hn : NT W W1 G.T net vn) (hc : CL W1 W2 G nm day vd) : DT w W2 (G.closed nm) (i + 1) v D vn vd net ∧ day = net := by
  have e : day = net := net_eq hc.perm hn.perm h.gi.zs.dk hc.sorted hn.sorted
  subst e
  have h1 := h.below hn.bel
  refine ⟨⟨h1.gi.closes (by decide) hc (h1.gi.zs.closed hc.perm), h1.row.fr hc.fr fun q hq => (h1.low q hq).2, fun q hq => ⟨(h1.low q hq).1, fun ho => ?_⟩, ?_, hn.row.fr hc.fr fun q hq ho => ?_, hc.row⟩, rfl⟩
  · rcases hc.own q ho with h2 | h2
    · exact (h1.low q hq).2 h2
    · have := (h1.row.lt hq).1; omega
  · have := h.gi.bd.lt
    have := h.dl
    rw [hc.perm.length_eq]
    omega
  · have h2 := h.gi.lv.at'.lt ho
    have h3 := hn.low q hq
    omega
theorem infoBk : (Try.prog.info? 42).map (fun i => (i.zero, i.size, i.bytes)) = some (some (.agg #[.string ⟨#[]⟩, .string ⟨#[]⟩, .int .i64 0, .int .i64 0, .int .i64 0]), 5, 56) := by kernel_rfl
/-- What was told behind what was told. -/
theorem DT.append {vn vd : Value} (h : DT w W G i v D vn vd net) (hi : i ≤ 300) (ty : TypeId) :
    ∃ v' w', (Builtin.append_ #[39, 39] ty #[v, vd]).run Try.prog W = .ok v' w' ∧ DI w w' G i v' (D ++ net) := by
  obtain ⟨i0, hi0, hz0, hz1, hz2⟩ := info_parts infoBk
  have hdl := h.dl
  have hmx : 1000000 < maxLen := by decide
  obtain ⟨v', w', hr, hrow, hf, ho⟩ := run_append_rows (P := Try.prog) W 39 ty 42 i0 _ 5 56 Try.underlying39 hi0 hz0 hz1 hz2 rfl v D.length _ h.row vd net.length _ h.dy (bk_one net) (by omega) (by omega)
  refine ⟨v', w', hr, ⟨⟨?_, h.gi.bd, h.gi.bl, h.gi.le, h.gi.ks, h.gi.zs⟩, ?_, fun q hq => ?_, by rw [List.length_append]; exact hdl⟩⟩
  · refine ⟨h.gi.lv.at'.fr hf fun b hb e => (h.low b e).2 hb, ⟨hf.os.trans h.gi.lv.bel.os, hf.tape.trans h.gi.lv.bel.tape, hf.output.trans h.gi.lv.bel.output, Nat.le_trans h.gi.lv.bel.size hf.size, fun q hq => (hf.block q (Nat.lt_of_lt_of_le hq h.gi.lv.bel.size) (fun e => by have := (h.low q e).1; omega)).trans (h.gi.lv.bel.block q hq)⟩, h.gi.lv.low⟩
  · rw [List.length_append, flatL_app]; exact hrow
  · rcases ho with e | ⟨e, _⟩
    · exact h.low q (e ▸ hq)
    · rw [e] at hq
      injection hq with hq
      subst hq
      exact ⟨h.gi.lv.bel.size, fun ho => by have := h.gi.lv.at'.lt ho; omega⟩
end
end Go.Proofs.Ytidhahooebepfaa
