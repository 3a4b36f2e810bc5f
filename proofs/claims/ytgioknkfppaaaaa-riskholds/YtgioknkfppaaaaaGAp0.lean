/-
  RiskApart: steps that came in; what the law begins with.
-/
import Derived.Test.YtgioknkfppaaaaaGApM
import Derived.Test.YtgioknkfppaaaaaGNewB
namespace Go.Proofs.Ytgioknkfppaaaaa
set_option linter.unusedVariables false
set_option linter.unusedSimpArgs false
open Go.RowKit Go.Great Go.Maps

/-- A step that came in may be so. -/
structure Opp.inn (p : Opp) : Prop where
  oac : p.o.ac.size ≤ maxLen
  osy : p.o.sy.size ≤ maxLen
  ac : p.ac.size ≤ maxLen
  sy : p.sy.size ≤ maxLen
  id : -9223372036854775808 ≤ p.o.id ∧ p.o.id ≤ 9223372036854775807
def SrcO (w : World) (a : Option Addr) (n : Nat) (t : Nat → Opp) : Prop := n = 0 ∨ ∃ b off, a = some ⟨b, off, none⟩ ∧ ∀ j, j < n → w.rangeAt b (off + j * 29) (t j).cs.toList ∧ (t j).inn
theorem SrcO.below {w w' : World} {a : Option Addr} {n : Nat} {t : Nat → Opp} (h : SrcO w a n t) (hb : Below w.heap.size w w') : SrcO w' a n t := by
  rcases h with h | ⟨b, off, e, h⟩
  · exact .inl h
  · refine .inr ⟨b, off, e, fun j hj => ⟨fun i v hv => ?_, (h j hj).2⟩⟩
    have hc := (h j hj).1 i v hv
    exact (hb.cell (p := ⟨b, _, none⟩) (World.block_lt_of_cell? _ _ hc)).trans hc
theorem Opp.cs_size (p : Opp) : p.cs.size = 29 := rfl
theorem Opp.cs_one (p : Opp) : p.cs.all (·.oneCell') = true := by kernel_rfl
def zO : Opp := ⟨0, 0, ⟨⟨#[]⟩, 0, 0, 0, 0, 0⟩, ⟨0, ⟨#[]⟩, ⟨#[]⟩, ⟨#[]⟩, 0, 0, 0, 0, 0, 0, 0, 0, 0, 0, 0⟩, 0, 0, 0, ⟨#[]⟩, ⟨#[]⟩, false⟩
theorem ixO_run {op : Oper} {a : Act} {g o n c i : Nat} (x y : Operand) (ho : op.op = .indexAddr 48 x y) (hx : a.eval x = .slice (some ⟨g, o, none⟩) n c) (hy : a.eval y = .int .i64 (i : Int)) (hi : i < n) (w : World) : (execOp a.eval op).run Try.prog w = .ok (.value (.pointer (some ⟨g, o + i * 29, none⟩))) w := by
  have h1 : (i : Int) < (n : Int) := by omega
  have h2 : ¬ (n : Int) ≤ (i : Int) := by omega
  unfold execOp
  simp only [ho, hx, hy]
  go_simp
theorem ldO_run {op : Oper} {a : Act} {w : World} {g o : Nat} {p : Opp} (h : w.rangeAt g o p.cs.toList) (x : Operand) (ho : op.op = .load 50 x) (hx : a.eval x = .pointer (some ⟨g, o, none⟩)) : (execOp a.eval op).run Try.prog w = .ok (.value (.agg p.cs)) w := by
  have hl := run_loadVar_mid (P := Try.prog) w g o 50 p.cs.toList _ h Try.underlying50 rfl (by rw [Array.length_toList, Opp.cs_size]; kernel_rfl)
  unfold execOp
  simp only [ho, hx, Instr.loadAt, Instr.sureAddr, Sem.run_bind, Sem.run_pure, Result.andThen_ok, hl]
theorem ldB_run {op : Oper} {a : Act} {w : World} {g : Nat} {p : Opp} (h : Blk w g 50 p.cs) (x : Operand) (ho : op.op = .load 50 x) (hx : a.eval x = .pointer (some ⟨g, 0, none⟩)) : (execOp a.eval op).run Try.prog w = .ok (.value (.agg p.cs)) w :=
  ldO_run (g := g) (o := 0) (fun j v hv => by rw [Nat.zero_add, h.cell, ← Array.getElem?_toList]; exact hv) x ho hx
/-- The two accounts, one behind the other. -/
theorem lims_two {w : World} {b : Nat} {x y : Lim} (hb : Blk w b 30 #[.string x.nm, .int .i64 x.od, .int .i64 x.op, .int .i64 x.po, .int .i64 x.bu, .int .i64 x.pe, .string y.nm, .int .i64 y.od, .int .i64 y.op, .int .i64 y.po, .int .i64 y.bu, .int .i64 y.pe]) : LimsAt w b 0 [x, y] := fun j z hj => by
  match j, hj with
  | 0, hj => have e : z = x := by simpa using hj.symm
             subst e; exact ⟨hb.cell 0, hb.cell 1, hb.cell 2, hb.cell 3, hb.cell 4, hb.cell 5⟩
  | 1, hj => have e : z = y := by simpa using hj.symm
             subst e; exact ⟨hb.cell 6, hb.cell 7, hb.cell 8, hb.cell 9, hb.cell 10, hb.cell 11⟩
theorem lims_one {w : World} {b : Nat} {x : Lim} (hb : Blk w b 30 #[.string x.nm, .int .i64 x.od, .int .i64 x.op, .int .i64 x.po, .int .i64 x.bu, .int .i64 x.pe]) : LimsAt w b 0 [x] := fun j z hj => by
  match j, hj with
  | 0, hj => have e : z = x := by simpa using hj.symm
             subst e; exact ⟨hb.cell 0, hb.cell 1, hb.cell 2, hb.cell 3, hb.cell 4, hb.cell 5⟩
theorem ok_one {x : Lim} (h : x.ok = true) : LimsOk [x] := ⟨by show 1 ≤ 16; decide, fun z hz => by rw [List.mem_singleton.1 hz]; exact h, List.pairwise_singleton _ _⟩
theorem ok_two {x y : Lim} (h : x.ok = true) (k : y.ok = true) (hx : x.nm = sA) (hy : y.nm = sB) : LimsOk [x, y] := by
  refine ⟨by show 2 ≤ 16; decide, fun z hz => ?_, List.pairwise_cons.2 ⟨fun z hz => ?_, List.pairwise_singleton _ _⟩⟩
  · rcases List.mem_cons.1 hz with rfl | hz
    · exact h
    · rw [List.mem_singleton.1 hz]; exact k
  · rw [List.mem_singleton.1 hz, hx, hy]; exact neAB
/-- Both guards, as they are made. -/
theorem rel_start {B1 B2 : Nat} {x y : Lim} {Gb Ga : Gd} (hx : x.nm = sA) (hy : y.nm = sB) (h1 : Fresh B1 [x, y] Gb) (h2 : Fresh B2 [x] Ga) (hap : Gb.A.Pairwise fun a b => a.blk ≠ b.blk ∧ a.mp ≠ b.mp) : RelX Gb Ga ∧ LenG Gb 0 ∧ LenG Ga 0 := by
  obtain ⟨b0, m0, e0, _⟩ := h1.ac 0 x rfl
  obtain ⟨b1, m1, e1, _⟩ := h1.ac 1 y rfl
  obtain ⟨b2, m2, e2, _⟩ := h2.ac 0 x rfl
  have eb : Gb.A = [x.ac b0 m0, y.ac b1 m1] := by
    have hl := h1.len
    generalize Gb.A = A at *
    match A, hl, e0, e1 with
    | [u, v], _, e0, e1 => simp at e0 e1; rw [e0, e1]
  have ea : Ga.A = [x.ac b2 m2] := by
    have hl := h2.len
    generalize Ga.A = A at *
    match A, hl, e2 with
    | [u], _, e2 => simp at e2; rw [e2]
  have hb : b0 ≠ b1 := by
    rw [eb] at hap
    exact ((List.pairwise_cons.1 hap).1 _ List.mem_cons_self).1
  refine ⟨⟨x.ac b0 m0, y.ac b1 m1, x.ac b2 m2, [], [], eb, ea, h1.o, h2.o, hx, hy, ⟨rfl, rfl, rfl, rfl, rfl, rfl, rfl, rfl, rfl⟩, hb, List.Perm.refl _, fun z hz => (List.not_mem_nil hz).elim⟩, ?_, ?_⟩
  · refine ⟨by rw [h1.o]; exact Nat.le_refl _, fun z hz => ?_⟩
    rw [eb] at hz
    rcases List.mem_cons.1 hz with rfl | hz
    · exact Nat.le_refl _
    · rw [List.mem_singleton.1 hz]; exact Nat.le_refl _
  · refine ⟨by rw [h2.o]; exact Nat.le_refl _, fun z hz => ?_⟩
    rw [ea] at hz
    rw [List.mem_singleton.1 hz]; exact Nat.le_refl _
/-- Where the law stands. -/
structure AP (w W : World) (g g' : Nat) (Gb Ga : Gd) (k : Nat) : Prop where
  gb : GdAt W Gb
  ga : GdAt W Ga
  eb : Gb.g = g
  ea : Ga.g = g'
  rel : RelX Gb Ga
  lb : LenG Gb k
  la : LenG Ga k
  ap : ∀ q, Gb.own q → ¬ Ga.own q
  lowb : ∀ q, Gb.own q → w.heap.size ≤ q
  lowa : ∀ q, Ga.own q → w.heap.size ≤ q
  bel : Below w.heap.size w W
theorem AP.below {w W W' : World} {g g' k : Nat} {Gb Ga : Gd} (h : AP w W g g' Gb Ga k) (hb : Below W.heap.size W W') : AP w W' g g' Gb Ga k :=
  ⟨h.gb.below hb, h.ga.below hb, h.eb, h.ea, h.rel, h.lb, h.la, h.ap, h.lowb, h.lowa, below_step h.bel hb⟩
end Go.Proofs.Ytgioknkfppaaaaa
