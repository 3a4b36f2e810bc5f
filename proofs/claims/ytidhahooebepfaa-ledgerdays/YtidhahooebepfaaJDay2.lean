/-
  LedgerDays: behind the last day; does, where LedgerDays stands.
-/
import Derived.Test.YtidhahooebepfaaJDay1
namespace Go.Proofs.Ytidhahooebepfaa
set_option linter.unusedVariables false
set_option linter.unusedSimpArgs false
open Go.RowKit Go.Great Go.Maps

theorem bk_cells {W : World} {lg lo N cap : Nat} {E : List Bk} (h : RowAt W 42 5 (.slice (some ⟨lg, lo, none⟩) N cap) E.length (flatL Bk.cl E)) (hN : E.length = N) {j : Nat} {x : Bk} (hx : E[j]? = some x) :
    W.cell? ⟨lg, lo + j * 5, none⟩ = some (.string x.ac) ∧ W.cell? ⟨lg, lo + j * 5 + 1, none⟩ = some (.string x.sy) ∧ W.cell? ⟨lg, lo + j * 5 + 2, none⟩ = some (.int .i64 x.q) ∧ W.cell? ⟨lg, lo + j * 5 + 3, none⟩ = some (.int .i64 x.c) ∧ W.cell? ⟨lg, lo + j * 5 + 4, none⟩ = some (.int .i64 x.f) := by
  have hc : ∀ k, k < 5 → ∀ u, (Bk.cl x)[k]? = some u → W.cell? ⟨lg, lo + j * 5 + k, none⟩ = some u := fun k hk u hu => by
    have hq := h.cell (show _ = Value.slice (some ⟨lg, lo, none⟩) E.length cap by rw [hN]) (j := j * 5 + k) (u := u) ((flatL_get Bk.cl_len hx hk).trans hu)
    rwa [← Nat.add_assoc] at hq
  exact ⟨hc 0 (by decide) _ rfl, hc 1 (by decide) _ rfl, hc 2 (by decide) _ rfl, hc 3 (by decide) _ rfl, hc 4 (by decide) _ rfl⟩
theorem trDay {sy bu se : ByteArray} (zp zq zf zh : Nat) (h1 : isAcc bu) (h2 : isAcc se) (h3 : isSy sy) (p1 : zp < 1000000000) (q1 : zq < 1000000) (f1 : zf < 2001) (g1 : zh < 2001) : TrS mM ⟨sy, bu, se, 1 + (zp : Int), 1 + (zq : Int), (zf : Int) - 1000, (zh : Int) - 1000⟩ :=
  have h := trOk (sy := sy) zp zq zf zh h1 h2 p1 q1 f1 g1
  ⟨h.may, h.inn, h3⟩
theorem DS.keeps (D : List Bk) : Keeps (DS D) := fun {A T O l} h hl => h.adds hl
theorem does_day {w W : World} {G : Lg} {i : Nat} {v : Value} {D : List Bk} (d : Dd) (hd : d.ok) (h : DI w W G i v D) (hi : i < 200) (hk : pickN d.k 7 < 6) :
    Calls Try.prog 14 #[.pointer (some ⟨G.g, 0, none⟩), .agg d.cs, .int .i64 (G.bs.length : Int)] W fun e w' => ∃ n : Nat, e = .returned (.tuple #[.int .i64 (n : Int), .bool true]) ∧ Hid (∃ G', G'.g = G.g ∧ G'.bs.length = n ∧ DI w w' G' (i + 1) v D) := by
  have hb : ((i + 1 : Nat) : Int) * (3 * mM) ≤ 1000000000000000000 := by unfold mM; omega
  have hbl := h.gi.bl
  refine (does_gen (P := fun X => DI w X G i v D) (own := G.own) (N := G.bs.length) (g := G.g) (R1 := fun X => ∃ G', G'.g = G.g ∧ G'.bs.length = G.bs.length + 1 ∧ DI w X G' (i + 1) v D) (R2 := fun X => ∃ G', G'.g = G.g ∧ G'.bs.length = G.bs.length ∧ DI w X G' (i + 1) v D) d hd (fun X X' h1 h2 => h1.below h2) h (by omega) (fun ho => by have := h.gi.lv.at'.lt ho; omega) hk (fun X hX => ?_) (fun _ X hX n hn => ?_)).mono fun e w' ⟨n, e1, h2⟩ => ⟨n, e1, ?_⟩
  · refine (GI.trade (DS.keeps D) (by decide) hX.gi (by omega) hb ⟨_, _, _, _, _, _, _⟩ ⟨syOf_sz _, accOf_sz _, accOf_sz _⟩ (trDay _ _ _ _ (accOf_is _) (accOf_is _) (syOf_is _) (pickN_lt _ (by omega)) (pickN_lt _ (by omega)) (pickN_lt _ (by omega)) (pickN_lt _ (by omega)))).mono fun e w' ⟨e1, h2⟩ => ⟨e1, ?_⟩
    obtain ⟨tv, bv, h3, h4⟩ := h2.out
    exact ⟨⟨_, h4.1, by rw [traded_bs, List.length_append]; rfl, hX.new h3 h4⟩, h4.2.1⟩
  · refine (GI.breaks (DS.keeps D) (by decide) hX.gi (by omega) hb n hn).mono fun e w' ⟨c, e1, e2, h2⟩ => ⟨c, e1, e2, ?_⟩
    obtain ⟨G', h3, h4, h5⟩ := h2.out
    exact ⟨G', h5.1, h3, hX.new h4 h5⟩
  · rcases h2.out with ⟨_, rfl, h3⟩ | ⟨_, rfl, h3⟩
    · exact h3
    · exact h3
/-- Behind the last Net: the whole list tells the balances. -/
structure FI (w W : World) (G : Lg) (v : Value) (E : List Bk) : Prop where
  lv : Lv w W G
  row : RowAt W 42 5 v E.length (flatL Bk.cl E)
  el : E.length ≤ 1000000
  q : ∀ ac sy, (amt G.A ac sy).q = selB Am.q ac sy E
  c : ∀ ac sy, (amt G.A ac sy).c = selB Am.c ac sy E
  o : ∀ ac, (tot G.O ac).2 = selB Am.f ac sX E + selB Am.f ac sY E + selB Am.f ac sXY E
  b : ∀ ac, -1000000000000000000 ≤ (tot G.O ac).2 ∧ (tot G.O ac).2 ≤ 1000000000000000000
  bq : ∀ ac sy, (-1000000000000000000 ≤ (amt G.A ac sy).q ∧ (amt G.A ac sy).q ≤ 1000000000000000000) ∧ -1000000000000000000 ≤ (amt G.A ac sy).c ∧ (amt G.A ac sy).c ≤ 1000000000000000000
section
variable {w W W' : World} {G : Lg} {i : Nat} {v : Value} {D E net : List Bk}
theorem FI.below (h : FI w W G v E) (hb : Below W.heap.size W W') : FI w W' G v E :=
  ⟨h.lv.below hb, h.row.fr (Fr.of_below hb (fun _ => False)) fun _ _ => id, h.el, h.q, h.c, h.o, h.b, h.bq⟩
theorem DI.last {vn : Value} (h : DI w W G i v D) (hi : i ≤ 200) (hn : NT W W' G.T net vn) (ty : TypeId) :
    ∃ v' w', (Builtin.append_ #[39, 39] ty #[v, vn]).run Try.prog W' = .ok v' w' ∧ FI w w' G v' (D ++ net) := by
  obtain ⟨i0, hi0, hz0, hz1, hz2⟩ := info_parts infoBk
  have hdl := h.dl
  have hmx : 1000000 < maxLen := by decide
  have hlt := h.gi.bd.lt
  have hle := hn.perm.length_eq
  have h1 := h.below hn.bel
  obtain ⟨v', w', hr, hrow, hf, ho⟩ := run_append_rows (P := Try.prog) W' 39 ty 42 i0 _ 5 56 Try.underlying39 hi0 hz0 hz1 hz2 rfl v D.length _ h1.row vn net.length _ hn.row (bk_one net) (by omega) (by omega)
  have hz := h.gi.zs.closed hn.perm
  refine ⟨v', w', hr, ⟨⟨h1.gi.lv.at'.fr hf fun b hb e => (h1.low b e).2 hb, ⟨hf.os.trans h1.gi.lv.bel.os, hf.tape.trans h1.gi.lv.bel.tape, hf.output.trans h1.gi.lv.bel.output, Nat.le_trans h1.gi.lv.bel.size hf.size, fun q hq => (hf.block q (Nat.lt_of_lt_of_le hq h1.gi.lv.bel.size) (fun e => by have := (h1.low q e).1; omega)).trans (h1.gi.lv.bel.block q hq)⟩, h1.gi.lv.low⟩, ?_, by rw [List.length_append]; omega, fun ac sy => ?_, fun ac sy => ?_, fun ac => ?_, fun ac => ?_, fun ac sy => ?_⟩⟩
  · rw [List.length_append, flatL_app]; exact hrow
  · rw [hz.q]; exact Int.zero_add _
  · rw [hz.c]; exact Int.zero_add _
  · rw [hz.o, hz.f, hz.f, hz.f]
    show (0 : Int) + _ + ((0 : Int) + _) + ((0 : Int) + _) = _
    rw [Int.zero_add, Int.zero_add, Int.zero_add]
  · have hb := (h.gi.bd.o ac).2.2
    have hB : (i : Int) * (3 * mM) ≤ 1000000000000000000 := by unfold mM; omega
    generalize (i : Int) * (3 * mM) = B at *
    constructor <;> omega
  · have hb := h.gi.bd.a ac sy
    have hB : (i : Int) * (3 * mM) ≤ 1000000000000000000 := by unfold mM; omega
    unfold Am.inn at hb
    generalize (i : Int) * (3 * mM) = B at *
    exact ⟨⟨by omega, by omega⟩, by omega, by omega⟩
end
/-- Sums over the symbols, one behind the other. -/
def symS (f : ByteArray → Int) : Nat → Int
  | 0 => 0
  | j + 1 => symS f j + f (syOf j)
theorem symS_three (f : ByteArray → Int) : symS f 3 = f sX + f sY + f sXY := by
  show 0 + f (syOf 0) + f (syOf 1) + f (syOf 2) = _
  show 0 + f sX + f sY + f sXY = _
  omega
theorem selB_snoc (g : Am → Int) (ac sy : ByteArray) {E : List Bk} {k : Nat} {x : Bk} (h : E[k]? = some x) : selB g ac sy (E.take (k + 1)) = selB g ac sy (E.take k) + if ac = x.ac ∧ sy = x.sy then g x.am else 0 := by
  obtain ⟨h1, rfl⟩ := List.getElem?_eq_some_iff.1 h
  rw [← List.take_append_getElem h1, selB_app]
  simp only [selB]; omega
theorem subW_run {op : Oper} {a : Act} {p q r : Int} (x y : Operand) (ho : op.op = .binOp .sub 2 x y 2) (hx : a.eval x = .int .i64 p) (hy : a.eval y = .int .i64 q) (hr : wrap64 (p - q) = r) (w : World) : (execOp a.eval op).run Try.prog w = .ok (.value (.int .i64 r)) w := by
  have hw : IntKind.i64.wrap (p - q) = r := by rw [IntKind.wrap_i64]; unfold wrap64 at hr; omega
  unfold execOp
  simp only [ho, hx, hy]
  go_simp
theorem wrap_sub (s x : Int) : wrap64 (wrap64 s - x) = wrap64 (s - x) := by unfold wrap64; omega
end Go.Proofs.Ytidhahooebepfaa
