/-
  RiskHolds: what the regions by hand want; the guard's calls, where the law stands.
-/
import Derived.Test.YtgioknkfppaaaaaGHold0
namespace Go.Proofs.Ytgioknkfppaaaaa
set_option linter.unusedVariables false
set_option linter.unusedSimpArgs false
open Go.RowKit Go.Great Go.Maps

theorem addR_run {op : Oper} {a : Act} {p q : Int} (x y : Operand) (ho : op.op = .binOp .add 3 x y 3) (hx : a.eval x = .int .i64 p) (hy : a.eval y = .int .i64 q) (h0 : -9223372036854775808 ≤ p + q) (h1 : p + q ≤ 9223372036854775807) (w : World) : (execOp a.eval op).run Try.prog w = .ok (.value (.int .i64 (p + q))) w := by
  have hw : IntKind.i64.wrap (p + q) = p + q := by rw [IntKind.wrap_i64]; omega
  unfold execOp
  simp only [ho, hx, hy]
  go_simp
theorem below_setRow {B g : Nat} {a w : World} (hb : Below B a w) (hB : B ≤ g) (cs : Array Value) : Below B a (w.setRow g cs) :=
  ⟨hb.os, hb.tape, hb.output, by simpa [World.setRow] using hb.size, fun q hq => by
    have e : (w.setRow g cs).heap[q]? = w.heap[q]? := by
      simp only [World.setRow, Array.getElem?_modify]
      rw [if_neg (by omega)]
    exact e.trans (hb.block q hq)⟩
theorem ldOr_run {op : Oper} {a : Act} {w : World} {g : Nat} {o : Ord} (h : Blk w g 35 o.cs) (x : Operand) (ho : op.op = .load 35 x) (hx : a.eval x = .pointer (some ⟨g, 0, none⟩)) : (execOp a.eval op).run Try.prog w = .ok (.value (.agg o.cs)) w := by
  have hl := run_loadVar_mid (P := Try.prog) w g 0 35 o.cs.toList _ (fun j v hv => by rw [Nat.zero_add, h.cell, ← Array.getElem?_toList]; exact hv) Try.underlying35 rfl (by rw [Array.length_toList, show o.cs.size = 15 from rfl]; kernel_rfl)
  unfold execOp
  simp only [ho, hx, Instr.loadAt, Instr.sureAddr, Sem.run_bind, Sem.run_pure, Result.andThen_ok, hl]
section
variable {B : Nat} {w W : World} {g ma mo ab : Nat} {a : Ac} {O : List Oo} {op po has : Int} {l : List Od} {lv : Value} {i : Nat}
theorem On.keepB (h : On B w W g ma mo a O) {W' : World} (hf : Fr W W' (oneG g ma mo a O).own) {b : Nat} {T : TypeId} {cs : Array Value} (hb : Blk W b T cs) (h1 : T ≠ 63) (h2 : T ≠ 72) : Blk W' b T cs := by
  refine hb.fr hf fun ho => ?_
  have hk : ∀ T' cs', Blk W b T' cs' → T = T' := fun T' cs' hk => by
    unfold Blk at hk hb
    rw [hb] at hk
    injection hk with hk
    injection hk
  have hm : ∀ k L, MapL Try.prog W k b L → False := fun k L hm => hm.ne_blk hb rfl
  rcases ho with e | e | e | ⟨x, hx, e | e⟩
  · rw [e] at hk; exact absurd (hk _ _ h.gd.blk) h1
  · rw [e] at hm; exact hm _ _ h.gd.accs
  · rw [e] at hm; exact hm _ _ h.gd.opens
  · rw [e] at hk; exact absurd (hk _ _ (h.gd.acc x hx).blk) h2
  · rw [e] at hm; exact hm _ _ (h.gd.acc x hx).mp
theorem Trade_onF (h : On B w W g ma mo a O) (q : Int) (q0 : q ≠ 0) (q1 : -1000000 ≤ q ∧ q ≤ 1000000) (hl : a.pos.length < maxLen) :
    Calls Try.prog 13 #[.pointer (some ⟨g, 0, none⟩), .string sA, .string sX, .int .i64 q] W fun e w' => e = .returned (.int .i64 0) ∧ On B w w' g ma mo { a with pos := mvL a sX q } O ∧ Fr W w' (oneG g ma mo a O).own := by
  refine (Trade_yes (oneG g ma mo a O) sA sX q W h.gd sA_size sX_size (one_acc g ma mo a O h.nm) hl q0 (wiB_iff.2 q1)).mono fun e w' ⟨h1, h2, h3, _⟩ => ⟨h1, ?_, h3⟩
  have e : ({ (oneG g ma mo a O) with A := setA (oneG g ma mo a O).A { a with pos := mvL a sX q } } : Gd) = oneG g ma mo { a with pos := mvL a sX q } O := by
    unfold oneG
    simp only
    rw [one_set a { a with pos := mvL a sX q } rfl]
  rw [e] at h2
  exact h.fr h2 h3 rfl rfl h.nm h.st
theorem Open_onF (h : On B w W g ma mo a O) (id sd pr q : Int) (hs : sd = 1 ∨ sd = 2) (hp : 0 ≤ pr ∧ pr ≤ 1000000000) (hq : 1 ≤ q ∧ q ≤ 1000000) (i0 : 1 ≤ id) (i1 : id ≤ 9223372036854775807) (hat : ∀ x ∈ O, x.ac = sA) (hl : O.length < maxLen) :
    Calls Try.prog 12 #[.pointer (some ⟨g, 0, none⟩), .agg (ordO id sd pr q).cs, .int .i64 0] W fun e w' => e = .returned (.int .i64 0) ∧ On B w w' g ma mo a ((ordO id sd pr q).oo 0 :: doO O id) ∧ Fr W w' (oneG g ma mo a O).own :=
  (Open_yes (oneG g ma mo a O) (ordO id sd pr q) 0 W h.gd sA_size (iso_ord hs hp hq) i0 i1 (one_acc g ma mo a O h.nm) (fun x hx => hat x (List.mem_of_find?_eq_some hx)) hl).mono fun e w' ⟨h1, h2, h3⟩ => ⟨h1, h.fr h2 h3 rfl rfl h.nm h.st, h3⟩
theorem Done_onF (h : On B w W g ma mo a O) (id : Int) (hs : -9223372036854775808 ≤ id ∧ id ≤ 9223372036854775807) (hin : ∃ x ∈ O, x.id = id) :
    Calls Try.prog 14 #[.pointer (some ⟨g, 0, none⟩), .int .i64 id] W fun e w' => e = .returned (.int .i64 0) ∧ On B w w' g ma mo a (doO O id) ∧ Fr W w' (oneG g ma mo a O).own := by
  refine (Done_any (oneG g ma mo a O) id W h.gd hs).mono fun e w' ⟨h1, h2, h3⟩ => ?_
  have hi : ((oneG g ma mo a O).at id).isSome = true := by
    obtain ⟨x, hx, e⟩ := hin
    unfold Gd.at oneG
    rw [List.find?_isSome]
    exact ⟨x, hx, by simp [e]⟩
  rw [hi] at h1 h2
  exact ⟨h1, h.fr h2 h3 rfl rfl h.nm h.st, h3⟩
/-- Check: nothing but 'due' turns. -/
theorem HL.check (h : HL w W g ma mo ab op po a O l lv has i) (x : Od) (hx : x.ok (i + 1)) :
    Calls Try.prog 10 #[.pointer (some ⟨g, 0, none⟩), .agg x.o.cs, .int .i64 0, .int .i64 0] W fun e w' => e = .returned (.int .i64 (if abB a O x.o (valI x.o 0) = true then 150 else 0)) ∧ HL w w' g ma mo ab op po { a with due := tkD a 0 } O l lv has i ∧ Fr W w' (oneG g ma mo a O).own := by
  have hq := hx.q1
  have hp := hx.p1
  refine (Check_onF h.on x.id x.sd x.pr x.q 0 hx.sd ⟨by have := hx.p0; omega, by omega⟩ ⟨hx.q0, by omega⟩ (by omega)).mono fun e w' ⟨h1, h2, h3⟩ => ?_
  have ht : tkB a 0 = true := by unfold tkB; rw [h.bu]; rfl
  rw [ht] at h1
  simp only [Bool.true_eq_false, if_false] at h1
  have px : PosX { a with due := tkD a 0 } has := ⟨h.px.pos, h.px.len, h.px.all⟩
  obtain ⟨k1, k2⟩ := h.step h2 h3 h.eop h.epo h.bu px
  exact ⟨h1, ⟨h2, h.eop, h.epo, h.bu, px, h.hm, k1, h.low, k2, h.len⟩, h3⟩
theorem HL.accs (h : HL w W g ma mo ab op po a O l lv has i) : ∀ x ∈ O, x.ac = sA := fun x hx => by
  obtain ⟨z, hz, rfl⟩ := List.mem_map.1 (h.hm.perm.mem_iff.1 hx)
  rfl
theorem HL.lenO (h : HL w W g ma mo ab op po a O l lv has i) : O.length = l.length := by
  have := h.hm.perm.length_eq
  simpa using this
/-- Open, of an order that was checked: where the law stands when it stands in the list too. -/
theorem HL.opens (h : HL w W g ma mo ab op po a O l lv has i) (x : Od) (hx : x.ok (i + 1)) (hi : i ≤ 1000) :
    Calls Try.prog 12 #[.pointer (some ⟨g, 0, none⟩), .agg x.o.cs, .int .i64 0] W fun e w' => e = .returned (.int .i64 0) ∧ On w.heap.size w w' g ma mo a (x.oo :: doO O x.id) ∧ Fr W w' (oneG g ma mo a O).own ∧ RowAt w' 35 15 lv l.length (flatL odC l) ∧ Blk w' ab 30 (limH op po).cs := by
  have hq := hx.q1
  have hp := hx.p1
  have hm : 1000 < maxLen := by decide
  have hl := h.len
  refine (Open_onF h.on x.id x.sd x.pr x.q hx.sd ⟨by have := hx.p0; omega, by omega⟩ ⟨hx.q0, by omega⟩ hx.i0 (by have := hx.i1; omega) h.accs (by rw [h.lenO]; omega)).mono fun e w' ⟨h1, h2, h3⟩ => ?_
  obtain ⟨k1, k2⟩ := h.step h2 h3 h.eop h.epo h.bu h.px
  exact ⟨h1, h2, h3, k1, k2⟩
/-- What has come is put at the list's end. -/
theorem HL.more (h : HL w W g ma mo ab op po a O l lv has i) (o0 : 1 ≤ op) (o1 : op ≤ 5000) (p0 : 1 ≤ po) (p1 : po ≤ 200) {x : Od} (hid : x.id = (i : Int) + 1) (hx : x.ok (i + 1)) (hc : abB a O x.o (valI x.o 0) = false) {W' : World} {lv' : Value}
    (hon : On w.heap.size w W' g ma mo a (x.oo :: doO O x.id)) (hr : RowAt W' 35 15 lv' (l.length + 1) (flatL odC l ++ odC x)) (hlow : ∀ q, lv'.ownBlock = some q → w.heap.size ≤ q) (hb : Blk W' ab 30 (limH op po).cs) :
    HL w W' g ma mo ab op po a (x.oo :: doO O x.id) (l ++ [x]) lv' has (i + 1) := by
  refine ⟨hon, h.eop, h.epo, h.bu, h.px, h.hm.more o0 o1 p0 p1 hid hx h.eop h.epo h.px.pos hc, ?_, hlow, hb, by have := h.len; simp; omega⟩
  have e : flatL odC (l ++ [x]) = flatL odC l ++ odC x := by
    clear hon hr hlow hb hc h
    induction l with
    | nil => simp [flatL]
    | cons y t ih => simp only [List.cons_append, flatL, ih, List.append_assoc]
  rw [e, List.length_append]
  exact hr
theorem HL.same (h : HL w W g ma mo ab op po a O l lv has i) : HL w W g ma mo ab op po a O l lv has (i + 1) :=
  ⟨h.on, h.eop, h.epo, h.bu, h.px, h.hm.mono (Nat.le_succ _), h.row, h.low, h.blk, Nat.le_succ_of_le h.len⟩
/-- Trade: the position moves. -/
theorem HL.trades (h : HL w W g ma mo ab op po a O l lv has i) (n : Int) (n0 : n ≠ 0) (n1 : -60 ≤ n ∧ n ≤ 60) (hp : po ≤ 200) :
    Calls Try.prog 13 #[.pointer (some ⟨g, 0, none⟩), .string sA, .string sX, .int .i64 n] W fun e w' => e = .returned (.int .i64 0) ∧ On w.heap.size w w' g ma mo { a with pos := mvL a sX n } O ∧ PosX { a with pos := mvL a sX n } (has + n) ∧ Fr W w' (oneG g ma mo a O).own ∧ RowAt w' 35 15 lv l.length (flatL odC l) ∧ Blk w' ab 30 (limH op po).cs := by
  have hb := h.hm.buy
  have hs := h.hm.sell
  have b0 := sdQ_nonneg 1 h.hm.each
  have b1 := sdQ_nonneg 2 h.hm.each
  have hm : 1 < maxLen := by decide
  have hl := h.px.len
  refine (Trade_onF h.on n n0 (by omega) (by omega)).mono fun e w' ⟨h1, h2, h3⟩ => ?_
  have px := h.px.trade (n := n) (by omega) (by omega)
  obtain ⟨k1, k2⟩ := h.step h2 h3 h.eop h.epo h.bu px
  exact ⟨h1, h2, px, h3, k1, k2⟩
/-- Look: what is open, and the position. -/
theorem HL.looks (h : HL w W g ma mo ab op po a O l lv has i) (ho : op ≤ 5000) :
    Calls Try.prog 15 #[.pointer (some ⟨g, 0, none⟩), .string sA, .string sX] W fun e w' => e = .returned (.tuple #[.int .i64 (sumL l), .int .i64 has, .int .i64 0]) ∧ Below W.heap.size W w' := by
  refine (Look_yes (oneG g ma mo a O) sA sX W h.on.gd sA_size sX_size (one_acc g ma mo a O h.on.nm)).mono fun e w' ⟨h1, h2⟩ => ⟨?_, h2⟩
  have e1 : ovI (oneG g ma mo a O).O sA 0 = sumL l := h.hm.ov ho 0 fun x hx => by have := (h.hm.each x hx).i0; omega
  rw [e1, h.px.pos] at h1
  exact h1
/-- What the law asks at the end of each round. -/
theorem HL.ends (h : HL w W g ma mo ab op po a O l lv has i) : sumL l ≤ op ∧ has ≤ po ∧ -has ≤ po := by
  have b0 := sdQ_nonneg 1 h.hm.each
  have b1 := sdQ_nonneg 2 h.hm.each
  have hb := h.hm.buy
  have hs := h.hm.sell
  exact ⟨h.hm.opn, by omega, by omega⟩
end
end Go.Proofs.Ytgioknkfppaaaaa
