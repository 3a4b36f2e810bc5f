/-
  RiskApart: a step of both.
-/
import Derived.Test.YtgioknkfppaaaaaGAp0
namespace Go.Proofs.Ytgioknkfppaaaaa
set_option linter.unusedVariables false
set_option linter.unusedSimpArgs false
open Go.RowKit Go.Great Go.Maps

theorem anG_g (G : Gd) (p : Opp) : (anG G p).g = G.g := by
  unfold anG
  split
  · unfold ckG
    split
    · rfl
    · split
      · rfl
      · split <;> rfl
  · split
    · rfl
    · split
      · rfl
      · split
        · unfold trG
          split
          · rfl
          · split <;> rfl
        · split
          · unfold klG
            split <;> rfl
          · rfl
section
variable {w W : World} {g g' k : Nat} {Gb Ga : Gd}
theorem AP.keep (h : AP w W g g' Gb Ga k) {W' : World} {ob : Nat} {T : TypeId} {cs : Array Value} (hf : Fr W W' (fun q => q = ob)) (hb : Blk W ob T cs) (h1 : T ≠ 63) (h2 : T ≠ 72) (hlow : w.heap.size ≤ ob) : AP w W' g g' Gb Ga k :=
  ⟨h.gb.fr hf fun q hq e => h.gb.ne_blk hb h1 h2 (e ▸ hq), h.ga.fr hf fun q hq e => h.ga.ne_blk hb h1 h2 (e ▸ hq), h.eb, h.ea, h.rel, h.lb, h.la, h.ap, h.lowb, h.lowa,
    ⟨hf.os.trans h.bel.os, hf.tape.trans h.bel.tape, hf.output.trans h.bel.output, Nat.le_trans h.bel.size hf.size, fun q hq => (hf.block q (Nat.lt_of_lt_of_le hq h.bel.size) (by omega)).trans (h.bel.block q hq)⟩⟩
theorem AP.stepB (h : AP w W g g' Gb Ga k) {p : Opp} {W' : World} (hg : GdAt W' (anG Gb p)) (hf : Fr W W' Gb.own) (ho : ∀ b, (anG Gb p).own b ↔ Gb.own b) (hr : RelX (anG Gb p) Ga) : AP w W' g g' (anG Gb p) Ga (k + 1) :=
  ⟨hg, h.ga.fr hf fun q hq hb => h.ap q hb hq, (anG_g Gb p).trans h.eb, h.ea, hr, h.lb.step p, h.la.mono (Nat.le_succ _), fun q hq => h.ap q ((ho q).1 hq), fun q hq => h.lowb q ((ho q).1 hq), h.lowa,
    ⟨hf.os.trans h.bel.os, hf.tape.trans h.bel.tape, hf.output.trans h.bel.output, Nat.le_trans h.bel.size hf.size, fun q hq => (hf.block q (Nat.lt_of_lt_of_le hq h.bel.size) (fun hb => by have := h.lowb q hb; omega)).trans (h.bel.block q hq)⟩⟩
theorem AP.stepA (h : AP w W g g' Gb Ga k) {p : Opp} {W1 W2 W3 : World} (hg : GdAt W1 (anG Gb p)) (hf : Fr W W1 Gb.own) (ho : ∀ b, (anG Gb p).own b ↔ Gb.own b) (hb : Below W1.heap.size W1 W2) (hg2 : GdAt W3 (anG Ga p)) (hf2 : Fr W2 W3 Ga.own) (ho2 : ∀ b, (anG Ga p).own b ↔ Ga.own b) (hr : RelX (anG Gb p) (anG Ga p)) : AP w W3 g g' (anG Gb p) (anG Ga p) (k + 1) := by
  have b1 : Below w.heap.size w W1 := ⟨hf.os.trans h.bel.os, hf.tape.trans h.bel.tape, hf.output.trans h.bel.output, Nat.le_trans h.bel.size hf.size, fun q hq => (hf.block q (Nat.lt_of_lt_of_le hq h.bel.size) (fun hb => by have := h.lowb q hb; omega)).trans (h.bel.block q hq)⟩
  have b2 : Below w.heap.size w W2 := below_step b1 hb
  exact ⟨(hg.below hb).fr hf2 fun q hq hx => h.ap q ((ho q).1 hq) hx, hg2, (anG_g Gb p).trans h.eb, (anG_g Ga p).trans h.ea, hr, h.lb.step p, h.la.step p, fun q hq hx => h.ap q ((ho q).1 hq) ((ho2 q).1 hx), fun q hq => h.lowb q ((ho q).1 hq), fun q hq => h.lowa q ((ho2 q).1 hq),
    ⟨hf2.os.trans b2.os, hf2.tape.trans b2.tape, hf2.output.trans b2.output, Nat.le_trans b2.size hf2.size, fun q hq => (hf2.block q (Nat.lt_of_lt_of_le hq b2.size) (fun hx => by have := h.lowa q hx; omega)).trans (b2.block q hq)⟩⟩
/-- What the law makes of a step. -/
def pM (tb : Bool) (p : Opp) (id : Int) : Opp := { p with o := { p.o with ac := (if tb then sA else sB), id := id }, ac := (if tb then sA else sB) }
theorem pM_ok (tb : Bool) {p : Opp} (h : p.inn) {id : Int} (hi : 0 ≤ id ∧ id ≤ 100000) : (pM tb p id).ok := by
  refine ⟨?_, h.osy, ?_, h.sy, ⟨by show _ ≤ id; omega, by show id ≤ _; omega⟩⟩
  · show (if tb then sA else sB).size ≤ maxLen
    cases tb <;> decide
  · show (if tb then sA else sB).size ≤ maxLen
    cases tb <;> decide
theorem LenG.lt {G : Gd} {n : Nat} (h : LenG G n) (hn : n ≤ 10000) : G.O.length < maxLen ∧ ∀ a ∈ G.A, a.pos.length < maxLen := by
  have hm : 10000 < maxLen := by decide
  exact ⟨by have := h.1; omega, fun a ha => by have := h.2 a ha; omega⟩
theorem Fr.three {a b c : World} {e : Nat → Prop} (h : Fr a b e) (k : Fr b c e) : Fr a c e := h.trans k fun _ _ q => by rcases q with q | q <;> exact q
theorem AP.mkB (h : AP w W g g' Gb Ga k) {ob : Nat} {p : Opp} (hb : Blk W ob 50 p.cs) (hl : w.heap.size ≤ ob) (x : Int) :
    AP w (((W.setCell ⟨ob, 10, none⟩ (.string ⟨#[66]⟩)).setCell ⟨ob, 26, none⟩ (.string ⟨#[66]⟩)).setCell ⟨ob, 8, none⟩ (.int .i64 x)) g g' Gb Ga k
    ∧ Blk (((W.setCell ⟨ob, 10, none⟩ (.string ⟨#[66]⟩)).setCell ⟨ob, 26, none⟩ (.string ⟨#[66]⟩)).setCell ⟨ob, 8, none⟩ (.int .i64 x)) ob 50 (pM false p x).cs :=
  ⟨h.keep (((Fr.setCell W ⟨ob, 10, none⟩ _ (fun q => q = ob) rfl).three (Fr.setCell _ ⟨ob, 26, none⟩ _ (fun q => q = ob) rfl)).three (Fr.setCell _ ⟨ob, 8, none⟩ _ (fun q => q = ob) rfl)) hb (by decide) (by decide) hl,
    ((hb.set 10 _).set 26 _).set 8 _⟩
theorem AP.mkA (h : AP w W g g' Gb Ga k) {ob : Nat} {p : Opp} (hb : Blk W ob 50 p.cs) (hl : w.heap.size ≤ ob) (x y : Int) :
    AP w ((((((W.setCell ⟨ob, 10, none⟩ (.string ⟨#[66]⟩)).setCell ⟨ob, 26, none⟩ (.string ⟨#[66]⟩)).setCell ⟨ob, 10, none⟩ (.string ⟨#[65]⟩)).setCell ⟨ob, 26, none⟩ (.string ⟨#[65]⟩)).setCell ⟨ob, 8, none⟩ (.int .i64 x)).setCell ⟨ob, 8, none⟩ (.int .i64 y)) g g' Gb Ga k
    ∧ Blk ((((((W.setCell ⟨ob, 10, none⟩ (.string ⟨#[66]⟩)).setCell ⟨ob, 26, none⟩ (.string ⟨#[66]⟩)).setCell ⟨ob, 10, none⟩ (.string ⟨#[65]⟩)).setCell ⟨ob, 26, none⟩ (.string ⟨#[65]⟩)).setCell ⟨ob, 8, none⟩ (.int .i64 x)).setCell ⟨ob, 8, none⟩ (.int .i64 y)) ob 50 (pM true p y).cs :=
  ⟨h.keep ((((((Fr.setCell W ⟨ob, 10, none⟩ _ (fun q => q = ob) rfl).three (Fr.setCell _ ⟨ob, 26, none⟩ _ (fun q => q = ob) rfl)).three (Fr.setCell _ ⟨ob, 10, none⟩ _ (fun q => q = ob) rfl)).three (Fr.setCell _ ⟨ob, 26, none⟩ _ (fun q => q = ob) rfl)).three (Fr.setCell _ ⟨ob, 8, none⟩ _ (fun q => q = ob) rfl)).three (Fr.setCell _ ⟨ob, 8, none⟩ _ (fun q => q = ob) rfl)) hb (by decide) (by decide) hl,
    (((((hb.set 10 _).set 26 _).set 10 _).set 26 _).set 8 _).set 8 _⟩
end
theorem wpList_callW {P : Program} {ops : Array Oper} {rest : List Oper} {op : Oper} {a : Act} {w : World} {Q : Exit → Act → World → Prop} (hg : op.guard = none) (d : Option Tmp) (hd : op.dst = d)
    (f : FuncId) (args : Array Value) (hrun : (execOp a.eval op).run P w = .ok (.enter f args) w) {R : Ending → World → Prop} (hc : Calls P f args w R)
    (h : ∀ e w', R e w' → ∃ v, e = .returned v ∧ wpList P ops Q rest (a.put d v) w') : wpList P ops Q (op :: rest) a w := by
  subst hd
  refine wpList_plain hg fun K hK => ?_
  unfold Oper.wp
  rw [hrun, Oper.upon_enter]
  refine hc.mono fun e w'' hh => ?_
  obtain ⟨v, rfl, hw⟩ := h _ _ hh
  exact hK _ _ hw
theorem ldT_run {op : Oper} {a : Act} {w : World} {g : Nat} {t1 t2 t3 : Int} (h : Blk w g 52 #[.int .i64 t1, .int .i64 t2, .int .i64 t3]) (x : Operand) (ho : op.op = .load 52 x) (hx : a.eval x = .pointer (some ⟨g, 0, none⟩)) : (execOp a.eval op).run Try.prog w = .ok (.value (.agg #[.int .i64 t1, .int .i64 t2, .int .i64 t3])) w := by
  have hl := run_loadVar_mid (P := Try.prog) w g 0 52 [.int .i64 t1, .int .i64 t2, .int .i64 t3] _ (fun j v hv => by rw [Nat.zero_add, h.cell, ← Array.getElem?_toList]; exact hv) Try.underlying52 rfl (by kernel_rfl)
  unfold execOp
  simp only [ho, hx, Instr.loadAt, Instr.sureAddr, Sem.run_bind, Sem.run_pure, Result.andThen_ok, hl]
theorem neT_run {op : Oper} {a : Act} {t1 t2 t3 : Int} (x y : Operand) (ho : op.op = .binOp .neq 52 x y 52) (hx : a.eval x = .agg #[.int .i64 t1, .int .i64 t2, .int .i64 t3]) (hy : a.eval y = .agg #[.int .i64 t1, .int .i64 t2, .int .i64 t3]) (w : World) : (execOp a.eval op).run Try.prog w = .ok (.value (.bool false)) w := by
  unfold execOp
  simp only [ho, hx, hy]
  go_simp
section
variable {w W : World} {g g' k : Nat} {Gb Ga : Gd}
theorem AP.midA (h : AP w W g g' Gb Ga k) {ob : Nat} {cs tv : Array Value} (hb : Blk W ob 50 cs) {Y : World} (hf : Fr W Y Gb.own) :
    Blk (Y.alloc (.cells tv 52)).drew Y.heap.size 52 tv ∧ Blk (Y.alloc (.cells tv 52)).drew ob 50 cs ∧ GdAt (Y.alloc (.cells tv 52)).drew Ga ∧ Below Y.heap.size Y (Y.alloc (.cells tv 52)).drew := by
  have b : Below Y.heap.size Y (Y.alloc (.cells tv 52)).drew := by
    have b := (Below.refl _ Y).alloc (Nat.le_refl _) (.cells tv 52)
    exact ⟨b.os, b.tape, b.output, b.size, b.block⟩
  have k1 : Blk Y ob 50 cs := (hf.block ob hb.lt (h.gb.ne_blk hb (by decide) (by decide))).trans hb
  exact ⟨Blk.new Y 52 tv, k1.below b k1.lt, (h.ga.fr hf fun q hq hx => h.ap q hx hq).below b, b⟩
theorem GdAt.keepS {Z U : World} (h : GdAt Z Ga) (hf : Fr Z U Ga.own) {xb ob : Nat} {tv cs : Array Value} (hs : Blk Z xb 52 tv ∧ Blk Z ob 50 cs) : Blk U xb 52 tv ∧ Blk U ob 50 cs :=
  ⟨(hf.block xb hs.1.lt (h.ne_blk hs.1 (by decide) (by decide))).trans hs.1, (hf.block ob hs.2.lt (h.ne_blk hs.2 (by decide) (by decide))).trans hs.2⟩
end
end Go.Proofs.Ytgioknkfppaaaaa
