/-
  RiskHolds: deeds that came in; where the law stands.
-/
import Derived.Test.YtgioknkfppaaaaaGHoldM
namespace Go.Proofs.Ytgioknkfppaaaaa
set_option linter.unusedVariables false
set_option linter.unusedSimpArgs false
open Go.RowKit Go.Great Go.Maps

structure Dd where
  k : Int
  s : Int
  p : Int
  q : Int
  w : Int
def i64B (x : Int) : Prop := -9223372036854775808 ≤ x ∧ x ≤ 9223372036854775807
def SrcD (w : World) (a : Option Addr) (n : Nat) (t : Nat → Dd) : Prop := n = 0 ∨ ∃ b off, a = some ⟨b, off, none⟩ ∧ ∀ j, j < n → (w.cell? ⟨b, off + j * 5, none⟩ = some (.int .i64 (t j).k) ∧ w.cell? ⟨b, off + j * 5 + 1, none⟩ = some (.int .i64 (t j).s) ∧ w.cell? ⟨b, off + j * 5 + 2, none⟩ = some (.int .i64 (t j).p) ∧ w.cell? ⟨b, off + j * 5 + 3, none⟩ = some (.int .i64 (t j).q) ∧ w.cell? ⟨b, off + j * 5 + 4, none⟩ = some (.int .i64 (t j).w)) ∧ i64B (t j).k ∧ i64B (t j).s ∧ i64B (t j).p ∧ i64B (t j).q ∧ i64B (t j).w
theorem SrcD.below {w w' : World} {a : Option Addr} {n : Nat} {t : Nat → Dd} (h : SrcD w a n t) (hb : Below w.heap.size w w') : SrcD w' a n t := by
  rcases h with h | ⟨b, off, e, h⟩
  · exact .inl h
  · refine .inr ⟨b, off, e, fun j hj => ?_⟩
    obtain ⟨⟨h0, h1, h2, h3, h4⟩, h5⟩ := h j hj
    have hlt : b < w.heap.size := World.block_lt_of_cell? _ _ h0
    exact ⟨⟨(hb.cell (p := ⟨b, _, none⟩) hlt).trans h0, (hb.cell (p := ⟨b, _, none⟩) hlt).trans h1, (hb.cell (p := ⟨b, _, none⟩) hlt).trans h2, (hb.cell (p := ⟨b, _, none⟩) hlt).trans h3, (hb.cell (p := ⟨b, _, none⟩) hlt).trans h4⟩, h5⟩
def odC (x : Od) : List Value := x.o.cs.toList
theorem odC_len (x : Od) : (odC x).length = 15 := rfl
/-- The limits of a law's own account. -/
def limH (op po : Int) : Lim := ⟨sA, 0, op, po, 0, 0⟩
structure HL (w W : World) (g ma mo ab : Nat) (op po : Int) (a : Ac) (O : List Oo) (l : List Od) (lv : Value) (has : Int) (i : Nat) : Prop where
  on : On w.heap.size w W g ma mo a O
  eop : a.op = op
  epo : a.po = po
  bu : a.bu = 0
  px : PosX a has
  hm : HM op po i l O has
  row : RowAt W 35 15 lv l.length (flatL odC l)
  low : ∀ q, lv.ownBlock = some q → w.heap.size ≤ q
  blk : Blk W ab 30 (limH op po).cs
  len : l.length ≤ i
theorem HL.below {w W W' : World} {g ma mo ab : Nat} {op po has : Int} {a : Ac} {O : List Oo} {l : List Od} {lv : Value} {i : Nat} (h : HL w W g ma mo ab op po a O l lv has i) (hb : Below W.heap.size W W') : HL w W' g ma mo ab op po a O l lv has i :=
  ⟨h.on.below hb, h.eop, h.epo, h.bu, h.px, h.hm, h.row.fr (Fr.of_below hb (fun _ => False)) fun _ _ => id, h.low, h.blk.below hb h.blk.lt, h.len⟩
theorem info35 : (Try.prog.info? 35).map (fun i => (i.zero, i.size, i.bytes)) = some (some (.agg #[.int .i64 0, .string ⟨#[]⟩, .string ⟨#[]⟩, .string ⟨#[]⟩, .int .i64 0, .int .i64 0, .int .i64 0, .int .i64 0, .int .i64 0, .int .i64 0, .int .i64 0, .int .i64 0, .int .i64 0, .int .i64 0, .int .i64 0]), 15, 144) := by kernel_rfl
theorem info_parts {T : TypeId} {z : Value} {s b : Nat} (h : (Try.prog.info? T).map (fun i => (i.zero, i.size, i.bytes)) = some (some z, s, b)) : ∃ i, Try.prog.info? T = some i ∧ i.zero = some z ∧ i.size = s ∧ i.bytes = b := by
  cases hq : Try.prog.info? T with
  | none => simp [hq] at h
  | some i => simp [hq] at h; exact ⟨i, rfl, h.1, h.2.1, h.2.2⟩
/-- The guard has done something: nothing else has turned. -/
theorem HL.step {w W W' : World} {g ma mo ab : Nat} {op po has has' : Int} {a a' : Ac} {O O' : List Oo} {l : List Od} {lv : Value} {i : Nat} (h : HL w W g ma mo ab op po a O l lv has i) (hon : On w.heap.size w W' g ma mo a' O') (hf : Fr W W' (oneG g ma mo a O).own) (h1 : a'.op = op) (h2 : a'.po = po) (h3 : a'.bu = 0) (hp : PosX a' has') :
    RowAt W' 35 15 lv l.length (flatL odC l) ∧ Blk W' ab 30 (limH op po).cs := by
  refine ⟨h.row.fr hf fun q hq => h.on.ne_row h.row (by decide) (by decide) q hq, h.blk.fr hf fun ho => ?_⟩
  have hk : ∀ T cs, Blk W ab T cs → 30 = T := fun T cs hk => by
    have hb := h.blk
    unfold Blk at hk hb
    rw [hb] at hk
    injection hk with hk
    injection hk
  have hm : ∀ k L, MapL Try.prog W k ab L → False := fun k L hm => hm.ne_blk h.blk rfl
  rcases ho with e | e | e | ⟨x, hx, e | e⟩
  · rw [e] at hk; exact absurd (hk _ _ h.on.gd.blk) (by decide)
  · rw [e] at hm; exact hm _ _ h.on.gd.accs
  · rw [e] at hm; exact hm _ _ h.on.gd.opens
  · rw [e] at hk; exact absurd (hk _ _ (h.on.gd.acc x hx).blk) (by decide)
  · rw [e] at hm; exact hm _ _ (h.on.gd.acc x hx).mp
end Go.Proofs.Ytgioknkfppaaaaa
