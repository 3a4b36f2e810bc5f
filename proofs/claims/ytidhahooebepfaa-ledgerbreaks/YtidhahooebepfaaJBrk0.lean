/-
  LedgerBreaks: two ledgers, and the trades that are to be taken back.
-/
import Derived.Test.YtidhahooebepfaaJDay1
namespace Go.Proofs.Ytidhahooebepfaa
set_option linter.unusedVariables false
set_option linter.unusedSimpArgs false
open Go.RowKit Go.Great Go.Maps

theorem selB_opp (g : Am → Int) (hg : ∀ b : Bk, g b.opp.am = -g b.am) (ac sy : ByteArray) : ∀ l : List Bk, selB g ac sy (l.map Bk.opp) = -selB g ac sy l
  | [] => rfl
  | b :: l => by
    have e1 : b.opp.ac = b.ac := rfl
    have e2 : b.opp.sy = b.sy := rfl
    simp only [List.map_cons, selB, selB_opp g hg ac sy l, hg, e1, e2]
    split <;> omega
def trS (ts : List Tr) (k : Nat) (g : Am → Int) (ac sy : ByteArray) : Int := match ts[k]? with
  | some t => selB g ac sy (bkL t)
  | none => 0
def goneS (g : Am → Int) (ac sy : ByteArray) (ts : List Tr) : List Nat → Int
  | [] => 0
  | k :: l => trS ts k g ac sy + goneS g ac sy ts l
theorem goneS_app (g : Am → Int) (ac sy : ByteArray) (ts : List Tr) (t : Tr) : ∀ {l : List Nat}, (∀ k ∈ l, k < ts.length) → goneS g ac sy (ts ++ [t]) l = goneS g ac sy ts l
  | [], _ => rfl
  | k :: l, h => by
    have e : trS (ts ++ [t]) k g ac sy = trS ts k g ac sy := by
      unfold trS
      rw [List.getElem?_append_left (h k (.head _))]
    simp only [goneS, e, goneS_app g ac sy ts t fun x hx => h x (.tail _ hx)]
theorem trS_new (g : Am → Int) (ac sy : ByteArray) (ts : List Tr) (t : Tr) : trS (ts ++ [t]) ts.length g ac sy = selB g ac sy (bkL t) := by
  unfold trS
  rw [List.getElem?_append_right (Nat.le_refl _), Nat.sub_self]; rfl
/-- The first has what the second has, and what is to be taken back. -/
structure Rel (T S : List Bk) (ts : List Tr) (gs : List Nat) : Prop where
  q : ∀ ac sy, (amt T ac sy).q = (amt S ac sy).q + goneS Am.q ac sy ts gs
  c : ∀ ac sy, (amt T ac sy).c = (amt S ac sy).c + goneS Am.c ac sy ts gs
  f : ∀ ac sy, (amt T ac sy).f = (amt S ac sy).f + goneS Am.f ac sy ts gs
theorem Rel.both {T S : List Bk} {ts : List Tr} {gs : List Nat} (h : Rel T S ts gs) (hg : ∀ k ∈ gs, k < ts.length) (t : Tr) : Rel ((bkL t).foldl lnAdd T) ((bkL t).foldl lnAdd S) (ts ++ [t]) gs := by
  refine ⟨fun ac sy => ?_, fun ac sy => ?_, fun ac sy => ?_⟩
  · rw [amt_adds Am.q (fun _ _ => rfl), amt_adds Am.q (fun _ _ => rfl), h.q, goneS_app Am.q ac sy ts t hg]; omega
  · rw [amt_adds Am.c (fun _ _ => rfl), amt_adds Am.c (fun _ _ => rfl), h.c, goneS_app Am.c ac sy ts t hg]; omega
  · rw [amt_adds Am.f (fun _ _ => rfl), amt_adds Am.f (fun _ _ => rfl), h.f, goneS_app Am.f ac sy ts t hg]; omega
theorem Rel.one {T S : List Bk} {ts : List Tr} {gs : List Nat} (h : Rel T S ts gs) (hg : ∀ k ∈ gs, k < ts.length) (t : Tr) : Rel ((bkL t).foldl lnAdd T) S (ts ++ [t]) (ts.length :: gs) := by
  refine ⟨fun ac sy => ?_, fun ac sy => ?_, fun ac sy => ?_⟩
  · rw [amt_adds Am.q (fun _ _ => rfl), h.q, goneS, goneS_app Am.q ac sy ts t hg, trS_new]; omega
  · rw [amt_adds Am.c (fun _ _ => rfl), h.c, goneS, goneS_app Am.c ac sy ts t hg, trS_new]; omega
  · rw [amt_adds Am.f (fun _ _ => rfl), h.f, goneS, goneS_app Am.f ac sy ts t hg, trS_new]; omega
theorem Rel.back {T S : List Bk} {ts : List Tr} {gs : List Nat} {k : Nat} {t : Tr} (h : Rel T S ts (k :: gs)) (ht : ts[k]? = some t) : Rel (((bkL t).map Bk.opp).foldl lnAdd T) S ts gs := by
  have e : ∀ g ac sy, trS ts k g ac sy = selB g ac sy (bkL t) := fun g ac sy => by unfold trS; rw [ht]
  refine ⟨fun ac sy => ?_, fun ac sy => ?_, fun ac sy => ?_⟩
  · rw [amt_adds Am.q (fun _ _ => rfl), h.q, goneS, e, selB_opp Am.q (fun _ => rfl)]; omega
  · rw [amt_adds Am.c (fun _ _ => rfl), h.c, goneS, e, selB_opp Am.c (fun _ => rfl)]; omega
  · rw [amt_adds Am.f (fun _ _ => rfl), h.f, goneS, e, selB_opp Am.f (fun _ => rfl)]; omega
theorem Rel.perm {T S : List Bk} {ts : List Tr} (h : Rel T S ts []) (h1 : DK T ∧ NZ T) (h2 : DK S ∧ NZ S) : T.Perm S := by
  refine amt_perm h1.1 h2.1 h1.2 h2.2 fun ac sy => ?_
  have a1 := h.q ac sy
  have a2 := h.c ac sy
  have a3 := h.f ac sy
  simp only [goneS] at a1 a2 a3
  generalize amt T ac sy = a at *
  generalize amt S ac sy = b at *
  obtain ⟨x1, x2, x3⟩ := a
  obtain ⟨y1, y2, y3⟩ := b
  simp only [Int.add_zero] at a1 a2 a3
  subst a1 a2 a3; rfl
def ZT (A T : List Bk) (O : List To) : Prop := DK T ∧ NZ T
theorem ZT.keeps : Keeps ZT := fun {A T O l} h _ => ⟨h.1.adds l, h.2.adds l⟩
def mB : Int := 1000002000
theorem trB {sy bu se : ByteArray} (zp zq zf zh : Nat) (h1 : isSy sy) (p1 : zp < 1000) (q1 : zq < 1000000) (f1 : zf < 2001) (g1 : zh < 2001) : TrS mB ⟨sy, bu, se, 1 + (zp : Int), 1 + (zq : Int), (zf : Int) - 1000, (zh : Int) - 1000⟩ := by
  have hm : Tr.may ⟨sy, bu, se, 1 + (zp : Int), 1 + (zq : Int), (zf : Int) - 1000, (zh : Int) - 1000⟩ = true := may_iff.2 ⟨⟨by show 1 ≤ 1 + (zp : Int); omega, by show 1 + (zp : Int) ≤ 1000000000; omega⟩, ⟨by show 1 ≤ 1 + (zq : Int); omega, by show 1 + (zq : Int) ≤ 1000000; omega⟩, ⟨by show _ ≤ (zf : Int) - 1000; omega, by show (zf : Int) - 1000 ≤ _; omega⟩, ⟨by show _ ≤ (zh : Int) - 1000; omega, by show (zh : Int) - 1000 ≤ _; omega⟩⟩
  have hv := val_bd hm
  have hv2 : (1 + (zp : Int)) * (1 + (zq : Int)) ≤ 1000 * 1000000 := Int.mul_le_mul (by omega) (by omega) (by omega) (by omega)
  exact ⟨hm, bkL_inn (V := 1000000000) (F := 1000) hv.1 (by show (1 + (zp : Int)) * (1 + (zq : Int)) ≤ _; omega) (by show 0 ≤ 1 + (zq : Int); omega) (by show 1 + (zq : Int) ≤ _; omega) ⟨by show _ ≤ (zf : Int) - 1000; omega, by show (zf : Int) - 1000 ≤ _; omega⟩ ⟨by show _ ≤ (zh : Int) - 1000; omega, by show (zh : Int) - 1000 ≤ _; omega⟩, h1⟩
/-- The numbers of the trades that are to be taken back, as they lie in memory. -/
def GoneAt (w : World) (v : Value) (gs : List Nat) : Prop := ∃ ao cap, v = .slice ao gs.length cap ∧ gs.length ≤ cap ∧ (gs = [] ∨ ∃ g off, ao = some ⟨g, off, none⟩ ∧ g < w.heap.size ∧ ∀ (j k : Nat), gs[j]? = some k → w.cell? ⟨g, off + j, none⟩ = some (.int .i64 ((k : Int) + 1)))
theorem GoneAt.start (w : World) : GoneAt w (.slice Option.none 0 0) [] := ⟨Option.none, 0, rfl, Nat.le_refl _, .inl rfl⟩
theorem GoneAt.fr {w w' : World} {v : Value} {gs : List Nat} {ex : Nat → Prop} (h : GoneAt w v gs) (hf : Fr w w' ex) (hn : ∀ q, v.ownBlock = some q → ¬ ex q) : GoneAt w' v gs := by
  obtain ⟨ao, cap, rfl, hle, h⟩ := h
  refine ⟨ao, cap, rfl, hle, ?_⟩
  rcases h with h | ⟨g, off, rfl, hlt, h⟩
  · exact .inl h
  · exact .inr ⟨g, off, rfl, Nat.lt_of_lt_of_le hlt hf.size, fun j k hj => hf.cell (h j k hj) (hn g rfl)⟩
/-- Where LedgerBreaks stands: i steps are done. -/
structure BI (w W : World) (G H : Lg) (i : Nat) (v : Value) (gs : List Nat) (left : List Nat) : Prop where
  a : GI mB ZT w W G i
  b : GI mB ZT w W H i
  ap : ∀ q, G.own q → ¬ H.own q
  rel : Rel G.T H.T G.ts left
  lt : ∀ k ∈ left, k < G.ts.length
  at' : GoneAt W v gs
  low : ∀ q, v.ownBlock = some q → w.heap.size ≤ q ∧ q < W.heap.size ∧ ¬ G.own q ∧ ¬ H.own q
  eq : G.ts.length = G.bs.length
section
variable {w W W' : World} {G H G' H' : Lg} {i : Nat} {v : Value} {gs left : List Nat}
theorem BI.below (h : BI w W G H i v gs left) (hb : Below W.heap.size W W') : BI w W' G H i v gs left :=
  ⟨h.a.below hb, h.b.below hb, h.ap, h.rel, h.lt, h.at'.fr (Fr.of_below hb (fun _ => False)) fun _ _ => id, fun q hq => ⟨(h.low q hq).1, Nat.lt_of_lt_of_le (h.low q hq).2.1 hb.size, (h.low q hq).2.2⟩, h.eq⟩
theorem NewG.other {X : World} {G G' H : Lg} (hn : NewG W X G G') (hH : LgAt W H) (ap : ∀ q, G.own q → ¬ H.own q) : LgAt X H ∧ ∀ q, G'.own q → ¬ H.own q :=
  ⟨hH.fr hn.2.1 fun b hb e => ap b e hb, fun q hq ho => by
    rcases hn.2.2 q hq with h1 | h1
    · exact ap q h1 ho
    · have := hH.lt ho; omega⟩
theorem Lv.other {X : World} {G G' H : Lg} (hl : Lv w X G') (hn : NewG W X G G') (hH : Lv w W H) (ap : ∀ q, G.own q → ¬ H.own q) : Lv w X H := ⟨(hn.other hH.at' ap).1, hl.bel, hH.low⟩
/-- The first ledger took a step; the second one and the list are as they were. -/
theorem BI.first {left' : List Nat} (h : BI w W G H i v gs left) (hg : GI mB ZT w W' G' (i + 1)) (hn : NewG W W' G G') (hr : Rel G'.T H.T G'.ts left') (hlt : ∀ k ∈ left', k < G'.ts.length) (he : G'.ts.length = G'.bs.length) : BI w W' G' H (i + 1) v gs left' := by
  have ho := hn.other h.b.lv.at' h.ap
  have hb := (h.b.mem ho.1 hg.lv.bel).same (show 0 ≤ mB by decide)
  refine ⟨hg, hb, ho.2, hr, hlt, h.at'.fr hn.2.1 fun q hq => (h.low q hq).2.2.1, fun q hq => ⟨(h.low q hq).1, Nat.lt_of_lt_of_le (h.low q hq).2.1 hn.2.1.size, fun e => ?_, (h.low q hq).2.2.2⟩, he⟩
  rcases hn.2.2 q e with h1 | h1
  · exact (h.low q hq).2.2.1 h1
  · have := (h.low q hq).2.1; omega
end
end Go.Proofs.Ytidhahooebepfaa
