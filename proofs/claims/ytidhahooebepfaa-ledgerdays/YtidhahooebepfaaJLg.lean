/-
  ledger: a ledger in memory.
-/
import Derived.Test.YtidhahooebepfaaJLine
namespace Go.Proofs.Ytidhahooebepfaa
set_option linter.unusedVariables false
set_option linter.unusedSimpArgs false
open Go.RowKit Go.Great Go.Maps

structure Tr where
  sy : ByteArray
  bu : ByteArray
  se : ByteArray
  pr : Int
  qt : Int
  bf : Int
  sf : Int
def Tr.cs (t : Tr) : Array Value := #[.string t.sy, .string t.bu, .string t.se, .int .i64 t.pr, .int .i64 t.qt, .int .i64 t.bf, .int .i64 t.sf]
def Tr.cl (t : Tr) : List Value := t.cs.toList
theorem Tr.cl_len (t : Tr) : t.cl.length = 7 := rfl
theorem Tr.cl_one (t : Tr) (u : Value) (hu : u ∈ t.cl) : u.oneCell' = true := List.all_eq_true.1 (show t.cl.all (fun u => u.oneCell') = true from rfl) u hu
def Tr.sz (t : Tr) : Prop := t.sy.size ≤ maxLen ∧ t.bu.size ≤ maxLen ∧ t.se.size ≤ maxLen
def booC (b : Bool) : List Value := [.bool b]
theorem booC_len (b : Bool) : (booC b).length = 1 := rfl
structure Lg where
  g : Nat
  ma : Nat
  mt : Nat
  mo : Nat
  A : List Bk
  T : List Bk
  O : List To
  tv : Value
  ts : List Tr
  bv : Value
  bs : List Bool
def Lg.cs (G : Lg) : Array Value := #[.map (some G.ma), .map (some G.mt), .map (some G.mo), G.tv, G.bv]
structure LgAt (w : World) (G : Lg) : Prop where
  blk : Blk w G.g 67 G.cs
  all : MapL Try.prog w 75 G.ma (G.A.map Bk.ent)
  tod : MapL Try.prog w 75 G.mt (G.T.map Bk.ent)
  tot : MapL Try.prog w 9 G.mo (G.O.map To.ent)
  ne1 : G.ma ≠ G.mt
  ne2 : G.ma ≠ G.mo
  ne3 : G.mt ≠ G.mo
  trs : RowAt w 69 7 G.tv G.ts.length (flatL Tr.cl G.ts)
  brs : RowAt w 4 1 G.bv G.bs.length (flatL booC G.bs)
  szA : SzL G.A
  szT : SzL G.T
  szO : SzT G.O
  szR : ∀ t ∈ G.ts, t.sz
def Lg.own (G : Lg) (b : Nat) : Prop := b = G.g ∨ b = G.ma ∨ b = G.mt ∨ b = G.mo ∨ G.tv.ownBlock = some b ∨ G.bv.ownBlock = some b
section
variable {w w' : World} {G : Lg}
theorem Blk.fr {w w' : World} {g : Nat} {T : TypeId} {cs : Array Value} {ex : Nat → Prop} (b : Blk w g T cs) (hf : Fr w w' ex) (hn : ¬ ex g) : Blk w' g T cs := (hf.block g b.lt hn).trans b
theorem Blk.ne_type {w : World} {g h : Nat} {T T' : TypeId} {cs cs' : Array Value} (a : Blk w g T cs) (b : Blk w h T' cs') (hne : T ≠ T') : g ≠ h := fun e => by
  unfold Blk at a b
  rw [e, b] at a
  injection a with a
  injection a with _ a
  exact hne a.symm
theorem LgAt.fr {ex : Nat → Prop} (h : LgAt w G) (hf : Fr w w' ex) (hn : ∀ b, G.own b → ¬ ex b) : LgAt w' G :=
  ⟨h.blk.fr hf (hn _ (.inl rfl)), h.all.fr hf (hn _ (.inr (.inl rfl))), h.tod.fr hf (hn _ (.inr (.inr (.inl rfl)))), h.tot.fr hf (hn _ (.inr (.inr (.inr (.inl rfl))))), h.ne1, h.ne2, h.ne3,
    h.trs.fr hf fun b hb => hn b (.inr (.inr (.inr (.inr (.inl hb))))), h.brs.fr hf fun b hb => hn b (.inr (.inr (.inr (.inr (.inr hb))))), h.szA, h.szT, h.szO, h.szR⟩
theorem LgAt.below (h : LgAt w G) (hb : Below w.heap.size w w') : LgAt w' G := h.fr (Fr.of_below hb (fun _ => False)) fun _ _ => id
theorem LgAt.lt (h : LgAt w G) {b : Nat} (hb : G.own b) : b < w.heap.size := by
  rcases hb with e | e | e | e | e | e
  · rw [e]; exact h.blk.lt
  · rw [e]; exact h.all.lt
  · rw [e]; exact h.tod.lt
  · rw [e]; exact h.tot.lt
  · exact (h.trs.lt e).1
  · exact (h.brs.lt e).1
/-- A block of another type is none of its own. -/
theorem LgAt.ne_blk (h : LgAt w G) {b : Nat} {T : TypeId} {cs : Array Value} (hb : Blk w b T cs) (h1 : T ≠ 67) (h2 : T ≠ 69) (h3 : T ≠ 4) : ¬ G.own b := by
  rintro (e | e | e | e | e | e)
  · subst e; exact h.blk.ne_type hb (Ne.symm h1) rfl
  · subst e; exact h.all.ne_blk hb rfl
  · subst e; exact h.tod.ne_blk hb rfl
  · subst e; exact h.tot.ne_blk hb rfl
  · exact h.trs.ne_type hb (Ne.symm h2) e
  · exact h.brs.ne_type hb (Ne.symm h3) e
theorem LgAt.ne_tv (h : LgAt w G) {b : Nat} (e : G.tv.ownBlock = some b) : b ≠ G.g ∧ b ≠ G.ma ∧ b ≠ G.mt ∧ b ≠ G.mo ∧ G.bv.ownBlock ≠ some b := by
  obtain ⟨_, cur, hc⟩ := h.trs.lt e
  have hm : ∀ k x L, MapL Try.prog w k x L → b ≠ x := fun k x L hm e => by
    obtain ⟨es, c, e1⟩ := hm.is
    rw [← e, hc] at e1; cases e1
  refine ⟨fun e1 => ?_, hm _ _ _ h.all, hm _ _ _ h.tod, hm _ _ _ h.tot, h.brs.ne_type hc (by decide)⟩
  subst e1
  exact h.trs.ne_type h.blk (by decide) e
theorem LgAt.ne_bv (h : LgAt w G) {b : Nat} (e : G.bv.ownBlock = some b) : b ≠ G.g ∧ b ≠ G.ma ∧ b ≠ G.mt ∧ b ≠ G.mo ∧ G.tv.ownBlock ≠ some b := by
  obtain ⟨_, cur, hc⟩ := h.brs.lt e
  have hm : ∀ k x L, MapL Try.prog w k x L → b ≠ x := fun k x L hm e => by
    obtain ⟨es, c, e1⟩ := hm.is
    rw [← e, hc] at e1; cases e1
  refine ⟨fun e1 => ?_, hm _ _ _ h.all, hm _ _ _ h.tod, hm _ _ _ h.tot, h.trs.ne_type hc (by decide)⟩
  subst e1
  exact h.brs.ne_type h.blk (by decide) e
def Lg.setA (G : Lg) (A : List Bk) : Lg := { G with A := A }
def Lg.setT (G : Lg) (T : List Bk) : Lg := { G with T := T }
def Lg.setO (G : Lg) (O : List To) : Lg := { G with O := O }
theorem LgAt.setA (h : LgAt w G) {A : List Bk} (hm : MapL Try.prog w' 75 G.ma (A.map Bk.ent)) (hf : Fr w w' (fun x => x = G.ma)) (hs : SzL A) : LgAt w' (G.setA A) :=
  ⟨h.blk.fr hf (fun e => h.all.ne_blk h.blk e.symm), hm, h.tod.fr hf (Ne.symm h.ne1), h.tot.fr hf (Ne.symm h.ne2), h.ne1, h.ne2, h.ne3, h.trs.fr hf fun b hb => (h.ne_tv hb).2.1, h.brs.fr hf fun b hb => (h.ne_bv hb).2.1, hs, h.szT, h.szO, h.szR⟩
theorem LgAt.setT (h : LgAt w G) {A : List Bk} (hm : MapL Try.prog w' 75 G.mt (A.map Bk.ent)) (hf : Fr w w' (fun x => x = G.mt)) (hs : SzL A) : LgAt w' (G.setT A) :=
  ⟨h.blk.fr hf (fun e => h.tod.ne_blk h.blk e.symm), h.all.fr hf h.ne1, hm, h.tot.fr hf (Ne.symm h.ne3), h.ne1, h.ne2, h.ne3, h.trs.fr hf fun b hb => (h.ne_tv hb).2.2.1, h.brs.fr hf fun b hb => (h.ne_bv hb).2.2.1, h.szA, hs, h.szO, h.szR⟩
theorem LgAt.setO (h : LgAt w G) {O : List To} (hm : MapL Try.prog w' 9 G.mo (O.map To.ent)) (hf : Fr w w' (fun x => x = G.mo)) (hs : SzT O) : LgAt w' (G.setO O) :=
  ⟨h.blk.fr hf (fun e => h.tot.ne_blk h.blk e.symm), h.all.fr hf h.ne2, h.tod.fr hf h.ne3, hm, h.ne1, h.ne2, h.ne3, h.trs.fr hf fun b hb => (h.ne_tv hb).2.2.2.1, h.brs.fr hf fun b hb => (h.ne_bv hb).2.2.2.1, h.szA, h.szT, hs, h.szR⟩
end
def Lg.add (G : Lg) (b : Bk) : Lg := { G with A := lnAdd G.A b, T := lnAdd G.T b, O := toAdd G.O b }
/-- Nothing runs over. -/
structure AddOk (G : Lg) (b : Bk) : Prop where
  sz : b.sz
  a1 : i64R ((amt G.A b.ac b.sy).q + b.q)
  a2 : i64R ((amt G.A b.ac b.sy).c + b.c)
  a3 : i64R ((amt G.A b.ac b.sy).f + b.f)
  t1 : i64R ((amt G.T b.ac b.sy).q + b.q)
  t2 : i64R ((amt G.T b.ac b.sy).c + b.c)
  t3 : i64R ((amt G.T b.ac b.sy).f + b.f)
  o0 : i64R (b.c - b.f)
  o1 : i64R ((Go.Proofs.Ytidhahooebepfaa.tot G.O b.ac).1 + (b.c - b.f))
  o2 : i64R ((Go.Proofs.Ytidhahooebepfaa.tot G.O b.ac).2 + b.f)
  la : G.A.length < maxLen
  lt : G.T.length < maxLen
  lo : G.O.length < maxLen
def Am.inn (B : Int) (a : Am) : Prop := -B ≤ a.q ∧ a.q ≤ B ∧ -B ≤ a.c ∧ a.c ≤ B ∧ -B ≤ a.f ∧ a.f ≤ B
structure Bk.inn (M : Int) (b : Bk) : Prop where
  am : b.am.inn M
  lo : -M ≤ b.c - b.f
  hi : b.c - b.f ≤ M
structure Bd (G : Lg) (B : Int) (n : Nat) : Prop where
  a : ∀ ac sy, (amt G.A ac sy).inn B
  t : ∀ ac sy, (amt G.T ac sy).inn B
  o : ∀ ac, -B ≤ (tot G.O ac).1 ∧ (tot G.O ac).1 ≤ B ∧ -B ≤ (tot G.O ac).2 ∧ (tot G.O ac).2 ≤ B
  la : G.A.length ≤ n
  lt : G.T.length ≤ n
  lo : G.O.length ≤ n
theorem inn_add {L : List Bk} {B M : Int} {b : Bk} (h : ∀ ac sy, (amt L ac sy).inn B) (hb : b.inn M) (hM : 0 ≤ M) (ac sy : ByteArray) : (amt (lnAdd L b) ac sy).inn (B + M) := by
  rw [amt_add]
  obtain ⟨⟨m1, m2, m3, m4, m5, m6⟩, _, _⟩ := hb
  simp only [Bk.am] at m1 m2 m3 m4 m5 m6
  split
  · obtain ⟨h1, h2, h3, h4, h5, h6⟩ := h b.ac b.sy
    refine ⟨?_, ?_, ?_, ?_, ?_, ?_⟩ <;> simp only [Am.add, Bk.am] <;> omega
  · obtain ⟨h1, h2, h3, h4, h5, h6⟩ := h ac sy
    exact ⟨by omega, by omega, by omega, by omega, by omega, by omega⟩
theorem Bd.add {G : Lg} {B M : Int} {n : Nat} {b : Bk} (h : Bd G B n) (hb : b.inn M) (hM : 0 ≤ M) : Bd (G.add b) (B + M) (n + 1) := by
  refine ⟨inn_add h.a hb hM, inn_add h.t hb hM, fun ac => ?_, Nat.le_trans (lnAdd_len _ _) (Nat.succ_le_succ h.la), Nat.le_trans (lnAdd_len _ _) (Nat.succ_le_succ h.lt), Nat.le_trans (toAdd_len _ _) (Nat.succ_le_succ h.lo)⟩
  have e : tot (G.add b).O ac = _ := tot_add G.O b ac
  rw [e]
  clear e
  obtain ⟨⟨m1, m2, m3, m4, m5, m6⟩, m7, m8⟩ := hb
  simp only [Bk.am] at m1 m2 m3 m4 m5 m6
  split
  · obtain ⟨h1, h2, h3, h4⟩ := h.o b.ac
    refine ⟨?_, ?_, ?_, ?_⟩ <;> simp only <;> omega
  · obtain ⟨h1, h2, h3, h4⟩ := h.o ac
    exact ⟨by omega, by omega, by omega, by omega⟩
theorem Bd.ok {G : Lg} {B M : Int} {n : Nat} {b : Bk} (h : Bd G B n) (hb : b.inn M) (hs : b.sz) (hM : 0 ≤ M) (hB : B + M ≤ 9223372036854775807) (hB0 : 0 ≤ B) (hn : n < maxLen) : AddOk G b := by
  obtain ⟨⟨m1, m2, m3, m4, m5, m6⟩, m7, m8⟩ := hb
  simp only [Bk.am] at m1 m2 m3 m4 m5 m6
  obtain ⟨h1, h2, h3, h4, h5, h6⟩ := h.a b.ac b.sy
  obtain ⟨g1, g2, g3, g4, g5, g6⟩ := h.t b.ac b.sy
  obtain ⟨k1, k2, k3, k4⟩ := h.o b.ac
  exact ⟨hs, ⟨by omega, by omega⟩, ⟨by omega, by omega⟩, ⟨by omega, by omega⟩, ⟨by omega, by omega⟩, ⟨by omega, by omega⟩, ⟨by omega, by omega⟩, ⟨by omega, by omega⟩, ⟨by omega, by omega⟩, ⟨by omega, by omega⟩, Nat.lt_of_le_of_lt h.la hn, Nat.lt_of_le_of_lt h.lt hn, Nat.lt_of_le_of_lt h.lo hn⟩
end Go.Proofs.Ytidhahooebepfaa
