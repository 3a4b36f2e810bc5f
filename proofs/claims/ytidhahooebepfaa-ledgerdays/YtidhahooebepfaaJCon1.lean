/-
  LedgerConserves: things that came in; where the law stands, and its steps.
-/
import Derived.Test.YtidhahooebepfaaJCon0
namespace Go.Proofs.Ytidhahooebepfaa
set_option linter.unusedVariables false
set_option linter.unusedSimpArgs false
open Go.RowKit Go.Great Go.Maps

structure Dd where
  k : Int
  s : Int
  b : Int
  e : Int
  p : Int
  q : Int
  f : Int
def i64B (x : Int) : Prop := -9223372036854775808 ≤ x ∧ x ≤ 9223372036854775807
def Dd.cs (d : Dd) : Array Value := #[.int .i64 d.k, .int .i64 d.s, .int .i64 d.b, .int .i64 d.e, .int .i64 d.p, .int .i64 d.q, .int .i64 d.f]
def Dd.ok (d : Dd) : Prop := i64B d.k ∧ i64B d.s ∧ i64B d.b ∧ i64B d.e ∧ i64B d.p ∧ i64B d.q ∧ i64B d.f
def SrcD (w : World) (a : Option Addr) (n : Nat) (t : Nat → Dd) : Prop := n = 0 ∨ ∃ b off, a = some ⟨b, off, none⟩ ∧ ∀ j, j < n → (w.cell? ⟨b, off + j * 7, none⟩ = some (.int .i64 (t j).k) ∧ w.cell? ⟨b, off + j * 7 + 1, none⟩ = some (.int .i64 (t j).s) ∧ w.cell? ⟨b, off + j * 7 + 2, none⟩ = some (.int .i64 (t j).b) ∧ w.cell? ⟨b, off + j * 7 + 3, none⟩ = some (.int .i64 (t j).e) ∧ w.cell? ⟨b, off + j * 7 + 4, none⟩ = some (.int .i64 (t j).p) ∧ w.cell? ⟨b, off + j * 7 + 5, none⟩ = some (.int .i64 (t j).q) ∧ w.cell? ⟨b, off + j * 7 + 6, none⟩ = some (.int .i64 (t j).f)) ∧ (t j).ok
theorem SrcD.below {w w' : World} {a : Option Addr} {n : Nat} {t : Nat → Dd} (h : SrcD w a n t) (hb : Below w.heap.size w w') : SrcD w' a n t := by
  rcases h with h | ⟨b, off, e, h⟩
  · exact .inl h
  · refine .inr ⟨b, off, e, fun j hj => ?_⟩
    obtain ⟨⟨h0, h1, h2, h3, h4, h6, h7⟩, h5⟩ := h j hj
    have hlt : b < w.heap.size := World.block_lt_of_cell? _ _ h0
    exact ⟨⟨(hb.cell (p := ⟨b, _, none⟩) hlt).trans h0, (hb.cell (p := ⟨b, _, none⟩) hlt).trans h1, (hb.cell (p := ⟨b, _, none⟩) hlt).trans h2, (hb.cell (p := ⟨b, _, none⟩) hlt).trans h3, (hb.cell (p := ⟨b, _, none⟩) hlt).trans h4, (hb.cell (p := ⟨b, _, none⟩) hlt).trans h6, (hb.cell (p := ⟨b, _, none⟩) hlt).trans h7⟩, h5⟩
def mM : Int := 1000000000002000
/-- A trade as the law makes it. -/
structure TrOk (t : Tr) : Prop where
  may : t.may = true
  inn : ∀ b ∈ bkL t, b.inn mM
  bu : isAcc t.bu
  se : isAcc t.se
/-- Where the law stands. -/
structure CI (w W : World) (G : Lg) (i : Nat) : Prop where
  lv : Lv w W G
  bd : Bd G (3 * mM * (i : Int)) (3 * i)
  bl : G.bs.length ≤ i
  le : G.ts.length ≤ G.bs.length
  ks : ∀ t ∈ G.ts, TrOk t
  zs : ZS G.A G.T G.O
theorem CI.start {w w0 W : World} {G : Lg} (hb : Below w.heap.size w w0) (h : Nw w0 W G) : CI w W G 0 :=
  ⟨Lv.new hb h, h.bd, by rw [h.bs]; exact Nat.le_refl _, by rw [h.bs, h.ts]; exact Nat.le_refl _, fun t ht => (by rw [h.ts] at ht; cases ht), by rw [h.A, h.T, h.O]; exact ZS.start⟩
theorem CI.below {w W W' : World} {G : Lg} {i : Nat} (h : CI w W G i) (hb : Below W.heap.size W W') : CI w W' G i := ⟨h.lv.below hb, h.bd, h.bl, h.le, h.ks, h.zs⟩
theorem Bd.up {G : Lg} {B B' : Int} {n n' : Nat} (h : Bd G B n) (hB : B ≤ B') (hn : n ≤ n') : Bd G B' n' := by
  have up : ∀ a : Am, a.inn B → a.inn B' := fun a ⟨a1, a2, a3, a4, a5, a6⟩ => ⟨by omega, by omega, by omega, by omega, by omega, by omega⟩
  refine ⟨fun ac sy => up _ (h.a ac sy), fun ac sy => up _ (h.t ac sy), fun ac => ?_, Nat.le_trans h.la hn, Nat.le_trans h.lt hn, Nat.le_trans h.lo hn⟩
  obtain ⟨k1, k2, k3, k4⟩ := h.o ac
  exact ⟨by omega, by omega, by omega, by omega⟩
theorem CI.bdUp {w W : World} {G : Lg} {i : Nat} (h : CI w W G i) : Bd G (3 * mM * ((i + 1 : Nat) : Int)) (3 * (i + 1)) := h.bd.up (by unfold mM; omega) (by omega)
theorem CI.same {w W : World} {G : Lg} {i : Nat} (h : CI w W G i) : CI w W G (i + 1) := ⟨h.lv, h.bdUp, Nat.le_succ_of_le h.bl, h.le, h.ks, h.zs⟩
theorem CI.trade {w W : World} {G : Lg} {i : Nat} (h : CI w W G i) (hi : i < 300) (t : Tr) (hz : t.sz) (ht : TrOk t) :
    Calls Try.prog 10 #[.pointer (some ⟨G.g, 0, none⟩), .string t.sy, .string t.bu, .string t.se, .int .i64 t.pr, .int .i64 t.qt, .int .i64 t.bf, .int .i64 t.sf] W fun e w' => e = .returned (.int .i64 0) ∧ Hid (∃ G', G'.g = G.g ∧ G'.bs.length = G.bs.length + 1 ∧ CI w w' G' (i + 1) ∧ Fr W w' G.own) := by
  have hmx : 1000000 < maxLen := by decide
  have hbl := h.bl
  have hle := h.le
  refine (Trade_yes G t W h.lv.at' hz ht.may h.bd ht.inn (by decide) (by unfold mM; omega) (by unfold mM; omega) (by omega) (by omega) (by omega)).mono fun e w' ⟨h1, tv, bv, h2, h3, h4⟩ => ⟨h1, G.traded t tv bv, (addsL_same G _).1, ?_, ⟨?_, ?_, ?_, ?_, ?_, ?_⟩, h3⟩
  · show ((addsL G (bkL t)).bs ++ [false]).length = _
    rw [(addsL_same G _).2.2.2.2.2.1, List.length_append]; rfl
  · exact h.lv.step h2 h3 h4
  · have := h.bd.traded ht.inn (by decide) tv bv
    rw [show 3 * mM * (((i + 1 : Nat)) : Int) = 3 * mM * (i : Int) + 3 * mM by unfold mM; omega, show 3 * (i + 1) = 3 * i + 3 by omega]
    exact this
  · show ((addsL G (bkL t)).bs ++ [false]).length ≤ _
    rw [(addsL_same G _).2.2.2.2.2.1, List.length_append]; exact Nat.succ_le_succ hbl
  · show ((addsL G (bkL t)).ts ++ [t]).length ≤ ((addsL G (bkL t)).bs ++ [false]).length
    rw [(addsL_same G _).2.2.2.2.2.1, (addsL_same G _).2.2.2.2.1, List.length_append, List.length_append]; exact Nat.succ_le_succ hle
  · intro x hx
    have hx' : x ∈ (addsL G (bkL t)).ts ++ [t] := hx
    rw [(addsL_same G _).2.2.2.2.1] at hx'
    rcases List.mem_append.1 hx' with q | q
    · exact h.ks x q
    · rw [List.mem_singleton.1 q]; exact ht
  · have hz := h.zs.adds (Zb.trade t ht.bu ht.se)
    rw [← addsL_A, ← addsL_T, ← addsL_O] at hz
    exact hz
theorem Bd.broken {G : Lg} {t : Tr} {B M : Int} {n : Nat} (h : Bd G B n) (hb : ∀ b ∈ bkL t, b.inn M) (hM : 0 ≤ M) (k : Nat) : Bd ((addsL G ((bkL t).map Bk.opp)).brokeB k) (B + 3 * M) (n + 3) := by
  have hl := bkL_len t
  have hb' : ∀ b ∈ (bkL t).map Bk.opp, b.inn M := fun b hb1 => by
    obtain ⟨x, hx, rfl⟩ := List.mem_map.1 hb1
    exact (hb x hx).opp
  have h1 := h.adds hb' hM ((bkL t).map Bk.opp).length (Nat.le_refl _)
  rw [List.take_length, List.length_map] at h1
  have hmul : ((bkL t).length : Int) * M ≤ 3 * M := Int.mul_le_mul_of_nonneg_right (by omega) hM
  have h2 := h1.up (B' := B + 3 * M) (n' := n + 3) (by omega) (by omega)
  exact ⟨h2.a, h2.t, h2.o, h2.la, h2.lt, h2.lo⟩
theorem CI.breaks {w W : World} {G : Lg} {i : Nat} (h : CI w W G i) (hi : i < 300) (n : Int) (hn : 1 ≤ n) :
    Calls Try.prog 12 #[.pointer (some ⟨G.g, 0, none⟩), .int .i64 n] W fun e w' => ∃ c : Int, e = .returned (.int .i64 c) ∧ (c = 0 ∨ c = 121 ∨ c = 111 ∨ c = 2) ∧ Hid (∃ G', G'.g = G.g ∧ G'.bs.length = G.bs.length ∧ CI w w' G' (i + 1)) := by
  have hmx : 1000000 < maxLen := by decide
  have hbl := h.bl
  have hle := h.le
  by_cases h1 : (G.bs.length : Int) < n
  · exact (Break_none n h.lv.at' (.inr ⟨hn, h1⟩)).mono fun e w' ⟨e1, e2⟩ => ⟨121, e1, .inr (.inl rfl), G, rfl, rfl, e2 ▸ h.same⟩
  · obtain ⟨k, hk⟩ : ∃ k : Nat, n = (k : Int) + 1 := ⟨(n - 1).toNat, by omega⟩
    subst hk
    have hkl : k < G.bs.length := by omega
    cases hb : G.bs[k]'hkl with
    | true => exact (Break_gone k h.lv.at' (by rw [List.getElem?_eq_getElem hkl, hb]) (by omega)).mono fun e w' ⟨e1, e2⟩ => ⟨111, e1, .inr (.inr (.inl rfl)), G, rfl, rfl, e2 ▸ h.same⟩
    | false =>
      by_cases hc : k + 1 ≤ G.bs.length - G.ts.length
      · exact (Break_state k h.lv.at' (by rw [List.getElem?_eq_getElem hkl, hb]) (by omega) hle hc).mono fun e w' ⟨e1, m, e2⟩ => ⟨2, e1, .inr (.inr (.inr rfl)), G, rfl, rfl, e2 ▸ (h.below (below_drewN (Below.refl _ W) m)).same⟩
      · obtain ⟨c, hcc⟩ : ∃ c, c + G.ts.length = G.bs.length := ⟨G.bs.length - G.ts.length, by omega⟩
        obtain ⟨j, hj⟩ : ∃ j, k = c + j := ⟨k - c, by omega⟩
        subst hj
        have hjl : j < G.ts.length := by omega
        have ht := h.ks _ (List.getElem_mem hjl)
        refine (Break_yes j c G.ts[j] h.lv.at' hcc (List.getElem?_eq_getElem hjl) (by rw [List.getElem?_eq_getElem hkl, hb]) (by omega) ht.may h.bd ht.inn (by decide) (by unfold mM; omega) (by unfold mM; omega) (by omega)).mono fun e w' ⟨e1, h5⟩ => ⟨0, e1, .inl rfl, (addsL G ((bkL G.ts[j]).map Bk.opp)).brokeB (c + j), (addsL_same G _).1, ?_, ⟨?_, ?_, ?_, ?_, ?_, ?_⟩⟩
        · show ((addsL G ((bkL G.ts[j]).map Bk.opp)).bs.set (c + j) true).length = _
          rw [List.length_set, (addsL_same G _).2.2.2.2.2.1]
        · exact h.lv.step h5.out.1 h5.out.2 (fun b hb => .inl (((addsL_same G _).2.1 b).1 hb))
        · have := h.bd.broken ht.inn (by decide) (c + j)
          rw [show 3 * mM * (((i + 1 : Nat)) : Int) = 3 * mM * (i : Int) + 3 * mM by unfold mM; omega, show 3 * (i + 1) = 3 * i + 3 by omega]
          exact this
        · show ((addsL G ((bkL G.ts[j]).map Bk.opp)).bs.set (c + j) true).length ≤ _
          rw [List.length_set, (addsL_same G _).2.2.2.2.2.1]; omega
        · show (addsL G ((bkL G.ts[j]).map Bk.opp)).ts.length ≤ ((addsL G ((bkL G.ts[j]).map Bk.opp)).bs.set (c + j) true).length
          rw [List.length_set, (addsL_same G _).2.2.2.2.2.1, (addsL_same G _).2.2.2.2.1]; exact hle
        · intro x hx
          have hx' : x ∈ (addsL G ((bkL G.ts[j]).map Bk.opp)).ts := hx
          rw [(addsL_same G _).2.2.2.2.1] at hx'
          exact h.ks x hx'
        · have hz := h.zs.adds (Zb.trade G.ts[j] ht.bu ht.se).opp
          rw [← addsL_A, ← addsL_T, ← addsL_O] at hz
          exact hz
theorem CI.closes {w W W' : World} {G : Lg} {i nm : Nat} {net : List Bk} {v : Value} (h : CI w W G i) (hc : CL W W' G nm net v) : CI w W' (G.closed nm) (i + 1) := by
  have hb := h.bdUp
  refine ⟨h.lv.step hc.at' hc.fr hc.own, ⟨hb.a, fun ac sy => ?_, hb.o, hb.la, Nat.zero_le _, hb.lo⟩, Nat.le_succ_of_le h.bl, Nat.zero_le _, fun t ht => (by cases ht), h.zs.closed⟩
  exact (show Am.inn _ Am.zero from ⟨by show _ ≤ (0 : Int); unfold mM; omega, by show (0 : Int) ≤ _; unfold mM; omega, by show _ ≤ (0 : Int); unfold mM; omega, by show (0 : Int) ≤ _; unfold mM; omega, by show _ ≤ (0 : Int); unfold mM; omega, by show (0 : Int) ≤ _; unfold mM; omega⟩)
theorem CI.close {w W : World} {G : Lg} {i : Nat} (h : CI w W G i) (hi : i < 300) :
    Calls Try.prog 19 #[.pointer (some ⟨G.g, 0, none⟩)] W fun e w' => ∃ v, e = .returned v ∧ Hid (∃ G', G'.g = G.g ∧ G'.bs.length = G.bs.length ∧ CI w w' G' (i + 1)) :=
  (Close_any G W h.lv.at' (by have := h.bd.lt; omega)).mono fun e w' ⟨v, net, nm, e1, hc⟩ => ⟨v, e1, G.closed nm, rfl, rfl, h.closes hc.out⟩
/-- What the law makes of numbers is a trade that may be. -/
theorem trOk {sy bu se : ByteArray} (zp zq zf zh : Nat) (h1 : isAcc bu) (h2 : isAcc se) (p1 : zp < 1000000000) (q1 : zq < 1000000) (f1 : zf < 2001) (g1 : zh < 2001) : TrOk ⟨sy, bu, se, 1 + (zp : Int), 1 + (zq : Int), (zf : Int) - 1000, (zh : Int) - 1000⟩ := by
  have hm : Tr.may ⟨sy, bu, se, 1 + (zp : Int), 1 + (zq : Int), (zf : Int) - 1000, (zh : Int) - 1000⟩ = true := may_iff.2 ⟨⟨by show 1 ≤ 1 + (zp : Int); omega, by show 1 + (zp : Int) ≤ 1000000000; omega⟩, ⟨by show 1 ≤ 1 + (zq : Int); omega, by show 1 + (zq : Int) ≤ 1000000; omega⟩, ⟨by show _ ≤ (zf : Int) - 1000; omega, by show (zf : Int) - 1000 ≤ _; omega⟩, ⟨by show _ ≤ (zh : Int) - 1000; omega, by show (zh : Int) - 1000 ≤ _; omega⟩⟩
  have hv := val_bd hm
  exact ⟨hm, bkL_inn (V := 1000000000000000) (F := 1000) hv.1 hv.2 (by show 0 ≤ 1 + (zq : Int); omega) (by show 1 + (zq : Int) ≤ _; omega) ⟨by show _ ≤ (zf : Int) - 1000; omega, by show (zf : Int) - 1000 ≤ _; omega⟩ ⟨by show _ ≤ (zh : Int) - 1000; omega, by show (zh : Int) - 1000 ≤ _; omega⟩, h1, h2⟩
end Go.Proofs.Ytidhahooebepfaa
