/-
  risk: Kill, Trade, Look, whatever comes of them.
-/
import Derived.Test.YtgioknkfppaaaaaGFace
namespace Go.Proofs.Ytgioknkfppaaaaa
set_option linter.unusedVariables false
set_option linter.unusedSimpArgs false
open Go.RowKit Go.Great Go.Maps

def klE (G : Gd) (ac : ByteArray) : Int := match G.acc ac with | none => 161 | some _ => 0
def klG (G : Gd) (ac : ByteArray) (on : Bool) : Gd := match G.acc ac with | none => G | some a => { G with A := setA G.A { a with st := on } }
set_option maxRecDepth 100000 in
set_option maxHeartbeats 1000000 in
theorem Kill_any (G : Gd) (ac : ByteArray) (on : Bool) (w : World) (h : GdAt w G) (hac : ac.size ≤ maxLen) :
    Calls Try.prog 28 #[.pointer (some ⟨G.g, 0, none⟩), .string ac, .bool on] w fun e w' => e = .returned (.int .i64 (klE G ac)) ∧ GdAt w' (klG G ac on) ∧ Fr w w' G.own ∧ ∀ b, (klG G ac on).own b ↔ G.own b := by
  have c0 := h.blk.cell 0
  simp only [List.getElem?_toArray, List.getElem?_cons_succ, List.getElem?_cons_zero] at c0
  unfold klE klG
  cases hn : G.acc ac with
  | none =>
    have hlk := look_none h hac hn
    have HH : Hid (GdAt w G) := h
    clear h hn
    go_enter Try.func28, Try.ntmps28
    go_wp2
    go_ret
    exact ⟨rfl, HH.out, Fr.refl _ _, fun _ => by first | exact Iff.rfl | trivial⟩
  | some a =>
    have hlk := look_some h hac hn
    have ha := (Gd.acc_mem hn).1
    have hA := h.acc a ha
    have f6 := hA.blk.frozen 6
    have c6 := hA.blk.cell 6
    simp only [Ac.cs, List.getElem?_toArray, List.getElem?_cons_succ, List.getElem?_cons_zero] at c6
    have hA' : AcAt (w.setCell ⟨a.blk, 6, none⟩ (.bool on)) { a with st := on } := ⟨hA.blk.set 6 (.bool on), hA.mp.other (hA.mp.ne_blk hA.blk) 6 _, ⟨hA.ok.nm, hA.ok.od, hA.ok.op, hA.ok.po, hA.ok.bu, hA.ok.pe, hA.ok.due, hA.ok.pos⟩⟩
    have HU : Hid (GdAt (w.setCell ⟨a.blk, 6, none⟩ (.bool on)) { G with A := setA G.A { a with st := on } } ∧ Fr w (w.setCell ⟨a.blk, 6, none⟩ (.bool on)) G.own ∧ ∀ b, Gd.own { G with A := setA G.A { a with st := on } } b ↔ G.own b) := h.upd (a' := { a with st := on }) ha rfl rfl rfl (Fr.setCell w ⟨a.blk, 6, none⟩ _ (fun b => b = a.blk ∨ b = a.mp) (.inl rfl)) hA'
    clear h hn hA hA' ha
    go_enter Try.func28, Try.ntmps28
    go_wp2
    go_ret
    exact ⟨rfl, HU.out⟩
theorem Trade_any (G : Gd) (ac sy : ByteArray) (q : Int) (w : World) (h : GdAt w G) (hac : ac.size ≤ maxLen) (hsy : sy.size ≤ maxLen) (hl : ∀ a ∈ G.A, a.pos.length < maxLen) :
    Calls Try.prog 13 #[.pointer (some ⟨G.g, 0, none⟩), .string ac, .string sy, .int .i64 q] w fun e w' => e = .returned (.int .i64 (trE G ac q)) ∧ GdAt w' (trG G ac sy q) ∧ Fr w w' G.own ∧ ∀ b, (trG G ac sy q).own b ↔ G.own b := by
  cases hn : G.acc ac with
  | none =>
    have e2 : trG G ac sy q = G := by unfold trG; rw [hn]
    rw [e2]
    exact (Trade_no G ac sy q w h hac (.inl hn)).mono fun e w' ⟨h1, h2⟩ => ⟨h1, h2 ▸ h, h2 ▸ Fr.refl _ _, fun _ => Iff.rfl⟩
  | some a =>
    by_cases hq : q = 0 ∨ wiB q (-1000000) 1000000 = false
    · have e2 : trG G ac sy q = G := by unfold trG; rw [hn]; exact if_pos hq
      rw [e2]
      exact (Trade_no G ac sy q w h hac (.inr hq)).mono fun e w' ⟨h1, h2⟩ => ⟨h1, h2 ▸ h, h2 ▸ Fr.refl _ _, fun _ => Iff.rfl⟩
    · have e1 : trE G ac q = 0 := by unfold trE; rw [hn]; exact if_neg hq
      have e2 : trG G ac sy q = { G with A := setA G.A { a with pos := mvL a sy q } } := by unfold trG; rw [hn]; exact if_neg hq
      rw [e1, e2]
      refine Trade_yes G ac sy q w h hac hsy hn (hl a (Gd.acc_mem hn).1) (fun e => hq (.inl e)) ?_
      cases hw : wiB q (-1000000) 1000000
      · exact absurd (.inr hw) hq
      · rfl
set_option maxRecDepth 100000 in
set_option maxHeartbeats 1000000 in
theorem Look_none (G : Gd) (ac sy : ByteArray) (w : World) (h : GdAt w G) (hac : ac.size ≤ maxLen) (hn : G.acc ac = none) :
    Calls Try.prog 15 #[.pointer (some ⟨G.g, 0, none⟩), .string ac, .string sy] w fun e w' => e = .returned (.tuple #[.int .i64 0, .int .i64 0, .int .i64 161]) ∧ w' = w := by
  have hlk := look_none h hac hn
  have c0 := h.blk.cell 0
  simp only [List.getElem?_toArray, List.getElem?_cons_succ, List.getElem?_cons_zero] at c0
  clear h hn
  go_enter Try.func15, Try.ntmps15
  go_wp2
  go_ret3
  exact ⟨rfl, rfl⟩
def lkT (G : Gd) (ac sy : ByteArray) : Int × Int × Int := match G.acc ac with | none => (0, 0, 161) | some a => (ovI G.O ac 0, posI a sy, 0)
theorem Look_any (G : Gd) (ac sy : ByteArray) (w : World) (h : GdAt w G) (hac : ac.size ≤ maxLen) (hsy : sy.size ≤ maxLen) :
    Calls Try.prog 15 #[.pointer (some ⟨G.g, 0, none⟩), .string ac, .string sy] w fun e w' => e = .returned (.tuple #[.int .i64 (lkT G ac sy).1, .int .i64 (lkT G ac sy).2.1, .int .i64 (lkT G ac sy).2.2]) ∧ Below w.heap.size w w' := by
  cases hn : G.acc ac with
  | none =>
    have e : lkT G ac sy = (0, 0, 161) := by unfold lkT; rw [hn]
    rw [e]
    exact (Look_none G ac sy w h hac hn).mono fun e w' ⟨h1, h2⟩ => ⟨h1, h2 ▸ Below.refl _ _⟩
  | some a =>
    have e : lkT G ac sy = (ovI G.O ac 0, posI a sy, 0) := by unfold lkT; rw [hn]
    rw [e]
    exact Look_yes G ac sy w h hac hsy hn
end Go.Proofs.Ytgioknkfppaaaaa
