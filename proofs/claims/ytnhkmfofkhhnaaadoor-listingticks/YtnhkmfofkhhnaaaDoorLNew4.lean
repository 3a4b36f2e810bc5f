/-
  listing: isInstrument, New.
-/
import Derived.Test.YtnhkmfofkhhnaaaDoorLNew3
namespace Go.Proofs.YtnhkmfofkhhnaaaDoor
set_option linter.unusedVariables false
open Go.Shelf Go.RowKit Go.Sort Go.Lib

set_option maxRecDepth 100000 in
set_option maxHeartbeats 1000000 in
theorem isInstrument_any (I : Ins) (aS aT : Option Addr) (cS cT : Nat) (w : World) (hS : SrcT w (.slice aS I.steps.length cS) I.steps) (hT : SrcT w (.slice aT I.turns.length cT) I.turns) :
    Calls Tryd.prog 23 #[.agg (I.cs (.slice aS I.steps.length cS) (.slice aT I.turns.length cT))] w fun e w' => e = .returned (.bool (insB I)) ∧ Below w.heap.size w w' := by
  obtain ⟨sym, lot, most, steps, band, ref, turns, maker, taker⟩ := I
  unfold insB
  simp only [Ins.cs] at *
  have HS : Hid (SrcT w (.slice aS steps.length cS) steps ∧ SrcT w (.slice aT turns.length cT) turns) := ⟨hS, hT⟩
  clear hS hT
  have h1 := fun w => IsSymbol_any sym w
  have h2 := fun w => areLots_any lot most w
  have h3 := fun w' (hb : Below w.heap.size w w') => areSteps_any (.slice aS steps.length cS) steps w' (HS.out.1.below hb)
  have h4 := fun w => within_any band 0 10000 w
  have h5 := fun w' (hb : Below w.heap.size w w') (ho : areB steps = true) => mayBe_any (.slice aS steps.length cS) steps ref w' (HS.out.1.below hb) (areB_ok ho)
  have h6 := fun w' (hb : Below w.heap.size w w') => areTurns_any (.slice aT turns.length cT) turns w' (HS.out.2.below hb)
  have h7 := fun w => areFees_any maker taker w
  have HH : Hid ((∀ w', Below w.heap.size w w' → Calls Tryd.prog 46 #[.slice aS steps.length cS] w' fun e w2 => e = .returned (.bool (areB steps)) ∧ Below w'.heap.size w' w2) ∧ (∀ w', Below w.heap.size w w' → areB steps = true → Calls Tryd.prog 48 #[.slice aS steps.length cS, .int .i64 ref] w' fun e w2 => e = .returned (.bool (mayB (fN steps) (gN steps) steps.length ref)) ∧ Below w'.heap.size w' w2) ∧ (∀ w', Below w.heap.size w w' → Calls Tryd.prog 49 #[.slice aT turns.length cT] w' fun e w2 => e = .returned (.bool (tuB turns)) ∧ Below w'.heap.size w' w2)) := ⟨h3, h5, h6⟩
  clear h3 h5 h6
  generalize syS sym = b1 at *
  generalize lotB lot most = b2 at *
  generalize areB steps = b3 at *
  generalize wiB band 0 10000 = b4 at *
  generalize mayB (fN steps) (gN steps) steps.length ref = b5 at *
  generalize tuB turns = b6 at *
  generalize feeB maker taker = b7 at *
  have HB : Hid (Below w.heap.size w (w.alloc (.cells #[.string sym, .int .i64 lot, .int .i64 most, .slice aS steps.length cS, .int .i64 band, .int .i64 ref, .slice aT turns.length cT, .int .i64 maker, .int .i64 taker] 31))) := (Below.refl _ w).alloc (Nat.le_refl _) _
  have HC : Hid (Blk (w.alloc (.cells #[.string sym, .int .i64 lot, .int .i64 most, .slice aS steps.length cS, .int .i64 band, .int .i64 ref, .slice aT turns.length cT, .int .i64 maker, .int .i64 taker] 31)) w.heap.size 31 #[.string sym, .int .i64 lot, .int .i64 most, .slice aS steps.length cS, .int .i64 band, .int .i64 ref, .slice aT turns.length cT, .int .i64 maker, .int .i64 taker]) := Blk.new _ _ _
  go_enter Tryd.func23, Tryd.ntmps23
  go_wp2_with (go_at_call 44; fail)
  refine (h1 _).mono ?_
  rintro e w1 ⟨rfl, rfl⟩
  cases b1
  · go_wp2
    go_ret
    exact ⟨rfl, HB.out⟩
  go_wp2_with (go_at_call 45; fail)
  refine (h2 _).mono ?_
  rintro e w1 ⟨rfl, rfl⟩
  cases b2
  · go_wp2
    go_ret
    exact ⟨rfl, HB.out⟩
  go_wp2_with (go_at_call 46; fail)
  refine (HH.out.1 _ HB.out).mono ?_
  rintro e w3 ⟨rfl, hb3⟩
  have HB3 : Hid (Below w.heap.size w w3 ∧ Blk w3 w.heap.size 31 #[.string sym, .int .i64 lot, .int .i64 most, .slice aS steps.length cS, .int .i64 band, .int .i64 ref, .slice aT turns.length cT, .int .i64 maker, .int .i64 taker]) := ⟨HB.out.trans (hb3.mono HB.out.size), HC.out.below hb3 HC.out.lt⟩
  clear hb3 HB HC
  have q4 : w3.cell? ⟨w.heap.size, 4, none⟩ = some (.int .i64 band) := HB3.out.2.cell 4
  have q3 : w3.cell? ⟨w.heap.size, 3, none⟩ = some (.slice aS steps.length cS) := HB3.out.2.cell 3
  have q5 : w3.cell? ⟨w.heap.size, 5, none⟩ = some (.int .i64 ref) := HB3.out.2.cell 5
  cases b3
  · go_wp2
    go_ret
    exact ⟨rfl, HB3.out.1⟩
  go_wp2_with (go_at_call 47; fail)
  refine (h4 _).mono ?_
  rintro e w4 ⟨rfl, rfl⟩
  cases b4
  · go_wp2
    go_ret
    exact ⟨rfl, HB3.out.1⟩
  go_wp2_with (go_at_call 48; fail)
  refine (HH.out.2.1 _ HB3.out.1 trivial).mono ?_
  rintro e w5 ⟨rfl, hb5⟩
  have HB5 : Hid (Below w.heap.size w w5 ∧ Blk w5 w.heap.size 31 #[.string sym, .int .i64 lot, .int .i64 most, .slice aS steps.length cS, .int .i64 band, .int .i64 ref, .slice aT turns.length cT, .int .i64 maker, .int .i64 taker]) := ⟨HB3.out.1.trans (hb5.mono HB3.out.1.size), HB3.out.2.below hb5 HB3.out.2.lt⟩
  clear hb5 HB3 q3 q4 q5
  have q6 : w5.cell? ⟨w.heap.size, 6, none⟩ = some (.slice aT turns.length cT) := HB5.out.2.cell 6
  cases b5
  · go_wp2
    go_ret
    exact ⟨rfl, HB5.out.1⟩
  go_wp2_with (go_at_call 49; fail)
  refine (HH.out.2.2 _ HB5.out.1).mono ?_
  rintro e w6 ⟨rfl, hb6⟩
  have HB6 : Hid (Below w.heap.size w w6 ∧ Blk w6 w.heap.size 31 #[.string sym, .int .i64 lot, .int .i64 most, .slice aS steps.length cS, .int .i64 band, .int .i64 ref, .slice aT turns.length cT, .int .i64 maker, .int .i64 taker]) := ⟨HB5.out.1.trans (hb6.mono HB5.out.1.size), HB5.out.2.below hb6 HB5.out.2.lt⟩
  clear hb6 HB5 q6
  have q7 : w6.cell? ⟨w.heap.size, 7, none⟩ = some (.int .i64 maker) := HB6.out.2.cell 7
  have q8 : w6.cell? ⟨w.heap.size, 8, none⟩ = some (.int .i64 taker) := HB6.out.2.cell 8
  cases b6
  · go_wp2
    go_ret
    exact ⟨rfl, HB6.out.1⟩
  go_wp2_with (go_at_call 50; fail)
  refine (h7 _).mono ?_
  rintro e w7 ⟨rfl, rfl⟩
  go_wp2
  go_ret
  exact ⟨rfl, HB6.out.1⟩
/-- A listing: an instrument that may be, with lists of its own, and a calendar. -/
structure LisAt (w : World) (L B : Nat) (I : Ins) (C : Nat) : Prop where
  ok : insB I = true
  low : B ≤ L
  blk : ∃ aS cS aT cT, Blk w L 68 #[.string I.sym, .int .i64 I.lot, .int .i64 I.most, .slice aS I.steps.length cS, .int .i64 I.band, .int .i64 I.ref, .slice aT I.turns.length cT, .int .i64 I.maker, .int .i64 I.taker, .pointer (some ⟨C, 0, none⟩)] ∧ OwnT 55 w B (.slice aS I.steps.length cS) I.steps ∧ OwnT 35 w B (.slice aT I.turns.length cT) I.turns
theorem LisAt.below {w w' : World} {L B C : Nat} {I : Ins} (h : LisAt w L B I C) (hb : Below w.heap.size w w') : LisAt w' L B I C := by
  obtain ⟨ok, low, aS, cS, aT, cT, h1, h2, h3⟩ := h
  exact ⟨ok, low, aS, cS, aT, cT, h1.below hb h1.lt, h2.below hb, h3.below hb⟩
set_option maxRecDepth 100000 in
set_option maxHeartbeats 1000000 in
theorem New_nil (I : Ins) (aS aT : Option Addr) (nS cS nT cT : Nat) (w : World) :
    Calls Tryd.prog 9 #[.agg (I.cs (.slice aS nS cS) (.slice aT nT cT)), .pointer none] w fun e w' => e = .returned (.tuple #[.pointer none, .int .i64 1]) ∧ Below w.heap.size w w' := by
  obtain ⟨sym, lot, most, steps, band, ref, turns, maker, taker⟩ := I
  simp only [Ins.cs] at *
  go_enter Tryd.func9, Tryd.ntmps9
  go_wp2
  go_ret2
  exact ⟨rfl, (Below.refl _ w).alloc (Nat.le_refl _) _⟩
set_option maxRecDepth 100000 in
set_option maxHeartbeats 1000000 in
theorem New_no (I : Ins) (aS aT : Option Addr) (cS cT C : Nat) (w : World) (hS : SrcT w (.slice aS I.steps.length cS) I.steps) (hT : SrcT w (.slice aT I.turns.length cT) I.turns) (hI : insB I = false) :
    Calls Tryd.prog 9 #[.agg (I.cs (.slice aS I.steps.length cS) (.slice aT I.turns.length cT)), .pointer (some ⟨C, 0, none⟩)] w fun e w' => e = .returned (.tuple #[.pointer none, .int .i64 100]) ∧ Below w.heap.size w w' := by
  have HI := isInstrument_any I aS aT cS cT
  rw [hI] at HI
  have HB : Hid (Below w.heap.size w (w.alloc (.cells (I.cs (.slice aS I.steps.length cS) (.slice aT I.turns.length cT)) 31))) := (Below.refl _ w).alloc (Nat.le_refl _) _
  have HC := HI _ (hS.below HB.out) (hT.below HB.out)
  clear HI hS hT hI
  obtain ⟨sym, lot, most, steps, band, ref, turns, maker, taker⟩ := I
  simp only [Ins.cs] at *
  go_enter Tryd.func9, Tryd.ntmps9
  go_wp2_with (go_at_call 23; fail)
  refine HC.mono ?_
  rintro e w2 ⟨rfl, hb2⟩
  have HB2 : Hid (Below w.heap.size w w2) := HB.out.trans (hb2.mono HB.out.size)
  clear hb2
  go_wp2
  go_ret2
  exact ⟨rfl, HB2.out⟩
set_option maxRecDepth 100000 in
set_option maxHeartbeats 1000000 in
theorem New_yes (I : Ins) (aS aT : Option Addr) (cS cT C : Nat) (w : World) (hS : SrcT w (.slice aS I.steps.length cS) I.steps) (hT : SrcT w (.slice aT I.turns.length cT) I.turns) (hI : insB I = true) (hn : I.steps.length ≤ 8) (hm : I.turns.length ≤ 10) :
    Calls Tryd.prog 9 #[.agg (I.cs (.slice aS I.steps.length cS) (.slice aT I.turns.length cT)), .pointer (some ⟨C, 0, none⟩)] w fun e w' => ∃ L, e = .returned (.tuple #[.pointer (some ⟨L, 0, none⟩), .int .i64 0]) ∧ LisAt w' L w.heap.size I C ∧ Below w.heap.size w w' := by
  have HI := isInstrument_any I aS aT cS cT
  rw [hI] at HI
  have HB : Hid (Below w.heap.size w (w.alloc (.cells (I.cs (.slice aS I.steps.length cS) (.slice aT I.turns.length cT)) 31)) ∧ Blk (w.alloc (.cells (I.cs (.slice aS I.steps.length cS) (.slice aT I.turns.length cT)) 31)) w.heap.size 31 (I.cs (.slice aS I.steps.length cS) (.slice aT I.turns.length cT))) := ⟨(Below.refl _ w).alloc (Nat.le_refl _) _, Blk.new _ _ _⟩
  have HC := HI _ (hS.below HB.out.1) (hT.below HB.out.1)
  have HD : Hid (∀ w', Below w.heap.size w w' → Calls Tryd.prog 24 #[.agg (I.cs (.slice aS I.steps.length cS) (.slice aT I.turns.length cT))] w' fun e w2 => ∃ uS uT, e = .returned (.agg (I.cs uS uT)) ∧ OwnT 55 w2 w'.heap.size uS I.steps ∧ OwnT 35 w2 w'.heap.size uT I.turns ∧ Below w'.heap.size w' w2) := fun w' hb => copied_any I _ _ w' (hS.below hb) (hT.below hb) (by omega) (by omega)
  have HI' : Hid (insB I = true) := hI
  clear HI hS hT hI hn hm
  have HF : Hid (∀ w2 aS2 cS2 aT2 cT2 (o : Obj), o = .cells #[.string I.sym, .int .i64 I.lot, .int .i64 I.most, .slice aS2 I.steps.length cS2, .int .i64 I.band, .int .i64 I.ref, .slice aT2 I.turns.length cT2, .int .i64 I.maker, .int .i64 I.taker, .pointer (some ⟨C, 0, none⟩)] 68 → Below w.heap.size w w2 → OwnT 55 w2 w.heap.size (.slice aS2 I.steps.length cS2) I.steps → OwnT 35 w2 w.heap.size (.slice aT2 I.turns.length cT2) I.turns → LisAt (w2.alloc o) w2.heap.size w.heap.size I C ∧ Below w.heap.size w (w2.alloc o)) := fun w2 aS2 cS2 aT2 cT2 o ho hb h1 h2 => by
    subst ho
    exact ⟨⟨HI'.out, hb.size, aS2, cS2, aT2, cT2, Blk.new _ _ _, h1.keep fun g _ hg => heap_alloc_old w2 _ hg, h2.keep fun g _ hg => heap_alloc_old w2 _ hg⟩, hb.alloc hb.size _⟩
  clear HI'
  obtain ⟨sym, lot, most, steps, band, ref, turns, maker, taker⟩ := I
  simp only [Ins.cs] at *
  go_enter Tryd.func9, Tryd.ntmps9
  go_wp2_with (go_at_call 23; fail)
  refine HC.mono ?_
  rintro e w2 ⟨rfl, hb2⟩
  have HB2 : Hid (Below w.heap.size w w2 ∧ Blk w2 w.heap.size 31 #[.string sym, .int .i64 lot, .int .i64 most, .slice aS steps.length cS, .int .i64 band, .int .i64 ref, .slice aT turns.length cT, .int .i64 maker, .int .i64 taker]) := ⟨HB.out.1.trans (hb2.mono HB.out.1.size), HB.out.2.below hb2 HB.out.2.lt⟩
  clear hb2 HB
  have q0 : w2.cell? ⟨w.heap.size, 0, none⟩ = some (.string sym) := HB2.out.2.cell 0
  have q1 : w2.cell? ⟨w.heap.size, 1, none⟩ = some (.int .i64 lot) := HB2.out.2.cell 1
  have q2 : w2.cell? ⟨w.heap.size, 2, none⟩ = some (.int .i64 most) := HB2.out.2.cell 2
  have q3 : w2.cell? ⟨w.heap.size, 3, none⟩ = some (.slice aS steps.length cS) := HB2.out.2.cell 3
  have q4 : w2.cell? ⟨w.heap.size, 4, none⟩ = some (.int .i64 band) := HB2.out.2.cell 4
  have q5 : w2.cell? ⟨w.heap.size, 5, none⟩ = some (.int .i64 ref) := HB2.out.2.cell 5
  have q6 : w2.cell? ⟨w.heap.size, 6, none⟩ = some (.slice aT turns.length cT) := HB2.out.2.cell 6
  have q7 : w2.cell? ⟨w.heap.size, 7, none⟩ = some (.int .i64 maker) := HB2.out.2.cell 7
  have q8 : w2.cell? ⟨w.heap.size, 8, none⟩ = some (.int .i64 taker) := HB2.out.2.cell 8
  go_wp2_with (go_at_call 24; fail)
  refine (HD.out _ HB2.out.1).mono ?_
  rintro e w3 ⟨uS, uT, rfl, ho1, ho2, hb3⟩
  obtain ⟨aS2, cS2, rfl⟩ := ho1.form
  obtain ⟨aT2, cT2, rfl⟩ := ho2.form
  have HG' : Hid _ := HF.out w3 aS2 cS2 aT2 cT2 _ rfl (HB2.out.1.trans (hb3.mono HB2.out.1.size)) (ho1.mono HB2.out.1.size) (ho2.mono HB2.out.1.size)
  clear ho1 ho2 hb3 HF q0 q1 q2 q3 q4 q5 q6 q7 q8 HB2 HD HC
  go_wp2
  go_ret2
  exact ⟨_, rfl, HG'.out.1, HG'.out.2⟩
end Go.Proofs.YtnhkmfofkhhnaaaDoor
