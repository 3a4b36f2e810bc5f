/-
  clock: NewCalendar, of any list; Add of what is no date.
-/
import Derived.Test.YteafaglhlggknabDoorAdds2
namespace Go.Proofs.YteafaglhlggknabDoor
set_option linter.unusedVariables false
open Go.Shelf Go.RowKit Go.Sort Go.Lib Go.Maps

set_option maxRecDepth 100000 in
set_option maxHeartbeats 400000 in
theorem NewCalendar_many (a : Option Addr) (n cap : Nat) (d : Nat → Int) (w : World) (hn : 1000 < n) (hnm : n ≤ maxLen) (hs : SrcI w a n d) (hM : Mon w) (hok : ∀ j, j < n → dnB (d j) = true) :
    Calls Tryd.prog 20 #[.slice a n cap] w fun e w' => e = .returned (.tuple #[.pointer none, .int .i64 122]) ∧ Below w.heap.size w w' := by
  have hmm := @run_makeMap Tryd.prog
  have HS : Hid (SrcI w a n d ∧ Mon w ∧ ∀ j, j < n → dnB (d j) = true) := ⟨hs, hM, hok⟩
  clear hs hM hok
  have hn' : (1000 : Int) < n := by omega
  have hnm' : n ≤ 9223372036854775807 := by unfold maxLen at hnm; omega
  go_enter Tryd.func20, Tryd.ntmps20
  go_wp2
  go_loopw [12] (fun i wr => ∃ (k : Nat) (D : DataW Unit), k ≤ n ∧ i = .int .i64 k ∧ wr.ownsMap Tryd.prog 3 unitElem w.heap.size k D ∧ (∀ x : Int, Maps.has D (.int .i64 x) = daySet d k x) ∧ Below w.heap.size w wr) (fun i _ => n - (intOf i).toNat)
  case atStart => exact ⟨0, .map [], by omega, rfl, World.ownsMap_made _ _ _ _, fun x => rfl, (Below.refl _ _).alloc (Nat.le_refl _) _⟩
  case round =>
    obtain ⟨k, D, hk, rfl, hown, hD, hbl⟩ := hrel
    have HO : Hid (wr.ownsMap Tryd.prog 3 unitElem w.heap.size k D ∧ (∀ x : Int, Maps.has D (.int .i64 x) = daySet d k x) ∧ Below w.heap.size w wr) := ⟨hown, hD, hbl⟩
    clear hown hD hbl
    by_cases hlt : k < n
    · have hlt' : (k : Int) < (n : Int) := by omega
      rcases HS.out.1.below HO.out.2.2 with h | ⟨b, off, rfl, hr⟩
      · omega
      · obtain ⟨hc, hd0, hd1⟩ := hr k hlt
        clear hr
        have hdd := dayOfDate_any (d k) wr (HS.out.2.1.below HO.out.2.2 HS.out.2.1.lt) hd0 hd1
        have hb := HS.out.2.2 k hlt
        obtain ⟨v, _, hv, hvl⟩ := dn_range hb
        rw [hb, hv] at hdd
        have hkey : keyOf Tryd.prog 3 (.int .i64 (v : Int)) = some (.int .i64 (v : Int)) := keyOf_int_mk Tryd.underlying3 (wf_day hvl)
        have HV : Hid (dnV (d k) = (v : Int)) := hv
        clear hv hb
        go_wp2_with (go_at_call 28; fail)
        refine hdd.mono ?_
        rintro e wr ⟨rfl, rfl⟩
        go_wp2_with (at_mapUpdate; refine wpList_mapUpdate_own _ rfl _ _ _ 59 rfl 3 60 law3 Tryd.underlying59 unitElem w.heap.size k D rfl HO.out.1 (by unfold maxLen; omega) _ _ (.int .i64 (v : Int)) rfl rfl hkey (.agg []) [] unitElem_mk ?_; intro w3 hown3 hg3)
        have HR : Hid (w3.ownsMap Tryd.prog 3 unitElem w.heap.size (k + 1) (D.put (.int .i64 (v : Int)) (.agg [])) ∧ (∀ x : Int, Maps.has (D.put (.int .i64 (v : Int)) (.agg [])) (.int .i64 x) = daySet d (k + 1) x) ∧ Below w.heap.size w w3) := ⟨hown3, fun x => by rw [has_put_day HO.out.1.isMap, HO.out.2.1 x, daySet_succ, HV.out], ⟨hg3.os.trans HO.out.2.2.os, hg3.tape.trans HO.out.2.2.tape, hg3.output.trans HO.out.2.2.output, Nat.le_trans HO.out.2.2.size hg3.size, fun q hq => (hg3.block q (by have := HO.out.2.2.size; omega) (fun e => by cases e; omega)).trans (HO.out.2.2.block q hq)⟩⟩
        clear hown3 hg3
        exact ⟨⟨k + 1, D.put (.int .i64 (v : Int)) (.agg []), by omega, by go_num, HR.out⟩, by simp [intOf]; omega⟩
    · obtain rfl : k = n := by omega
      go_wp2
      go_ret2
      exact ⟨rfl, HO.out.2.2⟩
set_option maxRecDepth 100000 in
set_option maxHeartbeats 400000 in
theorem NewCalendar_bad (a : Option Addr) (n cap : Nat) (d : Nat → Int) (w : World) (hnm : n ≤ maxLen) (j0 : Nat) (hj0 : j0 < n) (hbad : dnB (d j0) = false) (hs : SrcI w a n d) (hM : Mon w) (hok : ∀ j, j < j0 → dnB (d j) = true) :
    Calls Tryd.prog 20 #[.slice a n cap] w fun e w' => e = .returned (.tuple #[.pointer none, .int .i64 21]) ∧ Below w.heap.size w w' := by
  have hmm := @run_makeMap Tryd.prog
  have HS : Hid (SrcI w a n d ∧ Mon w ∧ ∀ j, j < j0 → dnB (d j) = true) := ⟨hs, hM, hok⟩
  clear hs hM hok
  have hnm' : n ≤ 9223372036854775807 := by unfold maxLen at hnm; omega
  go_enter Tryd.func20, Tryd.ntmps20
  go_wp2
  go_loopw [12] (fun i wr => ∃ (k : Nat) (D : DataW Unit), k ≤ j0 ∧ i = .int .i64 k ∧ wr.ownsMap Tryd.prog 3 unitElem w.heap.size k D ∧ (∀ x : Int, Maps.has D (.int .i64 x) = daySet d k x) ∧ Below w.heap.size w wr) (fun i _ => j0 - (intOf i).toNat)
  case atStart => exact ⟨0, .map [], by omega, rfl, World.ownsMap_made _ _ _ _, fun x => rfl, (Below.refl _ _).alloc (Nat.le_refl _) _⟩
  case round =>
    obtain ⟨k, D, hk, rfl, hown, hD, hbl⟩ := hrel
    have HO : Hid (wr.ownsMap Tryd.prog 3 unitElem w.heap.size k D ∧ (∀ x : Int, Maps.has D (.int .i64 x) = daySet d k x) ∧ Below w.heap.size w wr) := ⟨hown, hD, hbl⟩
    clear hown hD hbl
    by_cases hlt : k < j0
    · have hlt' : (k : Int) < (n : Int) := by omega
      have hlt2 : k < n := by omega
      rcases HS.out.1.below HO.out.2.2 with h | ⟨b, off, rfl, hr⟩
      · omega
      · obtain ⟨hc, hd0, hd1⟩ := hr k hlt2
        clear hr
        have hdd := dayOfDate_any (d k) wr (HS.out.2.1.below HO.out.2.2 HS.out.2.1.lt) hd0 hd1
        have hb := HS.out.2.2 k hlt
        obtain ⟨v, _, hv, hvl⟩ := dn_range hb
        rw [hb, hv] at hdd
        have hkey : keyOf Tryd.prog 3 (.int .i64 (v : Int)) = some (.int .i64 (v : Int)) := keyOf_int_mk Tryd.underlying3 (wf_day hvl)
        have HV : Hid (dnV (d k) = (v : Int)) := hv
        clear hv hb
        go_wp2_with (go_at_call 28; fail)
        refine hdd.mono ?_
        rintro e wr ⟨rfl, rfl⟩
        go_wp2_with (at_mapUpdate; refine wpList_mapUpdate_own _ rfl _ _ _ 59 rfl 3 60 law3 Tryd.underlying59 unitElem w.heap.size k D rfl HO.out.1 (by unfold maxLen; omega) _ _ (.int .i64 (v : Int)) rfl rfl hkey (.agg []) [] unitElem_mk ?_; intro w3 hown3 hg3)
        have HR : Hid (w3.ownsMap Tryd.prog 3 unitElem w.heap.size (k + 1) (D.put (.int .i64 (v : Int)) (.agg [])) ∧ (∀ x : Int, Maps.has (D.put (.int .i64 (v : Int)) (.agg [])) (.int .i64 x) = daySet d (k + 1) x) ∧ Below w.heap.size w w3) := ⟨hown3, fun x => by rw [has_put_day HO.out.1.isMap, HO.out.2.1 x, daySet_succ, HV.out], ⟨hg3.os.trans HO.out.2.2.os, hg3.tape.trans HO.out.2.2.tape, hg3.output.trans HO.out.2.2.output, Nat.le_trans HO.out.2.2.size hg3.size, fun q hq => (hg3.block q (by have := HO.out.2.2.size; omega) (fun e => by cases e; omega)).trans (HO.out.2.2.block q hq)⟩⟩
        clear hown3 hg3
        exact ⟨⟨k + 1, D.put (.int .i64 (v : Int)) (.agg []), by omega, by go_num, HR.out⟩, by simp [intOf]; omega⟩
    · obtain rfl : k = j0 := by omega
      have hlt' : (k : Int) < (n : Int) := by omega
      rcases HS.out.1.below HO.out.2.2 with h | ⟨b, off, rfl, hr⟩
      · omega
      · obtain ⟨hc, hd0, hd1⟩ := hr k hj0
        clear hr
        have hdd := dayOfDate_any (d k) wr (HS.out.2.1.below HO.out.2.2 HS.out.2.1.lt) hd0 hd1
        rw [hbad, dn_zero hbad] at hdd
        go_wp2_with (go_at_call 28; fail)
        refine hdd.mono ?_
        rintro e wr ⟨rfl, rfl⟩
        go_wp2
        go_ret2
        exact ⟨rfl, HO.out.2.2⟩
set_option maxRecDepth 100000 in
set_option maxHeartbeats 400000 in
theorem Add_none (C : Nat) (z x : Int) (w : World) (hM : Mon w) (h0 : -9223372036854775808 ≤ z) (h1 : z ≤ 9223372036854775807) (hd : dnum z = none) :
    Calls Tryd.prog 14 #[.pointer (some ⟨C, 0, none⟩), .int .i64 z, .int .i64 x] w fun e w' => e = .returned (.tuple #[.int .i64 0, .int .i64 21]) ∧ w' = w := by
  have hc := dayOfDate_any z w hM h0 h1
  have e1 : dnV z = 0 := by unfold dnV; rw [hd]
  have e2 : dnB z = false := by unfold dnB; rw [hd]; rfl
  rw [e1, e2] at hc
  clear e1 e2 hd
  go_enter Tryd.func14, Tryd.ntmps14
  go_wp2_with (go_at_call 28; fail)
  refine hc.mono ?_
  rintro e w ⟨rfl, rfl⟩
  go_wp2
  go_ret2
  exact ⟨rfl, rfl⟩
end Go.Proofs.YteafaglhlggknabDoor
