/-
  clock: calendars: NewCalendar, openOn, Open.
-/
import Derived.Test.YtnhkmfofkhhnaaaDoorDates
import Derived.Maps.OwnSet
import Derived.OwnWalk
namespace Go.Proofs.YtnhkmfofkhhnaaaDoor
set_option linter.unusedVariables false
open Go.Shelf Go.RowKit Go.Sort Go.Lib Go.Maps

theorem law3 : Keyed Tryd.prog 3 := int_keyed Tryd.underlying3
theorem zeroU (w : World) : (zeroValue 62).run Tryd.prog w = .ok (.agg #[]) w := by kernel_rfl
/-- Numbers that came in. -/
def SrcI (w : World) (a : Option Addr) (n : Nat) (d : Nat → Int) : Prop := n = 0 ∨ ∃ b off, a = some ⟨b, off, none⟩ ∧ ∀ j, j < n → w.cell? ⟨b, off + j, none⟩ = some (.int .i64 (d j)) ∧ -9223372036854775808 ≤ d j ∧ d j ≤ 9223372036854775807
theorem SrcI.below {w w' : World} {a : Option Addr} {n : Nat} {d : Nat → Int} (h : SrcI w a n d) (hb : Below w.heap.size w w') : SrcI w' a n d := by
  rcases h with h | ⟨b, off, e, h⟩
  · exact .inl h
  · refine .inr ⟨b, off, e, fun j hj => ?_⟩
    obtain ⟨h1, h2⟩ := h j hj
    exact ⟨by rw [hb.cell (p := ⟨b, off + j, none⟩) (World.block_lt_of_cell? _ _ h1)]; exact h1, h2⟩
/-- A calendar: which days are off. -/
def CalAt (w : World) (C : Nat) (S : Int → Bool) : Prop := ∃ b n D, w.cell? ⟨C, 0, none⟩ = some (.map (some b)) ∧ w.ownsMap (H := Unit) Tryd.prog 3 unitElem b n D ∧ ∀ k : Int, Maps.has D (.int .i64 k) = S k
theorem CalAt.below {w w' : World} {C : Nat} {S : Int → Bool} (h : CalAt w C S) (hb : Below w.heap.size w w') : CalAt w' C S := by
  obtain ⟨b, n, D, h1, h2, h3⟩ := h
  refine ⟨b, n, D, by rw [hb.cell (p := ⟨C, 0, none⟩) (World.block_lt_of_cell? _ _ h1)]; exact h1, ?_, h3⟩
  obtain ⟨es, clock, h4, h5⟩ := h2
  refine ⟨es, clock, ?_, h5⟩
  rw [hb.block b (by
    rcases Nat.lt_or_ge b w.heap.size with h' | h'
    · exact h'
    · rw [Array.getElem?_eq_none h'] at h4; cases h4)]
  exact h4
def isOpen (S : Int → Bool) (n : Nat) : Bool := !((n + 4) % 7 == 0) && !((n + 4) % 7 == 6) && !S n
theorem wf_day {n : Nat} (h : n ≤ 2932896) : (Lit.int .i64 (n : Int)).wf = true := by
  simp [Lit.wf, IntKind.min, IntKind.max, IntKind.signed, IntKind.bits]; omega
set_option maxRecDepth 100000 in
set_option maxHeartbeats 400000 in
theorem openOn_any (C : Nat) (S : Int → Bool) (z : Int) (n : Nat) (hz : z = n) (w : World) (hC : CalAt w C S) (hn : n ≤ 2932896) :
    Calls Tryd.prog 29 #[.pointer (some ⟨C, 0, none⟩), .int .i64 z] w fun e w' => e = .returned (.bool (isOpen S n)) ∧ Below w.heap.size w w' := by
  subst hz
  obtain ⟨b, m, D, hc, hown, hS⟩ := hC
  have hwk := weekdayOfDay_any n n rfl w hn
  have hkey : keyOf Tryd.prog 3 (.int .i64 (n : Int)) = some (.int .i64 (n : Int)) := keyOf_int_mk Tryd.underlying3 (wf_day hn)
  have HS : Hid (Maps.has D (.int .i64 (n : Int)) = S n) := hS n
  have HO : Hid (w.ownsMap (H := Unit) Tryd.prog 3 unitElem b m D) := hown
  clear hS hown
  unfold isOpen
  have hk7 : (n + 4) % 7 < 7 := Nat.mod_lt _ (by decide)
  generalize (n + 4) % 7 = k at *
  generalize hse : S n = sv at *
  clear hse
  go_enter Tryd.func29, Tryd.ntmps29
  go_wp2_with (go_at_call 56; fail)
  refine hwk.mono ?_
  rintro e w ⟨rfl, rfl⟩
  go_wp2_with (at_lookup; refine wpList_lookup_own_unit _ rfl _ _ 59 rfl 3 62 law3 Tryd.underlying59 (zeroU _) b m D rfl HO.out _ _ rfl hkey ?_)
  all_goals go_ret
  all_goals refine ⟨ret_bool ?_, (Below.refl _ _).alloc (Nat.le_refl _) _⟩
  · subst_vars; rfl
  · rw [show k = 6 by omega]; rfl
  · rw [HS.out]
    have e0 : (k == 0) = false := by simp; omega
    have e6 : (k == 6) = false := by simp; omega
    rw [e0, e6]
    have f0 : ((k : Int) != 0) = true := by simp; omega
    have f6 : ((k : Int) != 6) = true := by simp; omega
    rw [f0, f6]
    rfl
set_option maxRecDepth 100000 in
set_option maxHeartbeats 400000 in
theorem Open_any (C : Nat) (S : Int → Bool) (z : Int) (w : World) (hM : Mon w) (hC : CalAt w C S) (h0 : -9223372036854775808 ≤ z) (h1 : z ≤ 9223372036854775807) :
    Calls Tryd.prog 12 #[.pointer (some ⟨C, 0, none⟩), .int .i64 z] w fun e w' => e = .returned (.bool (dnB z && isOpen S (dnV z).toNat)) ∧ Below w.heap.size w w' := by
  have hc := dayOfDate_any z w hM h0 h1
  cases hd : dnB z
  · rw [hd, dn_zero hd] at hc
    clear hd
    go_enter Tryd.func12, Tryd.ntmps12
    go_wp2_with (go_at_call 22; fail)
    refine hc.mono ?_
    rintro e w ⟨rfl, rfl⟩
    go_wp2
    go_ret
    exact ⟨rfl, Below.refl _ _⟩
  · obtain ⟨n, _, hn, hl⟩ := dn_range hd
    rw [hd, hn] at hc
    rw [hn, Int.toNat_natCast]
    have HC : Hid (CalAt w C S) := hC
    clear hd hn hC
    generalize hop : isOpen S n = o at *
    have hoc := openOn_any C S n n rfl w HC.out hl
    rw [hop] at hoc
    clear hop
    go_enter Tryd.func12, Tryd.ntmps12
    go_wp2_with (go_at_call 22; fail)
    refine hc.mono ?_
    rintro e w ⟨rfl, rfl⟩
    go_wp2_with (go_at_call 29; fail)
    refine hoc.mono ?_
    rintro e w1 ⟨rfl, hb1⟩
    have HB : Hid (Below w.heap.size w w1) := hb1
    clear hb1
    go_wp2
    go_ret
    exact ⟨rfl, HB.out⟩
/-- The days that a list of dates takes off. -/
def daySet (d : Nat → Int) (n : Nat) (x : Int) : Bool := (List.range n).any fun j => dnV (d j) == x
theorem daySet_succ (d : Nat → Int) (n : Nat) (x : Int) : daySet d (n + 1) x = (daySet d n x || dnV (d n) == x) := by simp [daySet, List.range_succ]
theorem has_put_day {D : DataW Unit} (hD : IsMap D) (v x : Int) (dd : DataW Unit) : Maps.has (D.put (.int .i64 v) dd) (.int .i64 x) = (Maps.has D (.int .i64 x) || v == x) := by
  by_cases e : v = x
  · subst e
    rw [has_put_same hD (show WideAt.IsKeyLit (.int .i64 v) from trivial)]
    simp
  · rw [has_put_other (by intro h; cases h; exact e rfl)]
    have : (v == x) = false := by simp [e]
    rw [this, Bool.or_false]
set_option maxRecDepth 100000 in
set_option maxHeartbeats 400000 in
theorem NewCalendar_yes (a : Option Addr) (n cap : Nat) (d : Nat → Int) (w : World) (hn : n ≤ 1000) (hs : SrcI w a n d) (hM : Mon w) (hok : ∀ j, j < n → dnB (d j) = true) :
    Calls Tryd.prog 6 #[.slice a n cap] w fun e w' => ∃ C, e = .returned (.tuple #[.pointer (some ⟨C, 0, none⟩), .int .i64 0]) ∧ CalAt w' C (daySet d n) ∧ Below w.heap.size w w' := by
  have hmm := @run_makeMap Tryd.prog
  have HS : Hid (SrcI w a n d ∧ Mon w ∧ ∀ j, j < n → dnB (d j) = true) := ⟨hs, hM, hok⟩
  clear hs hM hok
  have hn' : (n : Int) ≤ 1000 := by omega
  go_enter Tryd.func6, Tryd.ntmps6
  go_wp2
  go_loopw [12] (fun i wr => ∃ (k : Nat) (D : DataW Unit), k ≤ n ∧ i = .int .i64 k ∧ wr.ownsMap Tryd.prog 3 unitElem w.heap.size k D ∧ (∀ x : Int, Maps.has D (.int .i64 x) = daySet d k x) ∧ Below w.heap.size w wr) (fun i _ => n - (intOf i).toNat)
  case atStart => exact ⟨0, .map [], by omega, rfl, World.ownsMap_made _ _ _ _, fun x => rfl, (Below.refl _ _).alloc (Nat.le_refl _) _⟩
  case round =>
    obtain ⟨k, D, hk, rfl, hown, hD, hbl⟩ := hrel
    have HO : Hid (wr.ownsMap Tryd.prog 3 unitElem w.heap.size k D ∧ (∀ x : Int, Maps.has D (.int .i64 x) = daySet d k x) ∧ Below w.heap.size w wr) := ⟨hown, hD, hbl⟩
    clear hown hD hbl
    by_cases hlt : k < n
    · have hlt' : (k : Int) < (n : Int) := by omega
      rcases HS.out.1.below HO.out.2.2 with h | ⟨b, off, rfl, hr⟩
      · omega
      · obtain ⟨hc, hd0, hd1⟩ := hr k hlt
        clear hr
        have hdd := dayOfDate_any (d k) wr (HS.out.2.1.below HO.out.2.2 HS.out.2.1.lt) hd0 hd1
        have hb := HS.out.2.2 k hlt
        obtain ⟨v, _, hv, hvl⟩ := dn_range hb
        rw [hb, hv] at hdd
        have hkey : keyOf Tryd.prog 3 (.int .i64 (v : Int)) = some (.int .i64 (v : Int)) := keyOf_int_mk Tryd.underlying3 (wf_day hvl)
        have HV : Hid (dnV (d k) = (v : Int)) := hv
        clear hv hb
        go_wp2_with (go_at_call 22; fail)
        refine hdd.mono ?_
        rintro e wr ⟨rfl, rfl⟩
        go_wp2_with (at_mapUpdate; refine wpList_mapUpdate_own _ rfl _ _ _ 59 rfl 3 62 law3 Tryd.underlying59 unitElem w.heap.size k D rfl HO.out.1 (by unfold maxLen; omega) _ _ (.int .i64 (v : Int)) rfl rfl hkey (.agg []) [] unitElem_mk ?_; intro w3 hown3 hg3)
        have HR : Hid (w3.ownsMap Tryd.prog 3 unitElem w.heap.size (k + 1) (D.put (.int .i64 (v : Int)) (.agg [])) ∧ (∀ x : Int, Maps.has (D.put (.int .i64 (v : Int)) (.agg [])) (.int .i64 x) = daySet d (k + 1) x) ∧ Below w.heap.size w w3) := ⟨hown3, fun x => by rw [has_put_day HO.out.1.isMap, HO.out.2.1 x, daySet_succ, HV.out], ⟨hg3.os.trans HO.out.2.2.os, hg3.tape.trans HO.out.2.2.tape, hg3.output.trans HO.out.2.2.output, Nat.le_trans HO.out.2.2.size hg3.size, fun q hq => (hg3.block q (by have := HO.out.2.2.size; omega) (fun e => by cases e; omega)).trans (HO.out.2.2.block q hq)⟩⟩
        clear hown3 hg3
        exact ⟨⟨k + 1, D.put (.int .i64 (v : Int)) (.agg []), by omega, by go_num, HR.out⟩, by simp [intOf]; omega⟩
    · obtain rfl : k = n := by omega
      go_wp2
      go_ret2
      exact ⟨_, rfl, ⟨w.heap.size, k, D, cell_new_sl wr _ 64, HO.out.1.alloc _, HO.out.2.1⟩, HO.out.2.2.alloc HO.out.2.2.size _⟩
end Go.Proofs.YtnhkmfofkhhnaaaDoor
