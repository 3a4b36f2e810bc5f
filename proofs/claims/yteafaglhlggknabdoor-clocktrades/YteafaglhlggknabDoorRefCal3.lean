/-
  The reference's calendar: NewCalendar; both, of any list.
-/
import Derived.Test.YteafaglhlggknabDoorRefCal2
import Derived.Test.YteafaglhlggknabDoorMade0
import Derived.Laws.AppendOwnNone
namespace Go.Proofs.YteafaglhlggknabDoor
set_option linter.unusedVariables false
open Go.Shelf Go.RowKit Go.Sort Go.Lib Go.Maps

theorem row_src {w : World} {B n : Nat} {v : Value} {d : Nat → Int} (h : w.ownsRow B 3 1 v n (ivs n d)) (hd : ∀ j, j < n → -9223372036854775808 ≤ d j ∧ d j ≤ 9223372036854775807) : ∃ a c, v = .slice a n c ∧ n ≤ c ∧ SrcI w a n d := by
  rcases h.2 with ⟨rfl, h0⟩ | ⟨g, cap, cur, rfl, r1, r2, r3, r4, r5, r6⟩
  · subst h0
    exact ⟨none, 0, rfl, Nat.le_refl _, .inl rfl⟩
  · refine ⟨_, cap, rfl, r3, .inr ⟨g, 0, rfl, fun j hj => ⟨?_, hd j hj⟩⟩⟩
    have e := ivs_at d hj
    rw [← r6, List.getElem?_take, if_pos (by omega)] at e
    rw [Nat.zero_add, cell_of_row w g _ cur _ _ r2]
    simpa using e
theorem SrcI.bounds {w : World} {a : Option Addr} {n : Nat} {d : Nat → Int} (h : SrcI w a n d) : ∀ j, j < n → -9223372036854775808 ≤ d j ∧ d j ≤ 9223372036854775807 := fun j hj => by
  rcases h with h | ⟨b, off, _, hr⟩
  · omega
  · exact (hr j hj).2
set_option maxRecDepth 100000 in
set_option maxHeartbeats 800000 in
theorem refNew_yes (a : Option Addr) (n cap : Nat) (d : Nat → Int) (w : World) (hn : n ≤ 1000) (hs : SrcI w a n d) (hok : ∀ j, j < n → dnB (d j) = true) (hz : a = none → cap = 0) :
    Calls Tryd.prog 27 #[.slice a n cap] w fun e w' => ∃ R, e = .returned (.tuple #[.pointer (some ⟨R, 0, none⟩), .int .i64 0]) ∧ RCal w' R n d ∧ Below w.heap.size w w' := by
  obtain ⟨i0, hi, hy0, hy1, hy2⟩ := info_parts info3
  have HS : Hid (SrcI w a n d ∧ ∀ j, j < n → dnB (d j) = true) := ⟨hs, hok⟩
  have HZ : Hid (a = none → cap = 0) := hz
  clear hs hok hz
  have hn' : ¬ (1000 : Int) < (n : Int) := by omega
  go_enter Tryd.func27, Tryd.ntmps27
  go_wp2
  go_loopw [4] (fun i wr => ∃ q : Nat, q ≤ n ∧ i = .int .i64 (q : Int) ∧ Below w.heap.size w wr) (fun i _ => n - (intOf i).toNat)
  case atStart => exact ⟨0, Nat.zero_le _, rfl, Below.refl _ _⟩
  case round =>
    obtain ⟨q, hq, rfl, hb⟩ := hrel
    have HB : Hid (Below w.heap.size w wr) := hb
    clear hb
    by_cases hlt : q < n
    · have hlt' : (q : Int) < (n : Int) := by omega
      rcases HS.out.1.below HB.out with h | ⟨b, off, rfl, hr⟩
      · omega
      obtain ⟨hc, hd0, hd1⟩ := hr q hlt
      clear hr
      have hdd := refNumber_any (d q) wr hd0 hd1
      rw [HS.out.2 q hlt] at hdd
      generalize dnV (d q) = V at *
      go_wp2_with (go_at_call 30; fail)
      refine hdd.mono ?_
      rintro e w5 ⟨rfl, hb5⟩
      have HB5 : Hid (Below w.heap.size w w5) := HB.out.trans (hb5.mono HB.out.size)
      clear hb5 hdd
      go_wp2
      go_roundw
      case rel => exact ⟨q + 1, by omega, by go_num, HB5.out⟩
      case measure => simp [intOf]; omega
    · have hqn : n = q := by omega
      subst hqn
      have HBK : Hid (Below w.heap.size w (wr.alloc (.cells #[] 3))) := HB.out.alloc HB.out.size _
      have HOK : Hid ((wr.alloc (.cells #[] 3)).ownsRow w.heap.size 3 1 (.slice (some ⟨wr.heap.size, 0, none⟩) 0 0) 0 []) := World.ownsRow_lit wr #[] 0 HB.out.size (Nat.zero_le _) rfl
      cases a with
      | none =>
        have hc0 := HZ.out rfl
        subst hc0
        have hl0 : n = 0 := by
          rcases HS.out.1 with h | ⟨b, off, e, _⟩
          · exact h
          · cases e
        subst hl0
        go_wp2_with (at_builtin; refine wpList_append_own_none rfl _ _ 29 rfl w.heap.size 3 i0 1 Tryd.underlying29 hi _ 0 [] rfl HOK.out rfl ?_)
        go_ret2
        exact ⟨_, rfl, ⟨some ⟨wr.heap.size, 0, none⟩, 0, by simp, Nat.le_refl _, .inl rfl⟩, HBK.out.alloc HBK.out.size _⟩
      | some ad =>
        have HNW : Hid (∀ j u, (ivs n d)[j]? = some u → (wr.alloc (.cells #[] 3)).cell? (ad.add j) = some u) := fun j x hj => by
          have hjl : j < n := by have := (List.getElem?_eq_some_iff.1 hj).1; rw [ivs_length] at this; exact this
          rw [ivs_at _ hjl] at hj
          injection hj with hj
          rcases HS.out.1.below HBK.out with h | ⟨b, off, e, hr⟩
          · omega
          · injection e with e
            rw [e, addr_add, ← hj]
            exact (hr j hjl).1
        have HRS : Hid (∀ v' w', w'.ownsRow w.heap.size 3 1 v' (0 + n) ([] ++ ivs n d) → ∃ a' c', v' = .slice a' n c' ∧ n ≤ c' ∧ SrcI w' a' n d) := fun v' w' ho' => by
          rw [Nat.zero_add, List.nil_append] at ho'
          exact row_src ho' HS.out.1.bounds
        go_wp2_with (at_builtin; refine wpList_append_own _ rfl _ _ 29 rfl w.heap.size 3 i0 (.int .i64 0) 1 8 Tryd.underlying29 hi hy0 hy1 hy2 rfl (by decide) _ 0 [] rfl HOK.out ad n cap (ivs n d) rfl (by rw [ivs_length, Nat.mul_one]) HNW.out (ivs_one _ _) (by unfold maxLen; omega) (by omega) (HBK.out.size) ?_; intro v' w' ho' hg' hn'; obtain ⟨a', c', rfl, hc', hs'⟩ := HRS.out _ _ ho'; clear ho' hn')
        have hb' : Below w.heap.size w w' := Below.grown HBK.out hg' HBK.out.size (fun q hq => (HOK.out.lt q hq).1)
        have HX : Hid (Below w.heap.size w w' ∧ n ≤ c' ∧ SrcI w' a' n d) := ⟨hb', hc', hs'⟩
        clear hg' hb' hc' hs' HNW HOK HBK
        go_ret2
        exact ⟨_, rfl, ⟨_, _, cell_new_sl _ _ 55, HX.out.2.1, HX.out.2.2.below ((Below.refl _ _).alloc (Nat.le_refl _) _)⟩, HX.out.1.alloc HX.out.1.size _⟩
set_option maxRecDepth 100000 in
set_option maxHeartbeats 800000 in
theorem refNew_many (a : Option Addr) (n cap : Nat) (d : Nat → Int) (w : World) (hn : 1000 < n) (hnm : n ≤ maxLen) (hs : SrcI w a n d) (hok : ∀ j, j < n → dnB (d j) = true) :
    Calls Tryd.prog 27 #[.slice a n cap] w fun e w' => e = .returned (.tuple #[.pointer none, .int .i64 122]) ∧ Below w.heap.size w w' := by
  have HS : Hid (SrcI w a n d ∧ ∀ j, j < n → dnB (d j) = true) := ⟨hs, hok⟩
  clear hs hok
  have hn' : (1000 : Int) < (n : Int) := by omega
  have hnm' : n ≤ 9223372036854775807 := by unfold maxLen at hnm; omega
  go_enter Tryd.func27, Tryd.ntmps27
  go_wp2
  go_loopw [4] (fun i wr => ∃ q : Nat, q ≤ n ∧ i = .int .i64 (q : Int) ∧ Below w.heap.size w wr) (fun i _ => n - (intOf i).toNat)
  case atStart => exact ⟨0, Nat.zero_le _, rfl, Below.refl _ _⟩
  case round =>
    obtain ⟨q, hq, rfl, hb⟩ := hrel
    have HB : Hid (Below w.heap.size w wr) := hb
    clear hb
    by_cases hlt : q < n
    · have hlt' : (q : Int) < (n : Int) := by omega
      rcases HS.out.1.below HB.out with h | ⟨b, off, rfl, hr⟩
      · omega
      obtain ⟨hc, hd0, hd1⟩ := hr q hlt
      clear hr
      have hdd := refNumber_any (d q) wr hd0 hd1
      rw [HS.out.2 q hlt] at hdd
      generalize dnV (d q) = V at *
      go_wp2_with (go_at_call 30; fail)
      refine hdd.mono ?_
      rintro e w5 ⟨rfl, hb5⟩
      have HB5 : Hid (Below w.heap.size w w5) := HB.out.trans (hb5.mono HB.out.size)
      clear hb5 hdd
      go_wp2
      go_roundw
      case rel => exact ⟨q + 1, by omega, by go_num, HB5.out⟩
      case measure => simp [intOf]; omega
    · have hqn : n = q := by omega
      subst hqn
      go_wp2
      go_ret2
      exact ⟨rfl, HB.out⟩
set_option maxRecDepth 100000 in
set_option maxHeartbeats 800000 in
theorem refNew_bad (a : Option Addr) (n cap : Nat) (d : Nat → Int) (w : World) (hnm : n ≤ maxLen) (j0 : Nat) (hj0 : j0 < n) (hbad : dnB (d j0) = false) (hs : SrcI w a n d) (hok : ∀ j, j < j0 → dnB (d j) = true) :
    Calls Tryd.prog 27 #[.slice a n cap] w fun e w' => e = .returned (.tuple #[.pointer none, .int .i64 21]) ∧ Below w.heap.size w w' := by
  have HS : Hid (SrcI w a n d ∧ ∀ j, j < j0 → dnB (d j) = true) := ⟨hs, hok⟩
  clear hs hok
  have hnm' : n ≤ 9223372036854775807 := by unfold maxLen at hnm; omega
  go_enter Tryd.func27, Tryd.ntmps27
  go_wp2
  go_loopw [4] (fun i wr => ∃ q : Nat, q ≤ j0 ∧ i = .int .i64 (q : Int) ∧ Below w.heap.size w wr) (fun i _ => j0 - (intOf i).toNat)
  case atStart => exact ⟨0, Nat.zero_le _, rfl, Below.refl _ _⟩
  case round =>
    obtain ⟨q, hq, rfl, hb⟩ := hrel
    have HB : Hid (Below w.heap.size w wr) := hb
    clear hb
    have hlt' : (q : Int) < (n : Int) := by omega
    rcases HS.out.1.below HB.out with h | ⟨b, off, rfl, hr⟩
    · omega
    obtain ⟨hc, hd0, hd1⟩ := hr q (by omega)
    clear hr
    have hdd := refNumber_any (d q) wr hd0 hd1
    by_cases hlt : q < j0
    · rw [HS.out.2 q hlt] at hdd
      generalize dnV (d q) = V at *
      go_wp2_with (go_at_call 30; fail)
      refine hdd.mono ?_
      rintro e w5 ⟨rfl, hb5⟩
      have HB5 : Hid (Below w.heap.size w w5) := HB.out.trans (hb5.mono HB.out.size)
      clear hb5 hdd
      go_wp2
      go_roundw
      case rel => exact ⟨q + 1, by omega, by go_num, HB5.out⟩
      case measure => simp [intOf]; omega
    · have hqn : j0 = q := by omega
      subst hqn
      rw [hbad, dn_zero hbad] at hdd
      clear hbad
      go_wp2_with (go_at_call 30; fail)
      refine hdd.mono ?_
      rintro e w5 ⟨rfl, hb5⟩
      have HB5 : Hid (Below w.heap.size w w5) := HB.out.trans (hb5.mono HB.out.size)
      clear hb5 hdd
      go_wp2
      go_ret2
      exact ⟨rfl, HB5.out⟩
/-- What comes of NewCalendar. -/
def CV (w : World) (n : Nat) (d : Nat → Int) (v : Value) : Prop := (¬ newE d n = 0 ∧ v = .pointer none) ∨ (newE d n = 0 ∧ ∃ C, v = .pointer (some ⟨C, 0, none⟩) ∧ CalAt w C (daySet d n))
def RV (w : World) (n : Nat) (d : Nat → Int) (v : Value) : Prop := (¬ newE d n = 0 ∧ v = .pointer none) ∨ (newE d n = 0 ∧ ∃ R, v = .pointer (some ⟨R, 0, none⟩) ∧ RC w R n d)
theorem CV.below {w w' : World} {n : Nat} {d : Nat → Int} {v : Value} (h : CV w n d v) (hb : Below w.heap.size w w') : CV w' n d v := by
  rcases h with h | ⟨e, C, h1, h2⟩
  · exact .inl h
  · exact .inr ⟨e, C, h1, h2.below hb⟩
theorem RV.below {w w' : World} {n : Nat} {d : Nat → Int} {v : Value} (h : RV w n d v) (hb : Below w.heap.size w w') : RV w' n d v := by
  rcases h with h | ⟨e, C, h1, h2⟩
  · exact .inl h
  · exact .inr ⟨e, C, h1, h2.below hb⟩
theorem New_all (a : Option Addr) (n cap : Nat) (d : Nat → Int) (w : World) (hnm : n ≤ maxLen) (hs : SrcI w a n d) (hM : Mon w) :
    Calls Tryd.prog 20 #[.slice a n cap] w fun e w' => ∃ v, e = .returned (.tuple #[v, .int .i64 (newE d n)]) ∧ CV w' n d v ∧ Below w.heap.size w w' := by
  rcases first_bad d n with h | ⟨j, h1, h2, h3⟩
  · have e := newE_ok h
    by_cases hn1 : n ≤ 1000
    · rw [if_pos hn1] at e
      rw [e]
      exact (NewCalendar_yes a n cap d w hn1 hs hM h).mono fun x w' ⟨C, r1, r2, r3⟩ => ⟨_, r1, .inr ⟨e, C, rfl, r2⟩, r3⟩
    · rw [if_neg hn1] at e
      rw [e]
      exact (NewCalendar_many a n cap d w (by omega) hnm hs hM h).mono fun x w' ⟨r1, r3⟩ => ⟨_, r1, .inl ⟨by rw [e]; decide, rfl⟩, r3⟩
  · have e := newE_bad h1 h2
    rw [e]
    exact (NewCalendar_bad a n cap d w hnm j h1 h2 hs hM h3).mono fun x w' ⟨r1, r3⟩ => ⟨_, r1, .inl ⟨by rw [e]; decide, rfl⟩, r3⟩
theorem refNew_all (a : Option Addr) (n cap : Nat) (d : Nat → Int) (w : World) (hnm : n ≤ maxLen) (hs : SrcI w a n d) (hz : a = none → cap = 0) :
    Calls Tryd.prog 27 #[.slice a n cap] w fun e w' => ∃ v, e = .returned (.tuple #[v, .int .i64 (newE d n)]) ∧ RV w' n d v ∧ Below w.heap.size w w' := by
  rcases first_bad d n with h | ⟨j, h1, h2, h3⟩
  · have e := newE_ok h
    by_cases hn1 : n ≤ 1000
    · rw [if_pos hn1] at e
      rw [e]
      exact (refNew_yes a n cap d w hn1 hs h hz).mono fun x w' ⟨C, r1, r2, r3⟩ => ⟨_, r1, .inr ⟨e, C, rfl, r2, hn1, h⟩, r3⟩
    · rw [if_neg hn1] at e
      rw [e]
      exact (refNew_many a n cap d w (by omega) hnm hs h).mono fun x w' ⟨r1, r3⟩ => ⟨_, r1, .inl ⟨by rw [e]; decide, rfl⟩, r3⟩
  · have e := newE_bad h1 h2
    rw [e]
    exact (refNew_bad a n cap d w hnm j h1 h2 hs h3).mono fun x w' ⟨r1, r3⟩ => ⟨_, r1, .inl ⟨by rw [e]; decide, rfl⟩, r3⟩
end Go.Proofs.YteafaglhlggknabDoor
