import Derived.Test.YtchkpggdndnpjabGreatDoorG35
import Derived.Test.YtchkpggdndnpjabGreatDoorG34

namespace Go.Proofs.YtchkpggdndnpjabGreatDoor
set_option linter.unusedVariables false
open Go.Shelf Go.RowKit Go.Sort Go.Lib
open Go.RowKit Go.Lib

set_option maxRecDepth 100000 in
set_option maxHeartbeats 400000 in
theorem refStart_any (z : Int) (w : World) (h0 : -9223372036854775808 ≤ z) (h1 : z ≤ 9223372036854775807) :
    Calls Tryz.prog 190 #[.int .i64 z] w fun e w' => e = .returned (.tuple #[.int .i64 (dnV z * 86400000), .int .i64 (dtE z)]) ∧ Below w.heap.size w w' := by
  have hc := refNumber_any z w h0 h1
  cases hd : dnB z
  · have e1 : dnV z * 86400000 = 0 := by rw [dn_zero hd]; rfl
    rw [hd, dn_zero hd] at hc
    have e2 : dtE z = 21 := by unfold dtE; rw [hd]; rfl
    rw [e1, e2]
    clear e1 e2 hd
    go_enter Tryz.func190, Tryz.ntmps190
    go_wp2_with (go_at_call 231; fail)
    refine hc.mono ?_
    rintro e w1 ⟨rfl, hb1⟩
    have HB1 : Hid (Below w.heap.size w w1) := hb1
    clear hb1
    go_wp2
    go_ret2
    exact ⟨rfl, HB1.out⟩
  · obtain ⟨n, _, hn, hl⟩ := dn_range hd
    have e1 : Hid (dnV z * 86400000 = (n : Int) * 86400000) := by show _ = _; rw [hn]
    rw [hd, hn] at hc
    have e2 : dtE z = 0 := by unfold dtE; rw [hd]; rfl
    rw [e2]
    clear e2 hd hn
    go_enter Tryz.func190, Tryz.ntmps190
    go_wp2_with (go_at_call 231; fail)
    refine hc.mono ?_
    rintro e w1 ⟨rfl, hb1⟩
    have HB1 : Hid (Below w.heap.size w w1) := hb1
    clear hb1
    go_wp2
    go_ret2
    exact ⟨ret2 (vint (by have := e1.out; omega)) rfl, HB1.out⟩
end Go.Proofs.YtchkpggdndnpjabGreatDoor

namespace Go.Proofs.YtchkpggdndnpjabGreatDoor
set_option linter.unusedVariables false
set_option linter.unusedSimpArgs false
open Go.RowKit Go.Great

def mayRS (what least most n : Int) (s : ByteArray) : Bool :=
  if what = 2 then nmS s else if what = 3 then idS s else if what = 4 then syS s else if what = 5 then txS s else if what = 6 then txS s && decide (s.size ≤ 20) else if what = 1 then true else if what = 7 then dnB n else decide (least ≤ n) && decide (n ≤ most)
set_option maxRecDepth 100000 in
set_option maxHeartbeats 4000000 in
theorem may_any (c0 what least most : Int) (b : Bool) (au aa : Option Addr) (lu cu la ca : Nat) (n : Int) (s : ByteArray) (hs : s.size ≤ 9223372036854775807) (h0 : -9223372036854775808 ≤ n) (h1 : n ≤ 9223372036854775807) (w : World) :
    Calls Tryz.prog 49 #[.agg #[.int .i64 c0, .int .i64 what, .int .i64 least, .int .i64 most, .bool b, .slice au lu cu, .slice aa la ca], .int .i64 n, .string s] w fun e w' => e = .returned (.bool (mayRS what least most n s)) ∧ Below w.heap.size w w' := by
  have hb : Below w.heap.size w (w.alloc (Obj.cells #[.int .i64 c0, .int .i64 what, .int .i64 least, .int .i64 most, .bool b, .slice au lu cu, .slice aa la ca] 95)) := (Below.refl _ w).alloc (Nat.le_refl _) _
  have HB : Hid _ := hb
  clear hb
  by_cases x2 : what = 2
  · subst x2
    rw [show mayRS 2 least most n s = nmS s by simp [mayRS]]
    go_enter Tryz.func49, Tryz.ntmps49
    go_wp2_with (go_at_call 186; fail)
    refine (refIsName s _ hs).mono ?_
    rintro e w2 ⟨rfl, rfl⟩
    go_wp2
    go_ret
    exact ⟨rfl, HB.out⟩
  have y2 : (what == 2) = false := by simp [x2]
  by_cases x3 : what = 3
  · subst x3
    rw [show mayRS 3 least most n s = idS s by simp [mayRS]]
    go_enter Tryz.func49, Tryz.ntmps49
    go_wp2_with (go_at_call 187; fail)
    refine (refIsID s _ hs).mono ?_
    rintro e w2 ⟨rfl, rfl⟩
    go_wp2
    go_ret
    exact ⟨rfl, HB.out⟩
  have y3 : (what == 3) = false := by simp [x3]
  by_cases x4 : what = 4
  · subst x4
    rw [show mayRS 4 least most n s = syS s by simp [mayRS]]
    go_enter Tryz.func49, Tryz.ntmps49
    go_wp2_with (go_at_call 188; fail)
    refine (refIsSymbol s _ hs).mono ?_
    rintro e w2 ⟨rfl, rfl⟩
    go_wp2
    go_ret
    exact ⟨rfl, HB.out⟩
  have y4 : (what == 4) = false := by simp [x4]
  by_cases x5 : what = 5
  · subst x5
    rw [show mayRS 5 least most n s = txS s by simp [mayRS]]
    go_enter Tryz.func49, Tryz.ntmps49
    go_wp2_with (go_at_call 189; fail)
    refine (refIsText s _ hs).mono ?_
    rintro e w2 ⟨rfl, rfl⟩
    go_wp2
    go_ret
    exact ⟨rfl, HB.out⟩
  have y5 : (what == 5) = false := by simp [x5]
  by_cases x6 : what = 6
  · subst x6
    have HV : Hid (mayRS 6 least most n s = (txS s && decide (s.size ≤ 20))) := by show mayRS 6 least most n s = _; simp [mayRS]
    cases ht : txS s
    · rw [ht] at HV
      go_enter Tryz.func49, Tryz.ntmps49
      go_wp2_with (go_at_call 189; fail)
      refine (refIsText s _ hs).mono ?_
      rw [ht]
      rintro e w2 ⟨rfl, rfl⟩
      go_wp2
      go_ret
      exact ⟨ret_bool HV.out.symm, HB.out⟩
    · rw [ht] at HV
      go_enter Tryz.func49, Tryz.ntmps49
      go_wp2_with (go_at_call 189; fail)
      refine (refIsText s _ hs).mono ?_
      rw [ht]
      rintro e w2 ⟨rfl, rfl⟩
      go_wp2
      go_ret
      exact ⟨ret_bool (by rw [HV.out, Bool.true_and, Bool.eq_iff_iff]; simp; try omega), HB.out⟩
  have y6 : (what == 6) = false := by simp [x6]
  by_cases x1 : what = 1
  · subst x1
    rw [show mayRS 1 least most n s = true by simp [mayRS]]
    go_enter Tryz.func49, Tryz.ntmps49
    go_wp2
    go_ret
    exact ⟨rfl, HB.out⟩
  have y1 : (what == 1) = false := by simp [x1]
  by_cases x7 : what = 7
  · subst x7
    have HV : Hid (mayRS 7 least most n s = dnB n) := by show mayRS 7 least most n s = _; simp [mayRS]
    have hst := fun w' => refStart_any n w' h0 h1
    generalize dnV n * 86400000 = vv at *
    cases hd : dnB n
    · rw [hd] at HV
      rw [show dtE n = 21 by simp [dtE, hd]] at hst
      clear hd
      go_enter Tryz.func49, Tryz.ntmps49
      go_wp2_with (go_at_call 190; fail)
      refine (hst _).mono ?_
      rintro e w2 ⟨rfl, hb2⟩
      go_wp2
      go_ret
      exact ⟨ret_bool HV.out.symm, HB.out.trans (hb2.mono HB.out.size)⟩
    · rw [hd] at HV
      rw [show dtE n = 0 by simp [dtE, hd]] at hst
      clear hd
      go_enter Tryz.func49, Tryz.ntmps49
      go_wp2_with (go_at_call 190; fail)
      refine (hst _).mono ?_
      rintro e w2 ⟨rfl, hb2⟩
      go_wp2
      go_ret
      exact ⟨ret_bool HV.out.symm, HB.out.trans (hb2.mono HB.out.size)⟩
  have y7 : (what == 7) = false := by simp [x7]
  have HV : Hid (mayRS what least most n s = (decide (least ≤ n) && decide (n ≤ most))) := by show mayRS what least most n s = _; simp [mayRS, x1, x2, x3, x4, x5, x6, x7]
  by_cases l0 : least ≤ n
  · go_enter Tryz.func49, Tryz.ntmps49
    go_wp2
    go_ret
    exact ⟨ret_bool (by rw [HV.out]; simp [l0]), HB.out⟩
  · go_enter Tryz.func49, Tryz.ntmps49
    go_wp2
    go_ret
    exact ⟨ret_bool (by rw [HV.out]; simp; omega), HB.out⟩

end Go.Proofs.YtchkpggdndnpjabGreatDoor

namespace Go.Proofs.YtchkpggdndnpjabGreatDoor
set_option linter.unusedVariables false
set_option linter.unusedSimpArgs false
open Go.RowKit Go.Great

def amongB (z : Int) (l : List Int) : Bool := (l.any fun x => x == z || x == 0) && isK z
theorem among_true {z : Int} {l : List Int} {k : Nat} (hk : k < l.length) (h : l.getD k 0 = z ∨ l.getD k 0 = 0) : amongB z l = isK z := by
  unfold amongB
  rw [show (l.any fun x => x == z || x == 0) = true from List.any_eq_true.2 ⟨l.getD k 0, by rw [List.getD_eq_getElem?_getD, List.getElem?_eq_getElem hk]; exact List.getElem_mem hk, by simpa using h⟩, Bool.true_and]
theorem among_false {z : Int} {l : List Int} (h : ∀ k, k < l.length → ¬ (l.getD k 0 = z ∨ l.getD k 0 = 0)) : amongB z l = false := by
  unfold amongB
  rw [show (l.any fun x => x == z || x == 0) = false from List.any_eq_false.2 fun x hx => by
    obtain ⟨k, hk, rfl⟩ := List.getElem_of_mem hx
    have := h k hk
    rw [List.getD_eq_getElem?_getD, List.getElem?_eq_getElem hk] at this
    simpa using this, Bool.false_and]
set_option maxRecDepth 100000 in
set_option maxHeartbeats 1000000 in
theorem among_any (z : Int) (v : Value) (l : List Int) (hl : l.length ≤ 20) (w : World) (h : SlI w v l) :
    Calls Tryz.prog 185 #[.int .i64 z, v] w fun e w' => e = .returned (.bool (amongB z l)) ∧ w' = w := by
  rcases h with ⟨rfl, rfl⟩ | ⟨g, rfl, hg, hc⟩
  · rw [show amongB z [] = false by rfl]
    go_enter Tryz.func185, Tryz.ntmps185
    go_wp2
    go_loopw [5] (fun i wr => i = .int .i64 0 ∧ wr = w) (fun i _ => 0)
    case atStart => exact ⟨rfl, rfl⟩
    case round =>
      obtain ⟨rfl, rfl⟩ := hrel
      go_wp2
      go_ret
      exact ⟨rfl, by first | rfl | trivial⟩
  · have HC : Hid (∀ k, k < l.length → w.cell? ⟨g, k, none⟩ = some (.int .i64 (l.getD k 0))) := hc
    clear hc
    go_enter Tryz.func185, Tryz.ntmps185
    go_wp2
    go_loopw [5] (fun i wr => ∃ k : Nat, k ≤ l.length ∧ i = .int .i64 k ∧ Hid (∀ j, j < k → ¬ (l.getD j 0 = z ∨ l.getD j 0 = 0)) ∧ wr = w) (fun i _ => l.length - (intOf i).toNat)
    case atStart => exact ⟨0, by omega, rfl, fun j hj => by omega, rfl⟩
    case round =>
      obtain ⟨k, hk, rfl, he, rfl⟩ := hrel
      by_cases hlt : k < l.length
      · have hlt' : (k : Int) < (l.length : Int) := by omega
        have hc := HC.out k hlt
        have HT : Hid (l.getD k 0 = z ∨ l.getD k 0 = 0 → amongB z l = isK z) := fun h => among_true hlt h
        have HF : Hid (¬ (l.getD k 0 = z ∨ l.getD k 0 = 0) → ∀ j, j < k + 1 → ¬ (l.getD j 0 = z ∨ l.getD j 0 = 0)) := fun h j hj => by
          by_cases e : j = k
          · rw [e]; exact h
          · exact he.out j (by omega)
        clear he
        generalize l.getD k 0 = x at *
        have HK1 : Hid (isK z = (decide (1 ≤ z) && decide (z ≤ 17))) := rfl
        by_cases hx : x = z
        · have HR : Hid (amongB z l = isK z) := HT.out (.inl hx)
          subst hx
          clear HT HF
          have hb : (x == x) = true := by simp
          by_cases h1 : 1 ≤ x
          · go_wp2
            go_ret
            exact ⟨ret_bool (by rw [HR.out, HK1.out]; simp [h1]), by first | rfl | trivial⟩
          · go_wp2
            go_ret
            exact ⟨ret_bool (by rw [HR.out, HK1.out]; simp; omega), by first | rfl | trivial⟩
        · have hb : (x == z) = false := by simp [hx]
          by_cases hx0 : x = 0
          · have HR : Hid (amongB z l = isK z) := HT.out (.inr hx0)
            subst hx0
            clear HT HF
            by_cases h1 : 1 ≤ z
            · go_wp2
              go_ret
              exact ⟨ret_bool (by rw [HR.out, HK1.out]; simp [h1]), by first | rfl | trivial⟩
            · go_wp2
              go_ret
              exact ⟨ret_bool (by rw [HR.out, HK1.out]; simp; omega), by first | rfl | trivial⟩
          · have hb0 : (x == 0) = false := by simp [hx0]
            have HR : Hid (∀ j, j < k + 1 → ¬ (l.getD j 0 = z ∨ l.getD j 0 = 0)) := HF.out (fun h => h.elim hx hx0)
            clear HT HF
            go_wp2
            go_roundw
            case rel => exact ⟨k + 1, by omega, by go_num, HR, by first | rfl | trivial⟩
            case measure => simp [intOf]; omega
      · obtain rfl : k = l.length := by omega
        have HR : Hid (amongB z l = false) := among_false he.out
        clear he
        go_wp2
        go_ret
        exact ⟨ret_bool HR.out.symm, by first | rfl | trivial⟩
def hasRR (z : Int) (mu ma : List Int) : Int := if amongB z mu then 2 else if amongB z ma then 1 else 0
set_option maxRecDepth 100000 in
set_option maxHeartbeats 1000000 in
theorem refhas_any (z : Int) (c0 c1 c2 c3 : Int) (b : Bool) (vu va : Value) (mu ma : List Int) (hmu : mu.length ≤ 20) (hma : ma.length ≤ 20) (w : World) (h1 : SlI w vu mu) (h2 : SlI w va ma) (hu : ∃ a l c, vu = .slice a l c) (ha : ∃ a l c, va = .slice a l c) :
    Calls Tryz.prog 48 #[.agg #[.int .i64 c0, .int .i64 c1, .int .i64 c2, .int .i64 c3, .bool b, vu, va], .int .i64 z] w fun e w' => e = .returned (.int .i64 (hasRR z mu ma)) ∧ Below w.heap.size w w' := by
  obtain ⟨au, lu, cu, rfl⟩ := hu
  obtain ⟨aa, la, ca, rfl⟩ := ha
  have hb : Below w.heap.size w (w.alloc (Obj.cells #[.int .i64 c0, .int .i64 c1, .int .i64 c2, .int .i64 c3, .bool b, .slice au lu cu, .slice aa la ca] 95)) := (Below.refl _ w).alloc (Nat.le_refl _) _
  have a1 := among_any z _ mu hmu _ (h1.below hb)
  have a2 := among_any z _ ma hma _ (h2.below hb)
  have HB : Hid _ := hb
  clear hb h1 h2
  unfold hasRR
  generalize amongB z mu = p at *
  generalize amongB z ma = q at *
  go_enter Tryz.func48, Tryz.ntmps48
  go_wp2_with (go_at_call 185; fail)
  refine a1.mono ?_
  rintro e w1 ⟨rfl, rfl⟩
  go_wp2_with (go_at_call 185; fail)
  refine a2.mono ?_
  rintro e w1 ⟨rfl, rfl⟩
  cases p
  · cases q
    · go_wp2
      go_ret
      exact ⟨rfl, HB.out⟩
    · go_wp2
      go_ret
      exact ⟨rfl, HB.out⟩
  · go_wp2
    go_ret
    exact ⟨rfl, HB.out⟩
theorem SlI.form {w : World} {v : Value} {l : List Int} (h : SlI w v l) : ∃ a n c, v = .slice a n c := by
  rcases h with ⟨_, rfl⟩ | ⟨g, rfl, _⟩
  · exact ⟨_, _, _, rfl⟩
  · exact ⟨_, _, _, rfl⟩
set_option maxRecDepth 100000 in
theorem must_bit : ∀ j, j < 42 → ∀ k : Nat, k < 18 → 1 ≤ k → amongB (k : Int) (rMust.getD j []) = (tMust.getD j 0).testBit k := by decide +kernel
set_option maxRecDepth 100000 in
theorem may_bit : ∀ j, j < 42 → ∀ k : Nat, k < 18 → 1 ≤ k → amongB (k : Int) (rMay.getD j []) = (tMay.getD j 0).testBit k := by decide +kernel
theorem must_len : ∀ j, j < 42 → (rMust.getD j []).length ≤ 20 := by decide
theorem may_len : ∀ j, j < 42 → (rMay.getD j []).length ≤ 20 := by decide
theorem TabAt.cell {w : World} {G : Nat} {mu ma : Nat → Value} (h : TabAt w G mu ma) (j : Nat) (hj : j < 42) (i : Nat) (v : Value) (hv : (refRow j (mu j) (ma j))[i]? = some v) : w.cell? ⟨G, j * 7 + i, none⟩ = some v := h.1 j hj i v hv

end Go.Proofs.YtchkpggdndnpjabGreatDoor

namespace Go.Proofs.YtchkpggdndnpjabGreatDoor
set_option linter.unusedVariables false
set_option linter.unusedSimpArgs false
open Go.RowKit Go.Great

set_option maxRecDepth 100000 in
set_option maxHeartbeats 1000000 in
theorem val0 (M : Msg) (w : World) : Calls Tryz.prog 47 #[.agg M.cs, .int .i64 35] w fun e w' => e = .returned (.tuple #[.int .i64 (M.z 0), .string ⟨#[]⟩]) ∧ Below w.heap.size w w' := by
  have HO := box_own M w
  go_enter Tryz.func47, Tryz.ntmps47
  go_upto_region 1 with fail
  generalize w.alloc (.cells M.cs 23) = w1 at *
  have c : w1.cell? ⟨w.heap.size, 0, none⟩ = some (.int .i64 (M.z 0)) := HO.out.1.cell 0 (by decide)
  generalize M.cs = CS at *
  go_wp2
  go_ret2
  exact ⟨rfl, HO.out.2⟩
set_option maxRecDepth 100000 in
set_option maxHeartbeats 1000000 in
theorem val1 (M : Msg) (w : World) : Calls Tryz.prog 47 #[.agg M.cs, .int .i64 49] w fun e w' => e = .returned (.tuple #[.int .i64 0, .string (M.s 1)]) ∧ Below w.heap.size w w' := by
  have HO := box_own M w
  go_enter Tryz.func47, Tryz.ntmps47
  go_upto_region 1 with fail
  generalize w.alloc (.cells M.cs 23) = w1 at *
  have c : w1.cell? ⟨w.heap.size, 1, none⟩ = some (.string (M.s 1)) := HO.out.1.cell 1 (by decide)
  generalize M.cs = CS at *
  go_wp2
  go_quiet (fail)
  go_wp2
  go_ret2
  exact ⟨rfl, below_drewN HO.out.2 _⟩
set_option maxRecDepth 100000 in
set_option maxHeartbeats 1000000 in
theorem val2 (M : Msg) (w : World) : Calls Tryz.prog 47 #[.agg M.cs, .int .i64 56] w fun e w' => e = .returned (.tuple #[.int .i64 0, .string (M.s 2)]) ∧ Below w.heap.size w w' := by
  have HO := box_own M w
  go_enter Tryz.func47, Tryz.ntmps47
  go_upto_region 1 with fail
  generalize w.alloc (.cells M.cs 23) = w1 at *
  have c : w1.cell? ⟨w.heap.size, 2, none⟩ = some (.string (M.s 2)) := HO.out.1.cell 2 (by decide)
  generalize M.cs = CS at *
  go_wp2
  go_quiet (fail)
  go_wp2
  go_ret2
  exact ⟨rfl, below_drewN HO.out.2 _⟩
set_option maxRecDepth 100000 in
set_option maxHeartbeats 1000000 in
theorem val3 (M : Msg) (w : World) : Calls Tryz.prog 47 #[.agg M.cs, .int .i64 34] w fun e w' => e = .returned (.tuple #[.int .i64 (M.z 3), .string ⟨#[]⟩]) ∧ Below w.heap.size w w' := by
  have HO := box_own M w
  go_enter Tryz.func47, Tryz.ntmps47
  go_upto_region 1 with fail
  generalize w.alloc (.cells M.cs 23) = w1 at *
  have c : w1.cell? ⟨w.heap.size, 3, none⟩ = some (.int .i64 (M.z 3)) := HO.out.1.cell 3 (by decide)
  generalize M.cs = CS at *
  go_wp2
  go_ret2
  exact ⟨rfl, HO.out.2⟩
set_option maxRecDepth 100000 in
set_option maxHeartbeats 1000000 in
theorem val4 (M : Msg) (w : World) : Calls Tryz.prog 47 #[.agg M.cs, .int .i64 43] w fun e w' => e = .returned (.tuple #[.int .i64 (trN (M.b 4)), .string ⟨#[]⟩]) ∧ Below w.heap.size w w' := by
  have HO := box_own M w
  go_enter Tryz.func47, Tryz.ntmps47
  go_upto_region 1 with fail
  generalize w.alloc (.cells M.cs 23) = w1 at *
  have c : w1.cell? ⟨w.heap.size, 4, none⟩ = some (.bool (M.b 4)) := HO.out.1.cell 4 (by decide)
  generalize M.cs = CS at *
  go_wp2_with (go_at_call 183; refine (truth_any _ _).mono ?_; rintro e w1 ⟨rfl, rfl⟩)
  go_ret2
  exact ⟨rfl, HO.out.2⟩
set_option maxRecDepth 100000 in
set_option maxHeartbeats 1000000 in
theorem val5 (M : Msg) (w : World) : Calls Tryz.prog 47 #[.agg M.cs, .int .i64 52] w fun e w' => e = .returned (.tuple #[.int .i64 (M.z 5), .string ⟨#[]⟩]) ∧ Below w.heap.size w w' := by
  have HO := box_own M w
  go_enter Tryz.func47, Tryz.ntmps47
  go_upto_region 1 with fail
  generalize w.alloc (.cells M.cs 23) = w1 at *
  have c : w1.cell? ⟨w.heap.size, 5, none⟩ = some (.int .i64 (M.z 5)) := HO.out.1.cell 5 (by decide)
  generalize M.cs = CS at *
  go_wp2
  go_ret2
  exact ⟨rfl, HO.out.2⟩
set_option maxRecDepth 100000 in
set_option maxHeartbeats 1000000 in
theorem val6 (M : Msg) (w : World) : Calls Tryz.prog 47 #[.agg M.cs, .int .i64 122] w fun e w' => e = .returned (.tuple #[.int .i64 (M.z 6), .string ⟨#[]⟩]) ∧ Below w.heap.size w w' := by
  have HO := box_own M w
  go_enter Tryz.func47, Tryz.ntmps47
  go_upto_region 1 with fail
  generalize w.alloc (.cells M.cs 23) = w1 at *
  have c : w1.cell? ⟨w.heap.size, 6, none⟩ = some (.int .i64 (M.z 6)) := HO.out.1.cell 6 (by decide)
  generalize M.cs = CS at *
  go_wp2
  go_ret2
  exact ⟨rfl, HO.out.2⟩
set_option maxRecDepth 100000 in
set_option maxHeartbeats 1000000 in
theorem val7 (M : Msg) (w : World) : Calls Tryz.prog 47 #[.agg M.cs, .int .i64 108] w fun e w' => e = .returned (.tuple #[.int .i64 (M.z 7), .string ⟨#[]⟩]) ∧ Below w.heap.size w w' := by
  have HO := box_own M w
  go_enter Tryz.func47, Tryz.ntmps47
  go_upto_region 1 with fail
  generalize w.alloc (.cells M.cs 23) = w1 at *
  have c : w1.cell? ⟨w.heap.size, 7, none⟩ = some (.int .i64 (M.z 7)) := HO.out.1.cell 7 (by decide)
  generalize M.cs = CS at *
  go_wp2
  go_ret2
  exact ⟨rfl, HO.out.2⟩
set_option maxRecDepth 100000 in
set_option maxHeartbeats 1000000 in
theorem val8 (M : Msg) (w : World) : Calls Tryz.prog 47 #[.agg M.cs, .int .i64 141] w fun e w' => e = .returned (.tuple #[.int .i64 (trN (M.b 8)), .string ⟨#[]⟩]) ∧ Below w.heap.size w w' := by
  have HO := box_own M w
  go_enter Tryz.func47, Tryz.ntmps47
  go_upto_region 1 with fail
  generalize w.alloc (.cells M.cs 23) = w1 at *
  have c : w1.cell? ⟨w.heap.size, 8, none⟩ = some (.bool (M.b 8)) := HO.out.1.cell 8 (by decide)
  generalize M.cs = CS at *
  go_wp2_with (go_at_call 183; refine (truth_any _ _).mono ?_; rintro e w1 ⟨rfl, rfl⟩)
  go_ret2
  exact ⟨rfl, HO.out.2⟩
set_option maxRecDepth 100000 in
set_option maxHeartbeats 1000000 in
theorem val9 (M : Msg) (w : World) : Calls Tryz.prog 47 #[.agg M.cs, .int .i64 112] w fun e w' => e = .returned (.tuple #[.int .i64 0, .string (M.s 9)]) ∧ Below w.heap.size w w' := by
  have HO := box_own M w
  go_enter Tryz.func47, Tryz.ntmps47
  go_upto_region 1 with fail
  generalize w.alloc (.cells M.cs 23) = w1 at *
  have c : w1.cell? ⟨w.heap.size, 9, none⟩ = some (.string (M.s 9)) := HO.out.1.cell 9 (by decide)
  generalize M.cs = CS at *
  go_wp2
  go_quiet (fail)
  go_wp2
  go_ret2
  exact ⟨rfl, below_drewN HO.out.2 _⟩
set_option maxRecDepth 100000 in
set_option maxHeartbeats 1000000 in
theorem val10 (M : Msg) (w : World) : Calls Tryz.prog 47 #[.agg M.cs, .int .i64 7] w fun e w' => e = .returned (.tuple #[.int .i64 (M.z 10), .string ⟨#[]⟩]) ∧ Below w.heap.size w w' := by
  have HO := box_own M w
  go_enter Tryz.func47, Tryz.ntmps47
  go_upto_region 1 with fail
  generalize w.alloc (.cells M.cs 23) = w1 at *
  have c : w1.cell? ⟨w.heap.size, 10, none⟩ = some (.int .i64 (M.z 10)) := HO.out.1.cell 10 (by decide)
  generalize M.cs = CS at *
  go_wp2
  go_ret2
  exact ⟨rfl, HO.out.2⟩
set_option maxRecDepth 100000 in
set_option maxHeartbeats 1000000 in
theorem val11 (M : Msg) (w : World) : Calls Tryz.prog 47 #[.agg M.cs, .int .i64 16] w fun e w' => e = .returned (.tuple #[.int .i64 (M.z 11), .string ⟨#[]⟩]) ∧ Below w.heap.size w w' := by
  have HO := box_own M w
  go_enter Tryz.func47, Tryz.ntmps47
  go_upto_region 1 with fail
  generalize w.alloc (.cells M.cs 23) = w1 at *
  have c : w1.cell? ⟨w.heap.size, 11, none⟩ = some (.int .i64 (M.z 11)) := HO.out.1.cell 11 (by decide)
  generalize M.cs = CS at *
  go_wp2
  go_ret2
  exact ⟨rfl, HO.out.2⟩

end Go.Proofs.YtchkpggdndnpjabGreatDoor
