/-
  clock: Add, with n below 0 or nought.
-/
import Derived.Test.YteafaglhlggknabDoorAdds
namespace Go.Proofs.YteafaglhlggknabDoor
set_option linter.unusedVariables false
open Go.Shelf Go.RowKit Go.Sort Go.Lib Go.Maps

set_option maxRecDepth 100000 in
set_option maxHeartbeats 1000000 in
/-- With n below 0. -/
theorem Add_dn (C : Nat) (S : Int → Bool) (z : Int) (k0 : Nat) (w : World) (hM : Mon w) (hC : CalAt w C S) (h0 : -9223372036854775808 ≤ z) (h1 : z ≤ 9223372036854775807) (hd : dnum z = some k0) (x : Int) (n : Nat) (hx : x = -(n : Int)) (hn0 : 1 ≤ n) (hn : n ≤ 10000) :
    Calls Tryd.prog 14 #[.pointer (some ⟨C, 0, none⟩), .int .i64 z, .int .i64 x] w fun e w' => e = .returned (.tuple #[.int .i64 (addV (goDn S k0 n)), .int .i64 (addE (goDn S k0 n))]) ∧ Below w.heap.size w w' := by
  have hc := dayOfDate_any z w hM h0 h1
  have e1 : dnV z = (k0 : Int) := by unfold dnV; rw [hd]
  have e2 : dnB z = true := by unfold dnB; rw [hd]; rfl
  rw [e1, e2] at hc
  have hk0 := (dnum_some hd).1
  clear e1 e2
  have HS : Hid (Mon w ∧ CalAt w C S) := ⟨hM, hC⟩
  clear hM hC
  have n1 : ¬ x < -10000 := by omega
  have n2 : ¬ (10000 : Int) < x := by omega
  have n3 : ¬ x = 0 := by omega
  have n4 : x < 0 := by omega
  have n5 : -x ≤ 10000 := by omega
  have HX : Hid (x = -(n : Int)) := hx
  clear hx
  generalize hR : goDn S k0 n = R
  have HR : Hid (goDn S k0 n = R) := hR
  clear hR hd
  go_enter Tryd.func14, Tryd.ntmps14
  go_wp2_with (go_at_call 28; fail)
  refine hc.mono ?_
  rintro e w ⟨rfl, rfl⟩
  go_wp2
  go_loopw [8, 11] (fun dy lf wr => ∃ k l : Nat, k ≤ 2932896 ∧ l ≤ 10000 ∧ dy = .int .i64 k ∧ lf = .int .i64 l ∧ goDn S k l = R ∧ Below w.heap.size w wr) (fun dy _ _ => (intOf dy).toNat)
  case atStart => exact ⟨k0, n, hk0, hn, rfl, vint (by have := HX.out; omega), HR.out, Below.refl _ _⟩
  case round =>
    obtain ⟨k, l, hk, hl, rfl, rfl, hgo, hbl⟩ := hrel
    have HB : Hid (Below w.heap.size w wr ∧ Mon wr ∧ CalAt wr C S) := ⟨hbl, HS.out.1.below hbl HS.out.1.lt, HS.out.2.below hbl⟩
    clear hbl HR
    by_cases hl0 : l = 0
    · subst hl0
      rw [goDn_zero] at hgo
      subst hgo
      go_wp2_with (go_at_call 26; fail)
      refine (dateOfDay_any _ k rfl _ HB.out.2.1 hk).mono ?_
      rintro e w5 ⟨rfl, hb5⟩
      have HZ : Hid (Below w.heap.size w w5) := HB.out.1.trans (hb5.mono HB.out.1.size)
      clear hb5
      go_wp2
      go_ret2
      exact ⟨rfl, HZ.out⟩
    · have hl1 : (0 : Int) < l := by omega
      by_cases hkz : k = 0
      · subst hkz
        rw [goDn_end S hl0] at hgo
        subst hgo
        go_wp2
        go_ret2
        exact ⟨rfl, HB.out.1⟩
      · obtain ⟨j, hj⟩ : ∃ j, k = j + 1 := ⟨k - 1, by omega⟩
        rw [hj, goDn_step S hl0] at hgo
        have HG : Hid (goDn S j (if isOpen S j then l - 1 else l) = R) := hgo
        clear hgo
        have hke1 : ¬ (2932896 : Int) < (k : Int) + -1 := by omega
        have hke2 : ¬ (k : Int) + -1 < 0 := by omega
        have hke3 : (1 : Int) ≤ (k : Int) := by omega
        have HJ : Hid (k = j + 1) := hj
        clear hj
        cases hop : isOpen S j
        · rw [hop] at HG
          have hoc : ∀ y : Int, y = (j : Int) → Calls Tryd.prog 29 #[.pointer (some ⟨C, 0, none⟩), .int .i64 y] wr fun e w' => e = .returned (.bool (isOpen S j)) ∧ Below wr.heap.size wr w' := fun y hy => openOn_any C S y j hy wr HB.out.2.2 (by have := HJ.out; omega)
          rw [hop] at hoc
          clear hop
          go_wp2_with (go_at_call 29; fail)
          refine (hoc _ (by have := HJ.out; omega)).mono ?_
          rintro e w5 ⟨rfl, hb5⟩
          have HZ : Hid (Below w.heap.size w w5) := HB.out.1.trans (hb5.mono HB.out.1.size)
          clear hb5
          go_wp2
          go_roundw
          case rel => exact ⟨j, l, by have := HJ.out; omega, hl, vint (by have := HJ.out; omega), by first | rfl | trivial, HG.out, HZ.out⟩
          case measure => simp [intOf]; omega
        · rw [hop] at HG
          have hoc : ∀ y : Int, y = (j : Int) → Calls Tryd.prog 29 #[.pointer (some ⟨C, 0, none⟩), .int .i64 y] wr fun e w' => e = .returned (.bool (isOpen S j)) ∧ Below wr.heap.size wr w' := fun y hy => openOn_any C S y j hy wr HB.out.2.2 (by have := HJ.out; omega)
          rw [hop] at hoc
          clear hop
          go_wp2_with (go_at_call 29; fail)
          refine (hoc _ (by have := HJ.out; omega)).mono ?_
          rintro e w5 ⟨rfl, hb5⟩
          have HZ : Hid (Below w.heap.size w w5) := HB.out.1.trans (hb5.mono HB.out.1.size)
          clear hb5
          go_wp2
          go_roundw
          case rel => exact ⟨j, l - 1, by have := HJ.out; omega, by omega, vint (by have := HJ.out; omega), vint (by omega), HG.out, HZ.out⟩
          case measure => simp [intOf]; omega
set_option maxRecDepth 100000 in
set_option maxHeartbeats 1000000 in
/-- With n nought. -/
theorem Add_here (C : Nat) (S : Int → Bool) (z : Int) (k0 : Nat) (w : World) (hM : Mon w) (hC : CalAt w C S) (h0 : -9223372036854775808 ≤ z) (h1 : z ≤ 9223372036854775807) (hd : dnum z = some k0) :
    Calls Tryd.prog 14 #[.pointer (some ⟨C, 0, none⟩), .int .i64 z, .int .i64 0] w fun e w' => e = .returned (.tuple #[.int .i64 (addV (if isOpen S k0 then some k0 else goUp S k0 1)), .int .i64 (addE (if isOpen S k0 then some k0 else goUp S k0 1))]) ∧ Below w.heap.size w w' := by
  have hc := dayOfDate_any z w hM h0 h1
  have e1 : dnV z = (k0 : Int) := by unfold dnV; rw [hd]
  have e2 : dnB z = true := by unfold dnB; rw [hd]; rfl
  rw [e1, e2] at hc
  have hk0 := (dnum_some hd).1
  clear e1 e2
  have HS : Hid (Mon w ∧ CalAt w C S) := ⟨hM, hC⟩
  clear hM hC
  have hoc := openOn_any C S k0 k0 rfl w HS.out.2 hk0
  cases hop : isOpen S k0
  · rw [hop] at hoc
    rw [if_neg (by decide)]
    clear hop
    generalize hR : goUp S k0 1 = R
    have HR : Hid (goUp S k0 1 = R) := hR
    clear hR hd
    go_enter Tryd.func14, Tryd.ntmps14
    go_wp2_with (go_at_call 28; fail)
    refine hc.mono ?_
    rintro e w ⟨rfl, rfl⟩
    go_wp2_with (go_at_call 29; fail)
    refine hoc.mono ?_
    rintro e w4 ⟨rfl, hb4⟩
    have HB4 : Hid (Below w.heap.size w w4) := hb4
    clear hb4
    go_wp2
    have HB0 : Hid (Below w.heap.size w w4) := HB4.out
    go_loopw [8, 11] (fun dy lf wr => ∃ k l : Nat, k ≤ 2932896 ∧ l ≤ 10000 ∧ dy = .int .i64 k ∧ lf = .int .i64 l ∧ goUp S k l = R ∧ Below w.heap.size w wr) (fun dy _ _ => 2932897 - (intOf dy).toNat)
    case atStart => exact ⟨k0, 1, hk0, by omega, rfl, vint (by first | rfl | omega), HR.out, HB0.out⟩
    case round =>
      obtain ⟨k, l, hk, hl, rfl, rfl, hgo, hbl⟩ := hrel
      have HB : Hid (Below w.heap.size w wr ∧ Mon wr ∧ CalAt wr C S) := ⟨hbl, HS.out.1.below hbl HS.out.1.lt, HS.out.2.below hbl⟩
      clear hbl HR HB0
      by_cases hl0 : l = 0
      · subst hl0
        rw [goUp_zero] at hgo
        subst hgo
        go_wp2_with (go_at_call 26; fail)
        refine (dateOfDay_any _ k rfl _ HB.out.2.1 hk).mono ?_
        rintro e w5 ⟨rfl, hb5⟩
        have HZ : Hid (Below w.heap.size w w5) := HB.out.1.trans (hb5.mono HB.out.1.size)
        clear hb5
        go_wp2
        go_ret2
        exact ⟨rfl, HZ.out⟩
      · have hl1 : (0 : Int) < l := by omega
        by_cases hke : 2932896 ≤ k
        · rw [goUp_end S hl0 hke] at hgo
          subst hgo
          have hke1 : (2932896 : Int) < (k : Int) + 1 := by omega
          have hke2 : ¬ (k : Int) + 1 < 0 := by omega
          go_wp2
          go_ret2
          exact ⟨rfl, HB.out.1⟩
        · rw [goUp_step S hl0 hke] at hgo
          have HG : Hid (goUp S (k + 1) (if isOpen S (k + 1) then l - 1 else l) = R) := hgo
          clear hgo
          have hke1 : ¬ (2932896 : Int) < (k : Int) + 1 := by omega
          have hke2 : ¬ (k : Int) + 1 < 0 := by omega
          cases hop : isOpen S (k + 1)
          · rw [hop] at HG
            have hoc := openOn_any C S ((k : Int) + 1) (k + 1) rfl wr HB.out.2.2 (by omega)
            rw [hop] at hoc
            clear hop
            go_wp2_with (go_at_call 29; fail)
            refine hoc.mono ?_
            rintro e w5 ⟨rfl, hb5⟩
            have HZ : Hid (Below w.heap.size w w5) := HB.out.1.trans (hb5.mono HB.out.1.size)
            clear hb5
            go_wp2
            go_roundw
            case rel => exact ⟨k + 1, l, by omega, hl, by go_num, by first | rfl | trivial, HG.out, HZ.out⟩
            case measure => simp [intOf]; omega
          · rw [hop] at HG
            have hoc := openOn_any C S ((k : Int) + 1) (k + 1) rfl wr HB.out.2.2 (by omega)
            rw [hop] at hoc
            clear hop
            go_wp2_with (go_at_call 29; fail)
            refine hoc.mono ?_
            rintro e w5 ⟨rfl, hb5⟩
            have HZ : Hid (Below w.heap.size w w5) := HB.out.1.trans (hb5.mono HB.out.1.size)
            clear hb5
            go_wp2
            go_roundw
            case rel => exact ⟨k + 1, l - 1, by omega, by omega, by go_num, vint (by omega), HG.out, HZ.out⟩
            case measure => simp [intOf]; omega
  · rw [hop] at hoc
    rw [if_pos rfl]
    clear hop
    have HD : Hid (z = (dateN k0 : Int)) := (dnum_some hd).2
    clear hd
    go_enter Tryd.func14, Tryd.ntmps14
    go_wp2_with (go_at_call 28; fail)
    refine hc.mono ?_
    rintro e w ⟨rfl, rfl⟩
    go_wp2_with (go_at_call 29; fail)
    refine hoc.mono ?_
    rintro e w4 ⟨rfl, hb4⟩
    have HB4 : Hid (Below w.heap.size w w4) := hb4
    clear hb4
    go_wp2
    go_ret2
    exact ⟨ret2 (vint HD.out) rfl, HB4.out⟩
end Go.Proofs.YteafaglhlggknabDoor
