/-
  The reference's calendar: Add.
-/
import Derived.Test.YteafaglhlggknabDoorRefCal1
namespace Go.Proofs.YteafaglhlggknabDoor
set_option linter.unusedVariables false
open Go.Shelf Go.RowKit Go.Sort Go.Lib Go.Maps

/-- So many days of trade, a day at a time: k is the next one. -/
def ups (S : Int → Bool) : Nat → Nat → Option Nat
  | 0, l => if l = 0 then none else goUp S 0 (if isOpen S 0 then l - 1 else l)
  | k + 1, l => goUp S k l
theorem ups_step (S : Int → Bool) {k l : Nat} (h0 : ¬ l = 0) (h : k ≤ 2932896) : ups S k l = ups S (k + 1) (if isOpen S k then l - 1 else l) := by
  cases k with
  | zero => show (if l = 0 then none else _) = _; rw [if_neg h0]; rfl
  | succ k => show goUp S k l = goUp S (k + 1) _; exact goUp_step S h0 (by omega)
theorem ups_end (S : Int → Bool) {k l : Nat} (h0 : ¬ l = 0) (h : 2932896 < k) : ups S k l = none := by
  cases k with
  | zero => omega
  | succ k => exact goUp_end S h0 (by omega)
theorem ups_here (S : Int → Bool) {k : Nat} (hk : k ≤ 2932896) : ups S k 1 = if isOpen S k then some k else goUp S k 1 := by
  rw [ups_step S (by decide) hk]
  show goUp S k _ = _
  by_cases h : isOpen S k = true
  · rw [if_pos h, if_pos h]; exact goUp_zero S k
  · rw [if_neg h, if_neg h]
structure RC (w : World) (R n : Nat) (d : Nat → Int) : Prop where
  cal : RCal w R n d
  hn : n ≤ 1000
  ok : ∀ j, j < n → dnB (d j) = true
theorem RC.below {w w' : World} {R n : Nat} {d : Nat → Int} (h : RC w R n d) (hb : Below w.heap.size w w') : RC w' R n d := ⟨h.cal.below hb, h.hn, h.ok⟩
theorem RC.open {w : World} {R n : Nat} {d : Nat → Int} (h : RC w R n d) (z : Int) (k : Nat) (hz : z = (dateN k : Int)) (hk : k ≤ 2932896) :
    Calls Tryd.prog 17 #[.pointer (some ⟨R, 0, none⟩), .int .i64 z] w fun e w' => e = .returned (.bool (isOpen (daySet d n) k)) ∧ Below w.heap.size w w' := refOpen_date R n d z k hz w h.cal h.hn h.ok hk
set_option maxRecDepth 100000 in
set_option maxHeartbeats 1000000 in
theorem refAdd_up (R n : Nat) (d : Nat → Int) (z x : Int) (k0 : Nat) (w : World) (hC : RC w R n d) (h0 : -9223372036854775808 ≤ z) (h1 : z ≤ 9223372036854775807) (hd : dnum z = some k0) (hx0 : 0 ≤ x) (hx1 : x ≤ 10000) :
    Calls Tryd.prog 15 #[.pointer (some ⟨R, 0, none⟩), .int .i64 z, .int .i64 x] w fun e w' => e = .returned (.tuple #[.int .i64 (addV (addN (daySet d n) k0 x)), .int .i64 (addE (addN (daySet d n) k0 x))]) ∧ Below w.heap.size w w' := by
  have hc := refNumber_any z w h0 h1
  have e1 : dnV z = (k0 : Int) := by unfold dnV; rw [hd]
  have e2 : dnB z = true := by unfold dnB; rw [hd]; rfl
  rw [e1, e2] at hc
  have hk0 := (dnum_some hd).1
  clear e1 e2 hd
  have HC : Hid (RC w R n d) := hC
  clear hC
  have n1 : ¬ x < -10000 := by omega
  have n2 : ¬ (10000 : Int) < x := by omega
  have n4 : ¬ x < 0 := by omega
  generalize hR : addN (daySet d n) k0 x = Res
  by_cases hx : x = 0
  · subst hx
    have HR : Hid (ups (daySet d n) k0 1 = Res) := by
      show _ = _
      rw [ups_here _ hk0, ← hR]
      unfold addN
      rw [if_pos rfl]
    clear hR
    go_enter Tryd.func15, Tryd.ntmps15
    go_wp2_with (go_at_call 30; fail)
    refine hc.mono ?_
    rintro e w1 ⟨rfl, hb1⟩
    have HB1 : Hid (Below w.heap.size w w1) := hb1
    clear hb1 hc
    go_wp2
    go_loopw [2, 8] (fun nv kv wr => ∃ (k l : Nat) (y lv : Int), nv = .int .i64 lv ∧ kv = .int .i64 y ∧ Hid (ups (daySet d n) k l = Res ∧ k ≤ 2932897 ∧ l ≤ 10000 ∧ y = (k : Int) - 1 ∧ lv = (l : Int) ∧ Below w.heap.size w wr ∧ (l = 0 → 1 ≤ k))) (fun _ kv _ => 2932898 - (intOf kv + 1).toNat)
    case atStart => exact ⟨k0, 1, (k0 : Int) - 1, 1, rfl, rfl, ⟨HR.out, by omega, by omega, rfl, rfl, HB1.out, fun h => by omega⟩⟩
    case round =>
      clear HR HB1
      obtain ⟨k, l, y, lv, rfl, rfl, hh⟩ := hrel
      have hy0 : -1 ≤ y := by have := hh.out; omega
      have hy1 : y ≤ 2932896 := by have := hh.out; omega
      have hl0 : 0 ≤ lv := by have := hh.out; omega
      have hl1 : lv ≤ 10000 := by have := hh.out; omega
      have HB : Hid (Below w.heap.size w wr ∧ RC wr R n d) := ⟨hh.out.2.2.2.2.2.1, HC.out.below hh.out.2.2.2.2.2.1⟩
      by_cases hlz : lv = 0
      · subst hlz
        have hkp : 1 ≤ k := hh.out.2.2.2.2.2.2 (by have := hh.out; omega)
        obtain ⟨q, rfl⟩ : ∃ q, k = q + 1 := ⟨k - 1, by omega⟩
        have HRS : Hid (Res = some q) := by
          have h1 := hh.out.1
          have h2 : l = 0 := by have := hh.out; omega
          rw [h2] at h1
          exact h1.symm.trans (goUp_zero _ q)
        go_wp2_with (go_at_call 23; fail)
        refine (refDate_any _ q (by have := hh.out; omega) _ (by have := hh.out; omega)).mono ?_
        rintro e w5 ⟨rfl, hb5⟩
        have HZ : Hid (Below w.heap.size w w5) := HB.out.1.trans (hb5.mono HB.out.1.size)
        clear hb5
        go_wp2
        go_ret2
        exact ⟨by rw [HRS.out]; rfl, HZ.out⟩
      · have hlp : 0 < lv := by omega
        by_cases hke : 2932896 < k
        · have HRS : Hid (Res = none) := hh.out.1.symm.trans (ups_end _ (by have := hh.out; omega) hke)
          have hke1 : (2932896 : Int) < y + 1 := by have := hh.out; omega
          have hke2 : ¬ y + 1 < 0 := by omega
          go_wp2
          go_ret2
          exact ⟨by rw [HRS.out]; rfl, HB.out.1⟩
        · have hke1 : ¬ (2932896 : Int) < y + 1 := by have := hh.out; omega
          have hke2 : ¬ y + 1 < 0 := by omega
          have HG : Hid (ups (daySet d n) (k + 1) (if isOpen (daySet d n) k then l - 1 else l) = Res) := (ups_step _ (by have := hh.out; omega) (by omega)).symm.trans hh.out.1
          go_wp2_with (go_at_call 23; fail)
          refine (refDate_any _ k (by have := hh.out; omega) _ (by omega)).mono ?_
          rintro e w5 ⟨rfl, hb5⟩
          have HZ5 : Hid (Below w.heap.size w w5 ∧ RC w5 R n d) := ⟨HB.out.1.trans (hb5.mono HB.out.1.size), HB.out.2.below hb5⟩
          clear hb5
          have hoc := HZ5.out.2.open _ k rfl (by omega)
          cases hop : isOpen (daySet d n) k
          · rw [hop] at HG hoc
            clear hop
            go_wp2_with (go_at_call 17; fail)
            refine hoc.mono ?_
            rintro e w6 ⟨rfl, hb6⟩
            have HZ6 : Hid (Below w.heap.size w w6) := HZ5.out.1.trans (hb6.mono HZ5.out.1.size)
            clear hb6 hoc
            go_wp2
            go_roundw
            case rel => exact ⟨k + 1, l, y + 1, lv, by first | rfl | trivial, by go_num, ⟨HG.out, by omega, by have := hh.out; omega, by have := hh.out; omega, hh.out.2.2.2.2.1, HZ6.out, fun _ => by omega⟩⟩
            case measure => simp [intOf]; omega
          · rw [hop] at HG hoc
            clear hop
            go_wp2_with (go_at_call 17; fail)
            refine hoc.mono ?_
            rintro e w6 ⟨rfl, hb6⟩
            have HZ6 : Hid (Below w.heap.size w w6) := HZ5.out.1.trans (hb6.mono HZ5.out.1.size)
            clear hb6 hoc
            go_wp2
            go_roundw
            case rel => exact ⟨k + 1, l - 1, y + 1, lv - 1, by first | rfl | go_num, by go_num, ⟨HG.out, by omega, by have := hh.out; omega, by have := hh.out; omega, by have := hh.out; omega, HZ6.out, fun _ => by omega⟩⟩
            case measure => simp [intOf]; omega
  · have HR : Hid (ups (daySet d n) (k0 + 1) x.toNat = Res) := by
      show _ = _
      rw [← hR]
      unfold addN
      rw [if_neg hx, if_pos (by omega)]
      rfl
    clear hR
    have hxb : (x == 0) = false := by simpa using hx
    have hxp : 0 < x := by omega
    clear hx
    go_enter Tryd.func15, Tryd.ntmps15
    go_wp2_with (go_at_call 30; fail)
    refine hc.mono ?_
    rintro e w1 ⟨rfl, hb1⟩
    have HB1 : Hid (Below w.heap.size w w1) := hb1
    clear hb1 hc
    go_wp2
    go_loopw [2, 8] (fun nv kv wr => ∃ (k l : Nat) (y lv : Int), nv = .int .i64 lv ∧ kv = .int .i64 y ∧ Hid (ups (daySet d n) k l = Res ∧ k ≤ 2932897 ∧ l ≤ 10000 ∧ y = (k : Int) - 1 ∧ lv = (l : Int) ∧ Below w.heap.size w wr ∧ (l = 0 → 1 ≤ k))) (fun _ kv _ => 2932898 - (intOf kv + 1).toNat)
    case atStart => exact ⟨k0 + 1, x.toNat, (k0 : Int), x, rfl, rfl, ⟨HR.out, by omega, by omega, by omega, by omega, HB1.out, fun h => by omega⟩⟩
    case round =>
      clear HR HB1
      obtain ⟨k, l, y, lv, rfl, rfl, hh⟩ := hrel
      have hy0 : -1 ≤ y := by have := hh.out; omega
      have hy1 : y ≤ 2932896 := by have := hh.out; omega
      have hl0 : 0 ≤ lv := by have := hh.out; omega
      have hl1 : lv ≤ 10000 := by have := hh.out; omega
      have HB : Hid (Below w.heap.size w wr ∧ RC wr R n d) := ⟨hh.out.2.2.2.2.2.1, HC.out.below hh.out.2.2.2.2.2.1⟩
      by_cases hlz : lv = 0
      · subst hlz
        have hkp : 1 ≤ k := hh.out.2.2.2.2.2.2 (by have := hh.out; omega)
        obtain ⟨q, rfl⟩ : ∃ q, k = q + 1 := ⟨k - 1, by omega⟩
        have HRS : Hid (Res = some q) := by
          have h1 := hh.out.1
          have h2 : l = 0 := by have := hh.out; omega
          rw [h2] at h1
          exact h1.symm.trans (goUp_zero _ q)
        go_wp2_with (go_at_call 23; fail)
        refine (refDate_any _ q (by have := hh.out; omega) _ (by have := hh.out; omega)).mono ?_
        rintro e w5 ⟨rfl, hb5⟩
        have HZ : Hid (Below w.heap.size w w5) := HB.out.1.trans (hb5.mono HB.out.1.size)
        clear hb5
        go_wp2
        go_ret2
        exact ⟨by rw [HRS.out]; rfl, HZ.out⟩
      · have hlp : 0 < lv := by omega
        by_cases hke : 2932896 < k
        · have HRS : Hid (Res = none) := hh.out.1.symm.trans (ups_end _ (by have := hh.out; omega) hke)
          have hke1 : (2932896 : Int) < y + 1 := by have := hh.out; omega
          have hke2 : ¬ y + 1 < 0 := by omega
          go_wp2
          go_ret2
          exact ⟨by rw [HRS.out]; rfl, HB.out.1⟩
        · have hke1 : ¬ (2932896 : Int) < y + 1 := by have := hh.out; omega
          have hke2 : ¬ y + 1 < 0 := by omega
          have HG : Hid (ups (daySet d n) (k + 1) (if isOpen (daySet d n) k then l - 1 else l) = Res) := (ups_step _ (by have := hh.out; omega) (by omega)).symm.trans hh.out.1
          go_wp2_with (go_at_call 23; fail)
          refine (refDate_any _ k (by have := hh.out; omega) _ (by omega)).mono ?_
          rintro e w5 ⟨rfl, hb5⟩
          have HZ5 : Hid (Below w.heap.size w w5 ∧ RC w5 R n d) := ⟨HB.out.1.trans (hb5.mono HB.out.1.size), HB.out.2.below hb5⟩
          clear hb5
          have hoc := HZ5.out.2.open _ k rfl (by omega)
          cases hop : isOpen (daySet d n) k
          · rw [hop] at HG hoc
            clear hop
            go_wp2_with (go_at_call 17; fail)
            refine hoc.mono ?_
            rintro e w6 ⟨rfl, hb6⟩
            have HZ6 : Hid (Below w.heap.size w w6) := HZ5.out.1.trans (hb6.mono HZ5.out.1.size)
            clear hb6 hoc
            go_wp2
            go_roundw
            case rel => exact ⟨k + 1, l, y + 1, lv, by first | rfl | trivial, by go_num, ⟨HG.out, by omega, by have := hh.out; omega, by have := hh.out; omega, hh.out.2.2.2.2.1, HZ6.out, fun _ => by omega⟩⟩
            case measure => simp [intOf]; omega
          · rw [hop] at HG hoc
            clear hop
            go_wp2_with (go_at_call 17; fail)
            refine hoc.mono ?_
            rintro e w6 ⟨rfl, hb6⟩
            have HZ6 : Hid (Below w.heap.size w w6) := HZ5.out.1.trans (hb6.mono HZ5.out.1.size)
            clear hb6 hoc
            go_wp2
            go_roundw
            case rel => exact ⟨k + 1, l - 1, y + 1, lv - 1, by first | rfl | go_num, by go_num, ⟨HG.out, by omega, by have := hh.out; omega, by have := hh.out; omega, by have := hh.out; omega, HZ6.out, fun _ => by omega⟩⟩
            case measure => simp [intOf]; omega
set_option maxRecDepth 100000 in
set_option maxHeartbeats 1000000 in
theorem refAdd_dn (R n : Nat) (d : Nat → Int) (z x : Int) (k0 : Nat) (w : World) (hC : RC w R n d) (h0 : -9223372036854775808 ≤ z) (h1 : z ≤ 9223372036854775807) (hd : dnum z = some k0) (hx0 : x < 0) (hx1 : -10000 ≤ x) :
    Calls Tryd.prog 15 #[.pointer (some ⟨R, 0, none⟩), .int .i64 z, .int .i64 x] w fun e w' => e = .returned (.tuple #[.int .i64 (addV (goDn (daySet d n) k0 (-x).toNat)), .int .i64 (addE (goDn (daySet d n) k0 (-x).toNat))]) ∧ Below w.heap.size w w' := by
  have hc := refNumber_any z w h0 h1
  have e1 : dnV z = (k0 : Int) := by unfold dnV; rw [hd]
  have e2 : dnB z = true := by unfold dnB; rw [hd]; rfl
  rw [e1, e2] at hc
  have hk0 := (dnum_some hd).1
  clear e1 e2 hd
  have HC : Hid (RC w R n d) := hC
  clear hC
  have n1 : ¬ x < -10000 := by omega
  have n2 : ¬ (10000 : Int) < x := by omega
  have n5 : (-x == 0) = false := by simp; omega
  have n6 : -x ≤ 10000 := by omega
  generalize hR : goDn (daySet d n) k0 (-x).toNat = Res
  have HR : Hid (goDn (daySet d n) k0 (-x).toNat = Res) := hR
  clear hR
  go_enter Tryd.func15, Tryd.ntmps15
  go_wp2_with (go_at_call 30; fail)
  refine hc.mono ?_
  rintro e w1 ⟨rfl, hb1⟩
  have HB1 : Hid (Below w.heap.size w w1) := hb1
  clear hb1 hc
  go_wp2
  go_loopw [2, 8] (fun nv kv wr => ∃ (k l : Nat) (lv : Int), nv = .int .i64 lv ∧ kv = .int .i64 (k : Int) ∧ Hid (goDn (daySet d n) k l = Res ∧ k ≤ 2932896 ∧ l ≤ 10000 ∧ lv = (l : Int) ∧ Below w.heap.size w wr)) (fun _ kv _ => (intOf kv).toNat)
  case atStart => exact ⟨k0, (-x).toNat, -x, rfl, rfl, ⟨HR.out, hk0, by omega, by omega, HB1.out⟩⟩
  case round =>
    clear HR HB1
    obtain ⟨k, l, lv, rfl, rfl, hh⟩ := hrel
    have hl0 : 0 ≤ lv := by have := hh.out; omega
    have hl1 : lv ≤ 10000 := by have := hh.out; omega
    have hk1 : k ≤ 2932896 := hh.out.2.1
    have HB : Hid (Below w.heap.size w wr ∧ RC wr R n d) := ⟨hh.out.2.2.2.2, HC.out.below hh.out.2.2.2.2⟩
    by_cases hlz : lv = 0
    · subst hlz
      have HRS : Hid (Res = some k) := by
        have h1 := hh.out.1
        have h2 : l = 0 := by have := hh.out; omega
        rw [h2] at h1
        exact h1.symm.trans (goDn_zero _ k)
      go_wp2_with (go_at_call 23; fail)
      refine (refDate_any _ k rfl _ hk1).mono ?_
      rintro e w5 ⟨rfl, hb5⟩
      have HZ : Hid (Below w.heap.size w w5) := HB.out.1.trans (hb5.mono HB.out.1.size)
      clear hb5
      go_wp2
      go_ret2
      exact ⟨by rw [HRS.out]; rfl, HZ.out⟩
    · have hlp : 0 < lv := by omega
      by_cases hkz : k = 0
      · subst hkz
        have HRS : Hid (Res = none) := hh.out.1.symm.trans (goDn_end _ (by have := hh.out; omega))
        go_wp2
        go_ret2
        exact ⟨by rw [HRS.out]; rfl, HB.out.1⟩
      · obtain ⟨q, hq⟩ : ∃ q, k = q + 1 := ⟨k - 1, by omega⟩
        have HQ : Hid (k = q + 1) := hq
        have HG : Hid (goDn (daySet d n) q (if isOpen (daySet d n) q then l - 1 else l) = Res) := by
          have h1 := hh.out.1
          rw [hq] at h1
          exact (goDn_step _ (by have := hh.out; omega)).symm.trans h1
        clear hq
        have hke1 : ¬ (2932896 : Int) < (k : Int) + -1 := by omega
        have hke2 : ¬ (k : Int) + -1 < 0 := by omega
        have hke3 : (1 : Int) ≤ (k : Int) := by omega
        go_wp2_with (go_at_call 23; fail)
        refine (refDate_any _ q (by have := HQ.out; omega) _ (by have := HQ.out; omega)).mono ?_
        rintro e w5 ⟨rfl, hb5⟩
        have HZ5 : Hid (Below w.heap.size w w5 ∧ RC w5 R n d) := ⟨HB.out.1.trans (hb5.mono HB.out.1.size), HB.out.2.below hb5⟩
        clear hb5
        have hoc := HZ5.out.2.open _ q rfl (by have := HQ.out; omega)
        cases hop : isOpen (daySet d n) q
        · rw [hop] at HG hoc
          clear hop
          go_wp2_with (go_at_call 17; fail)
          refine hoc.mono ?_
          rintro e w6 ⟨rfl, hb6⟩
          have HZ6 : Hid (Below w.heap.size w w6) := HZ5.out.1.trans (hb6.mono HZ5.out.1.size)
          clear hb6 hoc
          go_wp2
          go_roundw
          case rel => exact ⟨q, l, lv, by first | rfl | trivial, vint (by have := HQ.out; omega), ⟨HG.out, by have := HQ.out; omega, hh.out.2.2.1, hh.out.2.2.2.1, HZ6.out⟩⟩
          case measure => simp [intOf]; omega
        · rw [hop] at HG hoc
          clear hop
          go_wp2_with (go_at_call 17; fail)
          refine hoc.mono ?_
          rintro e w6 ⟨rfl, hb6⟩
          have HZ6 : Hid (Below w.heap.size w w6) := HZ5.out.1.trans (hb6.mono HZ5.out.1.size)
          clear hb6 hoc
          go_wp2
          go_roundw
          case rel => exact ⟨q, l - 1, lv - 1, by first | rfl | go_num, vint (by have := HQ.out; omega), ⟨HG.out, by have := HQ.out; omega, by have := hh.out; omega, by have := hh.out; omega, HZ6.out⟩⟩
          case measure => simp [intOf]; omega
set_option maxRecDepth 100000 in
set_option maxHeartbeats 400000 in
theorem refAdd_none (R : Nat) (z x : Int) (w : World) (h0 : -9223372036854775808 ≤ z) (h1 : z ≤ 9223372036854775807) (hd : dnum z = none) :
    Calls Tryd.prog 15 #[.pointer (some ⟨R, 0, none⟩), .int .i64 z, .int .i64 x] w fun e w' => e = .returned (.tuple #[.int .i64 0, .int .i64 21]) ∧ Below w.heap.size w w' := by
  have hc := refNumber_any z w h0 h1
  have e1 : dnV z = 0 := by unfold dnV; rw [hd]
  have e2 : dnB z = false := by unfold dnB; rw [hd]; rfl
  rw [e1, e2] at hc
  clear e1 e2 hd
  go_enter Tryd.func15, Tryd.ntmps15
  go_wp2_with (go_at_call 30; fail)
  refine hc.mono ?_
  rintro e w1 ⟨rfl, hb1⟩
  have HB1 : Hid (Below w.heap.size w w1) := hb1
  clear hb1 hc
  go_wp2
  go_ret2
  exact ⟨rfl, HB1.out⟩
set_option maxRecDepth 100000 in
set_option maxHeartbeats 400000 in
theorem refAdd_far (R : Nat) (z x : Int) (k : Nat) (w : World) (h0 : -9223372036854775808 ≤ z) (h1 : z ≤ 9223372036854775807) (hd : dnum z = some k) (hx : x < -10000 ∨ 10000 < x) :
    Calls Tryd.prog 15 #[.pointer (some ⟨R, 0, none⟩), .int .i64 z, .int .i64 x] w fun e w' => e = .returned (.tuple #[.int .i64 0, .int .i64 1]) ∧ Below w.heap.size w w' := by
  have hc := refNumber_any z w h0 h1
  have e1 : dnV z = (k : Int) := by unfold dnV; rw [hd]
  have e2 : dnB z = true := by unfold dnB; rw [hd]; rfl
  rw [e1, e2] at hc
  clear e1 e2 hd
  rcases hx with hx | hx
  · go_enter Tryd.func15, Tryd.ntmps15
    go_wp2_with (go_at_call 30; fail)
    refine hc.mono ?_
    rintro e w1 ⟨rfl, hb1⟩
    have HB1 : Hid (Below w.heap.size w w1) := hb1
    clear hb1 hc
    go_wp2
    go_ret2
    exact ⟨rfl, HB1.out⟩
  · have hx2 : ¬ x < -10000 := by omega
    go_enter Tryd.func15, Tryd.ntmps15
    go_wp2_with (go_at_call 30; fail)
    refine hc.mono ?_
    rintro e w1 ⟨rfl, hb1⟩
    have HB1 : Hid (Below w.heap.size w w1) := hb1
    clear hb1 hc
    go_wp2
    go_ret2
    exact ⟨rfl, HB1.out⟩
theorem refAdd_all (R n : Nat) (d : Nat → Int) (z x : Int) (w : World) (hC : RC w R n d) (h0 : -9223372036854775808 ≤ z) (h1 : z ≤ 9223372036854775807) :
    Calls Tryd.prog 15 #[.pointer (some ⟨R, 0, none⟩), .int .i64 z, .int .i64 x] w fun e w' => e = .returned (.tuple #[.int .i64 (addP (daySet d n) z x).1, .int .i64 (addP (daySet d n) z x).2]) ∧ Below w.heap.size w w' := by
  cases hd : dnum z with
  | none => rw [addP_none hd]; exact refAdd_none R z x w h0 h1 hd
  | some k =>
    by_cases hx : x < -10000 ∨ 10000 < x
    · rw [addP_far hd hx]; exact refAdd_far R z x k w h0 h1 hd hx
    · rw [addP_near hd hx]
      by_cases hp : 0 ≤ x
      · exact refAdd_up R n d z x k w hC h0 h1 hd hp (by omega)
      · have e : addN (daySet d n) k x = goDn (daySet d n) k (-x).toNat := by
          unfold addN
          rw [if_neg (by omega), if_neg (by omega)]
        rw [e]
        exact refAdd_dn R n d z x k w hC h0 h1 hd (by omega) (by omega)
end Go.Proofs.YteafaglhlggknabDoor
