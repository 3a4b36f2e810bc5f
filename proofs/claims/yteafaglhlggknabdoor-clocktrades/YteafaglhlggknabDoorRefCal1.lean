/-
  The reference's calendar: Open, Add.
-/
import Derived.Test.YteafaglhlggknabDoorRefCal0
import Derived.Deep.DeepCutAuto
namespace Go.Proofs.YteafaglhlggknabDoor
set_option linter.unusedVariables false
open Go.Shelf Go.RowKit Go.Sort Go.Lib Go.Maps

set_option maxRecDepth 100000 in
set_option maxHeartbeats 800000 in
theorem refOpen_any (R n : Nat) (d : Nat → Int) (z : Int) (w : World) (hC : RCal w R n d) (hn : n ≤ 1000) (hok : ∀ j, j < n → dnB (d j) = true) (h0 : -9223372036854775808 ≤ z) (h1 : z ≤ 9223372036854775807) :
    Calls Tryd.prog 17 #[.pointer (some ⟨R, 0, none⟩), .int .i64 z] w fun e w' => e = .returned (.bool (dnB z && isOpen (daySet d n) (dnV z).toNat)) ∧ Below w.heap.size w w' := by
  have hc := refNumber_any z w h0 h1
  have HC : Hid (RCal w R n d) := hC
  clear hC
  cases hd : dnB z
  · rw [hd, dn_zero hd] at hc
    clear hd
    go_enter Tryd.func17, Tryd.ntmps17
    go_wp2_with (go_at_call 30; fail)
    refine hc.mono ?_
    rintro e w1 ⟨rfl, hb1⟩
    have HB1 : Hid (Below w.heap.size w w1) := hb1
    clear hb1 hc
    go_wp2
    go_ret
    exact ⟨rfl, HB1.out⟩
  · obtain ⟨k, _, hk, hl⟩ := dn_range hd
    have HOF : Hid (offB d n z = daySet d n (k : Int)) := by rw [← hk]; exact offB_day hok hd
    rw [hd, hk] at hc
    rw [hk, Int.toNat_natCast, Bool.true_and]
    unfold isOpen
    rw [← HOF.out]
    clear hd hk hok HOF
    have hk7 : (k + 4) % 7 < 7 := Nat.mod_lt _ (by decide)
    have hm7 : ((k : Int) + 4) % 7 = (((k + 4) % 7 : Nat) : Int) := by omega
    have hk4 : (k : Int) + 4 ≤ 2932900 := by omega
    generalize (k + 4) % 7 = m at *
    by_cases hw : m = 0 ∨ m = 6
    · have e : (!(m == 0) && !(m == 6) && !offB d n z) = false := by
        rcases hw with rfl | rfl <;> simp
      rw [e]
      clear e
      rcases hw with rfl | rfl
      · go_enter Tryd.func17, Tryd.ntmps17
        go_wp2_with (go_at_call 30; fail)
        refine hc.mono ?_
        rintro e w1 ⟨rfl, hb1⟩
        have HB1 : Hid (Below w.heap.size w w1) := hb1
        clear hb1 hc
        go_wp2
        go_ret
        exact ⟨rfl, HB1.out⟩
      · go_enter Tryd.func17, Tryd.ntmps17
        go_wp2_with (go_at_call 30; fail)
        refine hc.mono ?_
        rintro e w1 ⟨rfl, hb1⟩
        have HB1 : Hid (Below w.heap.size w w1) := hb1
        clear hb1 hc
        go_wp2
        go_ret
        exact ⟨rfl, HB1.out⟩
    · have e0 : (m == 0) = false := by simp; omega
      have e6 : (m == 6) = false := by simp; omega
      obtain ⟨u, hu, f0, f6⟩ : ∃ u : Int, ((k : Int) + 4) % 7 = u ∧ (u == 0) = false ∧ (u == 6) = false := ⟨((k : Int) + 4) % 7, rfl, by simp; omega, by simp; omega⟩
      clear hm7 hk7
      have e : (!(m == 0) && !(m == 6) && !offB d n z) = !offB d n z := by rw [e0, e6]; rfl
      rw [e]
      clear e e0 e6 hw
      clear m
      go_enter Tryd.func17, Tryd.ntmps17
      go_wp2_with (go_at_call 30; fail)
      refine hc.mono ?_
      rintro e w1 ⟨rfl, hb1⟩
      have HB1 : Hid (Below w.heap.size w w1 ∧ RCal w1 R n d) := ⟨hb1, HC.out.below hb1⟩
      clear hb1 hc HC
      go_wp2
      go_loopw [7] (fun i wr => ∃ q : Nat, q ≤ n ∧ i = .int .i64 (q : Int) ∧ (∀ j, j < q → d j ≠ z) ∧ wr = w1) (fun i _ => n - (intOf i).toNat)
      case atStart => exact ⟨0, Nat.zero_le _, rfl, fun j hj => by omega, rfl⟩
      case round =>
        obtain ⟨q, hq, rfl, hno, rfl⟩ := hrel
        have HNO : Hid (∀ j, j < q → d j ≠ z) := hno
        clear hno
        obtain ⟨a, c, hcell, hac, hsrc⟩ := HB1.out.2
        by_cases hlt : q < n
        · have hlt' : (q : Int) < (n : Int) := by omega
          rcases hsrc with h | ⟨b, off, rfl, hr⟩
          · omega
          obtain ⟨hcq, _, _⟩ := hr q hlt
          clear hr
          by_cases he : d q = z
          · have HY : Hid (offB d n z = true) := offB_yes hlt he
            rw [he] at hcq
            clear he
            have hzz : (z == z) = true := by simp
            go_wp2
            go_ret
            exact ⟨ret_bool (by rw [HY.out]; rfl), HB1.out.1⟩
          · have hne : Hid (¬ d q = z) := he
            clear he
            obtain ⟨x, hx, hxz⟩ : ∃ x, d q = x ∧ (x == z) = false := ⟨d q, rfl, by have := hne.out; simpa using this⟩
            rw [hx] at hcq
            clear hx
            go_wp2
            go_roundw
            case rel => exact ⟨q + 1, by omega, by go_num, fun j hj => by
              by_cases e : j = q
              · rw [e]; exact hne.out
              · exact HNO.out j (by omega), trivial⟩
            case measure => simp [intOf]; omega
        · have hqn : n = q := by omega
          subst hqn
          have HN : Hid (offB d n z = false) := offB_no HNO.out
          clear hsrc
          go_wp2
          go_ret
          exact ⟨ret_bool (by rw [HN.out]; rfl), HB1.out.1⟩
theorem refOpen_date (R n : Nat) (d : Nat → Int) (z : Int) (k : Nat) (hz : z = (dateN k : Int)) (w : World) (hC : RCal w R n d) (hn : n ≤ 1000) (hok : ∀ j, j < n → dnB (d j) = true) (hk : k ≤ 2932896) :
    Calls Tryd.prog 17 #[.pointer (some ⟨R, 0, none⟩), .int .i64 z] w fun e w' => e = .returned (.bool (isOpen (daySet d n) k)) ∧ Below w.heap.size w w' := by
  subst hz
  have hb := dateN_bounds hk
  have h := refOpen_any R n d (dateN k : Int) w hC hn hok (by omega) (by omega)
  have e1 : dnV (dateN k : Int) = (k : Int) := by unfold dnV; rw [dnum_date hk]
  have e2 : dnB (dateN k : Int) = true := by unfold dnB; rw [dnum_date hk]; rfl
  rw [e1, e2, Int.toNat_natCast, Bool.true_and] at h
  exact h
end Go.Proofs.YteafaglhlggknabDoor
