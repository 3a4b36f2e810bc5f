/-
  clock: Add.
-/
import Derived.Test.YtnhkmfofkhhnaaaDoorOpen
namespace Go.Proofs.YtnhkmfofkhhnaaaDoor
set_option linter.unusedVariables false
open Go.Shelf Go.RowKit Go.Sort Go.Lib Go.Maps

/-- So many days of trade behind a day. -/
def goUp (S : Int → Bool) (k left : Nat) : Option Nat := if left = 0 then some k else if h : 2932896 ≤ k then none else goUp S (k + 1) (if isOpen S (k + 1) then left - 1 else left)
  termination_by 2932896 - k
/-- .. ahead of it. -/
def goDn (S : Int → Bool) : Nat → Nat → Option Nat
  | 0, left => if left = 0 then some 0 else none
  | k + 1, left => if left = 0 then some (k + 1) else goDn S k (if isOpen S k then left - 1 else left)
theorem goUp_zero (S : Int → Bool) (k : Nat) : goUp S k 0 = some k := by rw [goUp, if_pos rfl]
theorem goUp_end (S : Int → Bool) {k left : Nat} (h0 : ¬ left = 0) (h : 2932896 ≤ k) : goUp S k left = none := by rw [goUp, if_neg h0, dif_pos h]
theorem goUp_step (S : Int → Bool) {k left : Nat} (h0 : ¬ left = 0) (h : ¬ 2932896 ≤ k) : goUp S k left = goUp S (k + 1) (if isOpen S (k + 1) then left - 1 else left) := by rw [goUp, if_neg h0, dif_neg h]
theorem goDn_zero (S : Int → Bool) (k : Nat) : goDn S k 0 = some k := by cases k <;> rfl
theorem goDn_end (S : Int → Bool) {left : Nat} (h0 : ¬ left = 0) : goDn S 0 left = none := by rw [goDn, if_neg h0]
theorem goDn_step (S : Int → Bool) {k left : Nat} (h0 : ¬ left = 0) : goDn S (k + 1) left = goDn S k (if isOpen S k then left - 1 else left) := by rw [goDn, if_neg h0]
/-- What Add answers. -/
def addV : Option Nat → Int
  | some k => (dateN k : Int)
  | none => 0
def addE : Option Nat → Int
  | some _ => 0
  | none => 21
set_option maxRecDepth 100000 in
set_option maxHeartbeats 1000000 in
/-- With n above 0. -/
theorem Add_up (C : Nat) (S : Int → Bool) (z : Int) (k0 : Nat) (w : World) (hM : Mon w) (hC : CalAt w C S) (h0 : -9223372036854775808 ≤ z) (h1 : z ≤ 9223372036854775807) (hd : dnum z = some k0) (n : Nat) (hn0 : 1 ≤ n) (hn : n ≤ 10000) :
    Calls Tryd.prog 53 #[.pointer (some ⟨C, 0, none⟩), .int .i64 z, .int .i64 (n : Int)] w fun e w' => e = .returned (.tuple #[.int .i64 (addV (goUp S k0 n)), .int .i64 (addE (goUp S k0 n))]) ∧ Below w.heap.size w w' := by
  have hc := dayOfDate_any z w hM h0 h1
  have e1 : dnV z = (k0 : Int) := by unfold dnV; rw [hd]
  have e2 : dnB z = true := by unfold dnB; rw [hd]; rfl
  rw [e1, e2] at hc
  have hk0 := (dnum_some hd).1
  clear e1 e2
  have HS : Hid (Mon w ∧ CalAt w C S) := ⟨hM, hC⟩
  clear hM hC
  have n1 : ¬ (n : Int) < -10000 := by omega
  have n2 : ¬ (10000 : Int) < n := by omega
  have n3 : ¬ (n : Int) = 0 := by omega
  have n4 : ¬ (n : Int) < 0 := by omega
  generalize hR : goUp S k0 n = R
  have HR : Hid (goUp S k0 n = R) := hR
  clear hR hd
  go_enter Tryd.func53, Tryd.ntmps53
  go_wp2_with (go_at_call 22; fail)
  refine hc.mono ?_
  rintro e w ⟨rfl, rfl⟩
  go_wp2
  have HB0 : Hid (Below w.heap.size w w) := Below.refl _ _
  go_loopw [8, 11] (fun dy lf wr => ∃ k l : Nat, k ≤ 2932896 ∧ l ≤ 10000 ∧ dy = .int .i64 k ∧ lf = .int .i64 l ∧ goUp S k l = R ∧ Below w.heap.size w wr) (fun dy _ _ => 2932897 - (intOf dy).toNat)
  case atStart => exact ⟨k0, n, hk0, by omega, rfl, vint (by omega), HR.out, HB0.out⟩
  case round =>
    obtain ⟨k, l, hk, hl, rfl, rfl, hgo, hbl⟩ := hrel
    have HB : Hid (Below w.heap.size w wr ∧ Mon wr ∧ CalAt wr C S) := ⟨hbl, HS.out.1.below hbl HS.out.1.lt, HS.out.2.below hbl⟩
    clear hbl HR HB0
    by_cases hl0 : l = 0
    · subst hl0
      rw [goUp_zero] at hgo
      subst hgo
      go_wp2_with (go_at_call 28; fail)
      refine (dateOfDay_any _ k rfl _ HB.out.2.1 hk).mono ?_
      rintro e w5 ⟨rfl, hb5⟩
      have HZ : Hid (Below w.heap.size w w5) := HB.out.1.trans (hb5.mono HB.out.1.size)
      clear hb5
      go_wp2
      go_ret2
      exact ⟨rfl, HZ.out⟩
    · have hl1 : (0 : Int) < l := by omega
      by_cases hke : 2932896 ≤ k
      · rw [goUp_end S hl0 hke] at hgo
        subst hgo
        have hke1 : (2932896 : Int) < (k : Int) + 1 := by omega
        have hke2 : ¬ (k : Int) + 1 < 0 := by omega
        go_wp2
        go_ret2
        exact ⟨rfl, HB.out.1⟩
      · rw [goUp_step S hl0 hke] at hgo
        have HG : Hid (goUp S (k + 1) (if isOpen S (k + 1) then l - 1 else l) = R) := hgo
        clear hgo
        have hke1 : ¬ (2932896 : Int) < (k : Int) + 1 := by omega
        have hke2 : ¬ (k : Int) + 1 < 0 := by omega
        cases hop : isOpen S (k + 1)
        · rw [hop] at HG
          have hoc := openOn_any C S ((k : Int) + 1) (k + 1) rfl wr HB.out.2.2 (by omega)
          rw [hop] at hoc
          clear hop
          go_wp2_with (go_at_call 29; fail)
          refine hoc.mono ?_
          rintro e w5 ⟨rfl, hb5⟩
          have HZ : Hid (Below w.heap.size w w5) := HB.out.1.trans (hb5.mono HB.out.1.size)
          clear hb5
          go_wp2
          go_roundw
          case rel => exact ⟨k + 1, l, by omega, hl, by go_num, by first | rfl | trivial, HG.out, HZ.out⟩
          case measure => simp [intOf]; omega
        · rw [hop] at HG
          have hoc := openOn_any C S ((k : Int) + 1) (k + 1) rfl wr HB.out.2.2 (by omega)
          rw [hop] at hoc
          clear hop
          go_wp2_with (go_at_call 29; fail)
          refine hoc.mono ?_
          rintro e w5 ⟨rfl, hb5⟩
          have HZ : Hid (Below w.heap.size w w5) := HB.out.1.trans (hb5.mono HB.out.1.size)
          clear hb5
          go_wp2
          go_roundw
          case rel => exact ⟨k + 1, l - 1, by omega, by omega, by go_num, vint (by omega), HG.out, HZ.out⟩
          case measure => simp [intOf]; omega
end Go.Proofs.YtnhkmfofkhhnaaaDoor
