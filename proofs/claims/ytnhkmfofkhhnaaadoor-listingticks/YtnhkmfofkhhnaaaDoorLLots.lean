/-
  listing: fitsLots.
-/
import Derived.Test.YtnhkmfofkhhnaaaDoorLChk2
namespace Go.Proofs.YtnhkmfofkhhnaaaDoor
set_option linter.unusedVariables false
set_option linter.unusedSimpArgs false
open Go.Shelf Go.RowKit Go.Sort Go.Lib

def ptV (q sh le : Int) (k : Nat) : Int := if k = 0 then q else if k = 1 then sh else le
def loB (I : Ins) (o : Ord) : Bool := (wiB o.q 1 I.most && decide (o.sh ≤ o.q) && decide (o.le ≤ o.q)) && (decide (o.q % I.lot = 0) && decide (o.sh % I.lot = 0) && decide (o.le % I.lot = 0)) && (o.sh == 0 || decide (o.q ≤ o.sh * 100))
theorem idx3 (q sh le : Int) : ∀ k : Nat, k < 3 → ∀ w, Sem.run Tryd.prog (Instr.index 94 (.agg #[.int .i64 q, .int .i64 sh, .int .i64 le]) (.int .i64 (k : Int))) w = .ok (.int .i64 (ptV q sh le k)) w
  | 0, _, w => by kernel_rfl
  | 1, _, w => by kernel_rfl
  | 2, _, w => by kernel_rfl
  | k + 3, h, w => absurd h (by omega)
set_option maxRecDepth 100000 in
set_option maxHeartbeats 4000000 in
theorem fitsLots_any (L B C : Nat) (I : Ins) (o : Ord) (w : World) (h : LisAt w L B I C) (h0 : 0 ≤ o.sh) (h1 : 0 ≤ o.le) :
    Calls Tryd.prog 36 #[.pointer (some ⟨L, 0, none⟩), .agg o.cs] w fun e w' => e = .returned (.bool (loB I o)) ∧ Below w.heap.size w w' := by
  obtain ⟨q1, q2, _, _, _⟩ := h.nums
  obtain ⟨l1, l2, l3, _⟩ := (ins_ok h.ok).2.1
  have hlt : L < w.heap.size := World.block_lt_of_cell? _ _ q1
  unfold loB
  generalize I.lot = lot at *
  generalize I.most = most at *
  clear h
  obtain ⟨id, nm, ac, sy, sd, ty, lf, pr, sp, q, sh, dn, le, un, ow⟩ := o
  simp only [Ord.cs] at *
  have hw := fun w => within64_any q 1 most w
  have H0 : Hid (Below w.heap.size w (w.alloc (.cells #[.int .i64 id, .string nm, .string ac, .string sy, .int .i64 sd, .int .i64 ty, .int .i64 lf, .int .i64 pr, .int .i64 sp, .int .i64 q, .int .i64 sh, .int .i64 dn, .int .i64 le, .int .i64 un, .int .i64 ow] 50)) ∧ Blk (w.alloc (.cells #[.int .i64 id, .string nm, .string ac, .string sy, .int .i64 sd, .int .i64 ty, .int .i64 lf, .int .i64 pr, .int .i64 sp, .int .i64 q, .int .i64 sh, .int .i64 dn, .int .i64 le, .int .i64 un, .int .i64 ow] 50)) w.heap.size 50 #[.int .i64 id, .string nm, .string ac, .string sy, .int .i64 sd, .int .i64 ty, .int .i64 lf, .int .i64 pr, .int .i64 sp, .int .i64 q, .int .i64 sh, .int .i64 dn, .int .i64 le, .int .i64 un, .int .i64 ow]) := ⟨(Below.refl _ w).alloc (Nat.le_refl _) _, Blk.new _ _ _⟩
  have hW : ∀ (cs : Array Value), Blk (w.alloc (.cells cs 50)) w.heap.size 50 cs := fun cs => Blk.new _ _ _
  have c1 : (w.alloc (.cells #[.int .i64 id, .string nm, .string ac, .string sy, .int .i64 sd, .int .i64 ty, .int .i64 lf, .int .i64 pr, .int .i64 sp, .int .i64 q, .int .i64 sh, .int .i64 dn, .int .i64 le, .int .i64 un, .int .i64 ow] 50)).cell? ⟨L, 1, none⟩ = some (.int .i64 lot) := by rw [H0.out.1.cell (p := ⟨L, 1, none⟩) hlt]; exact q1
  have c2 : (w.alloc (.cells #[.int .i64 id, .string nm, .string ac, .string sy, .int .i64 sd, .int .i64 ty, .int .i64 lf, .int .i64 pr, .int .i64 sp, .int .i64 q, .int .i64 sh, .int .i64 dn, .int .i64 le, .int .i64 un, .int .i64 ow] 50)).cell? ⟨L, 2, none⟩ = some (.int .i64 most) := by rw [H0.out.1.cell (p := ⟨L, 2, none⟩) hlt]; exact q2
  clear hW
  generalize hR : ((wiB q 1 most && decide (sh ≤ q) && decide (le ≤ q)) && (decide (q % lot = 0) && decide (sh % lot = 0) && decide (le % lot = 0)) && (sh == 0 || decide (q ≤ sh * 100))) = R
  have HR : Hid (((wiB q 1 most && decide (sh ≤ q) && decide (le ≤ q)) && (decide (q % lot = 0) && decide (sh % lot = 0) && decide (le % lot = 0)) && (sh == 0 || decide (q ≤ sh * 100))) = R) := hR
  clear hR
  go_enter Tryd.func36, Tryd.ntmps36
  go_upto_region 1 with fail
  have c9 := H0.out.2.cell 9
  have c10 := H0.out.2.cell 10
  have c12 := H0.out.2.cell 12
  simp only [List.getElem?_toArray, List.getElem?_cons_succ, List.getElem?_cons_zero] at c9 c10 c12
  generalize (w.alloc (.cells #[.int .i64 id, .string nm, .string ac, .string sy, .int .i64 sd, .int .i64 ty, .int .i64 lf, .int .i64 pr, .int .i64 sp, .int .i64 q, .int .i64 sh, .int .i64 dn, .int .i64 le, .int .i64 un, .int .i64 ow] 50)) = W at *
  have HB : Hid (Below w.heap.size w W) := H0.out.1
  clear H0 q1 q2
  cases hwi : wiB q 1 most
  · have hr : R = false := by rw [← HR.out, hwi]; rfl
    rw [hwi] at hw
    clear hwi
    go_quiet ((go_at_call 41; refine Calls.quiet_of_same (hw _)))
    go_wp2
    go_ret
    exact ⟨ret_bool hr.symm, below_drewN HB.out _⟩
  rw [hwi] at hw
  obtain ⟨m0, m1⟩ := wiB_iff.1 hwi
  by_cases hs : q < sh
  · have hd : decide (q < sh) = true := by simp [hs]
    have hr : R = false := by rw [← HR.out, hwi, decide_eq_false (show ¬ sh ≤ q by omega)]; rfl
    clear hs hwi
    go_quiet ((go_at_call 41; refine Calls.quiet_of_same (hw _)))
    go_wp2
    go_ret
    exact ⟨ret_bool hr.symm, below_drewN HB.out _⟩
  have hd : decide (q < sh) = false := by simp; omega
  by_cases hl : q < le
  · have he : decide (q < le) = true := by simp [hl]
    have hr : R = false := by rw [← HR.out, hwi, decide_eq_true (show sh ≤ q by omega), decide_eq_false (show ¬ le ≤ q by omega)]; rfl
    clear hl hs hwi
    go_quiet ((go_at_call 41; refine Calls.quiet_of_same (hw _)))
    go_wp2
    go_ret
    exact ⟨ret_bool hr.symm, below_drewN HB.out _⟩
  have he : decide (q < le) = false := by simp; omega
  rw [hwi, decide_eq_true (show sh ≤ q by omega), decide_eq_true (show le ≤ q by omega)] at HR
  simp only [Bool.true_and] at HR
  clear hwi
  have hl0 : (lot == 0) = false := by simp; omega
  have HI : Hid (∀ k : Nat, k < 3 → ∀ w, Sem.run Tryd.prog (Instr.index 94 (.agg #[.int .i64 q, .int .i64 sh, .int .i64 le]) (.int .i64 (k : Int))) w = .ok (.int .i64 (ptV q sh le k)) w) := idx3 q sh le
  have HU : Hid ((∀ j, j < 3 → ptV q sh le j % lot = 0) → (sh == 0 || decide (q ≤ sh * 100)) = R) := fun h => by
    have a := h 0 (by omega)
    have b := h 1 (by omega)
    have c := h 2 (by omega)
    rw [← HR.out, decide_eq_true (show q % lot = 0 from a), decide_eq_true (show sh % lot = 0 from b), decide_eq_true (show le % lot = 0 from c)]
    rfl
  have HV : Hid (∀ j, j < 3 → ¬ ptV q sh le j % lot = 0 → R = false) := fun j hj h => by
    rw [← HR.out]
    have : j = 0 ∨ j = 1 ∨ j = 2 := by omega
    rcases this with rfl | rfl | rfl
    · rw [decide_eq_false (show ¬ q % lot = 0 from h)]; rfl
    · rw [decide_eq_false (show ¬ sh % lot = 0 from h), Bool.and_false]; rfl
    · rw [decide_eq_false (show ¬ le % lot = 0 from h), Bool.and_false]; rfl
  have HP : Hid (∀ j, j < 3 → 0 ≤ ptV q sh le j) := fun j hj => by
    have : j = 0 ∨ j = 1 ∨ j = 2 := by omega
    rcases this with rfl | rfl | rfl
    · show 0 ≤ q; omega
    · exact h0
    · exact h1
  clear HR
  go_quiet ((go_at_call 41; refine Calls.quiet_of_same (hw _)))
  go_wp2
  have HB2 : Hid (Below w.heap.size w (W.drewN nq)) := below_drewN HB.out _
  have d1 : (W.drewN nq).cell? ⟨L, 1, none⟩ = some (.int .i64 lot) := c1
  have d9 : (W.drewN nq).cell? ⟨w.heap.size, 9, none⟩ = some (.int .i64 q) := c9
  have d10 : (W.drewN nq).cell? ⟨w.heap.size, 10, none⟩ = some (.int .i64 sh) := c10
  generalize W.drewN nq = W2 at *
  clear c1 c2 c9 c10 c12 HB hw hd he
  go_loopw [6, 37] (fun _ i wr => ∃ k : Nat, k ≤ 3 ∧ i = .int .i64 (k : Int) ∧ (∀ j, j < k → ptV q sh le j % lot = 0) ∧ wr = W2) (fun _ i _ => 3 - (intOf i).toNat)
  case atStart => exact ⟨0, by omega, rfl, fun j hj => by omega, rfl⟩
  case round =>
    obtain ⟨k, hk, rfl, hall, rfl⟩ := hrel
    have HA : Hid (∀ j, j < k → ptV q sh le j % lot = 0) := hall
    clear hall
    by_cases hk3 : k < 3
    · have hki : (k : Int) < 3 := by omega
      have hix := HI.out k hk3
      have hp0 := HP.out k hk3
      have HV2 : Hid (¬ ptV q sh le k % lot = 0 → R = false) := HV.out k hk3
      have HA2 : Hid (ptV q sh le k % lot = 0 → ∀ j, j < k + 1 → ptV q sh le j % lot = 0) := fun h j hj => by
        rcases Nat.lt_or_ge j k with h1 | h1
        · exact HA.out j h1
        · rw [show j = k by omega]; exact h
      generalize ptV q sh le k = pt at *
      by_cases hm : pt % lot = 0
      · have HA3 : Hid (∀ j, j < k + 1 → ptV q sh le j % lot = 0) := HA2.out hm
        go_wp2
        exact ⟨⟨k + 1, by omega, by go_num, HA3.out, trivial⟩, by simp [intOf]; omega⟩
      · have hr := HV2.out hm
        have hm2 : (pt % lot != 0) = true := by simp [hm]
        clear hm
        go_wp2
        go_ret
        exact ⟨ret_bool hr.symm, HB2.out⟩
    · have hki : ¬ (k : Int) < 3 := by omega
      have hr := HU.out (fun j hj => HA.out j (by omega))
      have hs0 : 0 ≤ sh * 100 := by omega
      have hwr : wrap64 (sh * 100) = sh * 100 := by unfold wrap64; omega
      clear hs hl
      rcases eqc sh 0 with ⟨g1, g2⟩ | ⟨g1, g2⟩
      · rw [g1] at hr
        go_wp2
        go_ret
        exact ⟨ret_bool hr, HB2.out⟩
      · rw [g1, Bool.false_or] at hr
        by_cases hq : q ≤ sh * 100
        all_goals
          go_wp2
          go_ret
          exact ⟨ret_bool (by rw [← hr]; simp [hq]), HB2.out⟩
end Go.Proofs.YtnhkmfofkhhnaaaDoor
