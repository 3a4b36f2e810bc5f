/-
  listing: areLots, follows, areSteps, mayTurnTo, areTurns, areFees, isInstrument, New.
-/
import Derived.Test.YtnhkmfofkhhnaaaDoorLClone
import Derived.Test.YtnhkmfofkhhnaaaDoorLPhase
namespace Go.Proofs.YtnhkmfofkhhnaaaDoor
set_option linter.unusedVariables false
open Go.Shelf Go.RowKit Go.Sort Go.Lib

def lotB (lot most : Int) : Bool := wiB lot 1 1000000 && wiB most lot 1000000 && decide (most % lot = 0)
set_option maxRecDepth 100000 in
set_option maxHeartbeats 400000 in
theorem areLots_any (lot most : Int) (w : World) :
    Calls Tryd.prog 45 #[.int .i64 lot, .int .i64 most] w fun e w' => e = .returned (.bool (lotB lot most)) ∧ w' = w := by
  unfold lotB
  have h1 := fun w => within64_any lot 1 1000000 w
  have h2 := fun w => within64_any most lot 1000000 w
  cases hb1 : wiB lot 1 1000000
  · rw [hb1] at h1
    go_enter Tryd.func45, Tryd.ntmps45
    go_wp2_with (go_at_call 41; fail)
    refine (h1 _).mono ?_
    rintro e w1 ⟨rfl, rfl⟩
    go_wp2
    go_ret
    exact ⟨rfl, rfl⟩
  · rw [hb1] at h1
    have hb1' : 1 ≤ lot ∧ lot ≤ 1000000 := by simpa [wiB] using hb1
    cases hb2 : wiB most lot 1000000
    · rw [hb2] at h2
      go_enter Tryd.func45, Tryd.ntmps45
      go_wp2_with (go_at_call 41; fail)
      refine (h1 _).mono ?_
      rintro e w1 ⟨rfl, rfl⟩
      go_wp2_with (go_at_call 41; fail)
      refine (h2 _).mono ?_
      rintro e w1 ⟨rfl, rfl⟩
      go_wp2
      go_ret
      exact ⟨rfl, rfl⟩
    · rw [hb2] at h2
      have hb2' : lot ≤ most ∧ most ≤ 1000000 := by simpa [wiB] using hb2
      obtain ⟨l0, l1⟩ := hb1'
      obtain ⟨m0, m1⟩ := hb2'
      have l00 : (lot == 0) = false := by simp; omega
      have m00 : 0 ≤ most := by omega
      clear hb1 hb2
      go_enter Tryd.func45, Tryd.ntmps45
      go_wp2_with (go_at_call 41; fail)
      refine (h1 _).mono ?_
      rintro e w1 ⟨rfl, rfl⟩
      go_wp2_with (go_at_call 41; fail)
      refine (h2 _).mono ?_
      rintro e w1 ⟨rfl, rfl⟩
      go_wp2
      go_ret
      exact ⟨ret_bool (Bool.eq_iff_iff.2 (by simp)), rfl⟩
def feeB (maker taker : Int) : Bool := wiB maker (-10000) 10000 && wiB taker 0 10000 && decide (0 ≤ maker + taker)
set_option maxRecDepth 100000 in
set_option maxHeartbeats 400000 in
theorem areFees_any (maker taker : Int) (w : World) :
    Calls Tryd.prog 50 #[.int .i64 maker, .int .i64 taker] w fun e w' => e = .returned (.bool (feeB maker taker)) ∧ w' = w := by
  unfold feeB
  have h1 := fun w => within_any maker (-10000) 10000 w
  have h2 := fun w => within_any taker 0 10000 w
  cases hb1 : wiB maker (-10000) 10000
  · rw [hb1] at h1
    go_enter Tryd.func50, Tryd.ntmps50
    go_wp2_with (go_at_call 47; fail)
    refine (h1 _).mono ?_
    rintro e w1 ⟨rfl, rfl⟩
    go_wp2
    go_ret
    exact ⟨rfl, rfl⟩
  · rw [hb1] at h1
    obtain ⟨l0, l1⟩ : -10000 ≤ maker ∧ maker ≤ 10000 := by simpa [wiB] using hb1
    cases hb2 : wiB taker 0 10000
    · rw [hb2] at h2
      clear l0 l1
      go_enter Tryd.func50, Tryd.ntmps50
      go_wp2_with (go_at_call 47; fail)
      refine (h1 _).mono ?_
      rintro e w1 ⟨rfl, rfl⟩
      go_wp2_with (go_at_call 47; fail)
      refine (h2 _).mono ?_
      rintro e w1 ⟨rfl, rfl⟩
      go_wp2
      go_ret
      exact ⟨rfl, rfl⟩
    · rw [hb2] at h2
      obtain ⟨m0, m1⟩ : 0 ≤ taker ∧ taker ≤ 10000 := by simpa [wiB] using hb2
      have hw : wrap64 (maker + taker) = maker + taker := by unfold wrap64; omega
      clear hb1 hb2
      by_cases hs : 0 ≤ maker + taker
      all_goals
        go_enter Tryd.func50, Tryd.ntmps50
        go_wp2_with (go_at_call 47; fail)
        refine (h1 _).mono ?_
        rintro e w1 ⟨rfl, rfl⟩
        go_wp2_with (go_at_call 47; fail)
        refine (h2 _).mono ?_
        rintro e w1 ⟨rfl, rfl⟩
        go_wp2
        go_ret
        exact ⟨ret_bool (by simp [hs]), rfl⟩
/-- Whether a step may begin where it does, behind one that may be. -/
def folB (f f0 t0 : Int) : Bool := wiB f (f0 + 1) 1000000000 && decide ((f - f0) % t0 = 0)
set_option maxRecDepth 100000 in
set_option maxHeartbeats 400000 in
theorem follows_any (f t f0 t0 : Int) (w : World) (h0 : 0 ≤ f0) (h1 : f0 ≤ 1000000000) (h2 : 1 ≤ t0) :
    Calls Tryd.prog 72 #[.agg #[.int .i64 f, .int .i64 t], .agg #[.int .i64 f0, .int .i64 t0]] w fun e w' => e = .returned (.bool (folB f f0 t0)) ∧ Below w.heap.size w w' := by
  unfold folB
  have hw := fun w => within64_any f (f0 + 1) 1000000000 w
  have hb : Below w.heap.size w ((w.alloc (.cells #[.int .i64 f, .int .i64 t] 55)).alloc (.cells #[.int .i64 f0, .int .i64 t0] 55)) := ((Below.refl _ w).alloc (Nat.le_refl _) _).alloc (by simp) _
  have HB : Hid (Below w.heap.size w ((w.alloc (.cells #[.int .i64 f, .int .i64 t] 55)).alloc (.cells #[.int .i64 f0, .int .i64 t0] 55))) := hb
  clear hb
  have ht0 : (t0 == 0) = false := by simp; omega
  cases hb1 : wiB f (f0 + 1) 1000000000
  · rw [hb1] at hw
    go_enter Tryd.func72, Tryd.ntmps72
    go_wp2_with (go_at_call 41; fail)
    refine (hw _).mono ?_
    rintro e w1 ⟨rfl, rfl⟩
    go_wp2
    go_ret
    exact ⟨rfl, HB.out⟩
  · rw [hb1] at hw
    obtain ⟨l0, l1⟩ : f0 + 1 ≤ f ∧ f ≤ 1000000000 := by simpa [wiB] using hb1
    clear hb1
    have hd : 0 ≤ f - f0 := by omega
    go_enter Tryd.func72, Tryd.ntmps72
    go_wp2_with (go_at_call 41; fail)
    refine (hw _).mono ?_
    rintro e w1 ⟨rfl, rfl⟩
    go_wp2
    go_ret
    exact ⟨ret_bool (Bool.eq_iff_iff.2 (by simp)), HB.out⟩
def mtB (p : Int) : Bool := p == 0 || p == 1 || p == 3 || p == 5
set_option maxRecDepth 100000 in
set_option maxHeartbeats 400000 in
theorem mayTurnTo_any (p : Int) (w : World) :
    Calls Tryd.prog 73 #[.int .i64 p] w fun e w' => e = .returned (.bool (mtB p)) ∧ w' = w := by
  by_cases h : p = 0 ∨ p = 1 ∨ p = 3 ∨ p = 5
  · rcases h with rfl | rfl | rfl | rfl
    all_goals
      go_enter Tryd.func73, Tryd.ntmps73
      go_wp2
      go_ret
      exact ⟨rfl, rfl⟩
  · have e0 : (p == 0) = false := by simp; omega
    have e1 : (p == 1) = false := by simp; omega
    have e3 : (p == 3) = false := by simp; omega
    have e5 : (p == 5) = false := by simp; omega
    have hm : mtB p = false := by unfold mtB; rw [e0, e1, e3, e5]; rfl
    rw [hm]
    clear hm
    go_enter Tryd.func73, Tryd.ntmps73
    go_wp2
    go_ret
    exact ⟨rfl, rfl⟩
end Go.Proofs.YtnhkmfofkhhnaaaDoor
