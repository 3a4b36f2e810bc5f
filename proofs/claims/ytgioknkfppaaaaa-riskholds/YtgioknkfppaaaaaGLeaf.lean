/-
  risk: the small questions.
-/
import Derived.Test.YtgioknkfppaaaaaGPlain
import Derived.Test.YtgioknkfppaaaaaGMul
namespace Go.Proofs.Ytgioknkfppaaaaa
set_option linter.unusedVariables false
set_option linter.unusedSimpArgs false
open Go.RowKit Go.Great

set_option maxRecDepth 100000 in
theorem within_any (x a b : Int) (w : World) : Calls Try.prog 22 #[.int .i64 x, .int .i64 a, .int .i64 b] w fun e w' => e = .returned (.bool (wiB x a b)) ∧ w' = w := by
  have HR : Hid (wiB x a b = (decide (a ≤ x) && decide (x ≤ b))) := rfl
  generalize wiB x a b = R at *
  by_cases h : a ≤ x
  · have hR : R = decide (x ≤ b) := by rw [HR.out, decide_eq_true h]; rfl
    clear HR
    subst hR
    go_enter Try.func22, Try.ntmps22
    go_wp2
    go_ret
    exact ⟨rfl, rfl⟩
  · have hR : R = false := by rw [HR.out, decide_eq_false h]; rfl
    clear HR
    subst hR
    go_enter Try.func22, Try.ntmps22
    go_wp2
    go_ret
    exact ⟨rfl, rfl⟩
set_option maxRecDepth 100000 in
theorem sum_any (a b : Int) (w : World) (a0 : -4000000000000000000 ≤ a) (a1 : a ≤ 4000000000000000000) (b0 : -4000000000000000000 ≤ b) (b1 : b ≤ 4000000000000000000) :
    Calls Try.prog 41 #[.int .i64 a, .int .i64 b] w fun e w' => e = .returned (.int .i64 (clI (a + b))) ∧ w' = w := by
  have g := fun w => Add_low a b w a0 a1 b0 b1
  clear a0 a1 b0 b1
  generalize a + b = n at *
  have HR : Hid (clI n = min (max n (-1000000000000000000)) 1000000000000000000) := rfl
  generalize clI n = R at *
  go_enter Try.func41, Try.ntmps41
  go_wp2_with (go_at_call 53; fail)
  refine (g _).mono ?_
  rintro e w1 ⟨rfl, rfl⟩
  go_wp2
  go_ret
  exact ⟨ret_int HR.out.symm, rfl⟩
theorem valueOf_any (o : Ord) (mark : Int) (w : World) (h : isoB o mark = true) :
    Calls Try.prog 25 #[.agg o.cs, .int .i64 mark] w fun e w' => e = .returned (.int .i64 (valI o mark)) ∧ Below w.heap.size w w' := by
  have HV : Hid (valI o mark = o.q * (if o.pr = 0 then mark else o.pr)) := rfl
  unfold isoB at h
  simp only [Bool.and_eq_true] at h
  obtain ⟨⟨⟨h1, h2⟩, h3⟩, _⟩ := h
  rw [wiB_iff] at h1 h2 h3
  generalize valI o mark = V at *
  obtain ⟨id, nm, ac, sy, sd, ty, lf, pr, sp, q, sh, dn, le, un, ow⟩ := o
  simp only [Ord.cs] at *
  have HB : Hid (∀ c : Array Value, Below w.heap.size w (w.alloc (.cells c 35))) := fun c => (Below.refl _ w).alloc (Nat.le_refl _) _
  by_cases hp : pr = 0
  · subst hp
    rw [if_pos rfl] at HV
    have g := fun w => Mul_low q mark w (by omega) h1.2 h3.1 h3.2
    clear h1 h2 h3
    go_enter Try.func25, Try.ntmps25
    go_wp2_with (go_at_call 43; fail)
    refine (g _).mono ?_
    rintro e w1 ⟨rfl, k, rfl⟩
    go_wp2
    go_ret
    exact ⟨ret_int HV.out.symm, below_drewN (HB.out _) k⟩
  · rw [if_neg hp] at HV
    have hp' : (pr == 0) = false := by rw [beq_eq_false_iff_ne]; exact hp
    have g := fun w => Mul_low q pr w (by omega) h1.2 h2.1 h2.2
    clear h1 h2 h3 hp
    go_enter Try.func25, Try.ntmps25
    go_wp2_with (go_at_call 43; fail)
    refine (g _).mono ?_
    rintro e w1 ⟨rfl, k, rfl⟩
    go_wp2
    go_ret
    exact ⟨ret_int HV.out.symm, below_drewN (HB.out _) k⟩
set_option maxRecDepth 100000 in
theorem isOrder_any (o : Ord) (mark : Int) (w : World) :
    Calls Try.prog 21 #[.agg o.cs, .int .i64 mark] w fun e w' => e = .returned (.bool (isoB o mark)) ∧ Below w.heap.size w w' := by
  unfold isoB
  obtain ⟨id, nm, ac, sy, sd, ty, lf, pr, sp, q, sh, dn, le, un, ow⟩ := o
  simp only [Ord.cs] at *
  have g1 := fun w => within_any q 1 1000000 w
  have g2 := fun w => within_any pr 0 1000000000 w
  have g3 := fun w => within_any mark 0 1000000000 w
  have HB : Hid (∀ c : Array Value, Below w.heap.size w (w.alloc (.cells c 35))) := fun c => (Below.refl _ w).alloc (Nat.le_refl _) _
  cases h1 : wiB q 1 1000000
  · rw [h1] at g1
    clear h1
    go_enter Try.func21, Try.ntmps21
    go_wp2_with (go_at_call 22; fail)
    refine (g1 _).mono ?_
    rintro e w1 ⟨rfl, rfl⟩
    go_wp2
    go_ret
    exact ⟨rfl, HB.out _⟩
  cases h2 : wiB pr 0 1000000000
  · rw [h1] at g1
    rw [h2] at g2
    clear h1 h2
    go_enter Try.func21, Try.ntmps21
    go_wp2_with (go_at_call 22; fail)
    refine (g1 _).mono ?_
    rintro e w1 ⟨rfl, rfl⟩
    go_wp2_with (go_at_call 22; fail)
    refine (g2 _).mono ?_
    rintro e w1 ⟨rfl, rfl⟩
    go_wp2
    go_ret
    exact ⟨rfl, HB.out _⟩
  cases h3 : wiB mark 0 1000000000
  · rw [h1] at g1
    rw [h2] at g2
    rw [h3] at g3
    clear h1 h2 h3
    go_enter Try.func21, Try.ntmps21
    go_wp2_with (go_at_call 22; fail)
    refine (g1 _).mono ?_
    rintro e w1 ⟨rfl, rfl⟩
    go_wp2_with (go_at_call 22; fail)
    refine (g2 _).mono ?_
    rintro e w1 ⟨rfl, rfl⟩
    go_wp2_with (go_at_call 22; fail)
    refine (g3 _).mono ?_
    rintro e w1 ⟨rfl, rfl⟩
    go_wp2
    go_ret
    exact ⟨rfl, HB.out _⟩
  rw [h1] at g1
  rw [h2] at g2
  rw [h3] at g3
  clear h1 h2 h3
  by_cases hs : sd = 1
  · subst hs
    go_enter Try.func21, Try.ntmps21
    go_wp2_with (go_at_call 22; fail)
    refine (g1 _).mono ?_
    rintro e w1 ⟨rfl, rfl⟩
    go_wp2_with (go_at_call 22; fail)
    refine (g2 _).mono ?_
    rintro e w1 ⟨rfl, rfl⟩
    go_wp2_with (go_at_call 22; fail)
    refine (g3 _).mono ?_
    rintro e w1 ⟨rfl, rfl⟩
    go_wp2
    go_ret
    exact ⟨rfl, HB.out _⟩
  · have hs' : (sd == 1) = false := by rw [beq_eq_false_iff_ne]; exact hs
    rw [hs']
    clear hs
    go_enter Try.func21, Try.ntmps21
    go_wp2_with (go_at_call 22; fail)
    refine (g1 _).mono ?_
    rintro e w1 ⟨rfl, rfl⟩
    go_wp2_with (go_at_call 22; fail)
    refine (g2 _).mono ?_
    rintro e w1 ⟨rfl, rfl⟩
    go_wp2_with (go_at_call 22; fail)
    refine (g3 _).mono ?_
    rintro e w1 ⟨rfl, rfl⟩
    go_wp2
    go_ret
    exact ⟨rfl, HB.out _⟩
end Go.Proofs.Ytgioknkfppaaaaa
