/-
  ledger: within, mayBe, opposite; what a trade books (plain).
-/
import Derived.Test.YtidhahooebepfaaJLg
namespace Go.Proofs.Ytidhahooebepfaa
set_option linter.unusedVariables false
set_option linter.unusedSimpArgs false
open Go.RowKit Go.Great Go.Maps

def wiB (n lo hi : Int) : Bool := decide (lo ≤ n) && decide (n ≤ hi)
theorem wiB_iff {n lo hi : Int} : wiB n lo hi = true ↔ lo ≤ n ∧ n ≤ hi := by unfold wiB; simp
set_option maxRecDepth 100000 in
theorem within_any (n lo hi : Int) (w : World) : Calls Try.prog 36 #[.int .i64 n, .int .i64 lo, .int .i64 hi] w fun e w' => e = .returned (.bool (wiB n lo hi)) ∧ w' = w := by
  by_cases h1 : lo ≤ n
  · by_cases h2 : n ≤ hi
    · have hw : wiB n lo hi = true := wiB_iff.2 ⟨h1, h2⟩
      rw [hw]
      clear hw
      go_enter Try.func36, Try.ntmps36
      go_wp2
      go_ret
      exact ⟨rfl, rfl⟩
    · have hw : wiB n lo hi = false := by rw [← Bool.not_eq_true]; exact fun h => h2 (wiB_iff.1 h).2
      rw [hw]
      clear hw
      go_enter Try.func36, Try.ntmps36
      go_wp2
      go_ret
      exact ⟨rfl, rfl⟩
  · have hw : wiB n lo hi = false := by rw [← Bool.not_eq_true]; exact fun h => h1 (wiB_iff.1 h).1
    rw [hw]
    clear hw
    go_enter Try.func36, Try.ntmps36
    go_wp2
    go_ret
    exact ⟨rfl, rfl⟩
def Tr.may (t : Tr) : Bool := ((wiB t.pr 1 1000000000 && wiB t.qt 1 1000000) && wiB t.bf (-1000000000000000) 1000000000000000) && wiB t.sf (-1000000000000000) 1000000000000000
set_option maxRecDepth 100000 in
set_option maxHeartbeats 1000000 in
theorem mayBe_any (t : Tr) (w : World) : Calls Try.prog 23 #[.agg t.cs] w fun e w' => e = .returned (.bool t.may) ∧ Below w.heap.size w w' := by
  have h1 := fun w => within_any t.pr 1 1000000000 w
  have h2 := fun w => within_any t.qt 1 1000000 w
  have h3 := fun w => within_any t.bf (-1000000000000000) 1000000000000000 w
  have h4 := fun w => within_any t.sf (-1000000000000000) 1000000000000000 w
  unfold Tr.may Tr.cs
  generalize wiB t.pr 1 1000000000 = x1 at *
  generalize wiB t.qt 1 1000000 = x2 at *
  generalize wiB t.bf (-1000000000000000) 1000000000000000 = x3 at *
  generalize wiB t.sf (-1000000000000000) 1000000000000000 = x4 at *
  have HB : Hid (Below w.heap.size w (w.alloc (.cells #[.string t.sy, .string t.bu, .string t.se, .int .i64 t.pr, .int .i64 t.qt, .int .i64 t.bf, .int .i64 t.sf] 69))) := (Below.refl _ w).alloc (Nat.le_refl _) _
  obtain ⟨sy, bu, se, pr, qt, bf, sf⟩ := t
  simp only at *
  cases x1
  · go_enter Try.func23, Try.ntmps23
    go_wp2_with (go_at_call 36; refine (h1 _).mono ?_; rintro e w1 ⟨rfl, rfl⟩)
    go_ret
    exact ⟨rfl, HB.out⟩
  · cases x2
    · go_enter Try.func23, Try.ntmps23
      go_wp2_with (go_at_call 36; fail)
      refine (h1 _).mono ?_
      rintro e w1 ⟨rfl, rfl⟩
      go_wp2_with (go_at_call 36; fail)
      refine (h2 _).mono ?_
      rintro e w1 ⟨rfl, rfl⟩
      go_wp2
      go_ret
      exact ⟨rfl, HB.out⟩
    · cases x3
      · go_enter Try.func23, Try.ntmps23
        go_wp2_with (go_at_call 36; fail)
        refine (h1 _).mono ?_
        rintro e w1 ⟨rfl, rfl⟩
        go_wp2_with (go_at_call 36; fail)
        refine (h2 _).mono ?_
        rintro e w1 ⟨rfl, rfl⟩
        go_wp2_with (go_at_call 36; fail)
        refine (h3 _).mono ?_
        rintro e w1 ⟨rfl, rfl⟩
        go_wp2
        go_ret
        exact ⟨rfl, HB.out⟩
      · go_enter Try.func23, Try.ntmps23
        go_wp2_with (go_at_call 36; fail)
        refine (h1 _).mono ?_
        rintro e w1 ⟨rfl, rfl⟩
        go_wp2_with (go_at_call 36; fail)
        refine (h2 _).mono ?_
        rintro e w1 ⟨rfl, rfl⟩
        go_wp2_with (go_at_call 36; fail)
        refine (h3 _).mono ?_
        rintro e w1 ⟨rfl, rfl⟩
        go_wp2_with (go_at_call 36; fail)
        refine (h4 _).mono ?_
        rintro e w1 ⟨rfl, rfl⟩
        go_wp2
        go_ret
        exact ⟨by cases x4 <;> rfl, HB.out⟩
def Bk.opp (b : Bk) : Bk := ⟨b.ac, b.sy, -b.q, -b.c, -b.f⟩
set_option maxRecDepth 100000 in
set_option maxHeartbeats 1000000 in
theorem opposite_any (b : Bk) (w : World) (r1 : -9223372036854775807 ≤ b.q ∧ b.q ≤ 9223372036854775807) (r2 : -9223372036854775807 ≤ b.c ∧ b.c ≤ 9223372036854775807) (r3 : -9223372036854775807 ≤ b.f ∧ b.f ≤ 9223372036854775807) :
    Calls Try.prog 26 #[.agg b.cs] w fun e w' => e = .returned (.agg b.opp.cs) ∧ Below w.heap.size w w' := by
  have e1 : wrap64 (-b.q) = -b.q := by unfold wrap64; omega
  have e2 : wrap64 (-b.c) = -b.c := by unfold wrap64; omega
  have e3 : wrap64 (-b.f) = -b.f := by unfold wrap64; omega
  clear r1 r2 r3
  obtain ⟨ac, sy, q, c, f⟩ := b
  simp only [Bk.cs, Bk.opp] at *
  go_enter Try.func26, Try.ntmps26
  go_wp2
  try simp only [Exit.inBlock, Exit.then]
  refine bodyPost_ret (results_cell_row (fn := Try.f26) (p := 2) (ty := 42) rfl _ _ (w.heap.size + 1) 42 _ (0, 0) _ (by rfl) (Blk.new' _ _ _ (by simp)) Try.underlying42 rfl (by kernel_rfl)) rfl ?_
  exact ⟨rfl, ((Below.refl _ w).alloc (Nat.le_refl _) _).alloc (by simp) _⟩
end Go.Proofs.Ytidhahooebepfaa
