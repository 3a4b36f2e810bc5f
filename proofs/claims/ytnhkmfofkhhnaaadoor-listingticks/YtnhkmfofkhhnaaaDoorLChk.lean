/-
  listing: what an order may be.
-/
import Derived.Test.YtnhkmfofkhhnaaaDoorLPha
namespace Go.Proofs.YtnhkmfofkhhnaaaDoor
set_option linter.unusedVariables false
set_option linter.unusedSimpArgs false
open Go.Shelf Go.RowKit Go.Sort Go.Lib

/-- An order. -/
structure Ord where
  id : Int
  nm : ByteArray
  ac : ByteArray
  sy : ByteArray
  sd : Int
  ty : Int
  lf : Int
  pr : Int
  sp : Int
  q : Int
  sh : Int
  dn : Int
  le : Int
  un : Int
  ow : Int
def Ord.cs (o : Ord) : Array Value := #[.int .i64 o.id, .string o.nm, .string o.ac, .string o.sy, .int .i64 o.sd, .int .i64 o.ty, .int .i64 o.lf, .int .i64 o.pr, .int .i64 o.sp, .int .i64 o.q, .int .i64 o.sh, .int .i64 o.dn, .int .i64 o.le, .int .i64 o.un, .int .i64 o.ow]
theorem eqc (x c : Int) : ((x == c) = true ∧ (x != c) = false) ∨ ((x == c) = false ∧ (x != c) = true) := by
  by_cases h : x = c
  · exact .inl ⟨by simp [h], by simp [h]⟩
  · exact .inr ⟨by simp [h], by simp [h]⟩
def aoB (l : Int) : Bool := l == 2 || l == 3
def laB (l : Int) : Bool := l == 1 || l == 4 || l == 5
set_option maxRecDepth 100000 in
set_option maxHeartbeats 4000000 in
theorem isAtOnce_any (l : Int) (w : World) :
    Calls Tryd.prog 74 #[.int .i64 l] w fun e w' => e = .returned (.bool (aoB l)) ∧ w' = w := by
  unfold aoB
  rcases eqc l 2 with ⟨h1, g1⟩ | ⟨h1, g1⟩
  all_goals
    go_enter Tryd.func74, Tryd.ntmps74
    go_wp2
    go_ret
    exact ⟨ret_bool (by simp [h1]), rfl⟩
set_option maxRecDepth 100000 in
set_option maxHeartbeats 4000000 in
theorem isLasting_any (l : Int) (w : World) :
    Calls Tryd.prog 75 #[.int .i64 l] w fun e w' => e = .returned (.bool (laB l)) ∧ w' = w := by
  unfold laB
  rcases eqc l 1 with ⟨h1, g1⟩ | ⟨h1, g1⟩
  all_goals rcases eqc l 4 with ⟨h2, g2⟩ | ⟨h2, g2⟩
  all_goals
    go_enter Tryd.func75, Tryd.ntmps75
    go_wp2
    go_ret
    exact ⟨ret_bool (by simp [h1, h2]), rfl⟩
def tyB (o : Ord) : Bool := if o.ty = 1 then decide (0 < o.pr) && o.sp == 0 else if o.ty = 2 then (o.pr == 0 && o.sp == 0) && (aoB o.lf || o.lf == 6) else if o.ty = 3 then (o.pr == 0 && decide (0 < o.sp)) && laB o.lf else if o.ty = 4 then (decide (0 < o.pr) && decide (0 < o.sp)) && laB o.lf else false
set_option maxRecDepth 100000 in
set_option maxHeartbeats 4000000 in
theorem fitsType_any (o : Ord) (w : World) :
    Calls Tryd.prog 58 #[.agg o.cs] w fun e w' => e = .returned (.bool (tyB o)) ∧ Below w.heap.size w w' := by
  obtain ⟨id, nm, ac, sy, sd, ty, lf, pr, sp, q, sh, dn, le, un, ow⟩ := o
  unfold tyB
  simp only [Ord.cs] at *
  have ao := fun w => isAtOnce_any lf w
  have la := fun w => isLasting_any lf w
  generalize aoB lf = A at *
  generalize laB lf = B at *
  rcases Decidable.em (ty = 1) with rfl | t1
  · simp only [if_pos]
    by_cases h1 : 0 < pr
    all_goals
      go_enter Tryd.func58, Tryd.ntmps58
      go_wp2
      go_ret
      exact ⟨ret_bool (by first | (simp [h1]; done) | (simp [h1]; intros; omega)), (Below.refl _ w).alloc (Nat.le_refl _) _⟩
  rcases Decidable.em (ty = 2) with rfl | t2
  · rw [if_neg (by decide), if_pos rfl]
    rcases eqc pr 0 with ⟨h1, g1⟩ | ⟨h1, g1⟩
    all_goals rcases eqc sp 0 with ⟨h2, g2⟩ | ⟨h2, g2⟩
    all_goals cases A
    all_goals
      go_enter Tryd.func58, Tryd.ntmps58
      go_wp2_with (go_at_call 74; refine (ao _).mono ?_; rintro e w1 ⟨rfl, rfl⟩)
      go_ret
      exact ⟨ret_bool (by first | (simp [h1, h2]; done) | (simp [h1, h2]; intros; omega)), (Below.refl _ w).alloc (Nat.le_refl _) _⟩
  rcases Decidable.em (ty = 3) with rfl | t3
  · rw [if_neg (by decide), if_neg (by decide), if_pos rfl]
    rcases eqc pr 0 with ⟨h1, g1⟩ | ⟨h1, g1⟩
    all_goals by_cases h2 : 0 < sp
    all_goals
      go_enter Tryd.func58, Tryd.ntmps58
      go_wp2_with (go_at_call 75; refine (la _).mono ?_; rintro e w1 ⟨rfl, rfl⟩)
      go_ret
      exact ⟨ret_bool (by first | (simp [h1, h2]; done) | (simp [h1, h2]; intros; omega)), (Below.refl _ w).alloc (Nat.le_refl _) _⟩
  rcases Decidable.em (ty = 4) with rfl | t4
  · rw [if_neg (by decide), if_neg (by decide), if_neg (by decide), if_pos rfl]
    by_cases h1 : 0 < pr
    all_goals by_cases h2 : 0 < sp
    all_goals
      go_enter Tryd.func58, Tryd.ntmps58
      go_wp2_with (go_at_call 75; refine (la _).mono ?_; rintro e w1 ⟨rfl, rfl⟩)
      go_ret
      exact ⟨ret_bool (by first | (simp [h1, h2]; done) | (simp [h1, h2]; intros; omega)), (Below.refl _ w).alloc (Nat.le_refl _) _⟩
  · rw [if_neg t1, if_neg t2, if_neg t3, if_neg t4]
    have b1 : (ty == 1) = false := by simp [t1]
    have b2 : (ty == 2) = false := by simp [t2]
    have b3 : (ty == 3) = false := by simp [t3]
    have b4 : (ty == 4) = false := by simp [t4]
    clear t1 t2 t3 t4
    go_enter Tryd.func58, Tryd.ntmps58
    go_wp2
    go_ret
    exact ⟨rfl, (Below.refl _ w).alloc (Nat.le_refl _) _⟩
def shB (o : Ord) : Bool := o.sh == 0 || ((decide (0 < o.sh) && o.ty == 1) && (laB o.lf || o.lf == 7))
set_option maxRecDepth 100000 in
set_option maxHeartbeats 4000000 in
theorem fitsShow_any (o : Ord) (w : World) :
    Calls Tryd.prog 59 #[.agg o.cs] w fun e w' => e = .returned (.bool (shB o)) ∧ Below w.heap.size w w' := by
  obtain ⟨id, nm, ac, sy, sd, ty, lf, pr, sp, q, sh, dn, le, un, ow⟩ := o
  unfold shB
  simp only [Ord.cs] at *
  have ao := fun w => isAtOnce_any lf w
  have la := fun w => isLasting_any lf w
  generalize aoB lf = A at *
  generalize laB lf = B at *
  rcases eqc sh 0 with ⟨h0, g0⟩ | ⟨h0, g0⟩
  all_goals by_cases h1 : 0 < sh
  all_goals rcases eqc ty 1 with ⟨h2, g2⟩ | ⟨h2, g2⟩
  all_goals cases B
  all_goals
    go_enter Tryd.func59, Tryd.ntmps59
    go_wp2_with (first | (go_at_call 75; refine (la _).mono ?_; rintro e w1 ⟨rfl, rfl⟩))
    go_ret
    exact ⟨ret_bool (by first | (simp [h0, g0, h1, h2, g2]; done) | (simp [h0, g0, h1, h2, g2]; intros; omega)), (Below.refl _ w).alloc (Nat.le_refl _) _⟩
def leB (o : Ord) : Bool := o.le == 0 || ((decide (0 < o.le) && (o.ty == 1 || o.ty == 2)) && (laB o.lf || o.lf == 2))
set_option maxRecDepth 100000 in
set_option maxHeartbeats 4000000 in
theorem fitsLeast_any (o : Ord) (w : World) :
    Calls Tryd.prog 60 #[.agg o.cs] w fun e w' => e = .returned (.bool (leB o)) ∧ Below w.heap.size w w' := by
  obtain ⟨id, nm, ac, sy, sd, ty, lf, pr, sp, q, sh, dn, le, un, ow⟩ := o
  unfold leB
  simp only [Ord.cs] at *
  have ao := fun w => isAtOnce_any lf w
  have la := fun w => isLasting_any lf w
  generalize aoB lf = A at *
  generalize laB lf = B at *
  rcases eqc le 0 with ⟨h0, g0⟩ | ⟨h0, g0⟩
  all_goals by_cases h1 : 0 < le
  all_goals rcases eqc ty 1 with ⟨h2, g2⟩ | ⟨h2, g2⟩
  all_goals rcases eqc ty 2 with ⟨h3, g3⟩ | ⟨h3, g3⟩
  all_goals cases B
  all_goals
    go_enter Tryd.func60, Tryd.ntmps60
    go_wp2_with (first | (go_at_call 75; refine (la _).mono ?_; rintro e w1 ⟨rfl, rfl⟩))
    go_ret
    exact ⟨ret_bool (by first | (simp [h0, g0, h1, h2, g2, h3, g3]; done) | (simp [h0, g0, h1, h2, g2, h3, g3]; intros; omega)), (Below.refl _ w).alloc (Nat.le_refl _) _⟩
def caB (o : Ord) : Bool := (!aoB o.lf && o.lf != 7) && o.le == 0
set_option maxRecDepth 100000 in
set_option maxHeartbeats 4000000 in
theorem fitsCall_any (o : Ord) (w : World) :
    Calls Tryd.prog 62 #[.agg o.cs] w fun e w' => e = .returned (.bool (caB o)) ∧ Below w.heap.size w w' := by
  obtain ⟨id, nm, ac, sy, sd, ty, lf, pr, sp, q, sh, dn, le, un, ow⟩ := o
  unfold caB
  simp only [Ord.cs] at *
  have ao := fun w => isAtOnce_any lf w
  have la := fun w => isLasting_any lf w
  generalize aoB lf = A at *
  generalize laB lf = B at *
  cases A
  all_goals rcases eqc lf 7 with ⟨h1, g1⟩ | ⟨h1, g1⟩
  all_goals
    go_enter Tryd.func62, Tryd.ntmps62
    go_wp2_with (first | (go_at_call 74; refine (ao _).mono ?_; rintro e w1 ⟨rfl, rfl⟩))
    go_ret
    exact ⟨ret_bool (by first | (simp [h1, g1]; done) | (simp [h1, g1]; intros; omega)), (Below.refl _ w).alloc (Nat.le_refl _) _⟩
def unB (o : Ord) (date : Int) : Bool := if o.lf = 5 then dnB o.un && decide (date ≤ o.un) else o.un == 0
set_option maxRecDepth 100000 in
set_option maxHeartbeats 4000000 in
theorem fitsUntil_any (o : Ord) (date : Int) (w : World) (hM : Mon w) (u0 : -9223372036854775808 ≤ o.un) (u1 : o.un ≤ 9223372036854775807) :
    Calls Tryd.prog 61 #[.agg o.cs, .int .i64 date] w fun e w' => e = .returned (.bool (unB o date)) ∧ Below w.heap.size w w' := by
  have hs := fun w h => Start_any o.un w h u0 u1
  obtain ⟨id, nm, ac, sy, sd, ty, lf, pr, sp, q, sh, dn, le, un, ow⟩ := o
  unfold unB
  simp only [Ord.cs] at *
  have HM : Hid (Mon (w.alloc (.cells #[.int .i64 id, .string nm, .string ac, .string sy, .int .i64 sd, .int .i64 ty, .int .i64 lf, .int .i64 pr, .int .i64 sp, .int .i64 q, .int .i64 sh, .int .i64 dn, .int .i64 le, .int .i64 un, .int .i64 ow] 50))) := hM.below ((Below.refl _ w).alloc (Nat.le_refl _) _) hM.lt
  clear hM u0 u1
  rcases Decidable.em (lf = 5) with rfl | t5
  · rw [if_pos rfl]
    unfold dtE at hs
    generalize dnV un = v at *
    cases hd : dnB un
    all_goals
      rw [hd] at hs
      simp only [if_true, if_false, Bool.false_eq_true] at hs
      clear hd
      by_cases h1 : date ≤ un
      all_goals
        go_enter Tryd.func61, Tryd.ntmps61
        go_wp2_with (go_at_call 14; refine (hs _ HM.out).mono ?_; rintro e w1 ⟨rfl, rfl⟩)
        go_ret
        exact ⟨ret_bool (by first | (simp [h1]; done) | (simp [h1]; intros; omega)), (Below.refl _ w).alloc (Nat.le_refl _) _⟩
  · rw [if_neg t5]
    have b5 : (lf != 5) = true := by simp [t5]
    clear t5
    go_enter Tryd.func61, Tryd.ntmps61
    go_wp2
    go_ret
    exact ⟨rfl, (Below.refl _ w).alloc (Nat.le_refl _) _⟩
end Go.Proofs.YtnhkmfofkhhnaaaDoor
