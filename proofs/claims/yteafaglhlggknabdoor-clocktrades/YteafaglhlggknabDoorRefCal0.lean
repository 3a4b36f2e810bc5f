/-
  Plain: what a calendar answers; the reference's calendar in memory.
-/
import Derived.Test.YteafaglhlggknabDoorNewCal
import Derived.Test.YteafaglhlggknabDoorRefDate
namespace Go.Proofs.YteafaglhlggknabDoor
set_option linter.unusedVariables false
open Go.Shelf Go.RowKit Go.Sort Go.Lib Go.Maps

theorem dn_inj {a b : Int} (ha : dnB a = true) (hb : dnB b = true) (h : dnV a = dnV b) : a = b := by
  obtain ⟨n, h1, h2, h3⟩ := dn_range ha
  obtain ⟨m, h4, h5, h6⟩ := dn_range hb
  rw [h2, h5] at h
  have e : n = m := by omega
  rw [(dnum_some h1).2, (dnum_some h4).2, e]
def offB (d : Nat → Int) (n : Nat) (z : Int) : Bool := (List.range n).any fun j => d j == z
theorem offB_day {d : Nat → Int} {n : Nat} {z : Int} (hok : ∀ j, j < n → dnB (d j) = true) (hz : dnB z = true) : offB d n z = daySet d n (dnV z) := by
  unfold offB daySet
  rw [Bool.eq_iff_iff, List.any_eq_true, List.any_eq_true]
  constructor
  · rintro ⟨j, hj, h⟩
    refine ⟨j, hj, ?_⟩
    have e : d j = z := by simpa using h
    rw [e]; simp
  · rintro ⟨j, hj, h⟩
    refine ⟨j, hj, ?_⟩
    have e : dnV (d j) = dnV z := by simpa using h
    rw [dn_inj (hok j (List.mem_range.1 hj)) hz e]; simp
theorem offB_yes {d : Nat → Int} {n j : Nat} {z : Int} (hj : j < n) (h : d j = z) : offB d n z = true := by
  unfold offB
  rw [List.any_eq_true]
  exact ⟨j, List.mem_range.2 hj, by simp [h]⟩
theorem offB_no {d : Nat → Int} {n : Nat} {z : Int} (h : ∀ j, j < n → d j ≠ z) : offB d n z = false := by
  unfold offB
  rw [List.any_eq_false]
  intro j hj
  have := h j (List.mem_range.1 hj)
  simpa using this
/-- What Add answers, of a date's number. -/
def addN (S : Int → Bool) (k : Nat) (x : Int) : Option Nat := if x = 0 then (if isOpen S k then some k else goUp S k 1) else if 0 < x then goUp S k x.toNat else goDn S k (-x).toNat
/-- What Add answers. -/
def addP (S : Int → Bool) (z x : Int) : Int × Int := match dnum z with
  | none => (0, 21)
  | some k => if x < -10000 ∨ 10000 < x then (0, 1) else (addV (addN S k x), addE (addN S k x))
theorem addP_none {S : Int → Bool} {z x : Int} (h : dnum z = none) : addP S z x = (0, 21) := by unfold addP; rw [h]
theorem addP_far {S : Int → Bool} {z x : Int} {k : Nat} (h : dnum z = some k) (hx : x < -10000 ∨ 10000 < x) : addP S z x = (0, 1) := by unfold addP; rw [h]; exact if_pos hx
theorem addP_near {S : Int → Bool} {z x : Int} {k : Nat} (h : dnum z = some k) (hx : ¬ (x < -10000 ∨ 10000 < x)) : addP S z x = (addV (addN S k x), addE (addN S k x)) := by unfold addP; rw [h]; exact if_neg hx
/-- What NewCalendar tells of a list. -/
def newE (d : Nat → Int) (n : Nat) : Int := if (List.range n).all (fun j => dnB (d j)) then (if n ≤ 1000 then 0 else 122) else 21
theorem newE_ok {d : Nat → Int} {n : Nat} (h : ∀ j, j < n → dnB (d j) = true) : newE d n = if n ≤ 1000 then 0 else 122 := by
  unfold newE
  rw [if_pos (by rw [List.all_eq_true]; exact fun j hj => h j (List.mem_range.1 hj))]
theorem newE_bad {d : Nat → Int} {n j : Nat} (hj : j < n) (h : dnB (d j) = false) : newE d n = 21 := by
  unfold newE
  rw [if_neg]
  rw [List.all_eq_true]
  intro h2
  rw [h2 j (List.mem_range.2 hj)] at h
  cases h
theorem newE_zero {d : Nat → Int} {n : Nat} (h : newE d n = 0) : n ≤ 1000 ∧ ∀ j, j < n → dnB (d j) = true := by
  unfold newE at h
  split at h
  · next h1 =>
    rw [List.all_eq_true] at h1
    split at h
    · next h2 => exact ⟨h2, fun j hj => h1 j (List.mem_range.2 hj)⟩
    · cases h
  · cases h
/-- The first that is no date, if there is one. -/
theorem first_bad (d : Nat → Int) (n : Nat) : (∀ j, j < n → dnB (d j) = true) ∨ ∃ j, j < n ∧ dnB (d j) = false ∧ ∀ i, i < j → dnB (d i) = true := by
  induction n with
  | zero => exact .inl fun j hj => by omega
  | succ n ih =>
    rcases ih with h | ⟨j, h1, h2, h3⟩
    · cases hb : dnB (d n)
      · exact .inr ⟨n, by omega, hb, h⟩
      · refine .inl fun j hj => ?_
        by_cases e : j = n
        · rw [e]; exact hb
        · exact h j (by omega)
    · exact .inr ⟨j, by omega, h2, h3⟩
/-- The reference's calendar. -/
def RCal (w : World) (R n : Nat) (d : Nat → Int) : Prop := ∃ a c, w.cell? ⟨R, 0, none⟩ = some (.slice a n c) ∧ n ≤ c ∧ SrcI w a n d
theorem RCal.below {w w' : World} {R n : Nat} {d : Nat → Int} (h : RCal w R n d) (hb : Below w.heap.size w w') : RCal w' R n d := by
  obtain ⟨a, c, h1, h2, h3⟩ := h
  exact ⟨a, c, by rw [hb.cell (p := ⟨R, 0, none⟩) (World.block_lt_of_cell? _ _ h1)]; exact h1, h2, h3.below hb⟩
set_option maxRecDepth 100000 in
set_option maxHeartbeats 400000 in
theorem Add_far (C : Nat) (z x : Int) (k : Nat) (w : World) (hM : Mon w) (h0 : -9223372036854775808 ≤ z) (h1 : z ≤ 9223372036854775807) (hd : dnum z = some k) (hx : x < -10000 ∨ 10000 < x) :
    Calls Tryd.prog 14 #[.pointer (some ⟨C, 0, none⟩), .int .i64 z, .int .i64 x] w fun e w' => e = .returned (.tuple #[.int .i64 0, .int .i64 1]) ∧ w' = w := by
  have hc := dayOfDate_any z w hM h0 h1
  have e1 : dnV z = (k : Int) := by unfold dnV; rw [hd]
  have e2 : dnB z = true := by unfold dnB; rw [hd]; rfl
  rw [e1, e2] at hc
  clear e1 e2 hd
  rcases hx with hx | hx
  · go_enter Tryd.func14, Tryd.ntmps14
    go_wp2_with (go_at_call 28; fail)
    refine hc.mono ?_
    rintro e w ⟨rfl, rfl⟩
    go_wp2
    go_ret2
    exact ⟨rfl, rfl⟩
  · have hx2 : ¬ x < -10000 := by omega
    go_enter Tryd.func14, Tryd.ntmps14
    go_wp2_with (go_at_call 28; fail)
    refine hc.mono ?_
    rintro e w ⟨rfl, rfl⟩
    go_wp2
    go_ret2
    exact ⟨rfl, rfl⟩
theorem Add_all (C : Nat) (S : Int → Bool) (z x : Int) (w : World) (hM : Mon w) (hC : CalAt w C S) (h0 : -9223372036854775808 ≤ z) (h1 : z ≤ 9223372036854775807) :
    Calls Tryd.prog 14 #[.pointer (some ⟨C, 0, none⟩), .int .i64 z, .int .i64 x] w fun e w' => e = .returned (.tuple #[.int .i64 (addP S z x).1, .int .i64 (addP S z x).2]) ∧ Below w.heap.size w w' := by
  cases hd : dnum z with
  | none =>
    rw [addP_none hd]
    exact (Add_none C z x w hM h0 h1 hd).mono fun e w' ⟨a, b⟩ => ⟨a, by rw [b]; exact Below.refl _ _⟩
  | some k =>
    by_cases hx : x < -10000 ∨ 10000 < x
    · rw [addP_far hd hx]
      exact (Add_far C z x k w hM h0 h1 hd hx).mono fun e w' ⟨a, b⟩ => ⟨a, by rw [b]; exact Below.refl _ _⟩
    · rw [addP_near hd hx]
      unfold addN
      by_cases hz : x = 0
      · subst hz
        rw [if_pos rfl]
        exact Add_here C S z k w hM hC h0 h1 hd
      · rw [if_neg hz]
        by_cases hp : 0 < x
        · rw [if_pos hp]
          have h := Add_up C S z k w hM hC h0 h1 hd x.toNat (by omega) (by omega)
          rw [Int.toNat_of_nonneg (by omega)] at h
          exact h
        · rw [if_neg hp]
          exact Add_dn C S z k w hM hC h0 h1 hd x (-x).toNat (by omega) (by omega) (by omega)
end Go.Proofs.YteafaglhlggknabDoor
