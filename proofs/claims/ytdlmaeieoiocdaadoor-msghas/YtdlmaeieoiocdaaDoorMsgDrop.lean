/-
  Fields made absent.
-/
import Derived.Test.YtdlmaeieoiocdaaDoorMsgPut0
import Derived.Test.YtdlmaeieoiocdaaDoorMsgPut1
import Derived.Test.YtdlmaeieoiocdaaDoorMsgPut2
import Derived.Test.YtdlmaeieoiocdaaDoorMsgPut3
namespace Go.Proofs.YtdlmaeieoiocdaaDoor
set_option linter.unusedVariables false
set_option linter.unusedSimpArgs false
open Go.RowKit Go.Great

/-- A field made absent. -/
def dropM (M : Msg) (k : Nat) : Msg := ⟨fun i => if i = k then 0 else M.z i, fun i => if i = k then ⟨#[]⟩ else M.s i, fun i => if i = k then false else M.b i⟩
theorem drop_ok {M : Msg} (h : M.ok) (k : Nat) : (dropM M k).ok := fun i => by
  unfold dropM
  dsimp only
  split
  · decide
  · exact h i
def isJ (j : Nat) : Prop := j = 1 ∨ j = 2 ∨ j = 3 ∨ j = 5 ∨ j = 7 ∨ j = 8 ∨ j = 9 ∨ j = 10 ∨ j = 12 ∨ j = 13 ∨ j = 14 ∨ j = 15 ∨ j = 16 ∨ j = 17 ∨ j = 18 ∨ j = 19 ∨ j = 20 ∨ j = 21 ∨ j = 22 ∨ j = 23 ∨ j = 32 ∨ j = 33 ∨ j = 35 ∨ j = 40 ∨ j = 41
theorem drop_cs (M : Msg) (k : Nat) (hk : k < 42) (v : Value) (hv : (dropM M k).cell k = v) : M.cs.setIfInBounds k v = (dropM M k).cs := by
  refine cs_set M _ k hk v hv fun i hi => ?_
  simp [Msg.cell, dropM, hi]
theorem put_at (M : Msg) (j : Nat) (hj : isJ j) (g : Nat) (w : World) (ho : OwnM w g M) :
    Calls Tryd.prog 15 #[.pointer (some ⟨g, 0, none⟩), .int .i64 (tNum.getD j 0), .int .u64 0, .string ⟨#[]⟩] w fun e w' => e = .returned (.tuple #[]) ∧ OwnM w' g (dropM M j) ∧ Below g w w' := by
  have hx : ∀ k v, k < 42 → (dropM M k).cell k = v → OwnM (w.setCell ⟨g, k, none⟩ v) g (dropM M k) ∧ Below g w (w.setCell ⟨g, k, none⟩ v) := fun k v hk hv => ⟨ho.store (drop_cs M k hk v hv), ho.stays (Nat.le_refl _)⟩
  rcases hj with rfl | rfl | rfl | rfl | rfl | rfl | rfl | rfl | rfl | rfl | rfl | rfl | rfl | rfl | rfl | rfl | rfl | rfl | rfl | rfl | rfl | rfl | rfl | rfl | rfl
  · exact (put1 (M.s 1) g w (ho.cell 1 (by decide)) (ho.frozen 1)).mono fun e w' h => ⟨h.1, by rw [h.2]; exact hx 1 _ (by decide) rfl⟩
  · exact (put2 (M.s 2) g w (ho.cell 2 (by decide)) (ho.frozen 2)).mono fun e w' h => ⟨h.1, by rw [h.2]; exact hx 2 _ (by decide) rfl⟩
  · exact (put3 (M.z 3) g w (ho.cell 3 (by decide)) (ho.frozen 3)).mono fun e w' h => ⟨h.1, by rw [h.2]; exact hx 3 _ (by decide) rfl⟩
  · exact (put5 (M.z 5) g w (ho.cell 5 (by decide)) (ho.frozen 5)).mono fun e w' h => ⟨h.1, by rw [h.2]; exact hx 5 _ (by decide) rfl⟩
  · exact (put7 (M.z 7) g w (ho.cell 7 (by decide)) (ho.frozen 7)).mono fun e w' h => ⟨h.1, by rw [h.2]; exact hx 7 _ (by decide) rfl⟩
  · exact (put8 (M.b 8) g w (ho.cell 8 (by decide)) (ho.frozen 8)).mono fun e w' h => ⟨h.1, by rw [h.2]; exact hx 8 _ (by decide) rfl⟩
  · exact (put9 (M.s 9) g w (ho.cell 9 (by decide)) (ho.frozen 9)).mono fun e w' h => ⟨h.1, by rw [h.2]; exact hx 9 _ (by decide) rfl⟩
  · exact (put10 (M.z 10) g w (ho.cell 10 (by decide)) (ho.frozen 10)).mono fun e w' h => ⟨h.1, by rw [h.2]; exact hx 10 _ (by decide) rfl⟩
  · exact (put12 (M.z 12) g w (ho.cell 12 (by decide)) (ho.frozen 12)).mono fun e w' h => ⟨h.1, by rw [h.2]; exact hx 12 _ (by decide) rfl⟩
  · exact (put13 (M.b 13) g w (ho.cell 13 (by decide)) (ho.frozen 13)).mono fun e w' h => ⟨h.1, by rw [h.2]; exact hx 13 _ (by decide) rfl⟩
  · exact (put14 (M.z 14) g w (ho.cell 14 (by decide)) (ho.frozen 14)).mono fun e w' h => ⟨h.1, by rw [h.2]; exact hx 14 _ (by decide) rfl⟩
  · exact (put15 (M.z 15) g w (ho.cell 15 (by decide)) (ho.frozen 15)).mono fun e w' h => ⟨h.1, by rw [h.2]; exact hx 15 _ (by decide) rfl⟩
  · exact (put16 (M.z 16) g w (ho.cell 16 (by decide)) (ho.frozen 16)).mono fun e w' h => ⟨h.1, by rw [h.2]; exact hx 16 _ (by decide) rfl⟩
  · exact (put17 (M.z 17) g w (ho.cell 17 (by decide)) (ho.frozen 17)).mono fun e w' h => ⟨h.1, by rw [h.2]; exact hx 17 _ (by decide) rfl⟩
  · exact (put18 (M.s 18) g w (ho.cell 18 (by decide)) (ho.frozen 18)).mono fun e w' h => ⟨h.1, by rw [h.2]; exact hx 18 _ (by decide) rfl⟩
  · exact (put19 (M.s 19) g w (ho.cell 19 (by decide)) (ho.frozen 19)).mono fun e w' h => ⟨h.1, by rw [h.2]; exact hx 19 _ (by decide) rfl⟩
  · exact (put20 (M.s 20) g w (ho.cell 20 (by decide)) (ho.frozen 20)).mono fun e w' h => ⟨h.1, by rw [h.2]; exact hx 20 _ (by decide) rfl⟩
  · exact (put21 (M.s 21) g w (ho.cell 21 (by decide)) (ho.frozen 21)).mono fun e w' h => ⟨h.1, by rw [h.2]; exact hx 21 _ (by decide) rfl⟩
  · exact (put22 (M.s 22) g w (ho.cell 22 (by decide)) (ho.frozen 22)).mono fun e w' h => ⟨h.1, by rw [h.2]; exact hx 22 _ (by decide) rfl⟩
  · exact (put23 (M.z 23) g w (ho.cell 23 (by decide)) (ho.frozen 23)).mono fun e w' h => ⟨h.1, by rw [h.2]; exact hx 23 _ (by decide) rfl⟩
  · exact (put32 (M.z 32) g w (ho.cell 32 (by decide)) (ho.frozen 32)).mono fun e w' h => ⟨h.1, by rw [h.2]; exact hx 32 _ (by decide) rfl⟩
  · exact (put33 (M.z 33) g w (ho.cell 33 (by decide)) (ho.frozen 33)).mono fun e w' h => ⟨h.1, by rw [h.2]; exact hx 33 _ (by decide) rfl⟩
  · exact (put35 (M.z 35) g w (ho.cell 35 (by decide)) (ho.frozen 35)).mono fun e w' h => ⟨h.1, by rw [h.2]; exact hx 35 _ (by decide) rfl⟩
  · exact (put40 (M.z 40) g w (ho.cell 40 (by decide)) (ho.frozen 40)).mono fun e w' h => ⟨h.1, by rw [h.2]; exact hx 40 _ (by decide) rfl⟩
  · exact (put41 (M.z 41) g w (ho.cell 41 (by decide)) (ho.frozen 41)).mono fun e w' h => ⟨h.1, by rw [h.2]; exact hx 41 _ (by decide) rfl⟩
theorem isJ_lt {j : Nat} (h : isJ j) : j < 42 ∧ j ≠ 0 := by
  rcases h with rfl | rfl | rfl | rfl | rfl | rfl | rfl | rfl | rfl | rfl | rfl | rfl | rfl | rfl | rfl | rfl | rfl | rfl | rfl | rfl | rfl | rfl | rfl | rfl | rfl <;> decide
theorem drop_st (M : Msg) (j : Nat) (hj : isJ j) : stOf (dropM M j) j = 0 := by
  rcases hj with rfl | rfl | rfl | rfl | rfl | rfl | rfl | rfl | rfl | rfl | rfl | rfl | rfl | rfl | rfl | rfl | rfl | rfl | rfl | rfl | rfl | rfl | rfl | rfl | rfl <;> first | rfl | simp [stOf, stT, dropM]
theorem drop_st_ne (M : Msg) (j i : Nat) (hi : i < 42) (h : i ≠ j) : stOf (dropM M j) i = stOf M i := by
  rcases cases42 hi with rfl | rfl | rfl | rfl | rfl | rfl | rfl | rfl | rfl | rfl | rfl | rfl | rfl | rfl | rfl | rfl | rfl | rfl | rfl | rfl | rfl | rfl | rfl | rfl | rfl | rfl | rfl | rfl | rfl | rfl | rfl | rfl | rfl | rfl | rfl | rfl | rfl | rfl | rfl | rfl | rfl | rfl <;> simp [stOf, dropM, h]
theorem drop_err (M : Msg) (j i : Nat) (hj : isJ j) (hi : i < 42) (h : i ≠ j) : errAt (dropM M j) i = errAt M i := by
  have h0 : (dropM M j).z 0 = M.z 0 := by have := (isJ_lt hj).2; simp [dropM, Ne.symm this]
  unfold errAt
  rw [drop_st_ne M j i hi h, h0]
theorem drop_err_self (M : Msg) (j : Nat) (hj : isJ j) : errAt (dropM M j) j = if (tMust.getD j 0).testBit (M.z 0).toNat && !tOz.getD j false then 31 else 0 := by
  have h0 : (dropM M j).z 0 = M.z 0 := by have := (isJ_lt hj).2; simp [dropM, Ne.symm this]
  unfold errAt
  rw [drop_st M j hj, h0]
  cases (tMust.getD j 0).testBit (M.z 0).toNat <;> cases (tMay.getD j 0).testBit (M.z 0).toNat <;> cases tOz.getD j false <;> rfl
theorem drop_fit (M : Msg) (j : Nat) (hj : isJ j) (h : j ≠ 10) : fitN (dropM M j) = fitN M := by
  rcases hj with rfl | rfl | rfl | rfl | rfl | rfl | rfl | rfl | rfl | rfl | rfl | rfl | rfl | rfl | rfl | rfl | rfl | rfl | rfl | rfl | rfl | rfl | rfl | rfl | rfl <;> first | rfl | contradiction
/-- What Valid tells of a valid message without one of its fields. -/
theorem drop_val {M : Msg} (h : valE M = 0) (j : Nat) (hj : isJ j) (hh : hasAt (M.z 0) (tNum.getD j 0) j ≠ 0) :
    (valE (dropM M j), valN (dropM M j)) = if hasAt (M.z 0) (tNum.getD j 0) j = 2 ∧ tOz.getD j false = false then (31, tNum.getD j 0) else (0, 0) := by
  obtain ⟨hK, hE, hF⟩ := val_ok h
  have h0 : (dropM M j).z 0 = M.z 0 := by have := (isJ_lt hj).2; simp [dropM, Ne.symm this]
  have hK' : isK ((dropM M j).z 0) = true := by rw [h0]; exact hK
  have es := drop_err_self M j hj
  have eo : ∀ i, i < 42 → i ≠ j → errAt (dropM M j) i = 0 := fun i hi hne => by rw [drop_err M j i hj hi hne]; exact hE i hi
  have hat : hasAt (M.z 0) (tNum.getD j 0) j = if (tMust.getD j 0).testBit (M.z 0).toNat then 2 else if (tMay.getD j 0).testBit (M.z 0).toNat then 1 else 0 := by simp [hasAt]
  rw [hat] at hh ⊢
  cases hmu : (tMust.getD j 0).testBit (M.z 0).toNat
  · rw [hmu] at es hh
    rw [if_neg (by cases (tMay.getD j 0).testBit (M.z 0).toNat <;> simp)]
    have hj10 : j ≠ 10 := fun e => by subst e; exact hh (by simp [tMay])
    have := val_of hK' (fun i hi => by
      by_cases hij : i = j
      · rw [hij, es]; simp
      · exact eo i hi hij) (by rw [drop_fit M j hj hj10]; exact hF)
    rw [this.1, this.2]
  · rw [hmu] at es
    cases hoz : tOz.getD j false
    · rw [hoz] at es
      rw [if_pos (by simp)]
      have hne : errAt (dropM M j) j = 31 := by rw [es]; rfl
      have := val_err hK' (isJ_lt hj).1 (fun i hi => eo i (by have := (isJ_lt hj).1; omega) (by omega)) (by rw [hne]; decide)
      rw [this.1, this.2, hne]
    · rw [hoz] at es
      rw [if_neg (by simp)]
      have hj10 : j ≠ 10 := fun e => by subst e; cases hoz
      have := val_of hK' (fun i hi => by
        by_cases hij : i = j
        · rw [hij, es]; simp
        · exact eo i hi hij) (by rw [drop_fit M j hj hj10]; exact hF)
      rw [this.1, this.2]
theorem num_inj : ∀ i, i < 42 → ∀ j, j < 42 → tNum.getD i 0 = tNum.getD j 0 → i = j := by decide
theorem hasN_at {z : Int} (hK : isK z = true) (j : Nat) (hj : j < 42) : hasN z (tNum.getD j 0) = hasAt z (tNum.getD j 0) j := by
  have hne : ∀ i, i < 42 → i ≠ j → hasAt z (tNum.getD j 0) i = 0 := fun i hi h => by
    unfold hasAt
    rw [if_neg (fun e => h (num_inj i hi j hj e))]
  by_cases h0 : hasAt z (tNum.getD j 0) j = 0
  · rw [h0]
    exact hasN_none hK fun i hi => by
      by_cases e : i = j
      · rw [e, h0]
      · exact hne i hi e
  · exact hasN_some hK hj (fun i hi => hne i (by omega) (by omega)) h0
theorem hasN_num {z f : Int} (h : hasN z f ≠ 0) : isK z = true ∧ ∃ j, j < 42 ∧ tNum.getD j 0 = f := by
  cases hK : isK z
  · exact absurd (by simp [hasN, hK]) h
  · refine ⟨rfl, ?_⟩
    refine Classical.byContradiction fun hn => h (hasN_none hK fun j hj => ?_)
    unfold hasAt
    rw [if_neg (fun e => hn ⟨j, hj, e⟩)]
def rulB (f : Int) : Bool := f == 43 || f == 122 || f == 16 || f == 44 || f == 99 || f == 111 || f == 110 || f == 432 || f == 31 || f == 32 || f == 151 || f == 14 || f == 38 || f == 40 || f == 59 || f == 150
def zerB (f : Int) : Bool := f == 52 || f == 373 || f == 37 || f == 326 || f == 533
theorem rul_J (j : Nat) (hj : j < 42) (h0 : tNum.getD j 0 ≠ 35) (h : rulB (tNum.getD j 0) = false) : isJ j := by
  rcases cases42 hj with rfl | rfl | rfl | rfl | rfl | rfl | rfl | rfl | rfl | rfl | rfl | rfl | rfl | rfl | rfl | rfl | rfl | rfl | rfl | rfl | rfl | rfl | rfl | rfl | rfl | rfl | rfl | rfl | rfl | rfl | rfl | rfl | rfl | rfl | rfl | rfl | rfl | rfl | rfl | rfl | rfl | rfl <;> first | (exact absurd rfl h0) | (exact absurd h (by decide)) | (unfold isJ; omega)
theorem zer_J (j : Nat) (hj : isJ j) : zerB (tNum.getD j 0) = tOz.getD j false := by
  rcases hj with rfl | rfl | rfl | rfl | rfl | rfl | rfl | rfl | rfl | rfl | rfl | rfl | rfl | rfl | rfl | rfl | rfl | rfl | rfl | rfl | rfl | rfl | rfl | rfl | rfl <;> rfl
theorem num_ne (j : Nat) (hj : j < 42) : tNum.getD j 0 ≠ 0 := by
  rcases cases42 hj with rfl | rfl | rfl | rfl | rfl | rfl | rfl | rfl | rfl | rfl | rfl | rfl | rfl | rfl | rfl | rfl | rfl | rfl | rfl | rfl | rfl | rfl | rfl | rfl | rfl | rfl | rfl | rfl | rfl | rfl | rfl | rfl | rfl | rfl | rfl | rfl | rfl | rfl | rfl | rfl | rfl | rfl <;> decide
/-- No number is told just of what is valid. -/
theorem val_iff (M : Msg) : ((valE M == 0) != (valN M == 0)) = false := by
  unfold valE valN
  cases hK : isK (M.z 0)
  · rfl
  · simp only [reduceIte]
    cases hf : firstErr M with
    | some j =>
      unfold firstErr at hf
      rw [List.find?_range_eq_some] at hf
      have h1 : errAt M j ≠ 0 := by simpa using hf.1
      have h2 := num_ne j (by simpa using hf.2.1)
      show ((errAt M j == 0) != (tNum.getD j 0 == 0)) = false
      rw [beq_eq_false_iff_ne.2 h1, beq_eq_false_iff_ne.2 h2]
      rfl
    | none =>
      by_cases h0 : fitN M = 0
      · simp [h0]
      · simp [h0]

end Go.Proofs.YtdlmaeieoiocdaaDoor
