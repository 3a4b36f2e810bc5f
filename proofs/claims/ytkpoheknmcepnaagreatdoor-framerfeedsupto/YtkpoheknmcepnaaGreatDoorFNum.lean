/-
  Plain mathematics: numerals, written and read.
-/
import Derived.Test.YtkpoheknmcepnaaGreatDoorPlain
import Derived.Lib.ItoaMem
namespace Go.Proofs.YtkpoheknmcepnaaGreatDoor
set_option linter.unusedVariables false
open Go.Lib
theorem chr_nat {i : Nat} (h : i < 10) : (UInt8.ofNat (48 + i)).toNat = 48 + i := by simp; omega
theorem val_app (l : List UInt8) (c : UInt8) : val (l ++ [c]) = val l * 10 + ((c.toNat : Int) - 48) := by simp [val, List.foldl_append]
theorem val_dec (u : Nat) : val (decDigits u) = (u : Int) := by
  induction u using Nat.strongRecOn with
  | ind u ih =>
    by_cases h : u < 10
    · rw [decDigits_one h]
      simp only [val, List.foldl_cons, List.foldl_nil, chr_nat h]
      omega
    · rw [decDigits, dif_neg h, val_app, ih (u / 10) (by omega), chr_nat (Nat.mod_lt _ (by decide))]
      omega
theorem digs_app (l : List UInt8) (c : UInt8) : digs (l ++ [c]) = (digs l && dig c) := by simp [digs]
theorem dig_chr {i : Nat} (h : i < 10) : dig (UInt8.ofNat (48 + i)) = true := by rw [dig_iff, chr_nat h]; omega
theorem digs_dec (u : Nat) : digs (decDigits u) = true := by
  induction u using Nat.strongRecOn with
  | ind u ih =>
    by_cases h : u < 10
    · rw [decDigits_one h]
      simp only [digs, List.all_cons, List.all_nil, Bool.and_true]
      exact dig_chr h
    · rw [decDigits, dif_neg h, digs_app, ih (u / 10) (by omega), dig_chr (Nat.mod_lt _ (by decide))]
      rfl
/-- The first digit is no nought, but of nought. -/
theorem head_dec (u : Nat) : ∃ c l, decDigits u = c :: l ∧ (0 < u → c ≠ 48) ∧ (u < 10 ↔ l = []) := by
  induction u using Nat.strongRecOn with
  | ind u ih =>
    by_cases h : u < 10
    · refine ⟨UInt8.ofNat (48 + u), [], decDigits_one h, fun h0 e => ?_, by simp [h]⟩
      have := congrArg UInt8.toNat e
      rw [chr_nat h] at this
      have h48 : (48 : UInt8).toNat = 48 := rfl
      omega
    · obtain ⟨c, l, e1, e2, _⟩ := ih (u / 10) (by omega)
      refine ⟨c, l ++ [UInt8.ofNat (48 + u % 10)], by rw [decDigits, dif_neg h, e1]; rfl, fun _ => e2 (by omega), by simp [h]⟩
theorem num_dec (u : Nat) : numB (decDigits u) = true := by
  obtain ⟨c, l, e, e2, e3⟩ := head_dec u
  have hd := digs_dec u
  unfold numB
  rw [hd, e]
  cases l with
  | nil => rfl
  | cons y ys =>
    have h10 : ¬ u < 10 := fun h => by have := e3.1 h; cases this
    have := e2 (by omega)
    simpa using this
theorem pu_dec {u : Nat} {m : Int} (h : (u : Int) ≤ m) : puN (decDigits u) m = (u : Int) ∧ puE (decDigits u) m = 0 := by
  have := pu_le (l := decDigits u) (m := m) (num_dec u) (by rw [val_dec]; exact h)
  rw [val_dec] at this
  exact this
/-- What is a numeral is written again. -/
theorem dec_val : ∀ (k : Nat) (l : List UInt8), l.length = k → digs l = true → (∃ c t, l = c :: t ∧ (t = [] ∨ c ≠ 48)) → decDigits (val l).toNat = l := by
  intro k
  induction k with
  | zero => intro l hl hd ⟨c, t, e, _⟩; rw [e] at hl; simp at hl
  | succ k ih =>
    intro l hl hd ⟨c, t, e, hc⟩
    by_cases hk : k = 0
    · subst hk
      rw [e] at hl
      have ht : t = [] := by cases t with
        | nil => rfl
        | cons y ys => simp at hl
      subst ht
      rw [e] at hd ⊢
      simp only [digs, List.all_cons, List.all_nil, Bool.and_true] at hd
      have hd' := (dig_iff c).1 hd
      have ev : (val [c]).toNat = c.toNat - 48 := by simp only [val, List.foldl_cons, List.foldl_nil]; omega
      rw [ev, decDigits_one (by omega)]
      congr 1
      have : 48 + (c.toNat - 48) = c.toNat := by omega
      rw [this]
      simp
    · obtain ⟨init, last, el⟩ : ∃ init last, l = init ++ [last] := ⟨l.dropLast, l.getLast (by rw [e]; simp), (List.dropLast_concat_getLast _).symm⟩
      have hil : init.length = k := by rw [el] at hl; simpa using hl
      rw [el, digs_app, Bool.and_eq_true] at hd
      have hlast := (dig_iff last).1 hd.2
      have hinit : ∃ c' t', init = c' :: t' ∧ (t' = [] ∨ c' ≠ 48) := by
        cases init with
        | nil => simp at hil; omega
        | cons c' t' =>
          refine ⟨c', t', rfl, .inr ?_⟩
          rw [el] at e
          simp only [List.cons_append, List.cons.injEq] at e
          rcases hc with h | h
          · rw [h] at e; simp at e
          · rw [e.1]; exact h
      have hi := ih init hil hd.1 hinit
      have hpos : 0 < val init := by
        obtain ⟨c', t', e', hc'⟩ := hinit
        rcases Int.lt_or_le 0 (val init) with h | h
        · exact h
        · have h0 : (val init).toNat = 0 := by omega
          rw [h0, decDigits_one (by decide)] at hi
          rw [← hi] at e'
          cases e'
          rcases hc with h1 | h1
          · rw [el, ← hi] at e; cases e; cases h1
          · rw [el, ← hi] at e
            simp only [List.cons_append, List.cons.injEq] at e
            exact absurd e.1.symm h1
      rw [el, val_app]
      have ev : (val init * 10 + ((last.toNat : Int) - 48)).toNat = (val init).toNat * 10 + (last.toNat - 48) := by omega
      rw [ev, decDigits, dif_neg (by omega), show ((val init).toNat * 10 + (last.toNat - 48)) / 10 = (val init).toNat by omega, hi, show ((val init).toNat * 10 + (last.toNat - 48)) % 10 = last.toNat - 48 by omega, show 48 + (last.toNat - 48) = last.toNat by omega]
      simp
theorem dec_num (l : List UInt8) (h : numB l = true) : decDigits (val l).toNat = l := by
  have hd := numB_digs h
  refine dec_val l.length l rfl hd ?_
  unfold numB at h
  rw [Bool.and_eq_true] at h
  match l, h.2 with
  | [c], _ => exact ⟨c, [], rfl, .inl rfl⟩
  | c :: d :: t, g => exact ⟨c, d :: t, rfl, .inr (by simpa using g)⟩
theorem dec_pu {l : List UInt8} {m : Int} (h : puE l m = 0) : 0 ≤ puN l m ∧ puN l m ≤ m ∧ itoa (puN l m) = l := by
  cases hn : numB l with
  | false => rw [(pu_no hn).2] at h; cases h
  | true =>
    have hv : val l ≤ m := by
      rcases Int.lt_or_le m (val l) with g | g
      · rw [(pu_gt hn g).2] at h; cases h
      · exact g
    rw [(pu_le hn hv).1]
    have hd := val_nonneg l (numB_digs hn)
    refine ⟨hd, hv, ?_⟩
    unfold itoa
    rw [if_neg (by omega)]
    exact dec_num l hn
end Go.Proofs.YtkpoheknmcepnaaGreatDoor
