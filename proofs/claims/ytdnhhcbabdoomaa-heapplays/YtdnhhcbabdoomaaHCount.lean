/-
  heap, plain: how often the order is asked.
-/
import Derived.Test.YtdnhhcbabdoomaaHAbs
namespace Go.Proofs.Ytdnhhcbabdoomaa
set_option linter.unusedVariables false

theorem lg_mono {a b : Nat} (ha : a ≠ 0) (h : a ≤ b) : Nat.log2 a ≤ Nat.log2 b := (Nat.le_log2 (by omega)).2 (Nat.le_trans (Nat.log2_self_le ha) h)
theorem lg_two {a b : Nat} (ha : a ≠ 0) (h : 2 * a ≤ b) : Nat.log2 a + 1 ≤ Nat.log2 b := (Nat.le_log2 (by omega)).2 (by
  have := Nat.log2_self_le ha
  rw [Nat.pow_succ]; omega)
section
variable {α : Type} {lt : α → α → Bool}
theorem riseN_le (t : List (It α)) (k : Nat) : riseN lt t k ≤ Nat.log2 (k + 1) := by
  induction k using Nat.strongRecOn generalizing t with
  | _ k ih =>
    rw [riseN]
    split
    · exact Nat.zero_le _
    · have hp := parI_lt (k := k) (by omega)
      have h2 : Nat.log2 (parI k + 1) + 1 ≤ Nat.log2 (k + 1) := lg_two (by omega) (by unfold parI; omega)
      split
      · have := ih _ hp (swpL t k (parI k)); omega
      · omega
theorem sinkN_le (n : Nat) : ∀ (t : List (It α)) (k : Nat), t.length - k ≤ n → sinkN lt t k ≤ 2 * (Nat.log2 t.length - Nat.log2 (k + 1)) := by
  induction n with
  | zero => intro t k h; rw [sinkN, dif_neg (by omega)]; exact Nat.zero_le _
  | succ n ih =>
    intro t k h
    rw [sinkN]
    split
    · rename_i hl
      have hlo := lowI_lt (lt := lt) hl
      have hge : 2 * (k + 1) ≤ lowI lt t k + 1 := by unfold lowI; split <;> omega
      have h1 := lg_two (a := k + 1) (by omega) hge
      have h2 := lg_mono (a := lowI lt t k + 1) (b := t.length) (by omega) (by omega)
      have h3 : (if 2 * k + 2 < t.length then 1 else 0) ≤ 1 := by split <;> omega
      generalize (if 2 * k + 2 < t.length then 1 else 0) = q at *
      split
      · have := ih (swpL t k (lowI lt t k)) (lowI lt t k) (by rw [swpL_len]; omega)
        rw [swpL_len] at this
        omega
      · omega
    · exact Nat.zero_le _
theorem setlN_le (t : List (It α)) (k : Nat) (hk : k < t.length) : setlN lt t k ≤ 2 * Nat.log2 t.length + 1 := by
  unfold setlN
  have h1 := riseN_le (lt := lt) t k
  have h2 := lg_mono (a := k + 1) (b := t.length) (by omega) (by omega)
  split
  · rename_i he
    have h3 := sinkN_le (lt := lt) _ t k (Nat.le_refl _)
    have h4 : riseN lt t k ≤ 1 := by
      rw [riseN]
      split
      · omega
      · rename_i h0
        rw [riseL, dif_neg h0] at he
        split
        · rename_i ha
          rw [if_pos ha] at he
          have hp := parI_lt (k := k) (by omega)
          have := (riseL_perm (lt := lt) (swpL t k (parI k)) (parI k) (by rw [swpL_len]; omega)).2.1
          omega
        · omega
    omega
  · omega
end
end Go.Proofs.Ytdnhhcbabdoomaa
