import Derived.Test.YtjnnecoikcmaeaaRefBytes2
import Derived.Test.YtjnnecoikcmaeaaTP9

namespace Go.Proofs.Ytjnnecoikcmaeaa
set_option linter.unusedVariables false
set_option linter.unusedSimpArgs false
open Go.RowKit Go.Great

def rnZ : Option (Int × Nat) → Int
  | some (z, _) => z
  | none => 0
def rnK (at_ : Nat) : Option (Int × Nat) → Nat
  | some (_, b) => b - at_
  | none => 0
set_option maxRecDepth 100000 in
set_option maxHeartbeats 1000000 in
theorem number_any {w : World} {v : Value} {l : List Nat} (h : By w v l) (hl : l.length ≤ 9223372036854775807) (at_ : Nat) (lo hi : Int) (ha : at_ ≤ l.length) (hlo : 0 ≤ lo) (hhi : 0 ≤ hi) :
    Calls Try.prog 37 #[v, .int .i64 (at_ : Int), .int .i64 lo, .int .i64 hi] w fun e w' => e = .returned (.tuple #[.int .i64 (rnZ (rn l at_ lo hi)), .int .i64 (rnK at_ (rn l at_ lo hi) : Int)]) ∧ w' = w := by
  obtain ⟨a, cap, rfl, hc⟩ := h.form
  have hcut := h.cut ha (Nat.le_refl _) hc (Nat.le_refl _)
  obtain ⟨_, _, hs, _⟩ := hcut.src
  have hd : (l.drop at_).take (l.length - at_) = l.drop at_ := List.take_of_length_le (by rw [List.length_drop]; omega)
  rw [hd] at hs
  have hG : Calls Try.prog 51 #[cutV (.slice a l.length cap) at_ l.length cap] w fun e w' => e = .returned (.tuple #[.int .i64 (gvV (gvr (dN (l.drop at_)) (l.length - at_))), .int .i64 (gvK (gvr (dN (l.drop at_)) (l.length - at_)) : Int)]) ∧ w' = w := refGetVar_any _ _ _ _ w hs (by omega)
  unfold rn
  cases hg : gvr (dN (l.drop at_)) (l.length - at_) with
  | none =>
    rw [hg] at hG
    simp only [rnZ, rnK, gvV, gvK] at hG ⊢
    clear hs hd h hcut
    go_enter Try.func37, Try.ntmps37
    go_upto_region 1 with fail
    rename_i K1 hK1
    refine wp_region_lit ?_
    refine wpList_runTo rfl (some 13) rfl (.slice a l.length cap) w (by kernel_rfl) ?_
    simp only [Act.put, List.setIfInBounds_toArray, List.set_cons_zero, List.set_cons_succ]
    refine wpList_runTo rfl (some 14) rfl (.int .i64 (at_ : Int)) w (by kernel_rfl) ?_
    simp only [Act.put, List.setIfInBounds_toArray, List.set_cons_zero, List.set_cons_succ]
    refine wpList_runTo rfl (some 15) rfl (cutV (.slice a l.length cap) at_ l.length cap) w (by exact sliceL_run (.tmp 13) (.tmp 14) rfl (by kernel_rfl) (by kernel_rfl) ha _) ?_
    simp only [Act.put, List.setIfInBounds_toArray, List.set_cons_zero, List.set_cons_succ]
    refine wpList_callW rfl (some 16) rfl 51 #[cutV (.slice a l.length cap) at_ l.length cap] (by kernel_rfl) hG ?_
    rintro e w2 ⟨rfl, ew⟩
    replace ew := ew.symm
    subst ew
    refine ⟨_, rfl, ?_⟩
    simp only [Act.put, List.setIfInBounds_toArray, List.set_cons_zero, List.set_cons_succ]
    generalize cutV (.slice a l.length cap) at_ l.length cap = cc at *
    refine wpList_runTo rfl (some 12) rfl (.tuple #[.int .i64 0, .int .i64 ((0 : Nat) : Int)]) w (by kernel_rfl) ?_
    simp only [Act.put, List.setIfInBounds_toArray, List.set_cons_zero, List.set_cons_succ]
    refine wpList_runTo rfl (some 17) rfl (.int .i64 0) w (by kernel_rfl) ?_
    simp only [Act.put, List.setIfInBounds_toArray, List.set_cons_zero, List.set_cons_succ]
    refine wpList_runTo rfl (some 18) rfl (.int .i64 0) w (by kernel_rfl) ?_
    simp only [Act.put, List.setIfInBounds_toArray, List.set_cons_zero, List.set_cons_succ]
    refine wpList_runTo rfl (some 10) rfl (.int .i64 0) w (by kernel_rfl) ?_
    simp only [Act.put, List.setIfInBounds_toArray, List.set_cons_zero, List.set_cons_succ]
    refine wpList_runTo rfl (some 11) rfl (.int .i64 0) w (by kernel_rfl) ?_
    simp only [Act.put, List.setIfInBounds_toArray, List.set_cons_zero, List.set_cons_succ]
    refine wpList_nil ?_
    refine hK1 _ _ ?_
    clear hK1 hG hg
    by_cases h1 : (0 : Int) < lo
    · go_wp2
      go_ret2
      exact ⟨rfl, rfl⟩
    · have h1' : ¬ hi < 0 := by omega
      go_wp2
      go_ret2
      exact ⟨rfl, rfl⟩
  | some p =>
    obtain ⟨u, k⟩ := p
    have hk := var_of_gvr _ _ u k (fun j hj => hs.lt j hj) hg
    rw [hg] at hG
    simp only [gvV, gvK] at hG ⊢
    obtain ⟨X, hX⟩ : ∃ X, X = (if lo ≤ unf u ∧ unf u ≤ hi then some (unf u, at_ + k) else none) := ⟨_, rfl⟩
    rw [← hX]
    clear hs hd h hcut
    go_enter Try.func37, Try.ntmps37
    go_upto_region 1 with fail
    rename_i K1 hK1
    refine wp_region_lit ?_
    refine wpList_runTo rfl (some 13) rfl (.slice a l.length cap) w (by kernel_rfl) ?_
    simp only [Act.put, List.setIfInBounds_toArray, List.set_cons_zero, List.set_cons_succ]
    refine wpList_runTo rfl (some 14) rfl (.int .i64 (at_ : Int)) w (by kernel_rfl) ?_
    simp only [Act.put, List.setIfInBounds_toArray, List.set_cons_zero, List.set_cons_succ]
    refine wpList_runTo rfl (some 15) rfl (cutV (.slice a l.length cap) at_ l.length cap) w (by exact sliceL_run (.tmp 13) (.tmp 14) rfl (by kernel_rfl) (by kernel_rfl) ha _) ?_
    simp only [Act.put, List.setIfInBounds_toArray, List.set_cons_zero, List.set_cons_succ]
    refine wpList_callW rfl (some 16) rfl 51 #[cutV (.slice a l.length cap) at_ l.length cap] (by kernel_rfl) hG ?_
    rintro e w2 ⟨rfl, ew⟩
    replace ew := ew.symm
    subst ew
    refine ⟨_, rfl, ?_⟩
    simp only [Act.put, List.setIfInBounds_toArray, List.set_cons_zero, List.set_cons_succ]
    generalize cutV (.slice a l.length cap) at_ l.length cap = cc at *
    refine wpList_runTo rfl (some 12) rfl (.tuple #[.int .i64 (unf u), .int .i64 (k : Int)]) w (by kernel_rfl) ?_
    simp only [Act.put, List.setIfInBounds_toArray, List.set_cons_zero, List.set_cons_succ]
    refine wpList_runTo rfl (some 17) rfl (.int .i64 (unf u)) w (by kernel_rfl) ?_
    simp only [Act.put, List.setIfInBounds_toArray, List.set_cons_zero, List.set_cons_succ]
    refine wpList_runTo rfl (some 18) rfl (.int .i64 (k : Int)) w (by kernel_rfl) ?_
    simp only [Act.put, List.setIfInBounds_toArray, List.set_cons_zero, List.set_cons_succ]
    refine wpList_runTo rfl (some 10) rfl (.int .i64 (unf u)) w (by kernel_rfl) ?_
    simp only [Act.put, List.setIfInBounds_toArray, List.set_cons_zero, List.set_cons_succ]
    refine wpList_runTo rfl (some 11) rfl (.int .i64 (k : Int)) w (by kernel_rfl) ?_
    simp only [Act.put, List.setIfInBounds_toArray, List.set_cons_zero, List.set_cons_succ]
    refine wpList_nil ?_
    refine hK1 _ _ ?_
    clear hK1 hG hg
    have hkk : ((at_ + k - at_ : Nat) : Int) = (k : Int) := by omega
    generalize unf u = z at *
    by_cases h1 : lo ≤ z ∧ z ≤ hi
    · rw [if_pos h1] at hX
      have HX : Hid (rnZ X = z ∧ (rnK at_ X : Int) = k) := by rw [hX]; exact ⟨rfl, hkk⟩
      clear hX
      have h2 : ¬ z < lo := by omega
      have h3 : ¬ hi < z := by omega
      go_wp2
      go_ret2
      exact ⟨by rw [HX.out.1, HX.out.2]; rfl, rfl⟩
    · rw [if_neg h1] at hX
      have HX : Hid (rnZ X = 0 ∧ (rnK at_ X : Int) = 0) := by rw [hX]; exact ⟨rfl, rfl⟩
      clear hX
      by_cases h2 : z < lo
      · go_wp2
        go_ret2
        exact ⟨by rw [HX.out.1, HX.out.2]; rfl, rfl⟩
      · have h3 : hi < z := by omega
        go_wp2
        go_ret2
        exact ⟨by rw [HX.out.1, HX.out.2]; rfl, rfl⟩
set_option maxRecDepth 100000 in
set_option maxHeartbeats 4000000 in
theorem texts_any {i : Nat} (h : i < 24) (w : World) : Calls Try.prog 38 #[.int .i64 (i : Int)] w fun e w' => e = .returned (.bool (isT i)) ∧ w' = w := by
  rcases cases24 h with rfl | rfl | rfl | rfl | rfl | rfl | rfl | rfl | rfl | rfl | rfl | rfl | rfl | rfl | rfl | rfl | rfl | rfl | rfl | rfl | rfl | rfl | rfl | rfl
  all_goals
    show Calls _ _ #[.int .i64 _] _ _
    go_enter Try.func38, Try.ntmps38
    go_wp2
    go_ret
    exact ⟨rfl, rfl⟩
end Go.Proofs.Ytjnnecoikcmaeaa

namespace Go.Proofs.Ytjnnecoikcmaeaa
set_option linter.unusedVariables false
set_option linter.unusedSimpArgs false
open Go.RowKit Go.Great

set_option maxRecDepth 100000 in
set_option maxHeartbeats 1000000 in
theorem put_0 (B : Nat) (w : World) (n : Int) (s : ByteArray) (o : Int) (hc : w.cell? ⟨B, 1, none⟩ = some (.int .i64 o)) (hf : w.frozen? ⟨B, 1, none⟩ = false) (hz0 : -9223372036854775808 ≤ n) (hz1 : n ≤ 9223372036854775807) : Calls Try.prog 39 #[.pointer (some ⟨B, 0, none⟩), .int .i64 0, .int .i64 n, .string s] w fun e w' => e = .returned (.tuple #[]) ∧ w' = w.setCell ⟨B, 1, none⟩ (.int .i64 n) := by
  go_enter Try.func39, Try.ntmps39
  go_wp2
  refine ⟨by rfl, .tuple #[], results_none (by rfl) _ _ _, rfl, ?_⟩
  rfl
set_option maxRecDepth 100000 in
set_option maxHeartbeats 1000000 in
theorem put_1 (B : Nat) (w : World) (n : Int) (s : ByteArray) (o : Int) (hc : w.cell? ⟨B, 2, none⟩ = some (.int .i64 o)) (hf : w.frozen? ⟨B, 2, none⟩ = false) (hz0 : -9223372036854775808 ≤ n) (hz1 : n ≤ 9223372036854775807) : Calls Try.prog 39 #[.pointer (some ⟨B, 0, none⟩), .int .i64 1, .int .i64 n, .string s] w fun e w' => e = .returned (.tuple #[]) ∧ w' = w.setCell ⟨B, 2, none⟩ (.int .i64 n) := by
  go_enter Try.func39, Try.ntmps39
  go_wp2
  refine ⟨by rfl, .tuple #[], results_none (by rfl) _ _ _, rfl, ?_⟩
  rfl
set_option maxRecDepth 100000 in
set_option maxHeartbeats 1000000 in
theorem put_2 (B : Nat) (w : World) (n : Int) (s : ByteArray) (o : ByteArray) (hc : w.cell? ⟨B, 18, none⟩ = some (.string o)) (hf : w.frozen? ⟨B, 18, none⟩ = false) (hz0 : -9223372036854775808 ≤ n) (hz1 : n ≤ 9223372036854775807) : Calls Try.prog 39 #[.pointer (some ⟨B, 0, none⟩), .int .i64 2, .int .i64 n, .string s] w fun e w' => e = .returned (.tuple #[]) ∧ w' = w.setCell ⟨B, 18, none⟩ (.string s) := by
  go_enter Try.func39, Try.ntmps39
  go_wp2
  refine ⟨by rfl, .tuple #[], results_none (by rfl) _ _ _, rfl, ?_⟩
  rfl
set_option maxRecDepth 100000 in
set_option maxHeartbeats 1000000 in
theorem put_3 (B : Nat) (w : World) (n : Int) (s : ByteArray) (o : Int) (hc : w.cell? ⟨B, 3, none⟩ = some (.int .i64 o)) (hf : w.frozen? ⟨B, 3, none⟩ = false) (hz0 : -9223372036854775808 ≤ n) (hz1 : n ≤ 9223372036854775807) : Calls Try.prog 39 #[.pointer (some ⟨B, 0, none⟩), .int .i64 3, .int .i64 n, .string s] w fun e w' => e = .returned (.tuple #[]) ∧ w' = w.setCell ⟨B, 3, none⟩ (.int .i64 n) := by
  go_enter Try.func39, Try.ntmps39
  go_wp2
  refine ⟨by rfl, .tuple #[], results_none (by rfl) _ _ _, rfl, ?_⟩
  rfl
set_option maxRecDepth 100000 in
set_option maxHeartbeats 1000000 in
theorem put_4 (B : Nat) (w : World) (n : Int) (s : ByteArray) (o : ByteArray) (hc : w.cell? ⟨B, 4, none⟩ = some (.string o)) (hf : w.frozen? ⟨B, 4, none⟩ = false) (hz0 : -9223372036854775808 ≤ n) (hz1 : n ≤ 9223372036854775807) : Calls Try.prog 39 #[.pointer (some ⟨B, 0, none⟩), .int .i64 4, .int .i64 n, .string s] w fun e w' => e = .returned (.tuple #[]) ∧ w' = w.setCell ⟨B, 4, none⟩ (.string s) := by
  go_enter Try.func39, Try.ntmps39
  go_wp2
  refine ⟨by rfl, .tuple #[], results_none (by rfl) _ _ _, rfl, ?_⟩
  rfl
set_option maxRecDepth 100000 in
set_option maxHeartbeats 1000000 in
theorem put_5 (B : Nat) (w : World) (n : Int) (s : ByteArray) (o : ByteArray) (hc : w.cell? ⟨B, 5, none⟩ = some (.string o)) (hf : w.frozen? ⟨B, 5, none⟩ = false) (hz0 : -9223372036854775808 ≤ n) (hz1 : n ≤ 9223372036854775807) : Calls Try.prog 39 #[.pointer (some ⟨B, 0, none⟩), .int .i64 5, .int .i64 n, .string s] w fun e w' => e = .returned (.tuple #[]) ∧ w' = w.setCell ⟨B, 5, none⟩ (.string s) := by
  go_enter Try.func39, Try.ntmps39
  go_wp2
  refine ⟨by rfl, .tuple #[], results_none (by rfl) _ _ _, rfl, ?_⟩
  rfl
set_option maxRecDepth 100000 in
set_option maxHeartbeats 1000000 in
theorem put_6 (B : Nat) (w : World) (n : Int) (s : ByteArray) (o : ByteArray) (hc : w.cell? ⟨B, 6, none⟩ = some (.string o)) (hf : w.frozen? ⟨B, 6, none⟩ = false) (hz0 : -9223372036854775808 ≤ n) (hz1 : n ≤ 9223372036854775807) : Calls Try.prog 39 #[.pointer (some ⟨B, 0, none⟩), .int .i64 6, .int .i64 n, .string s] w fun e w' => e = .returned (.tuple #[]) ∧ w' = w.setCell ⟨B, 6, none⟩ (.string s) := by
  go_enter Try.func39, Try.ntmps39
  go_wp2
  refine ⟨by rfl, .tuple #[], results_none (by rfl) _ _ _, rfl, ?_⟩
  rfl
set_option maxRecDepth 100000 in
set_option maxHeartbeats 1000000 in
theorem put_7 (B : Nat) (w : World) (n : Int) (s : ByteArray) (o : Int) (hc : w.cell? ⟨B, 7, none⟩ = some (.int .i64 o)) (hf : w.frozen? ⟨B, 7, none⟩ = false) (hz0 : -9223372036854775808 ≤ n) (hz1 : n ≤ 9223372036854775807) : Calls Try.prog 39 #[.pointer (some ⟨B, 0, none⟩), .int .i64 7, .int .i64 n, .string s] w fun e w' => e = .returned (.tuple #[]) ∧ w' = w.setCell ⟨B, 7, none⟩ (.int .i64 n) := by
  go_enter Try.func39, Try.ntmps39
  go_wp2
  refine ⟨by rfl, .tuple #[], results_none (by rfl) _ _ _, rfl, ?_⟩
  rfl
set_option maxRecDepth 100000 in
set_option maxHeartbeats 1000000 in
theorem put_8 (B : Nat) (w : World) (n : Int) (s : ByteArray) (o : Int) (hc : w.cell? ⟨B, 8, none⟩ = some (.int .i64 o)) (hf : w.frozen? ⟨B, 8, none⟩ = false) (hz0 : -9223372036854775808 ≤ n) (hz1 : n ≤ 9223372036854775807) : Calls Try.prog 39 #[.pointer (some ⟨B, 0, none⟩), .int .i64 8, .int .i64 n, .string s] w fun e w' => e = .returned (.tuple #[]) ∧ w' = w.setCell ⟨B, 8, none⟩ (.int .i64 n) := by
  go_enter Try.func39, Try.ntmps39
  go_wp2
  refine ⟨by rfl, .tuple #[], results_none (by rfl) _ _ _, rfl, ?_⟩
  rfl
set_option maxRecDepth 100000 in
set_option maxHeartbeats 1000000 in
theorem put_9 (B : Nat) (w : World) (n : Int) (s : ByteArray) (o : Int) (hc : w.cell? ⟨B, 9, none⟩ = some (.int .i64 o)) (hf : w.frozen? ⟨B, 9, none⟩ = false) (hz0 : -9223372036854775808 ≤ n) (hz1 : n ≤ 9223372036854775807) : Calls Try.prog 39 #[.pointer (some ⟨B, 0, none⟩), .int .i64 9, .int .i64 n, .string s] w fun e w' => e = .returned (.tuple #[]) ∧ w' = w.setCell ⟨B, 9, none⟩ (.int .i64 n) := by
  go_enter Try.func39, Try.ntmps39
  go_wp2
  refine ⟨by rfl, .tuple #[], results_none (by rfl) _ _ _, rfl, ?_⟩
  rfl
set_option maxRecDepth 100000 in
set_option maxHeartbeats 1000000 in
theorem put_10 (B : Nat) (w : World) (n : Int) (s : ByteArray) (o : Int) (hc : w.cell? ⟨B, 10, none⟩ = some (.int .i64 o)) (hf : w.frozen? ⟨B, 10, none⟩ = false) (hz0 : -9223372036854775808 ≤ n) (hz1 : n ≤ 9223372036854775807) : Calls Try.prog 39 #[.pointer (some ⟨B, 0, none⟩), .int .i64 10, .int .i64 n, .string s] w fun e w' => e = .returned (.tuple #[]) ∧ w' = w.setCell ⟨B, 10, none⟩ (.int .i64 n) := by
  go_enter Try.func39, Try.ntmps39
  go_wp2
  refine ⟨by rfl, .tuple #[], results_none (by rfl) _ _ _, rfl, ?_⟩
  rfl
set_option maxRecDepth 100000 in
set_option maxHeartbeats 1000000 in
theorem put_11 (B : Nat) (w : World) (n : Int) (s : ByteArray) (o : Int) (hc : w.cell? ⟨B, 11, none⟩ = some (.int .i64 o)) (hf : w.frozen? ⟨B, 11, none⟩ = false) (hz0 : -9223372036854775808 ≤ n) (hz1 : n ≤ 9223372036854775807) : Calls Try.prog 39 #[.pointer (some ⟨B, 0, none⟩), .int .i64 11, .int .i64 n, .string s] w fun e w' => e = .returned (.tuple #[]) ∧ w' = w.setCell ⟨B, 11, none⟩ (.int .i64 n) := by
  go_enter Try.func39, Try.ntmps39
  go_wp2
  refine ⟨by rfl, .tuple #[], results_none (by rfl) _ _ _, rfl, ?_⟩
  rfl
set_option maxRecDepth 100000 in
set_option maxHeartbeats 1000000 in
theorem put_12 (B : Nat) (w : World) (n : Int) (s : ByteArray) (o : Int) (hc : w.cell? ⟨B, 12, none⟩ = some (.int .i64 o)) (hf : w.frozen? ⟨B, 12, none⟩ = false) (hz0 : -9223372036854775808 ≤ n) (hz1 : n ≤ 9223372036854775807) : Calls Try.prog 39 #[.pointer (some ⟨B, 0, none⟩), .int .i64 12, .int .i64 n, .string s] w fun e w' => e = .returned (.tuple #[]) ∧ w' = w.setCell ⟨B, 12, none⟩ (.int .i64 n) := by
  go_enter Try.func39, Try.ntmps39
  go_wp2
  refine ⟨by rfl, .tuple #[], results_none (by rfl) _ _ _, rfl, ?_⟩
  rfl
set_option maxRecDepth 100000 in
set_option maxHeartbeats 1000000 in
theorem put_13 (B : Nat) (w : World) (n : Int) (s : ByteArray) (o : Int) (hc : w.cell? ⟨B, 13, none⟩ = some (.int .i64 o)) (hf : w.frozen? ⟨B, 13, none⟩ = false) (hz0 : -9223372036854775808 ≤ n) (hz1 : n ≤ 9223372036854775807) : Calls Try.prog 39 #[.pointer (some ⟨B, 0, none⟩), .int .i64 13, .int .i64 n, .string s] w fun e w' => e = .returned (.tuple #[]) ∧ w' = w.setCell ⟨B, 13, none⟩ (.int .i64 n) := by
  go_enter Try.func39, Try.ntmps39
  go_wp2
  refine ⟨by rfl, .tuple #[], results_none (by rfl) _ _ _, rfl, ?_⟩
  rfl
set_option maxRecDepth 100000 in
set_option maxHeartbeats 1000000 in
theorem put_14 (B : Nat) (w : World) (n : Int) (s : ByteArray) (o : Int) (hc : w.cell? ⟨B, 15, none⟩ = some (.int .i64 o)) (hf : w.frozen? ⟨B, 15, none⟩ = false) (hz0 : -9223372036854775808 ≤ n) (hz1 : n ≤ 9223372036854775807) : Calls Try.prog 39 #[.pointer (some ⟨B, 0, none⟩), .int .i64 14, .int .i64 n, .string s] w fun e w' => e = .returned (.tuple #[]) ∧ w' = w.setCell ⟨B, 15, none⟩ (.int .i64 n) := by
  go_enter Try.func39, Try.ntmps39
  go_wp2
  refine ⟨by rfl, .tuple #[], results_none (by rfl) _ _ _, rfl, ?_⟩
  rfl
set_option maxRecDepth 100000 in
set_option maxHeartbeats 1000000 in
theorem put_15 (B : Nat) (w : World) (n : Int) (s : ByteArray) (o : Int) (hc : w.cell? ⟨B, 16, none⟩ = some (.int .i64 o)) (hf : w.frozen? ⟨B, 16, none⟩ = false) (hz0 : -9223372036854775808 ≤ n) (hz1 : n ≤ 9223372036854775807) : Calls Try.prog 39 #[.pointer (some ⟨B, 0, none⟩), .int .i64 15, .int .i64 n, .string s] w fun e w' => e = .returned (.tuple #[]) ∧ w' = w.setCell ⟨B, 16, none⟩ (.int .i64 n) := by
  go_enter Try.func39, Try.ntmps39
  go_wp2
  refine ⟨by rfl, .tuple #[], results_none (by rfl) _ _ _, rfl, ?_⟩
  rfl
set_option maxRecDepth 100000 in
set_option maxHeartbeats 1000000 in
theorem put_16 (B : Nat) (w : World) (n : Int) (s : ByteArray) (o : Int) (hc : w.cell? ⟨B, 17, none⟩ = some (.int .i64 o)) (hf : w.frozen? ⟨B, 17, none⟩ = false) (hz0 : -9223372036854775808 ≤ n) (hz1 : n ≤ 9223372036854775807) : Calls Try.prog 39 #[.pointer (some ⟨B, 0, none⟩), .int .i64 16, .int .i64 n, .string s] w fun e w' => e = .returned (.tuple #[]) ∧ w' = w.setCell ⟨B, 17, none⟩ (.int .i64 n) := by
  go_enter Try.func39, Try.ntmps39
  go_wp2
  refine ⟨by rfl, .tuple #[], results_none (by rfl) _ _ _, rfl, ?_⟩
  rfl
set_option maxRecDepth 100000 in
set_option maxHeartbeats 1000000 in
theorem put_17 (B : Nat) (w : World) (n : Int) (s : ByteArray) (o : Int) (hc : w.cell? ⟨B, 14, none⟩ = some (.int .i64 o)) (hf : w.frozen? ⟨B, 14, none⟩ = false) (hz0 : -9223372036854775808 ≤ n) (hz1 : n ≤ 9223372036854775807) : Calls Try.prog 39 #[.pointer (some ⟨B, 0, none⟩), .int .i64 17, .int .i64 n, .string s] w fun e w' => e = .returned (.tuple #[]) ∧ w' = w.setCell ⟨B, 14, none⟩ (.int .i64 n) := by
  go_enter Try.func39, Try.ntmps39
  go_wp2
  refine ⟨by rfl, .tuple #[], results_none (by rfl) _ _ _, rfl, ?_⟩
  rfl
set_option maxRecDepth 100000 in
set_option maxHeartbeats 1000000 in
theorem put_18 (B : Nat) (w : World) (n : Int) (s : ByteArray) (o : ByteArray) (hc : w.cell? ⟨B, 19, none⟩ = some (.string o)) (hf : w.frozen? ⟨B, 19, none⟩ = false) (hz0 : -9223372036854775808 ≤ n) (hz1 : n ≤ 9223372036854775807) : Calls Try.prog 39 #[.pointer (some ⟨B, 0, none⟩), .int .i64 18, .int .i64 n, .string s] w fun e w' => e = .returned (.tuple #[]) ∧ w' = w.setCell ⟨B, 19, none⟩ (.string s) := by
  go_enter Try.func39, Try.ntmps39
  go_wp2
  refine ⟨by rfl, .tuple #[], results_none (by rfl) _ _ _, rfl, ?_⟩
  rfl
set_option maxRecDepth 100000 in
set_option maxHeartbeats 1000000 in
theorem put_19 (B : Nat) (w : World) (n : Int) (s : ByteArray) (o : Int) (hc : w.cell? ⟨B, 20, none⟩ = some (.int .i64 o)) (hf : w.frozen? ⟨B, 20, none⟩ = false) (hz0 : -9223372036854775808 ≤ n) (hz1 : n ≤ 9223372036854775807) : Calls Try.prog 39 #[.pointer (some ⟨B, 0, none⟩), .int .i64 19, .int .i64 n, .string s] w fun e w' => e = .returned (.tuple #[]) ∧ w' = w.setCell ⟨B, 20, none⟩ (.int .i64 n) := by
  go_enter Try.func39, Try.ntmps39
  go_wp2
  refine ⟨by rfl, .tuple #[], results_none (by rfl) _ _ _, rfl, ?_⟩
  rfl
set_option maxRecDepth 100000 in
set_option maxHeartbeats 1000000 in
theorem put_20 (B : Nat) (w : World) (n : Int) (s : ByteArray) (o : Int) (hc : w.cell? ⟨B, 21, none⟩ = some (.int .i64 o)) (hf : w.frozen? ⟨B, 21, none⟩ = false) (hz0 : -9223372036854775808 ≤ n) (hz1 : n ≤ 9223372036854775807) : Calls Try.prog 39 #[.pointer (some ⟨B, 0, none⟩), .int .i64 20, .int .i64 n, .string s] w fun e w' => e = .returned (.tuple #[]) ∧ w' = w.setCell ⟨B, 21, none⟩ (.int .i64 n) := by
  go_enter Try.func39, Try.ntmps39
  go_wp2
  refine ⟨by rfl, .tuple #[], results_none (by rfl) _ _ _, rfl, ?_⟩
  rfl
set_option maxRecDepth 100000 in
set_option maxHeartbeats 1000000 in
theorem put_21 (B : Nat) (w : World) (n : Int) (s : ByteArray) (o : Int) (hc : w.cell? ⟨B, 22, none⟩ = some (.int .i64 o)) (hf : w.frozen? ⟨B, 22, none⟩ = false) (hz0 : -9223372036854775808 ≤ n) (hz1 : n ≤ 9223372036854775807) : Calls Try.prog 39 #[.pointer (some ⟨B, 0, none⟩), .int .i64 21, .int .i64 n, .string s] w fun e w' => e = .returned (.tuple #[]) ∧ w' = w.setCell ⟨B, 22, none⟩ (.int .i64 n) := by
  go_enter Try.func39, Try.ntmps39
  go_wp2
  refine ⟨by rfl, .tuple #[], results_none (by rfl) _ _ _, rfl, ?_⟩
  rfl
set_option maxRecDepth 100000 in
set_option maxHeartbeats 1000000 in
theorem put_22 (B : Nat) (w : World) (n : Int) (s : ByteArray) (o : Int) (hc : w.cell? ⟨B, 23, none⟩ = some (.int .i64 o)) (hf : w.frozen? ⟨B, 23, none⟩ = false) (hz0 : -9223372036854775808 ≤ n) (hz1 : n ≤ 9223372036854775807) : Calls Try.prog 39 #[.pointer (some ⟨B, 0, none⟩), .int .i64 22, .int .i64 n, .string s] w fun e w' => e = .returned (.tuple #[]) ∧ w' = w.setCell ⟨B, 23, none⟩ (.int .i64 n) := by
  go_enter Try.func39, Try.ntmps39
  go_wp2
  refine ⟨by rfl, .tuple #[], results_none (by rfl) _ _ _, rfl, ?_⟩
  rfl
set_option maxRecDepth 100000 in
set_option maxHeartbeats 1000000 in
theorem put_23 (B : Nat) (w : World) (n : Int) (s : ByteArray) (o : Int) (hc : w.cell? ⟨B, 24, none⟩ = some (.int .i64 o)) (hf : w.frozen? ⟨B, 24, none⟩ = false) (hz0 : -9223372036854775808 ≤ n) (hz1 : n ≤ 9223372036854775807) : Calls Try.prog 39 #[.pointer (some ⟨B, 0, none⟩), .int .i64 23, .int .i64 n, .string s] w fun e w' => e = .returned (.tuple #[]) ∧ w' = w.setCell ⟨B, 24, none⟩ (.int .i64 n) := by
  go_enter Try.func39, Try.ntmps39
  go_wp2
  refine ⟨by rfl, .tuple #[], results_none (by rfl) _ _ _, rfl, ?_⟩
  rfl
theorem put_any {B : Nat} {w : World} {c : Cm} (hb : Blk w B 27 c.cs) {i : Nat} (h : i < 24) (n : Int) (s : ByteArray) (hz0 : -9223372036854775808 ≤ n) (hz1 : n ≤ 9223372036854775807) : Calls Try.prog 39 #[.pointer (some ⟨B, 0, none⟩), .int .i64 (i : Int), .int .i64 n, .string s] w fun e w' => e = .returned (.tuple #[]) ∧ w' = w.setCell ⟨B, cOf i, none⟩ (if isT i then .string s else .int .i64 n) := by
  have hp := part_cell hb h
  have hf : w.frozen? ⟨B, cOf i, none⟩ = false := hb.frozen _
  rcases cases24 h with rfl | rfl | rfl | rfl | rfl | rfl | rfl | rfl | rfl | rfl | rfl | rfl | rfl | rfl | rfl | rfl | rfl | rfl | rfl | rfl | rfl | rfl | rfl | rfl
  · exact put_0 B w n s _ hp hf hz0 hz1
  · exact put_1 B w n s _ hp hf hz0 hz1
  · exact put_2 B w n s _ hp hf hz0 hz1
  · exact put_3 B w n s _ hp hf hz0 hz1
  · exact put_4 B w n s _ hp hf hz0 hz1
  · exact put_5 B w n s _ hp hf hz0 hz1
  · exact put_6 B w n s _ hp hf hz0 hz1
  · exact put_7 B w n s _ hp hf hz0 hz1
  · exact put_8 B w n s _ hp hf hz0 hz1
  · exact put_9 B w n s _ hp hf hz0 hz1
  · exact put_10 B w n s _ hp hf hz0 hz1
  · exact put_11 B w n s _ hp hf hz0 hz1
  · exact put_12 B w n s _ hp hf hz0 hz1
  · exact put_13 B w n s _ hp hf hz0 hz1
  · exact put_14 B w n s _ hp hf hz0 hz1
  · exact put_15 B w n s _ hp hf hz0 hz1
  · exact put_16 B w n s _ hp hf hz0 hz1
  · exact put_17 B w n s _ hp hf hz0 hz1
  · exact put_18 B w n s _ hp hf hz0 hz1
  · exact put_19 B w n s _ hp hf hz0 hz1
  · exact put_20 B w n s _ hp hf hz0 hz1
  · exact put_21 B w n s _ hp hf hz0 hz1
  · exact put_22 B w n s _ hp hf hz0 hz1
  · exact put_23 B w n s _ hp hf hz0 hz1
end Go.Proofs.Ytjnnecoikcmaeaa
