/-
  store: lostOf, keptOf.
-/
import Derived.Test.YtekkckfoikpljaaSPut3
import Derived.Test.YtekkckfoikpljaaShelf
namespace Go.Proofs.Ytekkckfoikpljaa
set_option linter.unusedVariables false
set_option linter.unusedSimpArgs false
open Go.Shelf Go.RowKit Go.Sort Go.Lib Go.Great

theorem mono_cut (pr : Nat → Bool) : ∀ N, (∀ a b, a ≤ b → b < N → pr a = true → pr b = true) → ∃ k, k ≤ N ∧ (∀ i, i < k → pr i = false) ∧ ∀ i, k ≤ i → i < N → pr i = true
  | 0, _ => ⟨0, Nat.le_refl _, fun i h => by omega, fun i _ h => by omega⟩
  | N + 1, hm => by
    obtain ⟨k, h1, h2, h3⟩ := mono_cut pr N fun a b hab hb => hm a b hab (by omega)
    by_cases hk : k < N
    · exact ⟨k, by omega, h2, fun i hi hN => by
        by_cases hiN : i < N
        · exact h3 i hi hiN
        · exact hm k i hi hN (h3 k (Nat.le_refl _) hk)⟩
    · cases hp : pr N with
      | true => exact ⟨k, by omega, h2, fun i hi hN => by rw [show i = N by omega]; exact hp⟩
      | false => exact ⟨N + 1, Nat.le_refl _, fun i hi => by
          by_cases hiN : i < k
          · exact h2 i hiN
          · rw [show i = N by omega]; exact hp, fun i hi hN => by omega⟩
theorem count_cut (k : Nat) : ∀ N, (List.range N).countP (fun i => decide (i < k)) = min k N
  | 0 => by simp
  | N + 1 => by
    rw [List.range_succ, List.countP_append, count_cut k N]
    by_cases h : N < k
    · simp [h]; omega
    · simp [h]; omega
/-- sort.Search: the first one that fits. -/
theorem search_gen (f : FuncId) (caps : Array Value) (N : Nat) (hN : N ≤ 1000000000) (pr : Nat → Bool) (W : World) (hf : ∀ args w, (callFunc f args).run Try.prog w = .ok (.enter f args) w)
    (hcall : ∀ w' i, i < N → Below W.heap.size W w' → Calls Try.prog f (#[.int .i64 (i : Int)] ++ caps) w' fun e w2 => e = .returned (.bool (pr i)) ∧ ∃ q, w2 = w'.drewN q)
    (hm : ∀ a b, a ≤ b → b < N → pr a = true → pr b = true) :
    ∃ k, k ≤ N ∧ (∀ i, i < k → pr i = false) ∧ (∀ i, k ≤ i → i < N → pr i = true) ∧
      Calls Try.prog 29 #[.int .i64 (N : Int), .func (.func f) #[] caps] W fun e w' => e = .returned (.int .i64 (k : Int)) ∧ Below W.heap.size W w' := by
  obtain ⟨k, h1, h2, h3⟩ := mono_cut pr N hm
  refine ⟨k, h1, h2, h3, ?_⟩
  have hbel : ∀ m os, Below W.heap.size W (grow (W.drewN m) os) := fun m os => below_grown_sl _ _ _ _ (Nat.le_refl _)
  have h := Any.sort_Search Try.lays16 f caps N pr W (fun args w => hf args w) (by omega)
    (fun m os i hi => (hcall (grow (W.drewN m) os) i hi (hbel m os)).mono fun e w' ⟨he, q, hq⟩ => ⟨he, q, #[], by rw [hq, grow_empty]⟩) (fun a b hab hb ha => hm a b (by omega) (by omega) ha)
  have e : (List.range N).countP (fun i => !pr i) = k := by
    have : (List.range N).countP (fun i => !pr i) = (List.range N).countP (fun i => decide (i < k)) := List.countP_congr fun i hi => by
      have hi' : i < N := by simpa using hi
      by_cases h : i < k
      · rw [h2 i h]; simp [h]
      · rw [h3 i (by omega) hi']; simp [h]
    rw [this, count_cut]; omega
  rw [e] at h
  refine h.mono fun e w' ⟨he, q, os, hw⟩ => ⟨he, ?_⟩
  rw [hw]
  exact below_grown_sl _ _ _ _ (Nat.le_refl _)
def pieceA (ao : Option Addr) (i d size : Nat) : Option Addr := match ao with
  | none => none
  | some a => if d = 0 then some a else some ⟨a.block, a.off + i * size, a.spot⟩
/-- A row's piece: things i to j, as a slice of a slice has it. -/
theorem RowAt.piece {w : World} {e : TypeId} {size n : Nat} {ao : Option Addr} {cap : Nat} {xs : List Value} (h : RowAt w e size (.slice ao n cap) n xs) {i j : Nat} (hi : i ≤ j) (hj : j ≤ n) :
    ∃ ao', pieceA ao i (j - i) size = ao' ∧ RowAt w e size (.slice ao' (j - i) (j - i)) (j - i) ((xs.drop (i * size)).take ((j - i) * size)) := by
  rcases h.2 with ⟨h0, hn⟩ | ⟨g, off, cap', cur, e1, e2, e3, e4, e5, e6⟩
  · injection h0 with h0
    subst h0 hn
    refine ⟨none, rfl, ?_⟩
    rw [show j - i = 0 by omega]
    simpa using RowAt.none0 w e size
  · injection e1 with e1 _ e7
    subst e1 e7
    by_cases hji : j - i = 0
    · refine ⟨some ⟨g, off, none⟩, by simp [pieceA, hji], ?_⟩
      rw [hji]
      refine ⟨by simp, .inr ⟨g, off, 0, cur, rfl, e2, Nat.le_refl _, by decide, by omega, by simp⟩⟩
    · exact ⟨some ⟨g, off + i * size, none⟩, by simp [pieceA, hji], h.cut rfl hi hj⟩

set_option maxRecDepth 100000 in
set_option maxHeartbeats 4000000 in
theorem lost1_any {w : World} {p : Nat} {bs bf a i : Nat} {ao : Option Addr} {n cap : Nat} {X : List (Nat × Nat)} (hi : i < n) (hX : X.length = n) (hr : RowAt w 62 2 (.slice ao n cap) n (flatL rowV X)) (hz : ∀ x, x ∈ X → (rowV x)[1]? = some (.int .i64 ((Prod.snd x : Nat) : Int)))
    (c1 : w.cell? ⟨bs, 0, none⟩ = some (.pointer (some ⟨p, 0, none⟩))) (c2 : w.cell? ⟨bf, 0, none⟩ = some (.int .i64 (a : Int))) (c3 : w.cell? ⟨p, 4, none⟩ = some (.slice ao n cap)) (pr : Nat → Bool) (hpr : ∀ x, X[i]? = some x → pr i = decide (a ≤ Prod.snd x)) :
    Calls Try.prog 30 #[.int .i64 (i : Int), .pointer (some ⟨bs, 0, none⟩), .pointer (some ⟨bf, 0, none⟩)] w fun e w' => e = .returned (.bool (pr i)) ∧ ∃ q, w' = w.drewN q := by
  obtain ⟨x, hx⟩ : ∃ x, X[i]? = some x := ⟨X[i], List.getElem?_eq_getElem (by omega)⟩
  rw [hpr x hx]
  obtain ⟨g, off, cap', cur, e1, -⟩ := hr.more (by omega)
  injection e1 with e1 _ e2
  subst e1 e2
  have c4 : w.cell? ⟨g, off + (i * 2 + 1), none⟩ = some (.int .i64 ((Prod.snd x : Nat) : Int)) := hr.cell rfl (by rw [flatL_get rowV_len hx (by decide)]; exact hz x (List.mem_of_getElem? hx))
  rw [← Nat.add_assoc] at c4
  have hi' : (i : Int) < (n : Int) := by omega
  generalize Prod.snd x = y at *
  clear hpr hz hr hx hX
  go_enter Try.func30, Try.ntmps30
  go_upto_region 1 with fail
  go_quiet (fail)
  go_wp2
  go_ret
  exact ⟨by first | rfl | (congr 2; exact decide_eq_decide.2 (by omega)), _, rfl⟩
set_option maxRecDepth 100000 in
set_option maxHeartbeats 4000000 in
theorem lost2_any {w : World} {p : Nat} {bs bf a i : Nat} {ao : Option Addr} {n cap : Nat} {X : List (Nat × Nat)} (hi : i < n) (hX : X.length = n) (hr : RowAt w 62 2 (.slice ao n cap) n (flatL rowV X)) (hz : ∀ x, x ∈ X → (rowV x)[0]? = some (.int .i64 ((Prod.fst x : Nat) : Int)))
    (c1 : w.cell? ⟨bs, 0, none⟩ = some (.pointer (some ⟨p, 0, none⟩))) (c2 : w.cell? ⟨bf, 0, none⟩ = some (.int .i64 (a : Int))) (c3 : w.cell? ⟨p, 4, none⟩ = some (.slice ao n cap)) (pr : Nat → Bool) (hpr : ∀ x, X[i]? = some x → pr i = decide (a < Prod.fst x)) :
    Calls Try.prog 31 #[.int .i64 (i : Int), .pointer (some ⟨bs, 0, none⟩), .pointer (some ⟨bf, 0, none⟩)] w fun e w' => e = .returned (.bool (pr i)) ∧ ∃ q, w' = w.drewN q := by
  obtain ⟨x, hx⟩ : ∃ x, X[i]? = some x := ⟨X[i], List.getElem?_eq_getElem (by omega)⟩
  rw [hpr x hx]
  obtain ⟨g, off, cap', cur, e1, -⟩ := hr.more (by omega)
  injection e1 with e1 _ e2
  subst e1 e2
  have c4 : w.cell? ⟨g, off + (i * 2 + 0), none⟩ = some (.int .i64 ((Prod.fst x : Nat) : Int)) := hr.cell rfl (by rw [flatL_get rowV_len hx (by decide)]; exact hz x (List.mem_of_getElem? hx))
  rw [Nat.add_zero] at c4
  have hi' : (i : Int) < (n : Int) := by omega
  generalize Prod.fst x = y at *
  clear hpr hz hr hx hX
  go_enter Try.func31, Try.ntmps31
  go_upto_region 1 with fail
  go_quiet (fail)
  go_wp2
  go_ret
  exact ⟨by first | rfl | (congr 2; exact decide_eq_decide.2 (by omega)), _, rfl⟩

set_option maxRecDepth 100000 in
set_option maxHeartbeats 4000000 in
theorem kept1_any {w : World} {p : Nat} {bs bf a i : Nat} {ao : Option Addr} {n cap : Nat} {X : List Msg} (hi : i < n) (hX : X.length = n) (hr : RowAt w 34 42 (.slice ao n cap) n (flatL msgV X)) (hz : ∀ x, x ∈ X → (msgV x)[3]? = some (.int .i64 ((seqM x : Nat) : Int)))
    (c1 : w.cell? ⟨bs, 0, none⟩ = some (.pointer (some ⟨p, 0, none⟩))) (c2 : w.cell? ⟨bf, 0, none⟩ = some (.int .i64 (a : Int))) (c3 : w.cell? ⟨p, 3, none⟩ = some (.slice ao n cap)) (pr : Nat → Bool) (hpr : ∀ x, X[i]? = some x → pr i = decide (a ≤ seqM x)) :
    Calls Try.prog 32 #[.int .i64 (i : Int), .pointer (some ⟨bs, 0, none⟩), .pointer (some ⟨bf, 0, none⟩)] w fun e w' => e = .returned (.bool (pr i)) ∧ ∃ q, w' = w.drewN q := by
  obtain ⟨x, hx⟩ : ∃ x, X[i]? = some x := ⟨X[i], List.getElem?_eq_getElem (by omega)⟩
  rw [hpr x hx]
  obtain ⟨g, off, cap', cur, e1, -⟩ := hr.more (by omega)
  injection e1 with e1 _ e2
  subst e1 e2
  have c4 : w.cell? ⟨g, off + (i * 42 + 3), none⟩ = some (.int .i64 ((seqM x : Nat) : Int)) := hr.cell rfl (by rw [flatL_get msgV_len hx (by decide)]; exact hz x (List.mem_of_getElem? hx))
  rw [← Nat.add_assoc] at c4
  have hi' : (i : Int) < (n : Int) := by omega
  generalize seqM x = y at *
  clear hpr hz hr hx hX
  go_enter Try.func32, Try.ntmps32
  go_upto_region 1 with fail
  go_quiet (fail)
  go_wp2
  go_ret
  exact ⟨by first | rfl | (congr 2; exact decide_eq_decide.2 (by omega)), _, rfl⟩
set_option maxRecDepth 100000 in
set_option maxHeartbeats 4000000 in
theorem kept2_any {w : World} {p : Nat} {bs bf a i : Nat} {ao : Option Addr} {n cap : Nat} {X : List Msg} (hi : i < n) (hX : X.length = n) (hr : RowAt w 34 42 (.slice ao n cap) n (flatL msgV X)) (hz : ∀ x, x ∈ X → (msgV x)[3]? = some (.int .i64 ((seqM x : Nat) : Int)))
    (c1 : w.cell? ⟨bs, 0, none⟩ = some (.pointer (some ⟨p, 0, none⟩))) (c2 : w.cell? ⟨bf, 0, none⟩ = some (.int .i64 (a : Int))) (c3 : w.cell? ⟨p, 3, none⟩ = some (.slice ao n cap)) (pr : Nat → Bool) (hpr : ∀ x, X[i]? = some x → pr i = decide (a < seqM x)) :
    Calls Try.prog 33 #[.int .i64 (i : Int), .pointer (some ⟨bs, 0, none⟩), .pointer (some ⟨bf, 0, none⟩)] w fun e w' => e = .returned (.bool (pr i)) ∧ ∃ q, w' = w.drewN q := by
  obtain ⟨x, hx⟩ : ∃ x, X[i]? = some x := ⟨X[i], List.getElem?_eq_getElem (by omega)⟩
  rw [hpr x hx]
  obtain ⟨g, off, cap', cur, e1, -⟩ := hr.more (by omega)
  injection e1 with e1 _ e2
  subst e1 e2
  have c4 : w.cell? ⟨g, off + (i * 42 + 3), none⟩ = some (.int .i64 ((seqM x : Nat) : Int)) := hr.cell rfl (by rw [flatL_get msgV_len hx (by decide)]; exact hz x (List.mem_of_getElem? hx))
  rw [← Nat.add_assoc] at c4
  have hi' : (i : Int) < (n : Int) := by omega
  generalize seqM x = y at *
  clear hpr hz hr hx hX
  go_enter Try.func33, Try.ntmps33
  go_upto_region 1 with fail
  go_quiet (fail)
  go_wp2
  go_ret
  exact ⟨by first | rfl | (congr 2; exact decide_eq_decide.2 (by omega)), _, rfl⟩
end Go.Proofs.Ytekkckfoikpljaa
