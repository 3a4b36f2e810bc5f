/-
  The reference of msg: Has.
-/
import Derived.Test.YtdlmaeieoiocdabDoorMsgRefRows
namespace Go.Proofs.YtdlmaeieoiocdabDoor
set_option linter.unusedVariables false
set_option linter.unusedSimpArgs false
open Go.RowKit Go.Great

def amongB (z : Int) (l : List Int) : Bool := (l.any fun x => x == z || x == 0) && isK z
theorem among_true {z : Int} {l : List Int} {k : Nat} (hk : k < l.length) (h : l.getD k 0 = z ∨ l.getD k 0 = 0) : amongB z l = isK z := by
  unfold amongB
  rw [show (l.any fun x => x == z || x == 0) = true from List.any_eq_true.2 ⟨l.getD k 0, by rw [List.getD_eq_getElem?_getD, List.getElem?_eq_getElem hk]; exact List.getElem_mem hk, by simpa using h⟩, Bool.true_and]
theorem among_false {z : Int} {l : List Int} (h : ∀ k, k < l.length → ¬ (l.getD k 0 = z ∨ l.getD k 0 = 0)) : amongB z l = false := by
  unfold amongB
  rw [show (l.any fun x => x == z || x == 0) = false from List.any_eq_false.2 fun x hx => by
    obtain ⟨k, hk, rfl⟩ := List.getElem_of_mem hx
    have := h k hk
    rw [List.getD_eq_getElem?_getD, List.getElem?_eq_getElem hk] at this
    simpa using this, Bool.false_and]
set_option maxRecDepth 100000 in
set_option maxHeartbeats 1000000 in
theorem among_any (z : Int) (v : Value) (l : List Int) (hl : l.length ≤ 20) (w : World) (h : SlI w v l) :
    Calls Tryd.prog 75 #[.int .i64 z, v] w fun e w' => e = .returned (.bool (amongB z l)) ∧ w' = w := by
  rcases h with ⟨rfl, rfl⟩ | ⟨g, rfl, hg, hc⟩
  · rw [show amongB z [] = false by rfl]
    go_enter Tryd.func75, Tryd.ntmps75
    go_wp2
    go_loopw [5] (fun i wr => i = .int .i64 0 ∧ wr = w) (fun i _ => 0)
    case atStart => exact ⟨rfl, rfl⟩
    case round =>
      obtain ⟨rfl, rfl⟩ := hrel
      go_wp2
      go_ret
      exact ⟨rfl, by first | rfl | trivial⟩
  · have HC : Hid (∀ k, k < l.length → w.cell? ⟨g, k, none⟩ = some (.int .i64 (l.getD k 0))) := hc
    clear hc
    go_enter Tryd.func75, Tryd.ntmps75
    go_wp2
    go_loopw [5] (fun i wr => ∃ k : Nat, k ≤ l.length ∧ i = .int .i64 k ∧ Hid (∀ j, j < k → ¬ (l.getD j 0 = z ∨ l.getD j 0 = 0)) ∧ wr = w) (fun i _ => l.length - (intOf i).toNat)
    case atStart => exact ⟨0, by omega, rfl, fun j hj => by omega, rfl⟩
    case round =>
      obtain ⟨k, hk, rfl, he, rfl⟩ := hrel
      by_cases hlt : k < l.length
      · have hlt' : (k : Int) < (l.length : Int) := by omega
        have hc := HC.out k hlt
        have HT : Hid (l.getD k 0 = z ∨ l.getD k 0 = 0 → amongB z l = isK z) := fun h => among_true hlt h
        have HF : Hid (¬ (l.getD k 0 = z ∨ l.getD k 0 = 0) → ∀ j, j < k + 1 → ¬ (l.getD j 0 = z ∨ l.getD j 0 = 0)) := fun h j hj => by
          by_cases e : j = k
          · rw [e]; exact h
          · exact he.out j (by omega)
        clear he
        generalize l.getD k 0 = x at *
        have HK1 : Hid (isK z = (decide (1 ≤ z) && decide (z ≤ 17))) := rfl
        by_cases hx : x = z
        · have HR : Hid (amongB z l = isK z) := HT.out (.inl hx)
          subst hx
          clear HT HF
          have hb : (x == x) = true := by simp
          by_cases h1 : 1 ≤ x
          · go_wp2
            go_ret
            exact ⟨ret_bool (by rw [HR.out, HK1.out]; simp [h1]), by first | rfl | trivial⟩
          · go_wp2
            go_ret
            exact ⟨ret_bool (by rw [HR.out, HK1.out]; simp; omega), by first | rfl | trivial⟩
        · have hb : (x == z) = false := by simp [hx]
          by_cases hx0 : x = 0
          · have HR : Hid (amongB z l = isK z) := HT.out (.inr hx0)
            subst hx0
            clear HT HF
            by_cases h1 : 1 ≤ z
            · go_wp2
              go_ret
              exact ⟨ret_bool (by rw [HR.out, HK1.out]; simp [h1]), by first | rfl | trivial⟩
            · go_wp2
              go_ret
              exact ⟨ret_bool (by rw [HR.out, HK1.out]; simp; omega), by first | rfl | trivial⟩
          · have hb0 : (x == 0) = false := by simp [hx0]
            have HR : Hid (∀ j, j < k + 1 → ¬ (l.getD j 0 = z ∨ l.getD j 0 = 0)) := HF.out (fun h => h.elim hx hx0)
            clear HT HF
            go_wp2
            go_roundw
            case rel => exact ⟨k + 1, by omega, by go_num, HR, by first | rfl | trivial⟩
            case measure => simp [intOf]; omega
      · obtain rfl : k = l.length := by omega
        have HR : Hid (amongB z l = false) := among_false he.out
        clear he
        go_wp2
        go_ret
        exact ⟨ret_bool HR.out.symm, by first | rfl | trivial⟩
def hasR (z : Int) (mu ma : List Int) : Int := if amongB z mu then 2 else if amongB z ma then 1 else 0
set_option maxRecDepth 100000 in
set_option maxHeartbeats 1000000 in
theorem refhas_any (z : Int) (c0 c1 c2 c3 : Int) (b : Bool) (vu va : Value) (mu ma : List Int) (hmu : mu.length ≤ 20) (hma : ma.length ≤ 20) (w : World) (h1 : SlI w vu mu) (h2 : SlI w va ma) (hu : ∃ a l c, vu = .slice a l c) (ha : ∃ a l c, va = .slice a l c) :
    Calls Tryd.prog 14 #[.agg #[.int .i64 c0, .int .i64 c1, .int .i64 c2, .int .i64 c3, .bool b, vu, va], .int .i64 z] w fun e w' => e = .returned (.int .i64 (hasR z mu ma)) ∧ Below w.heap.size w w' := by
  obtain ⟨au, lu, cu, rfl⟩ := hu
  obtain ⟨aa, la, ca, rfl⟩ := ha
  have hb : Below w.heap.size w (w.alloc (Obj.cells #[.int .i64 c0, .int .i64 c1, .int .i64 c2, .int .i64 c3, .bool b, .slice au lu cu, .slice aa la ca] 45)) := (Below.refl _ w).alloc (Nat.le_refl _) _
  have a1 := among_any z _ mu hmu _ (h1.below hb)
  have a2 := among_any z _ ma hma _ (h2.below hb)
  have HB : Hid _ := hb
  clear hb h1 h2
  unfold hasR
  generalize amongB z mu = p at *
  generalize amongB z ma = q at *
  go_enter Tryd.func14, Tryd.ntmps14
  go_wp2_with (go_at_call 75; fail)
  refine a1.mono ?_
  rintro e w1 ⟨rfl, rfl⟩
  go_wp2_with (go_at_call 75; fail)
  refine a2.mono ?_
  rintro e w1 ⟨rfl, rfl⟩
  cases p
  · cases q
    · go_wp2
      go_ret
      exact ⟨rfl, HB.out⟩
    · go_wp2
      go_ret
      exact ⟨rfl, HB.out⟩
  · go_wp2
    go_ret
    exact ⟨rfl, HB.out⟩
theorem SlI.form {w : World} {v : Value} {l : List Int} (h : SlI w v l) : ∃ a n c, v = .slice a n c := by
  rcases h with ⟨_, rfl⟩ | ⟨g, rfl, _⟩
  · exact ⟨_, _, _, rfl⟩
  · exact ⟨_, _, _, rfl⟩
set_option maxRecDepth 100000 in
theorem must_bit : ∀ j, j < 42 → ∀ k : Nat, k < 18 → 1 ≤ k → amongB (k : Int) (rMust.getD j []) = (tMust.getD j 0).testBit k := by decide +kernel
set_option maxRecDepth 100000 in
theorem may_bit : ∀ j, j < 42 → ∀ k : Nat, k < 18 → 1 ≤ k → amongB (k : Int) (rMay.getD j []) = (tMay.getD j 0).testBit k := by decide +kernel
theorem must_len : ∀ j, j < 42 → (rMust.getD j []).length ≤ 20 := by decide
theorem may_len : ∀ j, j < 42 → (rMay.getD j []).length ≤ 20 := by decide
theorem TabAt.cell {w : World} {G : Nat} {mu ma : Nat → Value} (h : TabAt w G mu ma) (j : Nat) (hj : j < 42) (i : Nat) (v : Value) (hv : (refRow j (mu j) (ma j))[i]? = some v) : w.cell? ⟨G, j * 7 + i, none⟩ = some v := h.1 j hj i v hv

end Go.Proofs.YtdlmaeieoiocdabDoor
