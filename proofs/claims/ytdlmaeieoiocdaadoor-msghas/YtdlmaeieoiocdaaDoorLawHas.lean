/-
  MsgHas: the reference, the walk.
-/
import Derived.Test.YtdlmaeieoiocdaaDoorMsgRefHas
namespace Go.Proofs.YtdlmaeieoiocdaaDoor
set_option linter.unusedVariables false
set_option linter.unusedSimpArgs false
open Go.RowKit Go.Great

theorem SlI.form {w : World} {v : Value} {l : List Int} (h : SlI w v l) : ∃ a n c, v = .slice a n c := by
  rcases h with ⟨_, rfl⟩ | ⟨g, rfl, _⟩
  · exact ⟨_, _, _, rfl⟩
  · exact ⟨_, _, _, rfl⟩
set_option maxRecDepth 100000 in
theorem must_bit : ∀ j, j < 42 → ∀ k : Nat, k < 18 → 1 ≤ k → amongB (k : Int) (rMust.getD j []) = (tMust.getD j 0).testBit k := by decide +kernel
set_option maxRecDepth 100000 in
theorem may_bit : ∀ j, j < 42 → ∀ k : Nat, k < 18 → 1 ≤ k → amongB (k : Int) (rMay.getD j []) = (tMay.getD j 0).testBit k := by decide +kernel
theorem must_len : ∀ j, j < 42 → (rMust.getD j []).length ≤ 20 := by decide
theorem may_len : ∀ j, j < 42 → (rMay.getD j []).length ≤ 20 := by decide
theorem hasR_at {z : Int} (hK : isK z = true) (j : Nat) (hj : j < 42) : hasR z (rMust.getD j []) (rMay.getD j []) = hasAt z (tNum.getD j 0) j := by
  simp [isK] at hK
  obtain ⟨y, hy⟩ : ∃ y : Nat, z = y := ⟨z.toNat, by omega⟩
  subst hy
  unfold hasR hasAt
  rw [must_bit j hj y (by omega) (by omega), may_bit j hj y (by omega) (by omega), if_pos rfl]
  rfl
theorem hasR_no {z : Int} (hK : isK z = false) (l m : List Int) : hasR z l m = 0 := by simp [hasR, amongB, hK]
theorem hasR_num (z : Int) (j : Nat) (hj : j < 42) : hasR z (rMust.getD j []) (rMay.getD j []) = hasN z (tNum.getD j 0) := by
  cases hK : isK z
  · rw [hasR_no hK]; simp [hasN, hK]
  · rw [hasR_at hK j hj, hasN_at hK j hj]
theorem hasN_non {z f : Int} (h : ∀ j, j < 42 → ¬ tNum.getD j 0 = f) : hasN z f = 0 := by
  refine Classical.byContradiction fun hn => ?_
  obtain ⟨_, j, hj, e⟩ := hasN_num hn
  exact h j hj e
theorem TabAt.cell {w : World} {G : Nat} {mu ma : Nat → Value} (h : TabAt w G mu ma) (j : Nat) (hj : j < 42) (i : Nat) (v : Value) (hv : (refRow j (mu j) (ma j))[i]? = some v) : w.cell? ⟨G, j * 7 + i, none⟩ = some v := h.1 j hj i v hv
set_option maxRecDepth 100000 in
set_option maxHeartbeats 1000000 in
theorem refHas_any (z fd : Int) (w : World) :
    Calls Tryd.prog 16 #[.int .i64 z, .int .i64 fd] w fun e w' => e = .returned (.int .i64 (hasN z fd)) ∧ Below w.heap.size w w' := by
  go_enter Tryd.func16, Tryd.ntmps16
  go_wp2_with (go_at_call 38; fail)
  refine (Rows_any w).mono ?_
  rintro e w1 ⟨G, mu, ma, rfl, hG, hT, hb⟩
  have HT : Hid (TabAt w1 G mu ma ∧ Below w.heap.size w w1) := ⟨hT, hb⟩
  clear hT hb
  go_wp2
  go_loopw [6] (fun i wr => ∃ k : Nat, k ≤ 42 ∧ i = .int .i64 k ∧ Hid (∀ j, j < k → ¬ tNum.getD j 0 = fd) ∧ wr = w1) (fun i _ => 42 - (intOf i).toNat)
  case atStart => exact ⟨0, by omega, rfl, fun j hj => by omega, rfl⟩
  case round =>
    obtain ⟨k, hk, rfl, he, rfl⟩ := hrel
    by_cases hlt : k < 42
    · have hlt' : (k : Int) < 42 := by omega
      have c0 := HT.out.1.cell k hlt 0 _ rfl
      have c1 := HT.out.1.cell k hlt 1 _ rfl
      have c2 := HT.out.1.cell k hlt 2 _ rfl
      have c3 := HT.out.1.cell k hlt 3 _ rfl
      have c4 := HT.out.1.cell k hlt 4 _ rfl
      have c5 := HT.out.1.cell k hlt 5 _ rfl
      have c6 := HT.out.1.cell k hlt 6 _ rfl
      rw [Nat.add_zero] at c0
      have hs := HT.out.1.2 k hlt
      have hc := refhas_any z (tNum.getD k 0) (rWhat.getD k 0) (rLeast.getD k 0) (rMost.getD k 0) (tOz.getD k false) (mu k) (ma k) _ _ (must_len k hlt) (may_len k hlt) wr hs.1 hs.2 hs.1.form hs.2.form
      rw [hasR_num z k hlt] at hc
      obtain ⟨au, lu, cu, hu⟩ := hs.1.form
      obtain ⟨aa, la, ca, ha⟩ := hs.2.form
      rw [hu, ha] at hc
      rw [hu] at c5
      rw [ha] at c6
      clear hs hu ha
      have HF : Hid (¬ tNum.getD k 0 = fd → ∀ j, j < k + 1 → ¬ tNum.getD j 0 = fd) := fun h j hj => by
        by_cases e : j = k
        · rw [e]; exact h
        · exact he.out j (by omega)
      clear he
      generalize tNum.getD k 0 = n at *
      generalize rWhat.getD k 0 = n1 at *
      generalize rLeast.getD k 0 = n2 at *
      generalize rMost.getD k 0 = n3 at *
      generalize tOz.getD k false = n4 at *
      by_cases hn : n = fd
      · subst hn
        have hb : (n == n) = true := by simp
        clear HF
        generalize hhe : hasN z n = hh at *
        have HE : Hid (hasN z n = hh) := hhe
        clear hhe
        go_wp2_with (go_at_call 39; fail)
        refine hc.mono ?_
        rintro e w3 ⟨rfl, hb3⟩
        go_wp2
        go_ret
        exact ⟨ret_int HE.out.symm, HT.out.2.trans (hb3.mono HT.out.2.size)⟩
      · have hb : (n == fd) = false := by simp [hn]
        have HR : Hid (∀ j, j < k + 1 → ¬ tNum.getD j 0 = fd) := HF.out hn
        clear HF hc
        go_wp2
        go_roundw
        case rel => exact ⟨k + 1, by omega, by go_num, HR, by first | rfl | trivial⟩
        case measure => simp [intOf]; omega
    · obtain rfl : k = 42 := by omega
      have HR : Hid (hasN z fd = 0) := hasN_non he.out
      clear he
      go_wp2
      go_ret
      exact ⟨ret_int HR.out.symm, HT.out.2⟩
set_option maxRecDepth 100000 in
set_option maxHeartbeats 1000000 in
theorem MsgHas_law (z : Int) (hz : (Lit.int .i64 z).wf = true) (fd : Int) (hf : (Lit.int .i64 fd).wf = true) (w : World) (hM : Mon w) :
    Calls Tryd.prog 6 #[.int .i64 z, .int .i64 fd] w fun e w' => e = .returned (.bool true) ∧ Below w.heap.size w w' := by
  have hsh := shown_any w hM
  clear hM hz hf
  go_enter Tryd.func6, Tryd.ntmps6
  go_wp2_with (go_at_call 9; fail)
  refine hsh.mono ?_
  rintro e w1 ⟨rfl, hb1⟩
  clear hsh
  have h1 := Has_any z fd w1
  have h2 := fun w => refHas_any z fd w
  generalize hasN z fd = hh at *
  have hhb : (hh == hh) = true := by simp
  go_wp2_with (go_at_call 14; fail)
  refine h1.mono ?_
  rintro e w2 ⟨rfl, hb2⟩
  go_wp2_with (go_at_call 16; fail)
  refine (h2 w2).mono ?_
  rintro e w3 ⟨rfl, hb3⟩
  have HB : Hid (Below w.heap.size w w3) := (hb1.trans (hb2.mono hb1.size)).trans (hb3.mono (Nat.le_trans hb1.size hb2.size))
  clear hb1 hb2 hb3 h1 h2
  go_wp2
  go_ret
  exact ⟨by first | rfl | (simp; done), HB.out⟩

end Go.Proofs.YtdlmaeieoiocdaaDoor
