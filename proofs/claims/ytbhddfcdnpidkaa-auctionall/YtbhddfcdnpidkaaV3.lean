/-
  auction: Curve; what is over at a point.
-/
import Derived.Test.YtbhddfcdnpidkaaV2
namespace Go.Proofs.Ytbhddfcdnpidkaa
set_option linter.unusedVariables false
set_option linter.unusedSimpArgs false
open Go.RowKit Go.Great

theorem wnO_q {o : Od} {v : Wn} (h : wnO o = some v) : 1 ≤ v.q ∧ v.q ≤ 1000000 := by
  unfold wnO at h
  split at h
  · cases h
  · split at h
    · injection h with h; subst h; dsimp only; omega
    · split at h
      · injection h with h; subst h; dsimp only; omega
      · cases h
theorem wns_q {l : List Od} : ∀ v ∈ wns l, 0 ≤ v.q ∧ v.q ≤ 1000000 := fun v hv => by
  obtain ⟨o, _, h⟩ := List.mem_filterMap.1 hv
  have := wnO_q h
  omega
theorem atW1 (p : Int) : atW 1 p = atB p := by funext v; unfold atW; rfl
theorem atW2 (p : Int) : atW 2 p = atS p := by funext v; unfold atW; rfl
theorem CO.form {w W : World} {v : Value} {D : List Wn} (h : CO w W v D) : ∃ a c, v = .slice a D.length c := by
  obtain ⟨a, c, e, _⟩ := h.row.form
  exact ⟨a, c, e⟩
/-- counted, and the sum of it. -/
theorem Curve_any {w : World} {b s : List Od} {a a' : Option Addr} {c c' : Nat} (hb : RowAt w 42 15 (.slice a b.length c) b.length (flatL (fun o => o.cs.toList) b)) (hbo : ∀ o ∈ b, o.ok) (hbl : b.length ≤ 4398046511104) (hs : RowAt w 42 15 (.slice a' s.length c') s.length (flatL (fun o => o.cs.toList) s)) (hso : ∀ o ∈ s, o.ok) (hsl : s.length ≤ 4398046511104) (p : Int) :
    Calls Try.prog 10 #[.slice a b.length c, .slice a' s.length c', .int .i64 p] w fun e w' => e = .returned (.tuple #[.int .i64 (bo (wns b) p), .int .i64 (so (wns s) p)]) ∧ Hid (Below w.heap.size w w') := by
  have h1 := counted_any hb hbo hbl
  have HS : Hid (RowAt w 42 15 (.slice a' s.length c') s.length (flatL (fun o => o.cs.toList) s) ∧ (∀ o ∈ s, o.ok) ∧ s.length ≤ 4398046511104) := ⟨hs, hso, hsl⟩
  have HL : Hid ((wns b).length ≤ 4398046511104 ∧ (wns s).length ≤ 4398046511104) := ⟨Nat.le_trans (List.length_filterMap_le _ _) hbl, Nat.le_trans (List.length_filterMap_le _ _) hsl⟩
  obtain ⟨nb, hnb⟩ : ∃ nb, nb = b.length := ⟨_, rfl⟩
  obtain ⟨ns, hns⟩ : ∃ ns, ns = s.length := ⟨_, rfl⟩
  have HNS : Hid (ns = s.length) := hns
  rw [← hnb] at h1
  rw [← hnb, ← hns]
  clear hb hbo hbl hs hso hsl hnb hns
  obtain ⟨X, hX⟩ : ∃ X, X = bo (wns b) p := ⟨_, rfl⟩
  obtain ⟨Y, hY⟩ : ∃ Y, Y = so (wns s) p := ⟨_, rfl⟩
  have HXY : Hid (X = bo (wns b) p ∧ Y = so (wns s) p) := ⟨hX, hY⟩
  rw [← hX, ← hY]
  clear hX hY
  go_enter Try.func10, Try.ntmps10
  go_upto_region 1 with fail
  refine wp_region_lit ?_
  refine wpList_runTo rfl (some 8) rfl (.slice a nb c) w (by kernel_rfl) ?_
  simp only [Act.put, List.setIfInBounds_toArray, List.set_cons_zero, List.set_cons_succ]
  refine wpList_callW rfl (some 9) rfl 32 #[.slice a nb c] (by kernel_rfl) h1 ?_
  clear h1
  rintro e w1 ⟨v1, rfl, hx1⟩
  refine ⟨_, rfl, ?_⟩
  simp only [Act.put, List.setIfInBounds_toArray, List.set_cons_zero, List.set_cons_succ]
  obtain ⟨a1, c1, e1⟩ := hx1.out.form
  have h2 : Calls Try.prog 31 #[v1, .int .i64 1, .int .i64 p] w1 fun e w' => e = .returned (.int .i64 X) ∧ Below w1.heap.size w1 w' := by
    have hr := hx1.out.row
    rw [e1] at hr ⊢
    rw [HXY.out.1, bo, ← atW1]
    exact sumAt_any hr wns_q HL.out.1 1 p
  clear e1
  refine wpList_runTo rfl (some 10) rfl (.int .i64 p) w1 (by kernel_rfl) ?_
  simp only [Act.put, List.setIfInBounds_toArray, List.set_cons_zero, List.set_cons_succ]
  refine wpList_callW rfl (some 11) rfl 31 #[v1, .int .i64 1, .int .i64 p] (by kernel_rfl) h2 ?_
  clear h2
  rintro e w2 ⟨rfl, hx2⟩
  refine ⟨_, rfl, ?_⟩
  simp only [Act.put, List.setIfInBounds_toArray, List.set_cons_zero, List.set_cons_succ]
  have hb2 : Below w.heap.size w w2 := below_step hx1.out.bel hx2
  have h3 : Calls Try.prog 32 #[.slice a' ns c'] w2 fun e w' => ∃ v, e = .returned v ∧ Hid (CO w2 w' v (wns s)) := by
    rw [HNS.out]
    exact counted_any (HS.out.1.fr (Fr.of_below hb2 (fun _ => False)) fun _ _ => id) HS.out.2.1 HS.out.2.2
  have HB2 : Hid (Below w.heap.size w w2) := hb2
  clear hb2 hx1 hx2
  refine wpList_runTo rfl (some 12) rfl (.slice a' ns c') w2 (by kernel_rfl) ?_
  simp only [Act.put, List.setIfInBounds_toArray, List.set_cons_zero, List.set_cons_succ]
  refine wpList_callW rfl (some 13) rfl 32 #[.slice a' ns c'] (by kernel_rfl) h3 ?_
  clear h3
  rintro e w3 ⟨v3, rfl, hx3⟩
  refine ⟨_, rfl, ?_⟩
  simp only [Act.put, List.setIfInBounds_toArray, List.set_cons_zero, List.set_cons_succ]
  obtain ⟨a3, c3, e3⟩ := hx3.out.form
  have h4 : Calls Try.prog 31 #[v3, .int .i64 2, .int .i64 p] w3 fun e w' => e = .returned (.int .i64 Y) ∧ Below w3.heap.size w3 w' := by
    have hr := hx3.out.row
    rw [e3] at hr ⊢
    rw [HXY.out.2, so, ← atW2]
    exact sumAt_any hr wns_q HL.out.2 2 p
  clear e3
  refine wpList_runTo rfl (some 14) rfl (.int .i64 p) w3 (by kernel_rfl) ?_
  simp only [Act.put, List.setIfInBounds_toArray, List.set_cons_zero, List.set_cons_succ]
  refine wpList_callW rfl (some 15) rfl 31 #[v3, .int .i64 2, .int .i64 p] (by kernel_rfl) h4 ?_
  clear h4
  rintro e w4 ⟨rfl, hx4⟩
  refine ⟨_, rfl, ?_⟩
  simp only [Act.put, List.setIfInBounds_toArray, List.set_cons_zero, List.set_cons_succ]
  have HZ : Hid (Below w.heap.size w w4) := below_step HB2.out (below_step hx3.out.bel hx4)
  clear hx3 hx4 HB2
  refine wpList_runTo rfl (some 6) rfl (.int .i64 X) w4 (by kernel_rfl) ?_
  simp only [Act.put, List.setIfInBounds_toArray, List.set_cons_zero, List.set_cons_succ]
  refine wpList_runTo rfl (some 7) rfl (.int .i64 Y) w4 (by kernel_rfl) ?_
  simp only [Act.put, List.setIfInBounds_toArray, List.set_cons_zero, List.set_cons_succ]
  refine wpList_nil ?_
  go_wp2
  go_ret2
  exact ⟨rfl, HZ.out⟩
end Go.Proofs.Ytbhddfcdnpidkaa
