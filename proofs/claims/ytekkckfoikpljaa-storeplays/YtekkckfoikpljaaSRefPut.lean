/-
  store, the reference: Skip, Put.
-/
import Derived.Test.YtekkckfoikpljaaSRefAdd
namespace Go.Proofs.Ytekkckfoikpljaa
set_option linter.unusedVariables false
set_option linter.unusedSimpArgs false
open Go.RowKit Go.Great

set_option maxRecDepth 100000 in
set_option maxHeartbeats 4000000 in
theorem refSkip_yes {w : World} {p K : Nat} {cs : List Nat} {ms : List Msg} {vW vL : Value} (Z : Msg) (hZ : Z = zeroM) (h : RfAt w p K cs ms vW vL) (hn : cs.length ≤ 1000000) :
    Calls Try.prog 26 #[.pointer (some ⟨p, 0, none⟩)] w fun e w' => e = .returned (.int .i64 0) ∧ ∃ vW' vL', RfAt w' p K (cs ++ [3]) (ms ++ [Z]) vW' vL' ∧ Fr w w' (ownS p vW vL) ∧ newer w vW vW' ∧ newer w vL vL' := by
  have HZ : Hid (Z = zeroM) := hZ
  clear hZ
  have hnx := refNext_any h (by omega)
  have HH : Hid (RfAt w p K cs ms vW vL ∧ cs.length ≤ 1000000) := ⟨h, hn⟩
  obtain ⟨N1, hN1⟩ : ∃ N1 : Nat, (cs.length : Int) + 1 = (N1 : Int) := ⟨cs.length + 1, by omega⟩
  rw [hN1] at hnx
  have hle : ¬ (999999999 : Int) < (N1 : Int) := by omega
  clear hN1 hn
  clear h
  go_enter Try.func26, Try.ntmps26
  go_upto_region 3 with (go_at_call 25; refine hnx.mono ?_; rintro e w1 ⟨rfl, ew⟩; replace ew := ew.symm; subst ew)
  refine wp_region_lit ?_
  refine wpList_runTo rfl (some 6) rfl (.pointer (some ⟨p, 0, none⟩)) w (by kernel_rfl) ?_
  simp only [Act.put, List.setIfInBounds_toArray, List.set_cons_zero, List.set_cons_succ]
  refine wpList_runTo rfl (some 7) rfl (.agg zeroM.cs) w (by kernel_rfl) ?_
  simp only [Act.put, List.setIfInBounds_toArray, List.set_cons_zero, List.set_cons_succ]
  have hadd := add_any (n := cs.length) 3 3 rfl Z HH.out.1 rfl HH.out.2
  rw [← HZ.out]
  generalize Z.cs = cz at *
  go_wp2_with (go_at_call 34; fail)
  refine hadd.mono ?_
  rintro e w2 ⟨rfl, vW2, vL2, h2⟩
  have H2 : Hid _ := h2
  clear h2 hadd
  go_wp2
  go_ret
  exact ⟨rfl, vW2, vL2, H2.out⟩
theorem refPut_no {w : World} {p K : Nat} {cs : List Nat} {ms : List Msg} {vW vL : Value} (M : Msg) (h : RfAt w p K cs ms vW vL) (hn : cs.length ≤ 1000000) (hs : M.z 3 ≠ (cs.length : Int) + 1) :
    Calls Try.prog 24 #[.pointer (some ⟨p, 0, none⟩), .agg M.cs] w fun e w' => e = .returned (.int .i64 80) ∧ Below w.heap.size w w' := by
  have hb : Below w.heap.size w (w.alloc (.cells M.cs 34)) := (Below.refl _ w).alloc (Nat.le_refl _) _
  have ho : OwnM (w.alloc (.cells M.cs 34)) w.heap.size M := heap_alloc_new w _
  have c3 : (w.alloc (.cells M.cs 34)).cell? ⟨w.heap.size, 3, none⟩ = some (.int .i64 (M.z 3)) := ho.cell 3 (by decide)
  have hnx := fun q => refNext_any (w := (w.alloc (.cells M.cs 34)).drewN q) (h.fr ((Fr.alloc w _ fun _ => False).drewN q) (fun _ _ h => h)) (by omega)
  have HB : Hid (Below w.heap.size w (w.alloc (.cells M.cs 34))) := hb
  have hs' : (M.z 3 == (cs.length : Int) + 1) = false := by simpa using hs
  clear h ho hb
  generalize cs.length = n at *
  generalize M.z 3 = Z at *
  generalize M.cs = csm at *
  go_enter Try.func24, Try.ntmps24
  go_upto_region 1 with fail
  go_quiet ((go_at_call 25; refine Calls.quiet_of_same (hnx _)))
  go_wp2
  go_ret
  exact ⟨rfl, below_drewN HB.out _⟩
end Go.Proofs.Ytekkckfoikpljaa
