/-
  auction's law: whether two lists of fills are one; results held against one another.
-/
import Derived.Test.YtbhddfcdnpidkaaV33
import Derived.Laws.StructEq
namespace Go.Proofs.Ytbhddfcdnpidkaa
set_option linter.unusedVariables false
set_option linter.unusedSimpArgs false
open Go.RowKit Go.Great
attribute [local irreducible] wpList

def flA (f : Fl) : Array Value := #[.int .i64 f.b, .int .i64 f.s, .int .i64 0, .int .i64 f.p, .int .i64 f.q]
theorem neFl_run {op : Oper} {a : Act} (f : Fl) (x y : Operand) (ho : op.op = .binOp .neq 39 x y 39) (hx : a.eval x = .agg (flA f)) (hy : a.eval y = .agg (flA f)) (w : World) : (execOp a.eval op).run Try.prog w = .ok (.value (.bool false)) w := by
  unfold flA at hx hy
  unfold execOp
  simp only [ho, hx, hy]
  go_simp
theorem eqRs_run {op : Oper} {a : Act} (r : Rs) (x y : Operand) (ho : op.op = .binOp .eql 28 x y 28) (hx : a.eval x = .agg r.cs) (hy : a.eval y = .agg r.cs) (w : World) : (execOp a.eval op).run Try.prog w = .ok (.value (.bool true)) w := by
  unfold Rs.cs at hx hy
  unfold execOp
  simp only [ho, hx, hy]
  go_simp
theorem infoFz : (Try.prog.info? 39).map (·.size) = some 5 := by kernel_rfl
theorem row_rangeF {w : World} {g o c i n : Nat} {l : List Fl} {p : Fl} (h : RowAt w 39 5 (.slice (some ⟨g, o, none⟩) n c) n (flatL flL l)) (hp : l[i]? = some p) : w.rangeAt g (o + i * 5) (flA p).toList := fun j u hu => by
  have hj : j < 5 := (List.getElem?_eq_some_iff.1 hu).1
  exact fl_cell h hp hj (u := u) hu
theorem ixFl_run {op : Oper} {a : Act} {g o n c i : Nat} (x y : Operand) (ho : op.op = .indexAddr 36 x y) (hx : a.eval x = .slice (some ⟨g, o, none⟩) n c) (hy : a.eval y = .int .i64 (i : Int)) (hi : i < n) (w : World) : (execOp a.eval op).run Try.prog w = .ok (.value (.pointer (some ⟨g, o + i * 5, none⟩))) w := by
  have h1 : (i : Int) < (n : Int) := by omega
  have h2 : ¬ (n : Int) ≤ (i : Int) := by omega
  unfold execOp
  simp only [ho, hx, hy]
  go_simp
set_option maxRecDepth 100000 in
set_option maxHeartbeats 1000000 in
theorem fillsL_any {w : World} {F : List Fl} {a b : Option Addr} {c d : Nat} (h1 : RowAt w 39 5 (.slice a F.length c) F.length (flatL flL F)) (h2 : RowAt w 39 5 (.slice b F.length d) F.length (flatL flL F)) (hl : F.length ≤ 1000000000000) :
    Calls Try.prog 16 #[.slice a F.length c, .slice b F.length d] w fun e w' => e = .returned (.bool true) ∧ Below w.heap.size w w' := by
  obtain ⟨n, hn⟩ : ∃ n, n = F.length := ⟨_, rfl⟩
  have HR : Hid (RowAt w 39 5 (.slice a n c) n (flatL flL F) ∧ RowAt w 39 5 (.slice b n d) n (flatL flL F) ∧ n = F.length) := by rw [hn]; exact ⟨h1, h2, rfl⟩
  rw [← hn] at hl ⊢
  clear h1 h2 hn
  go_enter Try.func16, Try.ntmps16
  go_upto_region 4 with fail
  go_loopw [5] (fun x5 wr => ∃ i : Nat, i ≤ n ∧ x5 = .int .i64 (i : Int) ∧ Hid (Below w.heap.size w wr)) (fun x5 _ => n - (RowKit.intOf x5).toNat)
  case atStart => exact ⟨0, Nat.zero_le _, rfl, Below.refl _ _⟩
  case round =>
    obtain ⟨i, hi, rfl, HW⟩ := hrel
    by_cases hlt : i < n
    · have hlt' : (i : Int) < (n : Int) := by omega
      obtain ⟨f, hf⟩ : ∃ f, F[i]? = some f := ⟨_, List.getElem?_eq_getElem (by rw [← HR.out.2.2]; exact hlt)⟩
      obtain ⟨g, of, c', cur, ea, _⟩ := HR.out.1.more (by omega)
      injection ea with ea1 _ ea2
      subst ea1 ea2
      obtain ⟨g2, of2, c2', cur2, ea', _⟩ := HR.out.2.1.more (by omega)
      injection ea' with ea1 _ ea2
      subst ea1 ea2
      have HG : Hid (∀ (w' : World), Below wr.heap.size wr w' → w'.rangeAt g (of + i * 5) (flA f).toList ∧ w'.rangeAt g2 (of2 + i * 5) (flA f).toList) := fun w' h => ⟨row_rangeF (HR.out.1.fr (Fr.of_below (below_step HW.out h) (fun _ => False)) fun _ _ => id) hf, row_rangeF (HR.out.2.1.fr (Fr.of_below (below_step HW.out h) (fun _ => False)) fun _ _ => id) hf⟩
      clear hf
      generalize wr = w1 at *
      go_upto_region 6 with fail
      rename_i K hK
      refine wp_region_held (S := fun w' => Below w1.heap.size w1 w') (by kernel_rfl) ?_
      change wpAnyH _ _ _ _ _ _ _ _ (World.drew _)
      have hS0 : Below w1.heap.size w1 w1.drew := (Below.refl _ w1).drew
      generalize w1.drew = Z0 at *
      refine takeR (i := 0) (v := .slice (some ⟨g, of, none⟩) n c) (some 17) rfl rfl (by kernel_rfl) (by kernel_rfl) (by kernel_rfl) (fun _ _ _ h => h) (Or.inl ⟨by kernel_rfl, fun w' hSw => by kernel_rfl⟩) hS0 ?_
      simp only [Act.put, List.setIfInBounds_toArray, List.set_cons_zero, List.set_cons_succ]
      refine takeR (i := 1) (v := .int .i64 (i : Int)) (some 18) rfl rfl (by kernel_rfl) (by kernel_rfl) (by kernel_rfl) (fun _ _ _ h => h) (Or.inl ⟨by kernel_rfl, fun w' hSw => by kernel_rfl⟩) hS0 ?_
      simp only [Act.put, List.setIfInBounds_toArray, List.set_cons_zero, List.set_cons_succ]
      refine takeR (i := 2) (v := .pointer (some ⟨g, of + i * 5, none⟩)) (some 19) rfl rfl (by kernel_rfl) (by kernel_rfl) (by kernel_rfl) (fun _ _ _ h => h) (Or.inl ⟨by kernel_rfl, fun w' hSw => by exact ixFl_run (n := n) (c := c) (.tmp 17) (.tmp 18) rfl (by kernel_rfl) (by kernel_rfl) hlt _⟩) hS0 ?_
      simp only [Act.put, List.setIfInBounds_toArray, List.set_cons_zero, List.set_cons_succ]
      refine takeR (i := 3) (v := .agg (flA f)) (some 20) rfl rfl (by kernel_rfl) (by kernel_rfl) (by kernel_rfl) (fun _ _ _ h => h) (Or.inl ⟨by kernel_rfl, fun w' hSw => by exact ldA_run (HG.out _ hSw).1 Try.underlying39 rfl infoFz (.tmp 19) rfl (by kernel_rfl)⟩) hS0 ?_
      simp only [Act.put, List.setIfInBounds_toArray, List.set_cons_zero, List.set_cons_succ]
      refine takeR (i := 4) (v := .slice (some ⟨g2, of2, none⟩) n d) (some 21) rfl rfl (by kernel_rfl) (by kernel_rfl) (by kernel_rfl) (fun _ _ _ h => h) (Or.inl ⟨by kernel_rfl, fun w' hSw => by kernel_rfl⟩) hS0 ?_
      simp only [Act.put, List.setIfInBounds_toArray, List.set_cons_zero, List.set_cons_succ]
      refine takeR (i := 5) (v := .int .i64 (i : Int)) (some 22) rfl rfl (by kernel_rfl) (by kernel_rfl) (by kernel_rfl) (fun _ _ _ h => h) (Or.inl ⟨by kernel_rfl, fun w' hSw => by kernel_rfl⟩) hS0 ?_
      simp only [Act.put, List.setIfInBounds_toArray, List.set_cons_zero, List.set_cons_succ]
      refine takeR (i := 6) (v := .pointer (some ⟨g2, of2 + i * 5, none⟩)) (some 23) rfl rfl (by kernel_rfl) (by kernel_rfl) (by kernel_rfl) (fun _ _ _ h => h) (Or.inl ⟨by kernel_rfl, fun w' hSw => by exact ixFl_run (n := n) (c := d) (.tmp 21) (.tmp 22) rfl (by kernel_rfl) (by kernel_rfl) hlt _⟩) hS0 ?_
      simp only [Act.put, List.setIfInBounds_toArray, List.set_cons_zero, List.set_cons_succ]
      refine takeR (i := 7) (v := .agg (flA f)) (some 24) rfl rfl (by kernel_rfl) (by kernel_rfl) (by kernel_rfl) (fun _ _ _ h => h) (Or.inl ⟨by kernel_rfl, fun w' hSw => by exact ldA_run (HG.out _ hSw).2 Try.underlying39 rfl infoFz (.tmp 23) rfl (by kernel_rfl)⟩) hS0 ?_
      simp only [Act.put, List.setIfInBounds_toArray, List.set_cons_zero, List.set_cons_succ]
      refine takeR (i := 8) (v := .bool false) (some 25) rfl rfl (by kernel_rfl) (by kernel_rfl) (by kernel_rfl) (fun _ _ _ h => h) (Or.inl ⟨by kernel_rfl, fun w' hSw => by exact neFl_run f (.tmp 20) (.tmp 24) rfl (by kernel_rfl) (by kernel_rfl) _⟩) hS0 ?_
      simp only [Act.put, List.setIfInBounds_toArray, List.set_cons_zero, List.set_cons_succ]
      refine wpAnyH_done (by kernel_rfl) ?_ _
      have HW3 : Hid (Below w.heap.size w Z0) := below_step HW.out hS0
      clear hS0 HG HW
      generalize Z0 = w3 at *
      refine hK _ _ ?_
      clear hK
      go_wp2
      exact ⟨⟨i + 1, by omega, by go_num, HW3.out⟩, by simp [RowKit.intOf]; omega⟩
    · have hlt' : ¬ (i : Int) < (n : Int) := by omega
      go_wp2
      go_ret
      exact ⟨rfl, HW.out⟩
/-- (i + pick) % n, as the law reckons it. -/
theorem pickW_any (c n : Int) (hc : -9223372036854775808 ≤ c ∧ c ≤ 9223372036854775807) (hn : 0 < n ∧ n ≤ 9223372036854775807) (w : World) : Calls Try.prog 8 #[.int .i64 c, .int .i64 n] w fun e w' => e = .returned (.int .i64 (pk c n)) ∧ w' = w := by
  have hn0 : ¬ n = 0 := by omega
  have hn1 : ¬ n = -1 := by omega
  have hnb : (n == 0) = false := by simp [hn0]
  have hnc : (n == -1) = false := by simp [hn1]
  by_cases h : c < 0
  · have e1 : IntKind.i64.wrap (c + 1) = c + 1 := by rw [IntKind.wrap_i64]; omega
    have e2 : IntKind.i64.wrap (-(c + 1)) = -(c + 1) := by rw [IntKind.wrap_i64]; omega
    have ht : Int.tmod (-(c + 1)) n = pk c n := by unfold pk; rw [if_pos h]; exact Int.tmod_eq_emod_of_nonneg (by omega)
    have hb := pk_bd c hn.1
    have e3 : IntKind.i64.wrap (pk c n) = pk c n := by rw [IntKind.wrap_i64]; omega
    generalize pk c n = R at *
    go_enter Try.func8, Try.ntmps8
    go_wp2
    go_ret
    exact ⟨by simp_all, rfl⟩
  · have ht : Int.tmod c n = pk c n := by unfold pk; rw [if_neg h]; exact Int.tmod_eq_emod_of_nonneg (by omega)
    have hb := pk_bd c hn.1
    have e3 : IntKind.i64.wrap (pk c n) = pk c n := by rw [IntKind.wrap_i64]; omega
    generalize pk c n = R at *
    go_enter Try.func8, Try.ntmps8
    go_wp2
    go_ret
    exact ⟨by simp_all, rfl⟩
end Go.Proofs.Ytbhddfcdnpidkaa
