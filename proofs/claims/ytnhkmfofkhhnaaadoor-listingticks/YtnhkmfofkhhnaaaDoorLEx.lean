/-
  listing's law: example, pick.
-/
import Derived.Test.YtnhkmfofkhhnaaaDoorLChk3
namespace Go.Proofs.YtnhkmfofkhhnaaaDoor
set_option linter.unusedVariables false
set_option linter.unusedSimpArgs false
open Go.Shelf Go.RowKit Go.Sort Go.Lib

def exI : Ins := ⟨⟨#[65, 66, 67]⟩, 10, 1000, [(0, 1), (10000, 10)], 1000, 10000, [(480, 1), (540, 3), (1020, 5), (1030, 0)], -20, 30⟩
theorem exI_ok : insB exI = true := by kernel_rfl
set_option maxRecDepth 100000 in
set_option maxHeartbeats 1000000 in
theorem example_any (w : World) :
    Calls Tryd.prog 7 #[] w fun e w' => ∃ aS cS aT cT, e = .returned (.agg (exI.cs (.slice aS 2 cS) (.slice aT 4 cT))) ∧ OwnT 55 w' w.heap.size (.slice aS 2 cS) exI.steps ∧ OwnT 35 w' w.heap.size (.slice aT 4 cT) exI.turns ∧ Below w.heap.size w w' := by
  go_enter Tryd.func7, Tryd.ntmps7
  go_wp2
  have h1 : Blk (((w.alloc (.cells #[.string ⟨#[65, 66, 67]⟩, .int .i64 10, .int .i64 1000, .slice (some ⟨w.heap.size + 1, 0, none⟩) 2 2, .int .i64 1000, .int .i64 10000, .slice (some ⟨w.heap.size + 1 + 1, 0, none⟩) 4 4, .int .i64 (-20), .int .i64 30] 31)).alloc (.cells #[.int .i64 0, .int .i64 1, .int .i64 10000, .int .i64 10] 55)).alloc (.cells #[.int .i64 480, .int .i64 1, .int .i64 540, .int .i64 3, .int .i64 1020, .int .i64 5, .int .i64 1030, .int .i64 0] 35)) w.heap.size 31 #[.string ⟨#[65, 66, 67]⟩, .int .i64 10, .int .i64 1000, .slice (some ⟨w.heap.size + 1, 0, none⟩) 2 2, .int .i64 1000, .int .i64 10000, .slice (some ⟨w.heap.size + 1 + 1, 0, none⟩) 4 4, .int .i64 (-20), .int .i64 30] := ((Blk.new _ _ _).alloc _).alloc _
  have h2 : OwnT 55 (((w.alloc (.cells #[.string ⟨#[65, 66, 67]⟩, .int .i64 10, .int .i64 1000, .slice (some ⟨w.heap.size + 1, 0, none⟩) 2 2, .int .i64 1000, .int .i64 10000, .slice (some ⟨w.heap.size + 1 + 1, 0, none⟩) 4 4, .int .i64 (-20), .int .i64 30] 31)).alloc (.cells #[.int .i64 0, .int .i64 1, .int .i64 10000, .int .i64 10] 55)).alloc (.cells #[.int .i64 480, .int .i64 1, .int .i64 540, .int .i64 3, .int .i64 1020, .int .i64 5, .int .i64 1030, .int .i64 0] 35)) w.heap.size (.slice (some ⟨w.heap.size + 1, 0, none⟩) 2 2) exI.steps := by
    refine ⟨by kernel_rfl, .inr ⟨w.heap.size + 1, 2, #[.int .i64 0, .int .i64 1, .int .i64 10000, .int .i64 10], rfl, by omega, ?_, Nat.le_refl _, by decide, by kernel_rfl, by kernel_rfl⟩⟩
    exact (Blk.new' (w.alloc (.cells #[.string ⟨#[65, 66, 67]⟩, .int .i64 10, .int .i64 1000, .slice (some ⟨w.heap.size + 1, 0, none⟩) 2 2, .int .i64 1000, .int .i64 10000, .slice (some ⟨w.heap.size + 1 + 1, 0, none⟩) 4 4, .int .i64 (-20), .int .i64 30] 31)) 55 #[.int .i64 0, .int .i64 1, .int .i64 10000, .int .i64 10] (by simp)).alloc _
  have h3 : OwnT 35 (((w.alloc (.cells #[.string ⟨#[65, 66, 67]⟩, .int .i64 10, .int .i64 1000, .slice (some ⟨w.heap.size + 1, 0, none⟩) 2 2, .int .i64 1000, .int .i64 10000, .slice (some ⟨w.heap.size + 1 + 1, 0, none⟩) 4 4, .int .i64 (-20), .int .i64 30] 31)).alloc (.cells #[.int .i64 0, .int .i64 1, .int .i64 10000, .int .i64 10] 55)).alloc (.cells #[.int .i64 480, .int .i64 1, .int .i64 540, .int .i64 3, .int .i64 1020, .int .i64 5, .int .i64 1030, .int .i64 0] 35)) w.heap.size (.slice (some ⟨w.heap.size + 1 + 1, 0, none⟩) 4 4) exI.turns := by
    refine ⟨by kernel_rfl, .inr ⟨w.heap.size + 1 + 1, 4, #[.int .i64 480, .int .i64 1, .int .i64 540, .int .i64 3, .int .i64 1020, .int .i64 5, .int .i64 1030, .int .i64 0], rfl, by omega, ?_, Nat.le_refl _, by decide, by kernel_rfl, by kernel_rfl⟩⟩
    exact Blk.new' _ _ _ (by simp)
  have h4 : Below w.heap.size w (((w.alloc (.cells #[.string ⟨#[65, 66, 67]⟩, .int .i64 10, .int .i64 1000, .slice (some ⟨w.heap.size + 1, 0, none⟩) 2 2, .int .i64 1000, .int .i64 10000, .slice (some ⟨w.heap.size + 1 + 1, 0, none⟩) 4 4, .int .i64 (-20), .int .i64 30] 31)).alloc (.cells #[.int .i64 0, .int .i64 1, .int .i64 10000, .int .i64 10] 55)).alloc (.cells #[.int .i64 480, .int .i64 1, .int .i64 540, .int .i64 3, .int .i64 1020, .int .i64 5, .int .i64 1030, .int .i64 0] 35)) := (((Below.refl _ w).alloc (Nat.le_refl _) _).alloc (by simp) _).alloc (by simp; omega) _
  generalize (((w.alloc (.cells #[.string ⟨#[65, 66, 67]⟩, .int .i64 10, .int .i64 1000, .slice (some ⟨w.heap.size + 1, 0, none⟩) 2 2, .int .i64 1000, .int .i64 10000, .slice (some ⟨w.heap.size + 1 + 1, 0, none⟩) 4 4, .int .i64 (-20), .int .i64 30] 31)).alloc (.cells #[.int .i64 0, .int .i64 1, .int .i64 10000, .int .i64 10] 55)).alloc (.cells #[.int .i64 480, .int .i64 1, .int .i64 540, .int .i64 3, .int .i64 1020, .int .i64 5, .int .i64 1030, .int .i64 0] 35)) = W3 at *
  refine bodyPost_ret (results_cell_row (fn := Tryd.f7) (p := 0) (ty := 31) rfl _ _ w.heap.size 31 #[.string ⟨#[65, 66, 67]⟩, .int .i64 10, .int .i64 1000, .slice (some ⟨w.heap.size + 1, 0, none⟩) 2 2, .int .i64 1000, .int .i64 10000, .slice (some ⟨w.heap.size + 1 + 1, 0, none⟩) 4 4, .int .i64 (-20), .int .i64 30] (0, 0) _ (by rfl) h1 Tryd.underlying31 rfl (by kernel_rfl)) (by rfl) ?_
  exact ⟨_, _, _, _, rfl, h2, h3, h4⟩
def pkN (c : Int) (n : Int) : Int := (if c < 0 then -(c + 1) else c) % n
theorem pkN_bd {c n : Int} (hn : 0 < n) : 0 ≤ pkN c n ∧ pkN c n < n := ⟨Int.emod_nonneg _ (by omega), Int.emod_lt_of_pos _ hn⟩
set_option maxRecDepth 100000 in
set_option maxHeartbeats 1000000 in
theorem pick_any (c n : Int) (w : World) (c0 : -9223372036854775808 ≤ c) (c1 : c ≤ 9223372036854775807) (hn : 0 < n) (hn1 : n ≤ 9223372036854775807) :
    Calls Tryd.prog 8 #[.int .i64 c, .int .i64 n] w fun e w' => e = .returned (.int .i64 (pkN c n)) ∧ w' = w := by
  have hn0 : (n == 0) = false := by simp; omega
  unfold pkN
  by_cases hc : c < 0
  · rw [if_pos hc]
    have hw : wrap64 (-(c + 1)) = -(c + 1) := by unfold wrap64; omega
    have hw1 : wrap64 (c + 1) = c + 1 := by unfold wrap64; omega
    have hp : 0 ≤ -(c + 1) := by omega
    have hb : -(c + 1) % n < n := Int.emod_lt_of_pos _ hn
    go_enter Tryd.func8, Tryd.ntmps8
    go_wp2
    go_ret
    refine ⟨ret_int ?_, rfl⟩
    rw [← Int.neg_tmod, Int.tmod_eq_emod_of_nonneg hp]
  · rw [if_neg hc]
    have hp : 0 ≤ c := by omega
    go_enter Tryd.func8, Tryd.ntmps8
    go_wp2
    go_ret
    refine ⟨ret_int ?_, rfl⟩
    first | rfl | (rw [Int.tmod_eq_emod_of_nonneg hp])
end Go.Proofs.YtnhkmfofkhhnaaaDoor
