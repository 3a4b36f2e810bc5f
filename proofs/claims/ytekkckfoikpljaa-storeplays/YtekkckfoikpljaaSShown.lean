/-
  The law's own: shown.
-/
import Derived.Test.YtekkckfoikpljaaSFill
namespace Go.Proofs.Ytekkckfoikpljaa
set_option linter.unusedVariables false
set_option linter.unusedSimpArgs false
open Go.RowKit Go.Great

def sA : ByteArray := ⟨#[97]⟩
def sC : ByteArray := ⟨#[99]⟩
def shA : Msg := ⟨fun k => if k = 3 then 1 else 0, fun k => if k = 18 then sA else ⟨#[]⟩, fun _ => false⟩
def shC : Msg := ⟨fun k => if k = 3 then 3 else 0, fun k => if k = 18 then sC else ⟨#[]⟩, fun _ => false⟩
def shP : List (Pt Msg) := [⟨1, 1, false, some shA⟩, ⟨2, 2, false, none⟩, ⟨3, 3, false, some shC⟩]
theorem shPrt : prt 2 [some shA, none, some shC] 1 3 = shP := by kernel_rfl
set_option maxRecDepth 100000 in
set_option maxHeartbeats 4000000 in
theorem shown_any (w : World) : Calls Try.prog 7 #[] w fun e w' => e = .returned (.bool true) ∧ Below w.heap.size w w' := by
  have hnew := New_yes 2 2 rfl (by decide) (by decide) w
  have hst := st_new w 2
  have hbl : Below w.heap.size w (w.alloc (.cells (stC 2 1 0 (.slice none 0 0) (.slice none 0 0)) 59)) := (Below.refl _ w).alloc (Nat.le_refl _) _
  generalize w.alloc (.cells (stC 2 1 0 (.slice none 0 0) (.slice none 0 0)) 59) = w1 at *
  have HS1 : Hid (StAt w1 w.heap.size 2 [] (.slice none 0 0) (.slice none 0 0) ∧ Below w.heap.size w w1) := ⟨hst, hbl⟩
  clear hst hbl
  go_enter Try.func7, Try.ntmps7
  go_upto_region 4 with (go_at_call 14; refine hnew.mono ?_; rintro e w2 ⟨rfl, ew⟩; replace ew := ew.symm; subst ew)
  clear hnew
  refine wp_region_lit ?_
  refine wpList_runTo rfl (some 18) rfl (.pointer (some ⟨w.heap.size, 0, none⟩)) w1 (by kernel_rfl) ?_
  simp only [Act.put, List.setIfInBounds_toArray, List.set_cons_zero, List.set_cons_succ]
  refine wpList_runTo rfl (some 19) rfl (.agg shA.cs) w1 (by kernel_rfl) ?_
  simp only [Act.put, List.setIfInBounds_toArray, List.set_cons_zero, List.set_cons_succ]
  have hput := Put_yes shA HS1.out.1 rfl (by decide) (by decide) (by decide)
  generalize shA.cs = csA at *
  go_wp2_with (go_at_call 13; fail)
  refine hput.mono ?_
  rintro e w2 ⟨rfl, vk2, vl2, h2, hf2, hn2, hm2⟩
  have HS2 : Hid (StAt w2 w.heap.size 2 [some shA] vk2 vl2 ∧ Below w.heap.size w w2 ∧ ∀ b, ownS w.heap.size vk2 vl2 b → w.heap.size ≤ b) := by
    refine ⟨h2, HS1.out.2.trans (hf2.below HS1.out.2.size fun b hb e => ?_), fun b hb => ?_⟩
    · rcases e with e | e | e
      · omega
      · cases e
      · cases e
    · rcases hb with e | e | e
      · omega
      · rcases hn2 with q | ⟨g, q, q2⟩
        · rw [q] at e; cases e
        · rw [q] at e; injection e with e; have := HS1.out.2.size; omega
      · rcases hm2 with q | ⟨g, q, q2⟩
        · rw [q] at e; cases e
        · rw [q] at e; injection e with e; have := HS1.out.2.size; omega
  clear hput h2 hf2 hn2 hm2 HS1
  have hskip := Skip_yes HS2.out.1 (by decide)
  go_wp2_with (go_at_call 17; fail)
  refine hskip.mono ?_
  rintro e w3 ⟨rfl, h3, hf3⟩
  have HS3 : Hid (StAt w3 w.heap.size 2 [some shA, none] vk2 vl2 ∧ Below w.heap.size w w3 ∧ ∀ b, ownS w.heap.size vk2 vl2 b → w.heap.size ≤ b) := ⟨h3, HS2.out.2.1.trans (hf3.below HS2.out.2.1.size fun b hb e => by have := HS2.out.2.2 b e; omega), HS2.out.2.2⟩
  clear hskip h3 hf3 HS2
  go_upto_region 6 with fail
  refine wp_region_lit ?_
  refine wpList_runTo rfl (some 23) rfl (.pointer (some ⟨w.heap.size, 0, none⟩)) w3 (by kernel_rfl) ?_
  simp only [Act.put, List.setIfInBounds_toArray, List.set_cons_zero, List.set_cons_succ]
  refine wpList_runTo rfl (some 24) rfl (.agg shC.cs) w3 (by kernel_rfl) ?_
  simp only [Act.put, List.setIfInBounds_toArray, List.set_cons_zero, List.set_cons_succ]
  have hput := Put_yes shC HS3.out.1 rfl (by decide) (by decide) (by decide)
  generalize shC.cs = csC at *
  go_wp2_with (go_at_call 13; fail)
  refine hput.mono ?_
  rintro e w4 ⟨rfl, vk4, vl4, h4, hf4, hn4, hm4⟩
  have HS4 : Hid (StAt w4 w.heap.size 2 [some shA, none, some shC] vk4 vl4 ∧ Below w.heap.size w w4) := ⟨h4, HS3.out.2.1.trans (hf4.below HS3.out.2.1.size fun b hb e => by have := HS3.out.2.2 b e; omega)⟩
  clear hput h4 hf4 hn4 hm4 HS3
  have hpar := Parts_yes 1 3 0 HS4.out.1 (by decide) (by decide) (by decide) (by decide) (.inr ⟨rfl, rfl⟩) (by decide)
  rw [shPrt] at hpar
  go_wp2_with (go_at_call 10; fail)
  refine hpar.mono ?_
  rintro e w5 ⟨v5, rfl, hr5, hb5, -⟩
  obtain ⟨g, off, cap, cur, rfl, -⟩ := hr5.more (by decide)
  have c1 : w5.cell? ⟨g, off + (0 * 45 + 21), none⟩ = some (.string ⟨#[97]⟩) := hr5.cell rfl (by kernel_rfl)
  have c2 : w5.cell? ⟨g, off + (1 * 45 + 0), none⟩ = some (.int .i64 2) := hr5.cell rfl (by kernel_rfl)
  have c3 : w5.cell? ⟨g, off + (1 * 45 + 2), none⟩ = some (.bool false) := hr5.cell rfl (by kernel_rfl)
  have c4 : w5.cell? ⟨g, off + (2 * 45 + 21), none⟩ = some (.string ⟨#[99]⟩) := hr5.cell rfl (by kernel_rfl)
  have hnx : Calls Try.prog 11 #[.pointer (some ⟨w.heap.size, 0, none⟩)] w5 fun e w' => e = .returned (.int .i64 4) ∧ w' = w5 := Next_any (HS4.out.1.fr (Fr.of_below hb5 (fun _ => False)) (fun _ _ h => h))
  have HB5 : Hid (Below w.heap.size w w5) := HS4.out.2.trans (hb5.mono HS4.out.2.size)
  clear hpar hr5 hb5 HS4
  simp only [Nat.zero_mul, Nat.zero_add, Nat.one_mul, Nat.add_zero, show 45 + 2 = 47 from rfl, show 2 * 45 + 21 = 111 from rfl] at c1 c2 c3 c4
  generalize hsz : shP.length = ln at *
  have hln : ln = 3 := by rw [← hsz]; rfl
  subst hln
  clear hsz
  go_wp2_with (go_at_call 11; refine hnx.mono ?_; rintro e w6 ⟨rfl, ew⟩; replace ew := ew.symm; subst ew)
  go_ret
  exact ⟨rfl, HB5.out⟩
end Go.Proofs.Ytekkckfoikpljaa
