/-
  heap: ahead, rise, sink, settle.
-/
import Derived.Test.YtdnhhcbabdoomaaHTree
namespace Go.Proofs.Ytdnhhcbabdoomaa
set_option linter.unusedVariables false
set_option linter.unusedSimpArgs false
open Go.RowKit Go.Great

section
variable {A : Ask} {w w' : World} {h : Nat} {v : Value} {t : List (It Th)} {N c : Nat}
set_option maxRecDepth 100000 in
set_option maxHeartbeats 2000000 in
theorem ahead_any (H : HpM A w h v t N c) (hA : A.Ok) {i j : Nat} {a b : It Th} (hi : t[i]? = some a) (hj : t[j]? = some b) :
    Calls Try.prog 87 #[ptr h, ptr a.p, ptr b.p] w fun e w' => e = .returned (.bool (ahB A.lt a b)) ∧ HpM A w' h v t N (c + 1) ∧ Fr w w' A.ex := by
  obtain ⟨a0, a1, a2, a3⟩ := H.at hi
  obtain ⟨b0, b1, b2, b3⟩ := H.at hj
  obtain ⟨d0, d1, d2⟩ := H.hd
  have hcf := hA.cf
  have HS : Hid (HpM A w h v t N c) := H
  have HO : Hid A.Ok := hA
  clear H hA
  have HR : Hid (ahB A.lt a b = if a.r < b.r then !A.lt b.x a.x else A.lt a.x b.x) := rfl
  generalize ahB A.lt a b = R at *
  by_cases hr : a.r < b.r
  · have hr1 : ((a.r : Nat) : Int) < (b.r : Int) := by omega
    have hr2 : decide (((a.r : Nat) : Int) < (b.r : Int)) = true := by simpa using hr
    go_enter Try.func87, Try.ntmps87
    go_upto_region 1 with fail
    go_quiet (fail)
    go_upto_region 2 with fail
    go_region_with (refine (HO.out.call b.x a.x _ c (HO.out.keep HS.out.st ((Fr.refl w (fun _ => False)).drewN _) (fun _ q => q.elim))).mono ?_; rintro e w1 ⟨rfl, hF, hS⟩)
    all_goals (
      have hF2 : Fr w w1 A.ex := ⟨hF.os, hF.tape, hF.output, hF.size, hF.block⟩
      have HF : Hid (HpM A w1 h v t N (c + 1) ∧ Fr w w1 A.ex) := ⟨HS.out.asked hF2 hS, hF2⟩
      have HQ : Hid (R = !A.lt b.x a.x) := by have q := HR.out; rw [if_pos hr] at q; exact q
      clear hF hS HS HO hcf HR hF2 a0 a1 a2 a3 b0 b1 b2 b3 d0 d1 d2
      generalize A.lt b.x a.x = Q at *
      go_wp2
      go_ret
      exact ⟨by rw [HQ.out]; rfl, HF.out⟩)
  · have hr1 : ¬ ((a.r : Nat) : Int) < (b.r : Int) := by omega
    have hr2 : decide (((a.r : Nat) : Int) < (b.r : Int)) = false := by simpa using hr
    go_enter Try.func87, Try.ntmps87
    go_upto_region 1 with fail
    go_quiet (fail)
    go_upto_region 3 with fail
    go_region_with (refine (HO.out.call a.x b.x _ c (HO.out.keep HS.out.st ((Fr.refl w (fun _ => False)).drewN _) (fun _ q => q.elim))).mono ?_; rintro e w1 ⟨rfl, hF, hS⟩)
    all_goals (
      have hF2 : Fr w w1 A.ex := ⟨hF.os, hF.tape, hF.output, hF.size, hF.block⟩
      have HF : Hid (HpM A w1 h v t N (c + 1) ∧ Fr w w1 A.ex) := ⟨HS.out.asked hF2 hS, hF2⟩
      have HQ : Hid (R = A.lt a.x b.x) := by have q := HR.out; rw [if_neg hr] at q; exact q
      clear hF hS HS HO hcf HR hF2 a0 a1 a2 a3 b0 b1 b2 b3 d0 d1 d2
      generalize A.lt a.x b.x = Q at *
      go_wp2
      go_ret
      exact ⟨by rw [HQ.out]; rfl, HF.out⟩)
end
end Go.Proofs.Ytdnhhcbabdoomaa
