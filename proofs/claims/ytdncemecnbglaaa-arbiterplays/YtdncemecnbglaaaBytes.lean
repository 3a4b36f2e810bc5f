/-
  num: numbers as bytes: copyWithRoom, Put, PutVar, Get, GetVar.
-/
import Derived.Test.YtdncemecnbglaaaOwn
import Derived.Test.YtdncemecnbglaaaVar
import Derived.OwnWalk
import Derived.Maps.AppendAt
import Derived.Laws.OwnMore
import Derived.Laws.BitsAllLaws
import Derived.Deep.AppendLies
namespace Go.Proofs.Ytdncemecnbglaaa
set_option linter.unusedVariables false
open Go.RowKit

def bvals (l : List Nat) : List Value := l.map fun (x : Nat) => .int .u8 (x : Int)
theorem bvals_length (l : List Nat) : (bvals l).length = l.length := by simp [bvals]
theorem bvals_append (l m : List Nat) : bvals (l ++ m) = bvals l ++ bvals m := by simp [bvals]
def rowL (d : Nat → Nat) (n : Nat) : List Nat := (List.range n).map d
theorem rowL_length (d : Nat → Nat) (n : Nat) : (rowL d n).length = n := by simp [rowL]
theorem own_form {w : World} {B e n : Nat} {v : Value} {xs : List Value} (h : w.ownsRow B e 1 v n xs) : ∃ ao cv, v = .slice ao n cv := by
  rcases h.2 with ⟨h1, h2⟩ | ⟨g, cap, _, h1, _⟩
  · exact ⟨none, 0, by rw [h1, h2]⟩
  · exact ⟨_, _, h1⟩
theorem below_grownBy {B : Nat} {a w w' : World} {row : Option Nat} (h : Below B a w) (hg : w.grownBy w' row) (hB : B ≤ a.heap.size) (hr : ∀ k, row = some k → B ≤ k) : Below B a w' :=
  ⟨hg.os.trans h.os, hg.tape.trans h.tape, hg.output.trans h.output, Nat.le_trans h.size hg.size, fun k hk => (hg.block k (by have := h.size; omega) (fun e => by have := hr k e.symm; omega)).trans (h.block k hk)⟩
theorem src_cells {w : World} {a : Option Addr} {n : Nat} {d : Nat → Nat} (h : Src w a n d) : ∀ ad, a = some ad → ∀ j u, (bvals (rowL d n))[j]? = some u → w.cell? (ad.add j) = some u := by
  intro ad ha j u hu
  have hj : j < n := by
    have := (List.getElem?_eq_some_iff.1 hu).1
    simpa [bvals, rowL] using this
  rcases h with h0 | ⟨b, off, e, hr⟩
  · omega
  · rw [e] at ha
    cases ha
    rw [show (⟨b, off, none⟩ : Addr).add j = ⟨b, off + j, none⟩ by unfold Addr.add; split <;> simp_all, (hr j hj).1]
    simp [bvals, rowL, hj] at hu
    rw [← hu]
theorem bvals_one (l : List Nat) : ∀ u ∈ bvals l, u.oneCell' = true := by
  intro u hu
  simp only [bvals, List.mem_map] at hu
  obtain ⟨x, _, rfl⟩ := hu
  rfl
set_option maxRecDepth 100000 in
set_option maxHeartbeats 400000 in
theorem copyWithRoom_any (a : Option Addr) (n cap : Nat) (d : Nat → Nat) (r : Nat) (x : Int) (hx : x = r) (w : World) (hn : n ≤ 140737488351232) (hr : r ≤ 100) (hs : Src w a n d) (ha : a = none → n = 0 ∧ cap = 0) :
    Calls Try.prog 37 #[.slice a n cap, .int .i64 x] w fun e w' => ∃ v, e = .returned v ∧ w'.ownsRow w.heap.size 5 1 v n (bvals (rowL d n)) ∧ Below w.heap.size w w' := by
  subst hx
  obtain ⟨i0, hi, hz0, hz1, hz2⟩ := info_parts info5
  have HS : Hid (Src w a n d ∧ (a = none → n = 0 ∧ cap = 0)) := ⟨hs, ha⟩
  clear hs ha
  go_enter Try.func37, Try.ntmps37
  go_wp2_with (first
    | (at_make; refine wpList_make_own _ rfl _ _ 35 rfl w.heap.size 5 i0 (.int .u8 0) 1 Try.underlying35 hi hz0 hz1 _ _ _ (n + r) rfl rfl (by omega) (by rw [hz2]; omega) (by unfold maxLen; omega) (Nat.le_refl _) ?_; intro w1 hown1 hgrow1)
    | (at_builtin; refine wpList_append_fits_any _ rfl _ _ 35 rfl w.heap.size 5 i0 1 Try.underlying35 hi hz1 w.heap.size 0 (n + r) [] rfl hown1 a n cap (bvals (rowL d n)) rfl (by rw [bvals_length, rowL_length, Nat.mul_one]) HS.out.2 (src_cells (HS.out.1.below (below_grownBy (Below.refl _ w) hgrow1 (Nat.le_refl _) (fun k hk => by cases hk)))) (bvals_one _) (by omega) ?_; intro w2 hown2 hgrow2))
  have hb1 : Below w.heap.size w w1 := below_grownBy (Below.refl _ w) hgrow1 (Nat.le_refl _) (fun k hk => by cases hk)
  have hb2 : Below w.heap.size w w2 := below_grownBy hb1 hgrow2 (Nat.le_refl _) (fun k hk => by cases hk; exact Nat.le_refl _)
  rw [Nat.zero_add, List.nil_append] at hown2
  have HB2 : Hid (Below w.heap.size w w2 ∧ w2.ownsRow w.heap.size 5 1 (.slice (some ⟨w.heap.size, 0, none⟩) n (n + r)) n (bvals (rowL d n))) := ⟨hb2, hown2⟩
  clear hb1 hb2 hown2 hgrow2 hown1 hgrow1
  go_ret
  exact ⟨_, rfl, HB2.out.2, HB2.out.1⟩
theorem and_one (u : Nat) (h : u < 18446744073709551616) : bits .and .u64 (u : Int) 1 = ((u % 2 : Nat) : Int) := by
  have := u64_and_nat u 1 h (by decide)
  rw [Nat.and_one_is_mod] at this
  exact this
end Go.Proofs.Ytdncemecnbglaaa
