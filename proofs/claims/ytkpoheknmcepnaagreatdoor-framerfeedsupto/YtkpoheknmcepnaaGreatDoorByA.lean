import Derived.Test.YtkpoheknmcepnaaGreatDoorOwn
import Derived.Test.YtkpoheknmcepnaaGreatDoorBNum
import Derived.OwnWalk
import Derived.Maps.AppendAt
import Derived.Laws.OwnMore
import Derived.Laws.BitsAllLaws
import Derived.Deep.AppendLies
import Derived.Laws.Bits64b

namespace Go.Proofs.YtkpoheknmcepnaaGreatDoor
set_option linter.unusedVariables false
open Go.RowKit

def bvals (l : List Nat) : List Value := l.map fun (x : Nat) => .int .u8 (x : Int)
theorem bvals_length (l : List Nat) : (bvals l).length = l.length := by simp [bvals]
theorem bvals_append (l m : List Nat) : bvals (l ++ m) = bvals l ++ bvals m := by simp [bvals]
def rowL (d : Nat → Nat) (n : Nat) : List Nat := (List.range n).map d
theorem rowL_length (d : Nat → Nat) (n : Nat) : (rowL d n).length = n := by simp [rowL]
theorem own_form {w : World} {B e n : Nat} {v : Value} {xs : List Value} (h : w.ownsRow B e 1 v n xs) : ∃ ao cv, v = .slice ao n cv := by
  rcases h.2 with ⟨h1, h2⟩ | ⟨g, cap, _, h1, _⟩
  · exact ⟨none, 0, by rw [h1, h2]⟩
  · exact ⟨_, _, h1⟩
theorem below_grownBy {B : Nat} {a w w' : World} {row : Option Nat} (h : Below B a w) (hg : w.grownBy w' row) (hB : B ≤ a.heap.size) (hr : ∀ k, row = some k → B ≤ k) : Below B a w' :=
  ⟨hg.os.trans h.os, hg.tape.trans h.tape, hg.output.trans h.output, Nat.le_trans h.size hg.size, fun k hk => (hg.block k (by have := h.size; omega) (fun e => by have := hr k e.symm; omega)).trans (h.block k hk)⟩
theorem src_cells {w : World} {a : Option Addr} {n : Nat} {d : Nat → Nat} (h : Src w a n d) : ∀ ad, a = some ad → ∀ j u, (bvals (rowL d n))[j]? = some u → w.cell? (ad.add j) = some u := by
  intro ad ha j u hu
  have hj : j < n := by
    have := (List.getElem?_eq_some_iff.1 hu).1
    simpa [bvals, rowL] using this
  rcases h with h0 | ⟨b, off, e, hr⟩
  · omega
  · rw [e] at ha
    cases ha
    rw [show (⟨b, off, none⟩ : Addr).add j = ⟨b, off + j, none⟩ by unfold Addr.add; split <;> simp_all, (hr j hj).1]
    simp [bvals, rowL, hj] at hu
    rw [← hu]
theorem bvals_one (l : List Nat) : ∀ u ∈ bvals l, u.oneCell' = true := by
  intro u hu
  simp only [bvals, List.mem_map] at hu
  obtain ⟨x, _, rfl⟩ := hu
  rfl
set_option maxRecDepth 100000 in
set_option maxHeartbeats 400000 in
theorem copyWithRoom_any (a : Option Addr) (n cap : Nat) (d : Nat → Nat) (r : Nat) (x : Int) (hx : x = r) (w : World) (hn : n ≤ 140737488351232) (hr : r ≤ 100) (hs : Src w a n d) (ha : a = none → n = 0 ∧ cap = 0) :
    Calls Tryz.prog 62 #[.slice a n cap, .int .i64 x] w fun e w' => ∃ v, e = .returned v ∧ w'.ownsRow w.heap.size 5 1 v n (bvals (rowL d n)) ∧ Below w.heap.size w w' := by
  subst hx
  obtain ⟨i0, hi, hz0, hz1, hz2⟩ := info_parts info5
  have HS : Hid (Src w a n d ∧ (a = none → n = 0 ∧ cap = 0)) := ⟨hs, ha⟩
  clear hs ha
  go_enter Tryz.func62, Tryz.ntmps62
  go_wp2_with (first
    | (at_make; refine wpList_make_own _ rfl _ _ 22 rfl w.heap.size 5 i0 (.int .u8 0) 1 Tryz.underlying22 hi hz0 hz1 _ _ _ (n + r) rfl rfl (by omega) (by rw [hz2]; omega) (by unfold maxLen; omega) (Nat.le_refl _) ?_; intro w1 hown1 hgrow1)
    | (at_builtin; refine wpList_append_fits_any _ rfl _ _ 22 rfl w.heap.size 5 i0 1 Tryz.underlying22 hi hz1 w.heap.size 0 (n + r) [] rfl hown1 a n cap (bvals (rowL d n)) rfl (by rw [bvals_length, rowL_length, Nat.mul_one]) HS.out.2 (src_cells (HS.out.1.below (below_grownBy (Below.refl _ w) hgrow1 (Nat.le_refl _) (fun k hk => by cases hk)))) (bvals_one _) (by omega) ?_; intro w2 hown2 hgrow2))
  have hb1 : Below w.heap.size w w1 := below_grownBy (Below.refl _ w) hgrow1 (Nat.le_refl _) (fun k hk => by cases hk)
  have hb2 : Below w.heap.size w w2 := below_grownBy hb1 hgrow2 (Nat.le_refl _) (fun k hk => by cases hk; exact Nat.le_refl _)
  rw [Nat.zero_add, List.nil_append] at hown2
  have HB2 : Hid (Below w.heap.size w w2 ∧ w2.ownsRow w.heap.size 5 1 (.slice (some ⟨w.heap.size, 0, none⟩) n (n + r)) n (bvals (rowL d n))) := ⟨hb2, hown2⟩
  clear hb1 hb2 hown2 hgrow2 hown1 hgrow1
  go_ret
  exact ⟨_, rfl, HB2.out.2, HB2.out.1⟩
theorem and_one (u : Nat) (h : u < 18446744073709551616) : bits .and .u64 (u : Int) 1 = ((u % 2 : Nat) : Int) := by
  have := u64_and_nat u 1 h (by decide)
  rw [Nat.and_one_is_mod] at this
  exact this
end Go.Proofs.YtkpoheknmcepnaaGreatDoor

namespace Go.Proofs.YtkpoheknmcepnaaGreatDoor
set_option linter.unusedVariables false
open Go.RowKit

set_option maxRecDepth 100000 in
set_option maxHeartbeats 1000000 in
theorem Put_any (a : Option Addr) (n cap : Nat) (d : Nat → Nat) (u s : Nat) (hs8 : s ≤ 8) (w : World) (hn : n ≤ 140737488351232) (hu : u < 18446744073709551616) (hs : Src w a n d) (ha : a = none → n = 0 ∧ cap = 0) :
    Calls Tryz.prog 25 #[.slice a n cap, .int .u64 (u : Int), .int .i64 (s : Int)] w fun e w' => ∃ v, e = .returned v ∧ w'.ownsRow w.heap.size 5 1 v (n + s) (bvals (rowL d n ++ putTo u s s)) ∧ Below w.heap.size w w' := by
  obtain ⟨i0, hi, hz0, hz1, hz2⟩ := info_parts info5
  have hs8' : (s : Int) ≤ 8 := by omega
  have hs0' : (0 : Int) ≤ (s : Int) := by omega
  have HC := fun x hx => copyWithRoom_any a n cap d s x hx w hn (by omega) hs ha
  clear hs ha
  go_enter Tryz.func25, Tryz.ntmps25
  go_wp2_with (go_at_call 62; fail)
  refine (HC _ (by omega)).mono ?_
  rintro e w1 ⟨v1, rfl, ho1, hb1⟩
  obtain ⟨a1, c1, rfl⟩ := own_form ho1
  have HO : Hid (w1.ownsRow w.heap.size 5 1 (.slice a1 n c1) n (bvals (rowL d n)) ∧ Below w.heap.size w w1) := ⟨ho1, hb1⟩
  clear ho1 hb1 HC
  generalize hBe : w.heap.size = B at *
  have HBe : Hid (w.heap.size = B) := hBe
  clear hBe
  go_wp2
  go_loopw [7, 8] (fun o i wr => ∃ (j : Nat) (ao : Option Addr) (cv : Nat) (i' : Int), j ≤ s ∧ i = .int .i64 i' ∧ i' = (s : Int) - 1 - j ∧ o = .slice ao (n + j) cv ∧ wr.ownsRow B 5 1 o (n + j) (bvals (rowL d n ++ putTo u s j)) ∧ Below B w wr) (fun _ i _ => (intOf i + 1).toNat)
  case atStart => exact ⟨0, a1, c1, _, by omega, rfl, by omega, rfl, by simpa [putTo] using HO.out.1, HO.out.2⟩
  case round =>
    obtain ⟨j, ao, cv, i', hj, rfl, hi', rfl, hown, hbl⟩ := hrel
    clear HO
    by_cases hlt : j < s
    · obtain ⟨k, hk⟩ : ∃ k : Nat, k = s - 1 - j := ⟨_, rfl⟩
      have hik : i' = (k : Int) := by omega
      subst hik
      have hk8 : 8 * k < 64 := by omega
      have hv : (u : Int) / 2 ^ (8 * k) % 256 = ((u / 2 ^ (8 * k) % 256 : Nat) : Int) := by simp
      have HP : Hid (bvals (rowL d n ++ putTo u s (j + 1)) = bvals (rowL d n ++ putTo u s j) ++ [.int .u8 ((u / 2 ^ (8 * k) % 256 : Nat) : Int)]) := by
        show _ = _
        rw [putTo_succ, ← hk, ← List.append_assoc, bvals_append]
        rfl
      have hx256 : u / 2 ^ (8 * k) % 256 < 256 := Nat.mod_lt _ (by decide)
      have HA : Hid (Below B w wr ∧ B ≤ wr.heap.size ∧ wr.ownsRow B 5 1 (.slice ao (n + j) cv) (n + j) (bvals (rowL d n ++ putTo u s j))) := ⟨hbl, by rw [← HBe.out]; exact hbl.size, hown⟩
      have HK : Hid (k = s - 1 - j) := hk
      clear hown hbl hi' hk
      generalize u / 2 ^ (8 * k) % 256 = X at *
      have hnew : Hid (∀ j u, [Value.int .u8 (X : Int)][j]? = some u → (wr.alloc (.cells #[.int .u8 (X : Int)] 5)).cell? ((⟨wr.heap.size, 0, none⟩ : Addr).add j) = some u) := cell_one_new wr (.int .u8 (X : Int)) 5
      go_wp2_with (at_builtin; refine wpList_append_own _ rfl _ _ 22 rfl B 5 i0 (.int .u8 0) 1 1 Tryz.underlying22 hi hz0 hz1 hz2 rfl (by decide) _ (n + j) (bvals (rowL d n ++ putTo u s j)) rfl (HA.out.2.2.alloc _) ⟨wr.heap.size, 0, none⟩ 1 1 [.int .u8 (X : Int)] rfl rfl hnew.out (fun x hx => by simp at hx; subst hx; rfl) (by unfold maxLen; omega) (by omega) (by have := HA.out.2.1; simp; omega) ?_; intro v' w3 hown' hgrow3 hnil3)
      have hg3 : (wr.alloc (.cells #[.int .u8 (X : Int)] 5)).grownBy w3 (Value.slice ao (n + j) cv).ownBlock := hgrow3
      have hb3 : Below B w w3 := below_grownBy (HA.out.1.alloc HA.out.2.1 _) hg3 (by rw [HBe.out]; exact Nat.le_refl _) (fun q hq => (HA.out.2.2.lt q hq).1)
      rw [← HP.out] at hown'
      obtain ⟨a3, c3, rfl⟩ := own_form hown'
      have HB3 : Hid (Below B w w3 ∧ w3.ownsRow B 5 1 (.slice a3 (n + j + 1) c3) (n + j + 1) (bvals (rowL d n ++ putTo u s (j + 1)))) := ⟨hb3, hown'⟩
      clear hb3 hown' hg3 hgrow3 hnil3
      exact ⟨⟨j + 1, a3, c3, _, by omega, rfl, by have := HK.out; omega, rfl, HB3.out.2, HB3.out.1⟩, by simp [intOf]⟩
    · obtain rfl : j = s := by omega
      have hneg : i' = -1 := by omega
      subst hneg
      have HW : Hid (wr.ownsRow B 5 1 (.slice ao (n + j) cv) (n + j) (bvals (rowL d n ++ putTo u j j)) ∧ Below B w wr) := ⟨hown, hbl⟩
      clear hown hbl hi'
      go_wp2
      go_ret
      exact ⟨_, rfl, by rw [HBe.out]; exact HW.out.1, by rw [HBe.out]; exact HW.out.2⟩
end Go.Proofs.YtkpoheknmcepnaaGreatDoor

namespace Go.Proofs.YtkpoheknmcepnaaGreatDoor
set_option linter.unusedVariables false
open Go.RowKit

theorem or_shift {a c k : Nat} (hc : c < 2 ^ k) : a * 2 ^ k ||| c = a * 2 ^ k + c := by
  have := Nat.two_pow_add_eq_or_of_lt hc a
  rw [Nat.mul_comm] at this
  exact this.symm
theorem or_low {u x k : Nat} (hu : u < 2 ^ k) : u ||| x * 2 ^ k = u + x * 2 ^ k := by
  rw [Nat.or_comm, or_shift hu, Nat.add_comm]
set_option maxRecDepth 100000 in
set_option maxHeartbeats 1000000 in
theorem Get_yes (a : Option Addr) (n cap : Nat) (d : Nat → Nat) (s : Nat) (w : World) (hs : Src w a n d) (h1 : 1 ≤ s) (h8 : s ≤ 8) (hn : s ≤ n) (hnc : n ≤ cap) (hm : n ≤ 9223372036854775807) :
    Calls Tryz.prog 49 #[.slice a n cap, .int .i64 (s : Int)] w fun e w' => e = .returned (.tuple #[.int .u64 (getN d s : Int), .bool true]) ∧ w' = w := by
  rcases hs with h0 | ⟨b, off, rfl, hr⟩
  · omega
  · have f1 : (1 : Int) ≤ s := by omega
    have f2 : (s : Int) ≤ 8 := by omega
    have f3 : (s : Int) ≤ (n : Int) := by omega
    have f4 : s ≤ cap := by omega
    have f5 : (s : Int) ≤ (cap : Int) := by omega
    have hd : ∀ j, j < s → d j < 256 := fun j hj => (hr j (by omega)).2
    have HR : Hid (Row w b off n d) := hr
    clear hr
    go_enter Tryz.func49, Tryz.ntmps49
    go_wp2
    go_loopw [6, 25] (fun x i wr => ∃ k : Nat, k ≤ s ∧ i = .int .i64 k ∧ x = .int .u64 (getN d k : Int) ∧ wr = w) (fun _ i _ => s - (intOf i).toNat)
    case atStart => exact ⟨0, by omega, rfl, rfl, rfl⟩
    case round =>
      obtain ⟨k, hk, rfl, rfl, rfl⟩ := hrel
      by_cases hlt : k < s
      · have hlt' : (k : Int) < (s : Int) := by omega
        have hg := getN_lt d k (fun j hj => hd j (by omega))
        have hg7 : getN d k < 72057594037927936 := Nat.lt_of_lt_of_le hg (by
          have := Nat.pow_le_pow_right (n := 256) (by decide) (show k ≤ 7 by omega)
          simpa using this)
        have hdk := hd k hlt
        have hc := (HR.out k (by omega)).1
        have hor := bits_or_u64_nat (getN d k * 256) (d k) (by omega) (by omega)
        rw [or_shift (k := 8) (show d k < 2 ^ 8 by omega)] at hor
        have HG : Hid (getN d (k + 1) = getN d k * 2 ^ 8 + d k) := rfl
        generalize getN d k = N at *
        have hor2 : bits .or .u64 ((N : Int) * 256) (d k : Int) = ((N * 2 ^ 8 + d k : Nat) : Int) := by
          rw [← hor]; simp
        clear hor hg
        go_wp2
        go_roundw
        case rel => exact ⟨k + 1, by omega, by go_num, vint (by have := HG.out; omega), by first | rfl | trivial⟩
        case measure => simp [intOf]; omega
      · obtain rfl : k = s := by omega
        go_wp2
        go_ret2
        exact ⟨rfl, by first | rfl | trivial⟩
theorem and_127 (c : Nat) (h : c < 256) : bits .and .u8 (c : Int) 127 = ((c % 128 : Nat) : Int) := by
  have := u8_and_nat c 127 h (by decide)
  have key : ∀ x, x < 256 → x &&& 127 = x % 128 := by decide +kernel
  rw [key c h] at this
  exact this
end Go.Proofs.YtkpoheknmcepnaaGreatDoor
