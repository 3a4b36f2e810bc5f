/-
  num: Put.
-/
import Derived.Test.YtdncemecnbglaaaBytes
namespace Go.Proofs.Ytdncemecnbglaaa
set_option linter.unusedVariables false
open Go.RowKit

set_option maxRecDepth 100000 in
set_option maxHeartbeats 1000000 in
theorem Put_any (a : Option Addr) (n cap : Nat) (d : Nat → Nat) (u s : Nat) (hs8 : s ≤ 8) (w : World) (hn : n ≤ 140737488351232) (hu : u < 18446744073709551616) (hs : Src w a n d) (ha : a = none → n = 0 ∧ cap = 0) :
    Calls Try.prog 23 #[.slice a n cap, .int .u64 (u : Int), .int .i64 (s : Int)] w fun e w' => ∃ v, e = .returned v ∧ w'.ownsRow w.heap.size 5 1 v (n + s) (bvals (rowL d n ++ putTo u s s)) ∧ Below w.heap.size w w' := by
  obtain ⟨i0, hi, hz0, hz1, hz2⟩ := info_parts info5
  have hs8' : (s : Int) ≤ 8 := by omega
  have hs0' : (0 : Int) ≤ (s : Int) := by omega
  have HC := fun x hx => copyWithRoom_any a n cap d s x hx w hn (by omega) hs ha
  clear hs ha
  go_enter Try.func23, Try.ntmps23
  go_wp2_with (go_at_call 37; fail)
  refine (HC _ (by omega)).mono ?_
  rintro e w1 ⟨v1, rfl, ho1, hb1⟩
  obtain ⟨a1, c1, rfl⟩ := own_form ho1
  have HO : Hid (w1.ownsRow w.heap.size 5 1 (.slice a1 n c1) n (bvals (rowL d n)) ∧ Below w.heap.size w w1) := ⟨ho1, hb1⟩
  clear ho1 hb1 HC
  generalize hBe : w.heap.size = B at *
  have HBe : Hid (w.heap.size = B) := hBe
  clear hBe
  go_wp2
  go_loopw [7, 8] (fun o i wr => ∃ (j : Nat) (ao : Option Addr) (cv : Nat) (i' : Int), j ≤ s ∧ i = .int .i64 i' ∧ i' = (s : Int) - 1 - j ∧ o = .slice ao (n + j) cv ∧ wr.ownsRow B 5 1 o (n + j) (bvals (rowL d n ++ putTo u s j)) ∧ Below B w wr) (fun _ i _ => (intOf i + 1).toNat)
  case atStart => exact ⟨0, a1, c1, _, by omega, rfl, by omega, rfl, by simpa [putTo] using HO.out.1, HO.out.2⟩
  case round =>
    obtain ⟨j, ao, cv, i', hj, rfl, hi', rfl, hown, hbl⟩ := hrel
    clear HO
    by_cases hlt : j < s
    · obtain ⟨k, hk⟩ : ∃ k : Nat, k = s - 1 - j := ⟨_, rfl⟩
      have hik : i' = (k : Int) := by omega
      subst hik
      have hk8 : 8 * k < 64 := by omega
      have hv : (u : Int) / 2 ^ (8 * k) % 256 = ((u / 2 ^ (8 * k) % 256 : Nat) : Int) := by simp
      have HP : Hid (bvals (rowL d n ++ putTo u s (j + 1)) = bvals (rowL d n ++ putTo u s j) ++ [.int .u8 ((u / 2 ^ (8 * k) % 256 : Nat) : Int)]) := by
        show _ = _
        rw [putTo_succ, ← hk, ← List.append_assoc, bvals_append]
        rfl
      have hx256 : u / 2 ^ (8 * k) % 256 < 256 := Nat.mod_lt _ (by decide)
      have HA : Hid (Below B w wr ∧ B ≤ wr.heap.size ∧ wr.ownsRow B 5 1 (.slice ao (n + j) cv) (n + j) (bvals (rowL d n ++ putTo u s j))) := ⟨hbl, by rw [← HBe.out]; exact hbl.size, hown⟩
      have HK : Hid (k = s - 1 - j) := hk
      clear hown hbl hi' hk
      generalize u / 2 ^ (8 * k) % 256 = X at *
      have hnew : Hid (∀ j u, [Value.int .u8 (X : Int)][j]? = some u → (wr.alloc (.cells #[.int .u8 (X : Int)] 5)).cell? ((⟨wr.heap.size, 0, none⟩ : Addr).add j) = some u) := cell_one_new wr (.int .u8 (X : Int)) 5
      go_wp2_with (at_builtin; refine wpList_append_own _ rfl _ _ 35 rfl B 5 i0 (.int .u8 0) 1 1 Try.underlying35 hi hz0 hz1 hz2 rfl (by decide) _ (n + j) (bvals (rowL d n ++ putTo u s j)) rfl (HA.out.2.2.alloc _) ⟨wr.heap.size, 0, none⟩ 1 1 [.int .u8 (X : Int)] rfl rfl hnew.out (fun x hx => by simp at hx; subst hx; rfl) (by unfold maxLen; omega) (by omega) (by have := HA.out.2.1; simp; omega) ?_; intro v' w3 hown' hgrow3 hnil3)
      have hg3 : (wr.alloc (.cells #[.int .u8 (X : Int)] 5)).grownBy w3 (Value.slice ao (n + j) cv).ownBlock := hgrow3
      have hb3 : Below B w w3 := below_grownBy (HA.out.1.alloc HA.out.2.1 _) hg3 (by rw [HBe.out]; exact Nat.le_refl _) (fun q hq => (HA.out.2.2.lt q hq).1)
      rw [← HP.out] at hown'
      obtain ⟨a3, c3, rfl⟩ := own_form hown'
      have HB3 : Hid (Below B w w3 ∧ w3.ownsRow B 5 1 (.slice a3 (n + j + 1) c3) (n + j + 1) (bvals (rowL d n ++ putTo u s (j + 1)))) := ⟨hb3, hown'⟩
      clear hb3 hown' hg3 hgrow3 hnil3
      exact ⟨⟨j + 1, a3, c3, _, by omega, rfl, by have := HK.out; omega, rfl, HB3.out.2, HB3.out.1⟩, by simp [intOf]⟩
    · obtain rfl : j = s := by omega
      have hneg : i' = -1 := by omega
      subst hneg
      have HW : Hid (wr.ownsRow B 5 1 (.slice ao (n + j) cv) (n + j) (bvals (rowL d n ++ putTo u j j)) ∧ Below B w wr) := ⟨hown, hbl⟩
      clear hown hbl hi'
      go_wp2
      go_ret
      exact ⟨_, rfl, by rw [HBe.out]; exact HW.out.1, by rw [HBe.out]; exact HW.out.2⟩
end Go.Proofs.Ytdncemecnbglaaa
