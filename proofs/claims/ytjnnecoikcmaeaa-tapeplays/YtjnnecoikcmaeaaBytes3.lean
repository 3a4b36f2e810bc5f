/-
  num: PutVar.
-/
import Derived.Test.YtjnnecoikcmaeaaBytes
namespace Go.Proofs.Ytjnnecoikcmaeaa
set_option linter.unusedVariables false
open Go.RowKit

theorem or_128 (u : Nat) : bits .or .u8 ((u : Int) % 256) 128 = ((u % 128 + 128 : Nat) : Int) := by
  have e : (u : Int) % 256 = ((u % 256 : Nat) : Int) := by omega
  rw [e]
  have h := u8_or_nat (u % 256) 128 (Nat.mod_lt _ (by decide)) (by decide)
  have key : ∀ x, x < 256 → x ||| 128 = x % 128 + 128 := by decide +kernel
  rw [key _ (Nat.mod_lt _ (by decide)), show u % 256 % 128 = u % 128 by omega] at h
  exact h
set_option maxRecDepth 100000 in
set_option maxHeartbeats 1000000 in
theorem PutVar_any (a : Option Addr) (n cap : Nat) (d : Nat → Nat) (m : Int) (w : World) (hn : n ≤ 140737488351232) (hm0 : -9223372036854775808 ≤ m) (hm1 : m ≤ 9223372036854775807) (hs : Src w a n d) (ha : a = none → n = 0 ∧ cap = 0) :
    Calls Try.prog 30 #[.slice a n cap, .int .i64 m] w fun e w' => ∃ v, e = .returned v ∧ w'.ownsRow w.heap.size 5 1 v (n + (varL (foldN m)).length) (bvals (rowL d n ++ varL (foldN m))) ∧ Below w.heap.size w w' := by
  obtain ⟨i0, hi, hz0, hz1, hz2⟩ := info_parts info5
  have HC := fun x hx => copyWithRoom_any a n cap d 10 x hx w hn (by omega) hs ha
  have hf := fold_any m w hm0 hm1
  have hU := foldN_lt hm0 hm1
  clear hs ha
  generalize foldN m = U at *
  have hl10 := varL_length10 hU
  go_enter Try.func30, Try.ntmps30
  go_wp2_with (go_at_call 43; fail)
  refine hf.mono ?_
  rintro e w ⟨rfl, rfl⟩
  go_wp2_with (go_at_call 44; fail)
  refine (HC _ rfl).mono ?_
  rintro e w1 ⟨v1, rfl, ho1, hb1⟩
  obtain ⟨a1, c1, rfl⟩ := own_form ho1
  have HO : Hid (w1.ownsRow w.heap.size 5 1 (.slice a1 n c1) n (bvals (rowL d n)) ∧ Below w.heap.size w w1) := ⟨ho1, hb1⟩
  clear ho1 hb1 HC hf
  generalize hBe : w.heap.size = B at *
  have HBe : Hid (w.heap.size = B) := hBe
  clear hBe
  go_wp2
  go_loopw [5, 6] (fun x o wr => ∃ (u : Nat) (pre : List Nat) (ao : Option Addr) (cv : Nat), u < 18446744073709551616 ∧ x = .int .u64 (u : Int) ∧ pre ++ varL u = varL U ∧ o = .slice ao (n + pre.length) cv ∧ wr.ownsRow B 5 1 o (n + pre.length) (bvals (rowL d n ++ pre)) ∧ Below B w wr) (fun x _ _ => (intOf x).toNat)
  case atStart => exact ⟨U, [], a1, c1, hU, rfl, rfl, rfl, by simpa using HO.out.1, HO.out.2⟩
  case round =>
    obtain ⟨u, pre, ao, cv, hu, rfl, hpre, rfl, hown, hbl⟩ := hrel
    clear HO
    have hlen : pre.length + (varL u).length = (varL U).length := by rw [← hpre, List.length_append]
    have hpl : pre.length ≤ 10 := by omega
    have HA : Hid (Below B w wr ∧ B ≤ wr.heap.size ∧ wr.ownsRow B 5 1 (.slice ao (n + pre.length) cv) (n + pre.length) (bvals (rowL d n ++ pre))) := ⟨hbl, by rw [← HBe.out]; exact hbl.size, hown⟩
    clear hown hbl
    by_cases hlt : u < 128
    · have hlt' : (u : Int) ≤ 127 := by omega
      have hm256 : (u : Int) % 256 = (u : Int) := by omega
      rw [varL_small hlt] at hpre hlen
      have HP : Hid (pre ++ [u] = varL U) := hpre
      clear hpre
      generalize hq : pre.length = q at *
      have hnew : Hid (∀ j y, [Value.int .u8 (u : Int)][j]? = some y → (wr.alloc (.cells #[.int .u8 (u : Int)] 5)).cell? ((⟨wr.heap.size, 0, none⟩ : Addr).add j) = some y) := cell_one_new wr (.int .u8 (u : Int)) 5
      go_wp2_with (at_builtin; refine wpList_append_own _ rfl _ _ 28 rfl B 5 i0 (.int .u8 0) 1 1 Try.underlying28 hi hz0 hz1 hz2 rfl (by decide) _ (n + q) (bvals (rowL d n ++ pre)) rfl (HA.out.2.2.alloc _) ⟨wr.heap.size, 0, none⟩ 1 1 [.int .u8 (u : Int)] rfl rfl hnew.out (fun x hx => by simp at hx; subst hx; rfl) (by unfold maxLen; omega) (by omega) (by have := HA.out.2.1; simp; omega) ?_; intro v' w3 hown' hgrow3 hnil3)
      have hg3 : (wr.alloc (.cells #[.int .u8 (u : Int)] 5)).grownBy w3 (Value.slice ao (n + q) cv).ownBlock := hgrow3
      have hb3 : Below B w w3 := below_grownBy (HA.out.1.alloc HA.out.2.1 _) hg3 (by rw [HBe.out]; exact Nat.le_refl _) (fun k hk => (HA.out.2.2.lt k hk).1)
      have e1 : bvals (rowL d n ++ pre) ++ [.int .u8 (u : Int)] = bvals (rowL d n ++ varL U) := by rw [← HP.out, ← List.append_assoc, bvals_append (rowL d n ++ pre)]; rfl
      rw [e1, show n + q + 1 = n + (varL U).length by simp at hlen; omega] at hown'
      have HB3 : Hid (Below B w w3 ∧ w3.ownsRow B 5 1 v' (n + (varL U).length) (bvals (rowL d n ++ varL U))) := ⟨hb3, hown'⟩
      clear hb3 hown' hg3 hgrow3 hnil3
      go_ret
      exact ⟨_, rfl, by rw [HBe.out]; exact HB3.out.2, by rw [HBe.out]; exact HB3.out.1⟩
    · have hlt' : (127 : Int) < (u : Int) := by omega
      have hor := or_128 u
      rw [varL_big hlt] at hpre
      have HP : Hid ((pre ++ [u % 128 + 128]) ++ varL (u / 128) = varL U) := by show _ = _; rw [List.append_assoc]; exact hpre
      have HX : Hid (bvals (rowL d n ++ (pre ++ [u % 128 + 128])) = bvals (rowL d n ++ pre) ++ [.int .u8 ((u % 128 + 128 : Nat) : Int)]) := by show _ = _; rw [← List.append_assoc, bvals_append (rowL d n ++ pre)]; rfl
      have HL : Hid ((pre ++ [u % 128 + 128]).length = pre.length + 1) := by show _ = _; simp
      clear hpre hlen
      generalize pre ++ [u % 128 + 128] = pre2 at *
      generalize u % 128 + 128 = X at *
      generalize hq : pre.length = q at *
      have hnew : Hid (∀ j y, [Value.int .u8 (X : Int)][j]? = some y → (wr.alloc (.cells #[.int .u8 (X : Int)] 5)).cell? ((⟨wr.heap.size, 0, none⟩ : Addr).add j) = some y) := cell_one_new wr (.int .u8 (X : Int)) 5
      go_wp2_with (at_builtin; refine wpList_append_own _ rfl _ _ 28 rfl B 5 i0 (.int .u8 0) 1 1 Try.underlying28 hi hz0 hz1 hz2 rfl (by decide) _ (n + q) (bvals (rowL d n ++ pre)) rfl (HA.out.2.2.alloc _) ⟨wr.heap.size, 0, none⟩ 1 1 [.int .u8 (X : Int)] rfl rfl hnew.out (fun x hx => by simp at hx; subst hx; rfl) (by unfold maxLen; omega) (by omega) (by have := HA.out.2.1; simp; omega) ?_; intro v' w3 hown' hgrow3 hnil3)
      have hg3 : (wr.alloc (.cells #[.int .u8 (X : Int)] 5)).grownBy w3 (Value.slice ao (n + q) cv).ownBlock := hgrow3
      have hb3 : Below B w w3 := below_grownBy (HA.out.1.alloc HA.out.2.1 _) hg3 (by rw [HBe.out]; exact Nat.le_refl _) (fun k hk => (HA.out.2.2.lt k hk).1)
      rw [← HX.out, show n + q + 1 = n + pre2.length by rw [HL.out]; omega] at hown'
      obtain ⟨a3, c3, rfl⟩ := own_form hown'
      have HB3 : Hid (Below B w w3 ∧ w3.ownsRow B 5 1 (.slice a3 (n + pre2.length) c3) (n + pre2.length) (bvals (rowL d n ++ pre2))) := ⟨hb3, hown'⟩
      clear hb3 hown' hg3 hgrow3 hnil3
      exact ⟨⟨u / 128, pre2, a3, c3, by omega, by go_num, HP.out, rfl, HB3.out.2, HB3.out.1⟩, by simp [intOf]; omega⟩
end Go.Proofs.Ytjnnecoikcmaeaa
