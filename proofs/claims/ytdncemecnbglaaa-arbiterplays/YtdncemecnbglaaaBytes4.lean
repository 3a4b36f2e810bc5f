/-
  num: Get, GetVar.
-/
import Derived.Test.YtdncemecnbglaaaBytes
import Derived.Laws.Bits64b
namespace Go.Proofs.Ytdncemecnbglaaa
set_option linter.unusedVariables false
open Go.RowKit

theorem or_shift {a c k : Nat} (hc : c < 2 ^ k) : a * 2 ^ k ||| c = a * 2 ^ k + c := by
  have := Nat.two_pow_add_eq_or_of_lt hc a
  rw [Nat.mul_comm] at this
  exact this.symm
theorem or_low {u x k : Nat} (hu : u < 2 ^ k) : u ||| x * 2 ^ k = u + x * 2 ^ k := by
  rw [Nat.or_comm, or_shift hu, Nat.add_comm]
set_option maxRecDepth 100000 in
set_option maxHeartbeats 1000000 in
theorem Get_yes (a : Option Addr) (n cap : Nat) (d : Nat → Nat) (s : Nat) (w : World) (hs : Src w a n d) (h1 : 1 ≤ s) (h8 : s ≤ 8) (hn : s ≤ n) (hnc : n ≤ cap) (hm : n ≤ 9223372036854775807) :
    Calls Try.prog 28 #[.slice a n cap, .int .i64 (s : Int)] w fun e w' => e = .returned (.tuple #[.int .u64 (getN d s : Int), .bool true]) ∧ w' = w := by
  rcases hs with h0 | ⟨b, off, rfl, hr⟩
  · omega
  · have f1 : (1 : Int) ≤ s := by omega
    have f2 : (s : Int) ≤ 8 := by omega
    have f3 : (s : Int) ≤ (n : Int) := by omega
    have f4 : s ≤ cap := by omega
    have f5 : (s : Int) ≤ (cap : Int) := by omega
    have hd : ∀ j, j < s → d j < 256 := fun j hj => (hr j (by omega)).2
    have HR : Hid (Row w b off n d) := hr
    clear hr
    go_enter Try.func28, Try.ntmps28
    go_wp2
    go_loopw [6, 25] (fun x i wr => ∃ k : Nat, k ≤ s ∧ i = .int .i64 k ∧ x = .int .u64 (getN d k : Int) ∧ wr = w) (fun _ i _ => s - (intOf i).toNat)
    case atStart => exact ⟨0, by omega, rfl, rfl, rfl⟩
    case round =>
      obtain ⟨k, hk, rfl, rfl, rfl⟩ := hrel
      by_cases hlt : k < s
      · have hlt' : (k : Int) < (s : Int) := by omega
        have hg := getN_lt d k (fun j hj => hd j (by omega))
        have hg7 : getN d k < 72057594037927936 := Nat.lt_of_lt_of_le hg (by
          have := Nat.pow_le_pow_right (n := 256) (by decide) (show k ≤ 7 by omega)
          simpa using this)
        have hdk := hd k hlt
        have hc := (HR.out k (by omega)).1
        have hor := bits_or_u64_nat (getN d k * 256) (d k) (by omega) (by omega)
        rw [or_shift (k := 8) (show d k < 2 ^ 8 by omega)] at hor
        have HG : Hid (getN d (k + 1) = getN d k * 2 ^ 8 + d k) := rfl
        generalize getN d k = N at *
        have hor2 : bits .or .u64 ((N : Int) * 256) (d k : Int) = ((N * 2 ^ 8 + d k : Nat) : Int) := by
          rw [← hor]; simp
        clear hor hg
        go_wp2
        go_roundw
        case rel => exact ⟨k + 1, by omega, by go_num, vint (by have := HG.out; omega), by first | rfl | trivial⟩
        case measure => simp [intOf]; omega
      · obtain rfl : k = s := by omega
        go_wp2
        go_ret2
        exact ⟨rfl, by first | rfl | trivial⟩
theorem and_127 (c : Nat) (h : c < 256) : bits .and .u8 (c : Int) 127 = ((c % 128 : Nat) : Int) := by
  have := u8_and_nat c 127 h (by decide)
  have key : ∀ x, x < 256 → x &&& 127 = x % 128 := by decide +kernel
  rw [key c h] at this
  exact this
end Go.Proofs.Ytdncemecnbglaaa
