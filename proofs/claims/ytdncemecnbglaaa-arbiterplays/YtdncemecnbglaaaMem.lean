/-
  Functions that read bytes in memory: Crc, Sum, GetVar.
-/
import Derived.Test.YtdncemecnbglaaaProg
import Derived.Test.YtdncemecnbglaaaPlain
import Derived.WalkLawsBesides
import Derived.Laws.BitsAllLaws
namespace Go.Proofs.Ytdncemecnbglaaa
set_option linter.unusedVariables false
open Go.RowKit

/-- Bytes that lie in a row. -/
def Row (w : World) (b off n : Nat) (d : Nat → Nat) : Prop := ∀ j, j < n → w.cell? ⟨b, off + j, none⟩ = some (.int .u8 (d j : Int)) ∧ d j < 256

set_option maxRecDepth 100000 in
set_option maxHeartbeats 400000 in
theorem Crc_any (b off n cap : Nat) (d : Nat → Nat) (w : World) (hn : n ≤ maxLen) (hr : Row w b off n d) :
    Calls Try.prog 24 #[.slice (some ⟨b, off, none⟩) n cap] w fun e w' => e = .returned (.int .u32 (crcEnd (crcRow d n) : Int)) ∧ w' = w := by
  unfold maxLen at hn
  have HR : Hid (Row w b off n d) := hr
  clear hr
  go_enter Try.func24, Try.ntmps24
  go_wp2
  go_loop [3, 5, 6, 9] (fun c _ _ i => ∃ k : Nat, k ≤ n ∧ i = .int .i64 k ∧ c = .int .u32 (crcRow d k : Int)) (fun _ _ _ i => n - (intOf i).toNat)
  case atStart => exact ⟨0, Nat.zero_le _, rfl, rfl⟩
  case round =>
    obtain ⟨k, hk, rfl, rfl⟩ := hrel
    by_cases hlt : k < n
    · obtain ⟨hc, hd⟩ := HR.out k hlt
      have hlt' : (k : Int) < (n : Int) := by omega
      have hx := crcRow_lt d k (fun j hj => (HR.out j (by omega)).2)
      have hxor : bits .xor .u32 (crcRow d k : Int) (d k : Int) = ((crcRow d k ^^^ d k : Nat) : Int) := u32_xor_nat _ _ hx (by omega)
      have hy : crcRow d k ^^^ d k < 4294967296 := xor_lt32 hx (by omega)
      have HK : Hid (crcRow d (k + 1) = crcBits 8 (crcRow d k ^^^ d k)) := rfl
      go_wp2
      clear hxor hc
      generalize crcRow d k ^^^ d k = y at *
      go_loop [3, 6, 17] (fun c _ i => ∃ m : Nat, m ≤ 8 ∧ i = .int .i64 m ∧ c = .int .u32 (crcBits m y : Int)) (fun _ _ i => 8 - (intOf i).toNat)
      case atStart => exact ⟨0, Nat.zero_le _, rfl, rfl⟩
      case round =>
        obtain ⟨m, hm, rfl, rfl⟩ := hrel
        by_cases hm8 : m < 8
        · have hz := crcBits_lt m hy
          have HZ : Hid (crcBits (m + 1) y = crcBit (crcBits m y)) := rfl
          generalize crcBits m y = z at *
          have hm8' : (m : Int) < 8 := by omega
          by_cases ho : z % 2 = 1
          · have HO : Hid (crcBits (m + 1) y = z / 2 ^^^ 3988292384) := HZ.out.trans (crcBit_odd ho)
            have ha : bits .and .u32 (z : Int) 1 = 1 := by
              have := u32_and_nat z 1 hz (by decide)
              rw [Nat.and_one_is_mod, ho] at this; exact this
            have hx2 : bits .xor .u32 ((z : Int) / 2) 3988292384 = ((z / 2 ^^^ 3988292384 : Nat) : Int) := by
              have := u32_xor_nat (z / 2) 3988292384 (by omega) (by decide)
              rw [← this]; rfl
            go_wp2
            go_round
            case rel => exact ⟨m + 1, by omega, by go_num, by rw [HO.out]⟩
            case measure => simp [intOf]; omega
          · have HO : Hid (crcBits (m + 1) y = z / 2) := HZ.out.trans (crcBit_even ho)
            have ha : bits .and .u32 (z : Int) 1 = 0 := by
              have := u32_and_nat z 1 hz (by decide)
              rw [Nat.and_one_is_mod, show z % 2 = 0 by omega] at this; exact this
            go_wp2
            go_round
            case rel => exact ⟨m + 1, by omega, by go_num, by rw [HO.out]; rfl⟩
            case measure => simp [intOf]; omega
        · have e8 : m = 8 := by omega
          subst e8
          go_wp2
          go_round
          case rel => exact ⟨k + 1, by omega, by go_num, by rw [HK.out]⟩
          case measure => simp [intOf]; omega
    · have ek : k = n := by omega
      subst ek
      have hx := crcRow_lt d k (fun j hj => (HR.out j (by omega)).2)
      have hE : bits .xor .u32 IntKind.u32.max (crcRow d k : Int) = (crcEnd (crcRow d k) : Int) := u32_xor_nat 4294967295 _ (by decide) hx
      go_wp2
      go_ret
      exact ⟨rfl, rfl⟩

/-- The sum of bytes, modulo 256: behind a sum s, of so many of a row; of rows. -/
def sumRow (s : Nat) (d : Nat → Nat) : Nat → Nat
  | 0 => s
  | k + 1 => (sumRow s d k + d k) % 256
theorem sumRow_lt {s : Nat} (h : s < 256) (d : Nat → Nat) (k : Nat) : sumRow s d k < 256 := by
  cases k with
  | zero => exact h
  | succ k => exact Nat.mod_lt _ (by decide)

/-- Lists of bytes in memory: the i-th slice leads to a row. -/
structure Rows2 (w : World) (b off n : Nat) (len : Nat → Nat) (d : Nat → Nat → Nat) : Prop where
  at_ : ∀ i, i < n → ∃ (a : Option Addr) (c : Nat), w.cell? ⟨b, off + i, none⟩ = some (.slice a (len i) c) ∧ len i ≤ maxLen ∧ (len i = 0 ∨ ∃ bb oo, a = some ⟨bb, oo, none⟩ ∧ Row w bb oo (len i) (d i))
def sumRows (len : Nat → Nat) (d : Nat → Nat → Nat) : Nat → Nat
  | 0 => 0
  | i + 1 => sumRow (sumRows len d i) (d i) (len i)
theorem sumRows_lt (len : Nat → Nat) (d : Nat → Nat → Nat) (i : Nat) : sumRows len d i < 256 := by
  induction i with
  | zero => show 0 < 256; decide
  | succ i ih => exact sumRow_lt ih _ _

end Go.Proofs.Ytdncemecnbglaaa
