/-
  Functions that read bytes in memory: Crc, Sum, GetVar.
-/
import Derived.Test.YtfgfjkchcnpakaaDoorProg
import Derived.Test.YtfgfjkchcnpakaaDoorPlain
import Derived.WalkLawsBesides
import Derived.Laws.BitsAllLaws
namespace Go.Proofs.YtfgfjkchcnpakaaDoor
set_option linter.unusedVariables false
open Go.RowKit

/-- Bytes that lie in a row. -/
def Row (w : World) (b off n : Nat) (d : Nat → Nat) : Prop := ∀ j, j < n → w.cell? ⟨b, off + j, none⟩ = some (.int .u8 (d j : Int)) ∧ d j < 256

/-- The sum of bytes, modulo 256: behind a sum s, of so many of a row; of rows. -/
def sumRow (s : Nat) (d : Nat → Nat) : Nat → Nat
  | 0 => s
  | k + 1 => (sumRow s d k + d k) % 256
theorem sumRow_lt {s : Nat} (h : s < 256) (d : Nat → Nat) (k : Nat) : sumRow s d k < 256 := by
  cases k with
  | zero => exact h
  | succ k => exact Nat.mod_lt _ (by decide)

/-- Lists of bytes in memory: the i-th slice leads to a row. -/
structure Rows2 (w : World) (b off n : Nat) (len : Nat → Nat) (d : Nat → Nat → Nat) : Prop where
  at_ : ∀ i, i < n → ∃ (a : Option Addr) (c : Nat), w.cell? ⟨b, off + i, none⟩ = some (.slice a (len i) c) ∧ len i ≤ maxLen ∧ (len i = 0 ∨ ∃ bb oo, a = some ⟨bb, oo, none⟩ ∧ Row w bb oo (len i) (d i))
def sumRows (len : Nat → Nat) (d : Nat → Nat → Nat) : Nat → Nat
  | 0 => 0
  | i + 1 => sumRow (sumRows len d i) (d i) (len i)
theorem sumRows_lt (len : Nat → Nat) (d : Nat → Nat → Nat) (i : Nat) : sumRows len d i < 256 := by
  induction i with
  | zero => show 0 < 256; decide
  | succ i ih => exact sumRow_lt ih _ _

set_option maxRecDepth 100000 in
set_option maxHeartbeats 400000 in
theorem Sum_any (b off n cap : Nat) (len : Nat → Nat) (d : Nat → Nat → Nat) (w : World) (hn : n ≤ maxLen) (hr : Rows2 w b off n len d) :
    Calls Tryd.prog 33 #[.slice (some ⟨b, off, none⟩) n cap] w fun e w' => e = .returned (.int .i64 (sumRows len d n : Int)) ∧ w' = w := by
  unfold maxLen at hn
  have HR : Hid (Rows2 w b off n len d) := hr
  clear hr
  go_enter Tryd.func33, Tryd.ntmps33
  go_wp2
  go_loop [3, 5, 7, 10] (fun s _ _ i => ∃ k : Nat, k ≤ n ∧ i = .int .i64 k ∧ s = .int .u8 (sumRows len d k : Int)) (fun _ _ _ i => n - (intOf i).toNat)
  case atStart => exact ⟨0, Nat.zero_le _, rfl, rfl⟩
  case round =>
    obtain ⟨k, hk, rfl, rfl⟩ := hrel
    by_cases hlt : k < n
    · obtain ⟨a, c, hc, hl, hrow⟩ := HR.out.at_ k hlt
      unfold maxLen at hl
      have HRow : Hid (len k = 0 ∨ ∃ bb oo, a = some ⟨bb, oo, none⟩ ∧ Row w bb oo (len k) (d k)) := hrow
      clear hrow
      have hlt' : (k : Int) < (n : Int) := by omega
      have HK : Hid (sumRows len d (k + 1) = sumRow (sumRows len d k) (d k) (len k)) := rfl
      have hs0 := sumRows_lt len d k
      go_wp2
      clear hc
      generalize sumRows len d k = s0 at *
      go_loop [3, 7, 16] (fun s _ i => ∃ m : Nat, m ≤ len k ∧ i = .int .i64 m ∧ s = .int .u8 (sumRow s0 (d k) m : Int)) (fun _ _ i => len k - (intOf i).toNat)
      case atStart => exact ⟨0, Nat.zero_le _, rfl, rfl⟩
      case round =>
        obtain ⟨m, hm, rfl, rfl⟩ := hrel
        by_cases hmm : m < len k
        · rcases HRow.out with h0 | ⟨bb, oo, ea, hrw⟩
          · omega
          · obtain ⟨hcm, hdm⟩ := hrw m hmm
            have hm' : (m : Int) < (len k : Int) := by omega
            have HZ : Hid (sumRow s0 (d k) (m + 1) = (sumRow s0 (d k) m + d k m) % 256) := rfl
            subst ea
            go_wp2
            go_round
            case rel => exact ⟨m + 1, by omega, by go_num, by rw [HZ.out]; rfl⟩
            case measure => simp [intOf]; omega
        · have em : m = len k := by omega
          subst em
          go_wp2
          go_round
          case rel => exact ⟨k + 1, by omega, by go_num, by rw [HK.out]⟩
          case measure => simp [intOf]; omega
    · have ek : k = n := by omega
      subst ek
      have hs0 := sumRows_lt len d k
      go_wp2
      go_ret
      exact ⟨rfl, rfl⟩

end Go.Proofs.YtfgfjkchcnpakaaDoor
