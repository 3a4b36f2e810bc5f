/-
  The reference's Crc and Sum.
-/
import Derived.Test.YtdncemecnbglaaaOwn
import Derived.Test.YtdncemecnbglaaaTells
namespace Go.Proofs.Ytdncemecnbglaaa
set_option linter.unusedVariables false
open Go.RowKit

theorem crc_step {t b : Nat} (k : Nat) : crcBit (t ^^^ b / 2 ^ k) = (if t % 2 = b / 2 ^ k % 2 then t / 2 else t / 2 ^^^ 3988292384) ^^^ b / 2 ^ (k + 1) := by
  have hm := xor_mod2 t (b / 2 ^ k)
  have hh := xor_half t (b / 2 ^ k)
  have hd : b / 2 ^ k / 2 = b / 2 ^ (k + 1) := by rw [Nat.div_div_eq_div_mul, Nat.pow_succ]
  rw [hd] at hh
  rcases Nat.mod_two_eq_zero_or_one t with h1 | h1 <;> rcases Nat.mod_two_eq_zero_or_one (b / 2 ^ k) with h2 | h2 <;> rw [h1, h2] at hm
  · rw [crcBit_even (by rw [hm]; decide), if_pos (by rw [h1, h2]), hh]
  · rw [crcBit_odd (by rw [hm]; rfl), if_neg (by rw [h1, h2]; decide), hh, Nat.xor_assoc, Nat.xor_comm (b / _), ← Nat.xor_assoc]
  · rw [crcBit_odd (by rw [hm]; rfl), if_neg (by rw [h1, h2]; decide), hh, Nat.xor_assoc, Nat.xor_comm (b / _), ← Nat.xor_assoc]
  · rw [crcBit_even (by rw [hm]; decide), if_pos (by rw [h1, h2]), hh]
/-- The reference's state behind m bits of a byte. -/
def refBits (s b : Nat) : Nat → Nat
  | 0 => s
  | m + 1 => if refBits s b m % 2 = b / 2 ^ m % 2 then refBits s b m / 2 else refBits s b m / 2 ^^^ 3988292384
theorem refBits_eq (s b m : Nat) : crcBits m (s ^^^ b) = refBits s b m ^^^ b / 2 ^ m := by
  induction m with
  | zero => show s ^^^ b = s ^^^ b / 1; rw [Nat.div_one]
  | succ m ih => show crcBit (crcBits m (s ^^^ b)) = _; rw [ih, crc_step]; rfl
theorem refBits_8 (s b : Nat) (hb : b < 256) : refBits s b 8 = crcBits 8 (s ^^^ b) := by
  rw [refBits_eq, Nat.div_eq_of_lt (by omega : b < 2 ^ 8), Nat.xor_zero]
theorem refBits_lt {s : Nat} (b : Nat) (hs : s < 4294967296) : ∀ m, refBits s b m < 4294967296
  | 0 => hs
  | m + 1 => by
    have h := refBits_lt b hs m
    unfold refBits
    split
    · omega
    · exact xor_lt32 (by omega) (by decide)

theorem bit_cmp (b m z : Nat) : (((b : Int) / 2 ^ m).tmod 2 != (z : Int) % 2) = !decide (z % 2 = b / 2 ^ m % 2) := by
  have h : ((b : Int) / 2 ^ m).tmod 2 = ((b / 2 ^ m % 2 : Nat) : Int) := by
    rw [show (b : Int) / 2 ^ m = ((b / 2 ^ m : Nat) : Int) by simp]; rfl
  rw [h, show (z : Int) % 2 = ((z % 2 : Nat) : Int) by simp]
  by_cases e : z % 2 = b / 2 ^ m % 2
  · rw [e]; simp
  · rw [decide_eq_false e]
    show (_ != _) = true
    rw [bne_iff_ne]
    omega

set_option maxRecDepth 100000 in
set_option maxHeartbeats 400000 in
theorem refCrc_any (a : Option Addr) (n cap : Nat) (d : Nat → Nat) (w : World) (hn : n ≤ 140737488351232) (hs : Src w a n d) :
    Calls Try.prog 54 #[.slice a n cap] w fun e w' => e = .returned (.int .u32 (crcEnd (crcRow d n) : Int)) ∧ w' = w := by
  have HS : Hid (Src w a n d) := hs
  clear hs
  go_enter Try.func54, Try.ntmps54
  go_wp2
  go_loop [3, 4, 5, 6, 7] (fun s i _ _ _ => ∃ k : Nat, k ≤ n ∧ i = .int .i64 k ∧ s = .int .u32 (crcRow d k : Int)) (fun _ i _ _ _ => n - (intOf i).toNat)
  case atStart => exact ⟨0, Nat.zero_le _, rfl, rfl⟩
  case round =>
    obtain ⟨k, hk, rfl, rfl⟩ := hrel
    by_cases hlt : k < n
    · rcases HS.out with h0 | ⟨b, off, ea, hr⟩
      · omega
      · obtain ⟨hc, hd⟩ := hr k hlt
        subst ea
        have hlt' : (k : Int) < (n : Int) := by omega
        have hx := crcRow_lt d k (fun j hj => (hr j (by omega)).2)
        have HK : Hid (crcRow d (k + 1) = refBits (crcRow d k) (d k) 8) := (refBits_8 _ _ hd).symm
        clear hr
        go_wp2
        generalize crcRow d k = s0 at *
        go_loop [3, 5, 6, 7] (fun s i _ _ => ∃ m : Nat, m ≤ 8 ∧ i = .int .i64 m ∧ s = .int .u32 (refBits s0 (d k) m : Int)) (fun _ i _ _ => 8 - (intOf i).toNat)
        case atStart => exact ⟨0, Nat.zero_le _, rfl, rfl⟩
        case round =>
          obtain ⟨m, hm, rfl, rfl⟩ := hrel
          by_cases hm8 : m < 8
          · have hm8' : (m : Int) < 8 := by omega
            have hz := refBits_lt (d k) hx m
            have HZ : Hid (refBits s0 (d k) (m + 1) = if refBits s0 (d k) m % 2 = d k / 2 ^ m % 2 then refBits s0 (d k) m / 2 else refBits s0 (d k) m / 2 ^^^ 3988292384) := rfl
            generalize refBits s0 (d k) m = z at *
            have hx2 : bits .xor .u32 ((z : Int) / 2) 3988292384 = ((z / 2 ^^^ 3988292384 : Nat) : Int) := by
              have := u32_xor_nat (z / 2) 3988292384 (by omega) (by decide)
              rw [← this]; rfl
            have hcmp := bit_cmp (d k) m z
            by_cases hq : z % 2 = d k / 2 ^ m % 2
            · rw [decide_eq_true hq, Bool.not_true] at hcmp
              rw [if_pos hq] at HZ
              clear hq
              go_wp2
              go_round
              case rel => exact ⟨m + 1, by omega, by go_num, by rw [HZ.out]; rfl⟩
              case measure => simp [intOf]; omega
            · rw [decide_eq_false hq, Bool.not_false] at hcmp
              rw [if_neg hq] at HZ
              clear hq
              go_wp2
              go_round
              case rel => exact ⟨m + 1, by omega, by go_num, by rw [HZ.out]⟩
              case measure => simp [intOf]; omega
          · obtain rfl : m = 8 := by omega
            go_wp2
            go_round
            case rel => exact ⟨k + 1, by omega, by go_num, by rw [HK.out]⟩
            case measure => simp [intOf]; omega
    · obtain rfl : k = n := by omega
      have hx : Hid (crcRow d k < 4294967296) := crcRow_lt d k (fun j hj => HS.out.lt j hj)
      have hE : bits .xor .u32 (crcRow d k : Int) 4294967295 = (crcEnd (crcRow d k) : Int) := by
        rw [show crcEnd (crcRow d k) = crcRow d k ^^^ 4294967295 from Nat.xor_comm _ _]
        exact u32_xor_nat _ 4294967295 hx.out (by decide)
      go_wp2
      go_ret
      exact ⟨rfl, rfl⟩

/-- Lists of bytes that came in. -/
def Src2 (w : World) (a : Option Addr) (n : Nat) (len : Nat → Nat) (d : Nat → Nat → Nat) : Prop := n = 0 ∨ ∃ b off, a = some ⟨b, off, none⟩ ∧ ∀ i, i < n → ∃ (ai : Option Addr) (c : Nat), w.cell? ⟨b, off + i, none⟩ = some (.slice ai (len i) c) ∧ len i ≤ 140737488351232 ∧ Src w ai (len i) (d i)

end Go.Proofs.Ytdncemecnbglaaa
