/-
  Crc and Sum of rows that differ: plain.
-/
import Derived.Test.YtdncemecnbglaaaMem
namespace Go.Proofs.Ytdncemecnbglaaa
set_option linter.unusedVariables false

theorem xor_back (a b : Nat) : a ^^^ b ^^^ b = a := by rw [Nat.xor_assoc, Nat.xor_self, Nat.xor_zero]
theorem xor_left_eq {a b c : Nat} (h : a ^^^ c = b ^^^ c) : a = b := by rw [← xor_back a c, h, xor_back]
theorem xor_right_eq {a b c : Nat} (h : c ^^^ a = c ^^^ b) : a = b := xor_left_eq (c := c) (by rw [Nat.xor_comm a, Nat.xor_comm b, h])
theorem xor_zero_eq {a b : Nat} (h : a ^^^ b = 0) : a = b := xor_left_eq (c := b) (by rw [h, Nat.xor_self])
theorem xor_mod2 (u v : Nat) : (u ^^^ v) % 2 = (u % 2) ^^^ (v % 2) := Nat.xor_mod_two_pow (n := 1)
theorem xor_half (u v : Nat) : (u ^^^ v) / 2 = (u / 2) ^^^ (v / 2) := Nat.xor_div_two_pow (n := 1)
theorem crcBit_xor (u v : Nat) : crcBit (u ^^^ v) = crcBit u ^^^ crcBit v := by
  have hm := xor_mod2 u v
  have hh := xor_half u v
  by_cases hu : u % 2 = 1
  · by_cases hv : v % 2 = 1
    · rw [hu, hv] at hm
      rw [crcBit_even (by rw [hm]; decide), crcBit_odd hu, crcBit_odd hv, hh]
      rw [Nat.xor_assoc, Nat.xor_comm 3988292384, Nat.xor_assoc, Nat.xor_self, Nat.xor_zero]
    · rw [hu, show v % 2 = 0 by omega] at hm
      rw [crcBit_odd (by rw [hm]; rfl), crcBit_odd hu, crcBit_even hv, hh]
      rw [Nat.xor_assoc, Nat.xor_comm (v / 2), ← Nat.xor_assoc]
  · by_cases hv : v % 2 = 1
    · rw [hv, show u % 2 = 0 by omega] at hm
      rw [crcBit_odd (by rw [hm]; rfl), crcBit_even hu, crcBit_odd hv, hh, Nat.xor_assoc]
    · rw [show v % 2 = 0 by omega, show u % 2 = 0 by omega] at hm
      rw [crcBit_even (by rw [hm]; decide), crcBit_even hu, crcBit_even hv, hh]
theorem crcBits_xor (m u v : Nat) : crcBits m (u ^^^ v) = crcBits m u ^^^ crcBits m v := by
  induction m with
  | zero => rfl
  | succ m ih => show crcBit (crcBits m (u ^^^ v)) = crcBit _ ^^^ crcBit _; rw [ih, crcBit_xor]
theorem turn_high {x : Nat} (h : x < 2147483648) : 2147483648 ≤ x ^^^ 3988292384 := by
  have h1 : (x ^^^ 3988292384) / 2 ^ 31 = (x / 2 ^ 31) ^^^ (3988292384 / 2 ^ 31) := Nat.xor_div_two_pow
  rw [show x / 2 ^ 31 = 0 from Nat.div_eq_of_lt h, Nat.zero_xor] at h1
  have h2 : 3988292384 / 2 ^ 31 = 1 := by decide
  rw [h2] at h1
  omega
theorem crcBit_low {z : Nat} (hz : z < 4294967296) (h : crcBit z < 2147483648) : z = 2 * crcBit z := by
  by_cases ho : z % 2 = 1
  · rw [crcBit_odd ho] at h
    have := turn_high (x := z / 2) (by omega)
    omega
  · rw [crcBit_even ho]; omega
theorem crcBits_low {z : Nat} (hz : z < 4294967296) : ∀ m, m ≤ 8 → crcBits m z < 2 ^ (32 - m) → z = 2 ^ m * crcBits m z
  | 0, _, _ => by show z = 1 * z; omega
  | m + 1, hm, h => by
    have hu := crcBits_lt m hz
    have e1 : 2 ^ (32 - m) = 2 * 2 ^ (32 - (m + 1)) := by rw [show 32 - m = (32 - (m + 1)) + 1 by omega, Nat.pow_succ, Nat.mul_comm]
    have e2 : 2 ^ (32 - (m + 1)) ≤ 2 ^ 31 := Nat.pow_le_pow_right (by decide) (by omega)
    have h' : crcBit (crcBits m z) < 2 ^ (32 - (m + 1)) := h
    have h1 := crcBit_low hu (Nat.lt_of_lt_of_le h' e2)
    have h2 := crcBits_low hz m (by omega) (by omega)
    rw [h1] at h2
    show z = 2 ^ (m + 1) * crcBit (crcBits m z)
    rw [Nat.pow_succ, Nat.mul_assoc]
    exact h2
theorem crc8_low {z : Nat} (hz : z < 4294967296) (h : crcBits 8 z < 16777216) : z = 256 * crcBits 8 z := crcBits_low hz 8 (by decide) h
theorem crc8_inj {u v : Nat} (hu : u < 4294967296) (hv : v < 4294967296) (h : crcBits 8 u = crcBits 8 v) : u = v := by
  have h1 : crcBits 8 (u ^^^ v) = 0 := by rw [crcBits_xor, h, Nat.xor_self]
  have h2 := crc8_low (xor_lt32 hu hv) (by rw [h1]; decide)
  rw [h1] at h2
  exact xor_zero_eq (h2.trans rfl)
theorem crcRow_same {d f : Nat → Nat} : ∀ k, (∀ j, j < k → d j = f j) → crcRow d k = crcRow f k
  | 0, _ => rfl
  | k + 1, h => by
    show crcBits 8 (crcRow d k ^^^ d k) = crcBits 8 (crcRow f k ^^^ f k)
    rw [crcRow_same k (fun j hj => h j (by omega)), h k (by omega)]
/-- Behind a place from which on the bytes are the same, the sums tell as they do there. -/
theorem crcRow_back {d f : Nat → Nat} (p : Nat) : ∀ n, p ≤ n → (∀ j, j < n → d j < 256 ∧ f j < 256) → (∀ j, p ≤ j → j < n → d j = f j) → crcRow d n = crcRow f n → crcRow d p = crcRow f p
  | 0, hp, _, _, h => by rw [show p = 0 by omega]; exact h
  | n + 1, hp, hb, hs, h => by
    by_cases e : p = n + 1
    · rw [e]; exact h
    · have h1 : crcBits 8 (crcRow d n ^^^ d n) = crcBits 8 (crcRow f n ^^^ f n) := h
      have hd := crcRow_lt d n (fun j hj => (hb j (by omega)).1)
      have hf := crcRow_lt f n (fun j hj => (hb j (by omega)).2)
      have h2 := crc8_inj (xor_lt32 hd (by have := (hb n (by omega)).1; omega)) (xor_lt32 hf (by have := (hb n (by omega)).2; omega)) h1
      rw [hs n (by omega) (by omega)] at h2
      exact crcRow_back p n (by omega) (fun j hj => hb j (by omega)) (fun j h1 h2 => hs j h1 (by omega)) (xor_left_eq h2)
/-- One byte is another one. -/
theorem crc_tells_one {d f : Nat → Nat} {p n : Nat} (hp : p < n) (hb : ∀ j, j < n → d j < 256 ∧ f j < 256) (hs : ∀ j, j < n → j ≠ p → d j = f j) (hne : d p ≠ f p) : crcRow d n ≠ crcRow f n := fun h => by
  have h1 : crcBits 8 (crcRow d p ^^^ d p) = crcBits 8 (crcRow f p ^^^ f p) := crcRow_back (p + 1) n (by omega) hb (fun j h1 h2 => hs j h2 (by omega)) h
  have hd := crcRow_lt d p (fun j hj => (hb j (by omega)).1)
  have hf := crcRow_lt f p (fun j hj => (hb j (by omega)).2)
  have h2 := crc8_inj (xor_lt32 hd (by have := (hb p (by omega)).1; omega)) (xor_lt32 hf (by have := (hb p (by omega)).2; omega)) h1
  rw [crcRow_same p (fun j hj => hs j (by omega) (by omega))] at h2
  exact hne (xor_right_eq h2)
theorem xor_move {a b c e : Nat} (h : a ^^^ b = c ^^^ e) : a ^^^ c = b ^^^ e := by
  have h1 : a = c ^^^ e ^^^ b := by rw [← h, xor_back]
  rw [h1, Nat.xor_comm (c ^^^ e ^^^ b) c, ← Nat.xor_assoc, ← Nat.xor_assoc, Nat.xor_self, Nat.zero_xor, Nat.xor_comm]
/-- Four bytes in a row, of which one at least is another one. -/
theorem crc_tells_four {d f : Nat → Nat} {p n : Nat} (hp : p + 4 ≤ n) (hb : ∀ j, j < n → d j < 256 ∧ f j < 256) (hs : ∀ j, j < n → j < p ∨ p + 4 ≤ j → d j = f j) (h : crcRow d n = crcRow f n) :
    d p = f p ∧ d (p + 1) = f (p + 1) ∧ d (p + 2) = f (p + 2) ∧ d (p + 3) = f (p + 3) := by
  have h4 := crcRow_back (p + 4) n hp hb (fun j h1 h2 => hs j h2 (.inr h1)) h
  have h0 := crcRow_same (d := d) (f := f) p (fun j hj => hs j (by omega) (.inl hj))
  have step : ∀ q, q < n → crcRow d (q + 1) ^^^ crcRow f (q + 1) = crcBits 8 ((crcRow d q ^^^ crcRow f q) ^^^ (d q ^^^ f q)) := fun q hq => by
    have e : (crcRow d q ^^^ crcRow f q) ^^^ (d q ^^^ f q) = (crcRow d q ^^^ d q) ^^^ (crcRow f q ^^^ f q) := by
      rw [Nat.xor_assoc, ← Nat.xor_assoc (crcRow f q), Nat.xor_comm (crcRow f q) (d q), Nat.xor_assoc, ← Nat.xor_assoc]
    rw [e, crcBits_xor]; rfl
  have lt : ∀ q, q ≤ n → crcRow d q ^^^ crcRow f q < 4294967296 := fun q hq => xor_lt32 (crcRow_lt d q fun j hj => (hb j (by omega)).1) (crcRow_lt f q fun j hj => (hb j (by omega)).2)
  have le : ∀ q, q < n → d q ^^^ f q < 256 := fun q hq => Nat.xor_lt_two_pow (n := 8) (hb q hq).1 (hb q hq).2
  have s0 := step p (by omega)
  have s1 := step (p + 1) (by omega)
  have s2 := step (p + 2) (by omega)
  have s3 := step (p + 3) (by omega)
  have l0 := le p (by omega)
  have l1 := le (p + 1) (by omega)
  have l2 := le (p + 2) (by omega)
  have l3 := le (p + 3) (by omega)
  have t1 := lt (p + 1) (by omega)
  have t2 := lt (p + 2) (by omega)
  have t3 := lt (p + 3) (by omega)
  rw [h0, Nat.xor_self, Nat.zero_xor] at s0
  rw [h4, Nat.xor_self] at s3
  show d p = f p ∧ _
  suffices H : d p ^^^ f p = 0 ∧ d (p + 1) ^^^ f (p + 1) = 0 ∧ d (p + 2) ^^^ f (p + 2) = 0 ∧ d (p + 3) ^^^ f (p + 3) = 0 from ⟨xor_zero_eq H.1, xor_zero_eq H.2.1, xor_zero_eq H.2.2.1, xor_zero_eq H.2.2.2⟩
  generalize d p ^^^ f p = e0 at *
  generalize d (p + 1) ^^^ f (p + 1) = e1 at *
  generalize d (p + 2) ^^^ f (p + 2) = e2 at *
  generalize d (p + 3) ^^^ f (p + 3) = e3 at *
  generalize crcRow d (p + 1) ^^^ crcRow f (p + 1) = x1 at *
  generalize crcRow d (p + 1 + 1) ^^^ crcRow f (p + 1 + 1) = x2 at *
  generalize crcRow d (p + 2 + 1) ^^^ crcRow f (p + 2 + 1) = x3 at *
  clear step lt le h0 h4 h hb hs
  have q3 : x3 = e3 := xor_zero_eq (by
    have := crc8_low (z := x3 ^^^ e3) (xor_lt32 t3 (by omega)) (by rw [← s3]; decide)
    rw [← s3] at this; exact this)
  have q2 : x2 ^^^ e2 = 256 * x3 := by
    have := crc8_low (z := x2 ^^^ e2) (xor_lt32 t2 (by omega)) (by rw [← s2]; omega)
    rw [← s2] at this; exact this
  have b2 : x2 < 65536 := by
    rw [← xor_back x2 e2, q2]
    exact Nat.xor_lt_two_pow (n := 16) (by omega) (by omega)
  have q1 : x1 ^^^ e1 = 256 * x2 := by
    have := crc8_low (z := x1 ^^^ e1) (xor_lt32 t1 (by omega)) (by rw [← s1]; omega)
    rw [← s1] at this; exact this
  have b1 : x1 < 16777216 := by
    rw [← xor_back x1 e1, q1]
    exact Nat.xor_lt_two_pow (n := 24) (by omega) (by omega)
  have q0 : e0 = 256 * x1 := by
    have := crc8_low (z := e0) (by omega) (by rw [← s0]; omega)
    rw [← s0] at this; exact this
  have z1 : x1 = 0 := by omega
  rw [z1, Nat.zero_xor] at q1
  have z2 : x2 = 0 := by omega
  rw [z2, Nat.zero_xor] at q2
  omega
theorem crcEnd_inj {x y : Nat} (h : crcEnd x = crcEnd y) : x = y := xor_right_eq h

theorem sumRow_same {d f : Nat → Nat} (s : Nat) : ∀ k, (∀ j, j < k → d j = f j) → sumRow s d k = sumRow s f k
  | 0, _ => rfl
  | k + 1, h => by
    show (sumRow s d k + d k) % 256 = (sumRow s f k + f k) % 256
    rw [sumRow_same s k (fun j hj => h j (by omega)), h k (by omega)]
theorem sumRow_back {d f : Nat → Nat} {s : Nat} (h0 : s < 256) (p : Nat) : ∀ n, p ≤ n → (∀ j, p ≤ j → j < n → d j = f j) → sumRow s d n = sumRow s f n → sumRow s d p = sumRow s f p
  | 0, hp, _, h => by rw [show p = 0 by omega]; exact h
  | n + 1, hp, hs, h => by
    by_cases e : p = n + 1
    · rw [e]; exact h
    · have h1 : (sumRow s d n + d n) % 256 = (sumRow s f n + f n) % 256 := h
      have hd := sumRow_lt h0 d n
      have hf := sumRow_lt h0 f n
      rw [hs n (by omega) (by omega)] at h1
      exact sumRow_back h0 p n (by omega) (fun j h1 h2 => hs j h1 (by omega)) (by omega)
/-- One byte is another one: the sum. -/
theorem sum_tells_one {d f : Nat → Nat} {s p n : Nat} (h0 : s < 256) (hp : p < n) (hb : ∀ j, j < n → d j < 256 ∧ f j < 256) (hs : ∀ j, j < n → j ≠ p → d j = f j) (hne : d p ≠ f p) : sumRow s d n ≠ sumRow s f n := fun h => by
  have h1 : (sumRow s d p + d p) % 256 = (sumRow s f p + f p) % 256 := sumRow_back h0 (p + 1) n (by omega) (fun j h1 h2 => hs j h2 (by omega)) h
  rw [sumRow_same s p (fun j hj => hs j (by omega) (by omega))] at h1
  have hd := (hb p hp).1
  have hf := (hb p hp).2
  have hx := sumRow_lt h0 f p
  omega
end Go.Proofs.Ytdncemecnbglaaa
