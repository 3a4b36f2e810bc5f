/-
  num: Get where there is none; the reference's Get.
-/
import Derived.Test.YtdncemecnbglaaaBytes4
namespace Go.Proofs.Ytdncemecnbglaaa
set_option linter.unusedVariables false
set_option linter.unusedSimpArgs false
open Go.RowKit

/-- What Get tells. -/
def gtB (n : Nat) (z : Int) : Bool := decide (1 ≤ z) && decide (z ≤ 8) && decide (z ≤ (n : Int))
def gtV (d : Nat → Nat) (n : Nat) (z : Int) : Int := if gtB n z then (getN d z.toNat : Int) else 0
set_option maxRecDepth 100000 in
set_option maxHeartbeats 400000 in
theorem Get_any (a : Option Addr) (n cap : Nat) (d : Nat → Nat) (z : Int) (w : World) (hs : Src w a n d) (hnc : n ≤ cap) (hm : n ≤ 9223372036854775807) :
    Calls Try.prog 28 #[.slice a n cap, .int .i64 z] w fun e w' => e = .returned (.tuple #[.int .u64 (gtV d n z), .bool (gtB n z)]) ∧ w' = w := by
  by_cases h1 : 1 ≤ z
  · by_cases h8 : z ≤ 8
    · by_cases hn : z ≤ (n : Int)
      · obtain ⟨s, hz⟩ : ∃ s : Nat, z = s := ⟨z.toNat, by omega⟩
        subst hz
        have e : gtB n (s : Int) = true := by simp [gtB]; omega
        have e2 : gtV d n (s : Int) = (getN d s : Int) := by simp [gtV, e]
        rw [e, e2]
        exact Get_yes a n cap d s w hs (by omega) (by omega) (by omega) hnc hm
      · have e : gtB n z = false := by simp [gtB]; omega
        have e2 : gtV d n z = 0 := by simp [gtV, e]
        rw [e, e2]
        clear e e2 hs
        have hn' : (n : Int) < z := by omega
        go_enter Try.func28, Try.ntmps28
        go_wp2
        go_ret2
        exact ⟨rfl, rfl⟩
    · have e : gtB n z = false := by simp [gtB]; omega
      have e2 : gtV d n z = 0 := by simp [gtV, e]
      rw [e, e2]
      clear e e2 hs
      have h8' : (8 : Int) < z := by omega
      go_enter Try.func28, Try.ntmps28
      go_wp2
      go_ret2
      exact ⟨rfl, rfl⟩
  · have e : gtB n z = false := by simp [gtB]; omega
    have e2 : gtV d n z = 0 := by simp [gtV, e]
    rw [e, e2]
    clear e e2 hs
    have h1' : z < 1 := by omega
    go_enter Try.func28, Try.ntmps28
    go_wp2
    go_ret2
    exact ⟨rfl, rfl⟩
set_option maxRecDepth 100000 in
set_option maxHeartbeats 1000000 in
theorem refGet_any (a : Option Addr) (n cap : Nat) (d : Nat → Nat) (z : Int) (w : World) (hs : Src w a n d) (hm : n ≤ 9223372036854775807) :
    Calls Try.prog 53 #[.slice a n cap, .int .i64 z] w fun e w' => e = .returned (.tuple #[.int .u64 (gtV d n z), .bool (gtB n z)]) ∧ w' = w := by
  by_cases h1 : 1 ≤ z
  · by_cases h8 : z ≤ 8
    · by_cases hn : z ≤ (n : Int)
      · obtain ⟨s, hz⟩ : ∃ s : Nat, z = s := ⟨z.toNat, by omega⟩
        subst hz
        have e : gtB n (s : Int) = true := by simp [gtB]; omega
        have e2 : gtV d n (s : Int) = (getN d s : Int) := by simp [gtV, e]
        rw [e, e2]
        clear e e2
        rcases hs with h0 | ⟨b, off, rfl, hr⟩
        · omega
        · have hd : ∀ j, j < s → d j < 256 := fun j hj => (hr j (by omega)).2
          have HR : Hid (Row w b off n d) := hr
          clear hr
          have hsn : s ≤ n := by omega
          go_enter Try.func53, Try.ntmps53
          go_wp2
          go_loopw [6, 7] (fun x i wr => ∃ k : Nat, k ≤ s ∧ i = .int .i64 k ∧ x = .int .u64 (getN d k : Int) ∧ wr = w) (fun _ i _ => s - (intOf i).toNat)
          case atStart => exact ⟨0, by omega, rfl, rfl, rfl⟩
          case round =>
            obtain ⟨k, hk, rfl, rfl, rfl⟩ := hrel
            by_cases hlt : k < s
            · have hlt' : (k : Int) < (s : Int) := by omega
              have hkn : k < n := by omega
              have hkn' : (k : Int) < (n : Int) := by omega
              have hg := getN_lt d k (fun j hj => hd j (by omega))
              have hg7 : getN d k < 72057594037927936 := Nat.lt_of_lt_of_le hg (by
                have := Nat.pow_le_pow_right (n := 256) (by decide) (show k ≤ 7 by omega)
                simpa using this)
              have hdk := hd k hlt
              have hc := (HR.out k (by omega)).1
              have HG : Hid (getN d (k + 1) = getN d k * 256 + d k) := rfl
              generalize getN d k = N at *
              clear hg
              go_wp2
              go_roundw
              case rel => exact ⟨k + 1, by omega, by go_num, vint (by have := HG.out; omega), by first | rfl | trivial⟩
              case measure => simp [intOf]; omega
            · obtain rfl : k = s := by omega
              go_wp2
              go_ret2
              exact ⟨rfl, by first | rfl | trivial⟩
      · have e : gtB n z = false := by simp [gtB]; omega
        have e2 : gtV d n z = 0 := by simp [gtV, e]
        rw [e, e2]
        clear e e2 hs
        have hn' : (n : Int) < z := by omega
        go_enter Try.func53, Try.ntmps53
        go_wp2
        go_ret2
        exact ⟨rfl, rfl⟩
    · have e : gtB n z = false := by simp [gtB]; omega
      have e2 : gtV d n z = 0 := by simp [gtV, e]
      rw [e, e2]
      clear e e2 hs
      have h8' : (8 : Int) < z := by omega
      go_enter Try.func53, Try.ntmps53
      go_wp2
      go_ret2
      exact ⟨rfl, rfl⟩
  · have e : gtB n z = false := by simp [gtB]; omega
    have e2 : gtV d n z = 0 := by simp [gtV, e]
    rw [e, e2]
    clear e e2 hs
    have h1' : z < 1 := by omega
    go_enter Try.func53, Try.ntmps53
    go_wp2
    go_ret2
    exact ⟨rfl, rfl⟩
end Go.Proofs.Ytdncemecnbglaaa
