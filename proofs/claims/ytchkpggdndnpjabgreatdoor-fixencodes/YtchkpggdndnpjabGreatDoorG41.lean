import Derived.Test.YtchkpggdndnpjabGreatDoorG40
import Derived.Test.YtchkpggdndnpjabGreatDoorG13
import Derived.Test.YtchkpggdndnpjabGreatDoorG26
import Derived.Test.YtchkpggdndnpjabGreatDoorG35
import Derived.Test.YtchkpggdndnpjabGreatDoorG23
import Derived.Test.YtchkpggdndnpjabGreatDoorG33
import Derived.Laws.AppendOwnNone

namespace Go.Proofs.YtchkpggdndnpjabGreatDoor
set_option linter.unusedVariables false
open Go.Shelf Go.RowKit Go.Sort Go.Lib




/-! The noughts at the end. -/
theorem dec5 (r : Nat) (h : r < 10000) : (decDigits (10000 + r)).tail = [UInt8.ofNat (48 + r / 1000), UInt8.ofNat (48 + r / 100 % 10), UInt8.ofNat (48 + r / 10 % 10), UInt8.ofNat (48 + r % 10)] := by
  have e1 : (10000 + r) / 10 = 1000 + r / 10 := by omega
  have e2 : (1000 + r / 10) / 10 = 100 + r / 100 := by omega
  have e3 : (100 + r / 100) / 10 = 10 + r / 1000 := by omega
  have e4 : (10 + r / 1000) / 10 = 1 := by omega
  have f1 : (10000 + r) % 10 = r % 10 := by omega
  have f2 : (1000 + r / 10) % 10 = r / 10 % 10 := by omega
  have f3 : (100 + r / 100) % 10 = r / 100 % 10 := by omega
  have f4 : (10 + r / 1000) % 10 = r / 1000 := by omega
  rw [decDigits, dif_neg (by omega), e1, f1, decDigits, dif_neg (by omega), e2, f2, decDigits, dif_neg (by omega), e3, f3, decDigits, dif_neg (by omega), e4, f4, decDigits_one (by decide)]
  rfl
theorem ofNat48 {k : Nat} (h : k < 10) (e : UInt8.ofNat (48 + k) = 48) : k = 0 := by
  have := congrArg UInt8.toNat e
  rw [UInt8.toNat_ofNat'] at this
  have e48 : (48 : UInt8).toNat = 48 := rfl
  rw [e48] at this
  omega
theorem dropW_nil (l : List UInt8) : l.dropWhile (· == 48) = [] ↔ ∀ x ∈ l, x = 48 := by
  induction l with
  | nil => simp
  | cons c l ih =>
    by_cases h : c = 48
    · subst h; simpa using ih
    · simp [h]
theorem trim_nil (l : List UInt8) : trimRightB l 48 = [] ↔ ∀ x ∈ l, x = 48 := by
  unfold trimRightB
  rw [List.reverse_eq_nil_iff, dropW_nil]
  simp
theorem trim0_nil (r : Int) (h0 : 0 ≤ r) (h1 : r < 10000) : (trim0 (decI (10000 + r))).data.toList = [] ↔ r = 0 := by
  obtain ⟨u, rfl⟩ : ∃ u : Nat, r = u := ⟨r.toNat, by omega⟩
  have e : (trim0 (decI (10000 + (u : Int)))).data.toList = trimRightB (decDigits (10000 + u)).tail 48 := by
    show (trimRightB (decDigits (10000 + (u : Int)).toNat).toArray.toList.tail 48).toArray.toList = _
    rw [show (10000 + (u : Int)).toNat = 10000 + u by omega]
  rw [e, trim_nil, dec5 u (by omega)]
  constructor
  · intro h
    have a := ofNat48 (k := u / 1000) (by omega) (h _ (by simp))
    have b := ofNat48 (k := u / 100 % 10) (by omega) (h _ (by simp))
    have c := ofNat48 (k := u / 10 % 10) (by omega) (h _ (by simp))
    have d := ofNat48 (k := u % 10) (by omega) (h _ (by simp))
    omega
  · intro h
    have : u = 0 := by omega
    subst this
    simp

/-- Between two rounds: the first j bytes of what stood behind the first one are left, the others were noughts. -/
def TInv (D t : ByteArray) : Prop := ∃ j, j ≤ D.data.toList.tail.length ∧ t.data.toList = D.data.toList.tail.take j ∧ ∀ i b, j ≤ i → D.data.toList.tail[i]? = some b → b = 48
theorem TInv_start (D : ByteArray) : TInv D (D.extract 1 D.size) :=
  ⟨_, Nat.le_refl _, by rw [tail_data, List.take_length], fun i b h g => by rw [List.getElem?_eq_none h] at g; cases g⟩
theorem TInv_step {D t : ByteArray} (h : TInv D t) (k : Nat) (hk : t.size = k + 1) (h48 : (t[k].toNat : Int) = 48) : TInv D (t.extract 0 k) := by
  obtain ⟨j, hj, e, hz⟩ := h
  have hs : t.data.toList.length = k + 1 := by rw [← Lib.size_eq]; exact hk
  have hjk : j = k + 1 := by rw [e, List.length_take] at hs; omega
  refine ⟨k, by omega, ?_, fun i b hi hg => ?_⟩
  · rw [Lib.extract_data]
    simp only [List.drop_zero, Nat.sub_zero]
    rw [e, List.take_take, Nat.min_eq_left (by omega)]
  · by_cases hik : i = k
    · subst hik
      have g := get_at t i (by omega)
      rw [e, List.getElem?_take_of_lt (by omega), hg] at g
      have g2 : b = t[i] := Option.some.inj g
      rw [g2]; exact toNat48 h48
    · exact hz i b (by omega) hg
theorem TInv_end {D t : ByteArray} (h : TInv D t) (g : t.data.toList = [] ∨ ∃ k, ∃ hk : t.size = k + 1, ¬ ((t[k]'(by omega)).toNat : Int) = 48) : trim0 D = t := by
  obtain ⟨j, hj, e, hz⟩ := h
  have key : trimRightB D.data.toList.tail 48 = D.data.toList.tail.take j := by
    refine trimRightB_take _ _ j hj (fun i b hi hb => hz i b hi hb) (fun b hj0 hb => ?_)
    rcases g with g | ⟨k, hk, h48⟩
    · rw [e] at g
      have := congrArg List.length g
      rw [List.length_take, Nat.min_eq_left hj] at this
      exact absurd this (by simp; omega)
    · have hs : t.data.toList.length = k + 1 := by rw [← Lib.size_eq]; exact hk
      have hjk : j = k + 1 := by rw [e, List.length_take] at hs; omega
      have g2 := get_at t k (by omega)
      rw [e, List.getElem?_take_of_lt (by omega)] at g2
      rw [show j - 1 = k by omega, g2] at hb
      intro hb48
      apply h48
      have g3 : t[k] = b := Option.some.inj hb
      rw [g3, hb48]; rfl
  unfold trim0
  rw [key, ← e]

set_option maxRecDepth 100000 in
set_option maxHeartbeats 1000000 in
theorem refPrintPrice_any (n : Int) (h0 : -9223372036854775808 ≤ n) (h1 : n ≤ 9223372036854775807) (w : World) :
    Calls Tryz.prog 198 #[.int .i64 n] w fun e w' => e = .returned (.string (ppB n)) ∧ w' = w := by
  have hm := magI_bd h0 h1
  obtain ⟨hm0, hm1⟩ := hm
  have hz := decI_size (10000 + magI n % 10000)
  have hz2 := decI_le (10000 + magI n % 10000) (by omega)
  have hz3 := decI_le (magI n / 10000) (by omega)
  have hz4 := trim0_le (decI (10000 + magI n % 10000))
  have c1 : ¬ 9223372036854775807 < 1 + (decI (magI n / 10000)).size := by omega
  have c2 : ¬ 9223372036854775807 < 1 + (decI (magI n / 10000)).size + 1 := by omega
  have c4 : ¬ 9223372036854775807 < (decI (magI n / 10000)).size + 1 := by omega
  have HC3 : Hid (1 + (decI (magI n / 10000)).size + 1 + (trim0 (decI (10000 + magI n % 10000))).size ≤ 1000) := by show _ ≤ _; omega
  have HN : Hid ((trim0 (decI (10000 + magI n % 10000))).data.toList = [] ↔ magI n % 10000 = 0) := trim0_nil _ (by omega) (by omega)
  have HB0 : Hid (magI n % 10000 = 0 → ppB n = ppS n) := fun h => if_pos h
  have HB1 : Hid (¬ magI n % 10000 = 0 → ppB n = ppS n ++ ⟨#[46]⟩ ++ trim0 (decI (10000 + magI n % 10000))) := fun h => if_neg h
  have HS0 : Hid (n < 0 → ppS n = ⟨#[45]⟩ ++ decI (magI n / 10000)) := fun h => if_pos h
  have HS1 : Hid (¬ n < 0 → ppS n = decI (magI n / 10000)) := fun h => if_neg h
  clear hz3 hz4
  by_cases hn : n < 0
  · have HS : Hid (ppS n = ⟨#[45]⟩ ++ decI (magI n / 10000)) := HS0.out hn
    clear HS0 HS1
    go_enter Tryz.func198, Tryz.ntmps198
    go_wp2_with (first | (go_at_call 60; refine (size_any n h0 h1 _).mono ?_; rintro e w' ⟨rfl, rfl⟩) | (go_at_call 59; refine (digits_int _ (by omega) (by omega) _).mono ?_; rintro e w' ⟨rfl, rfl⟩))
    generalize decI (10000 + magI n % 10000) = D at *
    go_loop [5] (fun p => ∃ t : ByteArray, p = .string t ∧ TInv D t ∧ t.size ≤ 20) (fun p => (strOf p).size)
    case atStart => exact ⟨_, rfl, TInv_start D, Nat.le_trans (tail_size D) hz2⟩
    case round =>
      obtain ⟨t, rfl, hi, ht20⟩ := hrel
      have HI : Hid (TInv D t) := hi
      clear hi
      by_cases ht : t.toList = []
      · have e2 : t.toList.isEmpty = true := by simpa using ht
        have HE : Hid (t.data.toList = []) := by rw [← Lib.toList_data]; exact ht
        have HT : Hid (trim0 D = t) := TInv_end HI.out (.inl HE.out)
        have HF : Hid (ppB n = ⟨#[45]⟩ ++ decI (magI n / 10000)) := (HB0.out (HN.out.1 (by rw [HT.out]; exact HE.out))).trans HS.out
        clear ht
        go_wp2
        go_ret
        exact ⟨ret_str HF.out.symm, rfl⟩
      · have e2 : t.toList.isEmpty = false := by simpa using ht
        obtain ⟨k, hk⟩ : ∃ k, t.size = k + 1 := ⟨t.size - 1, by have := size_pos ht; omega⟩
        have HE : Hid (¬ t.data.toList = []) := by rw [← Lib.toList_data]; exact ht
        have hkk : (k : Int) < (k : Int) + 1 := by omega
        clear ht
        by_cases h48 : (t[k].toNat : Int) = 48
        · have h48' : ((t[k].toNat : Int) == 48) = true := by simpa using h48
          have HX : Hid (TInv D (t.extract 0 k)) := TInv_step HI.out k hk h48
          have HY : Hid ((t.extract 0 k).size = k) := by show (t.extract 0 k).size = k; rw [ByteArray.size_extract]; omega
          clear h48
          go_wp2
          go_round
          case rel => exact ⟨_, rfl, HX.out, by rw [HY.out]; omega⟩
          case measure =>
            show (t.extract 0 k).size < t.size
            rw [HY.out]; omega
        · have h48' : ((t[k].toNat : Int) == 48) = false := by simpa using h48
          have HT : Hid (trim0 D = t) := TInv_end HI.out (.inr ⟨k, hk, h48⟩)
          have HF : Hid (ppB n = ⟨#[45]⟩ ++ decI (magI n / 10000) ++ ⟨#[46]⟩ ++ t) := by
            have h := HB1.out (fun h => HE.out (by rw [← HT.out]; exact HN.out.2 h))
            rw [HT.out, HS.out] at h; exact h
          have c3 : ¬ 9223372036854775807 < 1 + (decI (magI n / 10000)).size + 1 + (k + 1) := by
            have h := HC3.out
            rw [HT.out] at h; omega
          clear h48
          go_wp2
          go_ret
          exact ⟨ret_str HF.out.symm, rfl⟩
  · have HS : Hid (ppS n = decI (magI n / 10000)) := HS1.out hn
    clear HS0 HS1
    go_enter Tryz.func198, Tryz.ntmps198
    go_wp2_with (first | (go_at_call 60; refine (size_any n h0 h1 _).mono ?_; rintro e w' ⟨rfl, rfl⟩) | (go_at_call 59; refine (digits_int _ (by omega) (by omega) _).mono ?_; rintro e w' ⟨rfl, rfl⟩))
    generalize decI (10000 + magI n % 10000) = D at *
    go_loop [5] (fun p => ∃ t : ByteArray, p = .string t ∧ TInv D t ∧ t.size ≤ 20) (fun p => (strOf p).size)
    case atStart => exact ⟨_, rfl, TInv_start D, Nat.le_trans (tail_size D) hz2⟩
    case round =>
      obtain ⟨t, rfl, hi, ht20⟩ := hrel
      have HI : Hid (TInv D t) := hi
      clear hi
      by_cases ht : t.toList = []
      · have e2 : t.toList.isEmpty = true := by simpa using ht
        have HE : Hid (t.data.toList = []) := by rw [← Lib.toList_data]; exact ht
        have HT : Hid (trim0 D = t) := TInv_end HI.out (.inl HE.out)
        have HF : Hid (ppB n = decI (magI n / 10000)) := (HB0.out (HN.out.1 (by rw [HT.out]; exact HE.out))).trans HS.out
        clear ht
        go_wp2
        go_ret
        exact ⟨ret_str HF.out.symm, rfl⟩
      · have e2 : t.toList.isEmpty = false := by simpa using ht
        obtain ⟨k, hk⟩ : ∃ k, t.size = k + 1 := ⟨t.size - 1, by have := size_pos ht; omega⟩
        have HE : Hid (¬ t.data.toList = []) := by rw [← Lib.toList_data]; exact ht
        have hkk : (k : Int) < (k : Int) + 1 := by omega
        clear ht
        by_cases h48 : (t[k].toNat : Int) = 48
        · have h48' : ((t[k].toNat : Int) == 48) = true := by simpa using h48
          have HX : Hid (TInv D (t.extract 0 k)) := TInv_step HI.out k hk h48
          have HY : Hid ((t.extract 0 k).size = k) := by show (t.extract 0 k).size = k; rw [ByteArray.size_extract]; omega
          clear h48
          go_wp2
          go_round
          case rel => exact ⟨_, rfl, HX.out, by rw [HY.out]; omega⟩
          case measure =>
            show (t.extract 0 k).size < t.size
            rw [HY.out]; omega
        · have h48' : ((t[k].toNat : Int) == 48) = false := by simpa using h48
          have HT : Hid (trim0 D = t) := TInv_end HI.out (.inr ⟨k, hk, h48⟩)
          have HF : Hid (ppB n = decI (magI n / 10000) ++ ⟨#[46]⟩ ++ t) := by
            have h := HB1.out (fun h => HE.out (by rw [← HT.out]; exact HN.out.2 h))
            rw [HT.out, HS.out] at h; exact h
          have c3 : ¬ 9223372036854775807 < (decI (magI n / 10000)).size + 1 + (k + 1) := by
            have h := HC3.out
            rw [HT.out] at h; omega
          clear h48
          go_wp2
          go_ret
          exact ⟨ret_str HF.out.symm, rfl⟩
end Go.Proofs.YtchkpggdndnpjabGreatDoor

namespace Go.Proofs.YtchkpggdndnpjabGreatDoor
set_option linter.unusedVariables false
open Go.Shelf Go.RowKit Go.Sort Go.Lib

theorem ahead_366 (k : Nat) : ahead (1970 + k) ≤ 366 * k := by
  induction k with
  | zero => rw [ahead_first]; omega
  | succ k ih =>
    rw [show 1970 + (k + 1) = (1970 + k) + 1 by omega, ahead_succ _ (by omega)]
    have := leapN_le (1970 + k)
    omega
set_option maxRecDepth 100000 in
set_option maxHeartbeats 400000 in
theorem refDate_any (z : Int) (n : Nat) (hz : z = n) (w : World) (hn : n ≤ 2932896) :
    Calls Tryz.prog 235 #[.int .i64 z] w fun e w' => e = .returned (.int .i64 (dateN n : Int)) ∧ Below w.heap.size w w' := by
  subst hz
  have hs0 := ahead_366 (n / 366)
  have hs1 : 366 * (n / 366) ≤ n := by omega
  have hs3 : (n : Int) / 366 = ((n / 366 : Nat) : Int) := by omega
  have hs4 : 1970 + n / 366 ≤ 9999 := by
    rcases Nat.lt_or_ge (1970 + n / 366) 10000 with h | h
    · omega
    · omega
  generalize n / 366 = y0 at *
  go_enter Tryz.func235, Tryz.ntmps235
  go_wp2
  go_loopw [3] (fun y wr => ∃ Y : Nat, 1970 ≤ Y ∧ Y ≤ 9999 ∧ ahead Y ≤ n ∧ y = .int .i64 Y ∧ wr = w) (fun y _ => 10000 - (intOf y).toNat)
  case atStart => exact ⟨1970 + y0, by omega, hs4, by omega, vint (by omega), rfl⟩
  case round =>
    obtain ⟨Y, h0, h1, hA, rfl, rfl⟩ := hrel
    clear hs0 hs1 hs3 hs4
    by_cases hlt : ahead (Y + 1) ≤ n
    · have hlt' : (ahead (Y + 1) : Int) ≤ (n : Int) := by omega
      have h9 : Y + 1 ≤ 9999 := by
        rcases Nat.lt_or_ge Y 9999 with h | h
        · omega
        · rw [show Y + 1 = 10000 by omega, ahead_last] at hlt; omega
      go_wp2_with (go_at_call 259; fail)
      refine (refAhead_any _ (Y + 1) (by omega) _ (by omega) (by omega)).mono ?_
      rintro e w ⟨rfl, rfl⟩
      go_wp2
      go_roundw
      case rel => exact ⟨Y + 1, by omega, h9, hlt, by go_num, by first | rfl | trivial⟩
      case measure => simp [intOf]; omega
    · have hlt' : ¬ (ahead (Y + 1) : Int) ≤ (n : Int) := by omega
      have hlt2 : (n : Int) < (ahead (Y + 1) : Int) := by omega
      have hA2 : n < ahead Y + 365 + leapN Y := by rw [ahead_succ Y h0] at hlt; omega
      have hlp := leapN_le Y
      have hA3 : ahead Y ≤ 2932897 := by omega
      have hAi : (ahead Y : Int) ≤ n := by omega
      go_wp2_with (go_at_call 259; fail)
      refine (refAhead_any _ (Y + 1) (by omega) _ (by omega) (by omega)).mono ?_
      rintro e w ⟨rfl, rfl⟩
      go_wp2_with (go_at_call 259; fail)
      refine (refAhead_any _ Y rfl _ h0 (by omega)).mono ?_
      rintro e w ⟨rfl, rfl⟩
      have HA2 : Hid (n < ahead Y + 365 + leapN Y) := hA2
      clear hlt hlt' hlt2 hA2
      go_wp2
      go_loopw [0, 4] (fun a i wr => ∃ k : Nat, k < 12 ∧ i = .int .i64 ((k : Int) + 1) ∧ a = .int .i64 ((n : Int) - (ahead Y : Int) - (msum Y k : Int)) ∧ ahead Y + msum Y k ≤ n ∧ Below w.heap.size w wr) (fun _ i _ => 13 - (intOf i).toNat)
      case atStart => exact ⟨0, by omega, rfl, vint (by simp [msum]), by simp [msum]; omega, Below.refl _ _⟩
      case round =>
        obtain ⟨k, hk, rfl, rfl, hle, hbl⟩ := hrel
        have HB : Hid (Below w.heap.size w wr) := hbl
        clear hbl
        have hs1 := msum_mono Y (j := k) (k := 12) (by omega)
        rw [msum_year] at hs1
        have hs3 := mlen_le Y (k + 1)
        have hs4 : msum Y (k + 1) = msum Y k + mlen Y (k + 1) := rfl
        by_cases hlt : ahead Y + msum Y k + mlen Y (k + 1) ≤ n
        · have hge : (mlen Y (k + 1) : Int) ≤ (n : Int) - (ahead Y : Int) - (msum Y k : Int) := by omega
          have hk2 : k + 1 < 12 := by
            rcases Nat.lt_or_ge (k + 1) 12 with h | h
            · exact h
            · have e12 : k + 1 = 12 := by omega
              have := msum_year Y
              rw [← e12] at this
              have := HA2.out
              omega
          go_wp2_with (go_at_call 258; fail)
          refine (refLong_any _ _ Y (k + 1) rfl (by omega) _ (by omega) (by omega) (by omega)).mono ?_
          rintro e w2 ⟨rfl, hb2⟩
          have HB2 : Hid (Below w.heap.size w w2) := HB.out.trans (hb2.mono HB.out.size)
          clear hb2 HB
          go_wp2_with (go_at_call 258; fail)
          refine (refLong_any _ _ Y (k + 1) rfl (by omega) _ (by omega) (by omega) (by omega)).mono ?_
          rintro e w3 ⟨rfl, hb3⟩
          have HB3 : Hid (Below w.heap.size w w3) := HB2.out.trans (hb3.mono HB2.out.size)
          clear hb3 HB2
          go_wp2
          go_roundw
          case rel => exact ⟨k + 1, by omega, by go_num, vint (by omega), by omega, HB3.out⟩
          case measure => simp [intOf]; omega
        · have hge : ¬ (mlen Y (k + 1) : Int) ≤ (n : Int) - (ahead Y : Int) - (msum Y k : Int) := by omega
          have hge2 : (n : Int) - (ahead Y : Int) - (msum Y k : Int) < (mlen Y (k + 1) : Int) := by omega
          have hD : IsD Y (k + 1) (n - ahead Y - msum Y k + 1) := ⟨h0, h1, by omega, by omega, by omega, by omega⟩
          have eD := dateN_eq hD
          rw [show dayNo Y (k + 1) (n - ahead Y - msum Y k + 1) = n by unfold dayNo; simp only [Nat.add_sub_cancel]; omega] at eD
          have eN : (dateN n : Int) = (Y : Int) * 10000 + ((k : Int) + 1) * 100 + ((n : Int) - (ahead Y : Int) - (msum Y k : Int)) + 1 := by rw [eD]; unfold encD; omega
          have EN : Hid ((dateN n : Int) = (Y : Int) * 10000 + ((k : Int) + 1) * 100 + ((n : Int) - (ahead Y : Int) - (msum Y k : Int)) + 1) := eN
          clear eN eD
          go_wp2_with (go_at_call 258; fail)
          refine (refLong_any _ _ Y (k + 1) rfl (by omega) _ (by omega) (by omega) (by omega)).mono ?_
          rintro e w2 ⟨rfl, hb2⟩
          have HB2 : Hid (Below w.heap.size w w2) := HB.out.trans (hb2.mono HB.out.size)
          clear hb2 HB
          go_wp2
          go_ret
          exact ⟨ret_int (by have := EN.out; omega), HB2.out⟩
theorem dig_sliceI0 (W : World) : ∀ r : Nat, r < 10 → (Instr.slice 9 (.string ⟨#[48, 49, 50, 51, 52, 53, 54, 55, 56, 57]⟩) (some (.int .i64 (r : Int))) (some (.int .i64 ((r : Int) + 1))) none).run Tryz.prog W = .ok (.string ⟨#[UInt8.ofNat (48 + r)]⟩) W
  | 0, _ => by kernel_rfl
  | 1, _ => by kernel_rfl
  | 2, _ => by kernel_rfl
  | 3, _ => by kernel_rfl
  | 4, _ => by kernel_rfl
  | 5, _ => by kernel_rfl
  | 6, _ => by kernel_rfl
  | 7, _ => by kernel_rfl
  | 8, _ => by kernel_rfl
  | 9, _ => by kernel_rfl
  | n + 10, h => absurd h (by omega)
theorem dig_sliceI (n : Nat) (W : World) : (Instr.slice 9 (.string ⟨#[48, 49, 50, 51, 52, 53, 54, 55, 56, 57]⟩) (some (.int .i64 ((n : Int) % 10))) (some (.int .i64 ((n : Int) % 10 + 1))) none).run Tryz.prog W = .ok (.string ⟨#[dch n]⟩) W := by
  have e : (n : Int) % 10 = ((n % 10 : Nat) : Int) := by omega
  rw [e]
  exact dig_sliceI0 W (n % 10) (Nat.mod_lt _ (by decide))
theorem digI_cons (n i : Nat) : digI n (i + 1) = ((48 + n / 10 ^ i % 10 : Nat) : Int) :: digI n i := by
  unfold digI
  rw [List.range_succ_eq_map, List.map_cons, List.map_map]
  congr 1
  refine List.map_congr_left fun j hj => ?_
  simp only [Function.comp]
  rw [show i + 1 - 1 - (j + 1) = i - 1 - j by omega]
theorem digB_cons (n i : Nat) : digB n (i + 1) = dch (n / 10 ^ i) :: digB n i := by
  unfold digB
  rw [digI_cons, List.map_cons]
  congr 1
theorem size_list (t : ByteArray) : t.size = t.data.toList.length := by simp
set_option maxRecDepth 100000 in
set_option maxHeartbeats 400000 in
theorem refDigits_any (n k : Nat) (z x : Int) (hz : z = n) (hx : x = k) (w : World) (hn : n ≤ 100000000) (hk : k ≤ 9) :
    Calls Tryz.prog 236 #[.int .i64 z, .int .i64 x] w fun e w' => e = .returned (.string ⟨(digB n k).toArray⟩) ∧ w' = w := by
  subst hz hx
  go_enter Tryz.func236, Tryz.ntmps236
  go_wp2
  go_loopw [0, 5, 6] (fun a s i wr => ∃ (j m : Nat) (t : ByteArray), j ≤ k ∧ i = .int .i64 j ∧ m ≤ 100000000 ∧ m = n / 10 ^ j ∧ a = .int .i64 m ∧ s = .string t ∧ t.data.toList = digB n j ∧ wr = w) (fun _ _ i _ => k - (intOf i).toNat)
  case atStart => exact ⟨0, n, ⟨#[]⟩, by omega, rfl, hn, by simp, rfl, rfl, rfl, rfl⟩
  case round =>
    obtain ⟨j, m, t, hj, rfl, hm, hmn, rfl, rfl, ht, rfl⟩ := hrel
    by_cases hlt : j < k
    · have hlt' : (j : Int) < (k : Int) := by omega
      have hsz : t.size = j := by rw [size_list, ht, digB_length]
      have hsz2 : ¬ 9223372036854775807 < 1 + t.size := by omega
      have hsl := dig_sliceI m
      have HE : Hid (((⟨#[dch m]⟩ : ByteArray) ++ t).data.toList = digB n (j + 1)) := by
        show _ = _
        rw [cons_bytes, ht, digB_cons, hmn]
      have HM : Hid (m / 10 = n / 10 ^ (j + 1)) := by
        show _ = _
        rw [hmn, Nat.div_div_eq_div_mul, Nat.pow_succ]
      clear ht hmn
      go_wp2
      go_roundw
      case rel => exact ⟨j + 1, m / 10, _, by omega, by go_num, by omega, HM.out, by go_num, rfl, HE.out, by first | rfl | trivial⟩
      case measure => simp [intOf]; omega
    · obtain rfl : j = k := by omega
      have HT : Hid (t = ⟨(digB n j).toArray⟩) := WideShapes.bytes_inj (by rw [ht])
      clear ht hmn
      go_wp2
      go_ret
      exact ⟨congrArg (fun s => Ending.returned (Value.string s)) HT.out, by first | rfl | trivial⟩
end Go.Proofs.YtchkpggdndnpjabGreatDoor

namespace Go.Proofs.YtchkpggdndnpjabGreatDoor
set_option linter.unusedVariables false
open Go.Shelf Go.RowKit Go.Sort Go.Lib

set_option maxRecDepth 100000 in
set_option maxHeartbeats 400000 in
theorem refIsTime_any (z : Int) (w : World) :
    Calls Tryz.prog 234 #[.int .i64 z] w fun e w' => e = .returned (.bool (isT z)) ∧ w' = w := by
  by_cases h0 : 0 ≤ z
  · by_cases h1 : z ≤ 253402300799999
    · have e : isT z = true := by simp [isT, h0, h1]
      rw [e]
      go_enter Tryz.func234, Tryz.ntmps234
      go_wp2
      go_ret
      exact ⟨rfl, rfl⟩
    · have e : isT z = false := by simp [isT, h0, h1]
      rw [e]
      go_enter Tryz.func234, Tryz.ntmps234
      go_wp2
      go_ret
      exact ⟨ret_bool (by simp), rfl⟩
  · have e : isT z = false := by simp [isT, h0]
    rw [e]
    go_enter Tryz.func234, Tryz.ntmps234
    go_wp2
    go_ret
    exact ⟨rfl, rfl⟩
set_option maxRecDepth 100000 in
set_option maxHeartbeats 400000 in
theorem Stamp_no (z : Int) (w : World) (hM : Mon w) (ht : isT z = false) :
    Calls Tryz.prog 321 #[.int .i64 z] w fun e w' => e = .returned (.tuple #[.string ⟨#[]⟩, .int .i64 20]) ∧ Below w.heap.size w w' := by
  have hdo := DateOf_any z w hM
  rw [show doV z = 0 by unfold doV; rw [ht]; rfl, show stE z = 20 by unfold stE; rw [ht]; rfl] at hdo
  go_enter Tryz.func321, Tryz.ntmps321
  go_wp2_with (go_at_call 324; fail)
  refine hdo.mono ?_
  rintro e w1 ⟨rfl, hb1⟩
  have HB1 : Hid (Below w.heap.size w w1) := hb1
  clear hb1 hdo
  go_wp2
  go_ret2
  exact ⟨rfl, HB1.out⟩
set_option maxRecDepth 100000 in
set_option maxHeartbeats 400000 in
theorem refStamp_no (z : Int) (w : World) (ht : isT z = false) :
    Calls Tryz.prog 197 #[.int .i64 z] w fun e w' => e = .returned (.tuple #[.string ⟨#[]⟩, .int .i64 20]) ∧ Below w.heap.size w w' := by
  have hc := refIsTime_any z w
  rw [ht] at hc
  clear ht
  go_enter Tryz.func197, Tryz.ntmps197
  go_wp2_with (go_at_call 234; fail)
  refine hc.mono ?_
  rintro e w ⟨rfl, rfl⟩
  go_wp2
  go_ret2
  exact ⟨rfl, Below.refl _ _⟩
theorem stamp_join (t : Nat) (T1 T2 T3 T4 T5 : ByteArray) (h1 : T1.data.toList = digB (dateN (t / 86400000)) 8) (h2 : T2.data.toList = digB (t % 86400000 / 3600000) 2) (h3 : T3.data.toList = digB (t % 3600000 / 60000) 2) (h4 : T4.data.toList = digB (t % 60000 / 1000) 2) (h5 : T5.data.toList = digB (t % 1000) 3) :
    T1 ++ (⟨#[45]⟩ : ByteArray) ++ T2 ++ (⟨#[58]⟩ : ByteArray) ++ T3 ++ (⟨#[58]⟩ : ByteArray) ++ T4 ++ (⟨#[46]⟩ : ByteArray) ++ T5 = strOfNums (stampI t) := by
  refine WideShapes.bytes_inj ?_
  rw [stamp_txt]
  simp only [ByteArray.data_append, Array.toList_append, h1, h2, h3, h4, h5]
  rfl
set_option maxRecDepth 100000 in
set_option maxHeartbeats 2000000 in
theorem refStamp_yes (t : Nat) (w : World) (ht : t ≤ 253402300799999) :
    Calls Tryz.prog 197 #[.int .i64 (t : Int)] w fun e w' => e = .returned (.tuple #[.string (strOfNums (stampI t)), .int .i64 0]) ∧ Below w.heap.size w w' := by
  have hT : isT (t : Int) = true := by rw [isT_iff]; omega
  have hc := refIsTime_any t w
  rw [hT] at hc
  have hdb := dateN_bounds (n := t / 86400000) (by omega)
  have hda := fun z hz w => refDate_any z (t / 86400000) hz w (by omega)
  have m1 : t % 3600000 / 60000 = t % 86400000 / 60000 % 60 := by omega
  have m2 : t % 60000 / 1000 = t % 86400000 / 1000 % 60 := by omega
  have m3 : t % 1000 = t % 86400000 % 1000 := by omega
  have c1 := fun z x hz hx w => refDigits_any (dateN (t / 86400000)) 8 z x hz hx w (by omega) (by omega)
  have c2 := fun z x hz hx w => refDigits_any (t % 86400000 / 3600000) 2 z x hz hx w (by omega) (by omega)
  have c3 := fun z x hz hx w => refDigits_any (t % 3600000 / 60000) 2 z x hz hx w (by omega) (by omega)
  have c4 := fun z x hz hx w => refDigits_any (t % 60000 / 1000) 2 z x hz hx w (by omega) (by omega)
  have c5 := fun z x hz hx w => refDigits_any (t % 1000) 3 z x hz hx w (by omega) (by omega)
  have hj := stamp_join t ⟨(digB (dateN (t / 86400000)) 8).toArray⟩ ⟨(digB (t % 86400000 / 3600000) 2).toArray⟩ ⟨(digB (t % 3600000 / 60000) 2).toArray⟩ ⟨(digB (t % 60000 / 1000) 2).toArray⟩ ⟨(digB (t % 1000) 3).toArray⟩ rfl rfl rfl rfl rfl
  have z1 : (⟨(digB (dateN (t / 86400000)) 8).toArray⟩ : ByteArray).size = 8 := by rw [size_list]; exact digB_length _ _
  have z2 : (⟨(digB (t % 86400000 / 3600000) 2).toArray⟩ : ByteArray).size = 2 := by rw [size_list]; exact digB_length _ _
  have z3 : (⟨(digB (t % 3600000 / 60000) 2).toArray⟩ : ByteArray).size = 2 := by rw [size_list]; exact digB_length _ _
  have z4 : (⟨(digB (t % 60000 / 1000) 2).toArray⟩ : ByteArray).size = 2 := by rw [size_list]; exact digB_length _ _
  have z5 : (⟨(digB (t % 1000) 3).toArray⟩ : ByteArray).size = 3 := by rw [size_list]; exact digB_length _ _
  generalize (⟨(digB (dateN (t / 86400000)) 8).toArray⟩ : ByteArray) = T1 at *
  generalize (⟨(digB (t % 86400000 / 3600000) 2).toArray⟩ : ByteArray) = T2 at *
  generalize (⟨(digB (t % 3600000 / 60000) 2).toArray⟩ : ByteArray) = T3 at *
  generalize (⟨(digB (t % 60000 / 1000) 2).toArray⟩ : ByteArray) = T4 at *
  generalize (⟨(digB (t % 1000) 3).toArray⟩ : ByteArray) = T5 at *
  rw [← hj]
  have hD : t / 86400000 ≤ 2932896 := by omega
  have M : Hid (t % 3600000 / 60000 = t % 86400000 / 60000 % 60 ∧ t % 60000 / 1000 = t % 86400000 / 1000 % 60 ∧ t % 1000 = t % 86400000 % 1000) := ⟨m1, m2, m3⟩
  clear hT hj m1 m2 m3
  generalize dateN (t / 86400000) = d at *
  go_enter Tryz.func197, Tryz.ntmps197
  go_wp2_with (go_at_call 234; fail)
  refine hc.mono ?_
  rintro e w ⟨rfl, rfl⟩
  go_wp2_with (go_at_call 235; fail)
  refine (hda _ (by omega) _).mono ?_
  rintro e w1 ⟨rfl, hb⟩
  have HB : Hid (Below w.heap.size w w1) := hb
  clear hb hc hda
  go_wp2_with (go_at_call 236; fail)
  refine (c1 _ _ rfl rfl _).mono ?_
  rintro e w1 ⟨rfl, rfl⟩
  go_wp2_with (go_at_call 236; fail)
  refine (c2 _ _ (by omega) rfl _).mono ?_
  rintro e w1 ⟨rfl, rfl⟩
  go_wp2_with (go_at_call 236; fail)
  refine (c3 _ _ (by have := M.out.1; omega) rfl _).mono ?_
  rintro e w1 ⟨rfl, rfl⟩
  go_wp2_with (go_at_call 236; fail)
  refine (c4 _ _ (by have := M.out.2.1; omega) rfl _).mono ?_
  rintro e w1 ⟨rfl, rfl⟩
  go_wp2_with (go_at_call 236; fail)
  refine (c5 _ _ (by have := M.out.2.2; omega) rfl _).mono ?_
  rintro e w1 ⟨rfl, rfl⟩
  clear c1 c2 c3 c4 c5
  go_wp2
  go_ret2
  exact ⟨rfl, HB.out⟩
end Go.Proofs.YtchkpggdndnpjabGreatDoor

namespace Go.Proofs.YtchkpggdndnpjabGreatDoor
set_option linter.unusedVariables false
open Go.RowKit Go.Great

/-- A list of words in memory. -/
def WdL (w : World) (g off : Nat) (ws : List ByteArray) : Prop := ∀ j s, ws[j]? = some s → w.cell? ⟨g, off + j, none⟩ = some (.string s)
theorem WdL.below {w w' : World} {g off : Nat} {ws : List ByteArray} (h : WdL w g off ws) (hb : Below w.heap.size w w') : WdL w' g off ws := fun j s hj => by
  have := h j s hj
  exact (hb.cell (p := ⟨g, off + j, none⟩) (World.block_lt_of_cell? _ _ this)).trans this
def CodesRet (ws : List ByteArray) (w : World) (e : Ending) (w' : World) : Prop := ∃ g off c, e = .returned (.slice (some ⟨g, off, none⟩) ws.length c) ∧ ws.length ≤ c ∧ WdL w' g off ws ∧ Below w.heap.size w w'
theorem wdl_alloc {w : World} {cs : Array Value} (ws : List ByteArray) (h : (ws.map Value.string).toArray = cs) : WdL (w.alloc (.cells cs 9)) w.heap.size 0 ws := fun j s hj => by
  subst h
  rw [Nat.zero_add, cell_of_row _ _ _ _ _ _ (heap_alloc_new w _)]
  simp [hj]

set_option maxRecDepth 100000 in
theorem codes_54 (w : World) : Calls Tryz.prog 191 #[.int .i64 54] w fun e w' => CodesRet (xwd 24) w e w' := by
  have HB : Hid (WdL (w.alloc (.cells #[.string ⟨#[49]⟩, .string ⟨#[50]⟩] 9)) w.heap.size 0 (xwd 24) ∧ Below w.heap.size w (w.alloc (.cells #[.string ⟨#[49]⟩, .string ⟨#[50]⟩] 9))) := ⟨wdl_alloc _ rfl, (Below.refl _ w).alloc (Nat.le_refl _) _⟩
  go_enter Tryz.func191, Tryz.ntmps191
  go_upto_region 3 with fail
  rename_i K hK
  refine wp_region_lit ?_
  refine wpList_runTo rfl (some 6) rfl (.slice (some ⟨w.heap.size, 0, none⟩) 2 2) (w.alloc (.cells #[.string ⟨#[49]⟩, .string ⟨#[50]⟩] 9)) (by kernel_rfl) ?_
  refine wpList_runTo rfl (some 2) rfl (.slice (some ⟨w.heap.size, 0, none⟩) 2 2) (w.alloc (.cells #[.string ⟨#[49]⟩, .string ⟨#[50]⟩] 9)) (by kernel_rfl) ?_
  refine wpList_nil ?_
  refine hK _ _ ?_
  clear hK
  simp only [Act.put, List.setIfInBounds_toArray, List.set_cons_zero, List.set_cons_succ]
  generalize w.alloc (.cells #[.string ⟨#[49]⟩, .string ⟨#[50]⟩] 9) = w1 at *
  go_wp2
  go_ret
  exact ⟨_, _, _, rfl, by decide, HB.out.1, HB.out.2⟩
set_option maxRecDepth 100000 in
theorem codes_40 (w : World) : Calls Tryz.prog 191 #[.int .i64 40] w fun e w' => CodesRet (xwd 25) w e w' := by
  have HB : Hid (WdL (w.alloc (.cells #[.string ⟨#[50]⟩, .string ⟨#[49]⟩, .string ⟨#[51]⟩, .string ⟨#[52]⟩] 9)) w.heap.size 0 (xwd 25) ∧ Below w.heap.size w (w.alloc (.cells #[.string ⟨#[50]⟩, .string ⟨#[49]⟩, .string ⟨#[51]⟩, .string ⟨#[52]⟩] 9))) := ⟨wdl_alloc _ rfl, (Below.refl _ w).alloc (Nat.le_refl _) _⟩
  go_enter Tryz.func191, Tryz.ntmps191
  go_upto_region 5 with fail
  rename_i K hK
  refine wp_region_lit ?_
  refine wpList_runTo rfl (some 9) rfl (.slice (some ⟨w.heap.size, 0, none⟩) 4 4) (w.alloc (.cells #[.string ⟨#[50]⟩, .string ⟨#[49]⟩, .string ⟨#[51]⟩, .string ⟨#[52]⟩] 9)) (by kernel_rfl) ?_
  refine wpList_runTo rfl (some 2) rfl (.slice (some ⟨w.heap.size, 0, none⟩) 4 4) (w.alloc (.cells #[.string ⟨#[50]⟩, .string ⟨#[49]⟩, .string ⟨#[51]⟩, .string ⟨#[52]⟩] 9)) (by kernel_rfl) ?_
  refine wpList_nil ?_
  refine hK _ _ ?_
  clear hK
  simp only [Act.put, List.setIfInBounds_toArray, List.set_cons_zero, List.set_cons_succ]
  generalize w.alloc (.cells #[.string ⟨#[50]⟩, .string ⟨#[49]⟩, .string ⟨#[51]⟩, .string ⟨#[52]⟩] 9) = w1 at *
  go_wp2
  go_ret
  exact ⟨_, _, _, rfl, by decide, HB.out.1, HB.out.2⟩
set_option maxRecDepth 100000 in
theorem codes_59 (w : World) : Calls Tryz.prog 191 #[.int .i64 59] w fun e w' => CodesRet (xwd 26) w e w' := by
  have HB : Hid (WdL (w.alloc (.cells #[.string ⟨#[48]⟩, .string ⟨#[51]⟩, .string ⟨#[52]⟩, .string ⟨#[49]⟩, .string ⟨#[54]⟩, .string ⟨#[50]⟩, .string ⟨#[48]⟩] 9)) w.heap.size 0 (xwd 26) ∧ Below w.heap.size w (w.alloc (.cells #[.string ⟨#[48]⟩, .string ⟨#[51]⟩, .string ⟨#[52]⟩, .string ⟨#[49]⟩, .string ⟨#[54]⟩, .string ⟨#[50]⟩, .string ⟨#[48]⟩] 9))) := ⟨wdl_alloc _ rfl, (Below.refl _ w).alloc (Nat.le_refl _) _⟩
  go_enter Tryz.func191, Tryz.ntmps191
  go_upto_region 7 with fail
  rename_i K hK
  refine wp_region_lit ?_
  refine wpList_runTo rfl (some 12) rfl (.slice (some ⟨w.heap.size, 0, none⟩) 7 7) (w.alloc (.cells #[.string ⟨#[48]⟩, .string ⟨#[51]⟩, .string ⟨#[52]⟩, .string ⟨#[49]⟩, .string ⟨#[54]⟩, .string ⟨#[50]⟩, .string ⟨#[48]⟩] 9)) (by kernel_rfl) ?_
  refine wpList_runTo rfl (some 2) rfl (.slice (some ⟨w.heap.size, 0, none⟩) 7 7) (w.alloc (.cells #[.string ⟨#[48]⟩, .string ⟨#[51]⟩, .string ⟨#[52]⟩, .string ⟨#[49]⟩, .string ⟨#[54]⟩, .string ⟨#[50]⟩, .string ⟨#[48]⟩] 9)) (by kernel_rfl) ?_
  refine wpList_nil ?_
  refine hK _ _ ?_
  clear hK
  simp only [Act.put, List.setIfInBounds_toArray, List.set_cons_zero, List.set_cons_succ]
  generalize w.alloc (.cells #[.string ⟨#[48]⟩, .string ⟨#[51]⟩, .string ⟨#[52]⟩, .string ⟨#[49]⟩, .string ⟨#[54]⟩, .string ⟨#[50]⟩, .string ⟨#[48]⟩] 9) = w1 at *
  go_wp2
  go_ret
  exact ⟨_, _, _, rfl, by decide, HB.out.1, HB.out.2⟩
set_option maxRecDepth 100000 in
theorem codes_150 (w : World) : Calls Tryz.prog 191 #[.int .i64 150] w fun e w' => CodesRet (xwd 36) w e w' := by
  have HB : Hid (WdL (w.alloc (.cells #[.string ⟨#[48]⟩, .string ⟨#[56]⟩, .string ⟨#[70]⟩, .string ⟨#[52]⟩, .string ⟨#[53]⟩, .string ⟨#[76]⟩, .string ⟨#[67]⟩, .string ⟨#[73]⟩] 9)) w.heap.size 0 (xwd 36) ∧ Below w.heap.size w (w.alloc (.cells #[.string ⟨#[48]⟩, .string ⟨#[56]⟩, .string ⟨#[70]⟩, .string ⟨#[52]⟩, .string ⟨#[53]⟩, .string ⟨#[76]⟩, .string ⟨#[67]⟩, .string ⟨#[73]⟩] 9))) := ⟨wdl_alloc _ rfl, (Below.refl _ w).alloc (Nat.le_refl _) _⟩
  go_enter Tryz.func191, Tryz.ntmps191
  go_upto_region 9 with fail
  rename_i K hK
  refine wp_region_lit ?_
  refine wpList_runTo rfl (some 15) rfl (.slice (some ⟨w.heap.size, 0, none⟩) 8 8) (w.alloc (.cells #[.string ⟨#[48]⟩, .string ⟨#[56]⟩, .string ⟨#[70]⟩, .string ⟨#[52]⟩, .string ⟨#[53]⟩, .string ⟨#[76]⟩, .string ⟨#[67]⟩, .string ⟨#[73]⟩] 9)) (by kernel_rfl) ?_
  refine wpList_runTo rfl (some 2) rfl (.slice (some ⟨w.heap.size, 0, none⟩) 8 8) (w.alloc (.cells #[.string ⟨#[48]⟩, .string ⟨#[56]⟩, .string ⟨#[70]⟩, .string ⟨#[52]⟩, .string ⟨#[53]⟩, .string ⟨#[76]⟩, .string ⟨#[67]⟩, .string ⟨#[73]⟩] 9)) (by kernel_rfl) ?_
  refine wpList_nil ?_
  refine hK _ _ ?_
  clear hK
  simp only [Act.put, List.setIfInBounds_toArray, List.set_cons_zero, List.set_cons_succ]
  generalize w.alloc (.cells #[.string ⟨#[48]⟩, .string ⟨#[56]⟩, .string ⟨#[70]⟩, .string ⟨#[52]⟩, .string ⟨#[53]⟩, .string ⟨#[76]⟩, .string ⟨#[67]⟩, .string ⟨#[73]⟩] 9) = w1 at *
  go_wp2
  go_ret
  exact ⟨_, _, _, rfl, by decide, HB.out.1, HB.out.2⟩
set_option maxRecDepth 100000 in
theorem codes_39 (w : World) : Calls Tryz.prog 191 #[.int .i64 39] w fun e w' => CodesRet (xwd 37) w e w' := by
  have HB : Hid (WdL (w.alloc (.cells #[.string ⟨#[48]⟩, .string ⟨#[49]⟩, .string ⟨#[50]⟩, .string ⟨#[52]⟩, .string ⟨#[56]⟩, .string ⟨#[67]⟩] 9)) w.heap.size 0 (xwd 37) ∧ Below w.heap.size w (w.alloc (.cells #[.string ⟨#[48]⟩, .string ⟨#[49]⟩, .string ⟨#[50]⟩, .string ⟨#[52]⟩, .string ⟨#[56]⟩, .string ⟨#[67]⟩] 9))) := ⟨wdl_alloc _ rfl, (Below.refl _ w).alloc (Nat.le_refl _) _⟩
  go_enter Tryz.func191, Tryz.ntmps191
  go_upto_region 11 with fail
  rename_i K hK
  refine wp_region_lit ?_
  refine wpList_runTo rfl (some 18) rfl (.slice (some ⟨w.heap.size, 0, none⟩) 6 6) (w.alloc (.cells #[.string ⟨#[48]⟩, .string ⟨#[49]⟩, .string ⟨#[50]⟩, .string ⟨#[52]⟩, .string ⟨#[56]⟩, .string ⟨#[67]⟩] 9)) (by kernel_rfl) ?_
  refine wpList_runTo rfl (some 2) rfl (.slice (some ⟨w.heap.size, 0, none⟩) 6 6) (w.alloc (.cells #[.string ⟨#[48]⟩, .string ⟨#[49]⟩, .string ⟨#[50]⟩, .string ⟨#[52]⟩, .string ⟨#[56]⟩, .string ⟨#[67]⟩] 9)) (by kernel_rfl) ?_
  refine wpList_nil ?_
  refine hK _ _ ?_
  clear hK
  simp only [Act.put, List.setIfInBounds_toArray, List.set_cons_zero, List.set_cons_succ]
  generalize w.alloc (.cells #[.string ⟨#[48]⟩, .string ⟨#[49]⟩, .string ⟨#[50]⟩, .string ⟨#[52]⟩, .string ⟨#[56]⟩, .string ⟨#[67]⟩] 9) = w1 at *
  go_wp2
  go_ret
  exact ⟨_, _, _, rfl, by decide, HB.out.1, HB.out.2⟩
set_option maxRecDepth 100000 in
theorem codes_326 (w : World) : Calls Tryz.prog 191 #[.int .i64 326] w fun e w' => CodesRet (xwd 42) w e w' := by
  have HB : Hid (WdL (w.alloc (.cells #[.string ⟨#[49, 56]⟩, .string ⟨#[50, 49]⟩, .string ⟨#[50, 50]⟩, .string ⟨#[49, 55]⟩, .string ⟨#[50]⟩, .string ⟨#[50, 54]⟩] 9)) w.heap.size 0 (xwd 42) ∧ Below w.heap.size w (w.alloc (.cells #[.string ⟨#[49, 56]⟩, .string ⟨#[50, 49]⟩, .string ⟨#[50, 50]⟩, .string ⟨#[49, 55]⟩, .string ⟨#[50]⟩, .string ⟨#[50, 54]⟩] 9))) := ⟨wdl_alloc _ rfl, (Below.refl _ w).alloc (Nat.le_refl _) _⟩
  go_enter Tryz.func191, Tryz.ntmps191
  go_upto_region 13 with fail
  rename_i K hK
  refine wp_region_lit ?_
  refine wpList_runTo rfl (some 21) rfl (.slice (some ⟨w.heap.size, 0, none⟩) 6 6) (w.alloc (.cells #[.string ⟨#[49, 56]⟩, .string ⟨#[50, 49]⟩, .string ⟨#[50, 50]⟩, .string ⟨#[49, 55]⟩, .string ⟨#[50]⟩, .string ⟨#[50, 54]⟩] 9)) (by kernel_rfl) ?_
  refine wpList_runTo rfl (some 2) rfl (.slice (some ⟨w.heap.size, 0, none⟩) 6 6) (w.alloc (.cells #[.string ⟨#[49, 56]⟩, .string ⟨#[50, 49]⟩, .string ⟨#[50, 50]⟩, .string ⟨#[49, 55]⟩, .string ⟨#[50]⟩, .string ⟨#[50, 54]⟩] 9)) (by kernel_rfl) ?_
  refine wpList_nil ?_
  refine hK _ _ ?_
  clear hK
  simp only [Act.put, List.setIfInBounds_toArray, List.set_cons_zero, List.set_cons_succ]
  generalize w.alloc (.cells #[.string ⟨#[49, 56]⟩, .string ⟨#[50, 49]⟩, .string ⟨#[50, 50]⟩, .string ⟨#[49, 55]⟩, .string ⟨#[50]⟩, .string ⟨#[50, 54]⟩] 9) = w1 at *
  go_wp2
  go_ret
  exact ⟨_, _, _, rfl, by decide, HB.out.1, HB.out.2⟩
set_option maxRecDepth 100000 in
theorem typesX_any (w : World) : Calls Tryz.prog 232 #[] w fun e w' => ∃ g, e = .returned (.slice (some ⟨g, 0, none⟩) 18 18) ∧ WdL w' g 0 (⟨#[]⟩ :: xwd 0) ∧ Below w.heap.size w w' := by
  have HB : Hid (WdL (w.alloc (.cells #[.string ⟨#[]⟩, .string ⟨#[48]⟩, .string ⟨#[49]⟩, .string ⟨#[50]⟩, .string ⟨#[51]⟩, .string ⟨#[52]⟩, .string ⟨#[53]⟩, .string ⟨#[65]⟩, .string ⟨#[68]⟩, .string ⟨#[70]⟩, .string ⟨#[71]⟩, .string ⟨#[113]⟩, .string ⟨#[72]⟩, .string ⟨#[56]⟩, .string ⟨#[57]⟩, .string ⟨#[114]⟩, .string ⟨#[106]⟩, .string ⟨#[102]⟩] 9)) w.heap.size 0 (⟨#[]⟩ :: xwd 0) ∧ Below w.heap.size w (w.alloc (.cells #[.string ⟨#[]⟩, .string ⟨#[48]⟩, .string ⟨#[49]⟩, .string ⟨#[50]⟩, .string ⟨#[51]⟩, .string ⟨#[52]⟩, .string ⟨#[53]⟩, .string ⟨#[65]⟩, .string ⟨#[68]⟩, .string ⟨#[70]⟩, .string ⟨#[71]⟩, .string ⟨#[113]⟩, .string ⟨#[72]⟩, .string ⟨#[56]⟩, .string ⟨#[57]⟩, .string ⟨#[114]⟩, .string ⟨#[106]⟩, .string ⟨#[102]⟩] 9))) := ⟨wdl_alloc _ rfl, (Below.refl _ w).alloc (Nat.le_refl _) _⟩
  go_enter Tryz.func232, Tryz.ntmps232
  go_upto_region 1 with fail
  rename_i K hK
  refine wp_region_lit ?_
  refine wpList_runTo rfl (some 1) rfl (.slice (some ⟨w.heap.size, 0, none⟩) 18 18) (w.alloc (.cells #[.string ⟨#[]⟩, .string ⟨#[48]⟩, .string ⟨#[49]⟩, .string ⟨#[50]⟩, .string ⟨#[51]⟩, .string ⟨#[52]⟩, .string ⟨#[53]⟩, .string ⟨#[65]⟩, .string ⟨#[68]⟩, .string ⟨#[70]⟩, .string ⟨#[71]⟩, .string ⟨#[113]⟩, .string ⟨#[72]⟩, .string ⟨#[56]⟩, .string ⟨#[57]⟩, .string ⟨#[114]⟩, .string ⟨#[106]⟩, .string ⟨#[102]⟩] 9)) (by kernel_rfl) ?_
  refine wpList_runTo rfl (some 0) rfl (.slice (some ⟨w.heap.size, 0, none⟩) 18 18) (w.alloc (.cells #[.string ⟨#[]⟩, .string ⟨#[48]⟩, .string ⟨#[49]⟩, .string ⟨#[50]⟩, .string ⟨#[51]⟩, .string ⟨#[52]⟩, .string ⟨#[53]⟩, .string ⟨#[65]⟩, .string ⟨#[68]⟩, .string ⟨#[70]⟩, .string ⟨#[71]⟩, .string ⟨#[113]⟩, .string ⟨#[72]⟩, .string ⟨#[56]⟩, .string ⟨#[57]⟩, .string ⟨#[114]⟩, .string ⟨#[106]⟩, .string ⟨#[102]⟩] 9)) (by kernel_rfl) ?_
  refine wpList_nil ?_
  refine hK _ _ ?_
  clear hK
  simp only [Act.put, List.setIfInBounds_toArray, List.set_cons_zero, List.set_cons_succ]
  generalize w.alloc (.cells #[.string ⟨#[]⟩, .string ⟨#[48]⟩, .string ⟨#[49]⟩, .string ⟨#[50]⟩, .string ⟨#[51]⟩, .string ⟨#[52]⟩, .string ⟨#[53]⟩, .string ⟨#[65]⟩, .string ⟨#[68]⟩, .string ⟨#[70]⟩, .string ⟨#[71]⟩, .string ⟨#[113]⟩, .string ⟨#[72]⟩, .string ⟨#[56]⟩, .string ⟨#[57]⟩, .string ⟨#[114]⟩, .string ⟨#[106]⟩, .string ⟨#[102]⟩] 9) = w1 at *
  go_wp2
  go_ret
  exact ⟨_, rfl, HB.out.1, HB.out.2⟩
set_option maxRecDepth 100000 in
theorem codes_35 (w : World) : Calls Tryz.prog 191 #[.int .i64 35] w fun e w' => CodesRet (xwd 0) w e w' := by
  have HT := typesX_any w
  go_enter Tryz.func191, Tryz.ntmps191
  go_wp2_with (go_at_call 232; fail)
  refine HT.mono ?_
  clear HT
  rintro e w1 ⟨g, rfl, hw, hb⟩
  have HB : Hid (WdL w1 g 1 (xwd 0) ∧ Below w.heap.size w w1) := ⟨fun j s hj => by have := hw (j + 1) s (by rw [List.getElem?_cons_succ]; exact hj); rwa [show 0 + (j + 1) = 1 + j by omega] at this, hb⟩
  clear hw hb
  go_wp2
  go_ret
  exact ⟨g, 1, 17, rfl, by decide, HB.out.1, HB.out.2⟩
set_option maxRecDepth 100000 in
theorem codes_372 (w : World) : Calls Tryz.prog 191 #[.int .i64 372] w fun e w' => CodesRet (xwd 16) w e w' := by
  have HT := typesX_any w
  go_enter Tryz.func191, Tryz.ntmps191
  go_wp2_with (go_at_call 232; fail)
  refine HT.mono ?_
  clear HT
  rintro e w1 ⟨g, rfl, hw, hb⟩
  have HB : Hid (WdL w1 g 1 (xwd 16) ∧ Below w.heap.size w w1) := ⟨fun j s hj => by have := hw (j + 1) s (by rw [List.getElem?_cons_succ]; exact hj); rwa [show 0 + (j + 1) = 1 + j by omega] at this, hb⟩
  clear hw hb
  go_wp2
  go_ret
  exact ⟨g, 1, 17, rfl, by decide, HB.out.1, HB.out.2⟩
set_option maxRecDepth 100000 in
theorem codes_no (z : Int) (h : ([54, 40, 59, 150, 39, 326, 35, 372].any fun x => x == z) = false) (w : World) : Calls Tryz.prog 191 #[.int .i64 z] w fun e w' => e = .returned (.slice none 0 0) ∧ w' = w := by
  simp only [List.any_cons, List.any_nil, Bool.or_false, Bool.or_eq_false_iff, beq_eq_false_iff_ne, ne_eq] at h
  obtain ⟨h0, h1, h2, h3, h4, h5, h6, h7⟩ := h
  have b0 : (z == 54) = false := by rw [beq_eq_false_iff_ne]; exact fun e => h0 e.symm
  have b1 : (z == 40) = false := by rw [beq_eq_false_iff_ne]; exact fun e => h1 e.symm
  have b2 : (z == 59) = false := by rw [beq_eq_false_iff_ne]; exact fun e => h2 e.symm
  have b3 : (z == 150) = false := by rw [beq_eq_false_iff_ne]; exact fun e => h3 e.symm
  have b4 : (z == 39) = false := by rw [beq_eq_false_iff_ne]; exact fun e => h4 e.symm
  have b5 : (z == 326) = false := by rw [beq_eq_false_iff_ne]; exact fun e => h5 e.symm
  have b6 : (z == 35) = false := by rw [beq_eq_false_iff_ne]; exact fun e => h6 e.symm
  have b7 : (z == 372) = false := by rw [beq_eq_false_iff_ne]; exact fun e => h7 e.symm
  clear h0 h1 h2 h3 h4 h5 h6 h7
  go_enter Tryz.func191, Tryz.ntmps191
  go_wp2
  go_ret
  exact ⟨rfl, rfl⟩
set_option maxRecDepth 100000 in
set_option maxHeartbeats 1000000 in
theorem written_flag (z n : Int) (s : ByteArray) (hc : ([54, 40, 59, 150, 39, 326, 35, 372].any fun x => x == z) = false) (hxflB : xflB z = true) (hxtiB : xtiB z = false) (hxprB : xprB z = false) (hxtxB : xtxB z = false)  (w : World) : Calls Tryz.prog 53 #[.int .i64 z, .int .i64 n, .string s] w fun e w' => e = .returned (.string ⟨#[89]⟩) ∧ Below w.heap.size w w' := by
  have HF2 := fun W => isFlag_any z W
  simp only [hxflB] at HF2
  have HF3 := fun W => isTimeX_any z W
  simp only [hxtiB] at HF3
  have HF4 := fun W => isPrice_any z W
  simp only [hxprB] at HF4
  have HF5 := fun W => isText_any z W
  simp only [hxtxB] at HF5
  have HC := fun W => codes_no z hc W
  clear hc
  go_enter Tryz.func53, Tryz.ntmps53
  go_wp2_with (go_at_call 191; fail)
  refine (HC _).mono ?_
  rintro e w1 ⟨rfl, ew⟩
  replace ew := ew.symm
  subst ew
  have HB1 : Hid (Below w.heap.size w w) := Below.refl _ _
  go_wp2_with (go_at_call 192; fail)
  refine (HF2 _).mono ?_
  rintro e w2 ⟨rfl, hb2⟩
  have HB2 : Hid (Below w.heap.size w w2) := HB1.out.trans (hb2.mono HB1.out.size)
  clear hb2
  go_wp2_with (go_at_call 193; fail)
  refine (HF3 _).mono ?_
  rintro e wt ⟨rfl, ew⟩
  replace ew := ew.symm
  subst ew
  go_wp2_with (go_at_call 194; fail)
  refine (HF4 _).mono ?_
  rintro e w4 ⟨rfl, hb4⟩
  have HB4 : Hid (Below w.heap.size w w4) := HB2.out.trans (hb4.mono HB2.out.size)
  clear hb4
  go_wp2_with (go_at_call 195; fail)
  refine (HF5 _).mono ?_
  rintro e w5 ⟨rfl, hb5⟩
  have HB5 : Hid (Below w.heap.size w w5) := HB4.out.trans (hb5.mono HB4.out.size)
  clear hb5
  go_wp2
  go_ret
  exact ⟨rfl, HB5.out⟩
set_option maxRecDepth 100000 in
set_option maxHeartbeats 1000000 in
theorem written_text (z n : Int) (s : ByteArray) (hc : ([54, 40, 59, 150, 39, 326, 35, 372].any fun x => x == z) = false) (hxflB : xflB z = false) (hxtiB : xtiB z = false) (hxprB : xprB z = false) (hxtxB : xtxB z = true)  (w : World) : Calls Tryz.prog 53 #[.int .i64 z, .int .i64 n, .string s] w fun e w' => e = .returned (.string s) ∧ Below w.heap.size w w' := by
  have HF2 := fun W => isFlag_any z W
  simp only [hxflB] at HF2
  have HF3 := fun W => isTimeX_any z W
  simp only [hxtiB] at HF3
  have HF4 := fun W => isPrice_any z W
  simp only [hxprB] at HF4
  have HF5 := fun W => isText_any z W
  simp only [hxtxB] at HF5
  have HC := fun W => codes_no z hc W
  clear hc
  go_enter Tryz.func53, Tryz.ntmps53
  go_wp2_with (go_at_call 191; fail)
  refine (HC _).mono ?_
  rintro e w1 ⟨rfl, ew⟩
  replace ew := ew.symm
  subst ew
  have HB1 : Hid (Below w.heap.size w w) := Below.refl _ _
  go_wp2_with (go_at_call 192; fail)
  refine (HF2 _).mono ?_
  rintro e w2 ⟨rfl, hb2⟩
  have HB2 : Hid (Below w.heap.size w w2) := HB1.out.trans (hb2.mono HB1.out.size)
  clear hb2
  go_wp2_with (go_at_call 193; fail)
  refine (HF3 _).mono ?_
  rintro e wt ⟨rfl, ew⟩
  replace ew := ew.symm
  subst ew
  go_wp2_with (go_at_call 194; fail)
  refine (HF4 _).mono ?_
  rintro e w4 ⟨rfl, hb4⟩
  have HB4 : Hid (Below w.heap.size w w4) := HB2.out.trans (hb4.mono HB2.out.size)
  clear hb4
  go_wp2_with (go_at_call 195; fail)
  refine (HF5 _).mono ?_
  rintro e w5 ⟨rfl, hb5⟩
  have HB5 : Hid (Below w.heap.size w w5) := HB4.out.trans (hb5.mono HB4.out.size)
  clear hb5
  go_wp2
  go_ret
  exact ⟨rfl, HB5.out⟩
set_option maxRecDepth 100000 in
set_option maxHeartbeats 1000000 in
theorem written_time (z n : Int) (s : ByteArray) (hc : ([54, 40, 59, 150, 39, 326, 35, 372].any fun x => x == z) = false) (hxflB : xflB z = false) (hxtiB : xtiB z = true) (hxprB : xprB z = false) (hxtxB : xtxB z = false) (ht : 0 ≤ n ∧ n ≤ 253402300799999) (w : World) : Calls Tryz.prog 53 #[.int .i64 z, .int .i64 n, .string s] w fun e w' => e = .returned (.string (strOfNums (stampI n.toNat))) ∧ Below w.heap.size w w' := by
  have HF2 := fun W => isFlag_any z W
  simp only [hxflB] at HF2
  have HF3 := fun W => isTimeX_any z W
  simp only [hxtiB] at HF3
  have HF4 := fun W => isPrice_any z W
  simp only [hxprB] at HF4
  have HF5 := fun W => isText_any z W
  simp only [hxtxB] at HF5
  have HC := fun W => codes_no z hc W
  clear hc
  go_enter Tryz.func53, Tryz.ntmps53
  go_wp2_with (go_at_call 191; fail)
  refine (HC _).mono ?_
  rintro e w1 ⟨rfl, ew⟩
  replace ew := ew.symm
  subst ew
  have HB1 : Hid (Below w.heap.size w w) := Below.refl _ _
  go_wp2_with (go_at_call 192; fail)
  refine (HF2 _).mono ?_
  rintro e w2 ⟨rfl, hb2⟩
  have HB2 : Hid (Below w.heap.size w w2) := HB1.out.trans (hb2.mono HB1.out.size)
  clear hb2
  go_wp2_with (go_at_call 193; fail)
  refine (HF3 _).mono ?_
  rintro e wt ⟨rfl, ew⟩
  replace ew := ew.symm
  subst ew
  go_wp2_with (go_at_call 194; fail)
  refine (HF4 _).mono ?_
  rintro e w4 ⟨rfl, hb4⟩
  have HB4 : Hid (Below w.heap.size w w4) := HB2.out.trans (hb4.mono HB2.out.size)
  clear hb4
  go_wp2_with (go_at_call 195; fail)
  refine (HF5 _).mono ?_
  rintro e w5 ⟨rfl, hb5⟩
  have HB5 : Hid (Below w.heap.size w w5) := HB4.out.trans (hb5.mono HB4.out.size)
  clear hb5
  have HS := refStamp_yes n.toNat w5 (by omega)
  rw [Int.toNat_of_nonneg ht.1] at HS
  go_wp2_with (go_at_call 197; fail)
  refine HS.mono ?_
  clear HS
  rintro e w6 ⟨rfl, hb6⟩
  have HB6 : Hid (Below w.heap.size w w6) := HB5.out.trans (hb6.mono HB5.out.size)
  clear hb6
  go_wp2
  go_ret
  exact ⟨rfl, HB6.out⟩
set_option maxRecDepth 100000 in
set_option maxHeartbeats 1000000 in
theorem written_price (z n : Int) (s : ByteArray) (hc : ([54, 40, 59, 150, 39, 326, 35, 372].any fun x => x == z) = false) (hxflB : xflB z = false) (hxtiB : xtiB z = false) (hxprB : xprB z = true) (hxtxB : xtxB z = false) (ht : -9223372036854775808 ≤ n ∧ n ≤ 9223372036854775807) (w : World) : Calls Tryz.prog 53 #[.int .i64 z, .int .i64 n, .string s] w fun e w' => e = .returned (.string (ppB n)) ∧ Below w.heap.size w w' := by
  have HF2 := fun W => isFlag_any z W
  simp only [hxflB] at HF2
  have HF3 := fun W => isTimeX_any z W
  simp only [hxtiB] at HF3
  have HF4 := fun W => isPrice_any z W
  simp only [hxprB] at HF4
  have HF5 := fun W => isText_any z W
  simp only [hxtxB] at HF5
  have HC := fun W => codes_no z hc W
  clear hc
  go_enter Tryz.func53, Tryz.ntmps53
  go_wp2_with (go_at_call 191; fail)
  refine (HC _).mono ?_
  rintro e w1 ⟨rfl, ew⟩
  replace ew := ew.symm
  subst ew
  have HB1 : Hid (Below w.heap.size w w) := Below.refl _ _
  go_wp2_with (go_at_call 192; fail)
  refine (HF2 _).mono ?_
  rintro e w2 ⟨rfl, hb2⟩
  have HB2 : Hid (Below w.heap.size w w2) := HB1.out.trans (hb2.mono HB1.out.size)
  clear hb2
  go_wp2_with (go_at_call 193; fail)
  refine (HF3 _).mono ?_
  rintro e wt ⟨rfl, ew⟩
  replace ew := ew.symm
  subst ew
  go_wp2_with (go_at_call 194; fail)
  refine (HF4 _).mono ?_
  rintro e w4 ⟨rfl, hb4⟩
  have HB4 : Hid (Below w.heap.size w w4) := HB2.out.trans (hb4.mono HB2.out.size)
  clear hb4
  go_wp2_with (go_at_call 195; fail)
  refine (HF5 _).mono ?_
  rintro e w5 ⟨rfl, hb5⟩
  have HB5 : Hid (Below w.heap.size w w5) := HB4.out.trans (hb5.mono HB4.out.size)
  clear hb5
  go_wp2_with (go_at_call 198; fail)
  refine (refPrintPrice_any n ht.1 ht.2 _).mono ?_
  rintro e w6 ⟨rfl, ew⟩
  replace ew := ew.symm
  subst ew
  go_wp2
  go_ret
  exact ⟨rfl, HB5.out⟩
set_option maxRecDepth 100000 in
set_option maxHeartbeats 1000000 in
theorem written_num (z n : Int) (s : ByteArray) (hc : ([54, 40, 59, 150, 39, 326, 35, 372].any fun x => x == z) = false) (hxflB : xflB z = false) (hxtiB : xtiB z = false) (hxprB : xprB z = false) (hxtxB : xtxB z = false) (ht : -9223372036854775808 ≤ n ∧ n ≤ 9223372036854775807) (h37 : ¬ (z = 37 ∧ n = 0)) (w : World) : Calls Tryz.prog 53 #[.int .i64 z, .int .i64 n, .string s] w fun e w' => e = .returned (.string ⟨(Lib.itoa n).toArray⟩) ∧ Below w.heap.size w w' := by
  have HF2 := fun W => isFlag_any z W
  simp only [hxflB] at HF2
  have HF3 := fun W => isTimeX_any z W
  simp only [hxtiB] at HF3
  have HF4 := fun W => isPrice_any z W
  simp only [hxprB] at HF4
  have HF5 := fun W => isText_any z W
  simp only [hxtxB] at HF5
  have HC := fun W => codes_no z hc W
  clear hc
  go_enter Tryz.func53, Tryz.ntmps53
  go_wp2_with (go_at_call 191; fail)
  refine (HC _).mono ?_
  rintro e w1 ⟨rfl, ew⟩
  replace ew := ew.symm
  subst ew
  have HB1 : Hid (Below w.heap.size w w) := Below.refl _ _
  go_wp2_with (go_at_call 192; fail)
  refine (HF2 _).mono ?_
  rintro e w2 ⟨rfl, hb2⟩
  have HB2 : Hid (Below w.heap.size w w2) := HB1.out.trans (hb2.mono HB1.out.size)
  clear hb2
  go_wp2_with (go_at_call 193; fail)
  refine (HF3 _).mono ?_
  rintro e wt ⟨rfl, ew⟩
  replace ew := ew.symm
  subst ew
  go_wp2_with (go_at_call 194; fail)
  refine (HF4 _).mono ?_
  rintro e w4 ⟨rfl, hb4⟩
  have HB4 : Hid (Below w.heap.size w w4) := HB2.out.trans (hb4.mono HB2.out.size)
  clear hb4
  go_wp2_with (go_at_call 195; fail)
  refine (HF5 _).mono ?_
  rintro e w5 ⟨rfl, hb5⟩
  have HB5 : Hid (Below w.heap.size w w5) := HB4.out.trans (hb5.mono HB4.out.size)
  clear hb5
  have HP := fun W => refPrint_any n ht.1 ht.2 W
  by_cases hz : z = 37
  · have hn : ¬ n = 0 := fun e => h37 ⟨hz, e⟩
    have b1 : (z == 37) = true := by simp [hz]
    have b2 : (n == 0) = false := by simp [hn]
    clear h37 hz hn
    go_wp2_with (go_at_call 26; fail)
    refine (HP _).mono ?_
    rintro e w6 ⟨rfl, ew⟩
    replace ew := ew.symm
    subst ew
    go_wp2
    go_ret
    exact ⟨rfl, HB5.out⟩
  have b1 : (z == 37) = false := by simp [hz]
  clear h37 hz
  go_wp2_with (go_at_call 26; fail)
  refine (HP _).mono ?_
  rintro e w6 ⟨rfl, ew⟩
  replace ew := ew.symm
  subst ew
  go_wp2
  go_ret
  exact ⟨rfl, HB5.out⟩
set_option maxRecDepth 100000 in
set_option maxHeartbeats 1000000 in
theorem written_none (z n : Int) (s : ByteArray) (hc : ([54, 40, 59, 150, 39, 326, 35, 372].any fun x => x == z) = false) (hxflB : xflB z = false) (hxtiB : xtiB z = false) (hxprB : xprB z = false) (hxtxB : xtxB z = false) (hz : z = 37) (hn : n = 0) (w : World) : Calls Tryz.prog 53 #[.int .i64 z, .int .i64 n, .string s] w fun e w' => e = .returned (.string ⟨#[78, 79, 78, 69]⟩) ∧ Below w.heap.size w w' := by
  have HF2 := fun W => isFlag_any z W
  simp only [hxflB] at HF2
  have HF3 := fun W => isTimeX_any z W
  simp only [hxtiB] at HF3
  have HF4 := fun W => isPrice_any z W
  simp only [hxprB] at HF4
  have HF5 := fun W => isText_any z W
  simp only [hxtxB] at HF5
  have HC := fun W => codes_no z hc W
  subst hz hn
  clear hxflB hxtiB hxprB hxtxB
  clear hc
  go_enter Tryz.func53, Tryz.ntmps53
  go_wp2_with (go_at_call 191; fail)
  refine (HC _).mono ?_
  rintro e w1 ⟨rfl, ew⟩
  replace ew := ew.symm
  subst ew
  have HB1 : Hid (Below w.heap.size w w) := Below.refl _ _
  go_wp2_with (go_at_call 192; fail)
  refine (HF2 _).mono ?_
  rintro e w2 ⟨rfl, hb2⟩
  have HB2 : Hid (Below w.heap.size w w2) := HB1.out.trans (hb2.mono HB1.out.size)
  clear hb2
  go_wp2_with (go_at_call 193; fail)
  refine (HF3 _).mono ?_
  rintro e wt ⟨rfl, ew⟩
  replace ew := ew.symm
  subst ew
  go_wp2_with (go_at_call 194; fail)
  refine (HF4 _).mono ?_
  rintro e w4 ⟨rfl, hb4⟩
  have HB4 : Hid (Below w.heap.size w w4) := HB2.out.trans (hb4.mono HB2.out.size)
  clear hb4
  go_wp2_with (go_at_call 195; fail)
  refine (HF5 _).mono ?_
  rintro e w5 ⟨rfl, hb5⟩
  have HB5 : Hid (Below w.heap.size w w5) := HB4.out.trans (hb5.mono HB4.out.size)
  clear hb5
  go_wp2
  go_ret
  exact ⟨rfl, HB5.out⟩
set_option maxRecDepth 100000 in
set_option maxHeartbeats 1000000 in
theorem written_code (z n lo : Int) (s : ByteArray) (ws : List ByteArray) (HC : ∀ W, Calls Tryz.prog 191 #[.int .i64 z] W fun e w' => CodesRet ws W e w') (hlo : (if z = 326 then (0 : Int) else 1) = lo) (h0 : lo ≤ n) (h1 : n - lo < ws.length) (hl : ws.length ≤ 20) (hb : 0 ≤ lo ∧ lo ≤ 1) (w : World) :
    Calls Tryz.prog 53 #[.int .i64 z, .int .i64 n, .string s] w fun e w' => e = .returned (.string (ws.getD (n - lo).toNat ⟨#[]⟩)) ∧ Below w.heap.size w w' := by
  have HF2 := fun W => isFlag_any z W
  have HF3 := fun W => isTimeX_any z W
  have HF4 := fun W => isPrice_any z W
  have HF5 := fun W => isText_any z W
  have HF6 := fun W => firstX_any z W
  simp only [hlo] at HF6
  clear hlo
  generalize xflB z = b2 at *
  generalize xtiB z = b3 at *
  generalize xprB z = b4 at *
  generalize xtxB z = b5 at *
  obtain ⟨i, hi⟩ : ∃ i : Nat, i = (n - lo).toNat := ⟨_, rfl⟩
  have hin : n - lo = (i : Int) := by omega
  have hil : i < ws.length := by omega
  rw [← hi]
  obtain ⟨m, hm⟩ : ∃ m, m = ws.length := ⟨_, rfl⟩
  go_enter Tryz.func53, Tryz.ntmps53
  go_wp2_with (go_at_call 191; fail)
  refine (HC _).mono ?_
  rintro e w1 ⟨g, off, c, rfl, hc, hw, hb1⟩
  have HB1 : Hid (Below w.heap.size w w1) := hb1
  have HW1 : Hid (WdL w1 g off ws) := hw
  rw [← hm] at hc hil hl ⊢
  have HM : Hid (m = ws.length) := hm
  clear hb1 hw HC hm
  go_wp2_with (go_at_call 192; fail)
  refine (HF2 _).mono ?_
  rintro e w2 ⟨rfl, hb2⟩
  have HW2 : Hid (WdL w2 g off ws) := HW1.out.below hb2
  have HB2 : Hid (Below w.heap.size w w2) := HB1.out.trans (hb2.mono HB1.out.size)
  clear hb2
  go_wp2_with (go_at_call 193; fail)
  refine (HF3 _).mono ?_
  rintro e wt ⟨rfl, ew⟩
  replace ew := ew.symm
  subst ew
  go_wp2_with (go_at_call 194; fail)
  refine (HF4 _).mono ?_
  rintro e w4 ⟨rfl, hb4⟩
  have HW4 : Hid (WdL w4 g off ws) := HW2.out.below hb4
  have HB4 : Hid (Below w.heap.size w w4) := HB2.out.trans (hb4.mono HB2.out.size)
  clear hb4
  go_wp2_with (go_at_call 195; fail)
  refine (HF5 _).mono ?_
  rintro e w5 ⟨rfl, hb5⟩
  have HW5 : Hid (WdL w5 g off ws) := HW4.out.below hb5
  have HB5 : Hid (Below w.heap.size w w5) := HB4.out.trans (hb5.mono HB4.out.size)
  clear hb5
  have hcl := HW5.out i (ws.getD i ⟨#[]⟩) (by rw [List.getD_eq_getElem?_getD, List.getElem?_eq_getElem (by have := HM.out; omega)]; rfl)
  obtain ⟨S, hSe⟩ : ∃ S, ws.getD i ⟨#[]⟩ = S := ⟨_, rfl⟩
  have HSe : Hid (ws.getD i ⟨#[]⟩ = S) := hSe
  rw [hSe] at hcl
  clear hSe
  have hiI : (i : Int) < (m : Int) := by omega
  clear HW1 HW2 HW4 HW5 hi h1
  have hn0 : n = lo + (i : Int) := by omega
  clear hin h0
  go_wp2_with (go_at_call 196; fail)
  refine (HF6 _).mono ?_
  rintro e w6 ⟨rfl, ew⟩
  replace ew := ew.symm
  subst ew
  obtain rfl | rfl : lo = 0 ∨ lo = 1 := by omega
  · have e1 : IntKind.i64.wrap (n - 0) = (i : Int) := by rw [IntKind.wrap_i64]; omega
    have e2 : wrap64 (n - 0) = (i : Int) := by unfold wrap64; omega
    go_wp2
    go_ret
    exact ⟨by rw [HSe.out]; rfl, HB5.out⟩
  · have e1 : IntKind.i64.wrap (n - 1) = (i : Int) := by rw [IntKind.wrap_i64]; omega
    have e2 : wrap64 (n - 1) = (i : Int) := by unfold wrap64; omega
    go_wp2
    go_ret
    exact ⟨by rw [HSe.out]; rfl, HB5.out⟩
end Go.Proofs.YtchkpggdndnpjabGreatDoor

namespace Go.Proofs.YtchkpggdndnpjabGreatDoor
set_option linter.unusedVariables false
set_option linter.unusedSimpArgs false
open Go.RowKit Go.Great

set_option maxRecDepth 100000 in
theorem flag_tab : ((List.range 17).all fun k => !(hasN ((k + 1 : Nat) : Int) 43 == 2) && !(hasN ((k + 1 : Nat) : Int) 141 == 2) && !(hasN ((k + 1 : Nat) : Int) 123 == 2)) = true := by kernel_rfl
theorem flag_no {M : Msg} (h : Vld M) : hasN (M.z 0) 43 ≠ 2 ∧ hasN (M.z 0) 141 ≠ 2 ∧ hasN (M.z 0) 123 ≠ 2 := by
  obtain ⟨k, hk, e⟩ := h.kind
  have := List.all_eq_true.1 flag_tab k (List.mem_range.2 hk)
  rw [← e] at this
  simp only [Bool.and_eq_true, Bool.not_eq_true', beq_eq_false_iff_ne, ne_eq] at this
  exact ⟨this.1.1, this.1.2, this.2⟩
theorem flag_on {M : Msg} {j : Nat} (h : hasN (M.z 0) (tNum.getD j 0) ≠ 2) (hp : prs M j = true) (e : thRB M j = (trN (M.b j) != 0 || (⟨#[]⟩ : ByteArray).size != 0)) : M.b j = true := by
  unfold prs at hp
  rw [e] at hp
  have : (hasN (M.z 0) (tNum.getD j 0) == 2) = false := by simpa using h
  rw [this] at hp
  cases hb : M.b j with
  | true => rfl
  | false => rw [hb] at hp; cases hp
set_option maxRecDepth 100000 in
set_option maxHeartbeats 1000000 in
theorem written_row {M : Msg} (h : Vld M) (hz : M.ok) (j : Nat) (hj : j < 42) (hp : prs M j = true) (w : World) :
    Calls Tryz.prog 53 #[.int .i64 (tNum.getD j 0), .int .i64 (vN M j), .string (vS M j)] w fun e w' => e = .returned (.string (wrS (jr j) M)) ∧ Below w.heap.size w w' := by
  obtain ⟨t, ht, er, hw⟩ := prs_slot h hj hp
  have hg := (good_ok h ht hw).2
  rw [er] at hg
  clear ht hw er t
  have hF := flag_no h
  rcases cases42 hj with rfl | rfl | rfl | rfl | rfl | rfl | rfl | rfl | rfl | rfl | rfl | rfl | rfl | rfl | rfl | rfl | rfl | rfl | rfl | rfl | rfl | rfl | rfl | rfl | rfl | rfl | rfl | rfl | rfl | rfl | rfl | rfl | rfl | rfl | rfl | rfl | rfl | rfl | rfl | rfl | rfl | rfl
  · exact written_code 35 (M.z 0) 1 _ (xwd 0) (fun W => codes_35 W) rfl hg.1 hg.2 (by decide) (by decide) w
  · exact written_text 49 0 (M.s 1) rfl rfl rfl rfl rfl w
  · exact written_text 56 0 (M.s 2) rfl rfl rfl rfl rfl w
  · exact written_num 34 (M.z 3) _ rfl rfl rfl rfl rfl (hz 3) (fun q => absurd q.1 (by decide)) w
  · have hb := flag_on (j := 4) hF.1 hp rfl; have e : wrS 4 M = ⟨#[89]⟩ := by show ynS (M.b 4) = _; rw [hb]; rfl
    show Calls _ _ _ _ fun e w' => e = .returned (.string (wrS 4 M)) ∧ _
    rw [e]
    exact written_flag 43 _ _ rfl rfl rfl rfl rfl w
  · exact written_time 52 (M.z 5) _ rfl rfl rfl rfl rfl hg w
  · exact written_time 122 (M.z 6) _ rfl rfl rfl rfl rfl hg w
  · exact written_num 108 (M.z 7) _ rfl rfl rfl rfl rfl (hz 7) (fun q => absurd q.1 (by decide)) w
  · have hb := flag_on (j := 8) hF.2.1 hp rfl; have e : wrS 9 M = ⟨#[89]⟩ := by show ynS (M.b 8) = _; rw [hb]; rfl
    show Calls _ _ _ _ fun e w' => e = .returned (.string (wrS 9 M)) ∧ _
    rw [e]
    exact written_flag 141 _ _ rfl rfl rfl rfl rfl w
  · exact written_text 112 0 (M.s 9) rfl rfl rfl rfl rfl w
  · exact written_num 7 (M.z 10) _ rfl rfl rfl rfl rfl (hz 10) (fun q => absurd q.1 (by decide)) w
  · exact written_num 16 (M.z 11) _ rfl rfl rfl rfl rfl (hz 11) (fun q => absurd q.1 (by decide)) w
  · exact written_num 36 (M.z 12) _ rfl rfl rfl rfl rfl (hz 12) (fun q => absurd q.1 (by decide)) w
  · have hb := flag_on (j := 13) hF.2.2 hp rfl; have e : wrS 14 M = ⟨#[89]⟩ := by show ynS (M.b 13) = _; rw [hb]; rfl
    show Calls _ _ _ _ fun e w' => e = .returned (.string (wrS 14 M)) ∧ _
    rw [e]
    exact written_flag 123 _ _ rfl rfl rfl rfl rfl w
  · exact written_num 45 (M.z 14) _ rfl rfl rfl rfl rfl (hz 14) (fun q => absurd q.1 (by decide)) w
  · exact written_code 372 (M.z 15) 1 _ (xwd 16) (fun W => codes_372 W) rfl hg.1 hg.2 (by decide) (by decide) w
  · exact written_num 371 (M.z 16) _ rfl rfl rfl rfl rfl (hz 16) (fun q => absurd q.1 (by decide)) w
  · exact written_num 373 (M.z 17) _ rfl rfl rfl rfl rfl (hz 17) (fun q => absurd q.1 (by decide)) w
  · exact written_text 58 0 (M.s 18) rfl rfl rfl rfl rfl w
  · exact written_text 11 0 (M.s 19) rfl rfl rfl rfl rfl w
  · exact written_text 41 0 (M.s 20) rfl rfl rfl rfl rfl w
  · exact written_text 1 0 (M.s 21) rfl rfl rfl rfl rfl w
  · exact written_text 55 0 (M.s 22) rfl rfl rfl rfl rfl w
  · exact written_code 54 (M.z 23) 1 _ (xwd 24) (fun W => codes_54 W) rfl hg.1 hg.2 (by decide) (by decide) w
  · exact written_code 40 (M.z 24) 1 _ (xwd 25) (fun W => codes_40 W) rfl hg.1 hg.2 (by decide) (by decide) w
  · exact written_code 59 (M.z 25) 1 _ (xwd 26) (fun W => codes_59 W) rfl hg.1 hg.2 (by decide) (by decide) w
  · exact written_price 44 (M.z 26) _ rfl rfl rfl rfl rfl (hz 26) w
  · exact written_price 99 (M.z 27) _ rfl rfl rfl rfl rfl (hz 27) w
  · exact written_num 38 (M.z 28) _ rfl rfl rfl rfl rfl (hz 28) (fun q => absurd q.1 (by decide)) w
  · exact written_num 111 (M.z 29) _ rfl rfl rfl rfl rfl (hz 29) (fun q => absurd q.1 (by decide)) w
  · exact written_num 110 (M.z 30) _ rfl rfl rfl rfl rfl (hz 30) (fun q => absurd q.1 (by decide)) w
  · exact written_num 432 (M.z 31) _ rfl rfl rfl rfl rfl (hz 31) (fun q => absurd q.1 (by decide)) w
  · by_cases h0 : M.z 32 = 0
    · have e : wrS 34 M = ⟨#[78, 79, 78, 69]⟩ := by show onS (M.z 32) = _; rw [h0]; rfl
      show Calls _ _ _ _ fun e w' => e = .returned (.string (wrS 34 M)) ∧ _
      rw [e]
      exact written_none 37 (M.z 32) _ rfl rfl rfl rfl rfl rfl h0 w
    · have e : wrS 34 M = ⟨(Lib.itoa (M.z 32)).toArray⟩ := by show onS (M.z 32) = _; rw [onS, show (M.z 32 == 0) = false by simpa using h0]; rfl
      show Calls _ _ _ _ fun e w' => e = .returned (.string (wrS 34 M)) ∧ _
      rw [e]
      exact written_num 37 (M.z 32) _ rfl rfl rfl rfl rfl (hz 32) (fun q => h0 q.2) w
  · exact written_num 17 (M.z 33) _ rfl rfl rfl rfl rfl (hz 33) (fun q => absurd q.1 (by decide)) w
  · exact written_code 150 (M.z 34) 1 _ (xwd 36) (fun W => codes_150 W) rfl hg.1 hg.2 (by decide) (by decide) w
  · exact written_code 39 (M.z 35) 1 _ (xwd 37) (fun W => codes_39 W) rfl hg.1 hg.2 (by decide) (by decide) w
  · exact written_price 31 (M.z 36) _ rfl rfl rfl rfl rfl (hz 36) w
  · exact written_num 32 (M.z 37) _ rfl rfl rfl rfl rfl (hz 37) (fun q => absurd q.1 (by decide)) w
  · exact written_num 151 (M.z 38) _ rfl rfl rfl rfl rfl (hz 38) (fun q => absurd q.1 (by decide)) w
  · exact written_num 14 (M.z 39) _ rfl rfl rfl rfl rfl (hz 39) (fun q => absurd q.1 (by decide)) w
  · exact written_code 326 (M.z 40) 0 _ (xwd 42) (fun W => codes_326 W) rfl hg.1 hg.2 (by decide) (by decide) w
  · exact written_num 533 (M.z 41) _ rfl rfl rfl rfl rfl (hz 41) (fun q => absurd q.1 (by decide)) w
end Go.Proofs.YtchkpggdndnpjabGreatDoor

namespace Go.Proofs.YtchkpggdndnpjabGreatDoor
set_option linter.unusedVariables false
open Go.RowKit Go.Great

theorem SrcF.cut {w : World} {b off n cap : Nat} {fs : List Fld} (h : SrcF w (.slice (some ⟨b, off, none⟩) n cap) fs) (x e : Nat) (hx : x ≤ e) (he : e ≤ fs.length) (c : Nat) (hc : e - x ≤ c) : SrcF w (.slice (some ⟨b, off + x * 2, none⟩) (e - x) c) ((fs.take e).drop x) := by
  obtain ⟨ao, cp, e1, hcp, h⟩ := h
  injection e1 with e1 e2 e3
  have hl : ((fs.take e).drop x).length = e - x := by simp; omega
  refine ⟨_, c, by rw [hl], by rw [hl]; exact hc, ?_⟩
  rcases h with h | ⟨b', off', e4, hr⟩
  · subst h; left; simp
  · rw [← e1] at e4
    injection e4 with e4
    injection e4 with e5 e6
    subst e5 e6
    refine .inr ⟨b, off + x * 2, rfl, fun j f hj => ?_⟩
    have hj2 : fs[x + j]? = some f := by
      rw [List.getElem?_drop, List.getElem?_take] at hj
      split at hj
      · exact hj
      · cases hj
    obtain ⟨g1, g2⟩ := hr (x + j) f hj2
    rw [show off + x * 2 + j * 2 = off + (x + j) * 2 by omega]
    exact ⟨g1, g2⟩
theorem SrcF.cells {w : World} {b off n cap : Nat} {P : List Fld} (h : SrcF w (.slice (some ⟨b, off, none⟩) n cap) P) : ∀ j u, (fcs P)[j]? = some u → w.cell? ((⟨b, off, none⟩ : Addr).add j) = some u := fun j u hj => by
  obtain ⟨ao, c, e, -, h0 | ⟨b', off', e2, hc⟩⟩ := h
  · rw [h0] at hj; simp [fcs] at hj
  · injection e with e
    rw [e2] at e
    injection e with e
    injection e with e3 e4
    subst e3 e4
    have hl : j < P.length * 2 := by rw [← fcs_length]; exact (List.getElem?_eq_some_iff.1 hj).1
    obtain ⟨f, hf⟩ : ∃ f, P[j / 2]? = some f := ⟨_, List.getElem?_eq_getElem (by omega)⟩
    have h1 := fcs_at P (j / 2) f hf
    have h2 := hc (j / 2) f hf
    rw [addr_add]
    rcases (by omega : j = j / 2 * 2 ∨ j = j / 2 * 2 + 1) with q | q
    · rw [q] at hj ⊢
      rw [h1.1] at hj
      rw [← hj]
      exact h2.1
    · rw [q] at hj ⊢
      rw [h1.2] at hj
      rw [← hj, ← Nat.add_assoc]
      exact h2.2
theorem OwnF.form {w : World} {B : Nat} {v : Value} {L : List Fld} (h : OwnF w B v L) : ∃ a c, v = .slice a L.length c := by
  obtain ⟨a, c, e, -⟩ := h.src
  exact ⟨a, c, e⟩
/-- Fields behind a row of one's own. -/
theorem wpList_appF {w : World} {ops : Array Oper} {rest : List Oper} {o : Oper} {a : Act} {Q : Exit → Act → World → Prop} (hgd : o.guard = none) (s x : Operand) (ho : o.op = .call { callee := .builtin .append, args := #[s, x], argTypes := #[32, 32] })
    (B : Nat) (v : Value) (L : List Fld) (hs : a.eval s = v) (hown : OwnF w B v L) (ad : Addr) (n cap : Nat) (P : List Fld) (hn : n = P.length) (hx : a.eval x = .slice (some ad) n cap)
    (hc : ∀ j u, (fcs P)[j]? = some u → w.cell? (ad.add j) = some u) (hb : L.length + P.length ≤ 4096) (hB : B ≤ w.heap.size) (d : Option Tmp) (hd : o.dst = d) (N : Nat) (hN : N = L.length + P.length)
    (h : ∀ av c w', OwnF w' B (.slice av N c) (L ++ P) → Below B w w' → wpList Tryz.prog ops Q rest (a.put d (.slice av N c)) w') : wpList Tryz.prog ops Q (o :: rest) a w := by
  subst hd hn hs hN
  obtain ⟨i0, hi, hz0, hz1, hz2⟩ := info_parts infoF
  refine wpList_append_own _ hgd s x 32 ho B 52 i0 (.agg #[.int .i64 0, .string ⟨#[]⟩]) 2 24 Tryz.underlying32 hi hz0 hz1 hz2 rfl (by decide) _ L.length (fcs L) rfl hown ad P.length cap (fcs P) hx (fcs_length P) hc (fcs_one _) (by unfold maxLen; omega) (by omega) hB ?_
  intro v' w' hown' hgrow' hnil'
  have ho' : OwnF w' B v' (L ++ P) := by
    unfold OwnF
    rw [fcs_app, List.length_append]
    exact hown'
  obtain ⟨a', c', e⟩ := ho'.form
  rw [List.length_append] at e
  subst e
  exact h a' c' w' ho' (below_grownBy (Below.refl _ _) hgrow' hB (fun q hq => (hown.lt q hq).1))
end Go.Proofs.YtchkpggdndnpjabGreatDoor
