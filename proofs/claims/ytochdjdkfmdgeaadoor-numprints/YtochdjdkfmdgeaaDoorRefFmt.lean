/-
  The reference's digits, Print, PrintPrice.
-/
import Derived.Test.YtochdjdkfmdgeaaDoorFmt
namespace Go.Proofs.YtochdjdkfmdgeaaDoor
set_option linter.unusedVariables false
open Go.Shelf Go.RowKit Go.Sort Go.Lib

/-- Between two rounds of digits: what has been written, and what is left. -/
def DInv (u n : Nat) (l : List UInt8) : Prop := (l = [] ∧ n = u) ∨ (l ≠ [] ∧ n = 0 ∧ l = decDigits u) ∨ (l ≠ [] ∧ n ≠ 0 ∧ decDigits n ++ l = decDigits u)
/-- The last digit of a number. -/
def dch (n : Nat) : UInt8 := UInt8.ofNat (48 + n % 10)
theorem dch_lt {n : Nat} (h : n < 10) : dch n = UInt8.ofNat (48 + n) := by unfold dch; rw [Nat.mod_eq_of_lt h]
theorem DInv_step {u n : Nat} {l : List UInt8} (h : DInv u n l) (g : l = [] ∨ n ≠ 0) : DInv u (n / 10) (dch n :: l) := by
  have key : ∀ r, decDigits n ++ l = r → (n / 10 = 0 ∧ dch n :: l = r) ∨ (n / 10 ≠ 0 ∧ decDigits (n / 10) ++ dch n :: l = r) := by
    intro r hr
    by_cases h10 : n < 10
    · left
      rw [decDigits_one h10] at hr
      exact ⟨by omega, by rw [dch_lt h10]; exact hr⟩
    · right
      rw [decDigits, dif_neg h10] at hr
      exact ⟨by omega, by rw [List.append_assoc] at hr; exact hr⟩
  have hd : decDigits n ++ l = decDigits u := by
    rcases h with ⟨rfl, rfl⟩ | ⟨h1, h2, h3⟩ | ⟨h1, h2, h3⟩
    · simp
    · rcases g with g | g
      · exact absurd g h1
      · exact absurd h2 g
    · exact h3
  rcases key _ hd with ⟨a, b⟩ | ⟨a, b⟩
  · exact .inr (.inl ⟨by simp, a, b⟩)
  · exact .inr (.inr ⟨by simp, a, b⟩)
theorem DInv_len {u n : Nat} {l : List UInt8} (h : DInv u n l) (hu : u < 18446744073709551616) : l.length ≤ 20 := by
  have := nDigits_le u hu
  rw [← decDigits_length] at this
  rcases h with ⟨rfl, rfl⟩ | ⟨h1, h2, rfl⟩ | ⟨h1, h2, h3⟩
  · simp
  · exact this
  · rw [← h3, List.length_append] at this; omega
theorem dig_slice0 (W : World) : ∀ r : Nat, r < 10 → (Instr.slice 9 (.string ⟨#[48, 49, 50, 51, 52, 53, 54, 55, 56, 57]⟩) (some (.int .u64 (r : Int))) (some (.int .u64 ((r : Int) + 1))) none).run Tryd.prog W = .ok (.string ⟨#[UInt8.ofNat (48 + r)]⟩) W
  | 0, _ => by kernel_rfl
  | 1, _ => by kernel_rfl
  | 2, _ => by kernel_rfl
  | 3, _ => by kernel_rfl
  | 4, _ => by kernel_rfl
  | 5, _ => by kernel_rfl
  | 6, _ => by kernel_rfl
  | 7, _ => by kernel_rfl
  | 8, _ => by kernel_rfl
  | 9, _ => by kernel_rfl
  | n + 10, h => absurd h (by omega)
theorem dig_slice (n : Nat) (W : World) : (Instr.slice 9 (.string ⟨#[48, 49, 50, 51, 52, 53, 54, 55, 56, 57]⟩) (some (.int .u64 ((n : Int) % 10))) (some (.int .u64 ((n : Int) % 10 + 1))) none).run Tryd.prog W = .ok (.string ⟨#[dch n]⟩) W := by
  have e : (n : Int) % 10 = ((n % 10 : Nat) : Int) := by omega
  rw [e]
  exact dig_slice0 W (n % 10) (Nat.mod_lt _ (by decide))

def strOf : Value → ByteArray
  | .string s => s
  | _ => ⟨#[]⟩
theorem cons_bytes (c : UInt8) (t : ByteArray) : ((⟨#[c]⟩ : ByteArray) ++ t).data.toList = c :: t.data.toList := by
  rw [ByteArray.data_append]; simp

set_option maxRecDepth 100000 in
set_option maxHeartbeats 400000 in
theorem digits_any (u : Nat) (hu : u < 18446744073709551616) (w : World) :
    Calls Tryd.prog 41 #[.int .u64 (u : Int)] w fun e w' => e = .returned (.string ⟨(decDigits u).toArray⟩) ∧ w' = w := by
  go_enter Tryd.func41, Tryd.ntmps41
  go_wp2
  go_loop [0, 3] (fun a s => ∃ (n : Nat) (t : ByteArray), a = .int .u64 (n : Int) ∧ s = .string t ∧ n < 18446744073709551616 ∧ DInv u n t.data.toList) (fun a s => (RowKit.intOf a).toNat + (if (strOf s).data.toList = [] then 1 else 0))
  case atStart => exact ⟨u, ⟨#[]⟩, rfl, rfl, hu, .inl ⟨rfl, rfl⟩⟩
  case round =>
    obtain ⟨n, t, rfl, rfl, hn, hi⟩ := hrel
    have HI : Hid (DInv u n t.data.toList) := hi
    have hl := DInv_len hi hu
    rw [← Lib.size_eq] at hl
    have hsz : ¬ 9223372036854775807 < 1 + t.size := by omega
    have hsl := dig_slice n
    have HE : Hid (((⟨#[dch n]⟩ : ByteArray) ++ t).data.toList = dch n :: t.data.toList) := cons_bytes _ _
    clear hi hl
    by_cases ht : t.toList = []
    · have e2 : t.toList.isEmpty = true := by simpa using ht
      have ht' : t.data.toList = [] := by rw [← Lib.toList_data]; exact ht
      have HT : Hid (t.data.toList = []) := ht'
      clear ht ht'
      go_wp2
      go_round
      case rel => exact ⟨n / 10, _, by go_num, rfl, by omega, by rw [HE.out]; exact DInv_step HI.out (.inl HT.out)⟩
      case measure =>
        show (RowKit.intOf (Value.int IntKind.u64 ((n : Int) / 10))).toNat + (if ((⟨#[dch n]⟩ : ByteArray) ++ t).data.toList = [] then 1 else 0) < (RowKit.intOf (Value.int IntKind.u64 (n : Int))).toNat + (if t.data.toList = [] then 1 else 0)
        rw [HE.out, if_neg (by simp), if_pos HT.out]
        simp [RowKit.intOf]; omega
    · have e2 : t.toList.isEmpty = false := by simpa using ht
      have HT : Hid (¬ t.data.toList = []) := by rw [← Lib.toList_data]; exact ht
      clear ht
      by_cases hn0 : 0 < (n : Int)
      · go_wp2
        go_round
        case rel => exact ⟨n / 10, _, by go_num, rfl, by omega, by rw [HE.out]; exact DInv_step HI.out (.inr (by omega))⟩
        case measure =>
          show (RowKit.intOf (Value.int IntKind.u64 ((n : Int) / 10))).toNat + (if ((⟨#[dch n]⟩ : ByteArray) ++ t).data.toList = [] then 1 else 0) < (RowKit.intOf (Value.int IntKind.u64 (n : Int))).toNat + (if t.data.toList = [] then 1 else 0)
          rw [HE.out, if_neg (by simp), if_neg HT.out]
          simp [RowKit.intOf]; omega
      · have HF : Hid (t = ⟨(decDigits u).toArray⟩) := by
          rcases HI.out with ⟨h1, _⟩ | ⟨_, _, h3⟩ | ⟨_, h2, _⟩
          · exact absurd h1 HT.out
          · exact (Lib.mk_data t).symm.trans (by rw [h3])
          · omega
        go_wp2
        go_ret
        exact ⟨ret_str HF.out, rfl⟩
theorem digits_int (v : Int) (h0 : 0 ≤ v) (h1 : v < 18446744073709551616) (w : World) :
    Calls Tryd.prog 41 #[.int .u64 v] w fun e w' => e = .returned (.string (decI v)) ∧ w' = w := by
  obtain ⟨u, rfl⟩ : ∃ u : Nat, v = u := ⟨v.toNat, by omega⟩
  exact digits_any u (by omega) w
/-- What Print tells. -/
def prB (n : Int) : ByteArray := ⟨(itoa n).toArray⟩
theorem prB_neg {n : Int} (h : n < 0) : prB n = ⟨#[45]⟩ ++ decI (magI n) := by
  unfold prB decI itoa
  rw [if_pos h, magI_neg h, show (-n).toNat = n.natAbs by omega]
  apply ByteArray.ext
  rw [ByteArray.data_append]
  apply Array.ext'
  simp
theorem prB_pos {n : Int} (h : ¬ n < 0) : prB n = decI (magI n) := by
  unfold prB decI itoa
  rw [if_neg h, magI_pos h]
set_option maxRecDepth 100000 in
set_option maxHeartbeats 400000 in
theorem refPrint_any (n : Int) (h0 : -9223372036854775808 ≤ n) (h1 : n ≤ 9223372036854775807) (w : World) :
    Calls Tryd.prog 20 #[.int .i64 n] w fun e w' => e = .returned (.string (prB n)) ∧ w' = w := by
  have hm := magI_bd h0 h1
  obtain ⟨hm0, hm1⟩ := hm
  have hz := decI_le (magI n) (by omega)
  have c1 : ¬ 9223372036854775807 < 1 + (decI (magI n)).size := by omega
  clear hz
  by_cases hn : n < 0
  · have HS : Hid (prB n = ⟨#[45]⟩ ++ decI (magI n)) := prB_neg hn
    go_enter Tryd.func20, Tryd.ntmps20
    go_wp2_with (first | (go_at_call 42; refine (size_any n h0 h1 _).mono ?_; rintro e w' ⟨rfl, rfl⟩) | (go_at_call 41; refine (digits_int _ (by omega) (by omega) _).mono ?_; rintro e w' ⟨rfl, rfl⟩))
    go_ret
    exact ⟨ret_str HS.out.symm, rfl⟩
  · have HS : Hid (prB n = decI (magI n)) := prB_pos hn
    go_enter Tryd.func20, Tryd.ntmps20
    go_wp2_with (first | (go_at_call 42; refine (size_any n h0 h1 _).mono ?_; rintro e w' ⟨rfl, rfl⟩) | (go_at_call 41; refine (digits_int _ (by omega) (by omega) _).mono ?_; rintro e w' ⟨rfl, rfl⟩))
    go_ret
    exact ⟨ret_str HS.out.symm, rfl⟩

/-! The noughts at the end. -/
theorem dec5 (r : Nat) (h : r < 10000) : (decDigits (10000 + r)).tail = [UInt8.ofNat (48 + r / 1000), UInt8.ofNat (48 + r / 100 % 10), UInt8.ofNat (48 + r / 10 % 10), UInt8.ofNat (48 + r % 10)] := by
  have e1 : (10000 + r) / 10 = 1000 + r / 10 := by omega
  have e2 : (1000 + r / 10) / 10 = 100 + r / 100 := by omega
  have e3 : (100 + r / 100) / 10 = 10 + r / 1000 := by omega
  have e4 : (10 + r / 1000) / 10 = 1 := by omega
  have f1 : (10000 + r) % 10 = r % 10 := by omega
  have f2 : (1000 + r / 10) % 10 = r / 10 % 10 := by omega
  have f3 : (100 + r / 100) % 10 = r / 100 % 10 := by omega
  have f4 : (10 + r / 1000) % 10 = r / 1000 := by omega
  rw [decDigits, dif_neg (by omega), e1, f1, decDigits, dif_neg (by omega), e2, f2, decDigits, dif_neg (by omega), e3, f3, decDigits, dif_neg (by omega), e4, f4, decDigits_one (by decide)]
  rfl
theorem ofNat48 {k : Nat} (h : k < 10) (e : UInt8.ofNat (48 + k) = 48) : k = 0 := by
  have := congrArg UInt8.toNat e
  rw [UInt8.toNat_ofNat'] at this
  have e48 : (48 : UInt8).toNat = 48 := rfl
  rw [e48] at this
  omega
theorem dropW_nil (l : List UInt8) : l.dropWhile (· == 48) = [] ↔ ∀ x ∈ l, x = 48 := by
  induction l with
  | nil => simp
  | cons c l ih =>
    by_cases h : c = 48
    · subst h; simpa using ih
    · simp [h]
theorem trim_nil (l : List UInt8) : trimRightB l 48 = [] ↔ ∀ x ∈ l, x = 48 := by
  unfold trimRightB
  rw [List.reverse_eq_nil_iff, dropW_nil]
  simp
theorem trim0_nil (r : Int) (h0 : 0 ≤ r) (h1 : r < 10000) : (trim0 (decI (10000 + r))).data.toList = [] ↔ r = 0 := by
  obtain ⟨u, rfl⟩ : ∃ u : Nat, r = u := ⟨r.toNat, by omega⟩
  have e : (trim0 (decI (10000 + (u : Int)))).data.toList = trimRightB (decDigits (10000 + u)).tail 48 := by
    show (trimRightB (decDigits (10000 + (u : Int)).toNat).toArray.toList.tail 48).toArray.toList = _
    rw [show (10000 + (u : Int)).toNat = 10000 + u by omega]
  rw [e, trim_nil, dec5 u (by omega)]
  constructor
  · intro h
    have a := ofNat48 (k := u / 1000) (by omega) (h _ (by simp))
    have b := ofNat48 (k := u / 100 % 10) (by omega) (h _ (by simp))
    have c := ofNat48 (k := u / 10 % 10) (by omega) (h _ (by simp))
    have d := ofNat48 (k := u % 10) (by omega) (h _ (by simp))
    omega
  · intro h
    have : u = 0 := by omega
    subst this
    simp

/-- Between two rounds: the first j bytes of what stood behind the first one are left, the others were noughts. -/
def TInv (D t : ByteArray) : Prop := ∃ j, j ≤ D.data.toList.tail.length ∧ t.data.toList = D.data.toList.tail.take j ∧ ∀ i b, j ≤ i → D.data.toList.tail[i]? = some b → b = 48
theorem TInv_start (D : ByteArray) : TInv D (D.extract 1 D.size) :=
  ⟨_, Nat.le_refl _, by rw [tail_data, List.take_length], fun i b h g => by rw [List.getElem?_eq_none h] at g; cases g⟩
theorem TInv_step {D t : ByteArray} (h : TInv D t) (k : Nat) (hk : t.size = k + 1) (h48 : (t[k].toNat : Int) = 48) : TInv D (t.extract 0 k) := by
  obtain ⟨j, hj, e, hz⟩ := h
  have hs : t.data.toList.length = k + 1 := by rw [← Lib.size_eq]; exact hk
  have hjk : j = k + 1 := by rw [e, List.length_take] at hs; omega
  refine ⟨k, by omega, ?_, fun i b hi hg => ?_⟩
  · rw [Lib.extract_data]
    simp only [List.drop_zero, Nat.sub_zero]
    rw [e, List.take_take, Nat.min_eq_left (by omega)]
  · by_cases hik : i = k
    · subst hik
      have g := get_at t i (by omega)
      rw [e, List.getElem?_take_of_lt (by omega), hg] at g
      have g2 : b = t[i] := Option.some.inj g
      rw [g2]; exact toNat48 h48
    · exact hz i b (by omega) hg
theorem TInv_end {D t : ByteArray} (h : TInv D t) (g : t.data.toList = [] ∨ ∃ k, ∃ hk : t.size = k + 1, ¬ ((t[k]'(by omega)).toNat : Int) = 48) : trim0 D = t := by
  obtain ⟨j, hj, e, hz⟩ := h
  have key : trimRightB D.data.toList.tail 48 = D.data.toList.tail.take j := by
    refine trimRightB_take _ _ j hj (fun i b hi hb => hz i b hi hb) (fun b hj0 hb => ?_)
    rcases g with g | ⟨k, hk, h48⟩
    · rw [e] at g
      have := congrArg List.length g
      rw [List.length_take, Nat.min_eq_left hj] at this
      exact absurd this (by simp; omega)
    · have hs : t.data.toList.length = k + 1 := by rw [← Lib.size_eq]; exact hk
      have hjk : j = k + 1 := by rw [e, List.length_take] at hs; omega
      have g2 := get_at t k (by omega)
      rw [e, List.getElem?_take_of_lt (by omega)] at g2
      rw [show j - 1 = k by omega, g2] at hb
      intro hb48
      apply h48
      have g3 : t[k] = b := Option.some.inj hb
      rw [g3, hb48]; rfl
  unfold trim0
  rw [key, ← e]

set_option maxRecDepth 100000 in
set_option maxHeartbeats 1000000 in
theorem refPrintPrice_any (n : Int) (h0 : -9223372036854775808 ≤ n) (h1 : n ≤ 9223372036854775807) (w : World) :
    Calls Tryd.prog 22 #[.int .i64 n] w fun e w' => e = .returned (.string (ppB n)) ∧ w' = w := by
  have hm := magI_bd h0 h1
  obtain ⟨hm0, hm1⟩ := hm
  have hz := decI_size (10000 + magI n % 10000)
  have hz2 := decI_le (10000 + magI n % 10000) (by omega)
  have hz3 := decI_le (magI n / 10000) (by omega)
  have hz4 := trim0_le (decI (10000 + magI n % 10000))
  have c1 : ¬ 9223372036854775807 < 1 + (decI (magI n / 10000)).size := by omega
  have c2 : ¬ 9223372036854775807 < 1 + (decI (magI n / 10000)).size + 1 := by omega
  have c4 : ¬ 9223372036854775807 < (decI (magI n / 10000)).size + 1 := by omega
  have HC3 : Hid (1 + (decI (magI n / 10000)).size + 1 + (trim0 (decI (10000 + magI n % 10000))).size ≤ 1000) := by show _ ≤ _; omega
  have HN : Hid ((trim0 (decI (10000 + magI n % 10000))).data.toList = [] ↔ magI n % 10000 = 0) := trim0_nil _ (by omega) (by omega)
  have HB0 : Hid (magI n % 10000 = 0 → ppB n = ppS n) := fun h => if_pos h
  have HB1 : Hid (¬ magI n % 10000 = 0 → ppB n = ppS n ++ ⟨#[46]⟩ ++ trim0 (decI (10000 + magI n % 10000))) := fun h => if_neg h
  have HS0 : Hid (n < 0 → ppS n = ⟨#[45]⟩ ++ decI (magI n / 10000)) := fun h => if_pos h
  have HS1 : Hid (¬ n < 0 → ppS n = decI (magI n / 10000)) := fun h => if_neg h
  clear hz3 hz4
  by_cases hn : n < 0
  · have HS : Hid (ppS n = ⟨#[45]⟩ ++ decI (magI n / 10000)) := HS0.out hn
    clear HS0 HS1
    go_enter Tryd.func22, Tryd.ntmps22
    go_wp2_with (first | (go_at_call 42; refine (size_any n h0 h1 _).mono ?_; rintro e w' ⟨rfl, rfl⟩) | (go_at_call 41; refine (digits_int _ (by omega) (by omega) _).mono ?_; rintro e w' ⟨rfl, rfl⟩))
    generalize decI (10000 + magI n % 10000) = D at *
    go_loop [5] (fun p => ∃ t : ByteArray, p = .string t ∧ TInv D t ∧ t.size ≤ 20) (fun p => (strOf p).size)
    case atStart => exact ⟨_, rfl, TInv_start D, Nat.le_trans (tail_size D) hz2⟩
    case round =>
      obtain ⟨t, rfl, hi, ht20⟩ := hrel
      have HI : Hid (TInv D t) := hi
      clear hi
      by_cases ht : t.toList = []
      · have e2 : t.toList.isEmpty = true := by simpa using ht
        have HE : Hid (t.data.toList = []) := by rw [← Lib.toList_data]; exact ht
        have HT : Hid (trim0 D = t) := TInv_end HI.out (.inl HE.out)
        have HF : Hid (ppB n = ⟨#[45]⟩ ++ decI (magI n / 10000)) := (HB0.out (HN.out.1 (by rw [HT.out]; exact HE.out))).trans HS.out
        clear ht
        go_wp2
        go_ret
        exact ⟨ret_str HF.out.symm, rfl⟩
      · have e2 : t.toList.isEmpty = false := by simpa using ht
        obtain ⟨k, hk⟩ : ∃ k, t.size = k + 1 := ⟨t.size - 1, by have := size_pos ht; omega⟩
        have HE : Hid (¬ t.data.toList = []) := by rw [← Lib.toList_data]; exact ht
        have hkk : (k : Int) < (k : Int) + 1 := by omega
        clear ht
        by_cases h48 : (t[k].toNat : Int) = 48
        · have h48' : ((t[k].toNat : Int) == 48) = true := by simpa using h48
          have HX : Hid (TInv D (t.extract 0 k)) := TInv_step HI.out k hk h48
          have HY : Hid ((t.extract 0 k).size = k) := by show (t.extract 0 k).size = k; rw [ByteArray.size_extract]; omega
          clear h48
          go_wp2
          go_round
          case rel => exact ⟨_, rfl, HX.out, by rw [HY.out]; omega⟩
          case measure =>
            show (t.extract 0 k).size < t.size
            rw [HY.out]; omega
        · have h48' : ((t[k].toNat : Int) == 48) = false := by simpa using h48
          have HT : Hid (trim0 D = t) := TInv_end HI.out (.inr ⟨k, hk, h48⟩)
          have HF : Hid (ppB n = ⟨#[45]⟩ ++ decI (magI n / 10000) ++ ⟨#[46]⟩ ++ t) := by
            have h := HB1.out (fun h => HE.out (by rw [← HT.out]; exact HN.out.2 h))
            rw [HT.out, HS.out] at h; exact h
          have c3 : ¬ 9223372036854775807 < 1 + (decI (magI n / 10000)).size + 1 + (k + 1) := by
            have h := HC3.out
            rw [HT.out] at h; omega
          clear h48
          go_wp2
          go_ret
          exact ⟨ret_str HF.out.symm, rfl⟩
  · have HS : Hid (ppS n = decI (magI n / 10000)) := HS1.out hn
    clear HS0 HS1
    go_enter Tryd.func22, Tryd.ntmps22
    go_wp2_with (first | (go_at_call 42; refine (size_any n h0 h1 _).mono ?_; rintro e w' ⟨rfl, rfl⟩) | (go_at_call 41; refine (digits_int _ (by omega) (by omega) _).mono ?_; rintro e w' ⟨rfl, rfl⟩))
    generalize decI (10000 + magI n % 10000) = D at *
    go_loop [5] (fun p => ∃ t : ByteArray, p = .string t ∧ TInv D t ∧ t.size ≤ 20) (fun p => (strOf p).size)
    case atStart => exact ⟨_, rfl, TInv_start D, Nat.le_trans (tail_size D) hz2⟩
    case round =>
      obtain ⟨t, rfl, hi, ht20⟩ := hrel
      have HI : Hid (TInv D t) := hi
      clear hi
      by_cases ht : t.toList = []
      · have e2 : t.toList.isEmpty = true := by simpa using ht
        have HE : Hid (t.data.toList = []) := by rw [← Lib.toList_data]; exact ht
        have HT : Hid (trim0 D = t) := TInv_end HI.out (.inl HE.out)
        have HF : Hid (ppB n = decI (magI n / 10000)) := (HB0.out (HN.out.1 (by rw [HT.out]; exact HE.out))).trans HS.out
        clear ht
        go_wp2
        go_ret
        exact ⟨ret_str HF.out.symm, rfl⟩
      · have e2 : t.toList.isEmpty = false := by simpa using ht
        obtain ⟨k, hk⟩ : ∃ k, t.size = k + 1 := ⟨t.size - 1, by have := size_pos ht; omega⟩
        have HE : Hid (¬ t.data.toList = []) := by rw [← Lib.toList_data]; exact ht
        have hkk : (k : Int) < (k : Int) + 1 := by omega
        clear ht
        by_cases h48 : (t[k].toNat : Int) = 48
        · have h48' : ((t[k].toNat : Int) == 48) = true := by simpa using h48
          have HX : Hid (TInv D (t.extract 0 k)) := TInv_step HI.out k hk h48
          have HY : Hid ((t.extract 0 k).size = k) := by show (t.extract 0 k).size = k; rw [ByteArray.size_extract]; omega
          clear h48
          go_wp2
          go_round
          case rel => exact ⟨_, rfl, HX.out, by rw [HY.out]; omega⟩
          case measure =>
            show (t.extract 0 k).size < t.size
            rw [HY.out]; omega
        · have h48' : ((t[k].toNat : Int) == 48) = false := by simpa using h48
          have HT : Hid (trim0 D = t) := TInv_end HI.out (.inr ⟨k, hk, h48⟩)
          have HF : Hid (ppB n = decI (magI n / 10000) ++ ⟨#[46]⟩ ++ t) := by
            have h := HB1.out (fun h => HE.out (by rw [← HT.out]; exact HN.out.2 h))
            rw [HT.out, HS.out] at h; exact h
          have c3 : ¬ 9223372036854775807 < (decI (magI n / 10000)).size + 1 + (k + 1) := by
            have h := HC3.out
            rw [HT.out] at h; omega
          clear h48
          go_wp2
          go_ret
          exact ⟨ret_str HF.out.symm, rfl⟩
end Go.Proofs.YtochdjdkfmdgeaaDoor
