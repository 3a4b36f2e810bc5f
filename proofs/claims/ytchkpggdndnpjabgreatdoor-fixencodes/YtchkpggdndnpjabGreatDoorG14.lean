import Derived.Test.YtchkpggdndnpjabGreatDoorG13
import Derived.Deep.RegionWith

namespace Go.Proofs.YtchkpggdndnpjabGreatDoor
set_option linter.unusedVariables false
open Go.Shelf Go.RowKit Go.Sort Go.Lib

/-- A number of digits. -/
def rdNc (l : List UInt8) : Nat := l.foldl (fun a c => a * 10 + (c.toNat - 48)) 0
theorem rdNc_snoc (l : List UInt8) (c : UInt8) : rdNc (l ++ [c]) = rdNc l * 10 + (c.toNat - 48) := by simp [rdNc, List.foldl_append]
def isDig (c : UInt8) : Bool := decide (48 ≤ c.toNat) && decide (c.toNat ≤ 57)
theorem rd_lt : ∀ (l : List UInt8) (a : Nat), (∀ c ∈ l, isDig c = true) → l.foldl (fun a c => a * 10 + (c.toNat - 48)) a < (a + 1) * 10 ^ l.length
  | [], a, _ => by simp
  | c :: l, a, h => by
    have h2 := h c (by simp)
    simp [isDig] at h2
    have h3 := rd_lt l (a * 10 + (c.toNat - 48)) (fun x hx => h x (by simp [hx]))
    rw [List.foldl_cons, List.length_cons, Nat.pow_succ]
    refine Nat.lt_of_lt_of_le h3 ?_
    rw [Nat.mul_comm (10 ^ l.length) 10, ← Nat.mul_assoc]
    exact Nat.mul_le_mul_right _ (by omega)
theorem rdNc_lt (l : List UInt8) (h : ∀ c ∈ l, isDig c = true) : rdNc l < 10 ^ l.length := by
  have := rd_lt l 0 h
  simpa [rdNc] using this
set_option maxRecDepth 100000 in
set_option maxHeartbeats 400000 in
theorem readDigits_any (s : ByteArray) (w : World) (hs : s.size ≤ 9) (hd : ∀ c ∈ s.data.toList, isDig c = true) :
    Calls Tryz.prog 323 #[.string s] w fun e w' => e = .returned (.int .i64 (rdNc s.data.toList : Int)) ∧ w' = w := by
  have HD : Hid (∀ c ∈ s.data.toList, isDig c = true) := hd
  clear hd
  go_enter Tryz.func323, Tryz.ntmps323
  go_wp2
  go_loopw [3, 7] (fun a i wr => ∃ k : Nat, k ≤ s.size ∧ i = .int .i64 k ∧ a = .int .i64 (rdNc (s.data.toList.take k) : Int) ∧ wr = w) (fun _ i _ => s.size - (intOf i).toNat)
  case atStart => exact ⟨0, by omega, rfl, rfl, rfl⟩
  case round =>
    obtain ⟨k, hk, rfl, rfl, rfl⟩ := hrel
    by_cases hlt : k < s.size
    · have hlt' : (k : Int) < (s.size : Int) := by omega
      have e1 := rdNc_snoc (s.data.toList.take k) s[k]
      rw [← take_snoc s k hlt] at e1
      have h1 := rdNc_lt (s.data.toList.take k) (fun c hc => HD.out c (List.mem_of_mem_take hc))
      have h2 : 10 ^ (s.data.toList.take k).length ≤ 10 ^ 9 := Nat.pow_le_pow_right (by decide) (by simp; omega)
      have h3 : rdNc (s.data.toList.take k) < 10 ^ 9 := Nat.lt_of_lt_of_le h1 h2
      have hc : 48 ≤ s[k].toNat ∧ s[k].toNat ≤ 57 := by
        have := HD.out s[k] (by simp [ByteArray.getElem_eq_getElem_data])
        simpa [isDig] using this
      have E1 : Hid (rdNc (s.data.toList.take (k + 1)) = rdNc (s.data.toList.take k) * 10 + (s[k].toNat - 48)) := e1
      clear e1 h1 h2
      generalize rdNc (s.data.toList.take k) = r at *
      have hc1 : (48 : Int) ≤ (s[k].toNat : Int) := by omega
      have hc2 : (s[k].toNat : Int) ≤ 57 := by omega
      go_wp2
      go_roundw
      case rel => exact ⟨k + 1, by omega, by go_num, vint (by rw [E1.out]; omega), by first | rfl | trivial⟩
      case measure => simp [intOf]; omega
    · obtain rfl : k = s.size := by omega
      go_wp2
      go_ret
      exact ⟨ret_int (by rw [List.take_of_length_le (by simp)]), by first | rfl | trivial⟩
/-- The form of a stamp. -/
def formS : ByteArray := ⟨#[48, 48, 48, 48, 48, 48, 48, 48, 45, 48, 48, 58, 48, 48, 58, 48, 48, 46, 48, 48, 48]⟩
def formAt (k : Nat) : Nat := (formS.data.toList.getD k 0).toNat
def okAt (k : Nat) (c : UInt8) : Bool := if formAt k = 48 then isDig c else c.toNat == formAt k
def formTo (s : ByteArray) (k : Nat) : Bool := (List.range k).all fun j => okAt j (s.data.toList.getD j 0)
theorem formTo_succ (s : ByteArray) (k : Nat) (h : k < s.size) : formTo s (k + 1) = (formTo s k && okAt k s[k]) := by
  have e : s.data.toList.getD k 0 = s[k] := by
    rw [List.getD_eq_getElem?_getD, List.getElem?_eq_getElem (by simpa using h)]
    rfl
  simp only [formTo, List.range_succ, List.all_append, List.all_cons, List.all_nil, Bool.and_true, e]
theorem formAt_lit (k : Nat) (h : k < 21) : ((⟨#[48, 48, 48, 48, 48, 48, 48, 48, 45, 48, 48, 58, 48, 48, 58, 48, 48, 46, 48, 48, 48]⟩ : ByteArray)[k]'h).toNat = formAt k := by
  unfold formAt
  rw [List.getD_eq_getElem?_getD, List.getElem?_eq_getElem (show k < formS.data.toList.length from h)]
  rfl
theorem okAt_dig {k : Nat} {c : UInt8} (h : formAt k = 48) : okAt k c = isDig c := by unfold okAt; rw [if_pos h]
theorem okAt_sign {k : Nat} {c : UInt8} (h : ¬ formAt k = 48) : okAt k c = (c.toNat == formAt k) := by unfold okAt; rw [if_neg h]
theorem formTo_bad {s : ByteArray} {k : Nat} (h : k < s.size) (hb : okAt k s[k] = false) : formTo s s.size = false := by
  cases hf : formTo s s.size with
  | false => rfl
  | true =>
    have : formTo s (k + 1) = true := by
      simp only [formTo, List.all_eq_true, List.mem_range] at hf ⊢
      exact fun j hj => hf j (by omega)
    rw [formTo_succ s k h, hb] at this
    simp at this
set_option maxRecDepth 100000 in
set_option maxHeartbeats 4000000 in
theorem hasStampForm_17 (s : ByteArray) (w : World) (hs : s.size = 17) :
    Calls Tryz.prog 322 #[.string s] w fun e w' => e = .returned (.bool (formTo s s.size)) ∧ ∃ q, w' = w.drewN q := by
  have hs1 : (s.size : Int) = 17 := by omega
  go_enter Tryz.func322, Tryz.ntmps322
  go_wp2
  go_loopw [14] (fun i wr => ∃ k q : Nat, k ≤ 17 ∧ i = .int .i64 k ∧ formTo s k = true ∧ wr = w.drewN q) (fun i _ => 17 - (intOf i).toNat)
  case atStart => exact ⟨0, 0, by omega, rfl, rfl, rfl⟩
  case round =>
    obtain ⟨k, q, hk, rfl, hf, hw⟩ := hrel
    have HW : Hid (wr = w.drewN q) := hw
    clear hw
    by_cases hlt : k < 17
    · have hlt' : (k : Int) < 17 := by omega
      have hlt2 : k < s.size := by omega
      have hlt3 : (k : Int) < 21 := by omega
      have hlt4 : k < 21 := by omega
      have hl := formAt_lit k hlt4
      have HF : Hid (formTo s (k + 1) = (formTo s k && okAt k s[k])) := formTo_succ s k hlt2
      have HB : Hid (okAt k s[k] = false → formTo s s.size = false) := formTo_bad hlt2
      have hcc := s[k].toNat_lt
      by_cases h48 : formAt k = 48
      · have hok := okAt_dig (c := s[k]) h48
        rw [h48] at hl
        by_cases h1 : s[k].toNat < 48
        · have h1' : (s[k].toNat : Int) < 48 := by omega
          have HX : Hid (formTo s s.size = false) := HB.out (by rw [hok]; simp [isDig]; omega)
          clear hok HF HB
          go_wp2
          go_quiet (fail)
          go_wp2
          go_ret
          exact ⟨ret_bool HX.out.symm, _, by rw [HW.out, World.drewN_drewN]⟩
        · have h1' : decide ((s[k].toNat : Int) < 48) = false := decide_eq_false (by omega)
          have h1n : decide (s[k].toNat < 48) = false := decide_eq_false (by omega)
          by_cases h2 : 57 < s[k].toNat
          · have h2' : (57 : Int) < (s[k].toNat : Int) := by omega
            have HX : Hid (formTo s s.size = false) := HB.out (by rw [hok]; simp [isDig]; omega)
            clear hok HF HB
            go_wp2
            go_quiet (fail)
            go_wp2
            go_ret
            exact ⟨ret_bool HX.out.symm, _, by rw [HW.out, World.drewN_drewN]⟩
          · have h2' : decide ((57 : Int) < (s[k].toNat : Int)) = false := decide_eq_false (by omega)
            have h2n : decide (57 < s[k].toNat) = false := decide_eq_false (by omega)
            have HX : Hid (formTo s (k + 1) = true) := by
              have h := HF.out
              rw [hf, hok] at h
              have e : isDig s[k] = true := by simp [isDig]; omega
              rw [e] at h
              exact h
            clear hok HF HB hf
            go_wp2
            go_quiet (fail)
            go_wp2
            exact ⟨⟨k + 1, _, by omega, by go_num, HX.out, by rw [HW.out, World.drewN_drewN]⟩, by simp [intOf]; omega⟩
      · have hok := okAt_sign (c := s[k]) h48
        have h48' : ¬ (formAt k : Int) = 48 := by omega
        by_cases h1 : s[k].toNat = formAt k
        · have h1' : (s[k].toNat : Int) = (formAt k : Int) := by omega
          have HX : Hid (formTo s (k + 1) = true) := by
            have h := HF.out
            rw [hf, hok] at h
            have e : (s[k].toNat == formAt k) = true := by simp [h1]
            rw [e] at h
            exact h
          clear hok HF HB hf
          generalize formAt k = f at *
          go_wp2
          go_quiet (fail)
          go_wp2
          exact ⟨⟨k + 1, _, by omega, by go_num, HX.out, by rw [HW.out, World.drewN_drewN]⟩, by simp [intOf]; omega⟩
        · have h1' : ¬ (s[k].toNat : Int) = (formAt k : Int) := by omega
          have h1b : ((s[k].toNat : Int) != (formAt k : Int)) = true := by simp; omega
          have h48b : ((formAt k : Int) != 48) = true := by simp; omega
          have HX : Hid (formTo s s.size = false) := HB.out (by rw [hok]; simp [h1])
          clear hok HF HB hf
          generalize formAt k = f at *
          go_wp2
          go_quiet (fail)
          go_wp2
          go_ret
          exact ⟨ret_bool HX.out.symm, _, by rw [HW.out, World.drewN_drewN]⟩
    · obtain rfl : k = 17 := by omega
      have HX : Hid (formTo s s.size = true) := by rw [hs]; exact hf
      clear hf
      go_wp2
      go_ret
      exact ⟨ret_bool HX.out.symm, q, HW.out⟩
set_option maxRecDepth 100000 in
set_option maxHeartbeats 4000000 in
theorem hasStampForm_21 (s : ByteArray) (w : World) (hs : s.size = 21) :
    Calls Tryz.prog 322 #[.string s] w fun e w' => e = .returned (.bool (formTo s s.size)) ∧ ∃ q, w' = w.drewN q := by
  have hs1 : (s.size : Int) = 21 := by omega
  go_enter Tryz.func322, Tryz.ntmps322
  go_wp2
  go_loopw [14] (fun i wr => ∃ k q : Nat, k ≤ 21 ∧ i = .int .i64 k ∧ formTo s k = true ∧ wr = w.drewN q) (fun i _ => 21 - (intOf i).toNat)
  case atStart => exact ⟨0, 0, by omega, rfl, rfl, rfl⟩
  case round =>
    obtain ⟨k, q, hk, rfl, hf, hw⟩ := hrel
    have HW : Hid (wr = w.drewN q) := hw
    clear hw
    by_cases hlt : k < 21
    · have hlt' : (k : Int) < 21 := by omega
      have hlt2 : k < s.size := by omega
      have hlt3 : (k : Int) < 21 := by omega
      have hlt4 : k < 21 := by omega
      have hl := formAt_lit k hlt4
      have HF : Hid (formTo s (k + 1) = (formTo s k && okAt k s[k])) := formTo_succ s k hlt2
      have HB : Hid (okAt k s[k] = false → formTo s s.size = false) := formTo_bad hlt2
      have hcc := s[k].toNat_lt
      by_cases h48 : formAt k = 48
      · have hok := okAt_dig (c := s[k]) h48
        rw [h48] at hl
        by_cases h1 : s[k].toNat < 48
        · have h1' : (s[k].toNat : Int) < 48 := by omega
          have HX : Hid (formTo s s.size = false) := HB.out (by rw [hok]; simp [isDig]; omega)
          clear hok HF HB
          go_wp2
          go_quiet (fail)
          go_wp2
          go_ret
          exact ⟨ret_bool HX.out.symm, _, by rw [HW.out, World.drewN_drewN]⟩
        · have h1' : decide ((s[k].toNat : Int) < 48) = false := decide_eq_false (by omega)
          have h1n : decide (s[k].toNat < 48) = false := decide_eq_false (by omega)
          by_cases h2 : 57 < s[k].toNat
          · have h2' : (57 : Int) < (s[k].toNat : Int) := by omega
            have HX : Hid (formTo s s.size = false) := HB.out (by rw [hok]; simp [isDig]; omega)
            clear hok HF HB
            go_wp2
            go_quiet (fail)
            go_wp2
            go_ret
            exact ⟨ret_bool HX.out.symm, _, by rw [HW.out, World.drewN_drewN]⟩
          · have h2' : decide ((57 : Int) < (s[k].toNat : Int)) = false := decide_eq_false (by omega)
            have h2n : decide (57 < s[k].toNat) = false := decide_eq_false (by omega)
            have HX : Hid (formTo s (k + 1) = true) := by
              have h := HF.out
              rw [hf, hok] at h
              have e : isDig s[k] = true := by simp [isDig]; omega
              rw [e] at h
              exact h
            clear hok HF HB hf
            go_wp2
            go_quiet (fail)
            go_wp2
            exact ⟨⟨k + 1, _, by omega, by go_num, HX.out, by rw [HW.out, World.drewN_drewN]⟩, by simp [intOf]; omega⟩
      · have hok := okAt_sign (c := s[k]) h48
        have h48' : ¬ (formAt k : Int) = 48 := by omega
        by_cases h1 : s[k].toNat = formAt k
        · have h1' : (s[k].toNat : Int) = (formAt k : Int) := by omega
          have HX : Hid (formTo s (k + 1) = true) := by
            have h := HF.out
            rw [hf, hok] at h
            have e : (s[k].toNat == formAt k) = true := by simp [h1]
            rw [e] at h
            exact h
          clear hok HF HB hf
          generalize formAt k = f at *
          go_wp2
          go_quiet (fail)
          go_wp2
          exact ⟨⟨k + 1, _, by omega, by go_num, HX.out, by rw [HW.out, World.drewN_drewN]⟩, by simp [intOf]; omega⟩
        · have h1' : ¬ (s[k].toNat : Int) = (formAt k : Int) := by omega
          have h1b : ((s[k].toNat : Int) != (formAt k : Int)) = true := by simp; omega
          have h48b : ((formAt k : Int) != 48) = true := by simp; omega
          have HX : Hid (formTo s s.size = false) := HB.out (by rw [hok]; simp [h1])
          clear hok HF HB hf
          generalize formAt k = f at *
          go_wp2
          go_quiet (fail)
          go_wp2
          go_ret
          exact ⟨ret_bool HX.out.symm, _, by rw [HW.out, World.drewN_drewN]⟩
    · obtain rfl : k = 21 := by omega
      have HX : Hid (formTo s s.size = true) := by rw [hs]; exact hf
      clear hf
      go_wp2
      go_ret
      exact ⟨ret_bool HX.out.symm, q, HW.out⟩
end Go.Proofs.YtchkpggdndnpjabGreatDoor
