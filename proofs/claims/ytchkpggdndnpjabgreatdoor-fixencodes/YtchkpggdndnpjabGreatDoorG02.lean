import Derived.Test.YtchkpggdndnpjabGreatDoorG01

namespace Go.Proofs.YtchkpggdndnpjabGreatDoor
set_option linter.unusedVariables false
open Go.RowKit

set_option maxRecDepth 100000 in
set_option maxHeartbeats 400000 in
theorem isIDByte_any (c : Nat) (w : World) :
    Calls Tryz.prog 225 #[.int .u8 (c : Int)] w fun e w' => e = .returned (.bool (isIdb c)) ∧ w' = w := by
  have hc := isNameByte_any c w
  cases hp : isNm c
  · rw [hp] at hc
    by_cases h1 : 97 ≤ c ∧ c ≤ 122
    · have h1' : (97 : Int) ≤ (c : Int) := by omega
      have h2' : (c : Int) ≤ 122 := by omega
      rw [show isIdb c = true by simp [isIdb, hp, h1]]
      go_enter Tryz.func225, Tryz.ntmps225
      go_wp2_with (go_at_call 223; refine hc.mono ?_; rintro e w ⟨rfl, rfl⟩)
      go_ret
      first | exact ⟨rfl, rfl⟩ | exact ⟨ret_bool (by simp; try omega), rfl⟩
    · have key : ∀ b : Bool, ((c : Int) == 46 || (c : Int) == 95 || (c : Int) == 45) = b → isIdb c = b := fun b hb => by
        rw [← hb]
        simp only [isIdb, hp, Bool.false_or]
        rw [show (decide (97 ≤ c) && decide (c ≤ 122)) = false by simp; omega, Bool.false_or]
        have e1 : (c == 46) = ((c : Int) == 46) := by rw [Bool.eq_iff_iff]; simp; omega
        have e2 : (c == 95) = ((c : Int) == 95) := by rw [Bool.eq_iff_iff]; simp; omega
        have e3 : (c == 45) = ((c : Int) == 45) := by rw [Bool.eq_iff_iff]; simp; omega
        rw [e1, e2, e3]
      by_cases h0 : 97 ≤ c
      · have h1' : (97 : Int) ≤ (c : Int) := by omega
        have h2' : ¬ (c : Int) ≤ 122 := by omega
        clear h0 h1
        by_cases k0 : c = 46
        · subst k0
          rw [key true (by decide)]
          clear key hp
          go_enter Tryz.func225, Tryz.ntmps225
          go_wp2_with (go_at_call 223; refine hc.mono ?_; rintro e w ⟨rfl, rfl⟩)
          go_ret
          first | exact ⟨rfl, rfl⟩ | exact ⟨ret_bool (by simp; try omega), rfl⟩
        · have k0' : ¬ (c : Int) = 46 := by omega
          by_cases k1 : c = 95
          · subst k1
            rw [key true (by decide)]
            clear key hp
            go_enter Tryz.func225, Tryz.ntmps225
            go_wp2_with (go_at_call 223; refine hc.mono ?_; rintro e w ⟨rfl, rfl⟩)
            go_ret
            first | exact ⟨rfl, rfl⟩ | exact ⟨ret_bool (by simp; try omega), rfl⟩
          · have k1' : ¬ (c : Int) = 95 := by omega
            by_cases k2 : c = 45
            · subst k2
              rw [key true (by decide)]
              clear key hp
              go_enter Tryz.func225, Tryz.ntmps225
              go_wp2_with (go_at_call 223; refine hc.mono ?_; rintro e w ⟨rfl, rfl⟩)
              go_ret
              first | exact ⟨rfl, rfl⟩ | exact ⟨ret_bool (by simp; try omega), rfl⟩
            · have k2' : ¬ (c : Int) = 45 := by omega
              rw [key false (by simp; omega)]
              clear key hp
              go_enter Tryz.func225, Tryz.ntmps225
              go_wp2_with (go_at_call 223; refine hc.mono ?_; rintro e w ⟨rfl, rfl⟩)
              go_ret
              first | exact ⟨rfl, rfl⟩ | exact ⟨ret_bool (by simp; try omega), rfl⟩
      · have h1' : ¬ (97 : Int) ≤ (c : Int) := by omega
        clear h0 h1
        by_cases k0 : c = 46
        · subst k0
          rw [key true (by decide)]
          clear key hp
          go_enter Tryz.func225, Tryz.ntmps225
          go_wp2_with (go_at_call 223; refine hc.mono ?_; rintro e w ⟨rfl, rfl⟩)
          go_ret
          first | exact ⟨rfl, rfl⟩ | exact ⟨ret_bool (by simp; try omega), rfl⟩
        · have k0' : ¬ (c : Int) = 46 := by omega
          by_cases k1 : c = 95
          · subst k1
            rw [key true (by decide)]
            clear key hp
            go_enter Tryz.func225, Tryz.ntmps225
            go_wp2_with (go_at_call 223; refine hc.mono ?_; rintro e w ⟨rfl, rfl⟩)
            go_ret
            first | exact ⟨rfl, rfl⟩ | exact ⟨ret_bool (by simp; try omega), rfl⟩
          · have k1' : ¬ (c : Int) = 95 := by omega
            by_cases k2 : c = 45
            · subst k2
              rw [key true (by decide)]
              clear key hp
              go_enter Tryz.func225, Tryz.ntmps225
              go_wp2_with (go_at_call 223; refine hc.mono ?_; rintro e w ⟨rfl, rfl⟩)
              go_ret
              first | exact ⟨rfl, rfl⟩ | exact ⟨ret_bool (by simp; try omega), rfl⟩
            · have k2' : ¬ (c : Int) = 45 := by omega
              rw [key false (by simp; omega)]
              clear key hp
              go_enter Tryz.func225, Tryz.ntmps225
              go_wp2_with (go_at_call 223; refine hc.mono ?_; rintro e w ⟨rfl, rfl⟩)
              go_ret
              first | exact ⟨rfl, rfl⟩ | exact ⟨ret_bool (by simp; try omega), rfl⟩
  · rw [hp] at hc
    rw [show isIdb c = true by simp [isIdb, hp]]
    go_enter Tryz.func225, Tryz.ntmps225
    go_wp2_with (go_at_call 223; refine hc.mono ?_; rintro e w ⟨rfl, rfl⟩)
    go_ret
    first | exact ⟨rfl, rfl⟩ | exact ⟨ret_bool (by simp; try omega), rfl⟩
set_option maxRecDepth 100000 in
set_option maxHeartbeats 400000 in
theorem isTextByte_any (c : Nat) (w : World) :
    Calls Tryz.prog 224 #[.int .u8 (c : Int)] w fun e w' => e = .returned (.bool (isTxt c)) ∧ w' = w := by
  by_cases h1 : 32 ≤ c
  · have h1' : (32 : Int) ≤ (c : Int) := by omega
    by_cases h2 : c ≤ 126
    · have h2' : (c : Int) ≤ 126 := by omega
      by_cases h3 : c = 124
      · subst h3
        rw [show isTxt 124 = false by decide]
        go_enter Tryz.func224, Tryz.ntmps224
        go_wp2
        go_ret
        first | exact ⟨rfl, rfl⟩ | exact ⟨ret_bool (by simp; try omega), rfl⟩
      · have h3' : ¬ (c : Int) = 124 := by omega
        rw [show isTxt c = true by simp [isTxt, h1, h2, h3]]
        go_enter Tryz.func224, Tryz.ntmps224
        go_wp2
        go_ret
        first | exact ⟨rfl, rfl⟩ | exact ⟨ret_bool (by simp; try omega), rfl⟩
    · have h2' : ¬ (c : Int) ≤ 126 := by omega
      rw [show isTxt c = false by simp [isTxt, h2]]
      go_enter Tryz.func224, Tryz.ntmps224
      go_wp2
      go_ret
      first | exact ⟨rfl, rfl⟩ | exact ⟨ret_bool (by simp; try omega), rfl⟩
  · have h1' : ¬ (32 : Int) ≤ (c : Int) := by omega
    rw [show isTxt c = false by simp [isTxt, h1]]
    go_enter Tryz.func224, Tryz.ntmps224
    go_wp2
    go_ret
    first | exact ⟨rfl, rfl⟩ | exact ⟨ret_bool (by simp; try omega), rfl⟩
/-- All bytes of a text; of its first k. -/
def allB (p : Nat → Bool) (s : ByteArray) : Bool := s.data.toList.all fun c => p c.toNat
def allTo (p : Nat → Bool) (s : ByteArray) (k : Nat) : Bool := (s.data.toList.take k).all fun c => p c.toNat
theorem allTo_succ (p : Nat → Bool) (s : ByteArray) (k : Nat) (h : k < s.size) : allTo p s (k + 1) = (allTo p s k && p s[k].toNat) := by
  unfold allTo; rw [take_snoc s k h]; simp
theorem allTo_all (p : Nat → Bool) (s : ByteArray) : allTo p s s.size = allB p s := by
  unfold allTo allB; rw [List.take_of_length_le (by simp)]
theorem allB_false {p : Nat → Bool} {s : ByteArray} {k : Nat} (h : k < s.size) (hp : p s[k].toNat = false) : allB p s = false := by
  unfold allB
  rw [List.all_eq_false]
  exact ⟨s[k], by simp [ByteArray.getElem_eq_getElem_data], by simp [hp]⟩
set_option maxRecDepth 100000 in
set_option maxHeartbeats 400000 in
theorem consists_isNm (s : ByteArray) (w : World) (hs : s.size ≤ 60) :
    Calls Tryz.prog 222 #[.string s, .func (.func 223) #[] #[]] w fun e w' => e = .returned (.bool (allB isNm s)) ∧ w' = w := by
  go_enter Tryz.func222, Tryz.ntmps222
  go_wp2
  go_loopw [5, 8] (fun x i wr => ∃ k : Nat, k ≤ s.size ∧ i = .int .i64 k ∧ Hid (allTo isNm s k = true) ∧ wr = w) (fun _ i _ => s.size - (intOf i).toNat)
  case atStart => exact ⟨0, by omega, rfl, by show allTo _ _ _ = _; simp [allTo], rfl⟩
  case round =>
    obtain ⟨k, hk, rfl, ha, rfl⟩ := hrel
    by_cases hlt : k < s.size
    · have hlt' : (k : Int) < (s.size : Int) := by omega
      have hc : ∀ w, _ := fun w => isNameByte_any s[k].toNat w
      cases hp : isNm s[k].toNat
      · have hr : Hid (allB isNm s = false) := allB_false hlt hp
        simp only [hp] at hc
        clear hp ha
        go_wp2_with (go_at_call 223; refine (hc _).mono ?_; rintro e w ⟨rfl, rfl⟩)
        go_ret
        exact ⟨ret_bool hr.out.symm, by first | rfl | trivial⟩
      · have hr : Hid (allTo isNm s (k + 1) = true) := by show allTo _ _ _ = _; rw [allTo_succ _ _ _ hlt, hp, ha.out]; rfl
        simp only [hp] at hc
        clear hp ha
        go_wp2_with (go_at_call 223; refine (hc _).mono ?_; rintro e w ⟨rfl, rfl⟩)
        go_roundw
        case rel => exact ⟨k + 1, by omega, by go_num, hr, by first | rfl | trivial⟩
        case measure => simp [intOf]; omega
    · obtain rfl : k = s.size := by omega
      have hr : Hid (allB isNm s = true) := by show allB _ _ = _; rw [← allTo_all]; exact ha.out
      clear ha
      go_wp2
      go_ret
      exact ⟨ret_bool hr.out.symm, by first | rfl | trivial⟩
set_option maxRecDepth 100000 in
set_option maxHeartbeats 400000 in
theorem consists_isIdb (s : ByteArray) (w : World) (hs : s.size ≤ 60) :
    Calls Tryz.prog 222 #[.string s, .func (.func 225) #[] #[]] w fun e w' => e = .returned (.bool (allB isIdb s)) ∧ w' = w := by
  go_enter Tryz.func222, Tryz.ntmps222
  go_wp2
  go_loopw [5, 8] (fun x i wr => ∃ k : Nat, k ≤ s.size ∧ i = .int .i64 k ∧ Hid (allTo isIdb s k = true) ∧ wr = w) (fun _ i _ => s.size - (intOf i).toNat)
  case atStart => exact ⟨0, by omega, rfl, by show allTo _ _ _ = _; simp [allTo], rfl⟩
  case round =>
    obtain ⟨k, hk, rfl, ha, rfl⟩ := hrel
    by_cases hlt : k < s.size
    · have hlt' : (k : Int) < (s.size : Int) := by omega
      have hc : ∀ w, _ := fun w => isIDByte_any s[k].toNat w
      cases hp : isIdb s[k].toNat
      · have hr : Hid (allB isIdb s = false) := allB_false hlt hp
        simp only [hp] at hc
        clear hp ha
        go_wp2_with (go_at_call 225; refine (hc _).mono ?_; rintro e w ⟨rfl, rfl⟩)
        go_ret
        exact ⟨ret_bool hr.out.symm, by first | rfl | trivial⟩
      · have hr : Hid (allTo isIdb s (k + 1) = true) := by show allTo _ _ _ = _; rw [allTo_succ _ _ _ hlt, hp, ha.out]; rfl
        simp only [hp] at hc
        clear hp ha
        go_wp2_with (go_at_call 225; refine (hc _).mono ?_; rintro e w ⟨rfl, rfl⟩)
        go_roundw
        case rel => exact ⟨k + 1, by omega, by go_num, hr, by first | rfl | trivial⟩
        case measure => simp [intOf]; omega
    · obtain rfl : k = s.size := by omega
      have hr : Hid (allB isIdb s = true) := by show allB _ _ = _; rw [← allTo_all]; exact ha.out
      clear ha
      go_wp2
      go_ret
      exact ⟨ret_bool hr.out.symm, by first | rfl | trivial⟩
set_option maxRecDepth 100000 in
set_option maxHeartbeats 400000 in
theorem consists_isTxt (s : ByteArray) (w : World) (hs : s.size ≤ 60) :
    Calls Tryz.prog 222 #[.string s, .func (.func 224) #[] #[]] w fun e w' => e = .returned (.bool (allB isTxt s)) ∧ w' = w := by
  go_enter Tryz.func222, Tryz.ntmps222
  go_wp2
  go_loopw [5, 8] (fun x i wr => ∃ k : Nat, k ≤ s.size ∧ i = .int .i64 k ∧ Hid (allTo isTxt s k = true) ∧ wr = w) (fun _ i _ => s.size - (intOf i).toNat)
  case atStart => exact ⟨0, by omega, rfl, by show allTo _ _ _ = _; simp [allTo], rfl⟩
  case round =>
    obtain ⟨k, hk, rfl, ha, rfl⟩ := hrel
    by_cases hlt : k < s.size
    · have hlt' : (k : Int) < (s.size : Int) := by omega
      have hc : ∀ w, _ := fun w => isTextByte_any s[k].toNat w
      cases hp : isTxt s[k].toNat
      · have hr : Hid (allB isTxt s = false) := allB_false hlt hp
        simp only [hp] at hc
        clear hp ha
        go_wp2_with (go_at_call 224; refine (hc _).mono ?_; rintro e w ⟨rfl, rfl⟩)
        go_ret
        exact ⟨ret_bool hr.out.symm, by first | rfl | trivial⟩
      · have hr : Hid (allTo isTxt s (k + 1) = true) := by show allTo _ _ _ = _; rw [allTo_succ _ _ _ hlt, hp, ha.out]; rfl
        simp only [hp] at hc
        clear hp ha
        go_wp2_with (go_at_call 224; refine (hc _).mono ?_; rintro e w ⟨rfl, rfl⟩)
        go_roundw
        case rel => exact ⟨k + 1, by omega, by go_num, hr, by first | rfl | trivial⟩
        case measure => simp [intOf]; omega
    · obtain rfl : k = s.size := by omega
      have hr : Hid (allB isTxt s = true) := by show allB _ _ = _; rw [← allTo_all]; exact ha.out
      clear ha
      go_wp2
      go_ret
      exact ⟨ret_bool hr.out.symm, by first | rfl | trivial⟩
/-- Names, IDs, symbols, texts. -/
def nmS (s : ByteArray) : Bool := decide (1 ≤ s.size) && decide (s.size ≤ 12) && allB isNm s
def idS (s : ByteArray) : Bool := decide (1 ≤ s.size) && decide (s.size ≤ 20) && allB isIdb s
def byte0 (s : ByteArray) : Nat := (s.data.toList.getD 0 0).toNat
def syS (s : ByteArray) : Bool := decide (1 ≤ s.size) && decide (s.size ≤ 8) && isCap (byte0 s) && allB isNm s
def txS (s : ByteArray) : Bool := decide (s.size ≤ 60) && allB isTxt s
def tiS (s : ByteArray) : Bool := decide (s.size ≤ 20) && txS s
theorem byte0_eq (s : ByteArray) (h : 0 < s.size) : byte0 s = s[0].toNat := by
  unfold byte0
  rw [List.getD_eq_getElem?_getD, List.getElem?_eq_getElem (by simpa using h)]
  rfl
set_option maxRecDepth 100000 in
set_option maxHeartbeats 400000 in
theorem IsName_any (s : ByteArray) (w : World) :
    Calls Tryz.prog 75 #[.string s] w fun e w' => e = .returned (.bool (nmS s)) ∧ w' = w := by
  by_cases h1 : 1 ≤ s.size
  · have h1' : (1 : Int) ≤ (s.size : Int) := by omega
    by_cases h2 : s.size ≤ 12
    · have h2' : (s.size : Int) ≤ 12 := by omega
      have hc := consists_isNm s w (by omega)
      have e : nmS s = allB isNm s := by simp [nmS, h1, h2]
      rw [e]
      clear e
      generalize allB isNm s = b at *
      go_enter Tryz.func75, Tryz.ntmps75
      go_wp2_with (go_at_call 222; refine hc.mono ?_; rintro e w ⟨rfl, rfl⟩)
      go_ret
      first | exact ⟨rfl, rfl⟩ | exact ⟨ret_bool (by simp; try omega), rfl⟩
    · have h2' : ¬ (s.size : Int) ≤ 12 := by omega
      rw [show nmS s = false by simp [nmS, h2]]
      go_enter Tryz.func75, Tryz.ntmps75
      go_wp2
      go_ret
      first | exact ⟨rfl, rfl⟩ | exact ⟨ret_bool (by simp; try omega), rfl⟩
  · have h1' : ¬ (1 : Int) ≤ (s.size : Int) := by omega
    rw [show nmS s = false by simp [nmS, h1]]
    go_enter Tryz.func75, Tryz.ntmps75
    go_wp2
    go_ret
    first | exact ⟨rfl, rfl⟩ | exact ⟨ret_bool (by simp; try omega), rfl⟩
set_option maxRecDepth 100000 in
set_option maxHeartbeats 400000 in
theorem IsID_any (s : ByteArray) (w : World) :
    Calls Tryz.prog 98 #[.string s] w fun e w' => e = .returned (.bool (idS s)) ∧ w' = w := by
  by_cases h1 : 1 ≤ s.size
  · have h1' : (1 : Int) ≤ (s.size : Int) := by omega
    by_cases h2 : s.size ≤ 20
    · have h2' : (s.size : Int) ≤ 20 := by omega
      have hc := consists_isIdb s w (by omega)
      have e : idS s = allB isIdb s := by simp [idS, h1, h2]
      rw [e]
      clear e
      generalize allB isIdb s = b at *
      go_enter Tryz.func98, Tryz.ntmps98
      go_wp2_with (go_at_call 222; refine hc.mono ?_; rintro e w ⟨rfl, rfl⟩)
      go_ret
      first | exact ⟨rfl, rfl⟩ | exact ⟨ret_bool (by simp; try omega), rfl⟩
    · have h2' : ¬ (s.size : Int) ≤ 20 := by omega
      rw [show idS s = false by simp [idS, h2]]
      go_enter Tryz.func98, Tryz.ntmps98
      go_wp2
      go_ret
      first | exact ⟨rfl, rfl⟩ | exact ⟨ret_bool (by simp; try omega), rfl⟩
  · have h1' : ¬ (1 : Int) ≤ (s.size : Int) := by omega
    rw [show idS s = false by simp [idS, h1]]
    go_enter Tryz.func98, Tryz.ntmps98
    go_wp2
    go_ret
    first | exact ⟨rfl, rfl⟩ | exact ⟨ret_bool (by simp; try omega), rfl⟩
set_option maxRecDepth 100000 in
set_option maxHeartbeats 400000 in
theorem IsSymbol_any (s : ByteArray) (w : World) :
    Calls Tryz.prog 102 #[.string s] w fun e w' => e = .returned (.bool (syS s)) ∧ w' = w := by
  by_cases h1 : 1 ≤ s.size
  · have h1' : (1 : Int) ≤ (s.size : Int) := by omega
    by_cases h2 : s.size ≤ 8
    · have h2' : (s.size : Int) ≤ 8 := by omega
      have hc := consists_isNm s w (by omega)
      have hd := isCapital_any s[0].toNat w
      have h0 : 0 < s.size := h1
      have h0' : (0 : Int) < (s.size : Int) := by omega
      rw [← byte0_eq s h0] at hd
      cases hp : isCap (byte0 s)
      · rw [show syS s = false by simp [syS, hp]]
        rw [hp, byte0_eq s h0] at hd
        clear hp
        go_enter Tryz.func102, Tryz.ntmps102
        go_wp2_with (first | (go_at_call 222; refine hc.mono ?_; rintro e w ⟨rfl, rfl⟩) | (go_at_call 226; refine hd.mono ?_; rintro e w ⟨rfl, rfl⟩))
        go_ret
        first | exact ⟨rfl, rfl⟩ | exact ⟨ret_bool (by simp; try omega), rfl⟩
      · have e : syS s = allB isNm s := by simp [syS, h1, h2, hp]
        rw [e]
        rw [hp, byte0_eq s h0] at hd
        clear e hp
        generalize allB isNm s = b at *
        go_enter Tryz.func102, Tryz.ntmps102
        go_wp2_with (first | (go_at_call 222; refine hc.mono ?_; rintro e w ⟨rfl, rfl⟩) | (go_at_call 226; refine hd.mono ?_; rintro e w ⟨rfl, rfl⟩))
        go_ret
        first | exact ⟨rfl, rfl⟩ | exact ⟨ret_bool (by simp; try omega), rfl⟩
    · have h2' : ¬ (s.size : Int) ≤ 8 := by omega
      rw [show syS s = false by simp [syS, h2]]
      go_enter Tryz.func102, Tryz.ntmps102
      go_wp2
      go_ret
      first | exact ⟨rfl, rfl⟩ | exact ⟨ret_bool (by simp; try omega), rfl⟩
  · have h1' : ¬ (1 : Int) ≤ (s.size : Int) := by omega
    rw [show syS s = false by simp [syS, h1]]
    go_enter Tryz.func102, Tryz.ntmps102
    go_wp2
    go_ret
    first | exact ⟨rfl, rfl⟩ | exact ⟨ret_bool (by simp; try omega), rfl⟩
set_option maxRecDepth 100000 in
set_option maxHeartbeats 400000 in
theorem IsText_any (s : ByteArray) (w : World) :
    Calls Tryz.prog 96 #[.string s] w fun e w' => e = .returned (.bool (txS s)) ∧ w' = w := by
  by_cases h2 : s.size ≤ 60
  · have h2' : (s.size : Int) ≤ 60 := by omega
    have hc := consists_isTxt s w h2
    have e : txS s = allB isTxt s := by simp [txS, h2]
    rw [e]
    clear e
    generalize allB isTxt s = b at *
    go_enter Tryz.func96, Tryz.ntmps96
    go_wp2_with (go_at_call 222; refine hc.mono ?_; rintro e w ⟨rfl, rfl⟩)
    go_ret
    first | exact ⟨rfl, rfl⟩ | exact ⟨ret_bool (by simp; try omega), rfl⟩
  · have h2' : ¬ (s.size : Int) ≤ 60 := by omega
    rw [show txS s = false by simp [txS, h2]]
    go_enter Tryz.func96, Tryz.ntmps96
    go_wp2
    go_ret
    first | exact ⟨rfl, rfl⟩ | exact ⟨ret_bool (by simp; try omega), rfl⟩
set_option maxRecDepth 100000 in
set_option maxHeartbeats 400000 in
theorem isTestID_any (s : ByteArray) (w : World) :
    Calls Tryz.prog 86 #[.string s] w fun e w' => e = .returned (.bool (tiS s)) ∧ w' = w := by
  by_cases h2 : s.size ≤ 20
  · have h2' : (s.size : Int) ≤ 20 := by omega
    have hc := IsText_any s w
    have e : tiS s = txS s := by simp [tiS, h2]
    rw [e]
    clear e
    generalize txS s = b at *
    go_enter Tryz.func86, Tryz.ntmps86
    go_wp2_with (go_at_call 96; refine hc.mono ?_; rintro e w ⟨rfl, rfl⟩)
    go_ret
    first | exact ⟨rfl, rfl⟩ | exact ⟨ret_bool (by simp; try omega), rfl⟩
  · have h2' : ¬ (s.size : Int) ≤ 20 := by omega
    rw [show tiS s = false by simp [tiS, h2]]
    go_enter Tryz.func86, Tryz.ntmps86
    go_wp2
    go_ret
    first | exact ⟨rfl, rfl⟩ | exact ⟨ret_bool (by simp; try omega), rfl⟩
/-- What there is of a text. -/
def stT (p : ByteArray → Bool) (s : ByteArray) : Nat := if s.size = 0 then 0 else if p s then 1 else 2
theorem isEmpty_size (s : ByteArray) : s.toList.isEmpty = (s.size == 0) := by
  rw [ByteArray.toList_eq]
  show _ = (s.data.toList.length == 0)
  cases s.data.toList <;> rfl
set_option maxRecDepth 100000 in
set_option maxHeartbeats 400000 in
theorem text_nmS (s : ByteArray) (w : World) :
    Calls Tryz.prog 74 #[.string s, .func (.func 75) #[] #[]] w fun e w' => e = .returned (.int .i64 (stT nmS s : Int)) ∧ w' = w := by
  have hc := IsName_any s w
  by_cases hs : s.size = 0
  · rw [show stT nmS s = 0 by simp [stT, hs]]
    have hE : s.toList.isEmpty = true := by rw [isEmpty_size, hs]; rfl
    clear hc hs
    go_enter Tryz.func74, Tryz.ntmps74
    go_wp2
    go_ret
    first | exact ⟨rfl, rfl⟩ | exact ⟨ret_bool (by simp; try omega), rfl⟩
  · have hE : s.toList.isEmpty = false := by rw [isEmpty_size]; simp [hs]
    cases hp : nmS s
    · rw [show stT nmS s = 2 by simp [stT, hs, hp]]
      rw [hp] at hc
      clear hp
      go_enter Tryz.func74, Tryz.ntmps74
      go_wp2_with (go_at_call 75; refine hc.mono ?_; rintro e w ⟨rfl, rfl⟩)
      go_ret
      first | exact ⟨rfl, rfl⟩ | exact ⟨ret_bool (by simp; try omega), rfl⟩
    · rw [show stT nmS s = 1 by simp [stT, hs, hp]]
      rw [hp] at hc
      clear hp
      go_enter Tryz.func74, Tryz.ntmps74
      go_wp2_with (go_at_call 75; refine hc.mono ?_; rintro e w ⟨rfl, rfl⟩)
      go_ret
      first | exact ⟨rfl, rfl⟩ | exact ⟨ret_bool (by simp; try omega), rfl⟩
set_option maxRecDepth 100000 in
set_option maxHeartbeats 400000 in
theorem text_idS (s : ByteArray) (w : World) :
    Calls Tryz.prog 74 #[.string s, .func (.func 98) #[] #[]] w fun e w' => e = .returned (.int .i64 (stT idS s : Int)) ∧ w' = w := by
  have hc := IsID_any s w
  by_cases hs : s.size = 0
  · rw [show stT idS s = 0 by simp [stT, hs]]
    have hE : s.toList.isEmpty = true := by rw [isEmpty_size, hs]; rfl
    clear hc hs
    go_enter Tryz.func74, Tryz.ntmps74
    go_wp2
    go_ret
    first | exact ⟨rfl, rfl⟩ | exact ⟨ret_bool (by simp; try omega), rfl⟩
  · have hE : s.toList.isEmpty = false := by rw [isEmpty_size]; simp [hs]
    cases hp : idS s
    · rw [show stT idS s = 2 by simp [stT, hs, hp]]
      rw [hp] at hc
      clear hp
      go_enter Tryz.func74, Tryz.ntmps74
      go_wp2_with (go_at_call 98; refine hc.mono ?_; rintro e w ⟨rfl, rfl⟩)
      go_ret
      first | exact ⟨rfl, rfl⟩ | exact ⟨ret_bool (by simp; try omega), rfl⟩
    · rw [show stT idS s = 1 by simp [stT, hs, hp]]
      rw [hp] at hc
      clear hp
      go_enter Tryz.func74, Tryz.ntmps74
      go_wp2_with (go_at_call 98; refine hc.mono ?_; rintro e w ⟨rfl, rfl⟩)
      go_ret
      first | exact ⟨rfl, rfl⟩ | exact ⟨ret_bool (by simp; try omega), rfl⟩
set_option maxRecDepth 100000 in
set_option maxHeartbeats 400000 in
theorem text_syS (s : ByteArray) (w : World) :
    Calls Tryz.prog 74 #[.string s, .func (.func 102) #[] #[]] w fun e w' => e = .returned (.int .i64 (stT syS s : Int)) ∧ w' = w := by
  have hc := IsSymbol_any s w
  by_cases hs : s.size = 0
  · rw [show stT syS s = 0 by simp [stT, hs]]
    have hE : s.toList.isEmpty = true := by rw [isEmpty_size, hs]; rfl
    clear hc hs
    go_enter Tryz.func74, Tryz.ntmps74
    go_wp2
    go_ret
    first | exact ⟨rfl, rfl⟩ | exact ⟨ret_bool (by simp; try omega), rfl⟩
  · have hE : s.toList.isEmpty = false := by rw [isEmpty_size]; simp [hs]
    cases hp : syS s
    · rw [show stT syS s = 2 by simp [stT, hs, hp]]
      rw [hp] at hc
      clear hp
      go_enter Tryz.func74, Tryz.ntmps74
      go_wp2_with (go_at_call 102; refine hc.mono ?_; rintro e w ⟨rfl, rfl⟩)
      go_ret
      first | exact ⟨rfl, rfl⟩ | exact ⟨ret_bool (by simp; try omega), rfl⟩
    · rw [show stT syS s = 1 by simp [stT, hs, hp]]
      rw [hp] at hc
      clear hp
      go_enter Tryz.func74, Tryz.ntmps74
      go_wp2_with (go_at_call 102; refine hc.mono ?_; rintro e w ⟨rfl, rfl⟩)
      go_ret
      first | exact ⟨rfl, rfl⟩ | exact ⟨ret_bool (by simp; try omega), rfl⟩
set_option maxRecDepth 100000 in
set_option maxHeartbeats 400000 in
theorem text_txS (s : ByteArray) (w : World) :
    Calls Tryz.prog 74 #[.string s, .func (.func 96) #[] #[]] w fun e w' => e = .returned (.int .i64 (stT txS s : Int)) ∧ w' = w := by
  have hc := IsText_any s w
  by_cases hs : s.size = 0
  · rw [show stT txS s = 0 by simp [stT, hs]]
    have hE : s.toList.isEmpty = true := by rw [isEmpty_size, hs]; rfl
    clear hc hs
    go_enter Tryz.func74, Tryz.ntmps74
    go_wp2
    go_ret
    first | exact ⟨rfl, rfl⟩ | exact ⟨ret_bool (by simp; try omega), rfl⟩
  · have hE : s.toList.isEmpty = false := by rw [isEmpty_size]; simp [hs]
    cases hp : txS s
    · rw [show stT txS s = 2 by simp [stT, hs, hp]]
      rw [hp] at hc
      clear hp
      go_enter Tryz.func74, Tryz.ntmps74
      go_wp2_with (go_at_call 96; refine hc.mono ?_; rintro e w ⟨rfl, rfl⟩)
      go_ret
      first | exact ⟨rfl, rfl⟩ | exact ⟨ret_bool (by simp; try omega), rfl⟩
    · rw [show stT txS s = 1 by simp [stT, hs, hp]]
      rw [hp] at hc
      clear hp
      go_enter Tryz.func74, Tryz.ntmps74
      go_wp2_with (go_at_call 96; refine hc.mono ?_; rintro e w ⟨rfl, rfl⟩)
      go_ret
      first | exact ⟨rfl, rfl⟩ | exact ⟨ret_bool (by simp; try omega), rfl⟩
set_option maxRecDepth 100000 in
set_option maxHeartbeats 400000 in
theorem text_tiS (s : ByteArray) (w : World) :
    Calls Tryz.prog 74 #[.string s, .func (.func 86) #[] #[]] w fun e w' => e = .returned (.int .i64 (stT tiS s : Int)) ∧ w' = w := by
  have hc := isTestID_any s w
  by_cases hs : s.size = 0
  · rw [show stT tiS s = 0 by simp [stT, hs]]
    have hE : s.toList.isEmpty = true := by rw [isEmpty_size, hs]; rfl
    clear hc hs
    go_enter Tryz.func74, Tryz.ntmps74
    go_wp2
    go_ret
    first | exact ⟨rfl, rfl⟩ | exact ⟨ret_bool (by simp; try omega), rfl⟩
  · have hE : s.toList.isEmpty = false := by rw [isEmpty_size]; simp [hs]
    cases hp : tiS s
    · rw [show stT tiS s = 2 by simp [stT, hs, hp]]
      rw [hp] at hc
      clear hp
      go_enter Tryz.func74, Tryz.ntmps74
      go_wp2_with (go_at_call 86; refine hc.mono ?_; rintro e w ⟨rfl, rfl⟩)
      go_ret
      first | exact ⟨rfl, rfl⟩ | exact ⟨ret_bool (by simp; try omega), rfl⟩
    · rw [show stT tiS s = 1 by simp [stT, hs, hp]]
      rw [hp] at hc
      clear hp
      go_enter Tryz.func74, Tryz.ntmps74
      go_wp2_with (go_at_call 86; refine hc.mono ?_; rintro e w ⟨rfl, rfl⟩)
      go_ret
      first | exact ⟨rfl, rfl⟩ | exact ⟨ret_bool (by simp; try omega), rfl⟩

end Go.Proofs.YtchkpggdndnpjabGreatDoor
