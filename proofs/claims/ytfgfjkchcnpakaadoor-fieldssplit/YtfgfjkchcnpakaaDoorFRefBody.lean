/-
  The reference of fields: body.
-/
import Derived.Test.YtfgfjkchcnpakaaDoorFRefHead
namespace Go.Proofs.YtfgfjkchcnpakaaDoor
set_option linter.unusedVariables false
open Go.RowKit

def zi (n : Int) : Value := .int .i64 n
/-- What body tells. -/
def RefBodyRet (l : List UInt8) (x : Ending) : Prop :=
  (pre l headL < 12 ∧ x = .returned (.tuple #[.int .i64 0, .int .i64 0, .int .i64 0, .int .i64 (pre l headL : Int), .int .i64 40])) ∨
  (¬ pre l headL < 12 ∧ (numEnd l 12 = 12 ∨ l[numEnd l 12]? ≠ some 1) ∧ x = .returned (.tuple #[.int .i64 0, .int .i64 0, .int .i64 0, .int .i64 (numEnd l 12 : Int), .int .i64 40])) ∨
  (¬ pre l headL < 12 ∧ numEnd l 12 ≠ 12 ∧ l[numEnd l 12]? = some 1 ∧ x = .returned (.tuple #[.int .i64 ((numEnd l 12 : Int) + 1), .int .i64 (val ((l.drop 12).take (numEnd l 12 - 12))), .int .i64 12, .int .i64 0, .int .i64 0]))
theorem val_take (l : List UInt8) (k : Nat) (c : UInt8) (h : 12 ≤ k) (hc : l[k]? = some c) : val ((l.drop 12).take (k + 1 - 12)) = val ((l.drop 12).take (k - 12)) * 10 + ((c.toNat : Int) - 48) := by
  obtain ⟨hk, e⟩ := List.getElem?_eq_some_iff.1 hc
  have hj : k - 12 < (l.drop 12).length := by simp; omega
  rw [show k + 1 - 12 = (k - 12) + 1 by omega, List.take_succ_eq_append_getElem hj, val_app]
  have : (l.drop 12)[k - 12] = c := by
    rw [List.getElem_drop, ← e]
    congr 1; omega
  rw [this]
theorem pow_small {k : Nat} (h : k < 16) : 10 ^ (k - 12) ≤ 1000 := by
  have : (10 : Nat) ^ (k - 12) ≤ 10 ^ 3 := Nat.pow_le_pow_right (by decide) (by omega)
  omega
theorem pow_step {k : Nat} (h : 12 ≤ k) : 10 ^ (k + 1 - 12) = 10 ^ (k - 12) * 10 := by rw [show k + 1 - 12 = (k - 12) + 1 by omega, Nat.pow_succ]
set_option maxRecDepth 100000 in
set_option maxHeartbeats 8000000 in
theorem refBody_any (s : ByteArray) (w : World) (hs : s.size ≤ 1024) :
    Calls Tryd.prog 54 #[.string s] w fun e w' => RefBodyRet s.data.toList e ∧ ∃ q, w' = w.drewN q := by
  have h1 := refBegins_any s ⟨#[56, 61, 70, 73, 88, 46, 52, 46, 52, 1, 57, 61]⟩ w (by unfold maxLen; omega) (by decide)
  have hh : (⟨#[56, 61, 70, 73, 88, 46, 52, 46, 52, 1, 57, 61]⟩ : ByteArray).data.toList = headL := rfl
  have hhs : (⟨#[56, 61, 70, 73, 88, 46, 52, 46, 52, 1, 57, 61]⟩ : ByteArray).size = 12 := rfl
  rw [hh, hhs] at h1
  clear hh
  by_cases hp : pre s.data.toList headL < 12
  · have hpd : decide (12 ≤ pre s.data.toList headL) = false := decide_eq_false (by omega)
    have HR : Hid (∀ x, x = .returned (.tuple #[.int .i64 0, .int .i64 0, .int .i64 0, .int .i64 (pre s.data.toList headL : Int), .int .i64 40]) → RefBodyRet s.data.toList x) := fun x hx => .inl ⟨hp, hx⟩
    rw [hpd] at h1
    generalize pre s.data.toList headL = p at *
    generalize hRR : RefBodyRet s.data.toList = RR at *
    clear hpd hp hRR
    go_enter Tryd.func54, Tryd.ntmps54
    go_wp2_with (go_at_call 55; fail)
    refine h1.mono ?_
    rintro e w1 ⟨rfl, hw1⟩
    go_wp2
    refine bodyPost_ret (results_tmp5 rfl _ _ _) rfl ?_
    exact ⟨HR.out _ rfl, hw1⟩
  · have hpd : decide (12 ≤ pre s.data.toList headL) = true := decide_eq_true (by omega)
    rw [hpd] at h1
    have HB : Hid (∀ x, (numEnd s.data.toList 12 = 12 ∨ s.data.toList[numEnd s.data.toList 12]? ≠ some 1) → x = .returned (.tuple #[.int .i64 0, .int .i64 0, .int .i64 0, .int .i64 (numEnd s.data.toList 12 : Int), .int .i64 40]) → RefBodyRet s.data.toList x) := fun x h hx => .inr (.inl ⟨hp, h, hx⟩)
    have HG : Hid (∀ x, numEnd s.data.toList 12 ≠ 12 → s.data.toList[numEnd s.data.toList 12]? = some 1 → x = .returned (.tuple #[.int .i64 ((numEnd s.data.toList 12 : Int) + 1), .int .i64 (val ((s.data.toList.drop 12).take (numEnd s.data.toList 12 - 12))), .int .i64 12, .int .i64 0, .int .i64 0]) → RefBodyRet s.data.toList x) := fun x h h2 hx => .inr (.inr ⟨hp, h, h2, hx⟩)
    have h12 : 12 ≤ s.size := by have := pre_le' s.data.toList headL; rw [size_data] at this; omega
    generalize pre s.data.toList headL = p at *
    generalize hRR : RefBodyRet s.data.toList = RR at *
    clear hpd hp hRR
    have HL : Hid (∀ k, 12 ≤ k → k < numEnd s.data.toList 12 → k < 16 ∧ (∃ c, s.data.toList[k]? = some c ∧ dig c = true) ∧ (k = 12 ∨ 0 < val ((s.data.toList.drop 12).take (k - 12)))) := fun k h1 h2 => ne_lt _ k h1 h2
    have HE : Hid _ := ne_eq s.data.toList
    have hne16 := numEnd_four s.data.toList 12
    have hne12 := numEnd_ge s.data.toList 12
    have hnes := numEnd_le s.data.toList 12 (by rw [size_data]; exact h12)
    rw [size_data] at hnes
    obtain ⟨z, hz⟩ : ∃ z, numEnd s.data.toList 12 = z := ⟨_, rfl⟩
    rw [hz] at HB HG HL HE hne16 hne12 hnes
    clear hz
    go_enter Tryd.func54, Tryd.ntmps54
    go_wp2_with (go_at_call 55; fail)
    refine h1.mono ?_
    rintro e w1 ⟨rfl, hw1⟩
    have HW : Hid (∃ q, w1 = w.drewN q) := hw1
    clear hw1 h1
    go_wp2
    go_loopw [10, 11] (fun vn vi wr => ∃ (k n : Nat), 12 ≤ k ∧ k ≤ z ∧ vi = .int .i64 (k : Int) ∧ vn = .int .i64 (n : Int) ∧ (n : Int) = val ((s.data.toList.drop 12).take (k - 12)) ∧ n < 10 ^ (k - 12) ∧ wr = w1) (fun _ i _ => z - (intOf i).toNat)
    case atStart => exact ⟨12, 0, by omega, by omega, rfl, rfl, by simp [val], by decide, rfl⟩
    case round =>
      obtain ⟨k, n, hk, hkz, rfl, rfl, hv, hb, hw⟩ := hrel
      have hw' := hw.symm
      subst hw'
      clear hw
      by_cases hlt : k < z
      · obtain ⟨h16, ⟨c, hc, hdc⟩, hor⟩ := HL.out k hk hlt
        have hks : k < s.size := by rw [← size_data]; exact (List.getElem?_eq_some_iff.1 hc).1
        have hsk : s[k] = c := by rw [get_at s k hks] at hc; simpa using hc
        have hks' : (k : Int) < (s.size : Int) := by omega
        have h16' : (k : Int) < 16 := by omega
        have hdg : dig s[k] = true := by rw [hsk]; exact hdc
        have hbd := (dig_iff _).1 hdg
        have hp := pow_small h16
        have hps := pow_step hk
        have HS : Hid ((((n * 10 + (s[k].toNat - 48) : Nat)) : Int) = val ((s.data.toList.drop 12).take (k + 1 - 12)) ∧ n * 10 + (s[k].toNat - 48) < 10 ^ (k + 1 - 12)) := by
          constructor
          · rw [val_take _ k c hk hc, ← hv, hsk]
            rw [hsk] at hbd
            omega
          · rw [hps]
            omega
        rw [← hv] at hor
        have hn999 : n < 1000 := by omega
        clear hv hb hp hps hc hsk hdc
        obtain ⟨hb1, hb2⟩ := hbd
        by_cases e12 : k = 12
        · subst e12
          go_wp2_with (go_at_call 56; refine (refDigit_any _ _).mono ?_; rintro e w' ⟨rfl, rfl⟩)
          exact ⟨⟨13, n * 10 + (s[12].toNat - 48), by omega, by omega, rfl, congrArg (Value.int .i64) (by omega), HS.out.1, HS.out.2, by first | rfl | trivial⟩, by simp [intOf]; omega⟩
        · have hn0 : 0 < n := by
            rcases hor with h | h
            · exact absurd h e12
            · omega
          have hn0' : (0 : Int) < (n : Int) := by omega
          have he : ((k : Int) == 12) = false := by
            have : ¬ (k : Int) = 12 := by omega
            simpa using this
          clear hor
          go_wp2_with (go_at_call 56; refine (refDigit_any _ _).mono ?_; rintro e w' ⟨rfl, rfl⟩)
          exact ⟨⟨k + 1, n * 10 + (s[k].toNat - 48), by omega, by omega, by go_num, congrArg (Value.int .i64) (by omega), HS.out.1, HS.out.2, by first | rfl | trivial⟩, by simp [intOf]; omega⟩
      · obtain rfl : k = z := by omega
        have hn4 : n < 10000 := by
          have : (10 : Nat) ^ (k - 12) ≤ 10 ^ 4 := Nat.pow_le_pow_right (by decide) (by omega)
          omega
        have HV : Hid ((n : Int) = val ((s.data.toList.drop 12).take (k - 12))) := hv
        clear hv hb HL
        -- why the loop ends
        have why : (decide ((k : Int) < (s.size : Int)) = false ∧ decide (k < s.size) = false) ∨ (∃ h : k < s.size, (k : Int) < (s.size : Int) ∧ decide ((k : Int) < 16) = false ∧ decide (k < 16) = false) ∨ (∃ h : k < s.size, (k : Int) < (s.size : Int) ∧ (k : Int) < 16 ∧ dig s[k] = false) ∨ (∃ h : k < s.size, (k : Int) < (s.size : Int) ∧ (k : Int) < 16 ∧ dig s[k] = true ∧ ((k : Int) == 12) = false ∧ n = 0) := by
          by_cases hks : k < s.size
          · by_cases h16 : k < 16
            · cases hd : dig s[k] with
              | false => exact .inr (.inr (.inl ⟨hks, by omega, by omega, hd⟩))
              | true =>
                rcases HE.out with h | h | ⟨c, hc, hdc⟩ | ⟨h, hv0⟩
                · rw [size_data] at h; omega
                · omega
                · rw [get_at s k hks] at hc; injection hc with hc; rw [hc, hdc] at hd; cases hd
                · have h12 : ¬ (k : Int) = 12 := by omega
                  exact .inr (.inr (.inr ⟨hks, by omega, by omega, hd, by simpa using h12, by have := HV.out; omega⟩))
            · exact .inr (.inl ⟨hks, by omega, decide_eq_false (by omega), decide_eq_false h16⟩)
          · exact .inl ⟨decide_eq_false (by omega), decide_eq_false hks⟩
        clear HE
        by_cases e12 : k = 12
        · have HX : Hid (∀ x, x = .returned (.tuple #[.int .i64 0, .int .i64 0, .int .i64 0, .int .i64 12, .int .i64 40]) → RR x) := fun x hx => HB.out x (.inl e12) (by rw [hx, e12]; rfl)
          subst e12
          clear HB HG
          rcases why with ⟨y1, y2⟩ | ⟨hks, y1, y2, y3⟩ | ⟨hks, y1, y2, y3⟩ | ⟨hks, y1, y2, y3, y4, y5⟩
          · have y1b : decide ((12 : Int) < (s.size : Int)) = false := decide_eq_false (by have := of_decide_eq_false y2; omega)
            go_wp2
            refine bodyPost_ret (results_tmp5 rfl _ _ _) rfl ?_
            exact ⟨HX.out _ rfl, HW.out⟩
          · cases y3
          · have y1b : (12 : Int) < (s.size : Int) := by omega
            have hD := fun w => refDigit_any s[12] w
            rw [y3] at hD
            have HD : Hid _ := hD
            clear y3 hD
            go_wp2_with (go_at_call 56; refine (HD.out _).mono ?_; rintro e w' ⟨rfl, rfl⟩)
            refine bodyPost_ret (results_tmp5 rfl _ _ _) rfl ?_
            exact ⟨HX.out _ rfl, HW.out⟩
          · cases y4
        · have e12b : ((k : Int) == 12) = false := by
            have : ¬ (k : Int) = 12 := by omega
            simpa using this
          by_cases hks0 : k < s.size
          · have hks0' : (k : Int) < (s.size : Int) := by omega
            have hge : decide ((s.size : Int) ≤ (k : Int)) = false := decide_eq_false (by omega)
            have hge2 : decide (s.size ≤ k) = false := decide_eq_false (by omega)
            by_cases h1 : s[k] = 1
            · have h1' : (s[k].toNat : Int) = 1 := by rw [h1]; rfl
              have h1n : ((s[k].toNat : Int) != 1) = false := by simpa using h1'
              have HX : Hid (∀ x, x = .returned (.tuple #[.int .i64 ((k : Int) + 1), .int .i64 (n : Int), .int .i64 12, .int .i64 0, .int .i64 0]) → RR x) := fun x hx => HG.out x e12 (by rw [get_at s k hks0, h1]) (by rw [hx, HV.out])
              clear h1 HB HG
              rcases why with ⟨y1, y2⟩ | ⟨hks, y1, y2, y3⟩ | ⟨hks, y1, y2, y3⟩ | ⟨hks, y1, y2, y3, y4, y5⟩
              · rw [decide_eq_true hks0] at y2; cases y2
              · go_wp2
                refine bodyPost_ret (results_tmp5 rfl _ _ _) rfl ?_
                exact ⟨HX.out _ rfl, HW.out⟩
              · have hD : ∀ w, Calls Tryd.prog 56 #[.int .u8 1] w fun e w' => e = .returned (.bool false) ∧ w' = w := fun w => by
                  have h := refDigit_any 1 w
                  rw [show dig 1 = false by decide] at h
                  exact h
                have HD : Hid _ := hD
                clear y3 hD
                go_wp2_with (go_at_call 56; refine (HD.out _).mono ?_; rintro e w' ⟨rfl, rfl⟩)
                refine bodyPost_ret (results_tmp5 rfl _ _ _) rfl ?_
                exact ⟨HX.out _ rfl, HW.out⟩
              · have hbad : dig s[k] = false := by
                  cases hd : dig s[k] with
                  | false => rfl
                  | true => have := (dig_iff _).1 hd; omega
                rw [hbad] at y3; cases y3
            · have h1' : ¬ (s[k].toNat : Int) = 1 := fun h => h1 (u8_of_nat (b := 1) h)
              have h1n : ((s[k].toNat : Int) != 1) = true := by simpa using h1'
              have HX : Hid (∀ x, x = .returned (.tuple #[.int .i64 0, .int .i64 0, .int .i64 0, .int .i64 (k : Int), .int .i64 40]) → RR x) := fun x hx => HB.out x (.inr (by rw [get_at s k hks0]; simpa using h1)) hx
              clear h1 HB HG
              rcases why with ⟨y1, y2⟩ | ⟨hks, y1, y2, y3⟩ | ⟨hks, y1, y2, y3⟩ | ⟨hks, y1, y2, y3, y4, y5⟩
              · rw [decide_eq_true hks0] at y2; cases y2
              · go_wp2
                refine bodyPost_ret (results_tmp5 rfl _ _ _) rfl ?_
                exact ⟨HX.out _ rfl, HW.out⟩
              · have hD := fun w => refDigit_any s[k] w
                rw [y3] at hD
                have HD : Hid _ := hD
                clear y3 hD
                go_wp2_with (go_at_call 56; refine (HD.out _).mono ?_; rintro e w' ⟨rfl, rfl⟩)
                refine bodyPost_ret (results_tmp5 rfl _ _ _) rfl ?_
                exact ⟨HX.out _ rfl, HW.out⟩
              · subst y5
                have hD := fun w => refDigit_any s[k] w
                rw [y3] at hD
                have HD : Hid _ := hD
                clear y3 hD
                go_wp2_with (go_at_call 56; refine (HD.out _).mono ?_; rintro e w' ⟨rfl, rfl⟩)
                refine bodyPost_ret (results_tmp5 rfl _ _ _) rfl ?_
                exact ⟨HX.out _ rfl, HW.out⟩
          · have hge : decide ((s.size : Int) ≤ (k : Int)) = true := decide_eq_true (by omega)
            have hge2 : decide (s.size ≤ k) = true := decide_eq_true (by omega)
            have hge3 : (s.size : Int) ≤ (k : Int) := by omega
            have HX : Hid (∀ x, x = .returned (.tuple #[.int .i64 0, .int .i64 0, .int .i64 0, .int .i64 (k : Int), .int .i64 40]) → RR x) := fun x hx => HB.out x (.inr (by rw [get_no s k hks0]; simp)) hx
            rcases why with ⟨y1, y2⟩ | ⟨hks, y1, y2, y3⟩ | ⟨hks, y1, y2, y3⟩ | ⟨hks, y1, y2, y3, y4, y5⟩
            · go_wp2
              refine bodyPost_ret (results_tmp5 rfl _ _ _) rfl ?_
              exact ⟨HX.out _ rfl, HW.out⟩
            · omega
            · omega
            · omega
end Go.Proofs.YtfgfjkchcnpakaaDoor
