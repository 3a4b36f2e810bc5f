import Derived.Test.YtchkpggdndnpjabGreatDoorG14

namespace Go.Proofs.YtchkpggdndnpjabGreatDoor
set_option linter.unusedVariables false
open Go.Shelf Go.RowKit Go.Sort Go.Lib

def rdBc (t : ByteArray) : Nat := rdNc t.data.toList
/-- A piece of a text as a number. -/
def part (s : ByteArray) (a b : Nat) : Nat := rdBc (s.extract a b)
def formOk (s : ByteArray) : Bool := (s.size == 17 || s.size == 21) && formTo s s.size
def psOk (s : ByteArray) : Bool := formOk s && dnB (part s 0 8) && decide (part s 9 11 ≤ 23) && decide (part s 12 14 ≤ 59) && decide (part s 15 17 ≤ 59)
def psV (s : ByteArray) : Int := if psOk s then dnV (part s 0 8) * 86400000 + part s 9 11 * 3600000 + part s 12 14 * 60000 + part s 15 17 * 1000 + (if 17 < s.size then part s 18 s.size else 0 : Nat) else 0
def psE (s : ByteArray) : Int := if psOk s then 0 else 20
theorem extract_list (s : ByteArray) (a b : Nat) : (s.extract a b).data.toList = (s.data.toList.drop a).take (b - a) := by
  simp [ByteArray.data_extract]
theorem digs_slice {s : ByteArray} (hf : formTo s s.size = true) (a b : Nat) (hb : b ≤ s.size) (h48 : ∀ j, a ≤ j → j < b → formAt j = 48) : ∀ c ∈ (s.extract a b).data.toList, isDig c = true := by
  intro c hc
  rw [extract_list] at hc
  obtain ⟨i, hi, rfl⟩ := List.getElem_of_mem hc
  simp only [List.length_take, List.length_drop, Array.length_toList] at hi
  have hi2 : a + i < s.size := by show a + i < s.data.size; omega
  have h1 : okAt (a + i) (s.data.toList.getD (a + i) 0) = true := by
    simp only [formTo, List.all_eq_true, List.mem_range] at hf
    exact hf (a + i) hi2
  rw [okAt_dig (h48 (a + i) (by omega) (by omega))] at h1
  rw [List.getD_eq_getElem?_getD, List.getElem?_eq_getElem (by simpa using hi2)] at h1
  simpa using h1
theorem readPart {s : ByteArray} (hf : formTo s s.size = true) (t : ByteArray) (ht : ∃ a b, t = s.extract a b ∧ a ≤ b ∧ b ≤ s.size ∧ b - a ≤ 9 ∧ ∀ j, a ≤ j → j < b → formAt j = 48) (w : World) :
    Calls Tryz.prog 323 #[.string t] w fun e w' => e = .returned (.int .i64 (rdBc t : Int)) ∧ w' = w := by
  obtain ⟨a, b, rfl, hab, hb, h9, h48⟩ := ht
  exact readDigits_any _ w (by simp [ByteArray.size_extract]; omega) (digs_slice hf a b hb h48)
theorem part_lt {s : ByteArray} (hf : formTo s s.size = true) (a b n : Nat) (hab : b - a ≤ n) (hb : b ≤ s.size) (h48 : ∀ j, a ≤ j → j < b → formAt j = 48) : rdBc (s.extract a b) < 10 ^ n := by
  have h := rdNc_lt _ (digs_slice hf a b hb h48)
  refine Nat.lt_of_lt_of_le h (Nat.pow_le_pow_right (by decide) ?_)
  rw [extract_list, List.length_take]
  omega
theorem hasStampForm_other (s : ByteArray) (w : World) (h1 : ¬ s.size = 17) (h2 : ¬ s.size = 21) :
    Calls Tryz.prog 322 #[.string s] w fun e w' => e = .returned (.bool false) ∧ ∃ q, w' = w.drewN q := by
  have h1' : ¬ (s.size : Int) = 17 := by omega
  have h2' : ¬ (s.size : Int) = 21 := by omega
  have h1b : ((s.size : Int) != 17) = true := by simp; omega
  have h2b : ((s.size : Int) != 21) = true := by simp; omega
  go_enter Tryz.func322, Tryz.ntmps322
  go_wp2
  go_ret
  exact ⟨rfl, 0, rfl⟩
theorem hasStampForm_any (s : ByteArray) (w : World) :
    Calls Tryz.prog 322 #[.string s] w fun e w' => e = .returned (.bool (formOk s)) ∧ ∃ q, w' = w.drewN q := by
  by_cases h1 : s.size = 17
  · rw [show formOk s = formTo s s.size by simp [formOk, h1]]
    exact hasStampForm_17 s w h1
  · by_cases h2 : s.size = 21
    · rw [show formOk s = formTo s s.size by simp [formOk, h2]]
      exact hasStampForm_21 s w h2
    · rw [show formOk s = false by simp [formOk, h1, h2]]
      exact hasStampForm_other s w h1 h2
theorem ps_no {s : ByteArray} (h : psOk s = false) : psV s = 0 ∧ psE s = 20 := by unfold psV psE; rw [h]; exact ⟨rfl, rfl⟩
theorem psOk_form {s : ByteArray} (h : formOk s = false) : psOk s = false := by unfold psOk; rw [h]; rfl
set_option maxRecDepth 100000 in
set_option maxHeartbeats 8000000 in
theorem ParseStamp_any (s : ByteArray) (w : World) (hM : Mon w) :
    Calls Tryz.prog 320 #[.string s] w fun e w' => e = .returned (.tuple #[.int .i64 (psV s), .int .i64 (psE s)]) ∧ ∃ q, w' = w.drewN q := by
  have hfm := hasStampForm_any s w
  cases hf : formOk s
  · rw [(ps_no (psOk_form hf)).1, (ps_no (psOk_form hf)).2]
    rw [hf] at hfm
    clear hf
    go_enter Tryz.func320, Tryz.ntmps320
    go_wp2_with (go_at_call 322; fail)
    refine hfm.mono ?_
    rintro e w1 ⟨rfl, q1, rfl⟩
    go_wp2
    go_ret2
    exact ⟨rfl, q1, rfl⟩
  · rw [hf] at hfm
    have hf2 : formTo s s.size = true := by simp [formOk] at hf; exact hf.2
    have hsz : s.size = 17 ∨ s.size = 21 := by simp [formOk] at hf; exact hf.1
    have hs17 : 17 ≤ s.size := by omega
    have hs17' : (17 : Int) ≤ (s.size : Int) := by omega
    have hs14 : (14 : Int) ≤ (s.size : Int) := by omega
    have hs11 : (11 : Int) ≤ (s.size : Int) := by omega
    have hn11 : 11 ≤ s.size := by omega
    have hn14 : 14 ≤ s.size := by omega
    have a1 : ∀ j, 0 ≤ j → j < 8 → formAt j = 48 := fun j h h' => (by decide : ∀ j, j < 8 → 0 ≤ j → formAt j = 48) j h' h
    have a2 : ∀ j, 9 ≤ j → j < 11 → formAt j = 48 := fun j h h' => (by decide : ∀ j, j < 11 → 9 ≤ j → formAt j = 48) j h' h
    have a3 : ∀ j, 12 ≤ j → j < 14 → formAt j = 48 := fun j h h' => (by decide : ∀ j, j < 14 → 12 ≤ j → formAt j = 48) j h' h
    have a4 : ∀ j, 15 ≤ j → j < 17 → formAt j = 48 := fun j h h' => (by decide : ∀ j, j < 17 → 15 ≤ j → formAt j = 48) j h' h
    have HR : Hid (∀ t : ByteArray, (t = s.extract 0 8 ∨ t = s.extract 9 11 ∨ t = s.extract 12 14 ∨ t = s.extract 15 17) → ∀ w, Calls Tryz.prog 323 #[.string t] w fun e w' => e = .returned (.int .i64 (rdBc t : Int)) ∧ w' = w) := fun t ht w => readPart hf2 t (by
      rcases ht with rfl | rfl | rfl | rfl
      · exact ⟨0, 8, rfl, by omega, by omega, by omega, a1⟩
      · exact ⟨9, 11, rfl, by omega, by omega, by omega, a2⟩
      · exact ⟨12, 14, rfl, by omega, by omega, by omega, a3⟩
      · exact ⟨15, 17, rfl, by omega, by omega, by omega, a4⟩) w
    have b1 := part_lt hf2 0 8 8 (by omega) (by omega) a1
    have b2 := part_lt hf2 9 11 2 (by omega) (by omega) a2
    have b3 := part_lt hf2 12 14 2 (by omega) (by omega) a3
    have b4 := part_lt hf2 15 17 2 (by omega) (by omega) a4
    have HM : Hid (Mon w ∧ formTo s s.size = true ∧ (s.size = 17 ∨ s.size = 21)) := ⟨hM, hf2, hsz⟩
    have hdd := fun w (h : Mon w) => dayOfDate_any (part s 0 8) w h (by unfold part; omega) (by unfold part; omega)
    clear hM hf2 a1 a2 a3 a4 hsz
    cases hd : dnB (part s 0 8)
    · have hno : psOk s = false := by unfold psOk; rw [hd]; simp
      rw [(ps_no hno).1, (ps_no hno).2]
      rw [hd, dn_zero hd] at hdd
      clear hd hno
      go_enter Tryz.func320, Tryz.ntmps320
      go_wp2_with (go_at_call 322; fail)
      refine hfm.mono ?_
      rintro e w1 ⟨rfl, q1, hw1⟩
      have HW : Hid (w1 = w.drewN q1 ∧ Mon w1) := ⟨hw1, by rw [hw1]; exact HM.out.1⟩
      clear hw1 hfm
      go_wp2_with (go_at_call 323; fail)
      refine (HR.out _ (.inl rfl) _).mono ?_
      rintro e w1 ⟨rfl, rfl⟩
      go_wp2_with (go_at_call 252; fail)
      refine (hdd _ HW.out.2).mono ?_
      rintro e w1 ⟨rfl, rfl⟩
      clear hdd
      go_wp2
      go_quiet ((go_at_call 323; refine Calls.quiet_of_same (HR.out _ (by first | exact .inr (.inl (by with_reducible rfl)) | exact .inr (.inr (.inl (by with_reducible rfl))) | exact .inr (.inr (.inr (by with_reducible rfl)))) _)))
      go_wp2
      go_ret2
      exact ⟨rfl, _, by rw [HW.out.1, World.drewN_drewN]⟩
    · obtain ⟨n, _, hn, hl⟩ := dn_range hd
      rw [hd, hn] at hdd
      have HN : Hid (dnV (part s 0 8) = (n : Int)) := hn
      clear hn
      by_cases h0 : part s 9 11 ≤ 23
      · skip
        by_cases h1 : part s 12 14 ≤ 59
        · skip
          by_cases h2 : part s 15 17 ≤ 59
          · skip
            have hyes : psOk s = true := by
              unfold psOk
              rw [hf, hd]
              simp [h0, h1, h2]
            have hV : psV s = (n : Int) * 86400000 + rdBc (s.extract 9 11) * 3600000 + rdBc (s.extract 12 14) * 60000 + rdBc (s.extract 15 17) * 1000 + (if 17 < s.size then part s 18 s.size else 0 : Nat) := by
              unfold psV; rw [hyes, if_pos rfl, HN.out]; rfl
            have hE : psE s = 0 := by unfold psE; rw [hyes]; rfl
            rw [hE]
            have HV : Hid (psV s = (n : Int) * 86400000 + rdBc (s.extract 9 11) * 3600000 + rdBc (s.extract 12 14) * 60000 + rdBc (s.extract 15 17) * 1000 + (if 17 < s.size then part s 18 s.size else 0 : Nat)) := hV
            clear hyes hV hE hd HN
            have hg0 : (rdBc (s.extract 9 11) : Int) ≤ 23 := by unfold part at *; omega
            have hg1 : (rdBc (s.extract 12 14) : Int) ≤ 59 := by unfold part at *; omega
            have hg2 : (rdBc (s.extract 15 17) : Int) ≤ 59 := by unfold part at *; omega
            clear h0 h1 h2
            rcases HM.out.2.2 with hz | hz
            · skip
              have hz' : (s.size : Int) = 17 := by omega
              go_enter Tryz.func320, Tryz.ntmps320
              go_wp2_with (go_at_call 322; fail)
              refine hfm.mono ?_
              rintro e w1 ⟨rfl, q1, hw1⟩
              have HW : Hid (w1 = w.drewN q1 ∧ Mon w1) := ⟨hw1, by rw [hw1]; exact HM.out.1⟩
              clear hw1 hfm
              go_wp2_with (go_at_call 323; fail)
              refine (HR.out _ (.inl rfl) _).mono ?_
              rintro e w1 ⟨rfl, rfl⟩
              go_wp2_with (go_at_call 252; fail)
              refine (hdd _ HW.out.2).mono ?_
              rintro e w1 ⟨rfl, rfl⟩
              clear hdd
              go_wp2
              go_quiet ((go_at_call 323; refine Calls.quiet_of_same (HR.out _ (by first | exact .inr (.inl (by with_reducible rfl)) | exact .inr (.inr (.inl (by with_reducible rfl))) | exact .inr (.inr (.inr (by with_reducible rfl)))) _)))
              go_wp2_with (go_at_call 253; fail)
              refine (startOfDay_any _ n rfl _ hl).mono ?_
              rintro e w3 ⟨rfl, hw3⟩
              have HW3 : Hid (∃ q, w3 = w.drewN q) := ⟨_, by rw [hw3, HW.out.1, World.drewN_drewN]⟩
              clear hw3
              go_wp2
              go_ret2
              exact ⟨ret2 (vint (by rw [HV.out, if_neg (by omega)]; omega)) rfl, HW3.out⟩
            · skip
              have hz' : (s.size : Int) = 21 := by omega
              have a5 : ∀ j, 18 ≤ j → j < 21 → formAt j = 48 := fun j h h' => (by decide : ∀ j, j < 21 → 18 ≤ j → formAt j = 48) j h' h
              have h5 := readPart HM.out.2.1 (s.extract 18 21) ⟨18, 21, rfl, by omega, by omega, by omega, a5⟩
              have b5 := part_lt HM.out.2.1 18 21 3 (by omega) (by omega) a5
              clear a5
              go_enter Tryz.func320, Tryz.ntmps320
              go_wp2_with (go_at_call 322; fail)
              refine hfm.mono ?_
              rintro e w1 ⟨rfl, q1, hw1⟩
              have HW : Hid (w1 = w.drewN q1 ∧ Mon w1) := ⟨hw1, by rw [hw1]; exact HM.out.1⟩
              clear hw1 hfm
              go_wp2_with (go_at_call 323; fail)
              refine (HR.out _ (.inl rfl) _).mono ?_
              rintro e w1 ⟨rfl, rfl⟩
              go_wp2_with (go_at_call 252; fail)
              refine (hdd _ HW.out.2).mono ?_
              rintro e w1 ⟨rfl, rfl⟩
              clear hdd
              go_wp2
              go_quiet ((go_at_call 323; refine Calls.quiet_of_same (HR.out _ (by first | exact .inr (.inl (by with_reducible rfl)) | exact .inr (.inr (.inl (by with_reducible rfl))) | exact .inr (.inr (.inr (by with_reducible rfl)))) _)))
              go_wp2_with (go_at_call 323; fail)
              refine (h5 _).mono ?_
              rintro e w2 ⟨rfl, hw2⟩
              have HW2 : Hid (∃ q, w2 = w.drewN q) := ⟨_, by rw [hw2, HW.out.1, World.drewN_drewN]⟩
              clear hw2
              go_wp2_with (go_at_call 253; fail)
              refine (startOfDay_any _ n rfl _ hl).mono ?_
              rintro e w3 ⟨rfl, hw3⟩
              have HW3 : Hid (∃ q, w3 = w.drewN q) := by rw [hw3]; exact HW2.out
              clear hw3
              go_wp2
              go_ret2
              exact ⟨ret2 (vint (by rw [HV.out, if_pos (by omega)]; unfold part; rw [hz]; omega)) rfl, HW3.out⟩
          · skip
            have hno : psOk s = false := by unfold psOk; rw [decide_eq_false (p := part s 15 17 ≤ 59) (by assumption)]; simp
            rw [(ps_no hno).1, (ps_no hno).2]
            have hx : (59 : Int) < (rdBc (s.extract 15 17) : Int) := by unfold part at *; omega
            clear hno HN hd
            have hg0 : (rdBc (s.extract 9 11) : Int) ≤ 23 := by unfold part at *; omega
            have hg1 : (rdBc (s.extract 12 14) : Int) ≤ 59 := by unfold part at *; omega
            go_enter Tryz.func320, Tryz.ntmps320
            go_wp2_with (go_at_call 322; fail)
            refine hfm.mono ?_
            rintro e w1 ⟨rfl, q1, hw1⟩
            have HW : Hid (w1 = w.drewN q1 ∧ Mon w1) := ⟨hw1, by rw [hw1]; exact HM.out.1⟩
            clear hw1 hfm
            go_wp2_with (go_at_call 323; fail)
            refine (HR.out _ (.inl rfl) _).mono ?_
            rintro e w1 ⟨rfl, rfl⟩
            go_wp2_with (go_at_call 252; fail)
            refine (hdd _ HW.out.2).mono ?_
            rintro e w1 ⟨rfl, rfl⟩
            clear hdd
            go_wp2
            go_quiet ((go_at_call 323; refine Calls.quiet_of_same (HR.out _ (by first | exact .inr (.inl (by with_reducible rfl)) | exact .inr (.inr (.inl (by with_reducible rfl))) | exact .inr (.inr (.inr (by with_reducible rfl)))) _)))
            go_wp2
            go_ret2
            exact ⟨rfl, _, by rw [HW.out.1, World.drewN_drewN]⟩
        · skip
          have hno : psOk s = false := by unfold psOk; rw [decide_eq_false (p := part s 12 14 ≤ 59) (by assumption)]; simp
          rw [(ps_no hno).1, (ps_no hno).2]
          have hx : (59 : Int) < (rdBc (s.extract 12 14) : Int) := by unfold part at *; omega
          clear hno HN hd
          have hg0 : (rdBc (s.extract 9 11) : Int) ≤ 23 := by unfold part at *; omega
          go_enter Tryz.func320, Tryz.ntmps320
          go_wp2_with (go_at_call 322; fail)
          refine hfm.mono ?_
          rintro e w1 ⟨rfl, q1, hw1⟩
          have HW : Hid (w1 = w.drewN q1 ∧ Mon w1) := ⟨hw1, by rw [hw1]; exact HM.out.1⟩
          clear hw1 hfm
          go_wp2_with (go_at_call 323; fail)
          refine (HR.out _ (.inl rfl) _).mono ?_
          rintro e w1 ⟨rfl, rfl⟩
          go_wp2_with (go_at_call 252; fail)
          refine (hdd _ HW.out.2).mono ?_
          rintro e w1 ⟨rfl, rfl⟩
          clear hdd
          go_wp2
          go_quiet ((go_at_call 323; refine Calls.quiet_of_same (HR.out _ (by first | exact .inr (.inl (by with_reducible rfl)) | exact .inr (.inr (.inl (by with_reducible rfl))) | exact .inr (.inr (.inr (by with_reducible rfl)))) _)))
          go_wp2
          go_ret2
          exact ⟨rfl, _, by rw [HW.out.1, World.drewN_drewN]⟩
      · skip
        have hno : psOk s = false := by unfold psOk; rw [decide_eq_false (p := part s 9 11 ≤ 23) (by assumption)]; simp
        rw [(ps_no hno).1, (ps_no hno).2]
        have hx : (23 : Int) < (rdBc (s.extract 9 11) : Int) := by unfold part at *; omega
        clear hno HN hd
        go_enter Tryz.func320, Tryz.ntmps320
        go_wp2_with (go_at_call 322; fail)
        refine hfm.mono ?_
        rintro e w1 ⟨rfl, q1, hw1⟩
        have HW : Hid (w1 = w.drewN q1 ∧ Mon w1) := ⟨hw1, by rw [hw1]; exact HM.out.1⟩
        clear hw1 hfm
        go_wp2_with (go_at_call 323; fail)
        refine (HR.out _ (.inl rfl) _).mono ?_
        rintro e w1 ⟨rfl, rfl⟩
        go_wp2_with (go_at_call 252; fail)
        refine (hdd _ HW.out.2).mono ?_
        rintro e w1 ⟨rfl, rfl⟩
        clear hdd
        go_wp2
        go_quiet ((go_at_call 323; refine Calls.quiet_of_same (HR.out _ (by first | exact .inr (.inl (by with_reducible rfl)) | exact .inr (.inr (.inl (by with_reducible rfl))) | exact .inr (.inr (.inr (by with_reducible rfl)))) _)))
        go_wp2
        go_ret2
        exact ⟨rfl, _, by rw [HW.out.1, World.drewN_drewN]⟩
end Go.Proofs.YtchkpggdndnpjabGreatDoor
