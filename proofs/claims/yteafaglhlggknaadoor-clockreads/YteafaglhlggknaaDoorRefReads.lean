/-
  The reference: ParseStamp.
-/
import Derived.Test.YteafaglhlggknaaDoorReads2
import Derived.Test.YteafaglhlggknaaDoorRefDays
namespace Go.Proofs.YteafaglhlggknaaDoor
set_option linter.unusedVariables false
open Go.Shelf Go.RowKit Go.Sort Go.Lib

/-- Where the number begins in which place k stands. -/
def stOf (k : Nat) : Nat := if k ≤ 8 then 0 else if k ≤ 11 then 9 else if k ≤ 14 then 12 else if k ≤ 17 then 15 else 18
def cur (s : ByteArray) (k : Nat) : Nat := rdN ((s.data.toList.drop (stOf k)).take (k - stOf k))
theorem st_step {k : Nat} (h : k < 21) (hd : formAt k = 48) : stOf (k + 1) = stOf k ∧ stOf k ≤ k := by
  have := (by decide : ∀ k, k < 21 → formAt k = 48 → stOf (k + 1) = stOf k ∧ stOf k ≤ k) k h hd
  exact this
theorem sign_at {k : Nat} (h : k < 21) (hd : ¬ formAt k = 48) : k = 8 ∨ k = 11 ∨ k = 14 ∨ k = 17 :=
  (by decide : ∀ k, k < 21 → ¬ formAt k = 48 → k = 8 ∨ k = 11 ∨ k = 14 ∨ k = 17) k h hd
theorem cur_step (s : ByteArray) {k : Nat} (hs : k < s.size) (h : k < 21) (hd : formAt k = 48) : cur s (k + 1) = cur s k * 10 + (s[k].toNat - 48) := by
  obtain ⟨h1, h2⟩ := st_step h hd
  unfold cur
  rw [h1, show k + 1 - stOf k = (k - stOf k) + 1 by omega, List.take_succ_eq_append_getElem (by simp; have : k < s.data.size := hs; omega), rdN_snoc]
  congr 2
  simp only [List.getElem_drop, Array.getElem_toList]
  rw [show s.data[stOf k + (k - stOf k)]'(by have : k < s.data.size := hs; omega) = s.data[k]'hs by congr 1; omega]
  rfl
theorem cur_part (s : ByteArray) (a b : Nat) (h : stOf b = a) : cur s b = part s a b := by
  unfold cur part rdB
  rw [h, extract_list]
theorem cur_lt {s : ByteArray} {k : Nat} (hk : k ≤ 21) (hs : k ≤ s.size) (hf : formTo s k = true) : cur s k < 10 ^ 8 := by
  have hl : stOf k ≤ k ∧ k - stOf k ≤ 8 ∧ ∀ j, j < k → stOf k ≤ j → formAt j = 48 := (by decide : ∀ k, k ≤ 21 → stOf k ≤ k ∧ k - stOf k ≤ 8 ∧ ∀ j, j < k → stOf k ≤ j → formAt j = 48) k hk
  unfold cur
  have h := rdN_lt ((s.data.toList.drop (stOf k)).take (k - stOf k)) (fun c hc => by
    obtain ⟨i, hi, rfl⟩ := List.getElem_of_mem hc
    simp only [List.length_take, List.length_drop, Array.length_toList] at hi
    have h1 : okAt (stOf k + i) (s.data.toList.getD (stOf k + i) 0) = true := by
      simp only [formTo, List.all_eq_true, List.mem_range] at hf
      exact hf (stOf k + i) (by omega)
    rw [okAt_dig (hl.2.2 (stOf k + i) (by omega) (by omega))] at h1
    rw [List.getD_eq_getElem?_getD, List.getElem?_eq_getElem (by have : k ≤ s.data.size := hs; simp; omega)] at h1
    simpa using h1)
  refine Nat.lt_of_lt_of_le h (Nat.pow_le_pow_right (by decide) ?_)
  rw [List.length_take]
  omega
def refAt (k : Nat) : Nat := if formAt k = 48 then 100 else formAt k
theorem refAt_lit (k : Nat) (h : k < 21) : ((⟨#[100, 100, 100, 100, 100, 100, 100, 100, 45, 100, 100, 58, 100, 100, 58, 100, 100, 46, 100, 100, 100]⟩ : ByteArray)[k]'h).toNat = refAt k := by
  have : k = 0 ∨ k = 1 ∨ k = 2 ∨ k = 3 ∨ k = 4 ∨ k = 5 ∨ k = 6 ∨ k = 7 ∨ k = 8 ∨ k = 9 ∨ k = 10 ∨ k = 11 ∨ k = 12 ∨ k = 13 ∨ k = 14 ∨ k = 15 ∨ k = 16 ∨ k = 17 ∨ k = 18 ∨ k = 19 ∨ k = 20 := by omega
  rcases this with rfl | rfl | rfl | rfl | rfl | rfl | rfl | rfl | rfl | rfl | rfl | rfl | rfl | rfl | rfl | rfl | rfl | rfl | rfl | rfl | rfl <;> rfl
/-- What has been read ahead of place k. -/
def got (s : ByteArray) (k at_ a : Nat) : Nat := if at_ < k then part s a at_ else 0
theorem ps_bad {s : ByteArray} (h : formTo s s.size = false) : psV s = 0 ∧ psE s = 20 := ps_no (psOk_form (by unfold formOk; rw [h, Bool.and_false]))
theorem got_same {s : ByteArray} {k at_ a : Nat} (h : ¬ at_ = k) : got s (k + 1) at_ a = got s k at_ a := by
  unfold got
  by_cases h1 : at_ < k
  · rw [if_pos h1, if_pos (by omega)]
  · rw [if_neg h1, if_neg (by omega)]
theorem ps_yes {s : ByteArray} (h : psOk s = true) : psE s = 0 := by unfold psE; rw [h]; rfl
theorem part_small {s : ByteArray} (hf : formTo s s.size = true) (a b n : Nat) (hab : b - a ≤ n) (hb : b ≤ s.size) (h48 : ∀ j, j < b → a ≤ j → formAt j = 48) : part s a b < 10 ^ n :=
  part_lt hf a b n hab hb (fun j h h' => h48 j h' h)
set_option maxRecDepth 100000 in
set_option maxHeartbeats 8000000 in
theorem refParse_21 (s : ByteArray) (w : World) (hT : s.size = 21) :
    Calls Tryd.prog 20 #[.string s] w fun e w' => e = .returned (.tuple #[.int .i64 (psV s), .int .i64 (psE s)]) ∧ Below w.heap.size w w' := by
  have hs1 : (s.size : Int) = 21 := by omega
  go_enter Tryd.func20, Tryd.ntmps20
  go_wp2
  go_loopw [5, 6, 7, 8, 9, 10] (fun n d h m c i wr => ∃ k : Nat, k ≤ 21 ∧ i = .int .i64 k ∧ formTo s k = true ∧ n = .int .i64 (cur s k : Int) ∧ d = .int .i64 (got s k 8 0 : Int) ∧ h = .int .i64 (got s k 11 9 : Int) ∧ m = .int .i64 (got s k 14 12 : Int) ∧ c = .int .i64 (got s k 17 15 : Int) ∧ wr = w) (fun _ _ _ _ _ i _ => 21 - (intOf i).toNat)
  case atStart => exact ⟨0, by omega, rfl, rfl, rfl, rfl, rfl, rfl, rfl, rfl⟩
  case round =>
    obtain ⟨k, hk, rfl, hf, rfl, rfl, rfl, rfl, rfl, rfl⟩ := hrel
    by_cases hlt : k < 21
    · have hlt' : (k : Int) < 21 := by omega
      have hlt2 : k < s.size := by omega
      have hl := refAt_lit k hlt
      have HF : Hid (formTo s (k + 1) = (formTo s k && okAt k s[k])) := formTo_succ s k hlt2
      have HX0 : Hid (okAt k s[k] = false → psV s = 0 ∧ psE s = 20) := fun h => ps_bad (formTo_bad hlt2 h)
      have hcl := cur_lt hk (by omega) hf
      have hcc := s[k].toNat_lt
      by_cases h48 : formAt k = 48
      · have hok := okAt_dig (c := s[k]) h48
        rw [show refAt k = 100 by unfold refAt; rw [if_pos h48]] at hl
        by_cases h1 : s[k].toNat < 48
        · have h1' : (s[k].toNat : Int) < 48 := by omega
          obtain ⟨e1, e2⟩ := HX0.out (by rw [hok]; simp [isDig]; omega)
          have HE : Hid (psV s = 0 ∧ psE s = 20) := ⟨e1, e2⟩
          clear hok HF HX0 e1 e2 hf
          go_wp2
          go_ret2
          exact ⟨ret2 (vint HE.out.1.symm) (vint HE.out.2.symm), Below.refl _ _⟩
        · have h1' : (48 : Int) ≤ (s[k].toNat : Int) := by omega
          by_cases h2 : 57 < s[k].toNat
          · have h2' : (57 : Int) < (s[k].toNat : Int) := by omega
            obtain ⟨e1, e2⟩ := HX0.out (by rw [hok]; simp [isDig]; omega)
            have HE : Hid (psV s = 0 ∧ psE s = 20) := ⟨e1, e2⟩
            clear hok HF HX0 e1 e2 hf
            go_wp2
            go_ret2
            exact ⟨ret2 (vint HE.out.1.symm) (vint HE.out.2.symm), Below.refl _ _⟩
          · have h2' : (s[k].toNat : Int) ≤ 57 := by omega
            have hb1 : decide (s[k].toNat < 48) = false := decide_eq_false (by omega)
            have hb2 : decide (57 < s[k].toNat) = false := decide_eq_false (by omega)
            have HX : Hid (formTo s (k + 1) = true) := by
              have h := HF.out
              rw [hf, hok] at h
              have e : isDig s[k] = true := by simp [isDig]; omega
              rw [e] at h
              exact h
            have HC : Hid (cur s (k + 1) = cur s k * 10 + (s[k].toNat - 48)) := cur_step s hlt2 hlt h48
            have HG : Hid (got s (k + 1) 8 0 = got s k 8 0 ∧ got s (k + 1) 11 9 = got s k 11 9 ∧ got s (k + 1) 14 12 = got s k 14 12 ∧ got s (k + 1) 17 15 = got s k 17 15) := ⟨got_same (fun e => by subst e; revert h48; decide), got_same (fun e => by subst e; revert h48; decide), got_same (fun e => by subst e; revert h48; decide), got_same (fun e => by subst e; revert h48; decide)⟩
            clear hok HF HX0 hf
            generalize cur s k = n at *
            generalize got s k 8 0 = gd at *
            generalize got s k 11 9 = gh at *
            generalize got s k 14 12 = gm at *
            generalize got s k 17 15 = gs at *
            go_wp2
            go_roundw
            case rel => exact ⟨k + 1, by omega, by go_num, HX.out, vint (by rw [HC.out]; omega), vint (by rw [HG.out.1]), vint (by rw [HG.out.2.1]), vint (by rw [HG.out.2.2.1]), vint (by rw [HG.out.2.2.2]), by first | rfl | trivial⟩
            case measure => simp [intOf]; omega
      · have hok := okAt_sign (c := s[k]) h48
        rw [show refAt k = formAt k by unfold refAt; rw [if_neg h48]] at hl
        have h100 : ¬ formAt k = 100 := by
          have := sign_at hlt h48
          rcases this with rfl | rfl | rfl | rfl <;> decide
        have h100' : ¬ (formAt k : Int) = 100 := by omega
        by_cases h1 : s[k].toNat = formAt k
        · have HX : Hid (formTo s (k + 1) = true) := by
            have h := HF.out
            rw [hf, hok] at h
            have e : (s[k].toNat == formAt k) = true := by simp [h1]
            rw [e] at h
            exact h
          have hsg := sign_at hlt h48
          clear hok HF HX0 hf
          generalize formAt k = f at *
          have h1' : (s[k].toNat : Int) = (f : Int) := by omega
          rcases hsg with rfl | rfl | rfl | rfl
          · have HC : Hid (cur s 9 = 0 ∧ got s 9 8 0 = cur s 8) := ⟨rfl, (cur_part s 0 8 rfl).symm⟩
            have HG : Hid (got s 9 11 9 = got s 8 11 9 ∧ got s 9 14 12 = got s 8 14 12 ∧ got s 9 17 15 = got s 8 17 15) := ⟨rfl, rfl, rfl⟩
            generalize cur s 8 = n at *
            generalize got s 8 8 0 = g0 at *
            generalize got s 8 11 9 = g1 at *
            generalize got s 8 14 12 = g2 at *
            generalize got s 8 17 15 = g3 at *
            go_wp2
            go_roundw
            case rel => exact ⟨9, by omega, by go_num, HX.out, vint (by rw [HC.out.1]; rfl), vint (by rw [HC.out.2]), vint (by rw [HG.out.1]), vint (by rw [HG.out.2.1]), vint (by rw [HG.out.2.2]), by first | rfl | trivial⟩
            case measure => simp [intOf]
          · have HC : Hid (cur s 12 = 0 ∧ got s 12 11 9 = cur s 11) := ⟨rfl, (cur_part s 9 11 rfl).symm⟩
            have HG : Hid (got s 12 8 0 = got s 11 8 0 ∧ got s 12 14 12 = got s 11 14 12 ∧ got s 12 17 15 = got s 11 17 15) := ⟨rfl, rfl, rfl⟩
            generalize cur s 11 = n at *
            generalize got s 11 8 0 = g0 at *
            generalize got s 11 11 9 = g1 at *
            generalize got s 11 14 12 = g2 at *
            generalize got s 11 17 15 = g3 at *
            go_wp2
            go_roundw
            case rel => exact ⟨12, by omega, by go_num, HX.out, vint (by rw [HC.out.1]; rfl), vint (by rw [HG.out.1]), vint (by rw [HC.out.2]), vint (by rw [HG.out.2.1]), vint (by rw [HG.out.2.2]), by first | rfl | trivial⟩
            case measure => simp [intOf]
          · have HC : Hid (cur s 15 = 0 ∧ got s 15 14 12 = cur s 14) := ⟨rfl, (cur_part s 12 14 rfl).symm⟩
            have HG : Hid (got s 15 8 0 = got s 14 8 0 ∧ got s 15 11 9 = got s 14 11 9 ∧ got s 15 17 15 = got s 14 17 15) := ⟨rfl, rfl, rfl⟩
            generalize cur s 14 = n at *
            generalize got s 14 8 0 = g0 at *
            generalize got s 14 11 9 = g1 at *
            generalize got s 14 14 12 = g2 at *
            generalize got s 14 17 15 = g3 at *
            go_wp2
            go_roundw
            case rel => exact ⟨15, by omega, by go_num, HX.out, vint (by rw [HC.out.1]; rfl), vint (by rw [HG.out.1]), vint (by rw [HG.out.2.1]), vint (by rw [HC.out.2]), vint (by rw [HG.out.2.2]), by first | rfl | trivial⟩
            case measure => simp [intOf]
          · have HC : Hid (cur s 18 = 0 ∧ got s 18 17 15 = cur s 17) := ⟨rfl, (cur_part s 15 17 rfl).symm⟩
            have HG : Hid (got s 18 8 0 = got s 17 8 0 ∧ got s 18 11 9 = got s 17 11 9 ∧ got s 18 14 12 = got s 17 14 12) := ⟨rfl, rfl, rfl⟩
            generalize cur s 17 = n at *
            generalize got s 17 8 0 = g0 at *
            generalize got s 17 11 9 = g1 at *
            generalize got s 17 14 12 = g2 at *
            generalize got s 17 17 15 = g3 at *
            go_wp2
            go_roundw
            case rel => exact ⟨18, by omega, by go_num, HX.out, vint (by rw [HC.out.1]; rfl), vint (by rw [HG.out.1]), vint (by rw [HG.out.2.1]), vint (by rw [HG.out.2.2]), vint (by rw [HC.out.2]), by first | rfl | trivial⟩
            case measure => simp [intOf]
        · obtain ⟨e1, e2⟩ := HX0.out (by rw [hok]; simp [h1])
          have HE : Hid (psV s = 0 ∧ psE s = 20) := ⟨e1, e2⟩
          have h1' : ¬ (s[k].toNat : Int) = (formAt k : Int) := by omega
          clear hok HF HX0 e1 e2 hf
          generalize formAt k = f at *
          go_wp2
          go_ret2
          exact ⟨ret2 (vint HE.out.1.symm) (vint HE.out.2.symm), Below.refl _ _⟩
    · obtain rfl : k = 21 := by omega
      have hf2 : formTo s s.size = true := by rw [hT]; exact hf
      have g1 : got s 21 8 0 = part s 0 8 := rfl
      have g2 : got s 21 11 9 = part s 9 11 := rfl
      have g3 : got s 21 14 12 = part s 12 14 := rfl
      have g4 : got s 21 17 15 = part s 15 17 := rfl
      have g5 : cur s 21 = part s 18 21 := cur_part s 18 21 rfl
      have b1 := part_small hf2 0 8 8 (by omega) (by omega) (by decide)
      have b2 := part_small hf2 9 11 2 (by omega) (by omega) (by decide)
      have b3 := part_small hf2 12 14 2 (by omega) (by omega) (by decide)
      have b4 := part_small hf2 15 17 2 (by omega) (by omega) (by decide)
      have b5 := part_small hf2 18 21 3 (by omega) (by omega) (by decide)
      have hfo : formOk s = true := by unfold formOk; rw [hf2, hT]; rfl
      have HP : Hid (psOk s = (dnB (part s 0 8) && decide (part s 9 11 ≤ 23) && decide (part s 12 14 ≤ 59) && decide (part s 15 17 ≤ 59))) := by
        show _ = _
        unfold psOk
        rw [hfo, Bool.true_and]
      have HV : Hid (psOk s = true → psV s = dnV (part s 0 8) * 86400000 + part s 9 11 * 3600000 + part s 12 14 * 60000 + part s 15 17 * 1000 + part s 18 21) := fun h => by
        unfold psV
        rw [h, if_pos rfl, if_pos (by omega), hT]
      rw [g1, g2, g3, g4, g5]
      have hdd := fun w => refNumber_any (part s 0 8) w (by omega) (by omega)
      clear g1 g2 g3 g4 g5 hf hf2 hfo
      generalize part s 0 8 = p1 at *
      generalize part s 9 11 = p2 at *
      generalize part s 12 14 = p3 at *
      generalize part s 15 17 = p4 at *
      generalize part s 18 21 = p5 at *
      have hx : (p2 ≤ 23 ∧ p3 ≤ 59 ∧ p4 ≤ 59) ∨ ¬ (p2 ≤ 23 ∧ p3 ≤ 59 ∧ p4 ≤ 59) := Classical.em _
      cases hd : dnB (p1 : Int)
      · have HE : Hid (psV s = 0 ∧ psE s = 20) := ps_no (by rw [HP.out, hd]; rfl)
        rw [hd, dn_zero hd] at hdd
        clear hd HP HV hx
        go_wp2_with (go_at_call 33; fail)
        refine (hdd _).mono ?_
        rintro e w3 ⟨rfl, hb3⟩
        have HB3 : Hid (Below wr.heap.size wr w3) := hb3
        clear hb3 hdd
        go_wp2
        go_ret2
        exact ⟨ret2 (vint (by have := HE.out.1; omega)) (vint HE.out.2.symm), HB3.out⟩
      · obtain ⟨n, _, hn, hln⟩ := dn_range hd
        rw [hd, hn] at hdd
        by_cases c2 : p2 ≤ 23
        · have c2' : (p2 : Int) ≤ 23 := by omega
          by_cases c3 : p3 ≤ 59
          · have c3' : (p3 : Int) ≤ 59 := by omega
            by_cases c4 : p4 ≤ 59
            · have c4' : (p4 : Int) ≤ 59 := by omega
              have hy : psOk s = true := by rw [HP.out, hd, decide_eq_true c2, decide_eq_true c3, decide_eq_true c4]; rfl
              have HE : Hid (psV s = (n : Int) * 86400000 + p2 * 3600000 + p3 * 60000 + p4 * 1000 + p5 ∧ psE s = 0) := ⟨by rw [HV.out hy, hn], ps_yes hy⟩
              clear hd HP HV hx hy hn
              go_wp2_with (go_at_call 33; fail)
              refine (hdd _).mono ?_
              rintro e w3 ⟨rfl, hb3⟩
              have HB3 : Hid (Below wr.heap.size wr w3) := hb3
              clear hb3 hdd
              go_wp2
              go_ret2
              exact ⟨ret2 (vint (by have := HE.out.1; omega)) (vint HE.out.2.symm), HB3.out⟩
            · have c4' : (59 : Int) < p4 := by omega
              have HE : Hid (psV s = 0 ∧ psE s = 20) := ps_no (by rw [HP.out, decide_eq_false (p := p4 ≤ 59) c4, Bool.and_false])
              clear hd HP HV hx hn
              go_wp2_with (go_at_call 33; fail)
              refine (hdd _).mono ?_
              rintro e w3 ⟨rfl, hb3⟩
              have HB3 : Hid (Below wr.heap.size wr w3) := hb3
              clear hb3 hdd
              go_wp2
              go_ret2
              exact ⟨ret2 (vint (by have := HE.out.1; omega)) (vint HE.out.2.symm), HB3.out⟩
          · have c3' : (59 : Int) < p3 := by omega
            have HE : Hid (psV s = 0 ∧ psE s = 20) := ps_no (by rw [HP.out, decide_eq_false (p := p3 ≤ 59) c3]; simp)
            clear hd HP HV hx hn
            go_wp2_with (go_at_call 33; fail)
            refine (hdd _).mono ?_
            rintro e w3 ⟨rfl, hb3⟩
            have HB3 : Hid (Below wr.heap.size wr w3) := hb3
            clear hb3 hdd
            go_wp2
            go_ret2
            exact ⟨ret2 (vint (by have := HE.out.1; omega)) (vint HE.out.2.symm), HB3.out⟩
        · have c2' : (23 : Int) < p2 := by omega
          have HE : Hid (psV s = 0 ∧ psE s = 20) := ps_no (by rw [HP.out, decide_eq_false (p := p2 ≤ 23) c2]; simp)
          clear hd HP HV hx hn
          go_wp2_with (go_at_call 33; fail)
          refine (hdd _).mono ?_
          rintro e w3 ⟨rfl, hb3⟩
          have HB3 : Hid (Below wr.heap.size wr w3) := hb3
          clear hb3 hdd
          go_wp2
          go_ret2
          exact ⟨ret2 (vint (by have := HE.out.1; omega)) (vint HE.out.2.symm), HB3.out⟩
def padS : ByteArray := ⟨#[46, 48, 48, 48]⟩
theorem pad_list (s : ByteArray) : (s ++ padS).data.toList = s.data.toList ++ [46, 48, 48, 48] := by simp [padS]
theorem pad_size (s : ByteArray) : (s ++ padS).size = s.size + 4 := by simp [padS, ByteArray.size_append]; rfl
theorem pad_part (s : ByteArray) (h : s.size = 17) (a b : Nat) (hb : b ≤ 17) : part (s ++ padS) a b = part s a b := by
  have hl : s.data.toList.length = 17 := by simpa using h
  unfold part rdB
  rw [extract_list, extract_list, pad_list, List.drop_append, List.take_append]
  rcases Nat.le_total a 17 with ha | ha
  · rw [show b - a - (s.data.toList.drop a).length = 0 by rw [List.length_drop]; omega, List.take_zero, List.append_nil]
  · rw [show b - a = 0 by omega]; simp
theorem pad_last (s : ByteArray) (h : s.size = 17) : part (s ++ padS) 18 21 = 0 := by
  have hl : s.data.toList.length = 17 := by simpa using h
  unfold part rdB
  rw [extract_list, pad_list, List.drop_append, hl, List.drop_eq_nil_of_le (by omega)]
  rfl
theorem pad_form (s : ByteArray) (h : s.size = 17) : formTo (s ++ padS) 21 = formTo s 17 := by
  have hl : s.data.toList.length = 17 := by simpa using h
  have e : ∀ j, (s ++ padS).data.toList.getD j 0 = if j < 17 then s.data.toList.getD j 0 else [46, 48, 48, 48].getD (j - 17) 0 := fun j => by
    rw [pad_list]
    by_cases hj : j < 17
    · rw [if_pos hj, List.getD_eq_getElem?_getD, List.getElem?_append_left (by omega), ← List.getD_eq_getElem?_getD]
    · rw [if_neg hj, List.getD_eq_getElem?_getD, List.getElem?_append_right (by omega), hl, ← List.getD_eq_getElem?_getD]
  have e2 : formTo (s ++ padS) 17 = formTo s 17 := by
    rw [Bool.eq_iff_iff]
    simp only [formTo, List.all_eq_true, List.mem_range]
    constructor
    · intro hh j hj
      have := hh j hj
      rw [e j, if_pos hj] at this
      exact this
    · intro hh j hj
      rw [e j, if_pos hj]
      exact hh j hj
  have st : ∀ k, 17 ≤ k → k < 21 → formTo (s ++ padS) (k + 1) = formTo (s ++ padS) k := fun k h1 h2 => by
    have : formTo (s ++ padS) (k + 1) = (formTo (s ++ padS) k && okAt k ((s ++ padS).data.toList.getD k 0)) := by
      simp only [formTo, List.range_succ, List.all_append, List.all_cons, List.all_nil, Bool.and_true]
    rw [this, e k, if_neg (by omega)]
    have h3 : k = 17 ∨ k = 18 ∨ k = 19 ∨ k = 20 := by omega
    rcases h3 with rfl | rfl | rfl | rfl <;> simp [okAt, formAt, formS, isDig]
  rw [st 20 (by omega) (by omega), st 19 (by omega) (by omega), st 18 (by omega) (by omega), st 17 (by omega) (by omega), e2]
theorem pad_ps (s : ByteArray) (h : s.size = 17) : psV s = psV (s ++ padS) ∧ psE s = psE (s ++ padS) := by
  have hz : (s ++ padS).size = 21 := by rw [pad_size, h]
  have ho : psOk (s ++ padS) = psOk s := by
    unfold psOk formOk
    rw [pad_part s h 0 8 (by omega), pad_part s h 9 11 (by omega), pad_part s h 12 14 (by omega), pad_part s h 15 17 (by omega), hz, h, pad_form s h]
    rfl
  have x1 : (if 17 < s.size then part s 18 s.size else 0) = 0 := if_neg (by omega)
  have x2 : (if 17 < (s ++ padS).size then part (s ++ padS) 18 (s ++ padS).size else 0) = 0 := by
    rw [if_pos (by omega), hz]
    exact pad_last s h
  unfold psV psE
  rw [x1, x2, ho, pad_part s h 0 8 (by omega), pad_part s h 9 11 (by omega), pad_part s h 12 14 (by omega), pad_part s h 15 17 (by omega)]
  exact ⟨rfl, rfl⟩
set_option maxRecDepth 100000 in
set_option maxHeartbeats 8000000 in
theorem refParse_17 (s : ByteArray) (w : World) (hs : s.size = 17) :
    Calls Tryd.prog 20 #[.string s] w fun e w' => e = .returned (.tuple #[.int .i64 (psV s), .int .i64 (psE s)]) ∧ Below w.heap.size w w' := by
  have hs1 : (s.size : Int) = 17 := by omega
  rw [(pad_ps s hs).1, (pad_ps s hs).2]
  have hT : (s ++ padS).size = 21 := by rw [pad_size, hs]
  have hT2 : ((s ++ padS).size : Int) = 21 := by omega
  generalize hV : psV (s ++ padS) = V
  generalize hE : psE (s ++ padS) = E
  unfold padS at *
  go_enter Tryd.func20, Tryd.ntmps20
  go_wp2
  generalize s ++ (⟨#[46, 48, 48, 48]⟩ : ByteArray) = T at *
  subst hV hE
  go_loopw [5, 6, 7, 8, 9, 10] (fun n d h m c i wr => ∃ k : Nat, k ≤ 21 ∧ i = .int .i64 k ∧ formTo T k = true ∧ n = .int .i64 (cur T k : Int) ∧ d = .int .i64 (got T k 8 0 : Int) ∧ h = .int .i64 (got T k 11 9 : Int) ∧ m = .int .i64 (got T k 14 12 : Int) ∧ c = .int .i64 (got T k 17 15 : Int) ∧ wr = w) (fun _ _ _ _ _ i _ => 21 - (intOf i).toNat)
  case atStart => exact ⟨0, by omega, rfl, rfl, rfl, rfl, rfl, rfl, rfl, rfl⟩
  case round =>
    obtain ⟨k, hk, rfl, hf, rfl, rfl, rfl, rfl, rfl, rfl⟩ := hrel
    by_cases hlt : k < 21
    · have hlt' : (k : Int) < 21 := by omega
      have hlt2 : k < T.size := by omega
      have hl := refAt_lit k hlt
      have HF : Hid (formTo T (k + 1) = (formTo T k && okAt k T[k])) := formTo_succ T k hlt2
      have HX0 : Hid (okAt k T[k] = false → psV T = 0 ∧ psE T = 20) := fun h => ps_bad (formTo_bad hlt2 h)
      have hcl := cur_lt hk (by omega) hf
      have hcc := T[k].toNat_lt
      by_cases h48 : formAt k = 48
      · have hok := okAt_dig (c := T[k]) h48
        rw [show refAt k = 100 by unfold refAt; rw [if_pos h48]] at hl
        by_cases h1 : T[k].toNat < 48
        · have h1' : (T[k].toNat : Int) < 48 := by omega
          obtain ⟨e1, e2⟩ := HX0.out (by rw [hok]; simp [isDig]; omega)
          have HE : Hid (psV T = 0 ∧ psE T = 20) := ⟨e1, e2⟩
          clear hok HF HX0 e1 e2 hf
          go_wp2
          go_ret2
          exact ⟨ret2 (vint HE.out.1.symm) (vint HE.out.2.symm), Below.refl _ _⟩
        · have h1' : (48 : Int) ≤ (T[k].toNat : Int) := by omega
          by_cases h2 : 57 < T[k].toNat
          · have h2' : (57 : Int) < (T[k].toNat : Int) := by omega
            obtain ⟨e1, e2⟩ := HX0.out (by rw [hok]; simp [isDig]; omega)
            have HE : Hid (psV T = 0 ∧ psE T = 20) := ⟨e1, e2⟩
            clear hok HF HX0 e1 e2 hf
            go_wp2
            go_ret2
            exact ⟨ret2 (vint HE.out.1.symm) (vint HE.out.2.symm), Below.refl _ _⟩
          · have h2' : (T[k].toNat : Int) ≤ 57 := by omega
            have hb1 : decide (T[k].toNat < 48) = false := decide_eq_false (by omega)
            have hb2 : decide (57 < T[k].toNat) = false := decide_eq_false (by omega)
            have HX : Hid (formTo T (k + 1) = true) := by
              have h := HF.out
              rw [hf, hok] at h
              have e : isDig T[k] = true := by simp [isDig]; omega
              rw [e] at h
              exact h
            have HC : Hid (cur T (k + 1) = cur T k * 10 + (T[k].toNat - 48)) := cur_step T hlt2 hlt h48
            have HG : Hid (got T (k + 1) 8 0 = got T k 8 0 ∧ got T (k + 1) 11 9 = got T k 11 9 ∧ got T (k + 1) 14 12 = got T k 14 12 ∧ got T (k + 1) 17 15 = got T k 17 15) := ⟨got_same (fun e => by subst e; revert h48; decide), got_same (fun e => by subst e; revert h48; decide), got_same (fun e => by subst e; revert h48; decide), got_same (fun e => by subst e; revert h48; decide)⟩
            clear hok HF HX0 hf
            generalize cur T k = n at *
            generalize got T k 8 0 = gd at *
            generalize got T k 11 9 = gh at *
            generalize got T k 14 12 = gm at *
            generalize got T k 17 15 = gs at *
            go_wp2
            go_roundw
            case rel => exact ⟨k + 1, by omega, by go_num, HX.out, vint (by rw [HC.out]; omega), vint (by rw [HG.out.1]), vint (by rw [HG.out.2.1]), vint (by rw [HG.out.2.2.1]), vint (by rw [HG.out.2.2.2]), by first | rfl | trivial⟩
            case measure => simp [intOf]; omega
      · have hok := okAt_sign (c := T[k]) h48
        rw [show refAt k = formAt k by unfold refAt; rw [if_neg h48]] at hl
        have h100 : ¬ formAt k = 100 := by
          have := sign_at hlt h48
          rcases this with rfl | rfl | rfl | rfl <;> decide
        have h100' : ¬ (formAt k : Int) = 100 := by omega
        by_cases h1 : T[k].toNat = formAt k
        · have HX : Hid (formTo T (k + 1) = true) := by
            have h := HF.out
            rw [hf, hok] at h
            have e : (T[k].toNat == formAt k) = true := by simp [h1]
            rw [e] at h
            exact h
          have hsg := sign_at hlt h48
          clear hok HF HX0 hf
          generalize formAt k = f at *
          have h1' : (T[k].toNat : Int) = (f : Int) := by omega
          rcases hsg with rfl | rfl | rfl | rfl
          · have HC : Hid (cur T 9 = 0 ∧ got T 9 8 0 = cur T 8) := ⟨rfl, (cur_part T 0 8 rfl).symm⟩
            have HG : Hid (got T 9 11 9 = got T 8 11 9 ∧ got T 9 14 12 = got T 8 14 12 ∧ got T 9 17 15 = got T 8 17 15) := ⟨rfl, rfl, rfl⟩
            generalize cur T 8 = n at *
            generalize got T 8 8 0 = g0 at *
            generalize got T 8 11 9 = g1 at *
            generalize got T 8 14 12 = g2 at *
            generalize got T 8 17 15 = g3 at *
            go_wp2
            go_roundw
            case rel => exact ⟨9, by omega, by go_num, HX.out, vint (by rw [HC.out.1]; rfl), vint (by rw [HC.out.2]), vint (by rw [HG.out.1]), vint (by rw [HG.out.2.1]), vint (by rw [HG.out.2.2]), by first | rfl | trivial⟩
            case measure => simp [intOf]
          · have HC : Hid (cur T 12 = 0 ∧ got T 12 11 9 = cur T 11) := ⟨rfl, (cur_part T 9 11 rfl).symm⟩
            have HG : Hid (got T 12 8 0 = got T 11 8 0 ∧ got T 12 14 12 = got T 11 14 12 ∧ got T 12 17 15 = got T 11 17 15) := ⟨rfl, rfl, rfl⟩
            generalize cur T 11 = n at *
            generalize got T 11 8 0 = g0 at *
            generalize got T 11 11 9 = g1 at *
            generalize got T 11 14 12 = g2 at *
            generalize got T 11 17 15 = g3 at *
            go_wp2
            go_roundw
            case rel => exact ⟨12, by omega, by go_num, HX.out, vint (by rw [HC.out.1]; rfl), vint (by rw [HG.out.1]), vint (by rw [HC.out.2]), vint (by rw [HG.out.2.1]), vint (by rw [HG.out.2.2]), by first | rfl | trivial⟩
            case measure => simp [intOf]
          · have HC : Hid (cur T 15 = 0 ∧ got T 15 14 12 = cur T 14) := ⟨rfl, (cur_part T 12 14 rfl).symm⟩
            have HG : Hid (got T 15 8 0 = got T 14 8 0 ∧ got T 15 11 9 = got T 14 11 9 ∧ got T 15 17 15 = got T 14 17 15) := ⟨rfl, rfl, rfl⟩
            generalize cur T 14 = n at *
            generalize got T 14 8 0 = g0 at *
            generalize got T 14 11 9 = g1 at *
            generalize got T 14 14 12 = g2 at *
            generalize got T 14 17 15 = g3 at *
            go_wp2
            go_roundw
            case rel => exact ⟨15, by omega, by go_num, HX.out, vint (by rw [HC.out.1]; rfl), vint (by rw [HG.out.1]), vint (by rw [HG.out.2.1]), vint (by rw [HC.out.2]), vint (by rw [HG.out.2.2]), by first | rfl | trivial⟩
            case measure => simp [intOf]
          · have HC : Hid (cur T 18 = 0 ∧ got T 18 17 15 = cur T 17) := ⟨rfl, (cur_part T 15 17 rfl).symm⟩
            have HG : Hid (got T 18 8 0 = got T 17 8 0 ∧ got T 18 11 9 = got T 17 11 9 ∧ got T 18 14 12 = got T 17 14 12) := ⟨rfl, rfl, rfl⟩
            generalize cur T 17 = n at *
            generalize got T 17 8 0 = g0 at *
            generalize got T 17 11 9 = g1 at *
            generalize got T 17 14 12 = g2 at *
            generalize got T 17 17 15 = g3 at *
            go_wp2
            go_roundw
            case rel => exact ⟨18, by omega, by go_num, HX.out, vint (by rw [HC.out.1]; rfl), vint (by rw [HG.out.1]), vint (by rw [HG.out.2.1]), vint (by rw [HG.out.2.2]), vint (by rw [HC.out.2]), by first | rfl | trivial⟩
            case measure => simp [intOf]
        · obtain ⟨e1, e2⟩ := HX0.out (by rw [hok]; simp [h1])
          have HE : Hid (psV T = 0 ∧ psE T = 20) := ⟨e1, e2⟩
          have h1' : ¬ (T[k].toNat : Int) = (formAt k : Int) := by omega
          clear hok HF HX0 e1 e2 hf
          generalize formAt k = f at *
          go_wp2
          go_ret2
          exact ⟨ret2 (vint HE.out.1.symm) (vint HE.out.2.symm), Below.refl _ _⟩
    · obtain rfl : k = 21 := by omega
      have hf2 : formTo T T.size = true := by rw [hT]; exact hf
      have g1 : got T 21 8 0 = part T 0 8 := rfl
      have g2 : got T 21 11 9 = part T 9 11 := rfl
      have g3 : got T 21 14 12 = part T 12 14 := rfl
      have g4 : got T 21 17 15 = part T 15 17 := rfl
      have g5 : cur T 21 = part T 18 21 := cur_part T 18 21 rfl
      have b1 := part_small hf2 0 8 8 (by omega) (by omega) (by decide)
      have b2 := part_small hf2 9 11 2 (by omega) (by omega) (by decide)
      have b3 := part_small hf2 12 14 2 (by omega) (by omega) (by decide)
      have b4 := part_small hf2 15 17 2 (by omega) (by omega) (by decide)
      have b5 := part_small hf2 18 21 3 (by omega) (by omega) (by decide)
      have hfo : formOk T = true := by unfold formOk; rw [hf2, hT]; rfl
      have HP : Hid (psOk T = (dnB (part T 0 8) && decide (part T 9 11 ≤ 23) && decide (part T 12 14 ≤ 59) && decide (part T 15 17 ≤ 59))) := by
        show _ = _
        unfold psOk
        rw [hfo, Bool.true_and]
      have HV : Hid (psOk T = true → psV T = dnV (part T 0 8) * 86400000 + part T 9 11 * 3600000 + part T 12 14 * 60000 + part T 15 17 * 1000 + part T 18 21) := fun h => by
        unfold psV
        rw [h, if_pos rfl, if_pos (by omega), hT]
      rw [g1, g2, g3, g4, g5]
      have hdd := fun w => refNumber_any (part T 0 8) w (by omega) (by omega)
      clear g1 g2 g3 g4 g5 hf hf2 hfo
      generalize part T 0 8 = p1 at *
      generalize part T 9 11 = p2 at *
      generalize part T 12 14 = p3 at *
      generalize part T 15 17 = p4 at *
      generalize part T 18 21 = p5 at *
      have hx : (p2 ≤ 23 ∧ p3 ≤ 59 ∧ p4 ≤ 59) ∨ ¬ (p2 ≤ 23 ∧ p3 ≤ 59 ∧ p4 ≤ 59) := Classical.em _
      cases hd : dnB (p1 : Int)
      · have HE : Hid (psV T = 0 ∧ psE T = 20) := ps_no (by rw [HP.out, hd]; rfl)
        rw [hd, dn_zero hd] at hdd
        clear hd HP HV hx
        go_wp2_with (go_at_call 33; fail)
        refine (hdd _).mono ?_
        rintro e w3 ⟨rfl, hb3⟩
        have HB3 : Hid (Below wr.heap.size wr w3) := hb3
        clear hb3 hdd
        go_wp2
        go_ret2
        exact ⟨ret2 (vint (by have := HE.out.1; omega)) (vint HE.out.2.symm), HB3.out⟩
      · obtain ⟨n, _, hn, hln⟩ := dn_range hd
        rw [hd, hn] at hdd
        by_cases c2 : p2 ≤ 23
        · have c2' : (p2 : Int) ≤ 23 := by omega
          by_cases c3 : p3 ≤ 59
          · have c3' : (p3 : Int) ≤ 59 := by omega
            by_cases c4 : p4 ≤ 59
            · have c4' : (p4 : Int) ≤ 59 := by omega
              have hy : psOk T = true := by rw [HP.out, hd, decide_eq_true c2, decide_eq_true c3, decide_eq_true c4]; rfl
              have HE : Hid (psV T = (n : Int) * 86400000 + p2 * 3600000 + p3 * 60000 + p4 * 1000 + p5 ∧ psE T = 0) := ⟨by rw [HV.out hy, hn], ps_yes hy⟩
              clear hd HP HV hx hy hn
              go_wp2_with (go_at_call 33; fail)
              refine (hdd _).mono ?_
              rintro e w3 ⟨rfl, hb3⟩
              have HB3 : Hid (Below wr.heap.size wr w3) := hb3
              clear hb3 hdd
              go_wp2
              go_ret2
              exact ⟨ret2 (vint (by have := HE.out.1; omega)) (vint HE.out.2.symm), HB3.out⟩
            · have c4' : (59 : Int) < p4 := by omega
              have HE : Hid (psV T = 0 ∧ psE T = 20) := ps_no (by rw [HP.out, decide_eq_false (p := p4 ≤ 59) c4, Bool.and_false])
              clear hd HP HV hx hn
              go_wp2_with (go_at_call 33; fail)
              refine (hdd _).mono ?_
              rintro e w3 ⟨rfl, hb3⟩
              have HB3 : Hid (Below wr.heap.size wr w3) := hb3
              clear hb3 hdd
              go_wp2
              go_ret2
              exact ⟨ret2 (vint (by have := HE.out.1; omega)) (vint HE.out.2.symm), HB3.out⟩
          · have c3' : (59 : Int) < p3 := by omega
            have HE : Hid (psV T = 0 ∧ psE T = 20) := ps_no (by rw [HP.out, decide_eq_false (p := p3 ≤ 59) c3]; simp)
            clear hd HP HV hx hn
            go_wp2_with (go_at_call 33; fail)
            refine (hdd _).mono ?_
            rintro e w3 ⟨rfl, hb3⟩
            have HB3 : Hid (Below wr.heap.size wr w3) := hb3
            clear hb3 hdd
            go_wp2
            go_ret2
            exact ⟨ret2 (vint (by have := HE.out.1; omega)) (vint HE.out.2.symm), HB3.out⟩
        · have c2' : (23 : Int) < p2 := by omega
          have HE : Hid (psV T = 0 ∧ psE T = 20) := ps_no (by rw [HP.out, decide_eq_false (p := p2 ≤ 23) c2]; simp)
          clear hd HP HV hx hn
          go_wp2_with (go_at_call 33; fail)
          refine (hdd _).mono ?_
          rintro e w3 ⟨rfl, hb3⟩
          have HB3 : Hid (Below wr.heap.size wr w3) := hb3
          clear hb3 hdd
          go_wp2
          go_ret2
          exact ⟨ret2 (vint (by have := HE.out.1; omega)) (vint HE.out.2.symm), HB3.out⟩
set_option maxRecDepth 100000 in
set_option maxHeartbeats 400000 in
theorem refParse_other (s : ByteArray) (w : World) (h1 : ¬ s.size = 17) (h2 : ¬ s.size = 21) :
    Calls Tryd.prog 20 #[.string s] w fun e w' => e = .returned (.tuple #[.int .i64 (psV s), .int .i64 (psE s)]) ∧ Below w.heap.size w w' := by
  have hno := ps_no (s := s) (psOk_form (by simp [formOk, h1, h2]))
  rw [hno.1, hno.2]
  clear hno
  have h1' : ¬ (s.size : Int) = 17 := by omega
  have h2' : ¬ (s.size : Int) = 21 := by omega
  have h1b : ((s.size : Int) != 17) = true := by simp; omega
  have h2b : ((s.size : Int) != 21) = true := by simp; omega
  go_enter Tryd.func20, Tryd.ntmps20
  go_wp2
  go_ret2
  exact ⟨rfl, Below.refl _ _⟩
theorem refParse_any (s : ByteArray) (w : World) :
    Calls Tryd.prog 20 #[.string s] w fun e w' => e = .returned (.tuple #[.int .i64 (psV s), .int .i64 (psE s)]) ∧ Below w.heap.size w w' := by
  by_cases h1 : s.size = 17
  · exact refParse_17 s w h1
  · by_cases h2 : s.size = 21
    · exact refParse_21 s w h2
    · exact refParse_other s w h1 h2
end Go.Proofs.YteafaglhlggknaaDoor
