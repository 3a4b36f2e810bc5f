/-
  The reference of fields: field.
-/
import Derived.Test.YtfgfjkchcnpakaaDoorFRefBody
namespace Go.Proofs.YtfgfjkchcnpakaaDoor
set_option linter.unusedVariables false
open Go.RowKit

theorem cnt_in (p : UInt8 → Bool) (l : List UInt8) (a k : Nat) (h : a ≤ k) (hk : k < a + cnt p (l.drop a)) : ∃ c, l[k]? = some c ∧ p c = true := by
  have hl := cnt_le p (l.drop a)
  have hj : k - a < (l.drop a).length := by omega
  refine ⟨(l.drop a)[k - a], ?_, cnt_all p (l.drop a) _ (List.mem_of_getElem? (i := k - a) ?_)⟩
  · have := List.getElem?_eq_getElem hj
    rw [List.getElem?_drop, show a + (k - a) = k by omega] at this
    exact this
  · rw [List.getElem?_take, if_pos (by omega), List.getElem?_eq_getElem hj]
theorem cnt_out (p : UInt8 → Bool) (l : List UInt8) (a : Nat) (c : UInt8) (h : l[a + cnt p (l.drop a)]? = some c) : p c = false :=
  cnt_next p (l.drop a) c (by rw [List.getElem?_drop]; exact h)
theorem results_cell3 {P : Program} {fn : Func} {p u v x : Tmp} {ty : TypeId} (h : fn.results = #[.cell p ty, .tmp u, .tmp v, .tmp x]) (tmps : Array Value) (w : World) (g : Nat) (t : TypeId) (cs : Array Value) (fr : Nat × Nat) (d : TypeDesc)
    (hp : tmps.getD p undef = .pointer (some ⟨g, 0, none⟩)) (hg : w.heap[g]? = some (.cells cs t fr))
    (hu : P.underlying ty = some d) (hd : (match d with | .struct _ | .array _ _ => true | _ => false) = true) (hi : (P.info? ty).map (·.size) = some cs.size) :
    (results fn tmps).run P w = .ok (.tuple #[.agg cs, tmps.getD u undef, tmps.getD v undef, tmps.getD x undef]) w := by
  have hp' : tmps[p]?.getD undef = .pointer (some ⟨g, 0, none⟩) := by simpa using hp
  simp [results, h, hp', asAddr, run_loadVar_row w g t ty cs fr d hg hu hd hi]
/-- What field tells. -/
def RefFieldRet (r : RF) (a : Nat) (w : World) (x : Ending) (w' : World) : Prop :=
  Below w.heap.size w w' ∧ match r with
  | .ok (f, n) => x = .returned (.tuple #[.agg #[.int .i64 f.1, .string (bs f.2)], .int .i64 ((a + n : Nat) : Int), .int .i64 0, .int .i64 0])
  | .error (e, k) => x = .returned (.tuple #[.agg #[.int .i64 0, .string ⟨#[]⟩], .int .i64 0, .int .i64 ((a + k : Nat) : Int), .int .i64 e])
theorem RefFieldRet.good {r : RF} {a : Nat} {w w' : World} {x : Ending} {f : Fld} {n : Nat} (h : r = .ok (f, n)) (hb : Below w.heap.size w w') (hx : x = .returned (.tuple #[.agg #[.int .i64 f.1, .string (bs f.2)], .int .i64 ((a + n : Nat) : Int), .int .i64 0, .int .i64 0])) : RefFieldRet r a w x w' := by
  refine ⟨hb, ?_⟩; rw [h]; exact hx
theorem RefFieldRet.fail {r : RF} {a : Nat} {w w' : World} {x : Ending} {e : Int} {k : Nat} (h : r = .error (e, k)) (hb : Below w.heap.size w w') (hx : x = .returned (.tuple #[.agg #[.int .i64 0, .string ⟨#[]⟩], .int .i64 0, .int .i64 ((a + k : Nat) : Int), .int .i64 e])) : RefFieldRet r a w x w' := by
  refine ⟨hb, ?_⟩; rw [h]; exact hx
theorem ret4 {a a' b b' c c' d d' : Value} (h1 : a = a') (h2 : b = b') (h3 : c = c') (h4 : d = d') : Ending.returned (.tuple #[a, b, c, d]) = .returned (.tuple #[a', b', c', d']) := by rw [h1, h2, h3, h4]
set_option maxRecDepth 100000 in
set_option maxHeartbeats 8000000 in
theorem refField_any (s : ByteArray) (a : Nat) (w : World) (hs : s.size ≤ 1024) (ha : a ≤ s.size) :
    Calls Tryd.prog 57 #[.string s, .int .i64 (a : Int)] w fun x w' => RefFieldRet (rdF (s.data.toList.drop a)) a w x w' := by
  have hm : s.size ≤ maxLen := by unfold maxLen; omega
  have ha' : (a : Int) ≤ (s.size : Int) := by omega
  have hdl : cnt dig (s.data.toList.drop a) ≤ s.size - a := by have := cnt_le dig (s.data.toList.drop a); simp at this; omega
  have HIN : Hid (∀ k, a ≤ k → k < a + cnt dig (s.data.toList.drop a) → ∃ c, s.data.toList[k]? = some c ∧ dig c = true) := fun k h1 h2 => cnt_in dig _ a k h1 h2
  have HOUT : Hid (∀ c, s.data.toList[a + cnt dig (s.data.toList.drop a)]? = some c → dig c = false) := fun c h => cnt_out dig _ a c h
  have hR : rdF (s.data.toList.drop a) = if tagOk (s.data.toList.drop a) = true then rdV (puN ((s.data.toList.drop a).take (cnt dig (s.data.toList.drop a))) 9999) (cnt dig (s.data.toList.drop a)) ((s.data.toList.drop a).drop (cnt dig (s.data.toList.drop a) + 1)) else .error (41, 0) := rfl
  have hTk : tagOk (s.data.toList.drop a) = (decide (puE ((s.data.toList.drop a).take (cnt dig (s.data.toList.drop a))) 9999 = 0) && isTg (puN ((s.data.toList.drop a).take (cnt dig (s.data.toList.drop a))) 9999) && decide ((s.data.toList.drop a)[cnt dig (s.data.toList.drop a)]? = some 61)) := rfl
  rw [List.getElem?_drop] at hTk
  rw [List.drop_drop] at hR
  have h2 := fun w => refParseUint_any (s.extract a (a + cnt dig (s.data.toList.drop a))) 9999 w (by have := extract_le s a (a + cnt dig (s.data.toList.drop a)); omega) (by decide)
  simp only [Lib.extract_data, Nat.add_sub_cancel_left] at h2
  generalize rdF (s.data.toList.drop a) = R at *
  have hp0 := pu_bd ((s.data.toList.drop a).take (cnt dig (s.data.toList.drop a))) 9999 (by decide)
  generalize puN ((s.data.toList.drop a).take (cnt dig (s.data.toList.drop a))) 9999 = t at *
  generalize puE ((s.data.toList.drop a).take (cnt dig (s.data.toList.drop a))) 9999 = E at *
  generalize cnt dig (s.data.toList.drop a) = d at *
  have HR : Hid _ := hR
  have HTk : Hid _ := hTk
  have H2 : Hid _ := h2
  clear hR hTk h2
  have f1 : (a : Int) + (d : Int) ≤ (s.size : Int) := by omega
  have f2 : (a : Int) ≤ (a : Int) + (d : Int) := by omega
  go_enter Tryd.func57, Tryd.ntmps57
  have HF0 : Hid (FldAt (w.alloc (.cells #[.int .i64 0, .string ⟨#[]⟩] 36)) w.heap.size 0 ⟨#[]⟩ ∧ Below w.heap.size w (w.alloc (.cells #[.int .i64 0, .string ⟨#[]⟩] 36))) := ⟨heap_alloc_new w _, (Below.refl _ w).alloc (Nat.le_refl _) _⟩
  go_wp2
  go_loopw [8] (fun i wr => ∃ k : Nat, a ≤ k ∧ k ≤ a + d ∧ i = .int .i64 (k : Int) ∧ FldAt wr w.heap.size 0 ⟨#[]⟩ ∧ Below w.heap.size w wr) (fun i _ => a + d - (intOf i).toNat)
  case atStart => exact ⟨a, by omega, by omega, rfl, HF0.out⟩
  case round =>
    obtain ⟨k, hk, hkd, rfl, hz, hb⟩ := hrel
    have HZ : Hid (FldAt wr w.heap.size 0 ⟨#[]⟩ ∧ Below w.heap.size w wr) := ⟨hz, hb⟩
    clear hz hb HF0
    by_cases hlt : k < a + d
    · obtain ⟨c, hc, hdc⟩ := HIN.out k hk hlt
      have hks : k < s.size := by omega
      have hks' : (k : Int) < (s.size : Int) := by omega
      have hD := fun w => refDigit_any s[k] w
      rw [show dig s[k] = true by rw [get_at s k hks] at hc; injection hc with hc; rw [hc, hdc]] at hD
      have HD : Hid _ := hD
      clear hD hc hdc
      go_wp2_with (go_at_call 56; refine (HD.out _).mono ?_; rintro e w' ⟨rfl, rfl⟩)
      exact ⟨⟨k + 1, by omega, by omega, by go_num, HZ.out⟩, by simp [intOf]; omega⟩
    · obtain rfl : k = a + d := by omega
      clear HIN
      have h3 := fun w => refIsTag_any t w
      have c0 := HZ.out.1.cell0
      have c1 := HZ.out.1.cell1
      have z0 := HZ.out.1.froz 0
      have z1 := HZ.out.1.froz 1
      have hcast : ((a + d : Nat) : Int) = (a : Int) + (d : Int) := by omega
      by_cases hE : E = 0
      · subst hE
        cases hI : isTg t with
        | false =>
          have HB : Hid (R = .error (41, 0)) := by show R = _; rw [HR.out, HTk.out, hI]; simp
          simp only [hI] at h3
          clear hI
          by_cases hks : a + d < s.size
          · have hks' := hks
            have y1 : (a : Int) + (d : Int) < (s.size : Int) := by omega
            have hD := fun w => refDigit_any s[a + d] w
            rw [HOUT.out _ (get_at s (a + d) hks)] at hD
            have HD : Hid _ := hD
            clear hD
            go_wp2_with (first | (go_at_call 56; refine (HD.out _).mono ?_; rintro e w' ⟨rfl, rfl⟩) | (go_at_call 51; refine (H2.out _).mono ?_; rintro e w' ⟨rfl, rfl⟩) | (go_at_call 46; refine (h3 _).mono ?_; rintro e w' ⟨rfl, rfl⟩))
            try simp only [Exit.inBlock, Exit.then]
            refine bodyPost_ret (results_cell3 (fn := Tryd.f57) (p := 4) (u := 5) (v := 6) (x := 7) (ty := 36) rfl _ _ w.heap.size 36 _ (0, 0) _ (by rfl) (HZ.out.1.set 0 ⟨#[]⟩) Tryd.underlying36 rfl (by kernel_rfl)) rfl ?_
            exact .fail HB.out (below_set2 HZ.out.2 (Nat.le_refl _) _ _) (ret4 rfl rfl (vint (by omega)) rfl)
          · have hks' := hks
            have y1 : decide ((a : Int) + (d : Int) < (s.size : Int)) = false := decide_eq_false (by omega)
            have y2 : decide (a + d < s.size) = false := decide_eq_false (by omega)
            go_wp2_with (first | (go_at_call 51; refine (H2.out _).mono ?_; rintro e w' ⟨rfl, rfl⟩) | (go_at_call 46; refine (h3 _).mono ?_; rintro e w' ⟨rfl, rfl⟩))
            try simp only [Exit.inBlock, Exit.then]
            refine bodyPost_ret (results_cell3 (fn := Tryd.f57) (p := 4) (u := 5) (v := 6) (x := 7) (ty := 36) rfl _ _ w.heap.size 36 _ (0, 0) _ (by rfl) (HZ.out.1.set 0 ⟨#[]⟩) Tryd.underlying36 rfl (by kernel_rfl)) rfl ?_
            exact .fail HB.out (below_set2 HZ.out.2 (Nat.le_refl _) _ _) (ret4 rfl rfl (vint (by omega)) rfl)
        | true =>
          have HI : Hid (isTg t = true) := hI
          simp only [hI] at h3
          clear hI
          by_cases hks : a + d < s.size
          · have hge : decide ((s.size : Int) ≤ (a : Int) + (d : Int)) = false := decide_eq_false (by omega)
            have hge2 : decide (s.size ≤ a + d) = false := decide_eq_false (by omega)
            have y1 : (a : Int) + (d : Int) < (s.size : Int) := by omega
            have hD := fun w => refDigit_any s[a + d] w
            rw [HOUT.out _ (get_at s (a + d) hks)] at hD
            have HD : Hid _ := hD
            clear hD
            by_cases h61 : s[a + d] = 61
            · have h61' : (s[a + d].toNat : Int) = 61 := by rw [h61]; rfl
              have h61b : ((s[a + d].toNat : Int) != 61) = false := by simpa using h61'
              have hD2 : ∀ w, Calls Tryd.prog 56 #[.int .u8 61] w fun e w' => e = .returned (.bool false) ∧ w' = w := fun w => by
                have h := refDigit_any 61 w
                rw [show dig 61 = false by decide] at h
                exact h
              have HD2 : Hid _ := hD2
              have hR2 : R = rdV t d (s.data.toList.drop (a + d + 1)) := by rw [HR.out, HTk.out, HI.out, get_at s (a + d) hks, h61]; simp [Nat.add_assoc]
              unfold rdV at hR2
              rw [List.getElem?_drop] at hR2
              have HIN2 : Hid (∀ k, a + d + 1 ≤ k → k < a + d + 1 + cnt vby (s.data.toList.drop (a + d + 1)) → ∃ c, s.data.toList[k]? = some c ∧ vby c = true) := fun k h1 h2 => cnt_in vby _ (a + d + 1) k h1 h2
              have HOUT2 : Hid (∀ c, s.data.toList[a + d + 1 + cnt vby (s.data.toList.drop (a + d + 1))]? = some c → vby c = false) := fun c h => cnt_out vby _ (a + d + 1) c h
              have hvl : cnt vby (s.data.toList.drop (a + d + 1)) ≤ s.size - (a + d + 1) := by have := cnt_le vby (s.data.toList.drop (a + d + 1)); simp at this; omega
              generalize cnt vby (s.data.toList.drop (a + d + 1)) = v at *
              obtain ⟨M, hM⟩ : ∃ M, M = a + d + 1 + v := ⟨_, rfl⟩
              rw [← hM] at hR2 HIN2 HOUT2
              have HM : Hid (M = a + d + 1 + v) := hM
              have HR2 : Hid _ := hR2
              have g1 : (a : Int) + (d : Int) + 1 ≤ (s.size : Int) := by omega
              have g2 : (M : Int) ≤ (s.size : Int) := by omega
              have g3 : (a : Int) + (d : Int) + 1 ≤ (M : Int) := by omega
              have g4 : a + d + 1 ≤ M := by omega
              clear hD2 hR2 hM h61 HD hcast
              go_wp2_with (first | (go_at_call 56; refine (HD2.out _).mono ?_; rintro e w' ⟨rfl, rfl⟩) | (go_at_call 51; refine (H2.out _).mono ?_; rintro e w' ⟨rfl, rfl⟩) | (go_at_call 46; refine (h3 _).mono ?_; rintro e w' ⟨rfl, rfl⟩))
              go_loopw [8] (fun i wr => ∃ m : Nat, a + d + 1 ≤ m ∧ m ≤ M ∧ i = .int .i64 (m : Int) ∧ FldAt wr w.heap.size 0 ⟨#[]⟩ ∧ Below w.heap.size w wr) (fun i _ => M - (intOf i).toNat)
              case atStart => exact ⟨a + d + 1, by omega, by omega, by go_num, HZ.out⟩
              case round =>
                clear HZ c0 c1 z0 z1
                obtain ⟨m, hm1, hm2, rfl, hz, hb⟩ := hrel
                have HZ : Hid (FldAt wr w.heap.size 0 ⟨#[]⟩ ∧ Below w.heap.size w wr) := ⟨hz, hb⟩
                clear hz hb
                by_cases hlt2 : m < M
                · obtain ⟨c, hc, hvc⟩ := HIN2.out m hm1 hlt2
                  have hms : m < s.size := by omega
                  have hms' : (m : Int) < (s.size : Int) := by omega
                  have hvb := (vby_iff s[m]).1 (by rw [get_at s m hms] at hc; injection hc with hc; rw [hc, hvc])
                  obtain ⟨q1, q2⟩ := hvb
                  clear hc hvc
                  go_wp2
                  exact ⟨⟨m + 1, by omega, by omega, by go_num, HZ.out⟩, by simp [intOf]; omega⟩
                · obtain rfl : m = M := by omega
                  clear HIN2
                  have c0 := HZ.out.1.cell0
                  have c1 := HZ.out.1.cell1
                  have z0 := HZ.out.1.froz 0
                  have z1 := HZ.out.1.froz 1
                  by_cases hms : m < s.size
                  · have hms' : (m : Int) < (s.size : Int) := by omega
                    have x1 : decide ((s.size : Int) ≤ (m : Int)) = false := decide_eq_false (by omega)
                    have x2 : decide (s.size ≤ m) = false := decide_eq_false (by omega)
                    have hvb := HOUT2.out _ (get_at s m hms)
                    by_cases h32 : 32 ≤ (s[m].toNat : Int)
                    · have hh : ¬ (s[m].toNat : Int) ≤ 126 := fun h => by rw [(vby_iff _).2 ⟨h32, h⟩] at hvb; cases hvb
                      have h126 : decide ((s[m].toNat : Int) ≤ 126) = false := decide_eq_false hh
                      have h1' : ¬ (s[m].toNat : Int) = 1 := by omega
                      have h1b : ((s[m].toNat : Int) != 1) = true := by simpa using h1'
                      have HB : Hid (R = .error (42, d + 1 + v)) := by
                        show R = _
                        rw [HR2.out, if_neg]
                        rintro ⟨_, h⟩
                        rw [get_at s m hms] at h
                        injection h with h
                        exact h1' (by rw [h]; rfl)
                      clear hvb
                      go_wp2
                      try simp only [Exit.inBlock, Exit.then]
                      refine bodyPost_ret (results_cell3 (fn := Tryd.f57) (p := 4) (u := 5) (v := 6) (x := 7) (ty := 36) rfl _ _ w.heap.size 36 _ (0, 0) _ (by rfl) (HZ.out.1.set 0 ⟨#[]⟩) Tryd.underlying36 rfl (by kernel_rfl)) rfl ?_
                      exact .fail HB.out (below_set2 HZ.out.2 (Nat.le_refl _) _ _) (ret4 rfl rfl (vint (by have := HM.out; omega)) rfl)
                    · have h32b : decide (32 ≤ (s[m].toNat : Int)) = false := decide_eq_false h32
                      clear hvb
                      by_cases h1 : s[m] = 1
                      · have h1' : (s[m].toNat : Int) = 1 := by rw [h1]; rfl
                        have h1b : ((s[m].toNat : Int) != 1) = false := by simpa using h1'
                        by_cases hv0 : v = 0
                        · have hmb : (m : Int) = (a : Int) + (d : Int) + 1 := by have := HM.out; omega
                          have hmb2 : ((m : Int) == (a : Int) + (d : Int) + 1) = true := by simpa using hmb
                          have HB : Hid (R = .error (42, d + 1 + v)) := by
                            show R = _
                            rw [HR2.out, if_neg]
                            rintro ⟨h, _⟩
                            omega
                          have HMB : Hid ((m : Int) = (a : Int) + (d : Int) + 1) := hmb
                          clear hmb h1
                          go_wp2
                          try simp only [Exit.inBlock, Exit.then]
                          refine bodyPost_ret (results_cell3 (fn := Tryd.f57) (p := 4) (u := 5) (v := 6) (x := 7) (ty := 36) rfl _ _ w.heap.size 36 _ (0, 0) _ (by rfl) (HZ.out.1.set 0 ⟨#[]⟩) Tryd.underlying36 rfl (by kernel_rfl)) rfl ?_
                          exact .fail HB.out (below_set2 HZ.out.2 (Nat.le_refl _) _ _) (ret4 rfl rfl (vint (by have := HM.out; omega)) rfl)
                        · have hmb : ¬ (m : Int) = (a : Int) + (d : Int) + 1 := by have := HM.out; omega
                          have hmb2 : ((m : Int) == (a : Int) + (d : Int) + 1) = false := by simpa using hmb
                          have HB : Hid (R = .ok ((t, (s.data.toList.drop (a + d + 1)).take v), d + 1 + v + 1)) := by
                            show R = _
                            rw [HR2.out, if_pos ⟨by omega, by rw [get_at s m hms, h1]⟩]
                          have HV : Hid (s.extract (a + d + 1) m = bs ((s.data.toList.drop (a + d + 1)).take v)) := by
                            show _ = _
                            rw [← bs_data (s.extract (a + d + 1) m), Lib.extract_data, HM.out, Nat.add_sub_cancel_left]
                          clear h1
                          go_wp2
                          try simp only [Exit.inBlock, Exit.then]
                          refine bodyPost_ret (results_cell3 (fn := Tryd.f57) (p := 4) (u := 5) (v := 6) (x := 7) (ty := 36) rfl _ _ w.heap.size 36 _ (0, 0) _ (by rfl) (HZ.out.1.set t (s.extract (a + d + 1) m)) Tryd.underlying36 rfl (by kernel_rfl)) rfl ?_
                          exact .good HB.out (below_set2 HZ.out.2 (Nat.le_refl _) _ _) (ret4 (by rw [HV.out]) (vint (by have := HM.out; omega)) rfl rfl)
                      · have h1' : ¬ (s[m].toNat : Int) = 1 := fun h => h1 (u8_of_nat (b := 1) h)
                        have h1b : ((s[m].toNat : Int) != 1) = true := by simpa using h1'
                        have HB : Hid (R = .error (42, d + 1 + v)) := by
                          show R = _
                          rw [HR2.out, if_neg]
                          rintro ⟨_, h⟩
                          rw [get_at s m hms] at h
                          injection h with h
                          exact h1 h
                        clear h1
                        go_wp2
                        try simp only [Exit.inBlock, Exit.then]
                        refine bodyPost_ret (results_cell3 (fn := Tryd.f57) (p := 4) (u := 5) (v := 6) (x := 7) (ty := 36) rfl _ _ w.heap.size 36 _ (0, 0) _ (by rfl) (HZ.out.1.set 0 ⟨#[]⟩) Tryd.underlying36 rfl (by kernel_rfl)) rfl ?_
                        exact .fail HB.out (below_set2 HZ.out.2 (Nat.le_refl _) _ _) (ret4 rfl rfl (vint (by have := HM.out; omega)) rfl)
                  · have x1 : decide ((s.size : Int) ≤ (m : Int)) = true := decide_eq_true (by omega)
                    have x2 : decide (s.size ≤ m) = true := decide_eq_true (by omega)
                    have x3 : decide ((m : Int) < (s.size : Int)) = false := decide_eq_false (by omega)
                    have x4 : decide (m < s.size) = false := decide_eq_false (by omega)
                    have HB : Hid (R = .error (42, d + 1 + v)) := by
                      show R = _
                      rw [HR2.out, if_neg]
                      rintro ⟨_, h⟩
                      rw [get_no s m hms] at h
                      cases h
                    go_wp2
                    try simp only [Exit.inBlock, Exit.then]
                    refine bodyPost_ret (results_cell3 (fn := Tryd.f57) (p := 4) (u := 5) (v := 6) (x := 7) (ty := 36) rfl _ _ w.heap.size 36 _ (0, 0) _ (by rfl) (HZ.out.1.set 0 ⟨#[]⟩) Tryd.underlying36 rfl (by kernel_rfl)) rfl ?_
                    exact .fail HB.out (below_set2 HZ.out.2 (Nat.le_refl _) _ _) (ret4 rfl rfl (vint (by have := HM.out; omega)) rfl)
            · have h61' : ¬ (s[a + d].toNat : Int) = 61 := fun h => h61 (u8_of_nat (b := 61) h)
              have h61b : ((s[a + d].toNat : Int) != 61) = true := by simpa using h61'
              have HB : Hid (R = .error (41, 0)) := by show R = _; rw [HR.out, HTk.out, HI.out, get_at s (a + d) hks]; simp [h61]
              clear h61
              go_wp2_with (first | (go_at_call 56; refine (HD.out _).mono ?_; rintro e w' ⟨rfl, rfl⟩) | (go_at_call 51; refine (H2.out _).mono ?_; rintro e w' ⟨rfl, rfl⟩) | (go_at_call 46; refine (h3 _).mono ?_; rintro e w' ⟨rfl, rfl⟩))
              try simp only [Exit.inBlock, Exit.then]
              refine bodyPost_ret (results_cell3 (fn := Tryd.f57) (p := 4) (u := 5) (v := 6) (x := 7) (ty := 36) rfl _ _ w.heap.size 36 _ (0, 0) _ (by rfl) (HZ.out.1.set 0 ⟨#[]⟩) Tryd.underlying36 rfl (by kernel_rfl)) rfl ?_
              exact .fail HB.out (below_set2 HZ.out.2 (Nat.le_refl _) _ _) (ret4 rfl rfl (vint (by omega)) rfl)
          · have hge : decide ((s.size : Int) ≤ (a : Int) + (d : Int)) = true := decide_eq_true (by omega)
            have hge2 : decide (s.size ≤ a + d) = true := decide_eq_true (by omega)
            have HB : Hid (R = .error (41, 0)) := by show R = _; rw [HR.out, HTk.out, get_no s (a + d) hks]; simp
            have y1 : decide ((a : Int) + (d : Int) < (s.size : Int)) = false := decide_eq_false (by omega)
            have y2 : decide (a + d < s.size) = false := decide_eq_false (by omega)
            go_wp2_with (first | (go_at_call 51; refine (H2.out _).mono ?_; rintro e w' ⟨rfl, rfl⟩) | (go_at_call 46; refine (h3 _).mono ?_; rintro e w' ⟨rfl, rfl⟩))
            try simp only [Exit.inBlock, Exit.then]
            refine bodyPost_ret (results_cell3 (fn := Tryd.f57) (p := 4) (u := 5) (v := 6) (x := 7) (ty := 36) rfl _ _ w.heap.size 36 _ (0, 0) _ (by rfl) (HZ.out.1.set 0 ⟨#[]⟩) Tryd.underlying36 rfl (by kernel_rfl)) rfl ?_
            exact .fail HB.out (below_set2 HZ.out.2 (Nat.le_refl _) _ _) (ret4 rfl rfl (vint (by omega)) rfl)
      · have hE' : (E != 0) = true := by simpa using hE
        have HB : Hid (R = .error (41, 0)) := by show R = _; rw [HR.out, HTk.out]; simp [hE]
        generalize isTg t = b at *
        by_cases hks : a + d < s.size
        · have hks' := hks
          have y1 : (a : Int) + (d : Int) < (s.size : Int) := by omega
          have hD := fun w => refDigit_any s[a + d] w
          rw [HOUT.out _ (get_at s (a + d) hks)] at hD
          have HD : Hid _ := hD
          clear hD
          go_wp2_with (first | (go_at_call 56; refine (HD.out _).mono ?_; rintro e w' ⟨rfl, rfl⟩) | (go_at_call 51; refine (H2.out _).mono ?_; rintro e w' ⟨rfl, rfl⟩) | (go_at_call 46; refine (h3 _).mono ?_; rintro e w' ⟨rfl, rfl⟩))
          try simp only [Exit.inBlock, Exit.then]
          refine bodyPost_ret (results_cell3 (fn := Tryd.f57) (p := 4) (u := 5) (v := 6) (x := 7) (ty := 36) rfl _ _ w.heap.size 36 _ (0, 0) _ (by rfl) (HZ.out.1.set 0 ⟨#[]⟩) Tryd.underlying36 rfl (by kernel_rfl)) rfl ?_
          exact .fail HB.out (below_set2 HZ.out.2 (Nat.le_refl _) _ _) (ret4 rfl rfl (vint (by omega)) rfl)
        · have hks' := hks
          have y1 : decide ((a : Int) + (d : Int) < (s.size : Int)) = false := decide_eq_false (by omega)
          have y2 : decide (a + d < s.size) = false := decide_eq_false (by omega)
          go_wp2_with (first | (go_at_call 51; refine (H2.out _).mono ?_; rintro e w' ⟨rfl, rfl⟩) | (go_at_call 46; refine (h3 _).mono ?_; rintro e w' ⟨rfl, rfl⟩))
          try simp only [Exit.inBlock, Exit.then]
          refine bodyPost_ret (results_cell3 (fn := Tryd.f57) (p := 4) (u := 5) (v := 6) (x := 7) (ty := 36) rfl _ _ w.heap.size 36 _ (0, 0) _ (by rfl) (HZ.out.1.set 0 ⟨#[]⟩) Tryd.underlying36 rfl (by kernel_rfl)) rfl ?_
          exact .fail HB.out (below_set2 HZ.out.2 (Nat.le_refl _) _ _) (ret4 rfl rfl (vint (by omega)) rfl)
end Go.Proofs.YtfgfjkchcnpakaaDoor
