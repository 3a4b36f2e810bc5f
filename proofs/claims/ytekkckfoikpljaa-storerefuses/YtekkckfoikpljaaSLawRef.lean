/-
  StoreRefuses: the walk.
-/
import Derived.Test.YtekkckfoikpljaaSShown
namespace Go.Proofs.Ytekkckfoikpljaa
set_option linter.unusedVariables false
set_option linter.unusedSimpArgs false
open Go.RowKit Go.Great

set_option maxRecDepth 100000 in
set_option maxHeartbeats 8000000 in
theorem StoreRefuses_law (kz : Int) (hk0 : -9223372036854775808 ≤ kz) (hk1 : kz ≤ 9223372036854775807) (a : Option Addr) (len cap : Nat) (d : Nat → Int) (hl : len ≤ maxLen) (M : Msg) (z1 z2 : Int) (hz1 : -9223372036854775808 ≤ z1) (hz1' : z1 ≤ 9223372036854775807) (hz2 : -9223372036854775808 ≤ z2) (hz2' : z2 ≤ 9223372036854775807) (w : World) (hs : SrcI w a len d) :
    Calls Try.prog 5 #[.int .i64 kz, .slice a len cap, .agg M.cs, .int .i64 z1, .int .i64 z2] w fun e w' => e = .returned (.bool true) ∧ Below w.heap.size w w' := by
  have hb0 : Below w.heap.size w (w.alloc (.cells M.cs 34)) := (Below.refl _ w).alloc (Nat.le_refl _) _
  have ho0 : OwnM (w.alloc (.cells M.cs 34)) w.heap.size M := heap_alloc_new w _
  have hsh := shown_any (w.alloc (.cells M.cs 34))
  have HS : Hid (SrcI w a len d ∧ len ≤ maxLen) := ⟨hs, hl⟩
  have hpk := fun w' => pick_any kz 9 9 rfl w' (by omega) (by omega) hk0 hk1
  have hpl := pickN_lt kz (n := 9) (by omega)
  generalize pickN kz 9 = K9 at *
  have H0 : Hid (Below w.heap.size w (w.alloc (.cells M.cs 34)) ∧ OwnM (w.alloc (.cells M.cs 34)) w.heap.size M) := ⟨hb0, ho0⟩
  clear hb0 ho0 hs hl
  generalize hcs : M.cs = cs at *
  have HCS : Hid (M.cs = cs) := hcs
  clear hcs
  go_enter Try.func5, Try.ntmps5
  go_wp2_with (go_at_call 7; fail)
  refine hsh.mono ?_
  rintro e w1 ⟨rfl, hb1⟩
  have H1 : Hid (Below w.heap.size w w1 ∧ OwnM w1 w.heap.size M) := ⟨H0.out.1.trans (hb1.mono H0.out.1.size), (hb1.block _ H0.out.2.lt).trans H0.out.2⟩
  clear hsh hb1 H0
  have hfl := filled_any kz a len cap d w1 (HS.out.1.below H1.out.1) HS.out.2 hk0 hk1
  have hK := pickN_lt kz (n := 200) (by omega)
  generalize hKe : 1 + pickN kz 200 = K at *
  have hK1 : 1 ≤ K := by omega
  have hK2 : K ≤ 200 := by omega
  clear hKe hK
  have hN := Nat.min_le_right len 1500
  generalize min len 1500 = N at *
  go_wp2_with (go_at_call 8; fail)
  refine hfl.mono ?_
  rintro e w2 ⟨p, va, vk, vl, rfl, hfi⟩
  have HF : Hid (FI w1 w2 p K (evF d N) (evF d N) vk vl va N) := hfi
  obtain ⟨ava, cva, rfl, -⟩ := hfi.all.form
  have HEL : Hid ((evF d N).length = N) := evF_len d N
  clear hfl hfi
  generalize (putL (evF d N)).length = pu at *
  generalize evF d N = ev at *
  have hnx := Next_any HF.out.st
  have hkp := Kept_any HF.out.st
  rw [HEL.out, show ((N + 1 : Nat) : Int) = (N : Int) + 1 by omega] at hnx
  obtain ⟨kl, hkl⟩ : ∃ kl, (keptL K ev).length = kl := ⟨_, rfl⟩
  obtain ⟨ov, hov⟩ : ∃ ov, over K ev = ov := ⟨_, rfl⟩
  rw [hkl, hov] at hkp
  have HKL : Hid ((keptL K ev).length = kl) := hkl
  have HOV : Hid (over K ev = ov) := hov
  clear hkl hov
  have c3 : ∀ q, (w2.drewN q).cell? ⟨w.heap.size, 3, none⟩ = some (.int .i64 (M.z 3)) := fun q => by
    have h1 : OwnM w2 w.heap.size M := (HF.out.below.block _ H1.out.2.lt).trans H1.out.2
    exact OwnM.cell (w := w2.drewN q) h1 3 (by decide)
  have HM2 : Hid (∀ q, OwnM (w2.drewN q) w.heap.size M ∧ StAt (w2.drewN q) p K ev vk vl ∧ Below w.heap.size w (w2.drewN q)) := fun q => ⟨(HF.out.below.block _ H1.out.2.lt).trans H1.out.2, HF.out.st.fr ((Fr.refl w2 fun _ => False).drewN q) (fun _ _ h => h), below_drewN (H1.out.1.trans (HF.out.below.mono H1.out.1.size)) q⟩
  go_upto_region 8 with (first
    | (go_at_call 11; refine hnx.mono ?_; rintro e w7 ⟨rfl, ew⟩; replace ew := ew.symm; subst ew)
    | (go_at_call 12; refine hkp.mono ?_; rintro e w6 ⟨rfl, q6, ew⟩; subst ew))
  clear hnx hkp
  generalize hzz : M.z 3 = Z at *
  have c3' := c3 q6
  obtain ⟨m1, m2, m3⟩ := HM2.out q6
  have HM3 : Hid _ := And.intro m1 (And.intro m2 m3)
  clear c3 HM2 m1 m2 m3 HF
  generalize w2.drewN q6 = w3 at *
  by_cases hseq : Z = (N : Int) + 1
  · have hs1 : (Z == (N : Int) + 1) = true := by simpa using hseq
    subst hseq
    go_upto_region 10 with fail
    have HS4 : Hid (StAt w3 p K ev vk vl ∧ Below w.heap.size w w3) := HM3.out.2
    clear HM3 c3'
    generalize w3 = w4 at *
    by_cases k1 : z1 < 1
    · have k1' : ¬ 1 ≤ z1 := by omega
      have hpar := Parts_no z1 z2 HS4.out.1 (by rw [HEL.out]; omega) (by rw [HEL.out]; omega)
      go_wp2_with (go_at_call 10; fail)
      refine hpar.mono ?_
      rintro e w5 ⟨rfl, rfl⟩
      have HS5 : Hid _ := HS4.out
      clear hpar HS4
      have hkp2 := Kept_any HS5.out.1
      have hnx2 := fun q => Next_any (HS5.out.1.fr ((Fr.refl w5 fun _ => False).drewN q) (fun _ _ h => h))
      rw [HKL.out, HOV.out] at hkp2
      simp only [HEL.out] at hnx2
      rw [show ((N + 1 : Nat) : Int) = (N : Int) + 1 by omega] at hnx2
      go_wp2_with (first
        | (go_at_call 12; refine hkp2.mono ?_; rintro e w6 ⟨rfl, q6, ew⟩; subst ew)
        | (go_at_call 11; refine (hnx2 _).mono ?_; rintro e w7 ⟨rfl, ew⟩; replace ew := ew.symm; subst ew)
        | (go_at_call 9; refine (hpk _).mono ?_; rintro e w8 ⟨rfl, ew⟩; replace ew := ew.symm; subst ew)
        | (go_at_call 14; refine (New_no _ (by first | exact .inl (by omega) | exact .inr (by omega)) _).mono ?_; rintro e w9 ⟨rfl, ew⟩; replace ew := ew.symm; subst ew))
      go_ret
      exact ⟨rfl, below_drewN HS5.out.2 _⟩
    · have k1' : 1 ≤ z1 := by omega
      by_cases k2 : z2 = 0
      · by_cases k3 : z1 ≤ (N : Int)
        · subst k2
          obtain ⟨A, hA⟩ : ∃ A : Nat, z1 = (A : Int) := ⟨z1.toNat, by omega⟩
          subst hA
          have hpar := Parts_yes A (N) 0 HS4.out.1 (by rw [HEL.out]; omega) (by omega) (by omega) (by rw [HEL.out]; omega) (by rw [HEL.out]; omega) (by omega)
          go_wp2_with (go_at_call 10; fail)
          refine hpar.mono ?_
          rintro e w5 ⟨v5, rfl, hr5, hb5, -⟩
          have HS5 : Hid (StAt w5 p K ev vk vl ∧ Below w.heap.size w w5) := ⟨HS4.out.1.fr (Fr.of_below hb5 (fun _ => False)) (fun _ _ h => h), HS4.out.2.trans (hb5.mono HS4.out.2.size)⟩
          obtain ⟨ao5, cp5, rfl, -⟩ := hr5.form
          generalize (prt K ev A (N)).length = LL at *
          clear hpar hr5 hb5 HS4
          have hkp2 := Kept_any HS5.out.1
          have hnx2 := fun q => Next_any (HS5.out.1.fr ((Fr.refl w5 fun _ => False).drewN q) (fun _ _ h => h))
          rw [HKL.out, HOV.out] at hkp2
          simp only [HEL.out] at hnx2
          rw [show ((N + 1 : Nat) : Int) = (N : Int) + 1 by omega] at hnx2
          go_wp2_with (first
            | (go_at_call 12; refine hkp2.mono ?_; rintro e w6 ⟨rfl, q6, ew⟩; subst ew)
            | (go_at_call 11; refine (hnx2 _).mono ?_; rintro e w7 ⟨rfl, ew⟩; replace ew := ew.symm; subst ew)
            | (go_at_call 9; refine (hpk _).mono ?_; rintro e w8 ⟨rfl, ew⟩; replace ew := ew.symm; subst ew)
            | (go_at_call 14; refine (New_no _ (by first | exact .inl (by omega) | exact .inr (by omega)) _).mono ?_; rintro e w9 ⟨rfl, ew⟩; replace ew := ew.symm; subst ew))
          go_ret
          exact ⟨rfl, below_drewN HS5.out.2 _⟩
        · subst k2
          have k4 : ¬ z1 ≤ 0 := by omega
          have hpar := Parts_no z1 0 HS4.out.1 (by rw [HEL.out]; omega) (by rw [HEL.out]; omega)
          go_wp2_with (go_at_call 10; fail)
          refine hpar.mono ?_
          rintro e w5 ⟨rfl, rfl⟩
          have HS5 : Hid _ := HS4.out
          clear hpar HS4
          have hkp2 := Kept_any HS5.out.1
          have hnx2 := fun q => Next_any (HS5.out.1.fr ((Fr.refl w5 fun _ => False).drewN q) (fun _ _ h => h))
          rw [HKL.out, HOV.out] at hkp2
          simp only [HEL.out] at hnx2
          rw [show ((N + 1 : Nat) : Int) = (N : Int) + 1 by omega] at hnx2
          go_wp2_with (first
            | (go_at_call 12; refine hkp2.mono ?_; rintro e w6 ⟨rfl, q6, ew⟩; subst ew)
            | (go_at_call 11; refine (hnx2 _).mono ?_; rintro e w7 ⟨rfl, ew⟩; replace ew := ew.symm; subst ew)
            | (go_at_call 9; refine (hpk _).mono ?_; rintro e w8 ⟨rfl, ew⟩; replace ew := ew.symm; subst ew)
            | (go_at_call 14; refine (New_no _ (by first | exact .inl (by omega) | exact .inr (by omega)) _).mono ?_; rintro e w9 ⟨rfl, ew⟩; replace ew := ew.symm; subst ew))
          go_ret
          exact ⟨rfl, below_drewN HS5.out.2 _⟩
      · by_cases k3 : z1 ≤ z2
        · by_cases k4 : z2 ≤ (N : Int)
          · obtain ⟨A, hA⟩ : ∃ A : Nat, z1 = (A : Int) := ⟨z1.toNat, by omega⟩
            subst hA
            have hpar := Parts_yes A (z2.toNat) z2 HS4.out.1 (by rw [HEL.out]; omega) (by omega) (by omega) (by rw [HEL.out]; omega) (by rw [HEL.out]; omega) (by omega)
            go_wp2_with (go_at_call 10; fail)
            refine hpar.mono ?_
            rintro e w5 ⟨v5, rfl, hr5, hb5, -⟩
            have HS5 : Hid (StAt w5 p K ev vk vl ∧ Below w.heap.size w w5) := ⟨HS4.out.1.fr (Fr.of_below hb5 (fun _ => False)) (fun _ _ h => h), HS4.out.2.trans (hb5.mono HS4.out.2.size)⟩
            obtain ⟨ao5, cp5, rfl, -⟩ := hr5.form
            generalize (prt K ev A (z2.toNat)).length = LL at *
            clear hpar hr5 hb5 HS4
            have hkp2 := Kept_any HS5.out.1
            have hnx2 := fun q => Next_any (HS5.out.1.fr ((Fr.refl w5 fun _ => False).drewN q) (fun _ _ h => h))
            rw [HKL.out, HOV.out] at hkp2
            simp only [HEL.out] at hnx2
            rw [show ((N + 1 : Nat) : Int) = (N : Int) + 1 by omega] at hnx2
            go_wp2_with (first
              | (go_at_call 12; refine hkp2.mono ?_; rintro e w6 ⟨rfl, q6, ew⟩; subst ew)
              | (go_at_call 11; refine (hnx2 _).mono ?_; rintro e w7 ⟨rfl, ew⟩; replace ew := ew.symm; subst ew)
              | (go_at_call 9; refine (hpk _).mono ?_; rintro e w8 ⟨rfl, ew⟩; replace ew := ew.symm; subst ew)
              | (go_at_call 14; refine (New_no _ (by first | exact .inl (by omega) | exact .inr (by omega)) _).mono ?_; rintro e w9 ⟨rfl, ew⟩; replace ew := ew.symm; subst ew))
            go_ret
            exact ⟨rfl, below_drewN HS5.out.2 _⟩
          · have hpar := Parts_no z1 z2 HS4.out.1 (by rw [HEL.out]; omega) (by rw [HEL.out]; omega)
            go_wp2_with (go_at_call 10; fail)
            refine hpar.mono ?_
            rintro e w5 ⟨rfl, rfl⟩
            have HS5 : Hid _ := HS4.out
            clear hpar HS4
            have hkp2 := Kept_any HS5.out.1
            have hnx2 := fun q => Next_any (HS5.out.1.fr ((Fr.refl w5 fun _ => False).drewN q) (fun _ _ h => h))
            rw [HKL.out, HOV.out] at hkp2
            simp only [HEL.out] at hnx2
            rw [show ((N + 1 : Nat) : Int) = (N : Int) + 1 by omega] at hnx2
            go_wp2_with (first
              | (go_at_call 12; refine hkp2.mono ?_; rintro e w6 ⟨rfl, q6, ew⟩; subst ew)
              | (go_at_call 11; refine (hnx2 _).mono ?_; rintro e w7 ⟨rfl, ew⟩; replace ew := ew.symm; subst ew)
              | (go_at_call 9; refine (hpk _).mono ?_; rintro e w8 ⟨rfl, ew⟩; replace ew := ew.symm; subst ew)
              | (go_at_call 14; refine (New_no _ (by first | exact .inl (by omega) | exact .inr (by omega)) _).mono ?_; rintro e w9 ⟨rfl, ew⟩; replace ew := ew.symm; subst ew))
            go_ret
            exact ⟨rfl, below_drewN HS5.out.2 _⟩
        · have hpar := Parts_no z1 z2 HS4.out.1 (by rw [HEL.out]; omega) (by rw [HEL.out]; omega)
          go_wp2_with (go_at_call 10; fail)
          refine hpar.mono ?_
          rintro e w5 ⟨rfl, rfl⟩
          have HS5 : Hid _ := HS4.out
          clear hpar HS4
          have hkp2 := Kept_any HS5.out.1
          have hnx2 := fun q => Next_any (HS5.out.1.fr ((Fr.refl w5 fun _ => False).drewN q) (fun _ _ h => h))
          rw [HKL.out, HOV.out] at hkp2
          simp only [HEL.out] at hnx2
          rw [show ((N + 1 : Nat) : Int) = (N : Int) + 1 by omega] at hnx2
          go_wp2_with (first
            | (go_at_call 12; refine hkp2.mono ?_; rintro e w6 ⟨rfl, q6, ew⟩; subst ew)
            | (go_at_call 11; refine (hnx2 _).mono ?_; rintro e w7 ⟨rfl, ew⟩; replace ew := ew.symm; subst ew)
            | (go_at_call 9; refine (hpk _).mono ?_; rintro e w8 ⟨rfl, ew⟩; replace ew := ew.symm; subst ew)
            | (go_at_call 14; refine (New_no _ (by first | exact .inl (by omega) | exact .inr (by omega)) _).mono ?_; rintro e w9 ⟨rfl, ew⟩; replace ew := ew.symm; subst ew))
          go_ret
          exact ⟨rfl, below_drewN HS5.out.2 _⟩
  · have hs1 : (Z == (N : Int) + 1) = false := by simpa using hseq
    have hput := Put_no M HM3.out.2.1 (by rw [hzz, HEL.out]; omega)
    go_upto_region 9 with fail
    refine wp_region_lit ?_
    refine wpList_runTo rfl (some 55) rfl (.pointer (some ⟨p, 0, none⟩)) w3 (by kernel_rfl) ?_
    simp only [Act.put, List.setIfInBounds_toArray, List.set_cons_zero, List.set_cons_succ]
    refine wpList_loadM HM3.out.1 (.tmp 7) rfl rfl rfl ?_
    simp only [Act.put, List.setIfInBounds_toArray, List.set_cons_zero, List.set_cons_succ]
    generalize M.cs = csM at *
    go_wp2_with (go_at_call 13; fail)
    refine hput.mono ?_
    rintro e w4 ⟨rfl, hb4⟩
    have HS4 : Hid (StAt w4 p K ev vk vl ∧ Below w.heap.size w w4) := ⟨HM3.out.2.1.fr (Fr.of_below hb4 (fun _ => False)) (fun _ _ h => h), HM3.out.2.2.trans (hb4.mono HM3.out.2.2.size)⟩
    clear HM3 c3' hput hb4
    by_cases k1 : z1 < 1
    · have k1' : ¬ 1 ≤ z1 := by omega
      have hpar := Parts_no z1 z2 HS4.out.1 (by rw [HEL.out]; omega) (by rw [HEL.out]; omega)
      go_wp2_with (go_at_call 10; fail)
      refine hpar.mono ?_
      rintro e w5 ⟨rfl, rfl⟩
      have HS5 : Hid _ := HS4.out
      clear hpar HS4
      have hkp2 := Kept_any HS5.out.1
      have hnx2 := fun q => Next_any (HS5.out.1.fr ((Fr.refl w5 fun _ => False).drewN q) (fun _ _ h => h))
      rw [HKL.out, HOV.out] at hkp2
      simp only [HEL.out] at hnx2
      rw [show ((N + 1 : Nat) : Int) = (N : Int) + 1 by omega] at hnx2
      go_wp2_with (first
        | (go_at_call 12; refine hkp2.mono ?_; rintro e w6 ⟨rfl, q6, ew⟩; subst ew)
        | (go_at_call 11; refine (hnx2 _).mono ?_; rintro e w7 ⟨rfl, ew⟩; replace ew := ew.symm; subst ew)
        | (go_at_call 9; refine (hpk _).mono ?_; rintro e w8 ⟨rfl, ew⟩; replace ew := ew.symm; subst ew)
        | (go_at_call 14; refine (New_no _ (by first | exact .inl (by omega) | exact .inr (by omega)) _).mono ?_; rintro e w9 ⟨rfl, ew⟩; replace ew := ew.symm; subst ew))
      go_ret
      exact ⟨rfl, below_drewN HS5.out.2 _⟩
    · have k1' : 1 ≤ z1 := by omega
      by_cases k2 : z2 = 0
      · by_cases k3 : z1 ≤ (N : Int)
        · subst k2
          obtain ⟨A, hA⟩ : ∃ A : Nat, z1 = (A : Int) := ⟨z1.toNat, by omega⟩
          subst hA
          have hpar := Parts_yes A (N) 0 HS4.out.1 (by rw [HEL.out]; omega) (by omega) (by omega) (by rw [HEL.out]; omega) (by rw [HEL.out]; omega) (by omega)
          go_wp2_with (go_at_call 10; fail)
          refine hpar.mono ?_
          rintro e w5 ⟨v5, rfl, hr5, hb5, -⟩
          have HS5 : Hid (StAt w5 p K ev vk vl ∧ Below w.heap.size w w5) := ⟨HS4.out.1.fr (Fr.of_below hb5 (fun _ => False)) (fun _ _ h => h), HS4.out.2.trans (hb5.mono HS4.out.2.size)⟩
          obtain ⟨ao5, cp5, rfl, -⟩ := hr5.form
          generalize (prt K ev A (N)).length = LL at *
          clear hpar hr5 hb5 HS4
          have hkp2 := Kept_any HS5.out.1
          have hnx2 := fun q => Next_any (HS5.out.1.fr ((Fr.refl w5 fun _ => False).drewN q) (fun _ _ h => h))
          rw [HKL.out, HOV.out] at hkp2
          simp only [HEL.out] at hnx2
          rw [show ((N + 1 : Nat) : Int) = (N : Int) + 1 by omega] at hnx2
          go_wp2_with (first
            | (go_at_call 12; refine hkp2.mono ?_; rintro e w6 ⟨rfl, q6, ew⟩; subst ew)
            | (go_at_call 11; refine (hnx2 _).mono ?_; rintro e w7 ⟨rfl, ew⟩; replace ew := ew.symm; subst ew)
            | (go_at_call 9; refine (hpk _).mono ?_; rintro e w8 ⟨rfl, ew⟩; replace ew := ew.symm; subst ew)
            | (go_at_call 14; refine (New_no _ (by first | exact .inl (by omega) | exact .inr (by omega)) _).mono ?_; rintro e w9 ⟨rfl, ew⟩; replace ew := ew.symm; subst ew))
          go_ret
          exact ⟨rfl, below_drewN HS5.out.2 _⟩
        · subst k2
          have k4 : ¬ z1 ≤ 0 := by omega
          have hpar := Parts_no z1 0 HS4.out.1 (by rw [HEL.out]; omega) (by rw [HEL.out]; omega)
          go_wp2_with (go_at_call 10; fail)
          refine hpar.mono ?_
          rintro e w5 ⟨rfl, rfl⟩
          have HS5 : Hid _ := HS4.out
          clear hpar HS4
          have hkp2 := Kept_any HS5.out.1
          have hnx2 := fun q => Next_any (HS5.out.1.fr ((Fr.refl w5 fun _ => False).drewN q) (fun _ _ h => h))
          rw [HKL.out, HOV.out] at hkp2
          simp only [HEL.out] at hnx2
          rw [show ((N + 1 : Nat) : Int) = (N : Int) + 1 by omega] at hnx2
          go_wp2_with (first
            | (go_at_call 12; refine hkp2.mono ?_; rintro e w6 ⟨rfl, q6, ew⟩; subst ew)
            | (go_at_call 11; refine (hnx2 _).mono ?_; rintro e w7 ⟨rfl, ew⟩; replace ew := ew.symm; subst ew)
            | (go_at_call 9; refine (hpk _).mono ?_; rintro e w8 ⟨rfl, ew⟩; replace ew := ew.symm; subst ew)
            | (go_at_call 14; refine (New_no _ (by first | exact .inl (by omega) | exact .inr (by omega)) _).mono ?_; rintro e w9 ⟨rfl, ew⟩; replace ew := ew.symm; subst ew))
          go_ret
          exact ⟨rfl, below_drewN HS5.out.2 _⟩
      · by_cases k3 : z1 ≤ z2
        · by_cases k4 : z2 ≤ (N : Int)
          · obtain ⟨A, hA⟩ : ∃ A : Nat, z1 = (A : Int) := ⟨z1.toNat, by omega⟩
            subst hA
            have hpar := Parts_yes A (z2.toNat) z2 HS4.out.1 (by rw [HEL.out]; omega) (by omega) (by omega) (by rw [HEL.out]; omega) (by rw [HEL.out]; omega) (by omega)
            go_wp2_with (go_at_call 10; fail)
            refine hpar.mono ?_
            rintro e w5 ⟨v5, rfl, hr5, hb5, -⟩
            have HS5 : Hid (StAt w5 p K ev vk vl ∧ Below w.heap.size w w5) := ⟨HS4.out.1.fr (Fr.of_below hb5 (fun _ => False)) (fun _ _ h => h), HS4.out.2.trans (hb5.mono HS4.out.2.size)⟩
            obtain ⟨ao5, cp5, rfl, -⟩ := hr5.form
            generalize (prt K ev A (z2.toNat)).length = LL at *
            clear hpar hr5 hb5 HS4
            have hkp2 := Kept_any HS5.out.1
            have hnx2 := fun q => Next_any (HS5.out.1.fr ((Fr.refl w5 fun _ => False).drewN q) (fun _ _ h => h))
            rw [HKL.out, HOV.out] at hkp2
            simp only [HEL.out] at hnx2
            rw [show ((N + 1 : Nat) : Int) = (N : Int) + 1 by omega] at hnx2
            go_wp2_with (first
              | (go_at_call 12; refine hkp2.mono ?_; rintro e w6 ⟨rfl, q6, ew⟩; subst ew)
              | (go_at_call 11; refine (hnx2 _).mono ?_; rintro e w7 ⟨rfl, ew⟩; replace ew := ew.symm; subst ew)
              | (go_at_call 9; refine (hpk _).mono ?_; rintro e w8 ⟨rfl, ew⟩; replace ew := ew.symm; subst ew)
              | (go_at_call 14; refine (New_no _ (by first | exact .inl (by omega) | exact .inr (by omega)) _).mono ?_; rintro e w9 ⟨rfl, ew⟩; replace ew := ew.symm; subst ew))
            go_ret
            exact ⟨rfl, below_drewN HS5.out.2 _⟩
          · have hpar := Parts_no z1 z2 HS4.out.1 (by rw [HEL.out]; omega) (by rw [HEL.out]; omega)
            go_wp2_with (go_at_call 10; fail)
            refine hpar.mono ?_
            rintro e w5 ⟨rfl, rfl⟩
            have HS5 : Hid _ := HS4.out
            clear hpar HS4
            have hkp2 := Kept_any HS5.out.1
            have hnx2 := fun q => Next_any (HS5.out.1.fr ((Fr.refl w5 fun _ => False).drewN q) (fun _ _ h => h))
            rw [HKL.out, HOV.out] at hkp2
            simp only [HEL.out] at hnx2
            rw [show ((N + 1 : Nat) : Int) = (N : Int) + 1 by omega] at hnx2
            go_wp2_with (first
              | (go_at_call 12; refine hkp2.mono ?_; rintro e w6 ⟨rfl, q6, ew⟩; subst ew)
              | (go_at_call 11; refine (hnx2 _).mono ?_; rintro e w7 ⟨rfl, ew⟩; replace ew := ew.symm; subst ew)
              | (go_at_call 9; refine (hpk _).mono ?_; rintro e w8 ⟨rfl, ew⟩; replace ew := ew.symm; subst ew)
              | (go_at_call 14; refine (New_no _ (by first | exact .inl (by omega) | exact .inr (by omega)) _).mono ?_; rintro e w9 ⟨rfl, ew⟩; replace ew := ew.symm; subst ew))
            go_ret
            exact ⟨rfl, below_drewN HS5.out.2 _⟩
        · have hpar := Parts_no z1 z2 HS4.out.1 (by rw [HEL.out]; omega) (by rw [HEL.out]; omega)
          go_wp2_with (go_at_call 10; fail)
          refine hpar.mono ?_
          rintro e w5 ⟨rfl, rfl⟩
          have HS5 : Hid _ := HS4.out
          clear hpar HS4
          have hkp2 := Kept_any HS5.out.1
          have hnx2 := fun q => Next_any (HS5.out.1.fr ((Fr.refl w5 fun _ => False).drewN q) (fun _ _ h => h))
          rw [HKL.out, HOV.out] at hkp2
          simp only [HEL.out] at hnx2
          rw [show ((N + 1 : Nat) : Int) = (N : Int) + 1 by omega] at hnx2
          go_wp2_with (first
            | (go_at_call 12; refine hkp2.mono ?_; rintro e w6 ⟨rfl, q6, ew⟩; subst ew)
            | (go_at_call 11; refine (hnx2 _).mono ?_; rintro e w7 ⟨rfl, ew⟩; replace ew := ew.symm; subst ew)
            | (go_at_call 9; refine (hpk _).mono ?_; rintro e w8 ⟨rfl, ew⟩; replace ew := ew.symm; subst ew)
            | (go_at_call 14; refine (New_no _ (by first | exact .inl (by omega) | exact .inr (by omega)) _).mono ?_; rintro e w9 ⟨rfl, ew⟩; replace ew := ew.symm; subst ew))
          go_ret
          exact ⟨rfl, below_drewN HS5.out.2 _⟩
end Go.Proofs.Ytekkckfoikpljaa
