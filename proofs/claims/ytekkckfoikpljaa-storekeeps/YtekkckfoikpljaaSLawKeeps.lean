/-
  StoreKeeps: the walk.
-/
import Derived.Test.YtekkckfoikpljaaSKeepM
namespace Go.Proofs.Ytekkckfoikpljaa
set_option linter.unusedVariables false
set_option linter.unusedSimpArgs false
open Go.RowKit Go.Great

theorem row_msg {w : World} {g off n cap i : Nat} {l : List Msg} {M : Msg} (h : RowAt w 34 42 (.slice (some ⟨g, off, none⟩) n cap) n (flatL msgV l)) (hi : l[i]? = some M) : w.rangeAt g (off + i * 42) M.cs.toList := fun j u hu => by
  have hj : j < 42 := by have := (List.getElem?_eq_some_iff.1 hu).1; rw [M.cs_len] at this; exact this
  rw [Nat.add_assoc]
  exact h.cell rfl (by rw [flatL_get msgV_len hi hj]; exact hu)
theorem wpList_skipG {P : Program} {ops : Array Oper} {rest : List Oper} {o : Oper} {a : Act} {w : World} {Q : Exit → Act → World → Prop} (hw : Region.wanted o (yielded ops a.tmps) = false)
    (h : wpList P ops Q rest (a.put o.dst undef) w) : wpList P ops Q (o :: rest) a w :=
  wpList_step fun K hK => by rw [if_neg (by rw [hw]; exact Bool.false_ne_true)]; exact hK _ _ h
theorem loadAt_mid {w : World} {g o : Nat} {M : Msg} (h : w.rangeAt g o M.cs.toList) : Sem.run Try.prog (Instr.loadAt 34 (.pointer (some ⟨g, o, none⟩))) w = .ok (.agg M.cs) w := by
  have hl := run_loadAt_mid (P := Try.prog) w g o 34 M.cs.toList _ h Try.underlying34 rfl (by rw [M.cs_len]; kernel_rfl)
  rw [show M.cs.toList.toArray = M.cs by simp] at hl
  exact hl
theorem neqM_bin (M M' : Msg) (b : Bool) (hb : b = true ↔ M.cs ≠ M'.cs) (w : World) : Sem.run Try.prog (binOp .neq 34 (.agg M.cs) (.agg M'.cs)) w = .ok (.bool b) w := by
  obtain ⟨r, h1, h2⟩ := msg_eq_any M M' w 9998
  obtain rfl : (!r) = b := Bool.eq_iff_iff.2 (by rw [hb, ne_eq, ← h2]; simp)
  rw [run_neq_struct, h1]; rfl
set_option maxRecDepth 100000 in
set_option maxHeartbeats 8000000 in
theorem StoreKeeps_law (kz : Int) (hk0 : -9223372036854775808 ≤ kz) (hk1 : kz ≤ 9223372036854775807) (a : Option Addr) (len cap : Nat) (d : Nat → Int) (hl : len ≤ maxLen) (w : World) (hs : SrcI w a len d) :
    Calls Try.prog 4 #[.int .i64 kz, .slice a len cap] w fun e w' => e = .returned (.bool true) ∧ Below w.heap.size w w' := by
  have hsh := shown_any w
  have HS : Hid (SrcI w a len d ∧ len ≤ maxLen) := ⟨hs, hl⟩
  clear hs hl
  go_enter Try.func4, Try.ntmps4
  go_wp2_with (go_at_call 7; fail)
  refine hsh.mono ?_
  rintro e w1 ⟨rfl, hb1'⟩
  have H1 : Hid (Below w.heap.size w w1) := hb1'
  clear hsh hb1'
  have hfl := filled_any kz a len cap d w1 (HS.out.1.below H1.out) HS.out.2 hk0 hk1
  have hpk := fun w' => pick_any kz 200 200 rfl w' (by omega) (by omega) hk0 hk1
  have hK := pickN_lt kz (n := 200) (by omega)
  generalize pickN kz 200 = K0 at *
  obtain ⟨K, hKe⟩ : ∃ K, 1 + K0 = K := ⟨_, rfl⟩
  rw [hKe] at hfl
  have hKi : 1 + (K0 : Int) = (K : Int) := by omega
  have hK2 : K ≤ 200 := by omega
  clear hKe
  have hN := Nat.min_le_right len 1500
  generalize min len 1500 = N at *
  go_wp2_with (go_at_call 8; fail)
  refine hfl.mono ?_
  rintro e w2 ⟨p, va, vk, vl, rfl, hfi⟩
  have HST : Hid (StAt w2 p K (evF d N) vk vl ∧ Below w.heap.size w w2) := ⟨hfi.st, H1.out.trans (hfi.below.mono H1.out.size)⟩
  obtain ⟨ava, cva, rfl, -⟩ := hfi.all.form
  have HAL0 : Hid (RowAt w2 34 42 (.slice ava N cva) N (flatL msgV (allL (evF d N)))) := hfi.all
  have HEL : Hid ((evF d N).length = N) := evF_len d N
  have hpuN : (putL (evF d N)).length ≤ N := by have := putL_le (evF d N); rw [evF_len] at this; exact this
  obtain ⟨pu, hpu⟩ : ∃ pu, (putL (evF d N)).length = pu := ⟨_, rfl⟩
  rw [hpu] at hpuN ⊢
  have HPU : Hid ((putL (evF d N)).length = pu) := hpu
  clear hfl hfi H1 HS hpu
  generalize evF d N = ev at *
  by_cases hN0 : N = 0
  · subst hN0
    have hpar := Parts_no 1 0 HST.out.1 (by rw [HEL.out]; omega) (by rw [HEL.out]; omega)
    have hnx := Next_any HST.out.1
    rw [HEL.out] at hnx
    go_wp2_with (first
      | (go_at_call 10; refine hpar.mono ?_; rintro e w3 ⟨rfl, ew⟩; replace ew := ew.symm; subst ew)
      | (go_at_call 11; refine hnx.mono ?_; rintro e w3 ⟨rfl, ew⟩; replace ew := ew.symm; subst ew))
    go_ret
    exact ⟨rfl, HST.out.2⟩
  have hN1 : ¬ (N : Int) = 0 := by omega
  have hN1b : ((N : Int) == 0) = false := by simpa using hN1
  have hpar := Parts_yes 1 N 0 HST.out.1 (by rw [HEL.out]; omega) (by omega) (by omega) (by rw [HEL.out]; omega) (.inr ⟨rfl, by rw [HEL.out]⟩) (by omega)
  go_wp2_with (first | (go_at_call 10; fail))
  refine hpar.mono ?_
  rintro e w3 ⟨v3, rfl, hr3, hb3, -⟩
  obtain ⟨LW, hLW⟩ : ∃ LW, (prt K ev 1 N).length = LW := ⟨_, rfl⟩
  rw [hLW] at hr3
  have hLW0 : 0 < LW := by
    rw [← hLW]
    rcases Nat.eq_zero_or_pos (prt K ev 1 N).length with h | h
    · have h2 : prt K ev 1 N = [] := List.eq_nil_of_length_eq_zero h
      unfold prt at h2
      rw [gr_nil] at h2
      omega
    · exact h
  have hLWN : LW ≤ N := by rw [← hLW]; have := gr_len (c := cd K ev) (g := mm K ev) 1 (N + 1 - 1); unfold prt; omega
  obtain ⟨gl, ol, cl, cur3, rfl, -⟩ := hr3.more hLW0
  have HST3 : Hid (StAt w3 p K ev vk vl ∧ Below w.heap.size w w3) := ⟨HST.out.1.fr (Fr.of_below hb3 (fun _ => False)) (fun _ _ h => h), HST.out.2.trans (hb3.mono HST.out.2.size)⟩
  have HAL3 : Hid (RowAt w3 34 42 (.slice ava N cva) N (flatL msgV (allL ev))) := HAL0.out.keep fun g hg => hb3.block g (HAL0.out.lt hg).1
  have HLL3 : Hid (RowAt w3 36 45 (.slice (some ⟨gl, ol, none⟩) LW cl) LW (flatL ptL (prt K ev 1 N))) := hr3
  have HEVM : Hid (EvM ev) := HST.out.1.evm
  have HLW : Hid ((prt K ev 1 N).length = LW) := hLW
  have HTIL : Hid (Til (cd K ev) (mm K ev) 1 N (prt K ev 1 N)) := gr_til 1 N
  clear hpar hr3 hb3 HST HAL0 hLW
  have hkp := Kept_any HST3.out.1
  obtain ⟨ms, hms⟩ : ∃ ms, min pu K = ms := ⟨_, rfl⟩
  have hkl : (keptL K ev).length = ms := by rw [keptL_len, HPU.out]; exact hms
  have hov : over K ev = pu - ms := by unfold over; rw [HPU.out]; omega
  rw [hkl, hov] at hkp
  have hmsi : min (pu : Int) (K : Int) = (ms : Int) := by omega
  have hmsu : ms ≤ pu := by omega
  have hdi : (pu : Int) - (ms : Int) = ((pu - ms : Nat) : Int) := by omega
  have HMS : Hid (min (putL ev).length K = ms) := by show min (putL ev).length K = ms; rw [HPU.out]; exact hms
  clear hkl hov hms
  have hdw : IntKind.i64.wrap ((pu - ms : Nat) : Int) = ((pu - ms : Nat) : Int) := by rw [IntKind.wrap_i64]; omega
  generalize hdm : pu - ms = dm at *
  clear hdm
  go_upto_region 13 with (first
    | (go_at_call 12; refine hkp.mono ?_; rintro e w6 ⟨rfl, q6, ew⟩; subst ew)
    | (go_at_call 9; refine (hpk _).mono ?_; rintro e w8 ⟨rfl, ew⟩; replace ew := ew.symm; subst ew))
  have HAL : Hid (RowAt (w3.drewN q6) 34 42 (.slice ava N cva) N (flatL msgV (allL ev))) := HAL3.out.keep fun _ _ => rfl
  have HLL : Hid (RowAt (w3.drewN q6) 36 45 (.slice (some ⟨gl, ol, none⟩) LW cl) LW (flatL ptL (prt K ev 1 N))) := HLL3.out.keep fun _ _ => rfl
  have HB4 : Hid (Below w.heap.size w (w3.drewN q6)) := below_drewN HST3.out.2 _
  clear HAL3 HLL3 HST3 hkp hpk
  generalize w3.drewN q6 = w4 at *
  obtain ⟨ga, oa, ca, cura, e1, -⟩ := HAL.out.more (by omega)
  injection e1 with e1 _ e2
  subst e1 e2
  go_upto_region 16 with fail
  have HB1 : Hid (bh ev 1 = pu) := by show bh ev 1 = pu; rw [bh_one]; exact HPU.out
  go_loopw [17, 18, 19, 20, 21, 22] (fun x17 x18 x19 _ _ _ wr => ∃ i X0 : Nat, i ≤ LW ∧ x19 = .int .i64 (i : Int) ∧ x17 = .int .i64 ((X0 : Int) + 1) ∧ x18 = .int .i64 (bh ev (X0 + 1) : Nat) ∧ Hid (i = 0 ∧ X0 = 0 ∨ ∃ P0, (prt K ev 1 N)[i - 1]? = some P0 ∧ X0 = P0.to ∧ 0 < i) ∧ ∃ q, wr = w4.drewN q) (fun _ _ x19 _ _ _ _ => LW - (intOf x19).toNat)
  case atStart => exact ⟨0, 0, Nat.zero_le _, rfl, rfl, by rw [HB1.out], .inl ⟨rfl, rfl⟩, 0, rfl⟩
  case round =>
    obtain ⟨i, X0, hi, rfl, rfl, rfl, HXI, q3, rfl⟩ := hrel
    by_cases hlt : i < LW
    · have hlt' : (i : Int) < (LW : Int) := by omega
      have hnlt : ¬ (LW : Int) ≤ (i : Int) := by omega
      have hiw : IntKind.i64.wrap ((i : Int) + 1) = (i : Int) + 1 := by rw [IntKind.wrap_i64]; omega
      obtain ⟨P, hP⟩ : ∃ P, (prt K ev 1 N)[i]? = some P := ⟨_, List.getElem?_eq_getElem (by have := HLW.out; omega)⟩
      have HPI : Hid ((prt K ev 1 N)[i]? = some P) := hP
      have hord := HTIL.out.ord i P hP
      have hfr : P.fr = X0 + 1 := by
        rcases HXI.out with ⟨h1, h2⟩ | ⟨P0, h1, h2, h3⟩
        · subst h1; rw [h2]; exact HTIL.out.head P hP
        · have := HTIL.out.next (i - 1) P0 P h1 (by rw [show i - 1 + 1 = i by omega]; exact hP)
          omega
      have HKI : Hid ((∀ n, P.fr ≤ n → n ≤ P.to → cd K ev n = cd K ev P.fr) ∧ P.lost = (cd K ev P.fr == 2) ∧ P.m = mm K ev P.fr ∧ (cd K ev P.fr = 1 → P.fr = P.to)) := HTIL.out.kind i P hP
      have HPZ : Hid ((ptM P).cs = zeroM.cs ↔ P.m = none) := prt_m HEVM.out (by omega) (by rw [HEL.out]; omega) hP
      have HRP : Hid (∀ q, (w4.drewN q).rangeAt gl (ol + i * 45 + 3) (ptM P).cs.toList) := fun q => row_ptM (w := w4.drewN q) (HLL.out.keep fun _ _ => rfl) hP
      have cfr : ∀ q, (w4.drewN q).cell? ⟨gl, ol + i * 45, none⟩ = some (.int .i64 ((X0 : Int) + 1)) := fun q => by
        have := row_fr (w := w4.drewN q) (HLL.out.keep fun _ _ => rfl) hP
        rw [this, hfr]; rfl
      have cto : ∀ q, (w4.drewN q).cell? ⟨gl, ol + i * 45 + 1, none⟩ = some (.int .i64 (P.to : Int)) := fun q => row_to (w := w4.drewN q) (HLL.out.keep fun _ _ => rfl) hP
      have hto1 : ¬ (P.to : Int) < (X0 : Int) + 1 := by omega
      have hto2 : ¬ (N : Int) < (P.to : Int) := by omega
      have htw : IntKind.i64.wrap ((P.to : Int) + 1) = (P.to : Int) + 1 := by rw [IntKind.wrap_i64]; omega
      have cfr' := cfr q3
      have cto' := cto q3
      have HFT : Hid (P.fr = X0 + 1 ∧ P.to ≤ N ∧ X0 + 1 ≤ P.to) := ⟨hfr, by omega, by omega⟩
      clear hfr hord
      go_upto_region 21 with fail
      go_loopw [18, 20, 21, 22] (fun x18 x20 _ _ wr => ∃ m B : Nat, X0 ≤ m ∧ m ≤ P.to ∧ x20 = .int .i64 ((m : Int) + 1) ∧ x18 = .int .i64 (B : Int) ∧ bh ev (m + 1) = B ∧ ∃ q, wr = w4.drewN q) (fun _ x20 _ _ _ => P.to + 1 - (intOf x20).toNat)
      case atStart => exact ⟨X0, _, Nat.le_refl _, by have := HFT.out; omega, rfl, rfl, rfl, q3, rfl⟩
      case round =>
        obtain ⟨m, B, hm0, hm1, rfl, rfl, hbh, q4, rfl⟩ := hrel
        have cto' := cto q4
        have cfr' := cfr q4
        have hBn : B ≤ N := by rw [← hbh]; have := bh_le ev (m + 1); rw [HEL.out] at this; exact this
        have hft := HFT.out
        have hmw : IntKind.i64.wrap ((m : Int) + 1 + 1) = (m : Int) + 1 + 1 := by rw [IntKind.wrap_i64]; omega
        have hms1 : (m : Int) + 1 - 1 = (m : Int) := by omega
        have hms2 : IntKind.i64.wrap (m : Int) = (m : Int) := by rw [IntKind.wrap_i64]; omega
        by_cases hmt : m + 1 ≤ P.to
        · have hmt' : (m : Int) + 1 ≤ (P.to : Int) := by omega
          have hmN : (m : Int) < (N : Int) := by omega
          have hmN2 : ¬ (N : Int) ≤ (m : Int) := by omega
          rcases num_cases HEVM.out K (m := m) (by rw [HEL.out]; omega) with ⟨h1, hc, h2⟩ | ⟨M, h1, h2, h3, ⟨hc, h3', h4⟩ | ⟨hc, h3'⟩⟩
          · have hE : (allL ev)[m]? = some zeroM := allL_get (e := none) h1
            have HRA : Hid (∀ q, (w4.drewN q).rangeAt ga (oa + m * 42) zeroM.cs.toList) := fun q => row_msg (w := w4.drewN q) (HAL.out.keep fun _ _ => rfl) hE
            have cq : ∀ q, (w4.drewN q).cell? ⟨ga, oa + m * 42 + 3, none⟩ = some (.int .i64 0) := fun q => HRA.out q 3 _ rfl
            have hbh' : bh ev (m + 2) = B := by omega
            have hck : cd K ev P.fr = 3 := by rw [← HKI.out.1 (m + 1) (by omega) (by omega)]; exact hc
            have hlost : P.lost = false := by rw [HKI.out.2.1, hck]; rfl
            have hPm : P.m = none := by rw [HKI.out.2.2.1]; exact (cd_mm K ev P.fr).2 (by rw [hck]; decide)
            have hPz : (ptM P).cs = zeroM.cs := HPZ.out.2 hPm
            have HPZ2 : Hid _ := hPz
            have clo : ∀ q, (w4.drewN q).cell? ⟨gl, ol + i * 45 + 2, none⟩ = some (.bool false) := fun q => by rw [← hlost]; exact row_lost (w := w4.drewN q) (HLL.out.keep fun _ _ => rfl) hP
            clear hPz hlost hck
            clear hE h1 hc h2
            have cq' := cq q4
            have clo' := clo q4
            go_upto_region 27 with fail
            go_upto_region 29 with (first | (refine wpList_runToG (by kernel_rfl) (some 161) rfl (.agg (ptM P).cs) (w4.drewN q4) (loadMid_run (HRP.out q4) (.tmp 160) rfl (by kernel_rfl)) ?_; refine wpList_runToG (by kernel_rfl) (some 162) rfl (.agg zeroM.cs) (w4.drewN q4) (by kernel_rfl) ?_; refine wpList_runToG (by kernel_rfl) (some 163) rfl (.bool false) (w4.drewN q4) (neqM_any (ptM P) zeroM (.tmp 161) (.tmp 162) rfl (by kernel_rfl) (by kernel_rfl) false (by simpa using HPZ2.out) _) ?_; generalize zeroM.cs = czz; generalize (ptM P).cs = cpp))
            refine wp_region_quiet_lit (by kernel_rfl) (by kernel_rfl) ?_
            iterate 27 (go_big_quiet_step (fail))
            refine wpQuiet_nil ?_
            intro _ hw'
            obtain ⟨nq5, hw''⟩ := hw'
            subst hw''
            generalize (ptM P).cs = cpp1 at *
            generalize zeroM.cs = czz1 at *
            go_wp2
            go_roundw
            case rel => exact ⟨m + 1, B, by omega, by omega, by go_num, rfl, hbh', q4 + nq5, by first | rfl | simp [World.drewN, Nat.add_assoc]⟩
            case measure => simp [intOf]; omega
          · rw [HMS.out] at h3'
            have hE : (allL ev)[m]? = some M := allL_get (e := some M) h1
            have HRA : Hid (∀ q, (w4.drewN q).rangeAt ga (oa + m * 42) M.cs.toList) := fun q => row_msg (w := w4.drewN q) (HAL.out.keep fun _ _ => rfl) hE
            have cq : ∀ q, (w4.drewN q).cell? ⟨ga, oa + m * 42 + 3, none⟩ = some (.int .i64 ((m : Int) + 1)) := fun q => HRA.out q 3 _ (by rw [Array.getElem?_toList, M.cs_get 3 (by decide), ← h2]; rfl)
            have hsq : ¬ (m : Int) + 1 = 0 := by omega
            have hsqb : ((m : Int) + 1 == 0) = false := by simpa using hsq
            obtain ⟨B1, hB1⟩ : ∃ B1, bh ev (m + 2) = B1 := ⟨_, rfl⟩
            have hBB : B = B1 + 1 := by omega
            have hbh' : bh ev (m + 2) = B1 := hB1
            have hBs : (B1 : Int) + 1 - 1 = (B1 : Int) := by omega
            have hBw : IntKind.i64.wrap (B1 : Int) = (B1 : Int) := by rw [IntKind.wrap_i64]; omega
            have hal : (B1 : Int) + 1 ≤ (ms : Int) := by omega
            have hck : cd K ev P.fr = 1 := by rw [← HKI.out.1 (m + 1) (by omega) (by omega)]; exact hc
            have hlost : P.lost = false := by rw [HKI.out.2.1, hck]; rfl
            have hPm : P.m ≠ none := fun e => by rw [HKI.out.2.2.1] at e; exact (cd_mm K ev P.fr).1 e hck
            have hPz : (ptM P).cs ≠ zeroM.cs := fun e => hPm (HPZ.out.1 e)
            have hfrto : P.fr = P.to := HKI.out.2.2.2 hck
            have hPM : (ptM P).cs = M.cs := by
              have e1 : P.fr = m + 1 := by omega
              have e2 : P.m = some M := by rw [HKI.out.2.2.1, e1]; exact h4
              unfold ptM; rw [e2]; rfl
            subst hBB
            have HPZ2 : Hid _ := hPz
            have clo : ∀ q, (w4.drewN q).cell? ⟨gl, ol + i * 45 + 2, none⟩ = some (.bool false) := fun q => by rw [← hlost]; exact row_lost (w := w4.drewN q) (HLL.out.keep fun _ _ => rfl) hP
            clear hPz hlost hck
            have HPM : Hid _ := hPM
            clear hPM
            clear hE h1 hc h2 h3 h4
            have cq' := cq q4
            have clo' := clo q4
            go_upto_region 27 with fail
            go_upto_region 29 with (first | (refine wpList_runToG (by kernel_rfl) (some 161) rfl (.agg (ptM P).cs) (w4.drewN q4) (loadMid_run (HRP.out q4) (.tmp 160) rfl (by kernel_rfl)) ?_; refine wpList_runToG (by kernel_rfl) (some 162) rfl (.agg zeroM.cs) (w4.drewN q4) (by kernel_rfl) ?_; refine wpList_runToG (by kernel_rfl) (some 163) rfl (.bool true) (w4.drewN q4) (neqM_any (ptM P) zeroM (.tmp 161) (.tmp 162) rfl (by kernel_rfl) (by kernel_rfl) true (by simpa using HPZ2.out) _) ?_; generalize zeroM.cs = czz; generalize (ptM P).cs = cpp))
            refine wp_region_quiet_lit (by kernel_rfl) (by kernel_rfl) ?_
            iterate 6 (go_big_quiet_step (fail))
            refine quiet_runTo (by kernel_rfl) (some 173) rfl (.agg (ptM P).cs) (fun w' hw => by obtain ⟨q, rfl⟩ := hw; exact loadMid_run (w := (w4.drewN q4).drewN q) (HRP.out q4) (.tmp 172) rfl (by kernel_rfl)) ?_
            simp only [Act.put, List.setIfInBounds_toArray, List.set_cons_zero, List.set_cons_succ]
            iterate 4 (go_big_quiet_step (fail))
            refine quiet_runTo (by kernel_rfl) (some 178) rfl (.agg M.cs) (fun w' hw => by obtain ⟨q, rfl⟩ := hw; exact loadMid_run (w := (w4.drewN q4).drewN q) (HRA.out q4) (.tmp 177) rfl (by kernel_rfl)) ?_
            simp only [Act.put, List.setIfInBounds_toArray, List.set_cons_zero, List.set_cons_succ]
            refine quiet_runTo (by kernel_rfl) (some 179) rfl (.bool false) (fun w' hw => by exact neqM_any (ptM P) M (.tmp 173) (.tmp 178) rfl (by kernel_rfl) (by kernel_rfl) false (by simpa using HPM.out) w') ?_
            simp only [Act.put, List.setIfInBounds_toArray, List.set_cons_zero, List.set_cons_succ]
            iterate 14 (go_big_quiet_step (fail))
            refine wpQuiet_nil ?_
            intro _ hw'
            obtain ⟨nq5, hw''⟩ := hw'
            subst hw''
            generalize (ptM P).cs = cpp1 at *
            generalize zeroM.cs = czz1 at *
            generalize M.cs = cmm at *
            go_wp2
            go_roundw
            case rel => exact ⟨m + 1, B1, by omega, by omega, by go_num, rfl, hbh', q4 + nq5, by first | rfl | simp [World.drewN, Nat.add_assoc]⟩
            case measure => simp [intOf]; omega
          · rw [HMS.out] at h3'
            have hE : (allL ev)[m]? = some M := allL_get (e := some M) h1
            have HRA : Hid (∀ q, (w4.drewN q).rangeAt ga (oa + m * 42) M.cs.toList) := fun q => row_msg (w := w4.drewN q) (HAL.out.keep fun _ _ => rfl) hE
            have cq : ∀ q, (w4.drewN q).cell? ⟨ga, oa + m * 42 + 3, none⟩ = some (.int .i64 ((m : Int) + 1)) := fun q => HRA.out q 3 _ (by rw [Array.getElem?_toList, M.cs_get 3 (by decide), ← h2]; rfl)
            have hsq : ¬ (m : Int) + 1 = 0 := by omega
            have hsqb : ((m : Int) + 1 == 0) = false := by simpa using hsq
            obtain ⟨B1, hB1⟩ : ∃ B1, bh ev (m + 2) = B1 := ⟨_, rfl⟩
            have hBB : B = B1 + 1 := by omega
            have hbh' : bh ev (m + 2) = B1 := hB1
            have hBs : (B1 : Int) + 1 - 1 = (B1 : Int) := by omega
            have hBw : IntKind.i64.wrap (B1 : Int) = (B1 : Int) := by rw [IntKind.wrap_i64]; omega
            have hal : ¬ (B1 : Int) + 1 ≤ (ms : Int) := by omega
            have hck : cd K ev P.fr = 2 := by rw [← HKI.out.1 (m + 1) (by omega) (by omega)]; exact hc
            have hlost : P.lost = true := by rw [HKI.out.2.1, hck]; rfl
            have hPm : P.m = none := by rw [HKI.out.2.2.1]; exact (cd_mm K ev P.fr).2 (by rw [hck]; decide)
            have hPz : (ptM P).cs = zeroM.cs := HPZ.out.2 hPm
            subst hBB
            have HPZ2 : Hid _ := hPz
            have clo : ∀ q, (w4.drewN q).cell? ⟨gl, ol + i * 45 + 2, none⟩ = some (.bool true) := fun q => by rw [← hlost]; exact row_lost (w := w4.drewN q) (HLL.out.keep fun _ _ => rfl) hP
            clear hPz hlost hck
            clear hE h1 hc h2 h3
            have cq' := cq q4
            have clo' := clo q4
            go_upto_region 27 with fail
            go_upto_region 29 with (first | (refine wpList_runToG (by kernel_rfl) (some 161) rfl (.agg (ptM P).cs) (w4.drewN q4) (loadMid_run (HRP.out q4) (.tmp 160) rfl (by kernel_rfl)) ?_; refine wpList_runToG (by kernel_rfl) (some 162) rfl (.agg zeroM.cs) (w4.drewN q4) (by kernel_rfl) ?_; refine wpList_runToG (by kernel_rfl) (some 163) rfl (.bool false) (w4.drewN q4) (neqM_any (ptM P) zeroM (.tmp 161) (.tmp 162) rfl (by kernel_rfl) (by kernel_rfl) false (by simpa using HPZ2.out) _) ?_; generalize zeroM.cs = czz; generalize (ptM P).cs = cpp))
            refine wp_region_quiet_lit (by kernel_rfl) (by kernel_rfl) ?_
            iterate 27 (go_big_quiet_step (fail))
            refine wpQuiet_nil ?_
            intro _ hw'
            obtain ⟨nq5, hw''⟩ := hw'
            subst hw''
            generalize (ptM P).cs = cpp1 at *
            generalize zeroM.cs = czz1 at *
            go_wp2
            go_roundw
            case rel => exact ⟨m + 1, B1, by omega, by omega, by go_num, rfl, hbh', q4 + nq5, by first | rfl | simp [World.drewN, Nat.add_assoc]⟩
            case measure => simp [intOf]; omega
        · obtain rfl : m = P.to := by omega
          have hmt' : ¬ (P.to : Int) + 1 ≤ (P.to : Int) := by omega
          have HBT : Hid (bh ev (P.to + 1) = B) := hbh
          rcases HXI.out with ⟨hi0, hX0⟩ | ⟨P0, hP0, hX0, hi1⟩
          · subst hi0
            go_upto_region 31 with fail
            refine wp_region_quiet_lit (by kernel_rfl) (by kernel_rfl) ?_
            iterate 35 (go_big_quiet_step (fail))
            refine wpQuiet_nil ?_
            intro _ hw'
            obtain ⟨nq6, hw''⟩ := hw'
            subst hw''
            go_wp2
            go_roundw
            case rel => exact ⟨0 + 1, P.to, by omega, by go_num, by go_num, by rw [HBT.out], .inr ⟨P, by rw [show 0 + 1 - 1 = 0 from rfl]; exact HPI.out, rfl, by omega⟩, q4 + nq6, by first | rfl | simp [World.drewN, Nat.add_assoc]⟩
            case measure => simp [intOf]; omega
          · obtain ⟨i', rfl⟩ : ∃ i', i = i' + 1 := ⟨i - 1, by omega⟩
            rw [show i' + 1 - 1 = i' by omega] at hP0
            have HZ0 : Hid ((ptM P0).cs = zeroM.cs ↔ P0.m = none) := prt_m HEVM.out (by omega) (by rw [HEL.out]; omega) hP0
            have HR0 : Hid (∀ q, (w4.drewN q).rangeAt gl (ol + i' * 45 + 3) (ptM P0).cs.toList) := fun q => row_ptM (w := w4.drewN q) (HLL.out.keep fun _ _ => rfl) hP0
            have hsub : (i' : Int) + 1 - 1 = (i' : Int) := by omega
            have hsubw : IntKind.i64.wrap (i' : Int) = (i' : Int) := by rw [IntKind.wrap_i64]; omega
            have hgt0 : (0 : Int) < (i' : Int) + 1 := by omega
            have hin : ¬ (LW : Int) ≤ (i' : Int) := by omega
            have hin2 : (i' : Int) < (LW : Int) := by omega
            have hnx := HTIL.out.next i' P0 P hP0 HPI.out
            have hk0 := HTIL.out.kind i' P0 hP0
            have hk1 := HTIL.out.kind (i' + 1) P HPI.out
            by_cases hm0 : P0.m = none
            · by_cases hm1 : P.m = none
              · have hlne : (P0.lost == P.lost) = false := by
                  have a0 : cd K ev P0.fr ≠ 1 := (cd_mm K ev P0.fr).1 (by rw [← hk0.2.2.1]; exact hm0)
                  have a1 : cd K ev P.fr ≠ 1 := (cd_mm K ev P.fr).1 (by rw [← hk1.2.2.1]; exact hm1)
                  have a2 : cd K ev P0.to = cd K ev P0.fr := hk0.1 P0.to (HTIL.out.ord i' P0 hP0).2.1 (Nat.le_refl _)
                  have a3 : cd K ev P0.to ≠ cd K ev P.fr := by rcases hnx.2 with h | h; exact absurd h a1; exact h
                  have b0 := cd_three K ev P0.fr
                  have b1 := cd_three K ev P.fr
                  rw [hk0.2.1, hk1.2.1]
                  rw [a2] at a3
                  rcases b0 with b0 | b0 | b0
                  · exact absurd b0 a0
                  · rcases b1 with b1 | b1 | b1
                    · exact absurd b1 a1
                    · exact absurd (b0.trans b1.symm) a3
                    · rw [b0, b1]; rfl
                  · rcases b1 with b1 | b1 | b1
                    · exact absurd b1 a1
                    · rw [b0, b1]; rfl
                    · exact absurd (b0.trans b1.symm) a3
                have cl0 : ∀ q, (w4.drewN q).cell? ⟨gl, ol + i' * 45 + 2, none⟩ = some (.bool P0.lost) := fun q => row_lost (w := w4.drewN q) (HLL.out.keep fun _ _ => rfl) hP0
                have cl1 : ∀ q, (w4.drewN q).cell? ⟨gl, ol + (i' + 1) * 45 + 2, none⟩ = some (.bool P.lost) := fun q => row_lost (w := w4.drewN q) (HLL.out.keep fun _ _ => rfl) HPI.out
                go_upto_region 31 with fail
                refine wp_region_quiet_lit (by kernel_rfl) (by kernel_rfl) ?_
                iterate 8 (go_big_quiet_step (fail))
                refine quiet_runTo (by kernel_rfl) (some 202) rfl (.agg (ptM P0).cs) (fun w' hw => by obtain ⟨q, rfl⟩ := hw; exact loadMid_run (w := (w4.drewN q4).drewN q) (HR0.out q4) (.tmp 201) rfl (by kernel_rfl)) ?_
                simp only [Act.put, List.setIfInBounds_toArray, List.set_cons_zero, List.set_cons_succ]
                refine quiet_runTo (by kernel_rfl) (some 203) rfl (.agg zeroM.cs) (fun w' hw => by kernel_rfl) ?_
                simp only [Act.put, List.setIfInBounds_toArray, List.set_cons_zero, List.set_cons_succ]
                refine quiet_runTo (by kernel_rfl) (some 204) rfl (.bool true) (fun w' hw => by exact eqM_any (ptM P0) zeroM (.tmp 202) (.tmp 203) rfl (by kernel_rfl) (by kernel_rfl) true (by simpa using HZ0.out.2 hm0) w') ?_
                simp only [Act.put, List.setIfInBounds_toArray, List.set_cons_zero, List.set_cons_succ]
                iterate 6 (go_big_quiet_step (fail))
                refine quiet_runTo (by kernel_rfl) (some 211) rfl (.agg (ptM P).cs) (fun w' hw => by obtain ⟨q, rfl⟩ := hw; exact loadMid_run (w := (w4.drewN q4).drewN q) (HRP.out q4) (.tmp 210) rfl (by kernel_rfl)) ?_
                simp only [Act.put, List.setIfInBounds_toArray, List.set_cons_zero, List.set_cons_succ]
                refine quiet_runTo (by kernel_rfl) (some 212) rfl (.agg zeroM.cs) (fun w' hw => by kernel_rfl) ?_
                simp only [Act.put, List.setIfInBounds_toArray, List.set_cons_zero, List.set_cons_succ]
                refine quiet_runTo (by kernel_rfl) (some 213) rfl (.bool true) (fun w' hw => by exact eqM_any (ptM P) zeroM (.tmp 211) (.tmp 212) rfl (by kernel_rfl) (by kernel_rfl) true (by simpa using HPZ.out.2 hm1) w') ?_
                simp only [Act.put, List.setIfInBounds_toArray, List.set_cons_zero, List.set_cons_succ]
                iterate 7 (go_big_quiet_step (fail))
                refine quiet_runTo (by kernel_rfl) (some 221) rfl (.bool P0.lost) (fun w' hw => by obtain ⟨q, rfl⟩ := hw; exact ldB_run (w := (w4.drewN q4).drewN q) (cl0 q4) (.tmp 220) rfl (by kernel_rfl)) ?_
                simp only [Act.put, List.setIfInBounds_toArray, List.set_cons_zero, List.set_cons_succ]
                iterate 4 (go_big_quiet_step (fail))
                refine quiet_runTo (by kernel_rfl) (some 226) rfl (.bool P.lost) (fun w' hw => by obtain ⟨q, rfl⟩ := hw; exact ldB_run (w := (w4.drewN q4).drewN q) (cl1 q4) (.tmp 225) rfl (by kernel_rfl)) ?_
                simp only [Act.put, List.setIfInBounds_toArray, List.set_cons_zero, List.set_cons_succ]
                refine quiet_runTo (by kernel_rfl) (some 227) rfl (.bool false) (fun w' hw => by exact eqB_run (.tmp 221) (.tmp 226) rfl (by kernel_rfl) (by kernel_rfl) false hlne w') ?_
                simp only [Act.put, List.setIfInBounds_toArray, List.set_cons_zero, List.set_cons_succ]
                iterate 1 (go_big_quiet_step (fail))
                refine wpQuiet_nil ?_
                intro _ hw'
                obtain ⟨nq6, hw''⟩ := hw'
                subst hw''
                generalize (ptM P0).cs = cp0 at *
                generalize (ptM P).cs = cp1 at *
                generalize zeroM.cs = czz at *
                go_wp2
                go_roundw
                case rel => exact ⟨i' + 1 + 1, P.to, by omega, by go_num, by go_num, by rw [HBT.out], .inr ⟨P, by rw [show i' + 1 + 1 - 1 = i' + 1 by omega]; exact HPI.out, rfl, by omega⟩, q4 + nq6, by first | rfl | simp [World.drewN, Nat.add_assoc]⟩
                case measure => simp [intOf]; omega
              · go_upto_region 31 with fail
                refine wp_region_quiet_lit (by kernel_rfl) (by kernel_rfl) ?_
                iterate 8 (go_big_quiet_step (fail))
                refine quiet_runTo (by kernel_rfl) (some 202) rfl (.agg (ptM P0).cs) (fun w' hw => by obtain ⟨q, rfl⟩ := hw; exact loadMid_run (w := (w4.drewN q4).drewN q) (HR0.out q4) (.tmp 201) rfl (by kernel_rfl)) ?_
                simp only [Act.put, List.setIfInBounds_toArray, List.set_cons_zero, List.set_cons_succ]
                refine quiet_runTo (by kernel_rfl) (some 203) rfl (.agg zeroM.cs) (fun w' hw => by kernel_rfl) ?_
                simp only [Act.put, List.setIfInBounds_toArray, List.set_cons_zero, List.set_cons_succ]
                refine quiet_runTo (by kernel_rfl) (some 204) rfl (.bool true) (fun w' hw => by exact eqM_any (ptM P0) zeroM (.tmp 202) (.tmp 203) rfl (by kernel_rfl) (by kernel_rfl) true (by simpa using HZ0.out.2 hm0) w') ?_
                simp only [Act.put, List.setIfInBounds_toArray, List.set_cons_zero, List.set_cons_succ]
                iterate 6 (go_big_quiet_step (fail))
                refine quiet_runTo (by kernel_rfl) (some 211) rfl (.agg (ptM P).cs) (fun w' hw => by obtain ⟨q, rfl⟩ := hw; exact loadMid_run (w := (w4.drewN q4).drewN q) (HRP.out q4) (.tmp 210) rfl (by kernel_rfl)) ?_
                simp only [Act.put, List.setIfInBounds_toArray, List.set_cons_zero, List.set_cons_succ]
                refine quiet_runTo (by kernel_rfl) (some 212) rfl (.agg zeroM.cs) (fun w' hw => by kernel_rfl) ?_
                simp only [Act.put, List.setIfInBounds_toArray, List.set_cons_zero, List.set_cons_succ]
                refine quiet_runTo (by kernel_rfl) (some 213) rfl (.bool false) (fun w' hw => by exact eqM_any (ptM P) zeroM (.tmp 211) (.tmp 212) rfl (by kernel_rfl) (by kernel_rfl) false (by simpa using fun e => hm1 (HPZ.out.1 e)) w') ?_
                simp only [Act.put, List.setIfInBounds_toArray, List.set_cons_zero, List.set_cons_succ]
                iterate 15 (go_big_quiet_step (fail))
                refine wpQuiet_nil ?_
                intro _ hw'
                obtain ⟨nq6, hw''⟩ := hw'
                subst hw''
                generalize (ptM P0).cs = cp0 at *
                generalize (ptM P).cs = cp1 at *
                generalize zeroM.cs = czz at *
                go_wp2
                go_roundw
                case rel => exact ⟨i' + 1 + 1, P.to, by omega, by go_num, by go_num, by rw [HBT.out], .inr ⟨P, by rw [show i' + 1 + 1 - 1 = i' + 1 by omega]; exact HPI.out, rfl, by omega⟩, q4 + nq6, by first | rfl | simp [World.drewN, Nat.add_assoc]⟩
                case measure => simp [intOf]; omega
            · go_upto_region 31 with fail
              refine wp_region_quiet_lit (by kernel_rfl) (by kernel_rfl) ?_
              iterate 8 (go_big_quiet_step (fail))
              refine quiet_runTo (by kernel_rfl) (some 202) rfl (.agg (ptM P0).cs) (fun w' hw => by obtain ⟨q, rfl⟩ := hw; exact loadMid_run (w := (w4.drewN q4).drewN q) (HR0.out q4) (.tmp 201) rfl (by kernel_rfl)) ?_
              simp only [Act.put, List.setIfInBounds_toArray, List.set_cons_zero, List.set_cons_succ]
              refine quiet_runTo (by kernel_rfl) (some 203) rfl (.agg zeroM.cs) (fun w' hw => by kernel_rfl) ?_
              simp only [Act.put, List.setIfInBounds_toArray, List.set_cons_zero, List.set_cons_succ]
              refine quiet_runTo (by kernel_rfl) (some 204) rfl (.bool false) (fun w' hw => by exact eqM_any (ptM P0) zeroM (.tmp 202) (.tmp 203) rfl (by kernel_rfl) (by kernel_rfl) false (by simpa using fun e => hm0 (HZ0.out.1 e)) w') ?_
              simp only [Act.put, List.setIfInBounds_toArray, List.set_cons_zero, List.set_cons_succ]
              iterate 24 (go_big_quiet_step (fail))
              refine wpQuiet_nil ?_
              intro _ hw'
              obtain ⟨nq6, hw''⟩ := hw'
              subst hw''
              generalize (ptM P0).cs = cp0 at *
              generalize zeroM.cs = czz at *
              go_wp2
              go_roundw
              case rel => exact ⟨i' + 1 + 1, P.to, by omega, by go_num, by go_num, by rw [HBT.out], .inr ⟨P, by rw [show i' + 1 + 1 - 1 = i' + 1 by omega]; exact HPI.out, rfl, by omega⟩, q4 + nq6, by first | rfl | simp [World.drewN, Nat.add_assoc]⟩
              case measure => simp [intOf]; omega
    · obtain rfl : i = LW := by omega
      have hnlt : ¬ (i : Int) < (i : Int) := by omega
      have hXN : X0 = N := by
        rcases HXI.out with ⟨h1, _⟩ | ⟨P0, h1, h2, h3⟩
        · omega
        · have := HTIL.out.last (i - 1) P0 h1 (by have := HLW.out; omega)
          omega
      subst hXN
      have hNw : IntKind.i64.wrap ((X0 : Int) + 1) = (X0 : Int) + 1 := by rw [IntKind.wrap_i64]; omega
      go_wp2
      go_ret
      exact ⟨by first | rfl | simp, below_drewN HB4.out _⟩
end Go.Proofs.Ytekkckfoikpljaa
