/-
  The law's made: a calendar, and the document's.
-/
import Derived.Test.YteafaglhlggknabDoorRefCal3
import Derived.Deep.DeepCutAuto
namespace Go.Proofs.YteafaglhlggknabDoor
set_option linter.unusedVariables false
open Go.Shelf Go.RowKit Go.Sort Go.Lib Go.Maps

theorem CalAt.of_block {w w' : World} {C g m : Nat} {S : Int → Bool} {f : Nat → Int} (h : CalAt w C S) (hg : BlkI w g m f) (hm : 0 < m) (hk : ∀ k, k ≠ g → w'.heap[k]? = w.heap[k]?) : CalAt w' C S := by
  obtain ⟨b, n, D, h1, h2, h3⟩ := h
  have hC : C ≠ g := fun e => by
    subst e
    rw [(hg.cell 0 hm).1] at h1
    cases h1
  obtain ⟨es, clock, h4, h5⟩ := h2
  have hb : b ≠ g := fun e => by
    subst e
    have := hg
    unfold BlkI at this
    rw [h4] at this
    cases this
  refine ⟨b, n, D, ?_, ⟨es, clock, (hk b hb).trans h4, h5⟩, h3⟩
  have e : w'.cell? ⟨C, 0, none⟩ = w.cell? ⟨C, 0, none⟩ := World.cell?_of_block (hk C hC)
  rw [e]; exact h1
theorem CV.of_block {w w' : World} {n g m : Nat} {d : Nat → Int} {v : Value} {f : Nat → Int} (h : CV w n d v) (hg : BlkI w g m f) (hm : 0 < m) (hk : ∀ k, k ≠ g → w'.heap[k]? = w.heap[k]?) : CV w' n d v := by
  rcases h with h | ⟨e, C, h1, h2⟩
  · exact .inl h
  · exact .inr ⟨e, C, h1, h2.of_block hg hm hk⟩
theorem SrcI.congr {w : World} {a : Option Addr} {n : Nat} {d d' : Nat → Int} (h : SrcI w a n d) (he : ∀ j, j < n → d j = d' j) : SrcI w a n d' := by
  rcases h with h | ⟨b, off, e, hr⟩
  · exact .inl h
  · exact .inr ⟨b, off, e, fun j hj => by rw [← he j hj]; exact hr j hj⟩
def fA (n : Nat) (d : Nat → Int) (k : Nat) (j : Nat) : Int := if j < n then d j else if j < n + k then -7 else 0
def fB (n : Nat) (d : Nat → Int) (k : Nat) (j : Nat) : Int := if j < k then 20240103 else fA n d 8 j
theorem fA_zero (n : Nat) (d : Nat → Int) (j : Nat) : (if j < n then d j else 0) = fA n d 0 j := by
  unfold fA
  by_cases h : j < n
  · rw [if_pos h, if_pos h]
  · rw [if_neg h, if_neg h, if_neg (by omega)]
def cD (_ : Nat) : Int := 20240103
theorem ivs_succ (k : Nat) : ivs (k + 1) cD = ivs k cD ++ [.int .i64 20240103] := by
  unfold ivs
  rw [List.range_succ, List.map_append]
  rfl
theorem replicate_ivs (k : Nat) : List.replicate k (Value.int .i64 20240103) = ivs k cD := by
  apply List.ext_getElem?
  intro j
  by_cases hj : j < k
  · rw [ivs_at _ hj, List.getElem?_replicate, if_pos hj]; rfl
  · rw [List.getElem?_eq_none (by simp; omega), List.getElem?_eq_none (by rw [ivs_length]; omega)]
set_option maxRecDepth 100000 in
set_option maxHeartbeats 4000000 in
theorem made_any (a : Option Addr) (n cap : Nat) (d : Nat → Int) (w : World) (hn : n ≤ 17592186043904) (hs : SrcI w a n d) (hz : a = none → cap = 0) (hM : Mon w) :
    Calls Tryd.prog 12 #[.slice a n cap] w fun e w' => ∃ vc vr, e = .returned (.tuple #[vc, vr, .bool true]) ∧ CV w' n d vc ∧ RV w' n d vr ∧ Below w.heap.size w w' := by
  obtain ⟨i0, hi, hy0, hy1, hy2⟩ := info_parts info3
  have HS : Hid (SrcI w a n d ∧ (a = none → cap = 0) ∧ Mon w) := ⟨hs, hz, hM⟩
  clear hs hz hM
  go_enter Tryd.func12, Tryd.ntmps12
  go_upto_region 2 with (at_make; refine wpList_make_full _ rfl _ _ 29 rfl w.heap.size 3 i0 (.int .i64 0) 1 Tryd.underlying29 hi hy0 hy1 _ _ _ _ (n + 8) rfl rfl (by omega) (by omega) (by rw [hy2]; omega) (by unfold maxLen; omega) (Nat.le_refl _) ?_; intro w1 ho1 hg1)
  have hb1 : Below w.heap.size w w1 := (Below.refl _ w).grown hg1 (Nat.le_refl _) (fun k hk => by cases hk)
  have hbk : BlkI w1 w.heap.size (n + 8) (fun _ => 0) := BlkI.made ho1
  obtain ⟨w2, hrun, hbk2, hb2⟩ := copy_ints a n cap w.heap.size (n + 8) w.heap.size d w1 w (HS.out.1.below hb1) hbk (by omega) hb1 (Nat.le_refl _)
  have H2 : Hid (BlkI w2 w.heap.size (n + 8) (fA n d 0) ∧ Below w.heap.size w w2) := ⟨hbk2.congr (fun j _ => fA_zero n d j), hb2⟩
  clear ho1 hg1 hb1 hbk hbk2 hb2
  generalize hG : w.heap.size = G at *
  have HG : Hid (w.heap.size = G) := hG
  clear hG
  go_upto_region 3 with fail
  clear hrun
  go_wp2
  go_loopw [6] (fun i wr => ∃ k : Nat, k ≤ 8 ∧ i = .int .i64 ((n + k : Nat) : Int) ∧ BlkI wr G (n + 8) (fA n d k) ∧ Below G w wr) (fun i _ => n + 8 - (intOf i).toNat)
  case atStart => exact ⟨0, Nat.zero_le _, rfl, H2.out.1, H2.out.2⟩
  case round =>
    obtain ⟨k, hk, rfl, hbk, hbl⟩ := hrel
    clear H2
    by_cases hlt : k < 8
    · obtain ⟨m, hm⟩ : ∃ m, n + k = m := ⟨_, rfl⟩
      rw [hm]
      have hlt' : (m : Int) < (n : Int) + 8 := by omega
      obtain ⟨c0, z0⟩ := hbk.cell m (by omega)
      have HB3 : Hid (BlkI (wr.setCell ⟨G, m, none⟩ (.int .i64 (-7))) G (n + 8) (fA n d (k + 1)) ∧ Below G w (wr.setCell ⟨G, m, none⟩ (.int .i64 (-7)))) := by
        refine ⟨(hbk.set m (-7)).congr (fun j _ => ?_), hbl.setCell (Nat.le_refl _) _⟩
        show (if j = m then -7 else fA n d k j) = fA n d (k + 1) j
        unfold fA
        by_cases h1 : j < n
        · rw [if_neg (by omega), if_pos h1, if_pos h1]
        · rw [if_neg h1, if_neg h1]
          by_cases h2 : j = m
          · rw [if_pos h2, if_pos (by omega)]
          · rw [if_neg h2]
            by_cases h3 : j < n + k
            · rw [if_pos h3, if_pos (by omega)]
            · rw [if_neg h3, if_neg (by omega)]
      clear hbk hbl
      generalize fA n d k m = V at *
      have HM : Hid (n + k = m) := hm
      clear hm
      go_wp2
      exact ⟨⟨k + 1, by omega, by rw [show n + (k + 1) = m + 1 by have := HM.out; omega]; go_num, HB3.out.1, HB3.out.2⟩, by simp [intOf]; omega⟩
    · obtain rfl : k = 8 := by omega
      have HB : Hid (BlkI wr G (n + 8) (fA n d 8) ∧ Below G w wr) := ⟨hbk, hbl⟩
      have HSO : Hid (SrcI wr (some ⟨G, 0, none⟩) n d) := (hbk.src (n := n) (by omega) (fun j hj => by unfold fA; rw [if_pos hj]; exact HS.out.1.bounds j hj)).congr (fun j hj => by unfold fA; rw [if_pos hj])
      clear hbk hbl
      go_wp2_with (go_at_call 20; fail)
      refine (New_all (some ⟨G, 0, none⟩) n (n + 8) d wr (by unfold maxLen; omega) HSO.out (HS.out.2.2.below HB.out.2 (by rw [← HG.out]; exact HS.out.2.2.lt))).mono ?_
      rintro e w3 ⟨v1, rfl, hcv1, hb3⟩
      have hgw : G < wr.heap.size := HB.out.1.lt
      have H3 : Hid (CV w3 n d v1 ∧ BlkI w3 G (n + 8) (fB n d 0) ∧ Below G w w3) := ⟨hcv1, (HB.out.1.below hb3 hgw).congr (fun j _ => by unfold fB; rw [if_neg (by omega)]), HB.out.2.trans (hb3.mono (by omega))⟩
      clear hcv1 hb3 HSO HB hgw
      go_wp2
      go_loopw [9, 10] (fun o i wr => ∃ k : Nat, k ≤ n + 8 ∧ i = .int .i64 (k : Int) ∧ o = .bool true ∧ BlkI wr G (n + 8) (fB n d k) ∧ Below G w wr ∧ ∀ q, q ≠ G → wr.heap[q]? = w3.heap[q]?) (fun _ i _ => n + 8 - (intOf i).toNat)
      case atStart => exact ⟨0, Nat.zero_le _, rfl, rfl, H3.out.2.1, H3.out.2.2, fun _ _ => rfl⟩
      case round =>
        obtain ⟨k, hkn, rfl, rfl, hof, hb, hsame⟩ := hrel
        by_cases hlt : k < n + 8
        · have hlt' : (k : Int) < (n : Int) + 8 := by omega
          obtain ⟨c0, z0⟩ := hof.cell k hlt
          have HX : Hid (∀ q, BlkI ((wr.drewN q).setCell ⟨G, k, none⟩ (.int .i64 20240103)) G (n + 8) (fB n d (k + 1)) ∧ Below G w ((wr.drewN q).setCell ⟨G, k, none⟩ (.int .i64 20240103)) ∧ ∀ j, j ≠ G → ((wr.drewN q).setCell ⟨G, k, none⟩ (.int .i64 20240103)).heap[j]? = w3.heap[j]?) := fun q => by
            have hbq : Below wr.heap.size wr (wr.drewN q) := below_drewN (Below.refl _ wr) q
            refine ⟨((hof.below hbq hof.lt).set k 20240103).congr (fun j _ => ?_), (below_drewN hb q).setCell (Nat.le_refl _) _, fun j hj => by rw [Below.heap_setCell _ _ _ _ hj]; exact hsame j hj⟩
            show (if j = k then 20240103 else fB n d k j) = fB n d (k + 1) j
            unfold fB
            by_cases h1 : j = k
            · rw [if_pos h1, if_pos (by omega)]
            · rw [if_neg h1]
              by_cases h2 : j < k
              · rw [if_pos h2, if_pos (by omega)]
              · rw [if_neg h2, if_neg (by omega)]
          have hzq : ∀ q, (wr.drewN q).frozen? ⟨G, k, none⟩ = false := fun q => z0
          have hfk : fB n d k k = fA n d 8 k := by unfold fB; rw [if_neg (by omega)]
          rw [hfk] at c0
          clear hfk
          by_cases hkl : k < n
          · have hkl' : (k : Int) < (n : Int) := by omega
            have hfa : fA n d 8 k = d k := by unfold fA; rw [if_pos hkl]
            rw [hfa] at c0
            clear hfa
            have hsw : SrcI wr a n d := HS.out.1.below (by rw [HG.out]; exact hb)
            rcases hsw with h0 | ⟨b, off, rfl, hr⟩
            · omega
            obtain ⟨d0, _⟩ := hr k hkl
            clear hr hof hb hsame
            have hyy : (d k == d k) = true := by simp
            generalize d k = dk at *
            go_wp2
            go_quiet (fail)
            go_wp2
            exact ⟨⟨k + 1, by omega, by go_num, rfl, (HX.out _).1, (HX.out _).2.1, (HX.out _).2.2⟩, by simp [intOf]; omega⟩
          · have hkl1 : decide ((k : Int) < (n : Int)) = false := decide_eq_false (by omega)
            have hkl2 : decide (k < n) = false := decide_eq_false hkl
            have hkl3 : decide ((n : Int) ≤ (k : Int)) = true := decide_eq_true (by omega)
            have hkl4 : decide (n ≤ k) = true := decide_eq_true (by omega)
            have hkl5 : (n : Int) ≤ (k : Int) := by omega
            have hfa : fA n d 8 k = -7 := by unfold fA; rw [if_neg hkl, if_pos hlt]
            rw [hfa] at c0
            clear hfa hof hb hsame
            go_wp2
            go_quiet (fail)
            go_wp2
            exact ⟨⟨k + 1, by omega, by go_num, rfl, (HX.out _).1, (HX.out _).2.1, (HX.out _).2.2⟩, by simp [intOf]; omega⟩
        · have hkn2 : k = n + 8 := by omega
          subst hkn2
          have H4 : Hid (CV wr n d v1 ∧ BlkI wr G (n + 8) (fB n d (n + 8)) ∧ Below G w wr) := ⟨H3.out.1.of_block H3.out.2.1 (by omega) hsame, hof, hb⟩
          have HSO : Hid (SrcI wr (some ⟨G, 0, none⟩) n cD) := (hof.src (n := n) (by omega) (fun j hj => by unfold fB; rw [if_pos (by omega)]; decide)).congr (fun j hj => by unfold fB; rw [if_pos (by omega)]; rfl)
          clear hof hb hsame H3
          go_wp2_with (go_at_call 20; fail)
          refine (New_all (some ⟨G, 0, none⟩) n (n + 8) cD wr (by unfold maxLen; omega) HSO.out (HS.out.2.2.below H4.out.2.2 (by rw [← HG.out]; exact HS.out.2.2.lt))).mono ?_
          rintro e w4 ⟨v2, rfl, hcv2, hb4⟩
          have hgw : G < wr.heap.size := H4.out.2.1.lt
          have H5 : Hid (CV w4 n d v1 ∧ CV w4 n cD v2 ∧ Below G w w4) := ⟨H4.out.1.below hb4, hcv2, H4.out.2.2.trans (hb4.mono (by omega))⟩
          clear hcv2 hb4 HSO H4 hgw
          go_wp2
          go_loopw [13, 14] (fun dv iv wr => ∃ (k : Nat) (ad : Option Addr) (c : Nat), k ≤ n ∧ dv = .slice ad k c ∧ iv = .int .i64 (k : Int) ∧ Hid (wr.ownsRow w4.heap.size 3 1 (.slice ad k c) k (ivs k cD) ∧ Below w4.heap.size w4 wr ∧ (ad = none → c = 0))) (fun _ iv _ => n - (intOf iv).toNat)
          case atStart => exact ⟨0, none, 0, Nat.zero_le _, rfl, rfl, ⟨World.ownsRow_nil _ _ _ _, Below.refl _ _, fun _ => rfl⟩⟩
          case round =>
            obtain ⟨k, ad, c, hk, rfl, rfl, hh⟩ := hrel
            by_cases hlt : k < n
            · have hlt' : (k : Int) < (n : Int) := by omega
              have HBA : Hid (Below w4.heap.size w4 (wr.alloc (.cells #[.int .i64 20240103] 3))) := hh.out.2.1.alloc hh.out.2.1.size _
              have HOW : Hid ((wr.alloc (.cells #[.int .i64 20240103] 3)).ownsRow w4.heap.size 3 1 (.slice ad k c) k (ivs k cD)) := World.ownsRow.alloc hh.out.1 _
              have hsz4 : w4.heap.size ≤ wr.heap.size + 1 := by have := hh.out.2.1.size; omega
              go_wp2_with (at_builtin; refine wpList_append_lies _ rfl _ _ 29 rfl w4.heap.size 3 i0 (.int .i64 0) 1 8 Tryd.underlying29 hi hy0 hy1 hy2 rfl (by decide) _ k (ivs k cD) rfl HOW.out ⟨wr.heap.size, 0, none⟩ 1 1 [.int .i64 20240103] rfl rfl (World.news_of_block (cs := #[.int .i64 20240103]) (t := 3) (fr := (0, 0)) (heap_alloc_new wr _)) (by simp [Value.oneCell']) (by decide) (by unfold maxLen; omega) (by omega) (by simp; omega) (wr.heap.size + 1) (by simp) ?_; intro g' c' w5 ho5 hg5 hat5 hlt5)
              have HW : Hid (w5.ownsRow w4.heap.size 3 1 (.slice (some ⟨g', 0, none⟩) (k + 1) c') (k + 1) (ivs (k + 1) cD) ∧ Below w4.heap.size w4 w5) := ⟨by rw [ivs_succ]; exact ho5, Below.grown HBA.out hg5 HBA.out.size (fun q hq => (HOW.out.lt q hq).1)⟩
              clear ho5 hg5 hat5 hlt5 HOW HBA hsz4 hh
              go_roundw
              case rel => exact ⟨k + 1, some ⟨g', 0, none⟩, c', by omega, rfl, by go_num, ⟨HW.out.1, HW.out.2, fun h => by cases h⟩⟩
              case measure => simp [intOf]; omega
            · have hkn : n = k := by omega
              subst hkn
              obtain ⟨a', c', e, hc', hs'⟩ := row_src hh.out.1 (fun j _ => by unfold cD; decide)
              injection e with e1 _ e3
              subst e1 e3
              have H6 : Hid (CV wr n d v1 ∧ CV wr n cD v2 ∧ Below G w wr ∧ SrcI wr ad n cD ∧ (ad = none → c = 0)) := ⟨H5.out.1.below hh.out.2.1, H5.out.2.1.below hh.out.2.1, H5.out.2.2.trans (hh.out.2.1.mono (by have := H5.out.2.2.size; rw [HG.out] at this; exact this)), hs', hh.out.2.2⟩
              clear hs' hh H5 hc'
              go_wp2_with (go_at_call 27; fail)
              refine (refNew_all ad n c cD wr (by unfold maxLen; omega) H6.out.2.2.2.1 H6.out.2.2.2.2).mono ?_
              rintro e w7 ⟨v3, rfl, hrv3, hb7⟩
              have hsz7 : G ≤ wr.heap.size := by rw [← HG.out]; exact H6.out.2.2.1.size
              have H7 : Hid (CV w7 n d v1 ∧ CV w7 n cD v2 ∧ RV w7 n cD v3 ∧ Below G w w7 ∧ Mon w7) := ⟨H6.out.1.below hb7, H6.out.2.1.below hb7, hrv3, H6.out.2.2.1.trans (hb7.mono hsz7), HS.out.2.2.below (H6.out.2.2.1.trans (hb7.mono hsz7)) (by rw [← HG.out]; exact HS.out.2.2.lt)⟩
              clear hrv3 hb7 hsz7 H6
              generalize hE2 : newE cD n = E2 at *
              have HE2 : Hid (newE cD n = E2) := hE2
              clear hE2
              have hee2 : (E2 != E2) = false := by simp
              rcases H7.out.2.1 with ⟨k1, k2⟩ | ⟨k1, C2, k2, k3⟩
              · rcases H7.out.2.2.1 with ⟨k4, k5⟩ | ⟨k4, R2, k5, k6⟩
                · subst k2 k5
                  clear k1 k4
                  have HL : Hid (CV w7 n d v1 ∧ Below G w w7) := ⟨H7.out.1, H7.out.2.2.2.1⟩
                  clear H7
                  obtain ⟨w8, hw8⟩ : ∃ w8, w7 = w8 := ⟨_, rfl⟩
                  subst hw8
                  go_wp2_with (go_at_call 27; fail)
                  refine (refNew_all a n cap d _ (by unfold maxLen; omega) (HS.out.1.below (by rw [HG.out]; exact HL.out.2)) HS.out.2.1).mono ?_
                  rintro e w9 ⟨v4, rfl, hrv4, hb9⟩
                  have hsz9 : G ≤ w7.heap.size := by rw [← HG.out]; exact HL.out.2.size
                  have H9 : Hid (CV w9 n d v1 ∧ RV w9 n d v4 ∧ Below G w w9) := ⟨HL.out.1.below hb9, hrv4, HL.out.2.trans (hb9.mono hsz9)⟩
                  clear hrv4 hb9 hsz9 HL
                  generalize hE1 : newE d n = E1 at *
                  have HE1 : Hid (newE d n = E1) := hE1
                  clear hE1
                  have hee : (E1 == E1) = true := by simp
                  rcases H9.out.1 with ⟨k1, k2⟩ | ⟨k1, C1, k2, k3⟩
                  · rcases H9.out.2.1 with ⟨k4, k5⟩ | ⟨k4, R1, k5, k6⟩
                    · subst k2 k5
                      clear k1 k4
                      go_wp2
                      go_ret3
                      exact ⟨_, _, rfl, H9.out.1, H9.out.2.1, by rw [HG.out]; exact H9.out.2.2⟩
                    · exact absurd k4 k1
                  · rcases H9.out.2.1 with ⟨k4, k5⟩ | ⟨k4, R1, k5, k6⟩
                    · exact absurd k1 k4
                    · subst k2 k5
                      clear k1 k4 k3 k6
                      go_wp2
                      go_ret3
                      exact ⟨_, _, rfl, H9.out.1, H9.out.2.1, by rw [HG.out]; exact H9.out.2.2⟩
                · exact absurd k4 k1
              · rcases H7.out.2.2.1 with ⟨k4, k5⟩ | ⟨k4, R2, k5, k6⟩
                · exact absurd k1 k4
                · subst k2 k5
                  have H8 : Hid (CalAt w7 C2 (daySet cD n) ∧ RC w7 R2 n cD ∧ CV w7 n d v1 ∧ Below G w w7 ∧ Mon w7) := ⟨k3, k6, H7.out.1, H7.out.2.2.2.1, H7.out.2.2.2.2⟩
                  clear k1 k4 k3 k6 H7
                  have hzd : (-9223372036854775808 : Int) ≤ 20240103 := by decide
                  go_wp2_with (go_at_call 14; fail)
                  refine (Add_all C2 (daySet cD n) 20240102 1 w7 H8.out.2.2.2.2 H8.out.1 (by decide) (by decide)).mono ?_
                  rintro e wa ⟨rfl, hba⟩
                  have hmon : Mon wa := H8.out.2.2.2.2.below hba H8.out.2.2.2.2.lt
                  have HA : Hid (CalAt wa C2 (daySet cD n) ∧ RC wa R2 n cD ∧ CV wa n d v1 ∧ Below G w wa ∧ Mon wa) := ⟨H8.out.1.below hba, H8.out.2.1.below hba, H8.out.2.2.1.below hba, H8.out.2.2.2.1.trans (hba.mono (by rw [← HG.out]; exact H8.out.2.2.2.1.size)), hmon⟩
                  clear hba hmon H8
                  go_wp2_with (go_at_call 15; fail)
                  refine (refAdd_all R2 n cD 20240102 1 wa HA.out.2.1 (by decide) (by decide)).mono ?_
                  rintro e wb ⟨rfl, hbb⟩
                  have hmon : Mon wb := HA.out.2.2.2.2.below hbb HA.out.2.2.2.2.lt
                  have HB : Hid (CalAt wb C2 (daySet cD n) ∧ RC wb R2 n cD ∧ CV wb n d v1 ∧ Below G w wb ∧ Mon wb) := ⟨HA.out.1.below hbb, HA.out.2.1.below hbb, HA.out.2.2.1.below hbb, HA.out.2.2.2.1.trans (hbb.mono (by rw [← HG.out]; exact HA.out.2.2.2.1.size)), hmon⟩
                  clear hbb hmon HA
                  generalize (addP (daySet cD n) 20240102 1).1 = P1 at *
                  generalize (addP (daySet cD n) 20240102 1).2 = P2 at *
                  have hp1 : (P1 != P1) = false := by simp
                  have hp2 : (P2 != P2) = false := by simp
                  go_wp2_with (go_at_call 16; fail)
                  refine (Open_any C2 (daySet cD n) 20240103 wb HB.out.2.2.2.2 HB.out.1 (by decide) (by decide)).mono ?_
                  rintro e wc ⟨rfl, hbc⟩
                  have HC : Hid (RC wc R2 n cD ∧ CV wc n d v1 ∧ Below G w wc) := ⟨HB.out.2.1.below hbc, HB.out.2.2.1.below hbc, HB.out.2.2.2.1.trans (hbc.mono (by rw [← HG.out]; exact HB.out.2.2.2.1.size))⟩
                  clear hbc HB
                  go_wp2_with (go_at_call 17; fail)
                  refine (refOpen_any R2 n cD 20240103 wc HC.out.1.cal HC.out.1.hn HC.out.1.ok (by decide) (by decide)).mono ?_
                  rintro e w8 ⟨rfl, hbd⟩
                  have HL : Hid (CV w8 n d v1 ∧ Below G w w8) := ⟨HC.out.2.1.below hbd, HC.out.2.2.trans (hbd.mono (by rw [← HG.out]; exact HC.out.2.2.size))⟩
                  clear hbd HC
                  generalize (dnB 20240103 && isOpen (daySet cD n) (dnV 20240103).toNat) = ob at *
                  have hob : (ob == ob) = true := by simp
                  go_wp2_with (go_at_call 27; fail)
                  refine (refNew_all a n cap d _ (by unfold maxLen; omega) (HS.out.1.below (by rw [HG.out]; exact HL.out.2)) HS.out.2.1).mono ?_
                  rintro e w9 ⟨v4, rfl, hrv4, hb9⟩
                  have hsz9 : G ≤ w8.heap.size := by rw [← HG.out]; exact HL.out.2.size
                  have H9 : Hid (CV w9 n d v1 ∧ RV w9 n d v4 ∧ Below G w w9) := ⟨HL.out.1.below hb9, hrv4, HL.out.2.trans (hb9.mono hsz9)⟩
                  clear hrv4 hb9 hsz9 HL
                  generalize hE1 : newE d n = E1 at *
                  have HE1 : Hid (newE d n = E1) := hE1
                  clear hE1
                  have hee : (E1 == E1) = true := by simp
                  rcases H9.out.1 with ⟨k1, k2⟩ | ⟨k1, C1, k2, k3⟩
                  · rcases H9.out.2.1 with ⟨k4, k5⟩ | ⟨k4, R1, k5, k6⟩
                    · subst k2 k5
                      clear k1 k4
                      go_wp2
                      go_ret3
                      exact ⟨_, _, rfl, H9.out.1, H9.out.2.1, by rw [HG.out]; exact H9.out.2.2⟩
                    · exact absurd k4 k1
                  · rcases H9.out.2.1 with ⟨k4, k5⟩ | ⟨k4, R1, k5, k6⟩
                    · exact absurd k1 k4
                    · subst k2 k5
                      clear k1 k4 k3 k6
                      go_wp2
                      go_ret3
                      exact ⟨_, _, rfl, H9.out.1, H9.out.2.1, by rw [HG.out]; exact H9.out.2.2⟩
end Go.Proofs.YteafaglhlggknabDoor
