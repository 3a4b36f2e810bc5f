/-
  The reference: right, copied, timed.
-/
import Derived.Test.YtdncemecnbglaaaA12
import Derived.Test.YtdncemecnbglaaaRefSum
import Derived.Test.YtdncemecnbglaaaRefBytes
namespace Go.Proofs.Ytdncemecnbglaaa
set_option linter.unusedVariables false
set_option linter.unusedSimpArgs false
open Go.RowKit Go.Great Go.Maps

theorem rGet_by {w : World} {v : Value} {l : List Nat} (h : By w v l) (h4 : 4 ≤ l.length) (hm : l.length ≤ 9223372036854775807) : Calls Try.prog 53 #[v, .int .i64 4] w fun e w' => e = .returned (.tuple #[.int .u64 (nbN l : Int), .bool true]) ∧ w' = w := by
  obtain ⟨a, cap, rfl, hc⟩ := h.form
  obtain ⟨_, _, hs, _⟩ := h.src
  have h1 : gtB l.length 4 = true := by unfold gtB; simp; omega
  have := refGet_any a l.length cap (dN l) 4 w hs hm
  unfold gtV at this
  rw [h1, if_pos rfl] at this
  exact this
theorem rCrc_by {w : World} {v : Value} {l : List Nat} (h : By w v l) (hm : l.length ≤ 140737488351232) : Calls Try.prog 54 #[v] w fun e w' => e = .returned (.int .u32 (crN l : Int)) ∧ w' = w := by
  obtain ⟨a, cap, rfl, hc⟩ := h.form
  obtain ⟨_, _, hs, _⟩ := h.src
  exact refCrc_any a l.length cap (dN l) w hm hs
set_option maxRecDepth 100000 in
set_option maxHeartbeats 1000000 in
theorem right_any {w : World} {v : Value} {l : List Nat} (h : By w v l) (hm : l.length ≤ 140737488351232) : Calls Try.prog 48 #[v] w fun e w' => e = .returned (.int .i64 (((rt l).getD 0 : Nat) : Int)) ∧ w' = w := by
  obtain ⟨a, cap, hv, hc⟩ := h.form
  obtain ⟨R, hR⟩ : ∃ R : Nat, R = (rt l).getD 0 := ⟨_, rfl⟩
  rw [← hR]
  have HR : Hid (R = (rt l).getD 0) := hR
  clear hR
  have HL : Hid (l.length ≤ 140737488351232 ∧ l.length ≤ cap) := ⟨hm, hc⟩
  obtain ⟨N, hN⟩ : ∃ N, N = l.length := ⟨_, rfl⟩
  rw [← hN] at hv HL
  have HN : Hid (N = l.length) := hN
  clear hN hm hc
  go_enter Try.func48, Try.ntmps48
  by_cases h9 : N < 9
  · have d9 : decide (N < 9) = true := by simp [h9]
    go_upto_region 1 with fail
    rename_i K hK
    refine wp_region_lit ?_
    refine wpList_runTo rfl (some 7) rfl (v) w (by kernel_rfl) ?_
    simp only [Act.put, List.setIfInBounds_toArray, List.set_cons_zero, List.set_cons_succ]
    refine wpList_runTo rfl (some 8) rfl (.int .i64 (N : Int)) w (by exact len_run hv (.tmp 7) rfl (.inl rfl) (by kernel_rfl) _) ?_
    simp only [Act.put, List.setIfInBounds_toArray, List.set_cons_zero, List.set_cons_succ]
    refine wpList_runTo rfl (some 9) rfl (.bool true) w (by exact ltN_run (n := N) (k := 9) (.tmp 8) (.const (.int .i64 9)) rfl (by kernel_rfl) rfl d9 _) ?_
    simp only [Act.put, List.setIfInBounds_toArray, List.set_cons_zero, List.set_cons_succ]
    refine wpList_runTo rfl (some 10) rfl (.bool true) w (by kernel_rfl) ?_
    simp only [Act.put, List.setIfInBounds_toArray, List.set_cons_zero, List.set_cons_succ]
    refine wpList_skipG (by kernel_rfl) ?_
    simp only [Act.put, List.setIfInBounds_toArray, List.set_cons_zero, List.set_cons_succ]
    refine wpList_skipG (by kernel_rfl) ?_
    simp only [Act.put, List.setIfInBounds_toArray, List.set_cons_zero, List.set_cons_succ]
    refine wpList_skipG (by kernel_rfl) ?_
    simp only [Act.put, List.setIfInBounds_toArray, List.set_cons_zero, List.set_cons_succ]
    refine wpList_skipG (by kernel_rfl) ?_
    simp only [Act.put, List.setIfInBounds_toArray, List.set_cons_zero, List.set_cons_succ]
    refine wpList_runTo rfl (some 15) rfl (.bool true) w (by kernel_rfl) ?_
    simp only [Act.put, List.setIfInBounds_toArray, List.set_cons_zero, List.set_cons_succ]
    refine wpList_nil ?_
    refine hK _ _ ?_
    clear hK
    have e : R = 0 := by rw [HR.out]; unfold rt; rw [if_neg (by rw [← HN.out]; omega)]; rfl
    subst e
    go_wp2
    go_ret
    exact ⟨rfl, rfl⟩
  · have d9 : decide (N < 9) = false := by simp [h9]
    have h9' : 9 ≤ N := by omega
    obtain ⟨g, o, ha, hcell⟩ : ∃ g o, a = some ⟨g, o, none⟩ ∧ ∀ (j x : Nat), l[j]? = some x → w.cell? ⟨g, o + j, none⟩ = some (.int .u8 (x : Int)) := by
      obtain ⟨a', cap', e, _, _, h3⟩ := h.ex
      rw [hv] at e
      injection e with e1 _ _
      rcases h3 with h3 | ⟨g, o, h4, h5⟩
      · exact absurd HN.out (by rw [h3]; simp; omega)
      · exact ⟨g, o, e1.trans h4, h5⟩
    subst ha
    obtain ⟨x4, hx4⟩ : ∃ x, l[4]? = some x := ⟨_, List.getElem?_eq_getElem (by rw [← HN.out]; omega)⟩
    have c4 := hcell 4 x4 hx4
    have H4 : Hid (dN l 4 = x4) := by
      show dN l 4 = x4
      unfold dN
      rw [List.getD_eq_getElem?_getD, hx4]; rfl
    have HBy : Hid (By w v l) := h
    clear hcell hx4 h
    obtain ⟨b4, hb4⟩ : ∃ b : Bool, (x4 != 1) = b := ⟨_, rfl⟩
    go_upto_region 1 with fail
    rename_i K hK
    refine wp_region_lit ?_
    refine wpList_runTo rfl (some 7) rfl (v) w (by kernel_rfl) ?_
    simp only [Act.put, List.setIfInBounds_toArray, List.set_cons_zero, List.set_cons_succ]
    refine wpList_runTo rfl (some 8) rfl (.int .i64 (N : Int)) w (by exact len_run hv (.tmp 7) rfl (.inl rfl) (by kernel_rfl) _) ?_
    simp only [Act.put, List.setIfInBounds_toArray, List.set_cons_zero, List.set_cons_succ]
    refine wpList_runTo rfl (some 9) rfl (.bool false) w (by exact ltN_run (n := N) (k := 9) (.tmp 8) (.const (.int .i64 9)) rfl (by kernel_rfl) rfl d9 _) ?_
    simp only [Act.put, List.setIfInBounds_toArray, List.set_cons_zero, List.set_cons_succ]
    refine wpList_runTo rfl (some 10) rfl (.bool false) w (by kernel_rfl) ?_
    simp only [Act.put, List.setIfInBounds_toArray, List.set_cons_zero, List.set_cons_succ]
    refine wpList_runToG (by kernel_rfl) (some 11) rfl (v) w (by kernel_rfl) ?_
    simp only [Act.put, List.setIfInBounds_toArray, List.set_cons_zero, List.set_cons_succ]
    refine wpList_runToG (by kernel_rfl) (some 12) rfl (.pointer (some ⟨g, o + 4, none⟩)) w (by exact ixB_run (i := 4) (n := N) (c := cap) (.tmp 11) (.const (.int .i64 4)) rfl (by rw [← hv]; kernel_rfl) rfl (by omega) _) ?_
    simp only [Act.put, List.setIfInBounds_toArray, List.set_cons_zero, List.set_cons_succ]
    refine wpList_runToG (by kernel_rfl) (some 13) rfl (.int .u8 (x4 : Int)) w (by exact ldY_run (.tmp 12) rfl (by kernel_rfl) c4) ?_
    simp only [Act.put, List.setIfInBounds_toArray, List.set_cons_zero, List.set_cons_succ]
    refine wpList_runToG (by kernel_rfl) (some 14) rfl (.bool b4) w (by exact neY_run (p := x4) (q := 1) (.tmp 13) (.const (.int .u8 1)) rfl (by kernel_rfl) rfl hb4 _) ?_
    simp only [Act.put, List.setIfInBounds_toArray, List.set_cons_zero, List.set_cons_succ]
    refine wpList_runTo rfl (some 15) rfl (.bool b4) w (by kernel_rfl) ?_
    simp only [Act.put, List.setIfInBounds_toArray, List.set_cons_zero, List.set_cons_succ]
    refine wpList_nil ?_
    refine hK _ _ ?_
    clear hK
    cases b4
    case true =>
      have e : R = 0 := by
        rw [HR.out]; unfold rt
        rw [if_neg (fun q => by
          have := q.2.1
          rw [H4.out] at this
          rw [this] at hb4
          cases hb4)]
        rfl
      subst e
      clear hb4 c4 d9
      go_wp2
      go_ret
      exact ⟨rfl, rfl⟩
    case false =>
      have h41 : dN l 4 = 1 := by
        rw [H4.out]
        simpa using hb4
      have H41 : Hid (dN l 4 = 1) := h41
      clear hb4 c4 d9 h41 H4
      obtain ⟨E, hE⟩ : ∃ E, E = N - 4 := ⟨_, rfl⟩
      have HE : Hid (E = N - 4) := hE
      have hE' : E ≤ N := by omega
      clear hE
      have hg1 := rGet_by HBy.out (by rw [← HN.out]; omega) (by rw [← HN.out]; have := HL.out.1; omega)
      obtain ⟨NB, hNB⟩ : ∃ s, s = nbN l := ⟨_, rfl⟩
      rw [← hNB] at hg1
      go_upto_region 3 with fail
      rename_i K hK
      refine wp_region_lit ?_
      refine wpList_runTo rfl (some 17) rfl (v) w (by kernel_rfl) ?_
      simp only [Act.put, List.setIfInBounds_toArray, List.set_cons_zero, List.set_cons_succ]
      refine wpList_callW rfl (some 18) rfl 53 #[v, .int .i64 4] (by kernel_rfl) hg1 ?_
      clear hg1
      rintro e w1 ⟨rfl, ew⟩
      replace ew := ew.symm
      subst ew
      refine ⟨_, rfl, ?_⟩
      simp only [Act.put, List.setIfInBounds_toArray, List.set_cons_zero, List.set_cons_succ]
      refine wpList_runTo rfl (some 16) rfl (.tuple #[.int .u64 (NB : Int), .bool true]) w (by kernel_rfl) ?_
      simp only [Act.put, List.setIfInBounds_toArray, List.set_cons_zero, List.set_cons_succ]
      refine wpList_runTo rfl (some 19) rfl (.int .u64 (NB : Int)) w (by kernel_rfl) ?_
      simp only [Act.put, List.setIfInBounds_toArray, List.set_cons_zero, List.set_cons_succ]
      refine wpList_runTo rfl (some 20) rfl (.bool true) w (by kernel_rfl) ?_
      simp only [Act.put, List.setIfInBounds_toArray, List.set_cons_zero, List.set_cons_succ]
      refine wpList_runTo rfl (some 3) rfl (.int .u64 (NB : Int)) w (by kernel_rfl) ?_
      simp only [Act.put, List.setIfInBounds_toArray, List.set_cons_zero, List.set_cons_succ]
      refine wpList_runTo rfl (some 4) rfl (.bool true) w (by kernel_rfl) ?_
      simp only [Act.put, List.setIfInBounds_toArray, List.set_cons_zero, List.set_cons_succ]
      refine wpList_nil ?_
      refine hK _ _ ?_
      clear hK
      have hg1 := rGet_by (HBy.out.tl (lo := E) (by rw [← HN.out]; omega)) (by rw [List.length_drop, ← HN.out, HE.out]; omega) (by rw [List.length_drop, ← HN.out]; have := HL.out.1; omega)
      have hgs : cutL v E = cutV (.slice (some ⟨g, o, none⟩) N cap) E N cap := by rw [hv]; rfl
      obtain ⟨C, hC⟩ : ∃ C, C = cutL v E := ⟨_, rfl⟩
      rw [← hC] at hg1 hgs
      have hsm : nbN (l.drop E) = smN l := by rw [smN_eq, HE.out, HN.out]
      rw [hsm] at hg1
      clear hsm hC
      obtain ⟨SM, hSM⟩ : ∃ s, s = smN l := ⟨_, rfl⟩
      rw [← hSM] at hg1
      go_upto_region 4 with fail
      rename_i K hK
      refine wp_region_lit ?_
      refine wpList_runTo rfl (some 22) rfl (v) w (by kernel_rfl) ?_
      simp only [Act.put, List.setIfInBounds_toArray, List.set_cons_zero, List.set_cons_succ]
      refine wpList_runTo rfl (some 23) rfl (v) w (by kernel_rfl) ?_
      simp only [Act.put, List.setIfInBounds_toArray, List.set_cons_zero, List.set_cons_succ]
      refine wpList_runTo rfl (some 24) rfl (.int .i64 (N : Int)) w (by exact len_run hv (.tmp 23) rfl (.inl rfl) (by kernel_rfl) _) ?_
      simp only [Act.put, List.setIfInBounds_toArray, List.set_cons_zero, List.set_cons_succ]
      refine wpList_runTo rfl (some 25) rfl (.int .i64 (E : Int)) w (by rw [HE.out]; exact subN_run (p := N) (q := 4) (.tmp 24) (.const (.int .i64 4)) rfl (by kernel_rfl) rfl (by omega) (by have := HL.out.1; omega) w) ?_
      simp only [Act.put, List.setIfInBounds_toArray, List.set_cons_zero, List.set_cons_succ]
      refine wpList_runTo rfl (some 26) rfl (C) w (by rw [hgs]; exact sliceL_run (ao := some ⟨g, o, none⟩) (n := N) (cap := cap) (lo := E) (.tmp 22) (.tmp 25) rfl (by rw [← hv]; kernel_rfl) (by kernel_rfl) hE' _) ?_
      simp only [Act.put, List.setIfInBounds_toArray, List.set_cons_zero, List.set_cons_succ]
      refine wpList_callW rfl (some 27) rfl 53 #[C, .int .i64 4] (by kernel_rfl) hg1 ?_
      clear hg1
      rintro e w1 ⟨rfl, ew⟩
      replace ew := ew.symm
      subst ew
      refine ⟨_, rfl, ?_⟩
      simp only [Act.put, List.setIfInBounds_toArray, List.set_cons_zero, List.set_cons_succ]
      refine wpList_runTo rfl (some 21) rfl (.tuple #[.int .u64 (SM : Int), .bool true]) w (by kernel_rfl) ?_
      simp only [Act.put, List.setIfInBounds_toArray, List.set_cons_zero, List.set_cons_succ]
      refine wpList_runTo rfl (some 28) rfl (.int .u64 (SM : Int)) w (by kernel_rfl) ?_
      simp only [Act.put, List.setIfInBounds_toArray, List.set_cons_zero, List.set_cons_succ]
      refine wpList_runTo rfl (some 29) rfl (.bool true) w (by kernel_rfl) ?_
      simp only [Act.put, List.setIfInBounds_toArray, List.set_cons_zero, List.set_cons_succ]
      refine wpList_runTo rfl (some 5) rfl (.int .u64 (SM : Int)) w (by kernel_rfl) ?_
      simp only [Act.put, List.setIfInBounds_toArray, List.set_cons_zero, List.set_cons_succ]
      refine wpList_runTo rfl (some 6) rfl (.bool true) w (by kernel_rfl) ?_
      simp only [Act.put, List.setIfInBounds_toArray, List.set_cons_zero, List.set_cons_succ]
      refine wpList_nil ?_
      refine hK _ _ ?_
      clear hK
      clear hgs
      have HNB : Hid (NB = nbN l ∧ SM = smN l ∧ NB < 4294967296) := ⟨hNB, hSM, by rw [hNB]; exact nbN_lt HBy.out.bb⟩
      clear hNB hSM
      by_cases q1 : NB < 1
      · have q1a : (NB : Int) < 1 := by omega
        have e : R = 0 := by rw [HR.out]; unfold rt; rw [if_neg (fun q => by have := q.2.2; rw [← HNB.out.1] at this; omega)]; rfl
        subst e
        go_wp2
        go_ret
        exact ⟨rfl, rfl⟩
      · have d1 : decide (NB < 1) = false := by simp; omega
        by_cases q2 : 999999999 < NB
        · have q1a : ¬ (NB : Int) < 1 := by omega
          have q2a : 999999999 < (NB : Int) := by omega
          clear d1
          have e : R = 0 := by rw [HR.out]; unfold rt; rw [if_neg (fun q => by have := q.2.2; rw [← HNB.out.1] at this; omega)]; rfl
          subst e
          go_wp2
          go_ret
          exact ⟨rfl, rfl⟩
        · have d2 : decide (999999999 < NB) = false := by simp; omega
          have hgs : cutT v E = cutV (.slice (some ⟨g, o, none⟩) N cap) 0 E cap := by rw [hv]; rfl
          have hlt : (l.take E).length = E := by rw [List.length_take, ← HN.out]; omega
          have hcr := rCrc_by (HBy.out.hd (hi := E) (by rw [← HN.out]; omega)) (by rw [hlt]; have := HL.out.1; omega)
          clear hlt
          obtain ⟨C2, hC⟩ : ∃ C, C = cutT v E := ⟨_, rfl⟩
          rw [← hC] at hcr hgs
          clear hC
          obtain ⟨CR, hCR0⟩ : ∃ s, s = crN (l.take E) := ⟨_, rfl⟩
          have hCR : CR < 4294967296 := by rw [hCR0]; exact crN_lt _ (HBy.out.bb.take E)
          rw [← hCR0] at hcr
          obtain ⟨b6, hb6⟩ : ∃ b : Bool, (SM != CR) = b := ⟨_, rfl⟩
          go_upto_region 5 with fail
          rename_i K hK
          refine wp_region_lit ?_
          refine wpList_runTo rfl (some 30) rfl (.int .u64 (NB : Int)) w (by kernel_rfl) ?_
          simp only [Act.put, List.setIfInBounds_toArray, List.set_cons_zero, List.set_cons_succ]
          refine wpList_runTo rfl (some 31) rfl (.bool false) w (by exact ltU_run (p := NB) (q := 1) (.tmp 30) (.const (.int .u64 1)) rfl (by kernel_rfl) rfl d1 _) ?_
          simp only [Act.put, List.setIfInBounds_toArray, List.set_cons_zero, List.set_cons_succ]
          refine wpList_runTo rfl (some 32) rfl (.bool false) w (by kernel_rfl) ?_
          simp only [Act.put, List.setIfInBounds_toArray, List.set_cons_zero, List.set_cons_succ]
          refine wpList_runToG (by kernel_rfl) (some 33) rfl (.int .u64 (NB : Int)) w (by kernel_rfl) ?_
          simp only [Act.put, List.setIfInBounds_toArray, List.set_cons_zero, List.set_cons_succ]
          refine wpList_runToG (by kernel_rfl) (some 34) rfl (.bool false) w (by exact gtU_run (p := NB) (q := 999999999) (.tmp 33) (.const (.int .u64 999999999)) rfl (by kernel_rfl) rfl d2 _) ?_
          simp only [Act.put, List.setIfInBounds_toArray, List.set_cons_zero, List.set_cons_succ]
          refine wpList_runTo rfl (some 35) rfl (.bool false) w (by kernel_rfl) ?_
          simp only [Act.put, List.setIfInBounds_toArray, List.set_cons_zero, List.set_cons_succ]
          refine wpList_runTo rfl (some 36) rfl (.bool false) w (by kernel_rfl) ?_
          simp only [Act.put, List.setIfInBounds_toArray, List.set_cons_zero, List.set_cons_succ]
          refine wpList_runToG (by kernel_rfl) (some 37) rfl (.int .u64 (SM : Int)) w (by kernel_rfl) ?_
          simp only [Act.put, List.setIfInBounds_toArray, List.set_cons_zero, List.set_cons_succ]
          refine wpList_runToG (by kernel_rfl) (some 38) rfl (v) w (by kernel_rfl) ?_
          simp only [Act.put, List.setIfInBounds_toArray, List.set_cons_zero, List.set_cons_succ]
          refine wpList_runToG (by kernel_rfl) (some 39) rfl (v) w (by kernel_rfl) ?_
          simp only [Act.put, List.setIfInBounds_toArray, List.set_cons_zero, List.set_cons_succ]
          refine wpList_runToG (by kernel_rfl) (some 40) rfl (.int .i64 (N : Int)) w (by exact len_run hv (.tmp 39) rfl (.inl rfl) (by kernel_rfl) _) ?_
          simp only [Act.put, List.setIfInBounds_toArray, List.set_cons_zero, List.set_cons_succ]
          refine wpList_runToG (by kernel_rfl) (some 41) rfl (.int .i64 (E : Int)) w (by rw [HE.out]; exact subN_run (p := N) (q := 4) (.tmp 40) (.const (.int .i64 4)) rfl (by kernel_rfl) rfl (by omega) (by have := HL.out.1; omega) w) ?_
          simp only [Act.put, List.setIfInBounds_toArray, List.set_cons_zero, List.set_cons_succ]
          refine wpList_runToG (by kernel_rfl) (some 42) rfl (C2) w (by rw [hgs]; exact sliceT_run (ao := some ⟨g, o, none⟩) (n := N) (cap := cap) (hi := E) (.tmp 38) (.tmp 41) rfl (by rw [← hv]; kernel_rfl) (by kernel_rfl) (by have := HL.out.2; omega) _) ?_
          simp only [Act.put, List.setIfInBounds_toArray, List.set_cons_zero, List.set_cons_succ]
          refine wpList_callG (by kernel_rfl) (some 43) rfl 54 #[C2] (by kernel_rfl) hcr ?_
          clear hcr
          rintro e w1 ⟨rfl, ew⟩
          replace ew := ew.symm
          subst ew
          refine ⟨_, rfl, ?_⟩
          simp only [Act.put, List.setIfInBounds_toArray, List.set_cons_zero, List.set_cons_succ]
          refine wpList_runToG (by kernel_rfl) (some 44) rfl (.int .u64 (CR : Int)) w (by exact cv3_run (k := CR) (.tmp 43) rfl (by kernel_rfl) hCR _) ?_
          simp only [Act.put, List.setIfInBounds_toArray, List.set_cons_zero, List.set_cons_succ]
          refine wpList_runToG (by kernel_rfl) (some 45) rfl (.bool b6) w (by exact neU_run (p := SM) (q := CR) (.tmp 37) (.tmp 44) rfl (by kernel_rfl) (by kernel_rfl) hb6 _) ?_
          simp only [Act.put, List.setIfInBounds_toArray, List.set_cons_zero, List.set_cons_succ]
          refine wpList_runTo rfl (some 46) rfl (.bool b6) w (by kernel_rfl) ?_
          simp only [Act.put, List.setIfInBounds_toArray, List.set_cons_zero, List.set_cons_succ]
          refine wpList_nil ?_
          refine hK _ _ ?_
          clear hK
          clear hgs hCR d1 d2
          have HCR : Hid (CR = crN (l.take (l.length - 4))) := by
            show CR = _
            rw [hCR0, HE.out, HN.out]
          clear hCR0
          cases b6
          case true =>
            have e : R = 0 := by
              rw [HR.out]; unfold rt
              rw [if_neg (fun q => by
                have := q.2.2.2.2
                rw [← HNB.out.2.1, ← HCR.out] at this
                rw [this] at hb6
                simp at hb6)]
              rfl
            subst e
            clear hb6
            go_wp2
            go_ret
            exact ⟨rfl, rfl⟩
          case false =>
            have e : R = NB := by
              rw [HR.out]; unfold rt
              rw [if_pos ⟨by rw [← HN.out]; omega, H41.out, by rw [← HNB.out.1]; omega, by rw [← HNB.out.1]; omega, by rw [← HNB.out.2.1, ← HCR.out]; simpa using hb6⟩, ← HNB.out.1]
              rfl
            subst e
            clear hb6
            go_upto_region 7 with fail
            rename_i K hK
            refine wp_region_lit ?_
            refine wpList_runTo rfl (some 47) rfl (.int .u64 (R : Int)) w (by kernel_rfl) ?_
            simp only [Act.put, List.setIfInBounds_toArray, List.set_cons_zero, List.set_cons_succ]
            refine wpList_runTo rfl (some 48) rfl (.int .i64 (R : Int)) w (by exact cvi_run (p := R) (.tmp 47) rfl (by kernel_rfl) (by have := HNB.out.2.2; omega) _) ?_
            simp only [Act.put, List.setIfInBounds_toArray, List.set_cons_zero, List.set_cons_succ]
            refine wpList_runTo rfl (some 2) rfl (.int .i64 (R : Int)) w (by kernel_rfl) ?_
            simp only [Act.put, List.setIfInBounds_toArray, List.set_cons_zero, List.set_cons_succ]
            refine wpList_nil ?_
            refine hK _ _ ?_
            clear hK
            go_wp2
            go_ret
            exact ⟨rfl, rfl⟩
set_option maxRecDepth 100000 in
theorem timed_any (t : Int) (w : World) : Calls Try.prog 43 #[.int .i64 t] w fun e w' => e = .returned (.bool (tmB t)) ∧ w' = w := by
  unfold tmB
  by_cases h1 : 0 ≤ t
  · by_cases h2 : t ≤ 253402300799999
    · have e : (decide (0 ≤ t) && decide (t ≤ 253402300799999)) = true := by simp [h1, h2]
      rw [e]
      go_enter Try.func43, Try.ntmps43
      go_wp2
      go_ret
      exact ⟨rfl, rfl⟩
    · have e : (decide (0 ≤ t) && decide (t ≤ 253402300799999)) = false := by simp [h2]
      rw [e]
      go_enter Try.func43, Try.ntmps43
      go_wp2
      go_ret
      exact ⟨rfl, rfl⟩
  · have e : (decide (0 ≤ t) && decide (t ≤ 253402300799999)) = false := by simp [h1]
    rw [e]
    go_enter Try.func43, Try.ntmps43
    go_wp2
    go_ret
    exact ⟨rfl, rfl⟩
set_option maxRecDepth 100000 in
theorem copied_any {w : World} {v : Value} {l : List Nat} (h : By w v l) (hl : l.length ≤ 140737488351232) : Calls Try.prog 49 #[v] w fun e w' => ∃ v', e = .returned v' ∧ Hid (RowB w w' v' l) := by
  have hr0 : RowB w w (.slice none 0 0) [] := ⟨RowAt.none0 _ _ _, fun x hx => (by cases hx), Below.refl _ _, fun g hg => by cases hg⟩
  obtain ⟨v', w', hr, hrow⟩ := hr0.app h (by simpa using hl) 35
  rw [List.nil_append] at hrow
  have HF : Hid (RowB w w' v' l) := hrow
  clear hrow hr0 h
  go_enter Try.func49, Try.ntmps49
  go_upto_region 2 with fail
  rename_i K hK
  refine wp_region_lit ?_
  refine wpList_runTo rfl (some 4) rfl (.slice none 0 0) w (by kernel_rfl) ?_
  simp only [Act.put, List.setIfInBounds_toArray, List.set_cons_zero, List.set_cons_succ]
  refine wpList_runTo rfl (some 5) rfl (v) w (by kernel_rfl) ?_
  simp only [Act.put, List.setIfInBounds_toArray, List.set_cons_zero, List.set_cons_succ]
  refine wpList_runTo rfl (some 6) rfl (v') w' (by exact exec_append (v1 := .slice none 0 0) (v2 := v) (.tmp 4) (.tmp 5) rfl (by kernel_rfl) (by kernel_rfl) hr) ?_
  simp only [Act.put, List.setIfInBounds_toArray, List.set_cons_zero, List.set_cons_succ]
  refine wpList_runTo rfl (some 2) rfl (v') w' (by kernel_rfl) ?_
  simp only [Act.put, List.setIfInBounds_toArray, List.set_cons_zero, List.set_cons_succ]
  refine wpList_nil ?_
  refine hK _ _ ?_
  clear hK
  go_wp2
  go_ret
  exact ⟨v', rfl, HF⟩
end Go.Proofs.Ytdncemecnbglaaa
