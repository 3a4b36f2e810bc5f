/-
  StoreHalves: the walk.
-/
import Derived.Test.YtekkckfoikpljaaSAcc
namespace Go.Proofs.Ytekkckfoikpljaa
set_option linter.unusedVariables false
set_option linter.unusedSimpArgs false
open Go.RowKit Go.Great

theorem flat_one (l : List (Pt Msg)) : ∀ u ∈ flatL ptL l, u.oneCell' = true := by
  induction l with
  | nil => intro u hu; cases hu
  | cons a t ih =>
    intro u hu
    rcases List.mem_append.1 hu with h | h
    · exact ptL_one a u h
    · exact ih u h
/-- The first thing is left away, as a slice has it. -/
theorem RowAt.tail {w : World} {e : TypeId} {size n g off cap : Nat} {xs : List Value} (h : RowAt w e size (.slice (some ⟨g, off, none⟩) (n + 1) cap) (n + 1) xs) :
    ∃ o', (if cap = 1 then some (⟨g, off, none⟩ : Addr) else some ⟨g, off + size, none⟩) = some ⟨g, o', none⟩ ∧ RowAt w e size (.slice (some ⟨g, o', none⟩) n (cap - 1)) n (xs.drop size) := by
  have hd := h.drop rfl (i := 1) (by omega)
  rw [Nat.one_mul, show n + 1 - 1 = n by omega] at hd
  by_cases hc : cap = 1
  · refine ⟨off, by rw [if_pos hc], ?_⟩
    rcases h.2 with ⟨h0, _⟩ | ⟨g', off', cap', cur, e1, e2, e3, e4, e5, e6⟩
    · cases h0
    · injection e1 with e1 _ e7
      injection e1 with e1
      injection e1 with e1 e8 _
      subst e1 e7 e8
      subst hc
      have hn : n = 0 := by omega
      subst hn
      refine ⟨hd.1, .inr ⟨g, off, 0, cur, rfl, e2, Nat.le_refl _, by decide, by omega, ?_⟩⟩
      have : xs.drop size = [] := List.eq_nil_of_length_eq_zero (by simpa using hd.1)
      rw [this]; simp
  · exact ⟨off + size, by rw [if_neg hc], hd⟩
theorem prt_one (keep : Nat) (ev : List (Option Msg)) (X : Nat) : ∃ p, prt keep ev X X = [p] ∧ p.fr = X ∧ p.to = X := by
  refine ⟨⟨X, X, cd keep ev X == 2, mm keep ev X⟩, ?_, rfl, rfl⟩
  unfold prt
  rw [show X + 1 - X = 0 + 1 by omega]
  unfold gr gr
  rw [if_neg (by omega)]; rfl
theorem prt_halves (keep : Nat) (ev : List (Option Msg)) {X Y Z : Nat} (h1 : X ≤ Y) (h2 : Y < Z) : ∃ ini p q rest, prt keep ev X Y = ini ++ [p] ∧ prt keep ev (Y + 1) Z = q :: rest ∧
    prt keep ev X Z = (if p.m = none ∧ q.m = none ∧ p.lost = q.lost then ini ++ [{ p with «to» := q.to }] ++ rest else (ini ++ [p]) ++ (q :: rest)) := by
  obtain ⟨ini, p, q, rest, a1, a2, a3⟩ := gr_halves (c := cd keep ev) (g := mm keep ev) (fun n => cd_mm keep ev n) (cd_three keep ev) X (Y - X) (Z - Y - 1)
  refine ⟨ini, p, q, rest, ?_, ?_, ?_⟩
  · unfold prt; rw [show Y + 1 - X = Y - X + 1 by omega]; exact a1
  · unfold prt; rw [show Z + 1 - (Y + 1) = Z - Y - 1 + 1 by omega, show Y + 1 = X + (Y - X + 1) by omega]; exact a2
  · unfold prt; rw [show Z + 1 - X = Y - X + 1 + (Z - Y - 1 + 1) by omega]; exact a3
set_option maxRecDepth 100000 in
set_option maxHeartbeats 8000000 in
theorem StoreHalves_law (kz : Int) (hk0 : -9223372036854775808 ≤ kz) (hk1 : kz ≤ 9223372036854775807) (a : Option Addr) (len cap : Nat) (d : Nat → Int) (hl : len ≤ maxLen) (za zb zc : Int) (ha0 : -9223372036854775808 ≤ za) (ha1 : za ≤ 9223372036854775807) (hb0 : -9223372036854775808 ≤ zb) (hb1 : zb ≤ 9223372036854775807) (hc0 : -9223372036854775808 ≤ zc) (hc1 : zc ≤ 9223372036854775807) (w : World) (hs : SrcI w a len d) :
    Calls Try.prog 3 #[.int .i64 kz, .slice a len cap, .int .i64 za, .int .i64 zb, .int .i64 zc] w fun e w' => e = .returned (.bool true) ∧ Below w.heap.size w w' := by
  have hsh := shown_any w
  have HS : Hid (SrcI w a len d ∧ len ≤ maxLen) := ⟨hs, hl⟩
  clear hs hl
  go_enter Try.func3, Try.ntmps3
  go_wp2_with (go_at_call 7; fail)
  refine hsh.mono ?_
  rintro e w1 ⟨rfl, hb1'⟩
  have H1 : Hid (Below w.heap.size w w1) := hb1'
  clear hsh hb1'
  have hfl := filled_any kz a len cap d w1 (HS.out.1.below H1.out) HS.out.2 hk0 hk1
  have hK := pickN_lt kz (n := 200) (by omega)
  generalize hKe : 1 + pickN kz 200 = K at *
  have hK2 : K ≤ 200 := by omega
  clear hKe hK
  have hN := Nat.min_le_right len 1500
  generalize min len 1500 = N at *
  go_wp2_with (go_at_call 8; fail)
  refine hfl.mono ?_
  rintro e w2 ⟨p, va, vk, vl, rfl, hfi⟩
  have HST : Hid (StAt w2 p K (evF d N) vk vl ∧ Below w.heap.size w w2) := ⟨hfi.st, H1.out.trans (hfi.below.mono H1.out.size)⟩
  obtain ⟨ava, cva, rfl, -⟩ := hfi.all.form
  have HEL : Hid ((evF d N).length = N) := evF_len d N
  clear hfl hfi H1 HS
  generalize (putL (evF d N)).length = pu at *
  generalize evF d N = ev at *
  by_cases hN2 : N < 2
  · have hN3 : (N : Int) < 2 := by omega
    go_wp2
    go_ret
    exact ⟨rfl, HST.out.2⟩
  have hN3 : ¬ (N : Int) < 2 := by omega
  have hpa := fun w' => pick_any za N N rfl w' (by omega) (by omega) ha0 ha1
  have hpal := pickN_lt za (n := N) (by omega)
  generalize pickN za N = PA at *
  obtain ⟨X, hX⟩ : ∃ X, 1 + PA = X := ⟨_, rfl⟩
  have hXi : 1 + (PA : Int) = (X : Int) := by omega
  have hX1 : 1 ≤ X := by omega
  have hXN : X ≤ N := by omega
  obtain ⟨D, hD⟩ : ∃ D, N - X + 1 = D := ⟨_, rfl⟩
  have hDi : (N : Int) - (X : Int) + 1 = (D : Int) := by omega
  have hpc := fun w' => pick_any zc D D rfl w' (by omega) (by omega) hc0 hc1
  have hpcl := pickN_lt zc (n := D) (by omega)
  generalize pickN zc D = PC at *
  obtain ⟨Z, hZ⟩ : ∃ Z, X + PC = Z := ⟨_, rfl⟩
  have hZi : (X : Int) + (PC : Int) = (Z : Int) := by omega
  have hXZ : X ≤ Z := by omega
  have hZN : Z ≤ N := by omega
  have HQ : Hid (1 + PA = X ∧ N - X + 1 = D ∧ X + PC = Z) := ⟨hX, hD, hZ⟩
  clear hX hD hZ
  by_cases hxz : X = Z
  · subst hxz
    have hpar := Parts_yes X X (X : Int) HST.out.1 (by rw [HEL.out]; omega) hX1 (Nat.le_refl _) (by rw [HEL.out]; omega) (.inl rfl) (by omega)
    obtain ⟨pp, hpp, hpf, hpt⟩ := prt_one K ev X
    rw [hpp] at hpar
    go_wp2_with (first
      | (go_at_call 9; refine (hpa _).mono ?_; rintro e w8 ⟨rfl, ew⟩; replace ew := ew.symm; subst ew; clear hpa)
      | (go_at_call 9; refine (hpc _).mono ?_; rintro e w8 ⟨rfl, ew⟩; replace ew := ew.symm; subst ew; clear hpc)
      | (go_at_call 10; fail))
    refine hpar.mono ?_
    rintro e w3 ⟨v3, rfl, hr3, hb3, -⟩
    obtain ⟨g, off, c3, cur, rfl, -⟩ := hr3.more (by simp)
    have q1 := row_fr hr3 (i := 0) (p := pp) rfl
    have q2 := row_to hr3 (i := 0) (p := pp) rfl
    rw [hpf, Nat.zero_mul, Nat.add_zero] at q1
    rw [hpt, Nat.zero_mul, Nat.add_zero] at q2
    have HB3 : Hid (Below w.heap.size w w3) := HST.out.2.trans (hb3.mono HST.out.2.size)
    clear hr3 hb3 hpar hpp
    go_wp2
    go_ret
    exact ⟨rfl, HB3.out⟩
  obtain ⟨DB, hDB⟩ : ∃ DB, Z - X = DB := ⟨_, rfl⟩
  have hDBi : (Z : Int) - (X : Int) = (DB : Int) := by omega
  have hpb := fun w' => pick_any zb DB DB rfl w' (by omega) (by omega) hb0 hb1
  have hpbl := pickN_lt zb (n := DB) (by omega)
  generalize pickN zb DB = PB at *
  obtain ⟨Y, hY⟩ : ∃ Y, X + PB = Y := ⟨_, rfl⟩
  have hYi : (X : Int) + (PB : Int) = (Y : Int) := by omega
  have hXY : X ≤ Y := by omega
  have hYZ : Y < Z := by omega
  have HQ2 : Hid (Z - X = DB ∧ X + PB = Y) := ⟨hDB, hY⟩
  clear hDB hY
  have hxz' : ¬ (X : Int) = (Z : Int) := by omega
  have hp0 := Parts_yes X Z (Z : Int) HST.out.1 (by rw [HEL.out]; omega) hX1 hXZ (by rw [HEL.out]; omega) (.inl rfl) (by omega)
  go_wp2_with (first
    | (go_at_call 9; refine (hpa _).mono ?_; rintro e w8 ⟨rfl, ew⟩; replace ew := ew.symm; subst ew; clear hpa)
    | (go_at_call 9; refine (hpc _).mono ?_; rintro e w8 ⟨rfl, ew⟩; replace ew := ew.symm; subst ew; clear hpc)
    | (go_at_call 9; refine (hpb _).mono ?_; rintro e w8 ⟨rfl, ew⟩; replace ew := ew.symm; subst ew; clear hpb)
    | (go_at_call 10; fail))
  refine hp0.mono ?_
  rintro e w3 ⟨v3, rfl, hr3, hb3, hg3⟩
  obtain ⟨ini, pp, qq, rest, hO, hT, hWH⟩ := prt_halves K ev hXY hYZ
  have hlw : 0 < (prt K ev X Z).length := by rw [hWH]; split <;> simp <;> omega
  obtain ⟨g0, o0, c0, cur0, rfl, -⟩ := hr3.more hlw
  have HW3 : Hid (RowAt w3 36 45 (.slice (some ⟨g0, o0, none⟩) (prt K ev X Z).length c0) (prt K ev X Z).length (flatL ptL (prt K ev X Z)) ∧ StAt w3 p K ev vk vl ∧ Below w.heap.size w w3) := ⟨hr3, HST.out.1.fr (Fr.of_below hb3 (fun _ => False)) (fun _ _ h => h), HST.out.2.trans (hb3.mono HST.out.2.size)⟩
  have HPL : Hid ((prt K ev X Z).length ≤ N) := by
    have := gr_len (c := cd K ev) (g := mm K ev) X (Z + 1 - X)
    show (gr _ _ _ _).length ≤ N
    omega
  clear hp0 hr3 hb3 hg3 HST
  obtain ⟨LW, hLW⟩ : ∃ LW, (prt K ev X Z).length = LW := ⟨_, rfl⟩
  rw [hLW] at HW3 HPL
  have HLW : Hid ((prt K ev X Z).length = LW ∧ 0 < LW) := ⟨hLW, by omega⟩
  try rw [hLW]
  clear hLW hlw
  have hp1 := Parts_yes X Y (Y : Int) HW3.out.2.1 (by rw [HEL.out]; omega) hX1 hXY (by rw [HEL.out]; omega) (.inl rfl) (by omega)
  rw [hO] at hp1
  go_wp2_with (first | (go_at_call 10; fail))
  refine hp1.mono ?_
  rintro e w4 ⟨v4, rfl, hr4, hb4, hg4⟩
  obtain ⟨li, hli⟩ : ∃ li, ini.length = li := ⟨_, rfl⟩
  have hli1 : (ini ++ [pp]).length = li + 1 := by simp [hli]
  rw [hli1] at hr4
  obtain ⟨g1, o1, c1, cur1, rfl, hg1, -⟩ := hr4.more (by omega)
  have hg0lt := (HW3.out.1.lt (g := g0) rfl).1
  have HW4 : Hid (RowAt w4 36 45 (.slice (some ⟨g0, o0, none⟩) LW c0) LW (flatL ptL (prt K ev X Z)) ∧ StAt w4 p K ev vk vl ∧ Below w.heap.size w w4 ∧ RowAt w4 36 45 (.slice (some ⟨g1, o1, none⟩) (li + 1) c1) (li + 1) (flatL ptL (ini ++ [pp])) ∧ w3.heap.size ≤ g1 ∧ g0 < w3.heap.size ∧ w.heap.size ≤ w3.heap.size) :=
    ⟨HW3.out.1.keep (fun g hg => hb4.block g (HW3.out.1.lt hg).1), HW3.out.2.1.fr (Fr.of_below hb4 (fun _ => False)) (fun _ _ h => h), HW3.out.2.2.trans (hb4.mono HW3.out.2.2.size), hr4, hg4 g1 rfl, hg0lt, HW3.out.2.2.size⟩
  have hli2 : li + 1 ≤ N + 1 := by
    have := gr_len (c := cd K ev) (g := mm K ev) X (Y + 1 - X)
    have e : (prt K ev X Y).length = li + 1 := by rw [hO, hli1]
    unfold prt at e
    omega
  clear hp1 hr4 hb4 hg4 HW3 hg1 hg0lt
  have hp2 := Parts_yes (Y + 1) Z (Z : Int) HW4.out.2.1 (by rw [HEL.out]; omega) (by omega) (by omega) (by rw [HEL.out]; omega) (.inl rfl) (by omega)
  rw [hT, show ((Y + 1 : Nat) : Int) = (Y : Int) + 1 by omega] at hp2
  go_wp2_with (first | (go_at_call 10; fail))
  refine hp2.mono ?_
  rintro e w5 ⟨v5, rfl, hr5, hb5, hg5⟩
  obtain ⟨lr, hlr⟩ : ∃ lr, rest.length = lr := ⟨_, rfl⟩
  rw [List.length_cons, hlr] at hr5
  obtain ⟨g2, o2, c2, cur2, rfl, hg2, hc2, -⟩ := hr5.more (by omega)
  have HWH : Hid (RowAt w5 36 45 (.slice (some ⟨g0, o0, none⟩) LW c0) LW (flatL ptL (prt K ev X Z))) := HW4.out.1.keep (fun g hg => hb5.block g (HW4.out.1.lt hg).1)
  have HO5 : Hid (RowAt w5 36 45 (.slice (some ⟨g1, o1, none⟩) (li + 1) c1) (li + 1) (flatL ptL (ini ++ [pp]))) := HW4.out.2.2.2.1.keep (fun g hg => hb5.block g (HW4.out.2.2.2.1.lt hg).1)
  have HT5 : Hid (RowAt w5 36 45 (.slice (some ⟨g2, o2, none⟩) (lr + 1) c2) (lr + 1) (flatL ptL (qq :: rest))) := hr5
  have HB5 : Hid (Below w.heap.size w w5) := HW4.out.2.2.1.trans (hb5.mono HW4.out.2.2.1.size)
  have HNE : Hid (g0 ≠ g1 ∧ g0 ≠ g2 ∧ g1 ≠ g2 ∧ w.heap.size ≤ g1) := by
    have h1 := (HW4.out.2.2.2.1.lt (g := g1) rfl).1
    have h2 := hg5 g2 rfl
    have h3 := HW4.out.2.2.2.2
    have h4 := HB5.out.size
    have h5 := HW4.out.2.2.1.size
    exact ⟨by omega, by omega, by omega, by omega⟩
  have hlr2 : lr + 1 ≤ N + 1 := by
    have := gr_len (c := cd K ev) (g := mm K ev) (Y + 1) (Z + 1 - (Y + 1))
    have e : (prt K ev (Y + 1) Z).length = lr + 1 := by rw [hT]; simp [hlr]
    unfold prt at e
    omega
  have hpi : (ini ++ [pp])[li]? = some pp := by rw [← hli]; exact get_snoc_last _ _
  have HRP : Hid (w5.rangeAt g1 (o1 + li * 45 + 3) (ptM pp).cs.toList) := row_ptM HO5.out hpi
  have HLP : Hid (w5.cell? ⟨g1, o1 + li * 45 + 2, none⟩ = some (.bool pp.lost)) := row_lost HO5.out hpi
  have HRQ : Hid (w5.rangeAt g2 (o2 + 3) (ptM qq).cs.toList) := by have := row_ptM HT5.out (i := 0) (p := qq) rfl; rw [Nat.zero_mul, Nat.add_zero] at this; exact this
  have HLQ : Hid (w5.cell? ⟨g2, o2 + 2, none⟩ = some (.bool qq.lost)) := by have := row_lost HT5.out (i := 0) (p := qq) rfl; rw [Nat.zero_mul, Nat.add_zero] at this; exact this
  have HCP := prt_m (keep := K) (a := X) (b := Y) HW4.out.2.1.evm (by omega) (by rw [HEL.out]; omega) (i := li) (p := pp) (by rw [hO]; exact hpi)
  have HCQ := prt_m (keep := K) (a := Y + 1) (b := Z) HW4.out.2.1.evm (by omega) (by rw [HEL.out]; omega) (i := 0) (p := qq) (by rw [hT]; rfl)
  have HCC : Hid (((ptM pp).cs = zeroM.cs ↔ pp.m = none) ∧ ((ptM qq).cs = zeroM.cs ↔ qq.m = none)) := ⟨HCP, HCQ⟩
  have HL : Hid (prt K ev X Z = (if pp.m = none ∧ qq.m = none ∧ pp.lost = qq.lost then ini ++ [{ pp with «to» := qq.to }] ++ rest else (ini ++ [pp]) ++ (qq :: rest)) ∧ ini.length = li ∧ rest.length = lr) := ⟨hWH, hli, hlr⟩
  have cto : w5.cell? ⟨g2, o2 + 1, none⟩ = some (.int .i64 (qq.to : Int)) := by have := row_to HT5.out (i := 0) (p := qq) rfl; rw [Nat.zero_mul, Nat.add_zero] at this; exact this
  have cpt : w5.cell? ⟨g1, o1 + li * 45 + 1, none⟩ = some (.int .i64 (pp.to : Int)) := row_to HO5.out hpi
  have fpt : ∀ j, w5.frozen? ⟨g1, j, none⟩ = false := fun j => HO5.out.frozen rfl j
  clear HCP HCQ hp2 hr5 hb5 hg5 HW4 hO hT hWH hli hlr hli1 hpi hg2
  obtain ⟨i1, hi1, hx0, hx1, hx2⟩ := infoP'
  have hlis : (li : Int) + 1 - 1 = (li : Int) := by omega
  have hliw : IntKind.i64.wrap (li : Int) = (li : Int) := by rw [IntKind.wrap_i64]; omega
  have hc2' : (lr : Int) + 1 ≤ (c2 : Int) := by omega
  have hl0 : ¬ (li : Int) + 1 = 0 := by omega
  have hlle : ¬ (li : Int) + 1 ≤ (li : Int) := by omega
  have hllt : (li : Int) < (li : Int) + 1 := by omega
  have hr1 : ¬ (lr : Int) + 1 ≤ 0 := by omega
  have hr2 : (0 : Int) < (lr : Int) + 1 := by omega
  have hr0 : ¬ (lr : Int) + 1 = 0 := by omega
  have hl0b : ((li : Int) + 1 == 0) = false := by simpa using hl0
  have hr0b : ((lr : Int) + 1 == 0) = false := by simpa using hr0
  have HN : Hid (N ≤ 1500 ∧ li + 1 ≤ N + 1 ∧ lr + 1 ≤ N + 1) := ⟨hN, hli2, hlr2⟩
  by_cases h1 : pp.m = none
  · by_cases h2 : qq.m = none
    · by_cases h3 : pp.lost = qq.lost
      · go_upto_region 20 with fail
        refine wp_region_quiet_lit (by kernel_rfl) (by kernel_rfl) ?_
        iterate 4 (go_big_quiet_step (fail))
        refine quiet_runTo (by kernel_rfl) (some 150) rfl (.agg (ptM pp).cs) (fun w' hw => by obtain ⟨q, rfl⟩ := hw; exact loadMid_run (w := w5.drewN q) HRP.out (.tmp 149) rfl (by kernel_rfl)) ?_
        simp only [Act.put, List.setIfInBounds_toArray, List.set_cons_zero, List.set_cons_succ]
        refine quiet_runTo (by kernel_rfl) (some 151) rfl (.agg zeroM.cs) (fun w' hw => by kernel_rfl) ?_
        simp only [Act.put, List.setIfInBounds_toArray, List.set_cons_zero, List.set_cons_succ]
        refine quiet_runTo (by kernel_rfl) (some 152) rfl (.bool true) (fun w' hw => by exact eqM_any (ptM pp) zeroM (.tmp 150) (.tmp 151) rfl (by kernel_rfl) (by kernel_rfl) true (by simpa using HCC.out.1.2 h1) w') ?_
        simp only [Act.put, List.setIfInBounds_toArray, List.set_cons_zero, List.set_cons_succ]
        iterate 1 (go_big_quiet_step (fail))
        iterate 3 (go_big_quiet_step (fail))
        refine quiet_runTo (by kernel_rfl) (some 157) rfl (.agg (ptM qq).cs) (fun w' hw => by obtain ⟨q, rfl⟩ := hw; exact loadMid_run (w := w5.drewN q) HRQ.out (.tmp 156) rfl (by kernel_rfl)) ?_
        simp only [Act.put, List.setIfInBounds_toArray, List.set_cons_zero, List.set_cons_succ]
        refine quiet_runTo (by kernel_rfl) (some 158) rfl (.agg zeroM.cs) (fun w' hw => by kernel_rfl) ?_
        simp only [Act.put, List.setIfInBounds_toArray, List.set_cons_zero, List.set_cons_succ]
        refine quiet_runTo (by kernel_rfl) (some 159) rfl (.bool true) (fun w' hw => by exact eqM_any (ptM qq) zeroM (.tmp 157) (.tmp 158) rfl (by kernel_rfl) (by kernel_rfl) true (by simpa using HCC.out.2.2 h2) w') ?_
        simp only [Act.put, List.setIfInBounds_toArray, List.set_cons_zero, List.set_cons_succ]
        iterate 2 (go_big_quiet_step (fail))
        iterate 4 (go_big_quiet_step (fail))
        refine quiet_runTo (by kernel_rfl) (some 166) rfl (.bool pp.lost) (fun w' hw => by obtain ⟨q, rfl⟩ := hw; exact ldB_run (w := w5.drewN q) HLP.out (.tmp 165) rfl (by kernel_rfl)) ?_
        simp only [Act.put, List.setIfInBounds_toArray, List.set_cons_zero, List.set_cons_succ]
        iterate 3 (go_big_quiet_step (fail))
        refine quiet_runTo (by kernel_rfl) (some 170) rfl (.bool qq.lost) (fun w' hw => by obtain ⟨q, rfl⟩ := hw; exact ldB_run (w := w5.drewN q) HLQ.out (.tmp 169) rfl (by kernel_rfl)) ?_
        simp only [Act.put, List.setIfInBounds_toArray, List.set_cons_zero, List.set_cons_succ]
        refine quiet_runTo (by kernel_rfl) (some 171) rfl (.bool true) (fun w' hw => by exact eqB_run (.tmp 166) (.tmp 170) rfl (by kernel_rfl) (by kernel_rfl) true (by simpa using h3) w') ?_
        simp only [Act.put, List.setIfInBounds_toArray, List.set_cons_zero, List.set_cons_succ]
        iterate 1 (go_big_quiet_step (fail))
        refine wpQuiet_nil ?_
        intro _ hw'
        obtain ⟨nq, hw''⟩ := hw'
        subst hw''
        have HO6 : Hid (RowAt (w5.drewN nq) 36 45 (.slice (some ⟨g1, o1, none⟩) (li + 1) c1) (li + 1) (flatL ptL (ini ++ [pp]))) := HO5.out.keep fun _ _ => rfl
        have HT6 : Hid (RowAt (w5.drewN nq) 36 45 (.slice (some ⟨g2, o2, none⟩) (lr + 1) c2) (lr + 1) (flatL ptL (qq :: rest))) := HT5.out.keep fun _ _ => rfl
        have HW6 : Hid (RowAt (w5.drewN nq) 36 45 (.slice (some ⟨g0, o0, none⟩) LW c0) LW (flatL ptL (prt K ev X Z))) := HWH.out.keep fun _ _ => rfl
        have HB6 : Hid (Below w.heap.size w (w5.drewN nq)) := below_drewN HB5.out _
        have ct6 : (w5.drewN nq).cell? ⟨g2, o2 + 1, none⟩ = some (.int .i64 (qq.to : Int)) := cto
        have cp6 : (w5.drewN nq).cell? ⟨g1, o1 + li * 45 + 1, none⟩ = some (.int .i64 (pp.to : Int)) := cpt
        have fp6 : (w5.drewN nq).frozen? ⟨g1, o1 + li * 45 + 1, none⟩ = false := fpt _
        clear cto cpt fpt HO5 HT5 HWH HB5 HRP HLP HRQ HLQ
        generalize w5.drewN nq = w6 at *
        generalize (ptM pp).cs = cpp at *
        generalize (ptM qq).cs = cqq at *
        generalize zeroM.cs = cz at *
        have HO7 : Hid (RowAt (w6.setCell ⟨g1, o1 + li * 45 + 1, none⟩ (.int .i64 (qq.to : Int))) 36 45 (.slice (some ⟨g1, o1, none⟩) (li + 1) c1) (li + 1) (flatL ptL (ini ++ [{ pp with «to» := qq.to }]))) := by
          have hlen : (flatL ptL (ini ++ [pp])).length = (li + 1) * 45 := HO6.out.1
          have h7 := HO6.out.set (j := li * 45 + 1) (by omega) (.int .i64 (qq.to : Int))
          have e8 : (flatL ptL (ini ++ [pp])).set (li * 45 + 1) (.int .i64 (qq.to : Int)) = flatL ptL (ini ++ [{ pp with «to» := qq.to }]) := by
            rw [flatL_app, flatL_app, flatL_one, flatL_one, List.set_append_right _ _ (by rw [flatL_len ptL_len, HL.out.2.1]; omega), flatL_len ptL_len, HL.out.2.1, show li * 45 + 1 - li * 45 = 1 by omega]; rfl
          rw [Nat.add_assoc, ← e8]; exact h7
        have HS7 : Hid (Fr w6 (w6.setCell ⟨g1, o1 + li * 45 + 1, none⟩ (.int .i64 (qq.to : Int))) (fun b => b = g1)) := Fr.setCell _ _ _ _ rfl
        have HT7 : Hid (RowAt (w6.setCell ⟨g1, o1 + li * 45 + 1, none⟩ (.int .i64 (qq.to : Int))) 36 45 (.slice (some ⟨g2, o2, none⟩) (lr + 1) c2) (lr + 1) (flatL ptL (qq :: rest))) := HT6.out.fr HS7.out fun b hb e => HNE.out.2.2.1 (by
          have e1 : g2 = b := by simpa [Value.ownBlock] using hb
          rw [e1, e])
        have HW7 : Hid (RowAt (w6.setCell ⟨g1, o1 + li * 45 + 1, none⟩ (.int .i64 (qq.to : Int))) 36 45 (.slice (some ⟨g0, o0, none⟩) LW c0) LW (flatL ptL (prt K ev X Z))) := HW6.out.fr HS7.out fun b hb e => HNE.out.1 (by
          have e1 : g0 = b := by simpa [Value.ownBlock] using hb
          rw [e1, e])
        have HB7 : Hid (Below w.heap.size w (w6.setCell ⟨g1, o1 + li * 45 + 1, none⟩ (.int .i64 (qq.to : Int)))) := HB6.out.trans (HS7.out.below HB6.out.size fun b hb e => by have := HNE.out.2.2.2; omega)
        obtain ⟨o3, hif, htl⟩ := HT7.out.tail
        have HT8 : Hid (RowAt (w6.setCell ⟨g1, o1 + li * 45 + 1, none⟩ (.int .i64 (qq.to : Int))) 36 45 (.slice (some ⟨g2, o3, none⟩) lr (c2 - 1)) lr (flatL ptL rest)) := by
          have e9 : (flatL ptL (qq :: rest)).drop 45 = flatL ptL rest := by have := flatL_drop ptL_len 1 (qq :: rest); rw [Nat.one_mul] at this; exact this
          rw [e9] at htl
          exact htl
        clear htl HT7 HS7 HO6 HT6 HW6 HB6
        go_upto_region 23 with fail
        clear hif ct6 cp6 fp6
        generalize w6.setCell ⟨g1, o1 + li * 45 + 1, none⟩ (.int .i64 (qq.to : Int)) = w7 at *
        rename_i Kc hKc
        refine wp_region_lit ?_
        refine wpList_runTo rfl (some 183) rfl (.slice (some ⟨g1, o1, none⟩) (li + 1) c1) w7 (by kernel_rfl) ?_
        simp only [Act.put, List.setIfInBounds_toArray, List.set_cons_zero, List.set_cons_succ]
        refine wpList_runTo rfl (some 184) rfl (.slice (some ⟨g2, o3, none⟩) lr (c2 - 1)) w7 (by kernel_rfl) ?_
        simp only [Act.put, List.setIfInBounds_toArray, List.set_cons_zero, List.set_cons_succ]
        refine wpList_append_row _ rfl _ _ 29 rfl 36 i1 _ 45 424 Try.underlying29 hi1 hx0 hx1 hx2 (by rw [Value.cells]; simp [ptL_len]) (.slice (some ⟨g1, o1, none⟩) (li + 1) c1) (li + 1) (flatL ptL (ini ++ [{ pp with «to» := qq.to }])) rfl HO7.out ⟨g2, o3, none⟩ lr (c2 - 1) (flatL ptL (rest)) (by kernel_rfl) (by rw [flatL_len ptL_len, HL.out.2.2]) (fun j u hu => by rw [Addr.add_mid]; exact HT8.out.cell rfl hu) (flat_one _) (.inr (by omega)) (by unfold maxLen; have := HN.out; omega) (by have := HN.out; omega) ?_
        intro v8 w8 hrow8 hfr8 hnew8
        simp only [Act.put, List.setIfInBounds_toArray, List.set_cons_zero, List.set_cons_succ]
        have hEQ : (ini ++ [{ pp with «to» := qq.to }]) ++ (rest) = prt K ev X Z := (HL.out.1.trans (by rw [if_pos ⟨h1, h2, h3⟩])).symm
        have hLQ : li + 1 + lr = LW := by
          have := congrArg List.length hEQ
          rw [HLW.out.1] at this
          simp [HL.out.2.1, HL.out.2.2] at this
          omega
        rw [← flatL_app, hEQ, hLQ] at hrow8
        obtain ⟨g8, o8, c8, cur8, rfl, -⟩ := hrow8.more HLW.out.2
        refine wpList_runTo rfl (some 24) rfl (.slice (some ⟨g8, o8, none⟩) LW c8) w8 (by kernel_rfl) ?_
        simp only [Act.put, List.setIfInBounds_toArray, List.set_cons_zero, List.set_cons_succ]
        refine wpList_nil ?_
        refine hKc _ _ ?_
        have HW8 : Hid (RowAt w8 36 45 (.slice (some ⟨g0, o0, none⟩) LW c0) LW (flatL ptL (prt K ev X Z))) := HW7.out.fr hfr8 fun b hb e => HNE.out.1 (by
          have e1 : g0 = b := by simpa [Value.ownBlock] using hb
          have e2 : g1 = b := by simpa [Value.ownBlock] using e
          rw [e1, e2])
        have HO8 : Hid (RowAt w8 36 45 (.slice (some ⟨g8, o8, none⟩) LW c8) LW (flatL ptL (prt K ev X Z))) := hrow8
        have HB8 : Hid (Below w.heap.size w w8) := HB7.out.trans (hfr8.below HB7.out.size fun b hb e => by
          have e2 : g1 = b := by simpa [Value.ownBlock] using e
          have := HNE.out.2.2.2
          omega)
        clear hrow8 hfr8 hnew8 hKc HO7 HT8 HW7 HB7 hi1 hx0 hx1 hx2 hEQ hLQ
        go_upto_region 27 with fail
        go_loopw [29] (fun x29 wr => ∃ i : Nat, i ≤ LW ∧ x29 = .int .i64 (i : Int) ∧ ∃ q, wr = w8.drewN q) (fun x29 _ => LW - (intOf x29).toNat)
        case atStart => exact ⟨0, Nat.zero_le _, rfl, 0, rfl⟩
        case round =>
          obtain ⟨i, hi, rfl, q8, rfl⟩ := hrel
          have hLWb := HPL.out
          by_cases hlt : i < LW
          · have hlt' : (i : Int) < (LW : Int) := by omega
            have hnlt : ¬ (LW : Int) ≤ (i : Int) := by omega
            have hiw : IntKind.i64.wrap ((i : Int) + 1) = (i : Int) + 1 := by rw [IntKind.wrap_i64]; omega
            have hib : (i : Int) + 1 < 9223372036854775808 := by omega
            obtain ⟨P, hP⟩ : ∃ P, (prt K ev X Z)[i]? = some P := ⟨_, List.getElem?_eq_getElem (by have := HLW.out.1; omega)⟩
            have HR1 : Hid (w8.rangeAt g8 (o8 + i * 45) (ptL P)) := row_pt HO8.out hP
            have HR2 : Hid (w8.rangeAt g0 (o0 + i * 45) (ptL P)) := row_pt HW8.out hP
            clear hP
            go_upto_region 29 with fail
            refine wp_region_quiet_lit (by kernel_rfl) (by kernel_rfl) ?_
            iterate 3 (go_big_quiet_step (fail))
            refine quiet_runTo (by kernel_rfl) (some 200) rfl (.agg (ptL P).toArray) (fun w' hw => by obtain ⟨q, rfl⟩ := hw; exact loadPt_run (w := (w8.drewN q8).drewN q) HR1.out (.tmp 199) rfl (by kernel_rfl)) ?_
            simp only [Act.put, List.setIfInBounds_toArray, List.set_cons_zero, List.set_cons_succ]
            iterate 3 (go_big_quiet_step (fail))
            refine quiet_runTo (by kernel_rfl) (some 204) rfl (.agg (ptL P).toArray) (fun w' hw => by obtain ⟨q, rfl⟩ := hw; exact loadPt_run (w := (w8.drewN q8).drewN q) HR2.out (.tmp 203) rfl (by kernel_rfl)) ?_
            simp only [Act.put, List.setIfInBounds_toArray, List.set_cons_zero, List.set_cons_succ]
            refine quiet_runTo (by kernel_rfl) (some 205) rfl (.bool false) (fun w' hw => by exact neqP_any P P (.tmp 200) (.tmp 204) rfl (by kernel_rfl) (by kernel_rfl) false (by simp) w') ?_
            simp only [Act.put, List.setIfInBounds_toArray, List.set_cons_zero, List.set_cons_succ]
            refine wpQuiet_nil ?_
            intro _ hw'
            obtain ⟨nq2, hw''⟩ := hw'
            subst hw''
            generalize (ptL P).toArray = pa at *
            clear HR1 HR2
            go_wp2
            go_roundw
            case rel => exact ⟨i + 1, by omega, by go_num, q8 + nq2, by first | rfl | simp [World.drewN, Nat.add_assoc]⟩
            case measure => simp [intOf]; omega
          · obtain rfl : i = LW := by omega
            have hnlt : ¬ (i : Int) < (i : Int) := by omega
            go_wp2
            go_ret
            exact ⟨rfl, below_drewN HB8.out _⟩
      · go_upto_region 20 with fail
        refine wp_region_quiet_lit (by kernel_rfl) (by kernel_rfl) ?_
        iterate 4 (go_big_quiet_step (fail))
        refine quiet_runTo (by kernel_rfl) (some 150) rfl (.agg (ptM pp).cs) (fun w' hw => by obtain ⟨q, rfl⟩ := hw; exact loadMid_run (w := w5.drewN q) HRP.out (.tmp 149) rfl (by kernel_rfl)) ?_
        simp only [Act.put, List.setIfInBounds_toArray, List.set_cons_zero, List.set_cons_succ]
        refine quiet_runTo (by kernel_rfl) (some 151) rfl (.agg zeroM.cs) (fun w' hw => by kernel_rfl) ?_
        simp only [Act.put, List.setIfInBounds_toArray, List.set_cons_zero, List.set_cons_succ]
        refine quiet_runTo (by kernel_rfl) (some 152) rfl (.bool true) (fun w' hw => by exact eqM_any (ptM pp) zeroM (.tmp 150) (.tmp 151) rfl (by kernel_rfl) (by kernel_rfl) true (by simpa using HCC.out.1.2 h1) w') ?_
        simp only [Act.put, List.setIfInBounds_toArray, List.set_cons_zero, List.set_cons_succ]
        iterate 1 (go_big_quiet_step (fail))
        iterate 3 (go_big_quiet_step (fail))
        refine quiet_runTo (by kernel_rfl) (some 157) rfl (.agg (ptM qq).cs) (fun w' hw => by obtain ⟨q, rfl⟩ := hw; exact loadMid_run (w := w5.drewN q) HRQ.out (.tmp 156) rfl (by kernel_rfl)) ?_
        simp only [Act.put, List.setIfInBounds_toArray, List.set_cons_zero, List.set_cons_succ]
        refine quiet_runTo (by kernel_rfl) (some 158) rfl (.agg zeroM.cs) (fun w' hw => by kernel_rfl) ?_
        simp only [Act.put, List.setIfInBounds_toArray, List.set_cons_zero, List.set_cons_succ]
        refine quiet_runTo (by kernel_rfl) (some 159) rfl (.bool true) (fun w' hw => by exact eqM_any (ptM qq) zeroM (.tmp 157) (.tmp 158) rfl (by kernel_rfl) (by kernel_rfl) true (by simpa using HCC.out.2.2 h2) w') ?_
        simp only [Act.put, List.setIfInBounds_toArray, List.set_cons_zero, List.set_cons_succ]
        iterate 2 (go_big_quiet_step (fail))
        iterate 4 (go_big_quiet_step (fail))
        refine quiet_runTo (by kernel_rfl) (some 166) rfl (.bool pp.lost) (fun w' hw => by obtain ⟨q, rfl⟩ := hw; exact ldB_run (w := w5.drewN q) HLP.out (.tmp 165) rfl (by kernel_rfl)) ?_
        simp only [Act.put, List.setIfInBounds_toArray, List.set_cons_zero, List.set_cons_succ]
        iterate 3 (go_big_quiet_step (fail))
        refine quiet_runTo (by kernel_rfl) (some 170) rfl (.bool qq.lost) (fun w' hw => by obtain ⟨q, rfl⟩ := hw; exact ldB_run (w := w5.drewN q) HLQ.out (.tmp 169) rfl (by kernel_rfl)) ?_
        simp only [Act.put, List.setIfInBounds_toArray, List.set_cons_zero, List.set_cons_succ]
        refine quiet_runTo (by kernel_rfl) (some 171) rfl (.bool false) (fun w' hw => by exact eqB_run (.tmp 166) (.tmp 170) rfl (by kernel_rfl) (by kernel_rfl) false (by simpa using h3) w') ?_
        simp only [Act.put, List.setIfInBounds_toArray, List.set_cons_zero, List.set_cons_succ]
        iterate 1 (go_big_quiet_step (fail))
        refine wpQuiet_nil ?_
        intro _ hw'
        obtain ⟨nq, hw''⟩ := hw'
        subst hw''
        have HO6 : Hid (RowAt (w5.drewN nq) 36 45 (.slice (some ⟨g1, o1, none⟩) (li + 1) c1) (li + 1) (flatL ptL (ini ++ [pp]))) := HO5.out.keep fun _ _ => rfl
        have HT6 : Hid (RowAt (w5.drewN nq) 36 45 (.slice (some ⟨g2, o2, none⟩) (lr + 1) c2) (lr + 1) (flatL ptL (qq :: rest))) := HT5.out.keep fun _ _ => rfl
        have HW6 : Hid (RowAt (w5.drewN nq) 36 45 (.slice (some ⟨g0, o0, none⟩) LW c0) LW (flatL ptL (prt K ev X Z))) := HWH.out.keep fun _ _ => rfl
        have HB6 : Hid (Below w.heap.size w (w5.drewN nq)) := below_drewN HB5.out _
        have ct6 : (w5.drewN nq).cell? ⟨g2, o2 + 1, none⟩ = some (.int .i64 (qq.to : Int)) := cto
        have cp6 : (w5.drewN nq).cell? ⟨g1, o1 + li * 45 + 1, none⟩ = some (.int .i64 (pp.to : Int)) := cpt
        have fp6 : (w5.drewN nq).frozen? ⟨g1, o1 + li * 45 + 1, none⟩ = false := fpt _
        clear cto cpt fpt HO5 HT5 HWH HB5 HRP HLP HRQ HLQ
        generalize w5.drewN nq = w6 at *
        generalize (ptM pp).cs = cpp at *
        generalize (ptM qq).cs = cqq at *
        generalize zeroM.cs = cz at *
        clear ct6 cp6 fp6
        go_upto_region 23 with fail
        have HO7 := HO6
        have HT8 := HT6
        have HW7 := HW6
        have HB7 := HB6
        clear HO6 HT6 HW6 HB6
        generalize w6 = w7 at *
        rename_i Kc hKc
        refine wp_region_lit ?_
        refine wpList_runTo rfl (some 183) rfl (.slice (some ⟨g1, o1, none⟩) (li + 1) c1) w7 (by kernel_rfl) ?_
        simp only [Act.put, List.setIfInBounds_toArray, List.set_cons_zero, List.set_cons_succ]
        refine wpList_runTo rfl (some 184) rfl (.slice (some ⟨g2, o2, none⟩) (lr + 1) c2) w7 (by kernel_rfl) ?_
        simp only [Act.put, List.setIfInBounds_toArray, List.set_cons_zero, List.set_cons_succ]
        refine wpList_append_row _ rfl _ _ 29 rfl 36 i1 _ 45 424 Try.underlying29 hi1 hx0 hx1 hx2 (by rw [Value.cells]; simp [ptL_len]) (.slice (some ⟨g1, o1, none⟩) (li + 1) c1) (li + 1) (flatL ptL (ini ++ [pp])) rfl HO7.out ⟨g2, o2, none⟩ (lr + 1) c2 (flatL ptL (qq :: rest)) (by kernel_rfl) (by rw [flatL_len ptL_len, List.length_cons, HL.out.2.2]) (fun j u hu => by rw [Addr.add_mid]; exact HT8.out.cell rfl hu) (flat_one _) (.inr (by omega)) (by unfold maxLen; have := HN.out; omega) (by have := HN.out; omega) ?_
        intro v8 w8 hrow8 hfr8 hnew8
        simp only [Act.put, List.setIfInBounds_toArray, List.set_cons_zero, List.set_cons_succ]
        have hEQ : (ini ++ [pp]) ++ (qq :: rest) = prt K ev X Z := (HL.out.1.trans (by rw [if_neg (fun e => h3 e.2.2)])).symm
        have hLQ : li + 1 + (lr + 1) = LW := by
          have := congrArg List.length hEQ
          rw [HLW.out.1] at this
          simp [HL.out.2.1, HL.out.2.2] at this
          omega
        rw [← flatL_app, hEQ, hLQ] at hrow8
        obtain ⟨g8, o8, c8, cur8, rfl, -⟩ := hrow8.more HLW.out.2
        refine wpList_runTo rfl (some 24) rfl (.slice (some ⟨g8, o8, none⟩) LW c8) w8 (by kernel_rfl) ?_
        simp only [Act.put, List.setIfInBounds_toArray, List.set_cons_zero, List.set_cons_succ]
        refine wpList_nil ?_
        refine hKc _ _ ?_
        have HW8 : Hid (RowAt w8 36 45 (.slice (some ⟨g0, o0, none⟩) LW c0) LW (flatL ptL (prt K ev X Z))) := HW7.out.fr hfr8 fun b hb e => HNE.out.1 (by
          have e1 : g0 = b := by simpa [Value.ownBlock] using hb
          have e2 : g1 = b := by simpa [Value.ownBlock] using e
          rw [e1, e2])
        have HO8 : Hid (RowAt w8 36 45 (.slice (some ⟨g8, o8, none⟩) LW c8) LW (flatL ptL (prt K ev X Z))) := hrow8
        have HB8 : Hid (Below w.heap.size w w8) := HB7.out.trans (hfr8.below HB7.out.size fun b hb e => by
          have e2 : g1 = b := by simpa [Value.ownBlock] using e
          have := HNE.out.2.2.2
          omega)
        clear hrow8 hfr8 hnew8 hKc HO7 HT8 HW7 HB7 hi1 hx0 hx1 hx2 hEQ hLQ
        go_upto_region 27 with fail
        go_loopw [29] (fun x29 wr => ∃ i : Nat, i ≤ LW ∧ x29 = .int .i64 (i : Int) ∧ ∃ q, wr = w8.drewN q) (fun x29 _ => LW - (intOf x29).toNat)
        case atStart => exact ⟨0, Nat.zero_le _, rfl, 0, rfl⟩
        case round =>
          obtain ⟨i, hi, rfl, q8, rfl⟩ := hrel
          have hLWb := HPL.out
          by_cases hlt : i < LW
          · have hlt' : (i : Int) < (LW : Int) := by omega
            have hnlt : ¬ (LW : Int) ≤ (i : Int) := by omega
            have hiw : IntKind.i64.wrap ((i : Int) + 1) = (i : Int) + 1 := by rw [IntKind.wrap_i64]; omega
            have hib : (i : Int) + 1 < 9223372036854775808 := by omega
            obtain ⟨P, hP⟩ : ∃ P, (prt K ev X Z)[i]? = some P := ⟨_, List.getElem?_eq_getElem (by have := HLW.out.1; omega)⟩
            have HR1 : Hid (w8.rangeAt g8 (o8 + i * 45) (ptL P)) := row_pt HO8.out hP
            have HR2 : Hid (w8.rangeAt g0 (o0 + i * 45) (ptL P)) := row_pt HW8.out hP
            clear hP
            go_upto_region 29 with fail
            refine wp_region_quiet_lit (by kernel_rfl) (by kernel_rfl) ?_
            iterate 3 (go_big_quiet_step (fail))
            refine quiet_runTo (by kernel_rfl) (some 200) rfl (.agg (ptL P).toArray) (fun w' hw => by obtain ⟨q, rfl⟩ := hw; exact loadPt_run (w := (w8.drewN q8).drewN q) HR1.out (.tmp 199) rfl (by kernel_rfl)) ?_
            simp only [Act.put, List.setIfInBounds_toArray, List.set_cons_zero, List.set_cons_succ]
            iterate 3 (go_big_quiet_step (fail))
            refine quiet_runTo (by kernel_rfl) (some 204) rfl (.agg (ptL P).toArray) (fun w' hw => by obtain ⟨q, rfl⟩ := hw; exact loadPt_run (w := (w8.drewN q8).drewN q) HR2.out (.tmp 203) rfl (by kernel_rfl)) ?_
            simp only [Act.put, List.setIfInBounds_toArray, List.set_cons_zero, List.set_cons_succ]
            refine quiet_runTo (by kernel_rfl) (some 205) rfl (.bool false) (fun w' hw => by exact neqP_any P P (.tmp 200) (.tmp 204) rfl (by kernel_rfl) (by kernel_rfl) false (by simp) w') ?_
            simp only [Act.put, List.setIfInBounds_toArray, List.set_cons_zero, List.set_cons_succ]
            refine wpQuiet_nil ?_
            intro _ hw'
            obtain ⟨nq2, hw''⟩ := hw'
            subst hw''
            generalize (ptL P).toArray = pa at *
            clear HR1 HR2
            go_wp2
            go_roundw
            case rel => exact ⟨i + 1, by omega, by go_num, q8 + nq2, by first | rfl | simp [World.drewN, Nat.add_assoc]⟩
            case measure => simp [intOf]; omega
          · obtain rfl : i = LW := by omega
            have hnlt : ¬ (i : Int) < (i : Int) := by omega
            go_wp2
            go_ret
            exact ⟨rfl, below_drewN HB8.out _⟩
    · go_upto_region 20 with fail
      refine wp_region_quiet_lit (by kernel_rfl) (by kernel_rfl) ?_
      iterate 4 (go_big_quiet_step (fail))
      refine quiet_runTo (by kernel_rfl) (some 150) rfl (.agg (ptM pp).cs) (fun w' hw => by obtain ⟨q, rfl⟩ := hw; exact loadMid_run (w := w5.drewN q) HRP.out (.tmp 149) rfl (by kernel_rfl)) ?_
      simp only [Act.put, List.setIfInBounds_toArray, List.set_cons_zero, List.set_cons_succ]
      refine quiet_runTo (by kernel_rfl) (some 151) rfl (.agg zeroM.cs) (fun w' hw => by kernel_rfl) ?_
      simp only [Act.put, List.setIfInBounds_toArray, List.set_cons_zero, List.set_cons_succ]
      refine quiet_runTo (by kernel_rfl) (some 152) rfl (.bool true) (fun w' hw => by exact eqM_any (ptM pp) zeroM (.tmp 150) (.tmp 151) rfl (by kernel_rfl) (by kernel_rfl) true (by simpa using HCC.out.1.2 h1) w') ?_
      simp only [Act.put, List.setIfInBounds_toArray, List.set_cons_zero, List.set_cons_succ]
      iterate 1 (go_big_quiet_step (fail))
      iterate 3 (go_big_quiet_step (fail))
      refine quiet_runTo (by kernel_rfl) (some 157) rfl (.agg (ptM qq).cs) (fun w' hw => by obtain ⟨q, rfl⟩ := hw; exact loadMid_run (w := w5.drewN q) HRQ.out (.tmp 156) rfl (by kernel_rfl)) ?_
      simp only [Act.put, List.setIfInBounds_toArray, List.set_cons_zero, List.set_cons_succ]
      refine quiet_runTo (by kernel_rfl) (some 158) rfl (.agg zeroM.cs) (fun w' hw => by kernel_rfl) ?_
      simp only [Act.put, List.setIfInBounds_toArray, List.set_cons_zero, List.set_cons_succ]
      refine quiet_runTo (by kernel_rfl) (some 159) rfl (.bool false) (fun w' hw => by exact eqM_any (ptM qq) zeroM (.tmp 157) (.tmp 158) rfl (by kernel_rfl) (by kernel_rfl) false (by simpa using fun e => h2 (HCC.out.2.1 e)) w') ?_
      simp only [Act.put, List.setIfInBounds_toArray, List.set_cons_zero, List.set_cons_succ]
      iterate 2 (go_big_quiet_step (fail))
      iterate 11 (go_big_quiet_step (fail))
      refine wpQuiet_nil ?_
      intro _ hw'
      obtain ⟨nq, hw''⟩ := hw'
      subst hw''
      have HO6 : Hid (RowAt (w5.drewN nq) 36 45 (.slice (some ⟨g1, o1, none⟩) (li + 1) c1) (li + 1) (flatL ptL (ini ++ [pp]))) := HO5.out.keep fun _ _ => rfl
      have HT6 : Hid (RowAt (w5.drewN nq) 36 45 (.slice (some ⟨g2, o2, none⟩) (lr + 1) c2) (lr + 1) (flatL ptL (qq :: rest))) := HT5.out.keep fun _ _ => rfl
      have HW6 : Hid (RowAt (w5.drewN nq) 36 45 (.slice (some ⟨g0, o0, none⟩) LW c0) LW (flatL ptL (prt K ev X Z))) := HWH.out.keep fun _ _ => rfl
      have HB6 : Hid (Below w.heap.size w (w5.drewN nq)) := below_drewN HB5.out _
      have ct6 : (w5.drewN nq).cell? ⟨g2, o2 + 1, none⟩ = some (.int .i64 (qq.to : Int)) := cto
      have cp6 : (w5.drewN nq).cell? ⟨g1, o1 + li * 45 + 1, none⟩ = some (.int .i64 (pp.to : Int)) := cpt
      have fp6 : (w5.drewN nq).frozen? ⟨g1, o1 + li * 45 + 1, none⟩ = false := fpt _
      clear cto cpt fpt HO5 HT5 HWH HB5 HRP HLP HRQ HLQ
      generalize w5.drewN nq = w6 at *
      generalize (ptM pp).cs = cpp at *
      generalize (ptM qq).cs = cqq at *
      generalize zeroM.cs = cz at *
      clear ct6 cp6 fp6
      go_upto_region 23 with fail
      have HO7 := HO6
      have HT8 := HT6
      have HW7 := HW6
      have HB7 := HB6
      clear HO6 HT6 HW6 HB6
      generalize w6 = w7 at *
      rename_i Kc hKc
      refine wp_region_lit ?_
      refine wpList_runTo rfl (some 183) rfl (.slice (some ⟨g1, o1, none⟩) (li + 1) c1) w7 (by kernel_rfl) ?_
      simp only [Act.put, List.setIfInBounds_toArray, List.set_cons_zero, List.set_cons_succ]
      refine wpList_runTo rfl (some 184) rfl (.slice (some ⟨g2, o2, none⟩) (lr + 1) c2) w7 (by kernel_rfl) ?_
      simp only [Act.put, List.setIfInBounds_toArray, List.set_cons_zero, List.set_cons_succ]
      refine wpList_append_row _ rfl _ _ 29 rfl 36 i1 _ 45 424 Try.underlying29 hi1 hx0 hx1 hx2 (by rw [Value.cells]; simp [ptL_len]) (.slice (some ⟨g1, o1, none⟩) (li + 1) c1) (li + 1) (flatL ptL (ini ++ [pp])) rfl HO7.out ⟨g2, o2, none⟩ (lr + 1) c2 (flatL ptL (qq :: rest)) (by kernel_rfl) (by rw [flatL_len ptL_len, List.length_cons, HL.out.2.2]) (fun j u hu => by rw [Addr.add_mid]; exact HT8.out.cell rfl hu) (flat_one _) (.inr (by omega)) (by unfold maxLen; have := HN.out; omega) (by have := HN.out; omega) ?_
      intro v8 w8 hrow8 hfr8 hnew8
      simp only [Act.put, List.setIfInBounds_toArray, List.set_cons_zero, List.set_cons_succ]
      have hEQ : (ini ++ [pp]) ++ (qq :: rest) = prt K ev X Z := (HL.out.1.trans (by rw [if_neg (fun e => h2 e.2.1)])).symm
      have hLQ : li + 1 + (lr + 1) = LW := by
        have := congrArg List.length hEQ
        rw [HLW.out.1] at this
        simp [HL.out.2.1, HL.out.2.2] at this
        omega
      rw [← flatL_app, hEQ, hLQ] at hrow8
      obtain ⟨g8, o8, c8, cur8, rfl, -⟩ := hrow8.more HLW.out.2
      refine wpList_runTo rfl (some 24) rfl (.slice (some ⟨g8, o8, none⟩) LW c8) w8 (by kernel_rfl) ?_
      simp only [Act.put, List.setIfInBounds_toArray, List.set_cons_zero, List.set_cons_succ]
      refine wpList_nil ?_
      refine hKc _ _ ?_
      have HW8 : Hid (RowAt w8 36 45 (.slice (some ⟨g0, o0, none⟩) LW c0) LW (flatL ptL (prt K ev X Z))) := HW7.out.fr hfr8 fun b hb e => HNE.out.1 (by
        have e1 : g0 = b := by simpa [Value.ownBlock] using hb
        have e2 : g1 = b := by simpa [Value.ownBlock] using e
        rw [e1, e2])
      have HO8 : Hid (RowAt w8 36 45 (.slice (some ⟨g8, o8, none⟩) LW c8) LW (flatL ptL (prt K ev X Z))) := hrow8
      have HB8 : Hid (Below w.heap.size w w8) := HB7.out.trans (hfr8.below HB7.out.size fun b hb e => by
        have e2 : g1 = b := by simpa [Value.ownBlock] using e
        have := HNE.out.2.2.2
        omega)
      clear hrow8 hfr8 hnew8 hKc HO7 HT8 HW7 HB7 hi1 hx0 hx1 hx2 hEQ hLQ
      go_upto_region 27 with fail
      go_loopw [29] (fun x29 wr => ∃ i : Nat, i ≤ LW ∧ x29 = .int .i64 (i : Int) ∧ ∃ q, wr = w8.drewN q) (fun x29 _ => LW - (intOf x29).toNat)
      case atStart => exact ⟨0, Nat.zero_le _, rfl, 0, rfl⟩
      case round =>
        obtain ⟨i, hi, rfl, q8, rfl⟩ := hrel
        have hLWb := HPL.out
        by_cases hlt : i < LW
        · have hlt' : (i : Int) < (LW : Int) := by omega
          have hnlt : ¬ (LW : Int) ≤ (i : Int) := by omega
          have hiw : IntKind.i64.wrap ((i : Int) + 1) = (i : Int) + 1 := by rw [IntKind.wrap_i64]; omega
          have hib : (i : Int) + 1 < 9223372036854775808 := by omega
          obtain ⟨P, hP⟩ : ∃ P, (prt K ev X Z)[i]? = some P := ⟨_, List.getElem?_eq_getElem (by have := HLW.out.1; omega)⟩
          have HR1 : Hid (w8.rangeAt g8 (o8 + i * 45) (ptL P)) := row_pt HO8.out hP
          have HR2 : Hid (w8.rangeAt g0 (o0 + i * 45) (ptL P)) := row_pt HW8.out hP
          clear hP
          go_upto_region 29 with fail
          refine wp_region_quiet_lit (by kernel_rfl) (by kernel_rfl) ?_
          iterate 3 (go_big_quiet_step (fail))
          refine quiet_runTo (by kernel_rfl) (some 200) rfl (.agg (ptL P).toArray) (fun w' hw => by obtain ⟨q, rfl⟩ := hw; exact loadPt_run (w := (w8.drewN q8).drewN q) HR1.out (.tmp 199) rfl (by kernel_rfl)) ?_
          simp only [Act.put, List.setIfInBounds_toArray, List.set_cons_zero, List.set_cons_succ]
          iterate 3 (go_big_quiet_step (fail))
          refine quiet_runTo (by kernel_rfl) (some 204) rfl (.agg (ptL P).toArray) (fun w' hw => by obtain ⟨q, rfl⟩ := hw; exact loadPt_run (w := (w8.drewN q8).drewN q) HR2.out (.tmp 203) rfl (by kernel_rfl)) ?_
          simp only [Act.put, List.setIfInBounds_toArray, List.set_cons_zero, List.set_cons_succ]
          refine quiet_runTo (by kernel_rfl) (some 205) rfl (.bool false) (fun w' hw => by exact neqP_any P P (.tmp 200) (.tmp 204) rfl (by kernel_rfl) (by kernel_rfl) false (by simp) w') ?_
          simp only [Act.put, List.setIfInBounds_toArray, List.set_cons_zero, List.set_cons_succ]
          refine wpQuiet_nil ?_
          intro _ hw'
          obtain ⟨nq2, hw''⟩ := hw'
          subst hw''
          generalize (ptL P).toArray = pa at *
          clear HR1 HR2
          go_wp2
          go_roundw
          case rel => exact ⟨i + 1, by omega, by go_num, q8 + nq2, by first | rfl | simp [World.drewN, Nat.add_assoc]⟩
          case measure => simp [intOf]; omega
        · obtain rfl : i = LW := by omega
          have hnlt : ¬ (i : Int) < (i : Int) := by omega
          go_wp2
          go_ret
          exact ⟨rfl, below_drewN HB8.out _⟩
  · go_upto_region 20 with fail
    refine wp_region_quiet_lit (by kernel_rfl) (by kernel_rfl) ?_
    iterate 4 (go_big_quiet_step (fail))
    refine quiet_runTo (by kernel_rfl) (some 150) rfl (.agg (ptM pp).cs) (fun w' hw => by obtain ⟨q, rfl⟩ := hw; exact loadMid_run (w := w5.drewN q) HRP.out (.tmp 149) rfl (by kernel_rfl)) ?_
    simp only [Act.put, List.setIfInBounds_toArray, List.set_cons_zero, List.set_cons_succ]
    refine quiet_runTo (by kernel_rfl) (some 151) rfl (.agg zeroM.cs) (fun w' hw => by kernel_rfl) ?_
    simp only [Act.put, List.setIfInBounds_toArray, List.set_cons_zero, List.set_cons_succ]
    refine quiet_runTo (by kernel_rfl) (some 152) rfl (.bool false) (fun w' hw => by exact eqM_any (ptM pp) zeroM (.tmp 150) (.tmp 151) rfl (by kernel_rfl) (by kernel_rfl) false (by simpa using fun e => h1 (HCC.out.1.1 e)) w') ?_
    simp only [Act.put, List.setIfInBounds_toArray, List.set_cons_zero, List.set_cons_succ]
    iterate 1 (go_big_quiet_step (fail))
    iterate 8 (go_big_quiet_step (fail))
    iterate 11 (go_big_quiet_step (fail))
    refine wpQuiet_nil ?_
    intro _ hw'
    obtain ⟨nq, hw''⟩ := hw'
    subst hw''
    have HO6 : Hid (RowAt (w5.drewN nq) 36 45 (.slice (some ⟨g1, o1, none⟩) (li + 1) c1) (li + 1) (flatL ptL (ini ++ [pp]))) := HO5.out.keep fun _ _ => rfl
    have HT6 : Hid (RowAt (w5.drewN nq) 36 45 (.slice (some ⟨g2, o2, none⟩) (lr + 1) c2) (lr + 1) (flatL ptL (qq :: rest))) := HT5.out.keep fun _ _ => rfl
    have HW6 : Hid (RowAt (w5.drewN nq) 36 45 (.slice (some ⟨g0, o0, none⟩) LW c0) LW (flatL ptL (prt K ev X Z))) := HWH.out.keep fun _ _ => rfl
    have HB6 : Hid (Below w.heap.size w (w5.drewN nq)) := below_drewN HB5.out _
    have ct6 : (w5.drewN nq).cell? ⟨g2, o2 + 1, none⟩ = some (.int .i64 (qq.to : Int)) := cto
    have cp6 : (w5.drewN nq).cell? ⟨g1, o1 + li * 45 + 1, none⟩ = some (.int .i64 (pp.to : Int)) := cpt
    have fp6 : (w5.drewN nq).frozen? ⟨g1, o1 + li * 45 + 1, none⟩ = false := fpt _
    clear cto cpt fpt HO5 HT5 HWH HB5 HRP HLP HRQ HLQ
    generalize w5.drewN nq = w6 at *
    generalize (ptM pp).cs = cpp at *
    generalize zeroM.cs = cz at *
    clear ct6 cp6 fp6
    go_upto_region 23 with fail
    have HO7 := HO6
    have HT8 := HT6
    have HW7 := HW6
    have HB7 := HB6
    clear HO6 HT6 HW6 HB6
    generalize w6 = w7 at *
    rename_i Kc hKc
    refine wp_region_lit ?_
    refine wpList_runTo rfl (some 183) rfl (.slice (some ⟨g1, o1, none⟩) (li + 1) c1) w7 (by kernel_rfl) ?_
    simp only [Act.put, List.setIfInBounds_toArray, List.set_cons_zero, List.set_cons_succ]
    refine wpList_runTo rfl (some 184) rfl (.slice (some ⟨g2, o2, none⟩) (lr + 1) c2) w7 (by kernel_rfl) ?_
    simp only [Act.put, List.setIfInBounds_toArray, List.set_cons_zero, List.set_cons_succ]
    refine wpList_append_row _ rfl _ _ 29 rfl 36 i1 _ 45 424 Try.underlying29 hi1 hx0 hx1 hx2 (by rw [Value.cells]; simp [ptL_len]) (.slice (some ⟨g1, o1, none⟩) (li + 1) c1) (li + 1) (flatL ptL (ini ++ [pp])) rfl HO7.out ⟨g2, o2, none⟩ (lr + 1) c2 (flatL ptL (qq :: rest)) (by kernel_rfl) (by rw [flatL_len ptL_len, List.length_cons, HL.out.2.2]) (fun j u hu => by rw [Addr.add_mid]; exact HT8.out.cell rfl hu) (flat_one _) (.inr (by omega)) (by unfold maxLen; have := HN.out; omega) (by have := HN.out; omega) ?_
    intro v8 w8 hrow8 hfr8 hnew8
    simp only [Act.put, List.setIfInBounds_toArray, List.set_cons_zero, List.set_cons_succ]
    have hEQ : (ini ++ [pp]) ++ (qq :: rest) = prt K ev X Z := (HL.out.1.trans (by rw [if_neg (fun e => h1 e.1)])).symm
    have hLQ : li + 1 + (lr + 1) = LW := by
      have := congrArg List.length hEQ
      rw [HLW.out.1] at this
      simp [HL.out.2.1, HL.out.2.2] at this
      omega
    rw [← flatL_app, hEQ, hLQ] at hrow8
    obtain ⟨g8, o8, c8, cur8, rfl, -⟩ := hrow8.more HLW.out.2
    refine wpList_runTo rfl (some 24) rfl (.slice (some ⟨g8, o8, none⟩) LW c8) w8 (by kernel_rfl) ?_
    simp only [Act.put, List.setIfInBounds_toArray, List.set_cons_zero, List.set_cons_succ]
    refine wpList_nil ?_
    refine hKc _ _ ?_
    have HW8 : Hid (RowAt w8 36 45 (.slice (some ⟨g0, o0, none⟩) LW c0) LW (flatL ptL (prt K ev X Z))) := HW7.out.fr hfr8 fun b hb e => HNE.out.1 (by
      have e1 : g0 = b := by simpa [Value.ownBlock] using hb
      have e2 : g1 = b := by simpa [Value.ownBlock] using e
      rw [e1, e2])
    have HO8 : Hid (RowAt w8 36 45 (.slice (some ⟨g8, o8, none⟩) LW c8) LW (flatL ptL (prt K ev X Z))) := hrow8
    have HB8 : Hid (Below w.heap.size w w8) := HB7.out.trans (hfr8.below HB7.out.size fun b hb e => by
      have e2 : g1 = b := by simpa [Value.ownBlock] using e
      have := HNE.out.2.2.2
      omega)
    clear hrow8 hfr8 hnew8 hKc HO7 HT8 HW7 HB7 hi1 hx0 hx1 hx2 hEQ hLQ
    go_upto_region 27 with fail
    go_loopw [29] (fun x29 wr => ∃ i : Nat, i ≤ LW ∧ x29 = .int .i64 (i : Int) ∧ ∃ q, wr = w8.drewN q) (fun x29 _ => LW - (intOf x29).toNat)
    case atStart => exact ⟨0, Nat.zero_le _, rfl, 0, rfl⟩
    case round =>
      obtain ⟨i, hi, rfl, q8, rfl⟩ := hrel
      have hLWb := HPL.out
      by_cases hlt : i < LW
      · have hlt' : (i : Int) < (LW : Int) := by omega
        have hnlt : ¬ (LW : Int) ≤ (i : Int) := by omega
        have hiw : IntKind.i64.wrap ((i : Int) + 1) = (i : Int) + 1 := by rw [IntKind.wrap_i64]; omega
        have hib : (i : Int) + 1 < 9223372036854775808 := by omega
        obtain ⟨P, hP⟩ : ∃ P, (prt K ev X Z)[i]? = some P := ⟨_, List.getElem?_eq_getElem (by have := HLW.out.1; omega)⟩
        have HR1 : Hid (w8.rangeAt g8 (o8 + i * 45) (ptL P)) := row_pt HO8.out hP
        have HR2 : Hid (w8.rangeAt g0 (o0 + i * 45) (ptL P)) := row_pt HW8.out hP
        clear hP
        go_upto_region 29 with fail
        refine wp_region_quiet_lit (by kernel_rfl) (by kernel_rfl) ?_
        iterate 3 (go_big_quiet_step (fail))
        refine quiet_runTo (by kernel_rfl) (some 200) rfl (.agg (ptL P).toArray) (fun w' hw => by obtain ⟨q, rfl⟩ := hw; exact loadPt_run (w := (w8.drewN q8).drewN q) HR1.out (.tmp 199) rfl (by kernel_rfl)) ?_
        simp only [Act.put, List.setIfInBounds_toArray, List.set_cons_zero, List.set_cons_succ]
        iterate 3 (go_big_quiet_step (fail))
        refine quiet_runTo (by kernel_rfl) (some 204) rfl (.agg (ptL P).toArray) (fun w' hw => by obtain ⟨q, rfl⟩ := hw; exact loadPt_run (w := (w8.drewN q8).drewN q) HR2.out (.tmp 203) rfl (by kernel_rfl)) ?_
        simp only [Act.put, List.setIfInBounds_toArray, List.set_cons_zero, List.set_cons_succ]
        refine quiet_runTo (by kernel_rfl) (some 205) rfl (.bool false) (fun w' hw => by exact neqP_any P P (.tmp 200) (.tmp 204) rfl (by kernel_rfl) (by kernel_rfl) false (by simp) w') ?_
        simp only [Act.put, List.setIfInBounds_toArray, List.set_cons_zero, List.set_cons_succ]
        refine wpQuiet_nil ?_
        intro _ hw'
        obtain ⟨nq2, hw''⟩ := hw'
        subst hw''
        generalize (ptL P).toArray = pa at *
        clear HR1 HR2
        go_wp2
        go_roundw
        case rel => exact ⟨i + 1, by omega, by go_num, q8 + nq2, by first | rfl | simp [World.drewN, Nat.add_assoc]⟩
        case measure => simp [intOf]; omega
      · obtain rfl : i = LW := by omega
        have hnlt : ¬ (i : Int) < (i : Int) := by omega
        go_wp2
        go_ret
        exact ⟨rfl, below_drewN HB8.out _⟩
end Go.Proofs.Ytekkckfoikpljaa
