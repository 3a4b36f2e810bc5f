/-
  HeapAsks: the walk.
-/
import Derived.Test.YtdnhhcbabdoomaaHCAsk1
namespace Go.Proofs.Ytdnhhcbabdoomaa.C
set_option linter.unusedVariables false
set_option linter.unusedSimpArgs false
open Go.RowKit Go.Great Go.Shelf

attribute [local go_sem] Oper.semAt_some

set_option maxRecDepth 100000 in
set_option maxHeartbeats 8000000 in
theorem HeapAsks_law (a1 : Option Addr) (l1 c1 : Nat) (d : Nat → Int) (hl1 : l1 ≤ maxLen) (a2 : Option Addr) (l2 c2 : Nat) (u : Nat → Int) (hl2 : l2 ≤ maxLen) (w : World) (hs1 : SrcI w a1 l1 d) (hs2 : SrcI w a2 l2 u) :
    Calls Try.prog 6 #[.slice a1 l1 c1, .slice a2 l2 c2] w fun e w' => e = .returned (.bool true) ∧ Below w.heap.size w w' := by
  have HS : Hid (SrcI w a1 l1 d ∧ SrcI w a2 l2 u ∧ l1 ≤ maxLen ∧ l2 ≤ maxLen) := ⟨hs1, hs2, hl1, hl2⟩
  clear hs1 hs2 hl1 hl2
  refine (callsIn_wide (n := 3)).1 ?_
  refine callsIn_of_wp_marks Try.func6 rfl trivial ?_ rfl
  simp only [Try.ntmps6, List.size_toArray, List.length_cons, List.length_nil, Nat.reduceAdd, Nat.reduceSub, Array.replicate_succ, Array.replicate_zero, List.push_toArray, List.append_toArray, List.nil_append, List.cons_append]
  obtain ⟨Qf, hQf⟩ : ∃ Q, Q = bodyPostM Fence.wide 3 Try.prog Try.f6 (fun e w' => e = .returned (.bool true) ∧ Below w.heap.size w w') := ⟨_, rfl⟩
  rw [← hQf]
  have HQF : Hid (Qf = bodyPostM Fence.wide 3 Try.prog Try.f6 (fun e w' => e = .returned (.bool true) ∧ Below w.heap.size w w')) := hQf
  clear hQf
  refine wpIn_wide.2 ?_
  have hsh := shown_any (w.alloc (.cells #[.bool false] 4))
  have H0 : Hid (Blk (w.alloc (.cells #[.bool false] 4)) w.heap.size 4 #[.bool false] ∧ Fr w (w.alloc (.cells #[.bool false] 4)) (fun _ => False)) := ⟨Blk.new _ _ _, Fr.alloc _ _ _⟩
  go_wp2_with (go_at_call 8; fail)
  refine hsh.mono ?_
  rintro e w1 ⟨rfl, hf1⟩
  have H1 : Hid (Blk w1 w.heap.size 4 #[.bool false] ∧ Fr w w1 (fun _ => False)) := ⟨H0.out.1.fr hf1 (fun q => q), H0.out.2.trans hf1 fun _ _ q => by rcases q with q | q <;> exact q⟩
  clear hf1 hsh H0
  have hn1 := New_raw w1
  go_wp2_with (go_at_call 29; fail)
  refine hn1.mono ?_
  rintro e w2 ⟨rfl, rfl⟩
  clear hn1
  go_upto_region 6 with fail
  have H2 : Hid (AB w ((w1.alloc (.cells #[.func (.func 30) #[] #[], .slice none 0 0, .int .i64 0] 118)).alloc (.cells #[.int .i64 0] 68)) (w1.heap.size + 1) w1.heap.size w.heap.size (.slice none 0 0) 0 0 0 0) := by
    have F2 : Fr w1 ((w1.alloc (.cells #[.func (.func 30) #[] #[], .slice none 0 0, .int .i64 0] 118)).alloc (.cells #[.int .i64 0] 68)) (fun _ => False) := (Fr.alloc _ _ (fun _ => False)).trans (Fr.alloc _ _ (fun _ => False)) fun _ _ q => by rcases q with q | q <;> exact q
    have hB1 : Blk ((w1.alloc (.cells #[.func (.func 30) #[] #[], .slice none 0 0, .int .i64 0] 118)).alloc (.cells #[.int .i64 0] 68)) w1.heap.size 118 #[.func (.func 30) #[] #[], .slice none 0 0, .int .i64 0] := (Blk.new _ _ _).alloc _
    have hB2 : Blk ((w1.alloc (.cells #[.func (.func 30) #[] #[], .slice none 0 0, .int .i64 0] 118)).alloc (.cells #[.int .i64 0] 68)) (w1.heap.size + 1) 68 #[.int .i64 0] := Blk.new' _ _ _ (by simp)
    have hsz := H1.out.2.size
    have hown : ∀ b, ownH w1.heap.size (.slice none 0 0) [] b → b = w1.heap.size := fun b hb => by
      rcases hb with q | q | ⟨_, q, _⟩
      · exact q
      · cases q
      · cases q
    refine ⟨⟨.slice none 0 0, [], 0, [], ⟨⟨[], ⟨hB1, RowAt.none0 _ _ _, fun k it hk => by simp at hk, List.Pairwise.nil, (by show Blk _ _ _ #[.int .i64 (wrap64 ((0 : Nat) : Int))]; rw [show wrap64 ((0 : Nat) : Int) = 0 by simp [wrap64]]; exact hB2), fun b hb he => ?_, by simp⟩, List.Perm.refl _, Rkd.nil 0, fun _ j j0 j1 => by simp at j1⟩, fun b hb => by have := hown b hb; omega, fun p hp => (nomatch hp), RowAt.none0 _ _ _, fun g hg => (nomatch hg), H1.out.2.trans F2 (fun _ _ q => by rcases q with q | q <;> exact q.elim), by omega, by simp⟩⟩, H1.out.1.fr F2 (fun q => q), Nat.le_refl _, by omega⟩
    have h1 := hown b hb
    have h2 : b = w1.heap.size + 1 := he
    omega
  generalize (w1.alloc (.cells #[.func (.func 30) #[] #[], .slice none 0 0, .int .i64 0] 118)).alloc (.cells #[.int .i64 0] 68) = w3 at *
  generalize w1.heap.size + 1 = tb at *
  generalize w1.heap.size = h at *
  generalize hrb : w.heap.size = rb at *
  have HRB : Hid (w.heap.size = rb) := hrb
  clear hrb H1
  obtain ⟨i1, hi1, hx0, hx1, hx2⟩ := infoPc
  go_wp2
  go_loopw [8, 9, 10, 11, 12] (fun x8 x9 x10 _ _ wr => ∃ (i c : Nat) (ai : Option Addr) (ci : Nat), i ≤ l1 ∧ i ≤ 3000 ∧ x10 = .int .i64 (i : Int) ∧ x9 = .int .i64 (i : Int) ∧ x8 = .slice ai i ci ∧ Hid (AB w wr tb h rb (.slice ai i ci) i i c i)) (fun _ _ x10 _ _ _ => 3000 - (RowKit.intOf x10).toNat)
  case atStart =>
    exact ⟨0, 0, none, 0, Nat.zero_le _, Nat.zero_le _, rfl, rfl, rfl, H2.out⟩
  case round =>
    obtain ⟨i, c, ai, ci, hil, hi5, rfl, rfl, rfl, HQ⟩ := hrel
    by_cases hlt : i < l1 ∧ i < 3000
    · as_aux_lemma =>
      have hii : (i : Int) < (l1 : Int) := by omega
      have hi55 : (i : Int) < 3000 := by omega
      have hib : (i : Int) + 1 < 9223372036854775808 := by omega
      obtain ⟨b, off, rfl, hcell⟩ := (HS.out.1.below (below_of HQ.out.frw)).resolve_left (by omega)
      have hc := (hcell i (by omega)).1
      have ct : wr.cell? ⟨tb, 0, none⟩ = some (.int .i64 (c : Int)) := (HQ.out.ty (by omega)).cell 0
      obtain ⟨⟨v, L, N, P, E⟩, hR, hR2, hR3⟩ := HQ.out
      have hpu := Push_E E ⟨d i⟩ (by omega)
      have HE : Hid (AI w wr tb h (.slice ai i ci) i i c i v L N P ∧ Blk wr rb 4 #[.bool false] ∧ w.heap.size ≤ rb ∧ c ≤ 200 * i) := ⟨E, hR, hR2, hR3⟩
      clear hcell HQ E hR hR2 hR3
      go_wp2_with (go_at_call 31; fail)
      refine hpu.mono ?_
      rintro e w5 ⟨rfl, ⟨m, v5, L5, N5, h5, h6, hm⟩, h8⟩
      have HX5 : Hid (AI w w5 tb h (.slice ai i ci) i (i + 1) (c + m) (i + 1) v5 L5 N5 P ∧ ItOk tb w5 L5 (wr.heap.size + 1) ∧ Blk w5 rb 4 #[.bool false] ∧ w.heap.size ≤ rb ∧ c + m ≤ 200 * (i + 1)) := ⟨h5, h6, h8 _ _ _ HE.out.2.1 (by decide) (by decide) (by decide) (by decide), HE.out.2.2.1, by have h1 := HE.out.2.2.2; have h2 := clN_le (n := i) (by omega); omega⟩
      have HM : Hid (m ≤ 4 * (clN i + 1) ∧ c ≤ 200 * i ∧ clN i ≤ 30) := ⟨hm, HE.out.2.2.2, clN_le (by omega)⟩
      clear h5 h6 h8 hpu hc ct hm HE
      generalize wr.heap.size + 1 = p at *
      have cm : w5.cell? ⟨tb, 0, none⟩ = some (.int .i64 ((c + m : Nat) : Int)) := ((show AB w w5 tb h rb (.slice ai i ci) i (i + 1) (c + m) (i + 1) from ⟨⟨_, _, _, _, HX5.out.1⟩, HX5.out.2.2.1, HX5.out.2.2.2.1, HX5.out.2.2.2.2⟩).ty (by omega)).cell 0
      have hmo := most_any i (i : Int) rfl (by omega)
      have hsub : IntKind.i64.wrap (((c + m : Nat) : Int) - (c : Int)) = (m : Int) := by rw [IntKind.wrap_i64]; have := HM.out; omega
      generalize clN i = kk at *
      have hgt : ¬ (4 * ((kk : Int) + 1)) < (m : Int) := by have := HM.out; omega
      have hgd : decide ((4 * ((kk : Int) + 1)) < (m : Int)) = false := by simpa using hgt
      generalize hcm : c + m = cc at *
      go_upto_region 13 with fail
      go_quiet ((go_at_call 32; refine Calls.quiet_of_same (hmo _)))
      have FD : Fr w5 (w5.drewN nq) (fun _ => False) := (Fr.refl _ _).drewN _
      have HX6 : Hid (AI w (w5.drewN nq) tb h (.slice ai i ci) i (i + 1) cc (i + 1) v5 L5 N5 P ∧ ItOk tb (w5.drewN nq) L5 p ∧ Blk (w5.drewN nq) rb 4 #[.bool false] ∧ w.heap.size ≤ rb ∧ cc ≤ 200 * (i + 1)) := by
        obtain ⟨q1, q2, q3, q4⟩ := HX5.out
        exact ⟨q1.sm FD, q2.sm FD, q3.fr FD (fun q => q), q4⟩
      generalize w5.drewN nq = w6 at *
      clear FD HX5 hmo hsub hgt hgd cm HM hcm
      go_upto_region 15 with fail
      rename_i Kc hKc
      have F6 : Fr w6 (w6.alloc (.cells #[ptr p] 70)) (fun _ => False) := Fr.alloc _ _ _
      have HX7 : Hid (AI w (w6.alloc (.cells #[ptr p] 70)) tb h (.slice ai i ci) i (i + 1) cc (i + 1) v5 L5 N5 P ∧ ItOk tb (w6.alloc (.cells #[ptr p] 70)) L5 p ∧ Blk (w6.alloc (.cells #[ptr p] 70)) rb 4 #[.bool false] ∧ w.heap.size ≤ rb ∧ cc ≤ 200 * (i + 1)) := by
        obtain ⟨q1, q2, q3, q4⟩ := HX6.out
        exact ⟨q1.sm F6, q2.sm F6, q3.alloc _, q4⟩
      have hB6 : Blk (w6.alloc (.cells #[ptr p] 70)) w6.heap.size 70 #[ptr p] := Blk.new _ _ _
      clear F6
      refine wp_region_lit ?_
      refine wpList_runTo rfl (some 68) rfl (.slice ai i ci) w6 (by kernel_rfl) ?_
      simp only [Act.put, List.setIfInBounds_toArray, List.set_cons_zero, List.set_cons_succ]
      refine wpList_runTo rfl (some 69) rfl (ptr p) w6 (by kernel_rfl) ?_
      simp only [Act.put, List.setIfInBounds_toArray, List.set_cons_zero, List.set_cons_succ]
      refine wpList_runTo rfl (some 70) rfl (.slice (some ⟨w6.heap.size, 0, none⟩) 1 1) (w6.alloc (.cells #[ptr p] 70)) (by kernel_rfl) ?_
      simp only [Act.put, List.setIfInBounds_toArray, List.set_cons_zero, List.set_cons_succ]
      refine wpList_append_row _ rfl _ _ 69 rfl 70 i1 _ 1 8 Try.underlying69 hi1 hx0 hx1 hx2 (by rfl) (.slice ai i ci) i (P.map ptr) rfl HX7.out.1.it ⟨w6.heap.size, 0, none⟩ 1 1 [ptr p] rfl rfl (fun j u hj => by rw [Addr.add_mid, cell_of_row _ _ _ _ _ _ hB6, Nat.zero_add]; simpa using hj) (fun u hu => by rw [List.mem_singleton.1 hu]; rfl) (.inl (by decide)) (by unfold maxLen; omega) (by omega) ?_
      intro v' w7 hrow hfr hnew
      simp only [Act.put, List.setIfInBounds_toArray, List.set_cons_zero, List.set_cons_succ]
      obtain ⟨ai7, ci7, hv7, _⟩ := hrow.form
      subst hv7
      have HX8 : Hid (AB w w7 tb h rb (.slice ai7 (i + 1) ci7) (i + 1) (i + 1) cc (i + 1)) := by
        obtain ⟨q1, q2, q3, q4⟩ := HX7.out
        exact ⟨⟨_, _, _, _, q1.app q2 hrow hfr hnew (Nat.le_refl _)⟩, q3.fr hfr (q1.row q3 (by decide)), q4⟩
      clear hrow hfr hnew hB6 HX7 HX6
      refine wpList_runTo rfl (some 8) rfl (.slice ai7 (i + 1) ci7) w7 (by kernel_rfl) ?_
      simp only [Act.put, List.setIfInBounds_toArray, List.set_cons_zero, List.set_cons_succ]
      refine wpList_nil ?_
      refine hKc _ _ ?_
      clear hKc
      go_wp2
      exact ⟨⟨i + 1, cc, ai7, ci7, by omega, by omega, by go_num, by go_num, rfl, HX8.out⟩, by simp [RowKit.intOf]; omega⟩
    · have hcond : ¬ ((i : Int) < (l1 : Int) ∧ (i : Int) < 3000) := fun q => hlt ⟨by omega, by omega⟩
      go_upto_region 9 with fail
      go_cut [40] from 33 to 40 (fun x40 wx => x40 = .bool false ∧ wx = wr)
      case first => as_aux_lemma =>
        by_cases q1 : (i : Int) < (l1 : Int)
        · have q2 : ¬ (i : Int) < 3000 := fun q => hcond ⟨q1, q⟩
          go_wp2
          go_meet
          exact ⟨rfl, rfl⟩
        · go_wp2
          go_meet
          exact ⟨rfl, rfl⟩
      case rest =>
        obtain ⟨rfl, hw⟩ := hcut
        subst hw
        clear hcond hlt H2
        have H3 : Hid (AB w wc tb h rb (.slice ai i ci) i 3000 c i) := by
          obtain ⟨⟨v, L, N, P, e⟩, q1, q2, q3⟩ := HQ.out
          exact ⟨⟨v, L, N, P, e.more hi5⟩, q1, q2, by omega⟩
        have HI : Hid (i ≤ 3000) := hi5
        clear HQ hil hi5
        go_wp2
        go_loopw [8, 9, 13] (fun x8 x9 x13 wr => ∃ (j n c l : Nat) (aj : Option Addr) (cj : Nat), j ≤ 1000 ∧ x13 = .int .i64 (j : Int) ∧ x9 = .int .i64 (l : Int) ∧ x8 = .slice aj n cj ∧ Hid (AB w wr tb h rb (.slice aj n cj) n (3000 + j) c l)) (fun _ _ x13 _ => 1000 - (RowKit.intOf x13).toNat)
        case atStart =>
          exact ⟨0, i, c, i, ai, ci, Nat.zero_le _, rfl, rfl, rfl, H3.out⟩
        case round =>
          clear H3
          obtain ⟨j, n, c, l, aj, cj, hj3, rfl, rfl, rfl, HQ⟩ := hrel
          by_cases hgo : j < l2 ∧ j < 1000
          · as_aux_lemma =>
            have hj1 : (j : Int) < (l2 : Int) := by omega
            have hj2 : (j : Int) < 1000 := by omega
            have hjb : (j : Int) + 1 < 9223372036854775808 := by omega
            obtain ⟨b, off, rfl, hcell⟩ := (HS.out.2.1.below (below_of HQ.out.frw)).resolve_left (by omega)
            have hc := (hcell j (by omega)).1
            have hub := (hcell j (by omega)).2
            have hbd := HQ.out.bd
            have ct : wr.cell? ⟨tb, 0, none⟩ = some (.int .i64 (c : Int)) := (HQ.out.ty (by omega)).cell 0
            obtain ⟨v0, L0, N0, P0, E0⟩ := HQ.out.1
            have hle := Len_E E0
            have hpk4 : ∀ w', Calls Try.prog 9 #[.int .i64 (u j), .int .i64 4] w' fun e w'' => e = .returned (.int .i64 (pickN (u j) 4 : Int)) ∧ w'' = w' := fun w' => pick_any _ _ 4 rfl w' (by decide) (by decide) hub.1 hub.2
            have hq := pickN_lt (u j) (show 0 < 4 by decide)
            have HU : Hid ((-9223372036854775808 ≤ u j ∧ u j ≤ 9223372036854775807) ∧ n ≤ 3000 + j ∧ l ≤ 3000 + j ∧ c ≤ 200 * (3000 + j)) := ⟨hub, hbd⟩
            generalize pickN (u j) 4 = q at *
            clear E0 hcell hub hbd
            have hbs : b < wr.heap.size := World.block_lt_of_cell? _ _ hc
            go_upto_region 23 with (go_at_call 33; refine hle.mono ?_; rintro e w1 ⟨rfl, ew⟩; replace ew := ew.symm; subst ew)
            clear hle ct
            have F4 : Fr wr (wr.alloc (.cells #[.int .i64 (u j), ptr tb] 65)) (fun _ => False) := Fr.alloc _ _ _
            have H4 : Hid (AB w (wr.alloc (.cells #[.int .i64 (u j), ptr tb] 65)) tb h rb (.slice aj n cj) n (3000 + j) c l ∧ Blk (wr.alloc (.cells #[.int .i64 (u j), ptr tb] 65)) wr.heap.size 65 #[.int .i64 (u j), ptr tb]) := ⟨HQ.out.sm F4, Blk.new _ _ _⟩
            have hc4 := F4.cell hc (fun q => q)
            clear hc F4 HQ hbs
            generalize wr.alloc (.cells #[.int .i64 (u j), ptr tb] 65) = w4 at *
            generalize wr.heap.size = xb at *
            go_upto_block 4 with (go_at_call 9; refine (hpk4 _).mono ?_; rintro e w1 ⟨rfl, ew⟩; replace ew := ew.symm; subst ew)
            clear hpk4
            go_cut [8, 9, 17] from 101 to 165 (fun x8 x9 x17 wx => ∃ (n' m l' : Nat) (r : Int) (aj' : Option Addr) (cj' : Nat), x8 = .slice aj' n' cj' ∧ x9 = .int .i64 (l' : Int) ∧ x17 = .int .i64 r ∧ Hid (AB w wx tb h rb (.slice aj' n' cj') n' (3000 + (j + 1)) (c + m) l' ∧ m ≤ 4 * (clN l + 1) ∧ (r = 0 ∨ r = 110 ∨ r = 111)))
            case first =>
              have HCL : Hid (clN l ≤ 30) := clN_le (by have := HU.out; omega)
              obtain ⟨⟨v0, L0, N0, P0, E⟩, hR, hR2, hR3⟩ := H4.out.1
              have HB : Hid (Blk w4 rb 4 #[.bool false] ∧ w.heap.size ≤ rb ∧ c ≤ 200 * (3000 + j)) := ⟨hR, hR2, hR3⟩
              have HE : Hid (AI w w4 tb h (.slice aj n cj) n (3000 + j) c l v0 L0 N0 P0) := E
              have x0 : w4.cell? ⟨xb, 0, none⟩ = some (.int .i64 (u j)) := H4.out.2.cell 0
              have x1 : w4.cell? ⟨xb, 1, none⟩ = some (ptr tb) := H4.out.2.cell 1
              clear hR hR2 hR3 E
              have FINW : Hid (∀ (w5 : World) (m l' : Nat) (v L N), AI w w5 tb h (.slice aj n cj) n (3000 + j) (c + m) l' v L N P0 → Kp w4 w5 → m ≤ 4 * (clN l + 1) → AB w w5 tb h rb (.slice aj n cj) n (3000 + (j + 1)) (c + m) l') := fun w5 m l' v L N h1 h2 h3 => ⟨⟨v, L, N, P0, h1.more (by omega)⟩, h2 _ _ _ HB.out.1 (by decide) (by decide) (by decide) (by decide), HB.out.2.1, by have h4 := HB.out.2.2; have h5 := HCL.out; omega⟩
              rcases (by omega : q = 0 ∨ q = 1 ∨ q = 2 ∨ q = 3) with rfl | rfl | rfl | rfl
              · as_aux_lemma =>
                have hpu := Push_E HE.out ⟨u j⟩ (by omega)
                go_wp2_with (go_at_call 31; fail)
                rename_i Kc hKc
                refine hpu.mono ?_
                rintro e w5 ⟨rfl, ⟨m, v5, L5, N5, h5, h6, hm⟩, h8⟩
                refine hKc _ _ ?_
                clear hKc
                have HX5 : Hid (AI w w5 tb h (.slice aj n cj) n (3000 + j + 1) (c + m) (l + 1) v5 L5 N5 P0 ∧ ItOk tb w5 L5 (w4.heap.size + 1) ∧ Blk w5 rb 4 #[.bool false] ∧ m ≤ 4 * (clN l + 1)) := ⟨h5, h6, h8 _ _ _ HB.out.1 (by decide) (by decide) (by decide) (by decide), hm⟩
                clear h5 h6 h8 hpu hm hc4 x0 x1
                generalize w4.heap.size + 1 = p at *
                have F6 : Fr w5 (w5.alloc (.cells #[ptr p] 70)) (fun _ => False) := Fr.alloc _ _ _
                have HX7 : Hid (AI w (w5.alloc (.cells #[ptr p] 70)) tb h (.slice aj n cj) n (3000 + j + 1) (c + m) (l + 1) v5 L5 N5 P0 ∧ ItOk tb (w5.alloc (.cells #[ptr p] 70)) L5 p ∧ Blk (w5.alloc (.cells #[ptr p] 70)) rb 4 #[.bool false] ∧ m ≤ 4 * (clN l + 1)) := by
                  obtain ⟨q1, q2, q3, q4⟩ := HX5.out
                  exact ⟨q1.sm F6, q2.sm F6, q3.alloc _, q4⟩
                have hB6 : Blk (w5.alloc (.cells #[ptr p] 70)) w5.heap.size 70 #[ptr p] := Blk.new _ _ _
                clear F6
                refine wpList_runTo rfl (some 107) rfl (.slice (some ⟨w5.heap.size, 0, none⟩) 1 1) (w5.alloc (.cells #[ptr p] 70)) (by kernel_rfl) ?_
                simp only [Act.put, List.setIfInBounds_toArray, List.set_cons_zero, List.set_cons_succ]
                refine wpList_append_row _ rfl _ _ 69 rfl 70 i1 _ 1 8 Try.underlying69 hi1 hx0 hx1 hx2 (by rfl) (.slice aj n cj) n (P0.map ptr) rfl HX7.out.1.it ⟨w5.heap.size, 0, none⟩ 1 1 [ptr p] rfl rfl (fun j u hj => by rw [Addr.add_mid, cell_of_row _ _ _ _ _ _ hB6, Nat.zero_add]; simpa using hj) (fun u hu => by rw [List.mem_singleton.1 hu]; rfl) (.inl (by decide)) (by unfold maxLen; have := HU.out; omega) (by have := HU.out; omega) ?_
                intro v' w7 hrow hfr hnew
                simp only [Act.put, List.setIfInBounds_toArray, List.set_cons_zero, List.set_cons_succ]
                obtain ⟨ai7, ci7, hv7, _⟩ := hrow.form
                subst hv7
                have HX8 : Hid (AB w w7 tb h rb (.slice ai7 (n + 1) ci7) (n + 1) (3000 + (j + 1)) (c + m) (l + 1) ∧ m ≤ 4 * (clN l + 1)) := by
                  obtain ⟨q1, q2, q3, q4⟩ := HX7.out
                  have h1 := HU.out
                  have h2 := HCL.out
                  have h3 := HB.out.2.2
                  exact ⟨⟨⟨_, _, _, _, (q1.app q2 hrow hfr hnew (by omega))⟩, q3.fr hfr (q1.row q3 (by decide)), HB.out.2.1, by omega⟩, q4⟩
                clear hrow hfr hnew hB6 HX7 HX5
                refine wpList_runTo rfl (some 8) rfl (.slice ai7 (n + 1) ci7) w7 (by kernel_rfl) ?_
                simp only [Act.put, List.setIfInBounds_toArray, List.set_cons_zero, List.set_cons_succ]
                refine wpList_nil ?_
                have hlb : (l : Int) + 1 < 9223372036854775808 := by have := HU.out; omega
                go_wp2
                go_meet
                exact ⟨n + 1, m, l + 1, 0, ai7, ci7, rfl, by go_num, rfl, HX8.out.1, HX8.out.2, .inl rfl⟩
              · as_aux_lemma =>
                have hpo := Pop_E' HE.out
                go_wp2_with (go_at_call 34; fail)
                refine hpo.mono ?_
                rintro e w5 ⟨z, r, l', rfl, ⟨m, v5, L5, N5, h5, hm⟩, h8, hr⟩
                have HX5 : Hid (AB w w5 tb h rb (.slice aj n cj) n (3000 + (j + 1)) (c + m) l' ∧ m ≤ 4 * (clN l + 1)) := ⟨FINW.out _ _ _ _ _ _ h5 h8 hm, hm⟩
                clear h5 h8 hpo hm hc4 x0 x1
                rcases hr with ⟨rfl, rfl⟩ | ⟨rfl, rfl⟩
                · have hl1 : ((l' + 1 : Nat) : Int) - 1 = (l' : Int) := by omega
                  have hl2 : wrap64 (l' : Int) = (l' : Int) := by unfold wrap64; have := HU.out; omega
                  go_wp2
                  go_meet
                  exact ⟨n, m, l', 0, aj, cj, rfl, by go_num, rfl, HX5.out.1, HX5.out.2, .inl rfl⟩
                · go_wp2
                  go_meet
                  exact ⟨n, m, l', 110, aj, cj, rfl, rfl, rfl, HX5.out.1, HX5.out.2, .inr (.inl rfl)⟩
              · as_aux_lemma =>
                by_cases hn : 0 < n
                · have hn0 : (0 : Int) < (n : Int) := by omega
                  obtain ⟨g, goff, gcap, cur, hv2, _⟩ := HE.out.it.more (by omega)
                  injection hv2 with e1 _ e2
                  subst e1 e2
                  have hw5 : -9223372036854775808 ≤ wrap64 ((u j).tdiv 4) ∧ wrap64 ((u j).tdiv 4) ≤ 9223372036854775807 := by unfold wrap64; omega
                  have hp5 := pickN_lt (wrap64 ((u j).tdiv 4)) (show 0 < n by omega)
                  have hpk5 : ∀ w', Calls Try.prog 9 #[.int .i64 (wrap64 ((u j).tdiv 4)), .int .i64 (n : Int)] w' fun e w'' => e = .returned (.int .i64 (pickN (wrap64 ((u j).tdiv 4)) n : Int)) ∧ w'' = w' := fun w' => pick_any _ _ n rfl w' (by omega) (by have := HU.out; omega) hw5.1 hw5.2
                  obtain ⟨p, hpP, hpc⟩ := HE.out.cell hp5
                  have hpo := Remove_E HE.out hpP
                  generalize pickN (wrap64 ((u j).tdiv 4)) n = q5 at *
                  have hq5 : (q5 : Int) < (n : Int) := by omega
                  go_wp2_with (first | (go_at_call 9; refine (hpk5 _).mono ?_; rintro e w1 ⟨rfl, ew⟩; replace ew := ew.symm; subst ew) | (go_at_call 35; fail))
                  refine hpo.mono ?_
                  rintro e w5 ⟨z, r, l', rfl, ⟨m, v5, L5, N5, h5, hm⟩, h8, hr⟩
                  have HX5 : Hid (AB w w5 tb h rb (.slice (some ⟨g, goff, none⟩) n cj) n (3000 + (j + 1)) (c + m) l' ∧ m ≤ 4 * (clN l + 1)) := ⟨FINW.out _ _ _ _ _ _ h5 h8 hm, hm⟩
                  clear h5 h8 hpo hm hc4 x0 x1 hpk5 hpc hq5 hp5 hw5
                  rcases hr with ⟨rfl, rfl⟩ | ⟨rfl, rfl⟩
                  · have hl1 : ((l' + 1 : Nat) : Int) - 1 = (l' : Int) := by omega
                    have hl2 : wrap64 (l' : Int) = (l' : Int) := by unfold wrap64; have := HU.out; omega
                    go_wp2
                    go_meet
                    exact ⟨n, m, l', 0, _, cj, rfl, by go_num, rfl, HX5.out.1, HX5.out.2, .inl rfl⟩
                  · go_wp2
                    go_meet
                    exact ⟨n, m, l', 111, _, cj, rfl, rfl, rfl, HX5.out.1, HX5.out.2, .inr (.inr rfl)⟩
                · have hn0 : ¬ (0 : Int) < (n : Int) := by omega
                  have HX5 : Hid (AB w w4 tb h rb (.slice aj n cj) n (3000 + (j + 1)) (c + 0) l ∧ 0 ≤ 4 * (clN l + 1)) := ⟨FINW.out _ 0 _ _ _ _ HE.out (fun b T cs hb _ _ _ _ => hb) (Nat.zero_le _), Nat.zero_le _⟩
                  clear hc4 x0 x1
                  go_wp2
                  go_meet
                  exact ⟨n, 0, l, 0, aj, cj, rfl, rfl, rfl, HX5.out.1, HX5.out.2, .inl rfl⟩
              · as_aux_lemma =>
                by_cases hn : 0 < n
                · have hn0 : (0 : Int) < (n : Int) := by omega
                  obtain ⟨g, goff, gcap, cur, hv2, _⟩ := HE.out.it.more (by omega)
                  injection hv2 with e1 _ e2
                  subst e1 e2
                  have hw5 : -9223372036854775808 ≤ wrap64 ((u j).tdiv 4) ∧ wrap64 ((u j).tdiv 4) ≤ 9223372036854775807 := by unfold wrap64; omega
                  have hp5 := pickN_lt (wrap64 ((u j).tdiv 4)) (show 0 < n by omega)
                  have hpk5 : ∀ w', Calls Try.prog 9 #[.int .i64 (wrap64 ((u j).tdiv 4)), .int .i64 (n : Int)] w' fun e w'' => e = .returned (.int .i64 (pickN (wrap64 ((u j).tdiv 4)) n : Int)) ∧ w'' = w' := fun w' => pick_any _ _ n rfl w' (by omega) (by have := HU.out; omega) hw5.1 hw5.2
                  generalize pickN (wrap64 ((u j).tdiv 4)) n = q5 at *
                  have hq5 : (q5 : Int) < (n : Int) := by omega
                  obtain ⟨p, hp⟩ := get_some P0 (show q5 < P0.length by rw [HE.out.bd.2.2.2.1]; exact hp5)
                  have HPP : Hid (p ∈ P0 ∧ P0[q5]? = some p) := ⟨List.mem_of_getElem? hp, hp⟩
                  have MKS : Hid (∀ (w' : World) (K' c' l' : Nat) (v : Value) (L : List (It Th)) (N : Nat), AI w w' tb h (.slice (some ⟨g, goff, none⟩) n cj) n K' c' l' v L N P0 → Blk w' xb 65 #[.int .i64 (u j), ptr tb] → (w'.cell? ⟨b, off + j, none⟩ = some (.int .i64 (u j)) ∧ w'.cell? ⟨g, goff + q5, none⟩ = some (ptr p) ∧ w'.cell? ⟨xb, 0, none⟩ = some (.int .i64 (u j)) ∧ w'.cell? ⟨xb, 1, none⟩ = some (ptr tb))) := fun w' K' c' l' v L N e hx => by
                    refine ⟨?_, e.it.cell rfl (by rw [List.getElem?_map, HPP.out.2]; rfl), hx.cell 0, hx.cell 1⟩
                    obtain ⟨b', off', he, hcell⟩ := (HS.out.2.1.below (below_of e.fr)).resolve_left (by omega)
                    injection he with he
                    injection he with he1 he2 _
                    subst he1 he2
                    exact (hcell j (by omega)).1
                  clear hp hp5 hw5 hc4 x0 x1
                  go_upto_region 39 with fail
                  rename_i K' hJ a2 le Q1 b1 b0 rt
                  clear rt
                  refine wp_mono (Q := Exit.then K' (fun _ _ _ => False)) ?_ (fun e a w hh => by cases e <;> first | exact hh | exact hh.elim)
                  refine wp_region_held (S := fun w' => w'.cell? ⟨b, off + j, none⟩ = some (.int .i64 (u j)) ∧ w'.cell? ⟨g, goff + q5, none⟩ = some (ptr p) ∧ w'.cell? ⟨xb, 0, none⟩ = some (.int .i64 (u j)) ∧ w'.cell? ⟨xb, 1, none⟩ = some (ptr tb)) (by kernel_rfl) ?_
                  change wpAnyH _ _ _ _ _ _ _ _ (World.drew _)
                  have F6 : Fr w4 w4.drew (fun _ => False) := (Fr.refl w4 _).drew
                  have HE6 : Hid (AI w w4.drew tb h (.slice (some ⟨g, goff, none⟩) n cj) n (3000 + j) c l v0 L0 N0 P0 ∧ Blk w4.drew xb 65 #[.int .i64 (u j), ptr tb] ∧ Kp w4 w4.drew) := ⟨HE.out.sm F6, H4.out.2.fr F6 (fun q => q), fun b T cs hb _ _ _ _ => hb.fr F6 (fun q => q)⟩
                  generalize w4.drew = w6 at *
                  clear F6
                  have hS := MKS.out _ _ _ _ _ _ _ HE6.out.1 HE6.out.2.1
                  refine takeR (i := 0) (v := ptr h) (some 152) rfl rfl (by kernel_rfl) (by kernel_rfl) (by kernel_rfl) (fun _ _ _ h => h) (Or.inl ⟨by kernel_rfl, fun w' hSw => by kernel_rfl⟩) hS ?_
                  simp only [Act.put, List.setIfInBounds_toArray, List.set_cons_zero, List.set_cons_succ]
                  refine takeR (i := 1) (v := .slice (some ⟨g, goff, none⟩) n cj) (some 153) rfl rfl (by kernel_rfl) (by kernel_rfl) (by kernel_rfl) (fun _ _ _ h => h) (Or.inl ⟨by kernel_rfl, fun w' hSw => by kernel_rfl⟩) hS ?_
                  simp only [Act.put, List.setIfInBounds_toArray, List.set_cons_zero, List.set_cons_succ]
                  refine takeR (i := 2) (v := .slice (some ⟨b, off, none⟩) l2 c2) (some 154) rfl rfl (by kernel_rfl) (by kernel_rfl) (by kernel_rfl) (fun _ _ _ h => h) (Or.inl ⟨by kernel_rfl, fun w' hSw => by kernel_rfl⟩) hS ?_
                  simp only [Act.put, List.setIfInBounds_toArray, List.set_cons_zero, List.set_cons_succ]
                  refine takeR (i := 3) (v := .int .i64 (j : Int)) (some 155) rfl rfl (by kernel_rfl) (by kernel_rfl) (by kernel_rfl) (fun _ _ _ h => h) (Or.inl ⟨by kernel_rfl, fun w' hSw => by kernel_rfl⟩) hS ?_
                  simp only [Act.put, List.setIfInBounds_toArray, List.set_cons_zero, List.set_cons_succ]
                  refine takeR (i := 4) (v := .pointer (some ⟨b, off + j, none⟩)) (some 156) rfl rfl (by kernel_rfl) (by kernel_rfl) (by kernel_rfl) (fun _ _ _ h => h) (Or.inl ⟨by kernel_rfl, fun w' hSw => by clear hSw; go_simp⟩) hS ?_
                  simp only [Act.put, List.setIfInBounds_toArray, List.set_cons_zero, List.set_cons_succ]
                  refine takeR (i := 5) (v := .int .i64 (u j)) (some 157) rfl rfl (by kernel_rfl) (by kernel_rfl) (by kernel_rfl) (fun _ _ _ h => h) (Or.inl ⟨by kernel_rfl, fun w' hSw => by have q := hSw.1; clear hSw; go_simp⟩) hS ?_
                  simp only [Act.put, List.setIfInBounds_toArray, List.set_cons_zero, List.set_cons_succ]
                  refine takeR (i := 6) (v := .int .i64 (wrap64 ((u j).tdiv 4))) (some 158) rfl rfl (by kernel_rfl) (by kernel_rfl) (by kernel_rfl) (fun _ _ _ h => h) (Or.inl ⟨by kernel_rfl, fun w' hSw => by clear hSw; go_simp; exact wrp _⟩) hS ?_
                  simp only [Act.put, List.setIfInBounds_toArray, List.set_cons_zero, List.set_cons_succ]
                  refine takeR (i := 7) (v := .slice (some ⟨g, goff, none⟩) n cj) (some 159) rfl rfl (by kernel_rfl) (by kernel_rfl) (by kernel_rfl) (fun _ _ _ h => h) (Or.inl ⟨by kernel_rfl, fun w' hSw => by kernel_rfl⟩) hS ?_
                  simp only [Act.put, List.setIfInBounds_toArray, List.set_cons_zero, List.set_cons_succ]
                  refine takeR (i := 8) (v := .int .i64 (n : Int)) (some 160) rfl rfl (by kernel_rfl) (by kernel_rfl) (by kernel_rfl) (fun _ _ _ h => h) (Or.inl ⟨by kernel_rfl, fun w' hSw => by kernel_rfl⟩) hS ?_
                  simp only [Act.put, List.setIfInBounds_toArray, List.set_cons_zero, List.set_cons_succ]
                  refine takeR (i := 12) (v := .agg #[.int .i64 (u j), ptr tb]) (some 164) rfl rfl (by kernel_rfl) (by kernel_rfl) (by kernel_rfl) (fun _ _ _ h => h) (Or.inl ⟨by kernel_rfl, fun w' hSw => by have q := hSw.2.2.1; have q' := hSw.2.2.2; clear hSw; go_simp⟩) hS ?_
                  simp only [Act.put, List.setIfInBounds_toArray, List.set_cons_zero, List.set_cons_succ]
                  refine wpAnyH_ready (rs := [9]) (by kernel_rfl) (by simp) ?_
                  refine AllReadyH.cons rfl (fun K1 hK1 => ?_) AllReadyH.nil
                  rw [if_pos (by kernel_rfl)]
                  refine callR (d := some 161) rfl 9 #[.int .i64 (wrap64 ((u j).tdiv 4)), .int .i64 (n : Int)] (by kernel_rfl) (hpk5 w6) ?_
                  rintro e w7 ⟨rfl, ew⟩
                  replace ew := ew.symm
                  subst ew
                  refine ⟨_, rfl, ?_⟩
                  refine hK1.out _ _ hS (fun _ => ?_)
                  clear hK1 hpk5
                  simp only [Act.put, List.setIfInBounds_toArray, List.set_cons_zero, List.set_cons_succ]
                  refine takeR (i := 10) (v := .pointer (some ⟨g, goff + q5, none⟩)) (some 162) rfl rfl (by kernel_rfl) (by kernel_rfl) (by kernel_rfl) (fun _ _ _ h => h) (Or.inl ⟨by kernel_rfl, fun w' hSw => by clear hSw; go_simp⟩) hS ?_
                  simp only [Act.put, List.setIfInBounds_toArray, List.set_cons_zero, List.set_cons_succ]
                  refine takeR (i := 11) (v := ptr p) (some 163) rfl rfl (by kernel_rfl) (by kernel_rfl) (by kernel_rfl) (fun _ _ _ h => h) (Or.inl ⟨by kernel_rfl, fun w' hSw => by have q := hSw.2.1; clear hSw; go_simp⟩) hS ?_
                  simp only [Act.put, List.setIfInBounds_toArray, List.set_cons_zero, List.set_cons_succ]
                  have hse := Set_E HE6.out.1 ⟨u j⟩ HPP.out.1
                  refine wpAnyH_ready (rs := [13]) (by kernel_rfl) (by simp) ?_
                  refine AllReadyH.cons rfl (fun K1 hK1 => ?_) AllReadyH.nil
                  rw [if_pos (by kernel_rfl)]
                  refine callR (d := some 165) rfl 36 #[ptr h, ptr p, .agg #[.int .i64 (u j), ptr tb]] (by kernel_rfl) hse ?_
                  rintro e w8 ⟨r, rfl, ⟨m, v5, L5, N5, h5, hm⟩, h8, hr⟩
                  have hS8 := MKS.out _ _ _ _ _ _ _ h5 (h8 _ _ _ HE6.out.2.1 (by decide) (by decide) (by decide) (by decide))
                  have HX5 : Hid (AB w w8 tb h rb (.slice (some ⟨g, goff, none⟩) n cj) n (3000 + (j + 1)) (c + m) l ∧ m ≤ 4 * (clN l + 1) ∧ (r = 0 ∨ r = 110 ∨ r = 111)) := ⟨FINW.out _ _ _ _ _ _ h5 (fun b T cs hb q1 q2 q3 q4 => h8 _ _ _ (HE6.out.2.2 _ _ _ hb q1 q2 q3 q4) q1 q2 q3 q4) hm, hm, by rcases hr with q | q; exact .inl q; exact .inr (.inr q)⟩
                  refine ⟨_, rfl, ?_⟩
                  refine hK1.out _ _ hS8 (fun _ => ?_)
                  clear hK1 hse h5 h8 hr hm hS
                  simp only [Act.put, List.setIfInBounds_toArray, List.set_cons_zero, List.set_cons_succ]
                  refine takeR (i := 14) (v := .int .i64 r) (some 17) rfl rfl (by kernel_rfl) (by kernel_rfl) (by kernel_rfl) (fun _ _ _ h => h) (Or.inl ⟨by kernel_rfl, fun w' hSw => by kernel_rfl⟩) hS8 ?_
                  simp only [Act.put, List.setIfInBounds_toArray, List.set_cons_zero, List.set_cons_succ]
                  refine wpAnyH_done (by kernel_rfl) ?_ _
                  refine hJ _ _ ?_
                  go_meet
                  exact ⟨n, m, l, r, _, cj, rfl, rfl, rfl, HX5.out⟩
                · have hn0 : ¬ (0 : Int) < (n : Int) := by omega
                  have HX5 : Hid (AB w w4 tb h rb (.slice aj n cj) n (3000 + (j + 1)) (c + 0) l ∧ 0 ≤ 4 * (clN l + 1)) := ⟨FINW.out _ 0 _ _ _ _ HE.out (fun b T cs hb _ _ _ _ => hb) (Nat.zero_le _), Nat.zero_le _⟩
                  clear hc4 x0 x1
                  go_wp2
                  go_meet
                  exact ⟨n, 0, l, 0, aj, cj, rfl, rfl, rfl, HX5.out.1, HX5.out.2, .inl rfl⟩
            case rest =>
              obtain ⟨n', m, l', r, aj', cj', rfl, rfl, rfl, HZ⟩ := hcut
              clear H4 hc4
              have HZ1 : Hid (AB w wc tb h rb (.slice aj' n' cj') n' (3000 + (j + 1)) (c + m) l') := HZ.out.1
              have HM : Hid (m ≤ 4 * (clN l + 1) ∧ clN l ≤ 30) := ⟨HZ.out.2.1, clN_le (by have := HU.out; omega)⟩
              have hr := HZ.out.2.2
              have ct : wc.cell? ⟨tb, 0, none⟩ = some (.int .i64 ((c + m : Nat) : Int)) := (HZ1.out.ty (by omega)).cell 0
              have hmo := most_any l (l : Int) rfl (by have := HU.out; omega)
              have hsub : IntKind.i64.wrap (((c + m : Nat) : Int) - (c : Int)) = (m : Int) := by rw [IntKind.wrap_i64]; have := HM.out; omega
              clear HZ
              generalize clN l = kk at *
              have hgt : ¬ (4 * ((kk : Int) + 1)) < (m : Int) := by have := HM.out; omega
              have hgd : decide ((4 * ((kk : Int) + 1)) < (m : Int)) = false := by simpa using hgt
              generalize hcm : c + m = cc at *
              go_upto_region 40 with fail
              go_cut [186] from 166 to 186 (fun x186 wx => x186 = .bool false ∧ Hid (AB w wx tb h rb (.slice aj' n' cj') n' (3000 + (j + 1)) cc l'))
              case first => as_aux_lemma =>
                rcases hr with rfl | rfl | rfl
                all_goals
                  go_quiet ((go_at_call 32; refine Calls.quiet_of_same (hmo _)))
                  go_wp2
                  go_meet
                  exact ⟨rfl, HZ1.out.sm ((Fr.refl _ _).drewN _)⟩
              case rest =>
                obtain ⟨rfl, HZ2⟩ := hcut
                clear HZ1 ct hmo hsub hgt hgd hcm hr HM
                have ct : wc.cell? ⟨tb, 0, none⟩ = some (.int .i64 (cc : Int)) := (HZ2.out.ty (by omega)).cell 0
                obtain ⟨⟨v5, L5, N5, P5, E5⟩, _⟩ := HZ2.out
                have hpe := Peek_any E5.hp
                clear E5
                go_wp2_with (go_at_call 37; fail)
                refine hpe.mono ?_
                rintro e w6 ⟨⟨rv, rfl⟩, hf6⟩
                have HZ3 : Hid (AB w w6 tb h rb (.slice aj' n' cj') n' (3000 + (j + 1)) cc l') := HZ2.out.sm hf6
                clear hf6 hpe ct HZ2
                by_cases hn : 0 < n'
                · as_aux_lemma =>
                  have hn0 : (0 : Int) < (n' : Int) := by omega
                  have hn1 : 0 < n' := hn
                  obtain ⟨⟨v6, L6, N6, P6, E6⟩, _⟩ := HZ3.out
                  obtain ⟨g, goff, gcap, cur, hv2, _⟩ := E6.it.more (by omega)
                  injection hv2 with e1 _ e2
                  subst e1 e2
                  obtain ⟨p, hpP, hpc⟩ := E6.cell hn
                  rw [Nat.add_zero] at hpc
                  have hva := Value_E E6 hpP
                  clear E6 hpP
                  go_wp2_with (go_at_call 38; fail)
                  refine hva.mono ?_
                  rintro e w7 ⟨⟨rv2, rfl⟩, hf7⟩
                  have HZ4 : Hid (AB w w7 tb h rb (.slice (some ⟨g, goff, none⟩) n' cj') n' (3000 + (j + 1)) cc l') := HZ3.out.sm hf7
                  clear hf7 hva hpc HZ3
                  have ct : w7.cell? ⟨tb, 0, none⟩ = some (.int .i64 (cc : Int)) := (HZ4.out.ty (by omega)).cell 0
                  obtain ⟨⟨v7, L7, N7, P7, E7⟩, _⟩ := HZ4.out
                  have hle := Len_E E7
                  clear E7
                  go_wp2_with (go_at_call 33; refine hle.mono ?_; rintro e w1 ⟨rfl, ew⟩; replace ew := ew.symm; subst ew)
                  exact ⟨⟨j + 1, n', cc, l', _, cj', by omega, by go_num, rfl, rfl, HZ4.out⟩, by simp [RowKit.intOf]; omega⟩
                · as_aux_lemma =>
                  have hn0 : ¬ (0 : Int) < (n' : Int) := by omega
                  have ct : w6.cell? ⟨tb, 0, none⟩ = some (.int .i64 (cc : Int)) := (HZ3.out.ty (by omega)).cell 0
                  obtain ⟨⟨v7, L7, N7, P7, E7⟩, _⟩ := HZ3.out
                  have hle := Len_E E7
                  clear E7
                  go_wp2_with (go_at_call 33; refine hle.mono ?_; rintro e w1 ⟨rfl, ew⟩; replace ew := ew.symm; subst ew)
                  exact ⟨⟨j + 1, n', cc, l', aj', cj', by omega, by go_num, rfl, rfl, HZ3.out⟩, by simp [RowKit.intOf]; omega⟩
          · have hcond2 : ¬ ((j : Int) < (l2 : Int) ∧ (j : Int) < 1000) := fun q => hgo ⟨by omega, by omega⟩
            clear hi1 hx0 hx1 hx2 i1
            go_upto_region 18 with fail
            go_cut [81] from 74 to 81 (fun x81 wx => x81 = .bool false ∧ wx = wr)
            case first => as_aux_lemma =>
              by_cases q1 : (j : Int) < (l2 : Int)
              · have q2 : ¬ (j : Int) < 1000 := fun q => hcond2 ⟨q1, q⟩
                go_wp2
                go_meet
                exact ⟨rfl, rfl⟩
              · go_wp2
                go_meet
                exact ⟨rfl, rfl⟩
            case rest =>
              obtain ⟨rfl, hw⟩ := hcut
              subst hw
              clear hcond2 hgo
              have ct : wc.cell? ⟨tb, 0, none⟩ = some (.int .i64 (c : Int)) := (HQ.out.ty (by omega)).cell 0
              have HBD : Hid (l ≤ 4000 ∧ c ≤ 200 * 4000) := by have := HQ.out.bd; exact ⟨by omega, by omega⟩
              obtain ⟨⟨v0, L0, N0, P0, E0⟩, hR, hR2, _⟩ := HQ.out
              have hle := Len_E E0
              have HE : Hid (AI w wc tb h (.slice aj n cj) n (3000 + j) c l v0 L0 N0 P0 ∧ Blk wc rb 4 #[.bool false] ∧ w.heap.size ≤ rb) := ⟨E0, hR, hR2⟩
              clear E0 hR hR2 HQ
              have htl : tb < wc.heap.size := HE.out.1.tally.lt
              have hall := All_any h ((wc.alloc (.cells #[.int .i64 0, .pointer none] 65)).alloc (.cells #[.int .i64 0] 3))
              rw [show ((wc.alloc (.cells #[.int .i64 0, .pointer none] 65)).alloc (.cells #[.int .i64 0] 3)).heap.size = wc.heap.size + 2 by simp] at hall
              go_wp2_with (first | (go_at_call 33; refine hle.mono ?_; rintro e w1 ⟨rfl, ew⟩; replace ew := ew.symm; subst ew) | (go_at_call 39; fail))
              refine hall.mono ?_
              rintro e w4 ⟨rfl, rfl⟩
              clear hall hle ct
              go_wp2
              have F3 : Fr wc (((wc.alloc (.cells #[.int .i64 0, .pointer none] 65)).alloc (.cells #[.int .i64 0] 3)).alloc (.cells #[ptr h] 61)) (fun _ => False) := ((Fr.alloc wc _ (fun _ => False)).trans (Fr.alloc _ _ (fun _ => False)) (e3 := fun _ => False) fun _ _ q => by rcases q with q | q <;> exact q).trans (Fr.alloc _ _ (fun _ => False)) fun _ _ q => by rcases q with q | q <;> exact q
              have HW : Hid (AI w (((wc.alloc (.cells #[.int .i64 0, .pointer none] 65)).alloc (.cells #[.int .i64 0] 3)).alloc (.cells #[ptr h] 61)) tb h (.slice aj n cj) n (3000 + j) c l v0 L0 N0 P0 ∧ Blk (((wc.alloc (.cells #[.int .i64 0, .pointer none] 65)).alloc (.cells #[.int .i64 0] 3)).alloc (.cells #[ptr h] 61)) rb 4 #[.bool false] ∧ Blk (((wc.alloc (.cells #[.int .i64 0, .pointer none] 65)).alloc (.cells #[.int .i64 0] 3)).alloc (.cells #[ptr h] 61)) wc.heap.size 65 #[.int .i64 0, .pointer none] ∧ Blk (((wc.alloc (.cells #[.int .i64 0, .pointer none] 65)).alloc (.cells #[.int .i64 0] 3)).alloc (.cells #[ptr h] 61)) (wc.heap.size + 1) 3 #[.int .i64 0] ∧ Blk (((wc.alloc (.cells #[.int .i64 0, .pointer none] 65)).alloc (.cells #[.int .i64 0] 3)).alloc (.cells #[ptr h] 61)) (wc.heap.size + 2) 61 #[ptr h] ∧ w.heap.size ≤ wc.heap.size ∧ (((wc.alloc (.cells #[.int .i64 0, .pointer none] 65)).alloc (.cells #[.int .i64 0] 3)).alloc (.cells #[ptr h] 61)).heap.size = wc.heap.size + 3 ∧ w.heap.size ≤ rb ∧ tb < wc.heap.size) :=
                ⟨HE.out.1.sm F3, HE.out.2.1.fr F3 (fun q => q), ((Blk.new wc _ _).alloc _).alloc _, (Blk.new' (wc.alloc (.cells #[.int .i64 0, .pointer none] 65)) _ _ (by simp)).alloc _, Blk.new' ((wc.alloc (.cells #[.int .i64 0, .pointer none] 65)).alloc (.cells #[.int .i64 0] 3)) _ _ (by simp), HE.out.1.fr.size, by simp, HE.out.2.2, htl⟩
              clear F3 HE htl
              generalize ((wc.alloc (.cells #[.int .i64 0, .pointer none] 65)).alloc (.cells #[.int .i64 0] 3)).alloc (.cells #[ptr h] 61) = wl at *
              generalize hgb : wc.heap.size + 1 = gb at *
              generalize hbb : wc.heap.size + 2 = bb at *
              generalize hlb : wc.heap.size = lb at *
              have HN : Hid ((lb < wl.heap.size ∧ lb ≠ tb) ∧ (gb < wl.heap.size ∧ gb ≠ tb) ∧ tb < wl.heap.size ∧ w.heap.size ≤ wl.heap.size ∧ gb ≠ rb ∧ rb ≠ lb ∧ rb ≠ tb ∧ rb < wl.heap.size ∧ w.heap.size ≤ gb) := by
                obtain ⟨q1, q2, q3, q4, q5, q6, q7, q8, q9⟩ := HW.out
                exact ⟨⟨by omega, by omega⟩, ⟨by omega, by omega⟩, by omega, by omega, q4.neT q2 (by decide), q2.neT q3 (by decide), q2.neT q1.tally (by decide), q2.lt, by omega⟩
              clear hgb hbb hlb
              obtain ⟨xs, hxs⟩ : ∃ xs, L0.map (·.x) = xs := ⟨_, rfl⟩
              have HXS : Hid (L0.map (·.x) = xs ∧ xs.length = l) := ⟨hxs, by rw [← hxs, List.length_map, HW.out.1.bd.2.2.2.2]⟩
              clear hxs
              refine (wpIn_wide (n := 3)).1 ?_
              refine range_law (n := 3) (by decide) (gf := 63) (lb := #[ptr bb]) rfl cfA (all_itr tb h bb c xs) (fun b => b < wl.heap.size ∧ b ≠ tb) ?hC ?hSs (fun _ => rfl)
                (fun pre W M => GI wl W tb lb gb pre M) (fun _ _ _ => False) (GI.abid HN.out.1 HN.out.2.1) (fun _ _ _ _ q _ => q) ⟨Fr.refl _ _, HW.out.2.2.1, HW.out.2.2.2.1, fun _ => Iff.rfl⟩
                (fun x a' W => ∃ xb, Blk W xb 65 #[.int .i64 x.k, ptr tb] ∧ wl.heap.size ≤ xb ∧ ∃ z : Nat → Value, a' = { tmps := FrA lb gb xb z, defers := [] }) ?hAx ?hassign ?hbody ?hdone ?hstop
              case hC =>
                intro q q'
                have F2 : Fr wl ((wl.alloc q).alloc q') (fun _ => False) := (Fr.alloc _ _ (fun _ => False)).trans (Fr.alloc _ _ (fun _ => False)) fun _ _ q => by rcases q with q | q <;> exact q
                refine ⟨v0, L0, N0, HW.out.1.hp.sm F2, (HW.out.2.2.2.2.1.alloc _).alloc _, HXS.out.1, fun hq => ?_⟩
                have h1 := HN.out.2.2.1
                rcases hq with hq | hq | hq
                · exact hq.2 rfl
                · omega
                · omega
              case hSs =>
                rintro pre W W' r ⟨q1, c', q2, q3⟩ hl hf
                exact ⟨q1, c', Blk.fr q2 hf (fun e => by have := HN.out.2.2.1; omega), q3⟩
              case hAx =>
                rintro x a' W W' r ⟨xb, hxb, hlo, hz⟩ hl hf
                refine ⟨xb, hxb.fr hf fun e => ?_, hlo, hz⟩
                rw [← e] at hl
                unfold Blk at hxb
                rw [hxb] at hl
                cases hl
              case hassign => as_aux_lemma =>
                intro pre x W M K hi hK
                dsimp only [encC]
                gi_wp2
                exact hK _ _ (Fr.alloc _ _ _) ⟨W.heap.size, Blk.new _ _ _, hi.fr.size, FrA.ex (by kernel_rfl)⟩
              case hbody => as_aux_lemma =>
                rintro pre x a' W M H ⟨xb, hxb, hlo, z, rfl⟩ ⟨rest, hsp⟩
                dsimp only [FrA]
                have HST := H.step HN.out.1 HN.out.2.1 x (z := (pre.length : Int) + 1) (by rw [List.length_append]; simp)
                have hpl := hsp.len
                rw [List.length_append, List.length_singleton, HXS.out.2] at hpl
                have hp4 : pre.length ≤ 4000 := by have := HBD.out; omega
                have cg : W.cell? ⟨gb, 0, none⟩ = some (.int .i64 (pre.length : Int)) := H.go.cell 0
                have fg := H.go.frozen 0
                have f0 := H.la.frozen 0
                have f1 := H.la.frozen 1
                have x0 : W.cell? ⟨xb, 0, none⟩ = some (.int .i64 x.k) := hxb.cell 0
                have x1 : W.cell? ⟨xb, 1, none⟩ = some (ptr tb) := hxb.cell 1
                have hne1 : xb ≠ lb := by have := HN.out.1.1; omega
                have hne2 : xb ≠ gb := by have := HN.out.2.1.1; omega
                have hne3 : gb ≠ lb := H.go.neT H.la (by decide)
                have hb1 : (pre.length : Int) + 1 < 9223372036854775808 := by omega
                have HST2 : Hid _ := HST
                rcases List.eq_nil_or_concat pre with rfl | ⟨p0, y, rfl⟩
                · have c0 : W.cell? ⟨lb, 0, none⟩ = some (.int .i64 0) := H.la.cell 0
                  have c1 : W.cell? ⟨lb, 1, none⟩ = some (.pointer none) := H.la.cell 1
                  clear H HST hsp hxb hlo
                  gi_wp2
                  exact HST2.out
                · have hla := H.la
                  rw [List.concat_eq_append, lastC_snoc] at hla
                  have c0 : W.cell? ⟨lb, 0, none⟩ = some (.int .i64 y.k) := hla.cell 0
                  have c1 : W.cell? ⟨lb, 1, none⟩ = some (ptr tb) := hla.cell 1
                  rw [List.concat_eq_append] at hsp
                  have hnx : decide (x.k < y.k) = false := hsp.next
                  have hnx2 : ¬ x.k < y.k := by simpa using hnx
                  have hp0 : (0 : Int) < (((p0.concat y).length : Nat) : Int) := by rw [List.length_concat]; omega
                  clear H HST hsp hxb hlo hla hpl hp4
                  generalize p0.concat y = pre at *
                  generalize hLn : pre.length = ln at *
                  have hln : 0 < ln := by omega
                  generalize y.k = yk at *
                  clear y hLn
                  gi_wp2
                  exact HST2.out
              case hdone =>
                rintro pre W M ⟨hpop, c', hS', hc'⟩ H hdef
                have hpl := hpop.len
                rw [List.length_nil, Nat.add_zero, HXS.out.2] at hpl
                rw [HXS.out.2] at hc'
                have hbd := HBD.out
                have hcl := clN_le (n := l) (by omega)
                have hlg := log_rem l
                have hmul : l * (2 * Nat.log2 l + 1) ≤ max l 1 * (4 * (clN l + 1)) := Nat.mul_le_mul (Nat.le_max_left _ _) hlg
                have hmx : max l 1 * (4 * (clN l + 1)) ≤ 4000 * 124 := Nat.mul_le_mul (by omega) (by omega)
                have htc : Blk W tb 68 #[.int .i64 (c' : Int)] := by
                  have h1 : Blk W tb 68 #[.int .i64 (wrap64 (c' : Int))] := hS'
                  rw [show wrap64 (c' : Int) = (c' : Int) by unfold wrap64; omega] at h1
                  exact h1
                have hrb : Blk W rb 4 #[.bool false] := HW.out.2.1.fr H.fr fun q => by
                  have := HN.out
                  rcases q with q | q | q | q <;> omega
                have hgo := H.go
                rw [hpl] at hgo
                have hmo := most_any l (l : Int) rfl (by omega)
                have hsub : IntKind.i64.wrap ((c' : Int) - (c : Int)) = (c' : Int) - (c : Int) := by rw [IntKind.wrap_i64]; omega
                have hmaxI : max (l : Int) 1 = ((max l 1 : Nat) : Int) := by omega
                have hprod : (((max l 1 : Nat) : Int) * (4 * ((clN l : Int) + 1))) = ((max l 1 * (4 * (clN l + 1)) : Nat) : Int) := by push_cast; rfl
                have hpr : IntKind.i64.wrap (((max l 1 : Nat) : Int) * (4 * ((clN l : Int) + 1))) = ((max l 1 * (4 * (clN l + 1)) : Nat) : Int) := by rw [hprod, IntKind.wrap_i64]; omega
                have hleq : (c' : Int) - (c : Int) ≤ ((max l 1 * (4 * (clN l + 1)) : Nat) : Int) := by omega
                have hfl : Fr w W (fun b => w.heap.size ≤ b) := HW.out.1.fr.trans H.fr fun b _ q => by
                  have h1 := HW.out
                  have h2 := HN.out
                  rcases q with q | q | q | q | q
                  · exact q
                  · rw [q]; exact HW.out.1.tl
                  · omega
                  · have h3 := HW.out.2.2.2.2.2.1
                    omega
                  · omega
                have HD : Hid (Blk W tb 68 #[.int .i64 (c' : Int)] ∧ Blk W rb 4 #[.bool false] ∧ Blk W gb 3 #[.int .i64 (l : Int)] ∧ Fr w W (fun b => w.heap.size ≤ b) ∧ W.heap[wl.heap.size]? = some (.deferred (some []))) := ⟨htc, hrb, hgo, hfl, hdef⟩
                clear htc hrb hgo hfl hdef hS' hc' hpop hpl H hbd hcl hlg hmul hmx hprod
                generalize clN l = kk at *
                go_upto_region 58 with fail
                rename_i Kd hKd
                refine wp_mono (Q := Exit.then Kd (fun _ _ _ => False)) ?_ (fun e a w hh => by cases e <;> first | exact hh | exact hh.elim)
                refine wp_region_held (S := fun w' => w'.cell? ⟨gb, 0, none⟩ = some (.int .i64 (l : Int)) ∧ w'.cell? ⟨tb, 0, none⟩ = some (.int .i64 (c' : Int)) ∧ (∃ bv, w'.cell? ⟨rb, 0, none⟩ = some (.bool bv)) ∧ w'.frozen? ⟨rb, 0, none⟩ = false) (by kernel_rfl) ?_
                change wpAnyH _ _ _ _ _ _ _ _ (World.drew _)
                have HD6 : Hid (Blk W.drew tb 68 #[.int .i64 (c' : Int)] ∧ Blk W.drew rb 4 #[.bool false] ∧ Blk W.drew gb 3 #[.int .i64 (l : Int)] ∧ Fr w W.drew (fun b => w.heap.size ≤ b) ∧ W.drew.heap[wl.heap.size]? = some (.deferred (some []))) := by
                  obtain ⟨q1, q2, q3, q4, q5⟩ := HD.out
                  exact ⟨q1, q2, q3, q4.drew, q5⟩
                clear HD
                generalize W.drew = w6 at *
                have hS : (w6.cell? ⟨gb, 0, none⟩ = some (.int .i64 (l : Int)) ∧ w6.cell? ⟨tb, 0, none⟩ = some (.int .i64 (c' : Int)) ∧ (∃ bv, w6.cell? ⟨rb, 0, none⟩ = some (.bool bv)) ∧ w6.frozen? ⟨rb, 0, none⟩ = false) := ⟨HD6.out.2.2.1.cell 0, HD6.out.1.cell 0, ⟨false, HD6.out.2.1.cell 0⟩, HD6.out.2.1.frozen 0⟩
                refine takeR (i := 0) (v := .int .i64 (l : Int)) (some 234) rfl rfl (by kernel_rfl) (by kernel_rfl) (by kernel_rfl) (fun _ _ _ h => h) (Or.inl ⟨by kernel_rfl, fun w' hSw => by have q := hSw.1; clear hSw; go_simp⟩) hS ?_
                simp only [Act.put, List.setIfInBounds_toArray, List.set_cons_zero, List.set_cons_succ]
                refine takeR (i := 1) (v := .int .i64 (l : Int)) (some 235) rfl rfl (by kernel_rfl) (by kernel_rfl) (by kernel_rfl) (fun _ _ _ h => h) (Or.inl ⟨by kernel_rfl, fun w' hSw => by kernel_rfl⟩) hS ?_
                simp only [Act.put, List.setIfInBounds_toArray, List.set_cons_zero, List.set_cons_succ]
                refine takeR (i := 2) (v := .bool true) (some 236) rfl rfl (by kernel_rfl) (by kernel_rfl) (by kernel_rfl) (fun _ _ _ h => h) (Or.inl ⟨by kernel_rfl, fun w' hSw => by clear hSw; go_simp⟩) hS ?_
                simp only [Act.put, List.setIfInBounds_toArray, List.set_cons_zero, List.set_cons_succ]
                refine takeR (i := 3) (v := .bool true) (some 237) rfl rfl (by kernel_rfl) (by kernel_rfl) (by kernel_rfl) (fun _ _ _ h => h) (Or.inl ⟨by kernel_rfl, fun w' hSw => by kernel_rfl⟩) hS ?_
                simp only [Act.put, List.setIfInBounds_toArray, List.set_cons_zero, List.set_cons_succ]
                refine takeR (i := 4) (v := .pointer (some ⟨tb, 0, none⟩)) (some 238) rfl rfl (by kernel_rfl) (by kernel_rfl) (by kernel_rfl) (fun _ _ _ h => h) (Or.inl ⟨by kernel_rfl, fun w' hSw => by kernel_rfl⟩) hS ?_
                simp only [Act.put, List.setIfInBounds_toArray, List.set_cons_zero, List.set_cons_succ]
                refine takeR (i := 5) (v := .pointer (some ⟨tb, 0, none⟩)) (some 239) rfl rfl (by kernel_rfl) (by kernel_rfl) (by kernel_rfl) (fun _ _ _ h => h) (Or.inl ⟨by kernel_rfl, fun w' hSw => by kernel_rfl⟩) hS ?_
                simp only [Act.put, List.setIfInBounds_toArray, List.set_cons_zero, List.set_cons_succ]
                refine takeR (i := 6) (v := .pointer (some ⟨tb, 0, none⟩)) (some 240) rfl rfl (by kernel_rfl) (by kernel_rfl) (by kernel_rfl) (fun _ _ _ h => h) (Or.inl ⟨by kernel_rfl, fun w' hSw => by kernel_rfl⟩) hS ?_
                simp only [Act.put, List.setIfInBounds_toArray, List.set_cons_zero, List.set_cons_succ]
                refine takeR (i := 7) (v := .int .i64 (c' : Int)) (some 241) rfl rfl (by kernel_rfl) (by kernel_rfl) (by kernel_rfl) (fun _ _ _ h => h) (Or.inl ⟨by kernel_rfl, fun w' hSw => by have q := hSw.2.1; clear hSw; go_simp⟩) hS ?_
                simp only [Act.put, List.setIfInBounds_toArray, List.set_cons_zero, List.set_cons_succ]
                refine takeR (i := 8) (v := .int .i64 (c : Int)) (some 242) rfl rfl (by kernel_rfl) (by kernel_rfl) (by kernel_rfl) (fun _ _ _ h => h) (Or.inl ⟨by kernel_rfl, fun w' hSw => by kernel_rfl⟩) hS ?_
                simp only [Act.put, List.setIfInBounds_toArray, List.set_cons_zero, List.set_cons_succ]
                refine takeR (i := 9) (v := .int .i64 ((c' : Int) - (c : Int))) (some 243) rfl rfl (by kernel_rfl) (by kernel_rfl) (by kernel_rfl) (fun _ _ _ h => h) (Or.inl ⟨by kernel_rfl, fun w' hSw => by clear hSw; go_simp; try exact hsub⟩) hS ?_
                simp only [Act.put, List.setIfInBounds_toArray, List.set_cons_zero, List.set_cons_succ]
                refine takeR (i := 10) (v := .int .i64 (l : Int)) (some 244) rfl rfl (by kernel_rfl) (by kernel_rfl) (by kernel_rfl) (fun _ _ _ h => h) (Or.inl ⟨by kernel_rfl, fun w' hSw => by kernel_rfl⟩) hS ?_
                simp only [Act.put, List.setIfInBounds_toArray, List.set_cons_zero, List.set_cons_succ]
                refine takeR (i := 11) (v := .int .i64 ((max l 1 : Nat) : Int)) (some 245) rfl rfl (by kernel_rfl) (by kernel_rfl) (by kernel_rfl) (fun _ _ _ h => h) (Or.inl ⟨by kernel_rfl, fun w' hSw => by clear hSw; go_simp; try exact hmaxI⟩) hS ?_
                simp only [Act.put, List.setIfInBounds_toArray, List.set_cons_zero, List.set_cons_succ]
                refine takeR (i := 12) (v := .int .i64 (l : Int)) (some 246) rfl rfl (by kernel_rfl) (by kernel_rfl) (by kernel_rfl) (fun _ _ _ h => h) (Or.inl ⟨by kernel_rfl, fun w' hSw => by kernel_rfl⟩) hS ?_
                simp only [Act.put, List.setIfInBounds_toArray, List.set_cons_zero, List.set_cons_succ]
                refine wpAnyH_ready (rs := [13]) (by kernel_rfl) (by simp) ?_
                refine AllReadyH.cons rfl (fun K1 hK1 => ?_) AllReadyH.nil
                rw [if_pos (by kernel_rfl)]
                refine callR (d := some 247) rfl 32 #[.int .i64 (l : Int)] (by kernel_rfl) (hmo w6) ?_
                rintro e w7 ⟨rfl, ew⟩
                replace ew := ew.symm
                subst ew
                refine ⟨_, rfl, ?_⟩
                refine hK1.out _ _ hS (fun _ => ?_)
                clear hK1 hmo
                simp only [Act.put, List.setIfInBounds_toArray, List.set_cons_zero, List.set_cons_succ]
                refine takeR (i := 14) (v := .int .i64 ((max l 1 * (4 * (kk + 1)) : Nat) : Int)) (some 248) rfl rfl (by kernel_rfl) (by kernel_rfl) (by kernel_rfl) (fun _ _ _ h => h) (Or.inl ⟨by kernel_rfl, fun w' hSw => by clear hSw; go_simp; try exact hpr⟩) hS ?_
                simp only [Act.put, List.setIfInBounds_toArray, List.set_cons_zero, List.set_cons_succ]
                refine takeR (i := 15) (v := .bool true) (some 249) rfl rfl (by kernel_rfl) (by kernel_rfl) (by kernel_rfl) (fun _ _ _ h => h) (Or.inl ⟨by kernel_rfl, fun w' hSw => by clear hSw; go_simp; try exact hleq⟩) hS ?_
                simp only [Act.put, List.setIfInBounds_toArray, List.set_cons_zero, List.set_cons_succ]
                refine takeR (i := 16) (v := .bool true) (some 250) rfl rfl (by kernel_rfl) (by kernel_rfl) (by kernel_rfl) (fun _ _ _ h => h) (Or.inl ⟨by kernel_rfl, fun w' hSw => by kernel_rfl⟩) hS ?_
                simp only [Act.put, List.setIfInBounds_toArray, List.set_cons_zero, List.set_cons_succ]
                refine wpAnyH_ready (rs := [17]) (by kernel_rfl) (by simp) ?_
                refine AllReadyH.cons rfl (fun K1 hK1 => ?_) AllReadyH.nil
                rw [if_pos (by kernel_rfl)]
                refine skipR (d := none) rfl (w' := w6.setCell ⟨rb, 0, none⟩ (.bool true)) (by obtain ⟨bv, q⟩ := hS.2.2.1; have q' := hS.2.2.2; clear hS; go_simp) ?_
                have FS : Fr w6 (w6.setCell ⟨rb, 0, none⟩ (.bool true)) (fun b => b = rb) := Fr.setCell _ _ _ _ rfl
                have HD7 : Hid (Blk (w6.setCell ⟨rb, 0, none⟩ (.bool true)) rb 4 #[.bool true] ∧ Fr w (w6.setCell ⟨rb, 0, none⟩ (.bool true)) (fun b => w.heap.size ≤ b) ∧ (w6.setCell ⟨rb, 0, none⟩ (.bool true)).heap[wl.heap.size]? = some (.deferred (some []))) := by
                  obtain ⟨q1, q2, q3, q4, q5⟩ := HD6.out
                  refine ⟨q2.set 0 _, q4.trans FS fun b _ q => ?_, (FS.block _ (Array.getElem?_eq_some_iff.1 q5).1 fun e => ?_).trans q5⟩
                  · rcases q with q | q
                    · exact q
                    · rw [q]; exact HW.out.2.2.2.2.2.2.2.1
                  · have := HN.out
                    omega
                have hS7 : ((w6.setCell ⟨rb, 0, none⟩ (.bool true)).cell? ⟨gb, 0, none⟩ = some (.int .i64 (l : Int)) ∧ (w6.setCell ⟨rb, 0, none⟩ (.bool true)).cell? ⟨tb, 0, none⟩ = some (.int .i64 (c' : Int)) ∧ (∃ bv, (w6.setCell ⟨rb, 0, none⟩ (.bool true)).cell? ⟨rb, 0, none⟩ = some (.bool bv)) ∧ (w6.setCell ⟨rb, 0, none⟩ (.bool true)).frozen? ⟨rb, 0, none⟩ = false) := by
                  obtain ⟨q1, q2, q3, q4, q5⟩ := HD6.out
                  have h9 := HN.out
                  exact ⟨(q3.fr FS (fun e => by omega)).cell 0, (q1.fr FS (fun e => by omega)).cell 0, ⟨true, HD7.out.1.cell 0⟩, HD7.out.1.frozen 0⟩
                refine hK1.out _ _ hS7 (fun _ => ?_)
                clear hK1 hS hS7 FS HD6
                simp only [Act.put, List.setIfInBounds_toArray, List.set_cons_zero, List.set_cons_succ]
                refine wpAnyH_done (by kernel_rfl) ?_ _
                refine hKd _ _ ?_
                clear hKd
                generalize w6.setCell ⟨rb, 0, none⟩ (.bool true) = w8 at *
                go_wp2
                rw [HQF.out]
                refine ⟨by simp, .inl ⟨_, _, rfl, run_takeDeferred HD7.out.2.2, ?_⟩⟩
                have F9 := fr_put w8 wl.heap.size (.deferred none)
                have hne : rb ≠ wl.heap.size := fun e => by have := HN.out; omega
                have hbl : Below w.heap.size w (w8.putObj wl.heap.size (.deferred none)) := below_of (HD7.out.2.1.trans F9 fun b _ q => by
                  rcases q with q | q
                  · exact q
                  · have := HN.out; omega)
                rw [HRB.out] at hbl
                exact ⟨_, results_bool rfl _ _ rfl ((HD7.out.1.fr F9 hne).cell 0), rfl, hbl⟩
              case hstop =>
                rintro c pre W _ hq _
                exact hq.elim
end Go.Proofs.Ytdnhhcbabdoomaa.C
