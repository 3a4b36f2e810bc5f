/-
  HeapEnds: the walk.
-/
import Derived.Test.YtdnhhcbabdoomaaHIEnd1
import Derived.Deep.CutBlock
namespace Go.Proofs.Ytdnhhcbabdoomaa.I
set_option linter.unusedVariables false
set_option linter.unusedSimpArgs false
open Go.RowKit Go.Great Go.Shelf

attribute [local go_sem] Oper.semAt_some

/-- The law's frame: what counts of it in the second loop. -/
def FrE (db h : Nat) (v9 : Value) (ib : Nat) (y : Nat → Value) : Array Value := List.toArray (y 0 :: y 1 :: y 2 :: y 3 :: y 4 :: ptr db :: y 6 :: y 7 :: ptr h :: v9 :: y 10 :: ptr ib :: y 12 :: y 13 :: y 14 :: y 15 :: y 16 :: y 17 :: y 18 :: y 19 :: y 20 :: y 21 :: y 22 :: y 23 :: y 24 :: y 25 :: y 26 :: y 27 :: y 28 :: y 29 :: y 30 :: y 31 :: y 32 :: y 33 :: y 34 :: y 35 :: y 36 :: y 37 :: y 38 :: y 39 :: y 40 :: y 41 :: y 42 :: y 43 :: y 44 :: y 45 :: y 46 :: y 47 :: y 48 :: y 49 :: y 50 :: y 51 :: y 52 :: y 53 :: y 54 :: y 55 :: y 56 :: y 57 :: y 58 :: y 59 :: y 60 :: y 61 :: y 62 :: y 63 :: y 64 :: y 65 :: y 66 :: y 67 :: y 68 :: y 69 :: y 70 :: y 71 :: y 72 :: y 73 :: y 74 :: y 75 :: y 76 :: y 77 :: y 78 :: y 79 :: y 80 :: y 81 :: y 82 :: y 83 :: y 84 :: y 85 :: y 86 :: y 87 :: y 88 :: y 89 :: y 90 :: y 91 :: y 92 :: y 93 :: y 94 :: y 95 :: y 96 :: y 97 :: y 98 :: y 99 :: y 100 :: y 101 :: y 102 :: y 103 :: y 104 :: y 105 :: y 106 :: y 107 :: y 108 :: y 109 :: y 110 :: y 111 :: y 112 :: y 113 :: y 114 :: y 115 :: y 116 :: y 117 :: y 118 :: y 119 :: y 120 :: y 121 :: y 122 :: [])
/-- Where the second loop stands. -/
def I2 (w : World) (o h db : Nat) (dv : Value) (a : Act) (W : World) : Prop := ∃ (j n : Nat) (aj : Option Addr) (cj ib : Nat) (Ds : List Nat) (y : Nat → Value), a = { tmps := FrE db h (.slice aj n cj) ib y, defers := Ds.map mkD } ∧ j ≤ 300 ∧ Hid (EB w W o h (.slice aj n cj) n (500 + j) Ds ∧ Blk W db 22 #[dv] ∧ Blk W ib 3 #[.int .i64 (j : Int)] ∧ w.heap.size ≤ db ∧ w.heap.size ≤ ib)
theorem I2.of {w : World} {o h db : Nat} {dv : Value} {tm : Array Value} {W : World} {j n : Nat} {aj : Option Addr} {cj ib : Nat} {Ds : List Nat} (e : tm = FrE db h (.slice aj n cj) ib (fun k => tm.getD k undef)) (hj : j ≤ 300)
    (HQ : Hid (EB w W o h (.slice aj n cj) n (500 + j) Ds ∧ Blk W db 22 #[dv] ∧ Blk W ib 3 #[.int .i64 (j : Int)] ∧ w.heap.size ≤ db ∧ w.heap.size ≤ ib)) : I2 w o h db dv { tmps := tm, defers := Ds.map mkD } W :=
  ⟨j, n, aj, cj, ib, Ds, _, congrArg (fun t => ({ tmps := t, defers := Ds.map mkD } : Act)) e, hj, HQ⟩
theorem FrE.ex {tm : Array Value} {db h : Nat} {v9 : Value} {ib : Nat} (e : tm = FrE db h v9 ib (fun k => tm.getD k undef)) : ∃ z : Nat → Value, ({ tmps := tm, defers := [] } : Act) = { tmps := FrE db h v9 ib z, defers := [] } :=
  ⟨_, congrArg (fun t => ({ tmps := t, defers := [] } : Act)) e⟩
/-- How many deeds are done with. -/
def jN (a : Act) (W : World) : Nat := match a.tmps.getD 11 undef with
  | .pointer (some p) => (match W.cell? p with
    | some (.int _ z) => z.toNat
    | _ => 0)
  | _ => 0
theorem jN_of {a : Act} {W : World} {p : Addr} {j : Nat} (h1 : a.tmps.getD 11 undef = .pointer (some p)) (h2 : W.cell? p = some (.int .i64 (j : Int))) : jN a W = j := by
  unfold jN; rw [h1]; simp [h2]

set_option maxRecDepth 100000 in
set_option maxHeartbeats 8000000 in
theorem HeapEnds_law (oz : Int) (ho0 : -9223372036854775808 ≤ oz) (ho1 : oz ≤ 9223372036854775807) (a1 : Option Addr) (l1 c1 : Nat) (d : Nat → Int) (hl1 : l1 ≤ maxLen) (a2 : Option Addr) (l2 c2 : Nat) (u : Nat → Int) (hl2 : l2 ≤ maxLen) (w : World) (hs1 : SrcI w a1 l1 d) (hs2 : SrcI w a2 l2 u) :
    Calls Try.prog 5 #[.int .i64 oz, .slice a1 l1 c1, .slice a2 l2 c2] w fun e w' => e = .returned (.bool true) ∧ Below w.heap.size w w' := by
  have HS : Hid (SrcI w a1 l1 d ∧ SrcI w a2 l2 u ∧ l1 ≤ maxLen ∧ l2 ≤ maxLen) := ⟨hs1, hs2, hl1, hl2⟩
  have hpk : ∀ w, Calls Try.prog 9 #[.int .i64 oz, .int .i64 2] w fun e w' => e = .returned (.int .i64 (pickN oz 2 : Int)) ∧ w' = w := fun w => pick_any oz 2 2 rfl w (by decide) (by decide) ho0 ho1
  generalize pickN oz 2 = o at *
  clear hs1 hs2 hl1 hl2 ho0 ho1
  refine (callsIn_wide (n := 3)).1 ?_
  refine callsIn_of_wp_marks Try.func5 rfl trivial ?_ rfl
  simp only [Try.ntmps5, List.size_toArray, List.length_cons, List.length_nil, Nat.reduceAdd, Nat.reduceSub, Array.replicate_succ, Array.replicate_zero, List.push_toArray, List.append_toArray, List.nil_append, List.cons_append]
  obtain ⟨Qf, hQf⟩ : ∃ Q, Q = bodyPostM Fence.wide 3 Try.prog Try.f5 (fun e w' => e = .returned (.bool true) ∧ Below w.heap.size w w') := ⟨_, rfl⟩
  rw [← hQf]
  have HQF : Hid (Qf = bodyPostM Fence.wide 3 Try.prog Try.f5 (fun e w' => e = .returned (.bool true) ∧ Below w.heap.size w w')) := hQf
  clear hQf
  refine wpIn_wide.2 ?_
  have hb0 : Blk (w.alloc (.cells #[.slice a2 l2 c2] 22)) w.heap.size 22 #[.slice a2 l2 c2] := Blk.new _ _ _
  have hsh := shown_any (w.alloc (.cells #[.slice a2 l2 c2] 22))
  have hF0 : Fr w (w.alloc (.cells #[.slice a2 l2 c2] 22)) (fun _ => False) := Fr.alloc _ _ _
  have H0 : Hid (Blk (w.alloc (.cells #[.slice a2 l2 c2] 22)) w.heap.size 22 #[.slice a2 l2 c2] ∧ Fr w (w.alloc (.cells #[.slice a2 l2 c2] 22)) (fun _ => False)) := ⟨hb0, hF0⟩
  clear hb0 hF0
  go_wp2_with (go_at_call 8; fail)
  refine hsh.mono ?_
  rintro e w1 ⟨rfl, hf1⟩
  have H1 : Hid (Blk w1 w.heap.size 22 #[.slice a2 l2 c2] ∧ Fr w w1 (fun _ => False)) := ⟨H0.out.1.fr hf1 (fun q => q), H0.out.2.trans hf1 fun _ _ q => by rcases q with q | q <;> exact q⟩
  clear hf1 hsh H0
  have hn1 := New_any (A := askE 0) (w := w1) (c := 0) (askE_ok 0 (by decide)) trivial
  simp only [askE] at hn1
  go_wp2_with (go_at_call 19; fail)
  refine hn1.mono ?_
  rintro e w2 ⟨rfl, h1, h2⟩
  have H2 : Hid (Blk w2 w.heap.size 22 #[.slice a2 l2 c2] ∧ Fr w w2 (fun _ => False) ∧ HpO 0 w.heap.size w2 w1.heap.size (.slice none 0 0) [] 0) := by
    refine ⟨H1.out.1.fr h2 (fun q => q), H1.out.2.trans h2 (fun _ _ q => by rcases q with q | q <;> exact q), ⟨0, h1⟩, fun b hb => ?_, by decide⟩
    have hsz := H1.out.2.size
    rcases hb with q | q | ⟨_, q, _⟩
    · omega
    · cases q
    · cases q
  clear h1 h2 hn1 H1
  generalize w1.heap.size = h0 at *
  go_upto_region 3 with fail
  go_cut [17] from 15 to 17 (fun x17 wx => x17 = .bool ((o : Int) == 1) ∧ wx = w2)
  case first => as_aux_lemma =>
    go_wp2_with (go_at_call 9; refine (hpk _).mono ?_; rintro e w1 ⟨rfl, rfl⟩)
    go_meet
    exact ⟨rfl, rfl⟩
  case rest =>
    obtain ⟨rfl, hw⟩ := hcut
    subst hw
    rename_i K1 hK1 K2 hK2
    suffices REST : ∀ (o h db : Nat) (x15 x16 x17 x18 : Value) (wx : World), Hid (Blk wx db 22 #[.slice a2 l2 c2] ∧ Fr w wx (fun _ => False) ∧ HpO o w.heap.size wx h (.slice none 0 0) [] 0 ∧ w.heap.size ≤ db) → K1 { tmps := #[.int .i64 oz, .slice a1 l1 c1, .slice a2 l2 c2, undef, undef, .pointer (some ⟨db, 0, none⟩), .bool false, .bool true, ptr h, undef, undef, undef, undef, .bool true, ptr h0, x15, x16, x17, x18, undef, undef, undef, undef, undef, undef, undef, undef, undef, undef, undef, undef, undef, undef, undef, undef, undef, undef, undef, undef, undef, undef, undef, undef, undef, undef, undef, undef, undef, undef, undef, undef, undef, undef, undef, undef, undef, undef, undef, undef, undef, undef, undef, undef, undef, undef, undef, undef, undef, undef, undef, undef, undef, undef, undef, undef, undef, undef, undef, undef, undef, undef, undef, undef, undef, undef, undef, undef, undef, undef, undef, undef, undef, undef, undef, undef, undef, undef, undef, undef, undef, undef, undef, undef, undef, undef, undef, undef, undef, undef, undef, undef, undef, undef, undef, undef, undef, undef, undef, undef, undef, undef, undef, undef], defers := [] } wx by
      by_cases ho : o = 1
      · subst ho
        have hn1 := New_any (A := askE 1) (w := wc) (c := 0) (askE_ok 1 (by decide)) trivial
        simp only [askE] at hn1
        go_wp2_with (go_at_call 19; fail)
        refine hn1.mono ?_
        rintro e w2 ⟨rfl, h1, h2⟩
        have H3 : Hid (Blk w2 w.heap.size 22 #[.slice a2 l2 c2] ∧ Fr w w2 (fun _ => False) ∧ HpO 1 w.heap.size w2 wc.heap.size (.slice none 0 0) [] 0) := by
          refine ⟨H2.out.1.fr h2 (fun q => q), H2.out.2.1.trans h2 (fun _ _ q => by rcases q with q | q <;> exact q), ⟨0, h1⟩, fun b hb => ?_, by decide⟩
          have hsz := H2.out.2.1.size
          rcases hb with q | q | ⟨_, q, _⟩
          · omega
          · cases q
          · cases q
        clear h1 h2 hn1
        go_upto_region 5 with fail
        exact REST _ _ _ _ _ _ _ _ ⟨H3.out.1, H3.out.2.1, H3.out.2.2, Nat.le_refl _⟩
      · have ho' : ¬ (o : Int) = 1 := by omega
        have ho2 : ((o : Int) == 1) = false := by rw [beq_eq_false_iff_ne]; exact ho'
        go_upto_region 5 with fail
        exact REST _ _ _ _ _ _ _ _ ⟨H2.out.1, H2.out.2.1, H2.out.2.2, Nat.le_refl _⟩
    intro o h db x15 x16 x17 x18 wx H3
    dsimp only
    clear H2 hK2 hpk
    have H4 : Hid (EB w wx o h (.slice none 0 0) 0 0 [] ∧ Blk wx db 22 #[.slice a2 l2 c2] ∧ w.heap.size ≤ db) := by
      obtain ⟨q1, q2, q3, q4⟩ := H3.out
      refine ⟨⟨⟨.slice none 0 0, [], 0, [], ⟨q3, fun p hp => (nomatch hp), RowAt.none0 _ _ _, fun g hg => (nomatch hg), q2.mono (fun b _ q => q.elim), by simp⟩⟩, fun D hD => (nomatch hD), List.nodup_nil, fun D hD => (nomatch hD)⟩, q1, q4⟩
    clear H3
    obtain ⟨i1, hi1, hx0, hx1, hx2⟩ := infoP
    go_wp2
    go_loopw [9, 10] (fun x9 x10 wr => ∃ (i : Nat) (ai : Option Addr) (ci : Nat), i ≤ l1 ∧ i ≤ 500 ∧ x10 = .int .i64 (i : Int) ∧ x9 = .slice ai i ci ∧ Hid (EB w wr o h (.slice ai i ci) i i [] ∧ Blk wr db 22 #[.slice a2 l2 c2] ∧ w.heap.size ≤ db)) (fun _ x10 _ => 500 - (RowKit.intOf x10).toNat)
    case atStart =>
      exact ⟨0, none, 0, Nat.zero_le _, Nat.zero_le _, rfl, rfl, H4.out⟩
    case round =>
      obtain ⟨i, ai, ci, hil, hi5, rfl, rfl, HQ⟩ := hrel
      by_cases hlt : i < l1 ∧ i < 500
      · as_aux_lemma =>
        have hii : (i : Int) < (l1 : Int) := by omega
        have hi55 : (i : Int) < 500 := by omega
        have hib : (i : Int) + 1 < 9223372036854775808 := by omega
        obtain ⟨b, off, rfl, hcell⟩ := (HS.out.1.below (below_of HQ.out.1.frw)).resolve_left (by omega)
        have hc := (hcell i (by omega)).1
        have hpk : ∀ w, Calls Try.prog 9 #[.int .i64 (d i), .int .i64 1000] w fun e w' => e = .returned (.int .i64 (pickN (d i) 1000 : Int)) ∧ w' = w := fun w => pick_any (d i) 1000 1000 rfl w (by decide) (by decide) (hcell i (by omega)).2.1 (hcell i (by omega)).2.2
        have hpu := Push_E HQ.out.1 ⟨(pickN (d i) 1000 : Int)⟩ (by omega)
        have HB : Hid (Blk wr db 22 #[.slice a2 l2 c2] ∧ w.heap.size ≤ db) := HQ.out.2
        clear hcell HQ
        go_wp2_with (first | (go_at_call 9; refine (hpk _).mono ?_; rintro e w1 ⟨rfl, ew⟩; replace ew := ew.symm; subst ew) | (go_at_call 22; fail))
        rename_i Kc hKc
        refine hpu.mono ?_
        rintro e w5 ⟨rfl, ⟨v5, L5, N5, P5, h5, h6⟩, h7, h8⟩
        refine hKc _ _ ?_
        clear hKc
        have HX5 : Hid (EI w w5 o h (.slice ai i ci) i (i + 1) v5 L5 N5 P5 ∧ ItOk w5 L5 wr.heap.size ∧ Blk w5 db 22 #[.slice a2 l2 c2] ∧ w.heap.size ≤ db) := ⟨h5, h6, h8 _ _ _ HB.out.1 (by decide) (by decide) (by decide), HB.out.2⟩
        clear h5 h6 h7 h8 hpu hc hpk
        generalize wr.heap.size = p at *
        have F6 : Fr w5 (w5.alloc (.cells #[ptr p] 51)) (fun _ => False) := Fr.alloc _ _ _
        have HX6 : Hid (EI w (w5.alloc (.cells #[ptr p] 51)) o h (.slice ai i ci) i (i + 1) v5 L5 N5 P5 ∧ ItOk (w5.alloc (.cells #[ptr p] 51)) L5 p ∧ Blk (w5.alloc (.cells #[ptr p] 51)) db 22 #[.slice a2 l2 c2] ∧ w.heap.size ≤ db) := ⟨HX5.out.1.sm F6, HX5.out.2.1.sm F6, HX5.out.2.2.1.alloc _, HX5.out.2.2.2⟩
        have hB6 : Blk (w5.alloc (.cells #[ptr p] 51)) w5.heap.size 51 #[ptr p] := Blk.new _ _ _
        clear F6
        refine wpList_runTo rfl (some 43) rfl (.slice (some ⟨w5.heap.size, 0, none⟩) 1 1) (w5.alloc (.cells #[ptr p] 51)) (by kernel_rfl) ?_
        simp only [Act.put, List.setIfInBounds_toArray, List.set_cons_zero, List.set_cons_succ]
        refine wpList_append_row _ rfl _ _ 50 rfl 51 i1 _ 1 8 Try.underlying50 hi1 hx0 hx1 hx2 (by rfl) (.slice ai i ci) i (P5.map ptr) rfl HX6.out.1.it ⟨w5.heap.size, 0, none⟩ 1 1 [ptr p] rfl rfl (fun j u hj => by rw [Addr.add_mid, cell_of_row _ _ _ _ _ _ hB6, Nat.zero_add]; simpa using hj) (fun u hu => by rw [List.mem_singleton.1 hu]; rfl) (.inl (by decide)) (by unfold maxLen; omega) (by omega) ?_
        intro v' w7 hrow hfr hnew
        simp only [Act.put, List.setIfInBounds_toArray, List.set_cons_zero, List.set_cons_succ]
        obtain ⟨ai7, ci7, hv7, _⟩ := hrow.form
        subst hv7
        have HX7 : Hid (EB w w7 o h (.slice ai7 (i + 1) ci7) (i + 1) (i + 1) [] ∧ Blk w7 db 22 #[.slice a2 l2 c2] ∧ w.heap.size ≤ db) := by
          obtain ⟨q1, q2, q3, q4⟩ := HX6.out
          exact ⟨⟨⟨_, _, _, _, q1.app q2 hrow hfr hnew (Nat.le_refl _)⟩, fun D hD => (nomatch hD), List.nodup_nil, fun D hD => (nomatch hD)⟩, q3.fr hfr (q1.box q3 (by decide) (by decide) (by decide)).2, q4⟩
        clear hrow hfr hnew hB6 HX6 HX5
        refine wpList_runTo rfl (some 9) rfl (.slice ai7 (i + 1) ci7) w7 (by kernel_rfl) ?_
        simp only [Act.put, List.setIfInBounds_toArray, List.set_cons_zero, List.set_cons_succ]
        refine wpList_nil ?_
        go_wp2
        exact ⟨⟨i + 1, ai7, ci7, by omega, by omega, by go_num, rfl, HX7.out⟩, by simp [RowKit.intOf]; omega⟩
      · have hcond : ¬ ((i : Int) < (l1 : Int) ∧ (i : Int) < 500) := fun q => hlt ⟨by omega, by omega⟩
        clear hi1 hx0 hx1 hx2 i1 H4
        go_upto_region 9 with fail
        go_cut [32] from 25 to 32 (fun x32 wx => x32 = .bool false ∧ wx = wr)
        case first => as_aux_lemma =>
          by_cases q1 : (i : Int) < (l1 : Int)
          · have q2 : ¬ (i : Int) < 500 := fun q => hcond ⟨q1, q⟩
            go_wp2
            go_meet
            exact ⟨rfl, rfl⟩
          · go_wp2
            go_meet
            exact ⟨rfl, rfl⟩
        case rest =>
          obtain ⟨rfl, hw⟩ := hcut
          subst hw
          clear hcond hlt
          go_upto_region 12 with fail
          have HX : Hid (EB w (wc.alloc (.cells #[.int .i64 0] 3)) o h (.slice ai i ci) i 500 [] ∧ Blk (wc.alloc (.cells #[.int .i64 0] 3)) db 22 #[.slice a2 l2 c2] ∧ Blk (wc.alloc (.cells #[.int .i64 0] 3)) wc.heap.size 3 #[.int .i64 0] ∧ w.heap.size ≤ db ∧ w.heap.size ≤ wc.heap.size) := by
            obtain ⟨q1, q2, q3⟩ := HQ.out
            exact ⟨(q1.more hi5).sm (Fr.alloc _ _ _), q2.alloc _, Blk.new _ _ _, q3, q1.frw.size⟩
          clear HQ
          generalize hjb : wc.heap.size = ib0 at *
          go_wp2
          generalize wc.alloc (.cells #[.int .i64 0] 3) = wl at *
          clear hi5 hil hjb
          refine wp_loop (I := I2 w o h db (.slice a2 l2 c2)) (μ := fun a W => 300 - jN a W) ?_ ?_
          · exact I2.of (Ds := []) (by kernel_rfl) (Nat.zero_le _) HX.out
          · intro a W hI
            obtain ⟨j, n, aj, cj, ib, Ds, y, rfl, hj3, HQ⟩ := hI
            clear HX
            have HMU : Hid (jN { tmps := FrE db h (.slice aj n cj) ib y, defers := Ds.map mkD } W = j) := jN_of rfl (HQ.out.2.2.1.cell 0)
            generalize hmu : jN { tmps := FrE db h (.slice aj n cj) ib y, defers := Ds.map mkD } W = mu at *
            clear hmu
            dsimp only [FrE]
            by_cases hgo : j < l2 ∧ j < 300 ∧ 0 < n
            · have hj1 : (j : Int) < (l2 : Int) := by omega
              have hj2 : (j : Int) < 300 := by omega
              have hn0 : (0 : Int) < (n : Int) := by omega
              have hjb : (j : Int) + 1 < 9223372036854775808 := by omega
              have cd : W.cell? ⟨db, 0, none⟩ = some (.slice a2 l2 c2) := HQ.out.2.1.cell 0
              have ci : W.cell? ⟨ib, 0, none⟩ = some (.int .i64 (j : Int)) := HQ.out.2.2.1.cell 0
              obtain ⟨b, off, rfl, hcell⟩ := (HS.out.2.1.below (below_of HQ.out.1.frw)).resolve_left (by omega)
              have hc := (hcell j (by omega)).1
              have hub := (hcell j (by omega)).2
              obtain ⟨v, L, N, P, E⟩ := HQ.out.1.e
              have hbd := E.bd
              obtain ⟨g, goff, gcap, cur, hv2, _⟩ := E.it.more (by omega)
              injection hv2 with e1 _ e2
              subst e1 e2
              have hw5 : -9223372036854775808 ≤ wrap64 ((u j).tdiv 5) ∧ wrap64 ((u j).tdiv 5) ≤ 9223372036854775807 := by unfold wrap64; omega
              have hp5 := pickN_lt (wrap64 ((u j).tdiv 5)) (show 0 < n by omega)
              have hpk5 : ∀ w', Calls Try.prog 9 #[.int .i64 (wrap64 ((u j).tdiv 5)), .int .i64 (n : Int)] w' fun e w'' => e = .returned (.int .i64 (pickN (wrap64 ((u j).tdiv 5)) n : Int)) ∧ w'' = w' := fun w' => pick_any _ _ n rfl w' (by omega) (by omega) hw5.1 hw5.2
              have hpk : ∀ (m : Nat) (z : Int), z = m → 0 < m → m ≤ 1000 → ∀ w', Calls Try.prog 9 #[.int .i64 (u j), .int .i64 z] w' fun e w'' => e = .returned (.int .i64 (pickN (u j) m : Int)) ∧ w'' = w' := fun m z hz hm hm1 w' => pick_any _ _ m hz w' hm (by omega) hub.1 hub.2
              obtain ⟨p, hpP, hpc⟩ := E.cell hp5
              have HP : Hid (∃ v L N P, EI w W o h (.slice (some ⟨g, goff, none⟩) n cj) n (500 + j) v L N P ∧ p ∈ P) := ⟨v, L, N, P, E, hpP⟩
              have HU : Hid (-9223372036854775808 ≤ u j ∧ u j ≤ 9223372036854775807) := hub
              generalize pickN (wrap64 ((u j).tdiv 5)) n = q5 at *
              have hq5 : (q5 : Int) < (n : Int) := by omega
              clear E hpP hcell hub hbd hw5
              have hpk5' := hpk 5 5 rfl (by decide) (by decide)
              go_upto_region 16 with (go_at_call 9; refine (hpk5 _).mono ?_; rintro e w1 ⟨rfl, ew⟩; replace ew := ew.symm; subst ew)
              clear hpk5 hpc
              go_upto_block 4 with (go_at_call 9; refine (hpk5' _).mono ?_; rintro e w1 ⟨rfl, ew⟩; replace ew := ew.symm; subst ew)
              rename_i K3 hK3 hlq Ks hKs
              have HN : Hid (n ≤ 500 + j) := by obtain ⟨v, L, N, P, E⟩ := HQ.out.1.e; exact E.bd.2.2.1
              suffices FIN : ∀ (tm : Array Value) (n' : Nat) (aj' : Option Addr) (cj' : Nat) (Ds' : List Nat) (W' : World), tm = FrE db h (.slice aj' n' cj') ib (fun k => tm.getD k undef) → Hid (EB w W' o h (.slice aj' n' cj') n' (500 + (j + 1)) Ds' ∧ Blk W' db 22 #[.slice (some ⟨b, off, none⟩) l2 c2] ∧ Blk W' ib 3 #[.int .i64 (j : Int)]) → Ks { tmps := tm, defers := Ds'.map mkD } W' by
                have HFIN : Hid _ := FIN
                clear FIN hKs hK3
                have hq := pickN_lt (u j) (show 0 < 5 by decide)
                generalize pickN (u j) 5 = q at *
                have hpk1 := hpk 1000 1000 rfl (by decide) (by decide)
                have hpk3 := hpk 3 3 rfl (by decide) (by decide)
                clear hpk hpk5' hp5 hq5
                rcases (by omega : q = 0 ∨ q = 1 ∨ q = 2 ∨ q = 3 ∨ q = 4) with rfl | rfl | rfl | rfl | rfl
                · as_aux_lemma =>
                  obtain ⟨i1, hi1, hx0, hx1, hx2⟩ := infoP
                  have hpu := Push_E HQ.out.1 ⟨(pickN (u j) 1000 : Int)⟩ (by omega)
                  go_wp2_with (first | (go_at_call 9; refine (hpk1 _).mono ?_; rintro e w1 ⟨rfl, ew⟩; replace ew := ew.symm; subst ew) | (go_at_call 22; fail))
                  rename_i Kc hKc
                  refine hpu.mono ?_
                  rintro e w5 ⟨rfl, ⟨v5, L5, N5, P5, h5, h6⟩, h7, h8⟩
                  refine hKc _ _ ?_
                  clear hKc
                  have HX5 : Hid (EI w w5 o h (.slice (some ⟨g, goff, none⟩) n cj) n (500 + j + 1) v5 L5 N5 P5 ∧ ItOk w5 L5 W.heap.size ∧ EB w w5 o h (.slice (some ⟨g, goff, none⟩) n cj) n (500 + j + 1) Ds ∧ Blk w5 db 22 #[.slice (some ⟨b, off, none⟩) l2 c2] ∧ Blk w5 ib 3 #[.int .i64 (j : Int)]) := ⟨h5, h6, h7, h8 _ _ _ HQ.out.2.1 (by decide) (by decide) (by decide), h8 _ _ _ HQ.out.2.2.1 (by decide) (by decide) (by decide)⟩
                  clear h5 h6 h7 h8 hpu hc hpk1 hpk3 cd ci
                  generalize W.heap.size = p0 at *
                  have F6 : Fr w5 (w5.alloc (.cells #[ptr p0] 51)) (fun _ => False) := Fr.alloc _ _ _
                  have HX6 : Hid (EI w (w5.alloc (.cells #[ptr p0] 51)) o h (.slice (some ⟨g, goff, none⟩) n cj) n (500 + j + 1) v5 L5 N5 P5 ∧ ItOk (w5.alloc (.cells #[ptr p0] 51)) L5 p0 ∧ EB w (w5.alloc (.cells #[ptr p0] 51)) o h (.slice (some ⟨g, goff, none⟩) n cj) n (500 + j + 1) Ds ∧ Blk (w5.alloc (.cells #[ptr p0] 51)) db 22 #[.slice (some ⟨b, off, none⟩) l2 c2] ∧ Blk (w5.alloc (.cells #[ptr p0] 51)) ib 3 #[.int .i64 (j : Int)]) := ⟨HX5.out.1.sm F6, HX5.out.2.1.sm F6, HX5.out.2.2.1.sm F6, HX5.out.2.2.2.1.alloc _, HX5.out.2.2.2.2.alloc _⟩
                  have hB6 : Blk (w5.alloc (.cells #[ptr p0] 51)) w5.heap.size 51 #[ptr p0] := Blk.new _ _ _
                  clear F6
                  refine wpList_runTo rfl (some 86) rfl (.slice (some ⟨w5.heap.size, 0, none⟩) 1 1) (w5.alloc (.cells #[ptr p0] 51)) (by kernel_rfl) ?_
                  simp only [Act.put, List.setIfInBounds_toArray, List.set_cons_zero, List.set_cons_succ]
                  refine wpList_append_row _ rfl _ _ 50 rfl 51 i1 _ 1 8 Try.underlying50 hi1 hx0 hx1 hx2 (by rfl) (.slice (some ⟨g, goff, none⟩) n cj) n (P5.map ptr) rfl HX6.out.1.it ⟨w5.heap.size, 0, none⟩ 1 1 [ptr p0] rfl rfl (fun j u hj => by rw [Addr.add_mid, cell_of_row _ _ _ _ _ _ hB6, Nat.zero_add]; simpa using hj) (fun u hu => by rw [List.mem_singleton.1 hu]; rfl) (.inl (by decide)) (by unfold maxLen; have := HN.out; omega) (by have := HN.out; omega) ?_
                  intro v' w7 hrow hfr hnew
                  simp only [Act.put, List.setIfInBounds_toArray, List.set_cons_zero, List.set_cons_succ]
                  obtain ⟨ai7, ci7, hv7, _⟩ := hrow.form
                  subst hv7
                  have HX7 : Hid (EB w w7 o h (.slice ai7 (n + 1) ci7) (n + 1) (500 + (j + 1)) Ds ∧ Blk w7 db 22 #[.slice (some ⟨b, off, none⟩) l2 c2] ∧ Blk w7 ib 3 #[.int .i64 (j : Int)]) := by
                    obtain ⟨q1, q2, q5, q3, q4⟩ := HX6.out
                    refine ⟨⟨⟨_, _, _, _, q1.app q2 hrow hfr hnew (by have := HN.out; omega)⟩, fun D hD => ?_, q5.nd, q5.lo⟩, q3.fr hfr (q1.box q3 (by decide) (by decide) (by decide)).2, q4.fr hfr (q1.box q4 (by decide) (by decide) (by decide)).2⟩
                    exact (hfr.block D (Array.getElem?_eq_some_iff.1 (q5.ms D hD)).1 (q1.noRow (q5.ms D hD))).trans (q5.ms D hD)
                  clear hrow hfr hnew hB6 HX6 HX5
                  refine wpList_runTo rfl (some 9) rfl (.slice ai7 (n + 1) ci7) w7 (by kernel_rfl) ?_
                  simp only [Act.put, List.setIfInBounds_toArray, List.set_cons_zero, List.set_cons_succ]
                  refine wpList_nil ?_
                  go_wp2
                  exact HFIN.out _ _ _ _ _ _ (by kernel_rfl) HX7
                · as_aux_lemma =>
                  have hpo := Pop_E' HQ.out.1
                  go_wp2_with (go_at_call 23; fail)
                  refine hpo.mono ?_
                  rintro e w5 ⟨⟨ra, rb, rfl⟩, h5, h8⟩
                  have HX5 : Hid (EB w w5 o h (.slice (some ⟨g, goff, none⟩) n cj) n (500 + (j + 1)) Ds ∧ Blk w5 db 22 #[.slice (some ⟨b, off, none⟩) l2 c2] ∧ Blk w5 ib 3 #[.int .i64 (j : Int)]) := ⟨h5.more (by omega), h8 _ _ _ HQ.out.2.1 (by decide) (by decide) (by decide), h8 _ _ _ HQ.out.2.2.1 (by decide) (by decide) (by decide)⟩
                  clear h5 h8 hpo
                  go_wp2
                  exact HFIN.out _ _ _ _ _ _ (by kernel_rfl) HX5
                · as_aux_lemma =>
                  have hpo := Remove_E HQ.out.1 HP.out
                  go_wp2_with (go_at_call 24; fail)
                  refine hpo.mono ?_
                  rintro e w5 ⟨⟨ra, rb, rfl⟩, h5, h8⟩
                  have HX5 : Hid (EB w w5 o h (.slice (some ⟨g, goff, none⟩) n cj) n (500 + (j + 1)) Ds ∧ Blk w5 db 22 #[.slice (some ⟨b, off, none⟩) l2 c2] ∧ Blk w5 ib 3 #[.int .i64 (j : Int)]) := ⟨h5.more (by omega), h8 _ _ _ HQ.out.2.1 (by decide) (by decide) (by decide), h8 _ _ _ HQ.out.2.2.1 (by decide) (by decide) (by decide)⟩
                  clear h5 h8 hpo
                  go_wp2
                  exact HFIN.out _ _ _ _ _ _ (by kernel_rfl) HX5
                · as_aux_lemma =>
                  have hpo := Set_E HQ.out.1 ⟨(pickN (u j) 1000 : Int)⟩ HP.out
                  go_wp2_with (first | (go_at_call 9; refine (hpk1 _).mono ?_; rintro e w1 ⟨rfl, ew⟩; replace ew := ew.symm; subst ew) | (go_at_call 25; fail))
                  refine hpo.mono ?_
                  rintro e w5 ⟨⟨ra, rfl⟩, h5, h8⟩
                  have HX5 : Hid (EB w w5 o h (.slice (some ⟨g, goff, none⟩) n cj) n (500 + (j + 1)) Ds ∧ Blk w5 db 22 #[.slice (some ⟨b, off, none⟩) l2 c2] ∧ Blk w5 ib 3 #[.int .i64 (j : Int)]) := ⟨h5.more (by omega), h8 _ _ _ HQ.out.2.1 (by decide) (by decide) (by decide), h8 _ _ _ HQ.out.2.2.1 (by decide) (by decide) (by decide)⟩
                  clear h5 h8 hpo
                  go_wp2
                  exact HFIN.out _ _ _ _ _ _ (by kernel_rfl) HX5
                · as_aux_lemma =>
                  have hall := All_any h W
                  clear hpk1
                  go_wp2_with (go_at_call 26; fail)
                  refine hall.mono ?_
                  rintro e w4 ⟨rfl, rfl⟩
                  clear hall
                  go_wp2
                  have FA : Fr W (W.alloc (.cells #[ptr h] 47)) (fun _ => False) := Fr.alloc _ _ _
                  have HW2 : Hid (EB w (W.alloc (.cells #[ptr h] 47)) o h (.slice (some ⟨g, goff, none⟩) n cj) n (500 + j) Ds ∧ Blk (W.alloc (.cells #[ptr h] 47)) db 22 #[.slice (some ⟨b, off, none⟩) l2 c2] ∧ Blk (W.alloc (.cells #[ptr h] 47)) ib 3 #[.int .i64 (j : Int)] ∧ Blk (W.alloc (.cells #[ptr h] 47)) W.heap.size 47 #[ptr h]) := ⟨HQ.out.1.sm FA, HQ.out.2.1.alloc _, HQ.out.2.2.1.alloc _, Blk.new _ _ _⟩
                  have HCW : Hid ((W.alloc (.cells #[ptr h] 47)).cell? ⟨b, off + j, none⟩ = some (.int .i64 (u j))) := FA.cell hc (fun q => q)
                  have HQL : Hid (w.heap.size ≤ (W.alloc (.cells #[ptr h] 47)).heap.size) := HW2.out.1.frw.size
                  clear FA cd ci hc HQ HP HN
                  generalize W.alloc (.cells #[ptr h] 47) = wa at *
                  generalize W.heap.size = bb at *
                  refine (wpIn_wide (n := 3)).1 ?_
                  refine range_law (n := 3) (by decide) (gf := 57) (lb := #[ptr bb]) rfl cfA (all_itr o h bb) ?hC (fun _ => rfl)
                    (fun _ W1 M => Fr wa W1 (fun b => wa.heap.size ≤ b) ∧ ∀ b, M b ↔ b < wa.heap.size) (fun c _ W1 => c = .exit 5 ∧ Fr wa W1 (fun b => wa.heap.size ≤ b)) ⟨?hA1, ?hA2⟩ ?hIx (fun b => b < wa.heap.size) ⟨Fr.refl _ _, fun _ => Iff.rfl⟩
                    (fun _ a' _ => ∃ z : Nat → Value, a' = { tmps := FrE db h (.slice (some ⟨g, goff, none⟩) n cj) ib z, defers := [] }) (fun _ _ _ _ _ q _ _ => q) ?hassign ?hbody ?hdone ?hstop
                  case hC =>
                    intro q q'
                    have F2 : Fr wa ((wa.alloc q).alloc q') (fun _ => False) := (Fr.alloc _ _ (fun _ => False)).trans (Fr.alloc _ _ (fun _ => False)) fun _ _ q => by rcases q with q | q <;> exact q
                    obtain ⟨v, L, N, P, E⟩ := HW2.out.1.e
                    exact ⟨_, v, L, N, E.hp.sm F2, (HW2.out.2.2.2.alloc _).alloc _⟩
                  case hA1 =>
                    rintro pre W1 W2 M e ⟨q1, q2⟩ hf hn
                    refine ⟨q1.trans hf fun b _ q => ?_, q2⟩
                    rcases q with q | q
                    · exact q
                    · have := mt (q2 b).2 (hn b q); omega
                  case hA2 =>
                    rintro pre W1 M b0 ⟨q1, q2⟩ hb
                    have h1 := (q2 b0).1 hb
                    have h2 := q1.size
                    omega
                  case hIx =>
                    rintro c pre W1 W2 ⟨q1, q2⟩ hf
                    refine ⟨q1, q2.trans hf fun b _ q => ?_⟩
                    rcases q with q | q
                    · exact q
                    · omega
                  case hassign => as_aux_lemma =>
                    intro pre x W1 M K hi hK
                    dsimp only [encI]
                    gi_wp2
                    exact hK _ _ (Fr.refl _ _) (FrE.ex (by kernel_rfl))
                  case hbody => as_aux_lemma =>
                    rintro pre x a' W1 M ⟨hF, hM⟩ ⟨z, rfl⟩ _
                    dsimp only [FrE]
                    have cd1 : W1.cell? ⟨db, 0, none⟩ = some (.slice (some ⟨b, off, none⟩) l2 c2) := hF.cell (HW2.out.2.1.cell 0) (fun q => absurd HW2.out.2.1.lt (Nat.not_lt.2 q))
                    have ci1 : W1.cell? ⟨ib, 0, none⟩ = some (.int .i64 (j : Int)) := hF.cell (HW2.out.2.2.1.cell 0) (fun q => absurd HW2.out.2.2.1.lt (Nat.not_lt.2 q))
                    have hc1 : W1.cell? ⟨b, off + j, none⟩ = some (.int .i64 (u j)) := hF.cell HCW.out (fun q => by have h1 := World.block_lt_of_cell? _ _ HCW.out; have h2 : b < wa.heap.size := h1; omega)
                    have HF1 : Hid (Fr wa W1 (fun b => wa.heap.size ≤ b) ∧ ∀ b, M b ↔ b < wa.heap.size) := ⟨hF, hM⟩
                    have hpk3' := hpk3 W1
                    clear hF hM hpk3
                    generalize pickN (u j) 3 = q3 at *
                    by_cases hq3 : q3 = 0
                    · subst hq3
                      gi_wp2_with (refine ⟨trivial, ?_⟩; gi_at_call 9; refine (CallsIn.inRound _ (callsIn_wide.2 hpk3')).mono ?_; rintro e w1 ⟨rfl, ew⟩; replace ew := ew.symm; subst ew)
                      exact ⟨⟨rfl, HF1.out.1⟩, Fr.refl _ _⟩
                    · have hq3' : ¬ (q3 : Int) = 0 := by omega
                      have hq3b : ((q3 : Int) == 0) = false := by rw [beq_eq_false_iff_ne]; exact hq3'
                      gi_wp2_with (refine ⟨trivial, ?_⟩; gi_at_call 9; refine (CallsIn.inRound _ (callsIn_wide.2 hpk3')).mono ?_; rintro e w1 ⟨rfl, ew⟩; replace ew := ew.symm; subst ew)
                      exact ⟨M, HF1.out, Fr.refl _ _, fun b hb => .inl hb⟩
                  case hdone =>
                    rintro pre W1 M _ ⟨q1, _⟩ hdef
                    have HX9 : Hid (EB w W1 o h (.slice (some ⟨g, goff, none⟩) n cj) n (500 + (j + 1)) (wa.heap.size :: Ds) ∧ Blk W1 db 22 #[.slice (some ⟨b, off, none⟩) l2 c2] ∧ Blk W1 ib 3 #[.int .i64 (j : Int)]) := by
                      refine ⟨((HW2.out.1.far q1).mark hdef (fun q => ?_) HQL.out).more (by omega), HW2.out.2.1.fr q1 (fun q => by have := HW2.out.2.1.lt; omega), HW2.out.2.2.1.fr q1 (fun q => by have := HW2.out.2.2.1.lt; omega)⟩
                      have := (Array.getElem?_eq_some_iff.1 (HW2.out.1.ms _ q)).1
                      omega
                    clear q1 hdef
                    go_wp2
                    exact HFIN.out _ _ _ _ (wa.heap.size :: Ds) _ (by kernel_rfl) HX9
                  case hstop =>
                    rintro c pre W1 _ ⟨rfl, q1⟩ hdef
                    have HX9 : Hid (EB w W1 o h (.slice (some ⟨g, goff, none⟩) n cj) n (500 + (j + 1)) (wa.heap.size :: Ds) ∧ Blk W1 db 22 #[.slice (some ⟨b, off, none⟩) l2 c2] ∧ Blk W1 ib 3 #[.int .i64 (j : Int)]) := by
                      refine ⟨((HW2.out.1.far q1).mark hdef (fun q => ?_) HQL.out).more (by omega), HW2.out.2.1.fr q1 (fun q => by have := HW2.out.2.1.lt; omega), HW2.out.2.2.1.fr q1 (fun q => by have := HW2.out.2.2.1.lt; omega)⟩
                      have := (Array.getElem?_eq_some_iff.1 (HW2.out.1.ms _ q)).1
                      omega
                    clear q1 hdef
                    gi_wp2
                    exact HFIN.out _ _ _ _ (wa.heap.size :: Ds) _ (by kernel_rfl) HX9
              intro tm n' aj' cj' Ds' W' e HF
              rw [e]
              generalize (fun k => tm.getD k undef) = z
              clear e
              dsimp only [FrE]
              have hpe := Peek_E HF.out.1
              have hle := Len_E HF.out.1
              have ci' : W'.cell? ⟨ib, 0, none⟩ = some (.int .i64 (j : Int)) := HF.out.2.2.cell 0
              have HW : Hid (w.heap.size ≤ W'.heap.size) := HF.out.1.frw.size
              clear hpk hpk5' hp5 hq5 hc cd ci HP
              go_wp2_with (first | (go_at_call 27; refine hpe.mono ?_; rintro e w1 ⟨⟨ra, rb, rfl⟩, ew⟩; replace ew := ew.symm; subst ew) | (go_at_call 28; refine hle.mono ?_; rintro e w1 ⟨⟨ra, rfl⟩, ew⟩; replace ew := ew.symm; subst ew))
              have F8 : Fr W' (W'.alloc (.cells #[.int .i64 ((j : Int) + 1)] 3)) (fun _ => False) := Fr.alloc _ _ _
              have hz : ((j : Int) + 1) = ((j + 1 : Nat) : Int) := by omega
              have HX8 : Hid (EB w (W'.alloc (.cells #[.int .i64 ((j : Int) + 1)] 3)) o h (.slice aj' n' cj') n' (500 + (j + 1)) Ds' ∧ Blk (W'.alloc (.cells #[.int .i64 ((j : Int) + 1)] 3)) db 22 #[.slice (some ⟨b, off, none⟩) l2 c2] ∧ Blk (W'.alloc (.cells #[.int .i64 ((j : Int) + 1)] 3)) W'.heap.size 3 #[.int .i64 ((j + 1 : Nat) : Int)] ∧ w.heap.size ≤ db ∧ w.heap.size ≤ W'.heap.size) :=
                ⟨HF.out.1.sm F8, HF.out.2.1.alloc _, by rw [← hz]; exact Blk.new _ _ _, HQ.out.2.2.2.1, HW.out⟩
              refine ⟨I2.of (by kernel_rfl) (by omega) HX8, ?_⟩
              rw [jN_of (p := ⟨W'.heap.size, 0, none⟩) (j := j + 1) rfl (HX8.out.2.2.1.cell 0), HMU.out]
              omega
            · have HC : Hid (EB w W o h (.slice aj n cj) n (500 + j) Ds) := HQ.out.1
              have cd : W.cell? ⟨db, 0, none⟩ = some (.slice a2 l2 c2) := HQ.out.2.1.cell 0
              have ci : W.cell? ⟨ib, 0, none⟩ = some (.int .i64 (j : Int)) := HQ.out.2.2.1.cell 0
              have hg2 : ¬ ((j : Int) < (l2 : Int) ∧ (j : Int) < 300 ∧ (0 : Int) < (n : Int)) := fun q => hgo ⟨by omega, by omega, by omega⟩
              clear HQ
              go_upto_region 13 with fail
              go_cut [57] from 45 to 57 (fun x57 wx => x57 = .bool false ∧ wx = W)
              case first => as_aux_lemma =>
                by_cases q1 : (j : Int) < (l2 : Int)
                · by_cases q2 : (j : Int) < 300
                  · have q3 : ¬ (0 : Int) < (n : Int) := fun q => hg2 ⟨q1, q2, q⟩
                    go_wp2
                    go_meet
                    exact ⟨by simp; omega, rfl⟩
                  · go_wp2
                    go_meet
                    exact ⟨rfl, rfl⟩
                · go_wp2
                  go_meet
                  exact ⟨rfl, rfl⟩
              case rest =>
                obtain ⟨rfl, hw⟩ := hcut
                subst hw
                clear hg2 hgo cd ci
                go_wp2
                rw [HQF.out]
                refine leave_marks Ds _ HC.out.ms HC.out.nd fun W' hf => ⟨_, results_tmp (fn := Try.f5) (t := 6) rfl _ _ _, rfl, below_of (HC.out.frw.trans hf fun b _ q => ?_)⟩
                rcases q with q | q
                · exact q
                · exact HC.out.lo b q
end Go.Proofs.Ytdnhhcbabdoomaa.I
