/-
  HeapChanges: the walk.
-/
import Derived.Test.YtdnhhcbabdoomaaHTwo
namespace Go.Proofs.Ytdnhhcbabdoomaa
set_option linter.unusedVariables false
set_option linter.unusedSimpArgs false
open Go.RowKit Go.Great

/-- The items as they were pushed first. -/
def itL (d : Nat → Int) (ps : List Nat) : List (It Th) := (List.range ps.length).map fun j => ⟨ps.getD j 0, j, ⟨d j, j⟩⟩
theorem itL_len (d : Nat → Int) (ps : List Nat) : (itL d ps).length = ps.length := by simp [itL]
theorem itL_snoc (d : Nat → Int) (ps : List Nat) (p : Nat) : itL d (ps ++ [p]) = itL d ps ++ [⟨p, ps.length, ⟨d ps.length, ps.length⟩⟩] := by
  unfold itL
  rw [List.length_append, List.length_singleton, List.range_succ, List.map_append]
  congr 1
  · apply List.map_congr_left
    intro j hj
    have hj' : j < ps.length := List.mem_range.1 hj
    rw [List.getD_eq_getElem?_getD, List.getElem?_append_left hj', ← List.getD_eq_getElem?_getD]
  · simp
theorem itL_get (d : Nat → Int) (ps : List Nat) {j : Nat} (h : j < ps.length) : (itL d ps)[j]? = some ⟨ps.getD j 0, j, ⟨d j, j⟩⟩ := by
  unfold itL; rw [List.getElem?_map, List.getElem?_range h]; rfl
/-- The first loop: i things are in the one heap, and in the row. -/
def C1 (w wr : World) (o ha hb : Nat) (vi : Value) (d : Nat → Int) (i : Nat) : Prop := ∃ va vb ps, TW w wr o w.heap.size ha va (itL d ps) i hb vb [] 0 vi ps ∧ ps.length = i
theorem itL_drop (d : Nat → Int) (ps : List Nat) {i : Nat} (h : i < ps.length) : (itL d ps).drop i = ⟨ps.getD i 0, i, ⟨d i, i⟩⟩ :: (itL d ps).drop (i + 1) := by
  have h1 := itL_get d ps h
  obtain ⟨h2, h3⟩ := List.getElem?_eq_some_iff.1 h1
  rw [List.drop_eq_getElem_cons h2, h3]
theorem la_get {α : Type} (K R : List α) (a : α) : (K ++ a :: R)[K.length]? = some a := by rw [List.getElem?_append_right (Nat.le_refl _), Nat.sub_self]; rfl
theorem la_erase {α : Type} (K R : List α) (a : α) : (K ++ a :: R).eraseIdx K.length = K ++ R := by
  rw [List.eraseIdx_append_of_length_le (Nat.le_refl _), Nat.sub_self]; rfl
theorem la_set {α : Type} (K R : List α) (a b : α) : (K ++ a :: R).set K.length b = (K ++ [b]) ++ R := by
  rw [List.set_append_right _ _ (Nat.le_refl _), Nat.sub_self, List.append_assoc]; rfl
/-- The second loop: i items are done with; those that stay are in the other heap, too. -/
def C2 (w wr : World) (o ha hb : Nat) (vi : Value) (d : Nat → Int) (ps : List Nat) (i : Nat) : Prop := ∃ va vb K Lb Nb, TW w wr o w.heap.size ha va (K ++ (itL d ps).drop i) ps.length hb vb Lb Nb vi ps ∧ Lb.map (·.x) = K.map (·.x) ∧ Nb ≤ i ∧ Lb.length ≤ i
/-- The third loop: both heaps have the same things. -/
def C3 (w wr : World) (o ha hb : Nat) (vi : Value) (ps : List Nat) : Prop := ∃ va vb La Lb Na Nb, TW w wr o w.heap.size ha va La Na hb vb Lb Nb vi ps ∧ La.map (·.x) = Lb.map (·.x)
theorem gone_ne {K R : List (It Th)} {it : It Th} (h : (K ++ it :: R).Pairwise fun a b => a.p ≠ b.p) : ∀ a, a ∈ K ++ R → a.p ≠ it.p := by
  intro a ha
  rw [List.pairwise_append] at h
  rcases List.mem_append.1 ha with q | q
  · exact h.2.2 a q it (List.mem_cons_self)
  · exact fun e => (List.pairwise_cons.1 h.2.1).1 a q e.symm
theorem TW.cell {w wr : World} {o B : Nat} {ha : Nat} {va : Value} {La : List (It Th)} {Na : Nat} {hb : Nat} {vb : Value} {Lb : List (It Th)} {Nb : Nat} {P : List Nat} {g off n cap : Nat} (T : TW w wr o B ha va La Na hb vb Lb Nb (.slice (some ⟨g, off, none⟩) n cap) P) (hn : n = P.length) {i : Nat} (hi : i < P.length) : wr.cell? ⟨g, off + i, none⟩ = some (ptr (P.getD i 0)) := by
  subst hn
  refine T.it.cell rfl ?_
  rw [List.getElem?_map, List.getElem?_eq_getElem hi, List.getD_eq_getElem?_getD, List.getElem?_eq_getElem hi]; rfl
theorem TW.loc {w wr : World} {o B : Nat} {ha : Nat} {va : Value} {La : List (It Th)} {Na : Nat} {hb : Nat} {vb : Value} {Lb : List (It Th)} {Nb : Nat} {vi : Value} {P : List Nat} (T : TW w wr o B ha va La Na hb vb Lb Nb vi P) {xb : Nat} {cs : Array Value} (hB : Blk wr xb 30 cs) (hx : B ≤ xb) (k : Nat) (v : Value) : TW w (wr.setCell ⟨xb, k, none⟩ v) o B ha va La Na hb vb Lb Nb vi P := by
  have F : Fr wr (wr.setCell ⟨xb, k, none⟩ v) (fun b => b = xb) := Fr.setCell _ _ _ _ rfl
  have ha' := T.a.other hB (by decide) (by decide) (by decide)
  have hb' := T.b.other hB (by decide) (by decide) (by decide)
  refine ⟨T.a.fr F fun q h1 e => ha' (e ▸ h1), T.b.fr F fun q h1 e => hb' (e ▸ h1), T.ab, T.ia, T.it.fr F fun g hg e => ?_, T.fr.trans F fun b _ q => ?_⟩
  · subst e
    obtain ⟨_, cur, hc⟩ := T.it.lt hg
    exact hB.neT (show Blk wr g 27 cur from hc) (by decide) rfl
  · rcases q with q | q
    · exact q
    · omega
set_option maxRecDepth 100000 in
set_option maxHeartbeats 8000000 in
theorem HeapChanges_law (oz : Int) (ho0 : -9223372036854775808 ≤ oz) (ho1 : oz ≤ 9223372036854775807) (a1 : Option Addr) (l1 c1 : Nat) (d : Nat → Int) (hl1 : l1 ≤ maxLen) (a2 : Option Addr) (l2 c2 : Nat) (f : Nat → Bool) (hl2 : l2 ≤ maxLen) (a3 : Option Addr) (l3 c3 : Nat) (u : Nat → Int) (hl3 : l3 ≤ maxLen) (w : World)
    (hs1 : SrcI w a1 l1 d) (hs2 : SrcT w a2 l2 f) (hs3 : SrcI w a3 l3 u) :
    Calls Try.prog 4 #[.int .i64 oz, .slice a1 l1 c1, .slice a2 l2 c2, .slice a3 l3 c3] w fun e w' => e = .returned (.bool true) ∧ Below w.heap.size w w' := by
  have HS : Hid (SrcI w a1 l1 d ∧ SrcT w a2 l2 f ∧ SrcI w a3 l3 u) := ⟨hs1, hs2, hs3⟩
  have HLM : Hid (l1 ≤ maxLen ∧ l2 ≤ maxLen ∧ l3 ≤ maxLen) := ⟨hl1, hl2, hl3⟩
  have hsh := shown_any w
  have hpk : ∀ w, Calls Try.prog 9 #[.int .i64 oz, .int .i64 3] w fun e w' => e = .returned (.int .i64 (pickN oz 3 : Int)) ∧ w' = w := fun w => pick_any oz 3 3 rfl w (by decide) (by decide) ho0 ho1
  have ho := pickN_lt oz (show 0 < 3 by decide)
  have HO : Hid (pickN oz 3 < 3) := ho
  generalize pickN oz 3 = o at *
  clear hs1 hs2 hs3 hl1 hl2 hl3 ho0 ho1 ho
  have hmin : min (l1 : Int) 200 = ((min l1 200 : Nat) : Int) := by omega
  go_enter Try.func4, Try.ntmps4
  go_wp2_with (go_at_call 8; fail)
  refine hsh.mono ?_
  rintro e w1 ⟨rfl, hf1⟩
  have HF1 : Hid (Fr w w1 (fun _ => False)) := hf1
  clear hf1 hsh
  go_wp2_with (first | (go_at_call 9; refine (hpk _).mono ?_; rintro e w1 ⟨rfl, rfl⟩) | (go_at_call 10; fail))
  have hm1 := made_O (B := w.heap.size) o (o : Int) rfl HO.out w1 HF1.out.size
  refine hm1.mono ?_
  rintro e w2 ⟨rfl, h1, h2⟩
  have H2 : Hid (HpO o w.heap.size w2 w1.heap.size (.slice none 0 0) [] 0 ∧ Fr w w2 (fun _ => False) ∧ w1.heap.size < w2.heap.size) := ⟨h1, HF1.out.trans h2 (fun _ _ q => by rcases q with q | q <;> exact q), h1.lt (.inl rfl)⟩
  clear h1 h2 hm1
  go_wp2_with (go_at_call 10; fail)
  have hm2 := made_O (B := w.heap.size) o (o : Int) rfl HO.out w2 H2.out.2.1.size
  refine hm2.mono ?_
  rintro e w3 ⟨rfl, h1, h2⟩
  have H3 : Hid (C1 w w3 o w1.heap.size w2.heap.size (.slice none 0 0) d 0) := by
    refine ⟨.slice none 0 0, .slice none 0 0, [], ⟨H2.out.1.sm h2, h1, fun q q1 q2 => ?_, fun g hg => (by cases hg), RowAt.none0 _ _ _, (H2.out.2.1.trans h2 (e3 := fun b => w.heap.size ≤ b) fun _ _ q => by rcases q with q | q <;> exact q.elim)⟩, rfl⟩
    have e1 : q = w1.heap.size := by rcases q1 with q | q | ⟨_, q, _⟩; exact q; cases q; cases q
    have e2 : q = w2.heap.size := by rcases q2 with q | q | ⟨_, q, _⟩; exact q; cases q; cases q
    have := H2.out.2.2
    omega
  clear h1 h2 hm2 H2 HF1
  generalize w1.heap.size = ha at *
  generalize w2.heap.size = hb at *
  have hn1 : ∀ i : Nat, i < min l1 200 → i < l1 := fun i hi => by omega
  have HN : Hid (min l1 200 ≤ l1 ∧ min l1 200 ≤ 200) := ⟨Nat.min_le_left _ _, Nat.min_le_right _ _⟩
  clear hn1
  go_wp2
  generalize hn : min l1 200 = n at *
  clear hmin hn
  obtain ⟨i1, hi1, hx0, hx1, hx2⟩ := infoP
  go_loopw [13, 15] (fun x13 x15 wr => ∃ (i : Nat) (ai : Option Addr) (ci : Nat), i ≤ n ∧ x15 = .int .i64 (i : Int) ∧ x13 = .slice ai i ci ∧ Hid (C1 w wr o ha hb (.slice ai i ci) d i)) (fun _ x15 _ => n - (RowKit.intOf x15).toNat)
  case atStart =>
    exact ⟨0, none, 0, Nat.zero_le _, rfl, rfl, H3.out⟩
  case round =>
    obtain ⟨i, ai, ci, hin, rfl, rfl, HQ⟩ := hrel
    by_cases hlt : i < n
    · as_aux_lemma =>
      have hii : (i : Int) < (n : Int) := by omega
      have hib : (i : Int) + 1 < 9223372036854775808 := by have := HN.out; omega
      have hil : (i : Int) < (l1 : Int) := by have := HN.out; omega
      obtain ⟨va, vb, ps, T, hps⟩ := HQ.out
      obtain ⟨b, off, rfl, hcell⟩ := (HS.out.1.below (below_of T.fr)).resolve_left (by have := HN.out; omega)
      have hc := (hcell i (by have := HN.out; omega)).1
      have hpu := Push_O T.a ⟨d i, (i : Int)⟩ (by rw [itL_len]; have := HN.out; omega) (by have := HN.out; omega)
      have HT : Hid (TW w wr o w.heap.size ha va (itL d ps) i hb vb [] 0 (.slice ai i ci) ps ∧ ps.length = i) := ⟨T, hps⟩
      clear T hps hcell HQ
      go_wp2_with (go_at_call 11; fail)
      rename_i Kc hKc
      refine hpu.mono ?_
      rintro e w5 ⟨rfl, ⟨va', h5, h6⟩, h7⟩
      refine hKc _ _ ?_
      clear hKc
      have T5 := HT.out.1.upd h5 h7 (fun q hq => own_push h6 (by omega) hq)
      have hpi : ps.length = i := HT.out.2
      have e5 : itL d ps ++ [⟨wr.heap.size + 1, i, ⟨d i, (i : Int)⟩⟩] = itL d (ps ++ [wr.heap.size + 1]) := by rw [itL_snoc, hpi]
      rw [e5] at T5
      have HT5 : Hid (TW w w5 o w.heap.size ha va' (itL d (ps ++ [wr.heap.size + 1])) (i + 1) hb vb [] 0 (.slice ai i ci) ps) := T5
      clear T5 e5 h5 h6 h7 hpu hc
      generalize hP : wr.heap.size + 1 = p at *
      have HT6 : Hid (TW w (w5.alloc (.cells #[ptr p] 27)) o w.heap.size ha va' (itL d (ps ++ [p])) (i + 1) hb vb [] 0 (.slice ai i ci) ps) := HT5.out.sm (Fr.alloc _ _ _)
      have hB6 : Blk (w5.alloc (.cells #[ptr p] 27)) w5.heap.size 27 #[ptr p] := Blk.new _ _ _
      refine wpList_runTo rfl (some 63) rfl (.slice (some ⟨w5.heap.size, 0, none⟩) 1 1) (w5.alloc (.cells #[ptr p] 27)) (by kernel_rfl) ?_
      simp only [Act.put, List.setIfInBounds_toArray, List.set_cons_zero, List.set_cons_succ]
      refine wpList_append_row _ rfl _ _ 42 rfl 27 i1 _ 1 8 Try.underlying42 hi1 hx0 hx1 hx2 (by rfl) (.slice ai i ci) i (ps.map ptr) rfl (by have q := HT6.out.it; rw [hpi] at q; exact q) ⟨w5.heap.size, 0, none⟩ 1 1 [ptr p] rfl rfl (fun j u hj => by rw [Addr.add_mid, cell_of_row _ _ _ _ _ _ hB6, Nat.zero_add]; simpa using hj) (fun u hu => by rw [List.mem_singleton.1 hu]; rfl) (.inl (by decide)) (by unfold maxLen; have := HN.out; omega) (by have := HN.out; omega) ?_
      intro v' w7 hrow hfr hnew
      simp only [Act.put, List.setIfInBounds_toArray, List.set_cons_zero, List.set_cons_succ]
      have T7 := HT6.out.app (p := p) (vi' := v') (w' := w7) (by rw [hpi]; exact hrow) hfr hnew
      obtain ⟨ai7, ci7, hv7, _⟩ := hrow.form
      subst hv7
      have HT7 : Hid (C1 w w7 o ha hb (.slice ai7 (i + 1) ci7) d (i + 1)) := ⟨va', vb, ps ++ [p], T7, by rw [List.length_append, hpi]; rfl⟩
      clear T7 hrow hfr hnew hB6 HT6 HT5
      refine wpList_runTo rfl (some 13) rfl (.slice ai7 (i + 1) ci7) w7 (by kernel_rfl) ?_
      simp only [Act.put, List.setIfInBounds_toArray, List.set_cons_zero, List.set_cons_succ]
      refine wpList_nil ?_
      go_wp2
      exact ⟨⟨i + 1, ai7, ci7, by omega, by go_num, rfl, HT7.out⟩, by simp [RowKit.intOf]; omega⟩
    · have hii : ¬ (i : Int) < (n : Int) := by omega
      obtain ⟨va, vb, ps, T, hps⟩ := HQ.out
      have hni : i = n := by omega
      have H4 : Hid (C2 w wr o ha hb (.slice ai i ci) d ps 0 ∧ ps.length = n ∧ i = n) := by
        refine ⟨⟨va, vb, [], [], 0, ?_, rfl, Nat.le_refl _, Nat.le_refl _⟩, by omega, hni⟩
        rw [List.drop_zero, List.nil_append, hps]; exact T
      clear T hps HQ hni hi1 hx0 hx1 hx2 i1 H3
      go_wp2
      go_loopw [8, 16, 17, 18, 19, 20, 21, 22, 23] (fun x8 x16 _ _ _ _ _ _ _ wr => ∃ j : Nat, j ≤ n ∧ x16 = .int .i64 (j : Int) ∧ Hid (C2 w wr o ha hb (.slice ai i ci) d ps j)) (fun _ x16 _ _ _ _ _ _ _ _ => n - (RowKit.intOf x16).toNat)
      case atStart =>
        exact ⟨0, Nat.zero_le _, rfl, H4.out.1⟩
      case round =>
        obtain ⟨j, hjn, rfl, HQ⟩ := hrel
        by_cases hlt : j < n
        · have hji : (j : Int) < (n : Int) := by omega
          have hjb : (j : Int) + 1 < 9223372036854775808 := by have := HN.out; omega
          have hjl : (j : Int) < (l1 : Int) := by have := HN.out; omega
          have hjc : (j : Int) < (i : Int) := by have := H4.out.2; omega
          obtain ⟨va, vb, K, Lb, Nb, T, q1, q2, q3⟩ := HQ.out
          obtain ⟨b, off, rfl, hcell⟩ := (HS.out.1.below (below_of T.fr)).resolve_left (by have := HN.out; omega)
          have hc := (hcell j (by have := HN.out; omega)).1
          have hpl : j < ps.length := by have := H4.out.2; omega
          rw [itL_drop d ps hpl] at T
          generalize hP : ps.getD j 0 = p at *
          have HT : Hid (TW w (wr.alloc (.cells #[.int .i64 (d j), .int .i64 (j : Int)] 30)) o w.heap.size ha va (K ++ ⟨p, j, ⟨d j, j⟩⟩ :: (itL d ps).drop (j + 1)) ps.length hb vb Lb Nb (.slice ai i ci) ps ∧ Lb.map (·.x) = K.map (·.x) ∧ Nb ≤ j ∧ Lb.length ≤ j ∧ j < ps.length ∧ ps.getD j 0 = p ∧ i = ps.length) := ⟨T.sm (Fr.alloc _ _ _), q1, q2, q3, hpl, hP, by have := H4.out.2; omega⟩
          have HB : Hid (Blk (wr.alloc (.cells #[.int .i64 (d j), .int .i64 (j : Int)] 30)) wr.heap.size 30 #[.int .i64 (d j), .int .i64 (j : Int)]) := Blk.new _ _ _
          have HXB : Hid (w.heap.size ≤ wr.heap.size) := T.fr.size
          clear T q1 q2 q3 hcell HQ hpl hP
          go_upto_region 17 with fail
          clear hc
          generalize wr.alloc (.cells #[.int .i64 (d j), .int .i64 (j : Int)] 30) = w1 at *
          generalize wr.heap.size = xb at *
          obtain ⟨gi, oi, ci', _, hv, _, hcp, _, _, _⟩ := HT.out.1.it.more (by have := HT.out.2; omega)
          injection hv with e1 e0 e2
          subst e1 e2
          clear e0
          have hcp' : i ≤ ci := by have := HT.out.2; omega
          clear hcp
          have hji' : j < i := by omega
          by_cases hg : j < l2 ∧ f j = true
          · as_aux_lemma =>
            have hg1 : (j : Int) < (l2 : Int) := by omega
            obtain ⟨b2, off2, rfl, hcell2⟩ := (HS.out.2.1.below (below_of HT.out.1.fr)).resolve_left (by omega)
            have hc2 : w1.cell? ⟨b2, off2 + j, none⟩ = some (.bool true) := by rw [hcell2 j hg.1, hg.2]
            have hit := HT.out.1.cell HT.out.2.2.2.2.2.2 HT.out.2.2.2.2.1
            rw [HT.out.2.2.2.2.2.1] at hit
            have hrem := Remove_O HT.out.1.a (la_get K _ _)
            rw [la_erase] at hrem
            clear hcell2 hg
            go_wp2_with (go_at_call 16; fail)
            refine hrem.mono ?_
            rintro e w2 ⟨rfl, ⟨va2, h1, h2⟩, ⟨k2, h3⟩, h4⟩
            clear hrem hit hc2
            have F2 : Fr w2 (w2.alloc (.cells #[.int .i64 (d j), .int .i64 (j : Int)] 30)) (fun _ => False) := Fr.alloc _ _ _
            have HT2 : Hid (TW w (w2.alloc (.cells #[.int .i64 (d j), .int .i64 (j : Int)] 30)) o w.heap.size ha va2 (K ++ (itL d ps).drop (j + 1)) ps.length hb vb Lb Nb (.slice (some ⟨gi, oi, none⟩) i ci) ps ∧ Blk (w2.alloc (.cells #[.int .i64 (d j), .int .i64 (j : Int)] 30)) p 100 (icl ⟨p, j, ⟨d j, j⟩⟩ k2)) :=
              ⟨(HT.out.1.upd h1 h4 (fun q hq => .inl (by
                have := own_erase (m := K.length) (L := K ++ ⟨p, j, ⟨d j, j⟩⟩ :: (itL d ps).drop (j + 1)) h2 (b := q) (h := ha) (by rw [la_erase]; exact hq)
                exact this))).sm F2, h3.fr F2 (fun q => q)⟩
            have HB2 : Hid (Blk (w2.alloc (.cells #[.int .i64 (d j), .int .i64 (j : Int)] 30)) xb 30 #[.int .i64 (d j), .int .i64 (j : Int)] ∧ Blk (w2.alloc (.cells #[.int .i64 (d j), .int .i64 (j : Int)] 30)) w2.heap.size 30 #[.int .i64 (d j), .int .i64 (j : Int)] ∧ ∀ a, a ∈ K ++ (itL d ps).drop (j + 1) → a.p ≠ p) :=
              ⟨(HB.out.fr h4 (HT.out.1.a.other HB.out (by decide) (by decide) (by decide))).fr F2 (fun q => q), Blk.new _ _ _, gone_ne HT.out.1.a.rk.ne⟩
            clear h1 h2 h3 h4 F2 HB
            go_upto_region 19 with fail
            generalize w2.alloc (.cells #[.int .i64 (d j), .int .i64 (j : Int)] 30) = w3 at *
            generalize w2.heap.size = yb at *
            have hit : w3.cell? ⟨gi, oi + j, none⟩ = some (ptr p) := by rw [← HT.out.2.2.2.2.2.1]; exact HT2.out.1.cell HT.out.2.2.2.2.2.2 HT.out.2.2.2.2.1
            have hrem := Remove_Z HT2.out.1.a (it := ⟨p, j, ⟨d j, j⟩⟩) HT2.out.2 HB2.out.2.2
            go_wp2_with (go_at_call 16; fail)
            refine hrem.mono ?_
            rintro e w4 ⟨rfl, h1, h4⟩
            clear hrem hit
            have F4 : Fr w3 (w4.alloc (.cells #[.int .i64 0, .int .i64 0] 30)) (fun _ => False) := h4.trans (Fr.alloc _ _ (fun _ => False)) fun _ _ q => by rcases q with q | q <;> exact q
            have HT3 : Hid (TW w (w4.alloc (.cells #[.int .i64 0, .int .i64 0] 30)) o w.heap.size ha va2 (K ++ (itL d ps).drop (j + 1)) ps.length hb vb Lb Nb (.slice (some ⟨gi, oi, none⟩) i ci) ps ∧ Blk (w4.alloc (.cells #[.int .i64 0, .int .i64 0] 30)) p 100 (icl ⟨p, j, ⟨d j, j⟩⟩ k2) ∧ Blk (w4.alloc (.cells #[.int .i64 0, .int .i64 0] 30)) xb 30 #[.int .i64 (d j), .int .i64 (j : Int)] ∧ Blk (w4.alloc (.cells #[.int .i64 0, .int .i64 0] 30)) yb 30 #[.int .i64 (d j), .int .i64 (j : Int)]) :=
              ⟨HT2.out.1.sm F4, HT2.out.2.fr F4 (fun q => q), HB2.out.1.fr F4 (fun q => q), HB2.out.2.1.fr F4 (fun q => q)⟩
            clear h1 h4 F4 HT2
            go_upto_region 20 with fail
            generalize w4.alloc (.cells #[.int .i64 0, .int .i64 0] 30) = w5 at *
            generalize w4.heap.size = zb at *
            go_cut [22] (fun x22 wx => x22 = .int .i64 111 ∧ Hid (TW w wx o w.heap.size ha va2 (K ++ (itL d ps).drop (j + 1)) ps.length hb vb Lb Nb (.slice (some ⟨gi, oi, none⟩) i ci) ps ∧ Blk wx p 100 (icl ⟨p, j, ⟨d j, j⟩⟩ k2) ∧ Blk wx xb 30 #[.int .i64 (d j), .int .i64 (j : Int)] ∧ Blk wx yb 30 #[.int .i64 (d j), .int .i64 (j : Int)]))
            case first => as_aux_lemma =>
              rename_i Kd hKd
              refine wp_region_held (S := fun w' => w'.cell? ⟨gi, oi + j, none⟩ = some (ptr p) ∧ w'.cell? ⟨xb, 0, none⟩ = some (.int .i64 (d j)) ∧ w'.cell? ⟨xb, 1, none⟩ = some (.int .i64 (j : Int))) (by kernel_rfl) ?_
              change wpAnyH _ _ _ _ _ _ _ _ (World.drew _)
              have HT4 : Hid (TW w w5.drew o w.heap.size ha va2 (K ++ (itL d ps).drop (j + 1)) ps.length hb vb Lb Nb (.slice (some ⟨gi, oi, none⟩) i ci) ps ∧ Blk w5.drew p 100 (icl ⟨p, j, ⟨d j, j⟩⟩ k2) ∧ Blk w5.drew xb 30 #[.int .i64 (d j), .int .i64 (j : Int)] ∧ Blk w5.drew yb 30 #[.int .i64 (d j), .int .i64 (j : Int)]) := ⟨HT3.out.1.sm ((Fr.refl w5 _).drew), HT3.out.2⟩
              generalize w5.drew = w6 at *
              clear HT3
              have hS : w6.cell? ⟨gi, oi + j, none⟩ = some (ptr p) ∧ w6.cell? ⟨xb, 0, none⟩ = some (.int .i64 (d j)) ∧ w6.cell? ⟨xb, 1, none⟩ = some (.int .i64 (j : Int)) := ⟨by rw [← HT.out.2.2.2.2.2.1]; exact HT4.out.1.cell HT.out.2.2.2.2.2.2 HT.out.2.2.2.2.1, HT4.out.2.2.1.cell 0, HT4.out.2.2.1.cell 1⟩
              refine takeR (i := 0) (v := ptr ha) (some 104) rfl rfl (by kernel_rfl) (by kernel_rfl) (by kernel_rfl) (fun _ _ _ h => h) (Or.inl ⟨by kernel_rfl, fun w' hSw => by kernel_rfl⟩) hS ?_
              simp only [Act.put, List.setIfInBounds_toArray, List.set_cons_zero, List.set_cons_succ]
              refine takeR (i := 1) (v := .slice (some ⟨gi, oi, none⟩) i ci) (some 105) rfl rfl (by kernel_rfl) (by kernel_rfl) (by kernel_rfl) (fun _ _ _ h => h) (Or.inl ⟨by kernel_rfl, fun w' hSw => by kernel_rfl⟩) hS ?_
              simp only [Act.put, List.setIfInBounds_toArray, List.set_cons_zero, List.set_cons_succ]
              refine takeR (i := 2) (v := .int .i64 (j : Int)) (some 106) rfl rfl (by kernel_rfl) (by kernel_rfl) (by kernel_rfl) (fun _ _ _ h => h) (Or.inl ⟨by kernel_rfl, fun w' hSw => by kernel_rfl⟩) hS ?_
              simp only [Act.put, List.setIfInBounds_toArray, List.set_cons_zero, List.set_cons_succ]
              refine takeR (i := 3) (v := .pointer (some ⟨gi, oi + j, none⟩)) (some 107) rfl rfl (by kernel_rfl) (by kernel_rfl) (by kernel_rfl) (fun _ _ _ h => h) (Or.inl ⟨by kernel_rfl, fun w' hSw => by clear hSw; go_simp⟩) hS ?_
              simp only [Act.put, List.setIfInBounds_toArray, List.set_cons_zero, List.set_cons_succ]
              refine takeR (i := 4) (v := ptr p) (some 108) rfl rfl (by kernel_rfl) (by kernel_rfl) (by kernel_rfl) (fun _ _ _ h => h) (Or.inl ⟨by kernel_rfl, fun w' hSw => by have q := hSw.1; clear hSw; go_simp⟩) hS ?_
              simp only [Act.put, List.setIfInBounds_toArray, List.set_cons_zero, List.set_cons_succ]
              refine takeR (i := 5) (v := .agg #[.int .i64 (d j), .int .i64 (j : Int)]) (some 109) rfl rfl (by kernel_rfl) (by kernel_rfl) (by kernel_rfl) (fun _ _ _ h => h) (Or.inl ⟨by kernel_rfl, fun w' hSw => by have q := hSw.2.1; have q' := hSw.2.2; clear hSw; go_simp⟩) hS ?_
              simp only [Act.put, List.setIfInBounds_toArray, List.set_cons_zero, List.set_cons_succ]
              refine wpAnyH_ready (rs := [6]) (by kernel_rfl) (by simp) ?_
              refine AllReadyH.cons rfl (fun K1 hK1 => ?_) AllReadyH.nil
              rw [if_pos (by kernel_rfl)]
              have hset := Set_Z HT4.out.1.a ⟨d j, j⟩ (it := ⟨p, j, ⟨d j, j⟩⟩) HT4.out.2.1 HB2.out.2.2
              refine callR (d := some 110) rfl 17 #[ptr ha, ptr p, .agg #[.int .i64 (d j), .int .i64 (j : Int)]] (by kernel_rfl) hset ?_
              rintro e w7 ⟨rfl, h1, h2⟩
              have HT5 : Hid (TW w w7 o w.heap.size ha va2 (K ++ (itL d ps).drop (j + 1)) ps.length hb vb Lb Nb (.slice (some ⟨gi, oi, none⟩) i ci) ps ∧ Blk w7 p 100 (icl ⟨p, j, ⟨d j, j⟩⟩ k2) ∧ Blk w7 xb 30 #[.int .i64 (d j), .int .i64 (j : Int)] ∧ Blk w7 yb 30 #[.int .i64 (d j), .int .i64 (j : Int)]) :=
                ⟨HT4.out.1.sm h2, HT4.out.2.1.fr h2 (fun q => q), HT4.out.2.2.1.fr h2 (fun q => q), HT4.out.2.2.2.fr h2 (fun q => q)⟩
              have hS7 : w7.cell? ⟨gi, oi + j, none⟩ = some (ptr p) ∧ w7.cell? ⟨xb, 0, none⟩ = some (.int .i64 (d j)) ∧ w7.cell? ⟨xb, 1, none⟩ = some (.int .i64 (j : Int)) := ⟨by rw [← HT.out.2.2.2.2.2.1]; exact HT5.out.1.cell HT.out.2.2.2.2.2.2 HT.out.2.2.2.2.1, HT5.out.2.2.1.cell 0, HT5.out.2.2.1.cell 1⟩
              refine ⟨_, rfl, ?_⟩
              refine hK1.out _ _ hS7 (fun _ => ?_)
              clear hK1 hset h1 h2 hS
              simp only [Act.put, List.setIfInBounds_toArray, List.set_cons_zero, List.set_cons_succ]
              refine takeR (i := 7) (v := .int .i64 111) (some 22) rfl rfl (by kernel_rfl) (by kernel_rfl) (by kernel_rfl) (fun _ _ _ h => h) (Or.inl ⟨by kernel_rfl, fun w' hSw => by kernel_rfl⟩) hS7 ?_
              simp only [Act.put, List.setIfInBounds_toArray, List.set_cons_zero, List.set_cons_succ]
              refine wpAnyH_done (by kernel_rfl) ?_ _
              refine hKd _ _ ?_
              go_meet
              exact ⟨rfl, HT5.out⟩
            case rest =>
              obtain ⟨rfl, HT4⟩ := hcut
              clear HT3
              have hnq : ∀ W, (binOp .neq 30 (.agg #[.int .i64 (d j), .int .i64 (j : Int)]) (.agg #[.int .i64 (d j), .int .i64 (j : Int)])).run Try.prog W = .ok (.bool false) W := fun W => by have q := thing_neq ⟨d j, j⟩ ⟨d j, j⟩ W; simpa using q
              go_upto_region 21 with fail
              go_cut [134] (fun x134 wx => x134 = .bool false ∧ Hid (TW w wx o w.heap.size ha va2 (K ++ (itL d ps).drop (j + 1)) ps.length hb vb Lb Nb (.slice (some ⟨gi, oi, none⟩) i ci) ps))
              case first => as_aux_lemma =>
                rename_i Kd hKd
                refine wp_region_held (S := fun w' => w'.cell? ⟨gi, oi + j, none⟩ = some (ptr p) ∧ w'.cell? ⟨xb, 0, none⟩ = some (.int .i64 (d j)) ∧ w'.cell? ⟨xb, 1, none⟩ = some (.int .i64 (j : Int)) ∧ w'.cell? ⟨yb, 0, none⟩ = some (.int .i64 (d j)) ∧ w'.cell? ⟨yb, 1, none⟩ = some (.int .i64 (j : Int))) (by kernel_rfl) ?_
                change wpAnyH _ _ _ _ _ _ _ _ (World.drew _)
                have HT6 : Hid (TW w wc.drew o w.heap.size ha va2 (K ++ (itL d ps).drop (j + 1)) ps.length hb vb Lb Nb (.slice (some ⟨gi, oi, none⟩) i ci) ps ∧ Blk wc.drew p 100 (icl ⟨p, j, ⟨d j, j⟩⟩ k2) ∧ Blk wc.drew xb 30 #[.int .i64 (d j), .int .i64 (j : Int)] ∧ Blk wc.drew yb 30 #[.int .i64 (d j), .int .i64 (j : Int)]) := ⟨HT4.out.1.sm ((Fr.refl wc _).drew), HT4.out.2⟩
                generalize wc.drew = w6 at *
                clear HT4
                have hS : w6.cell? ⟨gi, oi + j, none⟩ = some (ptr p) ∧ w6.cell? ⟨xb, 0, none⟩ = some (.int .i64 (d j)) ∧ w6.cell? ⟨xb, 1, none⟩ = some (.int .i64 (j : Int)) ∧ w6.cell? ⟨yb, 0, none⟩ = some (.int .i64 (d j)) ∧ w6.cell? ⟨yb, 1, none⟩ = some (.int .i64 (j : Int)) := ⟨by rw [← HT.out.2.2.2.2.2.1]; exact HT6.out.1.cell HT.out.2.2.2.2.2.2 HT.out.2.2.2.2.1, HT6.out.2.2.1.cell 0, HT6.out.2.2.1.cell 1, HT6.out.2.2.2.cell 0, HT6.out.2.2.2.cell 1⟩
                refine takeR (i := 0) (v := .agg #[.int .i64 (d j), .int .i64 (j : Int)]) (some 111) rfl rfl (by kernel_rfl) (by kernel_rfl) (by kernel_rfl) (fun _ _ _ h => h) (Or.inl ⟨by kernel_rfl, fun w' hSw => by have q := hSw.2.2.2.1; have q' := hSw.2.2.2.2; clear hSw; go_simp⟩) hS ?_
                simp only [Act.put, List.setIfInBounds_toArray, List.set_cons_zero, List.set_cons_succ]
                refine takeR (i := 1) (v := .agg #[.int .i64 (d j), .int .i64 (j : Int)]) (some 112) rfl rfl (by kernel_rfl) (by kernel_rfl) (by kernel_rfl) (fun _ _ _ h => h) (Or.inl ⟨by kernel_rfl, fun w' hSw => by have q := hSw.2.1; have q' := hSw.2.2.1; clear hSw; go_simp⟩) hS ?_
                simp only [Act.put, List.setIfInBounds_toArray, List.set_cons_zero, List.set_cons_succ]
                refine takeR (i := 2) (v := .bool false) (some 113) rfl rfl (by kernel_rfl) (by kernel_rfl) (by kernel_rfl) (fun _ _ _ h => h) (Or.inl ⟨by kernel_rfl, fun w' hSw => by clear hSw; go_simp⟩) hS ?_
                simp only [Act.put, List.setIfInBounds_toArray, List.set_cons_zero, List.set_cons_succ]
                refine takeR (i := 3) (v := .bool false) (some 114) rfl rfl (by kernel_rfl) (by kernel_rfl) (by kernel_rfl) (fun _ _ _ h => h) (Or.inl ⟨by kernel_rfl, fun w' hSw => by kernel_rfl⟩) hS ?_
                simp only [Act.put, List.setIfInBounds_toArray, List.set_cons_zero, List.set_cons_succ]
                refine takeR (i := 4) (v := .int .i64 0) (some 115) rfl rfl (by kernel_rfl) (by kernel_rfl) (by kernel_rfl) (fun _ _ _ h => h) (Or.inl ⟨by kernel_rfl, fun w' hSw => by kernel_rfl⟩) hS ?_
                simp only [Act.put, List.setIfInBounds_toArray, List.set_cons_zero, List.set_cons_succ]
                refine takeR (i := 5) (v := .bool false) (some 116) rfl rfl (by kernel_rfl) (by kernel_rfl) (by kernel_rfl) (fun _ _ _ h => h) (Or.inl ⟨by kernel_rfl, fun w' hSw => by kernel_rfl⟩) hS ?_
                simp only [Act.put, List.setIfInBounds_toArray, List.set_cons_zero, List.set_cons_succ]
                refine takeR (i := 6) (v := .bool false) (some 117) rfl rfl (by kernel_rfl) (by kernel_rfl) (by kernel_rfl) (fun _ _ _ h => h) (Or.inl ⟨by kernel_rfl, fun w' hSw => by kernel_rfl⟩) hS ?_
                simp only [Act.put, List.setIfInBounds_toArray, List.set_cons_zero, List.set_cons_succ]
                refine takeR (i := 7) (v := .bool false) (some 118) rfl rfl (by kernel_rfl) (by kernel_rfl) (by kernel_rfl) (fun _ _ _ h => h) (Or.inl ⟨by kernel_rfl, fun w' hSw => by kernel_rfl⟩) hS ?_
                simp only [Act.put, List.setIfInBounds_toArray, List.set_cons_zero, List.set_cons_succ]
                refine takeR (i := 8) (v := .int .i64 111) (some 119) rfl rfl (by kernel_rfl) (by kernel_rfl) (by kernel_rfl) (fun _ _ _ h => h) (Or.inl ⟨by kernel_rfl, fun w' hSw => by kernel_rfl⟩) hS ?_
                simp only [Act.put, List.setIfInBounds_toArray, List.set_cons_zero, List.set_cons_succ]
                refine takeR (i := 9) (v := .bool false) (some 120) rfl rfl (by kernel_rfl) (by kernel_rfl) (by kernel_rfl) (fun _ _ _ h => h) (Or.inl ⟨by kernel_rfl, fun w' hSw => by kernel_rfl⟩) hS ?_
                simp only [Act.put, List.setIfInBounds_toArray, List.set_cons_zero, List.set_cons_succ]
                refine takeR (i := 10) (v := .bool false) (some 121) rfl rfl (by kernel_rfl) (by kernel_rfl) (by kernel_rfl) (fun _ _ _ h => h) (Or.inl ⟨by kernel_rfl, fun w' hSw => by kernel_rfl⟩) hS ?_
                simp only [Act.put, List.setIfInBounds_toArray, List.set_cons_zero, List.set_cons_succ]
                refine takeR (i := 11) (v := .bool false) (some 122) rfl rfl (by kernel_rfl) (by kernel_rfl) (by kernel_rfl) (fun _ _ _ h => h) (Or.inl ⟨by kernel_rfl, fun w' hSw => by kernel_rfl⟩) hS ?_
                simp only [Act.put, List.setIfInBounds_toArray, List.set_cons_zero, List.set_cons_succ]
                refine takeR (i := 12) (v := .int .i64 111) (some 123) rfl rfl (by kernel_rfl) (by kernel_rfl) (by kernel_rfl) (fun _ _ _ h => h) (Or.inl ⟨by kernel_rfl, fun w' hSw => by kernel_rfl⟩) hS ?_
                simp only [Act.put, List.setIfInBounds_toArray, List.set_cons_zero, List.set_cons_succ]
                refine takeR (i := 13) (v := .bool false) (some 124) rfl rfl (by kernel_rfl) (by kernel_rfl) (by kernel_rfl) (fun _ _ _ h => h) (Or.inl ⟨by kernel_rfl, fun w' hSw => by kernel_rfl⟩) hS ?_
                simp only [Act.put, List.setIfInBounds_toArray, List.set_cons_zero, List.set_cons_succ]
                refine takeR (i := 14) (v := .bool false) (some 125) rfl rfl (by kernel_rfl) (by kernel_rfl) (by kernel_rfl) (fun _ _ _ h => h) (Or.inl ⟨by kernel_rfl, fun w' hSw => by kernel_rfl⟩) hS ?_
                simp only [Act.put, List.setIfInBounds_toArray, List.set_cons_zero, List.set_cons_succ]
                refine takeR (i := 15) (v := .bool false) (some 126) rfl rfl (by kernel_rfl) (by kernel_rfl) (by kernel_rfl) (fun _ _ _ h => h) (Or.inl ⟨by kernel_rfl, fun w' hSw => by kernel_rfl⟩) hS ?_
                simp only [Act.put, List.setIfInBounds_toArray, List.set_cons_zero, List.set_cons_succ]
                refine takeR (i := 16) (v := .slice (some ⟨gi, oi, none⟩) i ci) (some 127) rfl rfl (by kernel_rfl) (by kernel_rfl) (by kernel_rfl) (fun _ _ _ h => h) (Or.inl ⟨by kernel_rfl, fun w' hSw => by kernel_rfl⟩) hS ?_
                simp only [Act.put, List.setIfInBounds_toArray, List.set_cons_zero, List.set_cons_succ]
                refine takeR (i := 17) (v := .int .i64 (j : Int)) (some 128) rfl rfl (by kernel_rfl) (by kernel_rfl) (by kernel_rfl) (fun _ _ _ h => h) (Or.inl ⟨by kernel_rfl, fun w' hSw => by kernel_rfl⟩) hS ?_
                simp only [Act.put, List.setIfInBounds_toArray, List.set_cons_zero, List.set_cons_succ]
                refine takeR (i := 18) (v := .pointer (some ⟨gi, oi + j, none⟩)) (some 129) rfl rfl (by kernel_rfl) (by kernel_rfl) (by kernel_rfl) (fun _ _ _ h => h) (Or.inl ⟨by kernel_rfl, fun w' hSw => by clear hSw; go_simp⟩) hS ?_
                simp only [Act.put, List.setIfInBounds_toArray, List.set_cons_zero, List.set_cons_succ]
                refine takeR (i := 19) (v := ptr p) (some 130) rfl rfl (by kernel_rfl) (by kernel_rfl) (by kernel_rfl) (fun _ _ _ h => h) (Or.inl ⟨by kernel_rfl, fun w' hSw => by have q := hSw.1; clear hSw; go_simp⟩) hS ?_
                simp only [Act.put, List.setIfInBounds_toArray, List.set_cons_zero, List.set_cons_succ]
                refine takeR (i := 21) (v := .agg #[.int .i64 (d j), .int .i64 (j : Int)]) (some 132) rfl rfl (by kernel_rfl) (by kernel_rfl) (by kernel_rfl) (fun _ _ _ h => h) (Or.inl ⟨by kernel_rfl, fun w' hSw => by have q := hSw.2.1; have q' := hSw.2.2.1; clear hSw; go_simp⟩) hS ?_
                simp only [Act.put, List.setIfInBounds_toArray, List.set_cons_zero, List.set_cons_succ]
                refine wpAnyH_ready (rs := [20]) (by kernel_rfl) (by simp) ?_
                refine AllReadyH.cons rfl (fun K1 hK1 => ?_) AllReadyH.nil
                rw [if_pos (by kernel_rfl)]
                refine callR (d := some 131) rfl 18 #[ptr p] (by kernel_rfl) (Value_any (it := ⟨p, j, ⟨d j, j⟩⟩) HT6.out.2.1) ?_
                rintro e w7 ⟨rfl, h2⟩
                have HT7 : Hid (TW w w7 o w.heap.size ha va2 (K ++ (itL d ps).drop (j + 1)) ps.length hb vb Lb Nb (.slice (some ⟨gi, oi, none⟩) i ci) ps) := HT6.out.1.sm h2
                have hS7 : w7.cell? ⟨gi, oi + j, none⟩ = some (ptr p) ∧ w7.cell? ⟨xb, 0, none⟩ = some (.int .i64 (d j)) ∧ w7.cell? ⟨xb, 1, none⟩ = some (.int .i64 (j : Int)) ∧ w7.cell? ⟨yb, 0, none⟩ = some (.int .i64 (d j)) ∧ w7.cell? ⟨yb, 1, none⟩ = some (.int .i64 (j : Int)) := ⟨h2.cell hS.1 (fun q => q), h2.cell hS.2.1 (fun q => q), h2.cell hS.2.2.1 (fun q => q), h2.cell hS.2.2.2.1 (fun q => q), h2.cell hS.2.2.2.2 (fun q => q)⟩
                refine ⟨_, rfl, ?_⟩
                refine hK1.out _ _ hS7 (fun _ => ?_)
                clear hK1 h2 hS
                simp only [Act.put, List.setIfInBounds_toArray, List.set_cons_zero, List.set_cons_succ]
                refine takeR (i := 22) (v := .bool false) (some 133) rfl rfl (by kernel_rfl) (by kernel_rfl) (by kernel_rfl) (fun _ _ _ h => h) (Or.inl ⟨by kernel_rfl, fun w' hSw => by clear hSw; go_simp⟩) hS7 ?_
                simp only [Act.put, List.setIfInBounds_toArray, List.set_cons_zero, List.set_cons_succ]
                refine takeR (i := 23) (v := .bool false) (some 134) rfl rfl (by kernel_rfl) (by kernel_rfl) (by kernel_rfl) (fun _ _ _ h => h) (Or.inl ⟨by kernel_rfl, fun w' hSw => by kernel_rfl⟩) hS7 ?_
                simp only [Act.put, List.setIfInBounds_toArray, List.set_cons_zero, List.set_cons_succ]
                refine wpAnyH_done (by kernel_rfl) ?_ _
                refine hKd _ _ ?_
                go_meet
                exact ⟨rfl, HT7.out⟩
              case rest =>
                obtain ⟨rfl, HT5⟩ := hcut
                clear HT4 hnq
                go_wp2
                exact ⟨⟨j + 1, by omega, by go_num, ⟨va2, vb, K, Lb, Nb, HT5.out, HT.out.2.1, by have := HT.out.2; omega, by have := HT.out.2; omega⟩⟩, by simp [RowKit.intOf]; omega⟩
          · have hgb : Hid (¬ (j < l2 ∧ f j = true)) := hg
            clear hg
            go_cut [85] (fun x85 wx => x85 = .bool false ∧ wx = w1)
            case first => as_aux_lemma =>
              by_cases hg1 : j < l2
              · have hg1' : (j : Int) < (l2 : Int) := by omega
                obtain ⟨b2, off2, rfl, hcell2⟩ := (HS.out.2.1.below (below_of HT.out.1.fr)).resolve_left (by omega)
                have hff : f j = false := by
                  cases hh : f j with
                  | false => rfl
                  | true => exact absurd ⟨hg1, hh⟩ hgb.out
                have hc2 : w1.cell? ⟨b2, off2 + j, none⟩ = some (.bool false) := by rw [hcell2 j hg1, hff]
                clear hcell2
                go_wp2
                go_meet
                exact ⟨rfl, rfl⟩
              · have hg1' : ¬ (j : Int) < (l2 : Int) := by omega
                go_wp2
                go_meet
                exact ⟨rfl, rfl⟩
            case rest =>
              obtain ⟨rfl, hw⟩ := hcut
              subst hw
              go_upto_region 23 with fail
              generalize hTB : (decide (j < l3) && decide ((u j).tmod 2 = 0)) = tb
              go_cut [146] (fun x146 wx => x146 = .bool tb ∧ wx = wc)
              case first => as_aux_lemma =>
                by_cases hg1 : j < l3
                · have hg1' : (j : Int) < (l3 : Int) := by omega
                  obtain ⟨b2, off2, rfl, hcell2⟩ := (HS.out.2.2.below (below_of HT.out.1.fr)).resolve_left (by omega)
                  have hc2 := (hcell2 j hg1).1
                  have HTB : Hid (decide ((u j).tmod 2 = 0) = tb) := by rw [decide_eq_true hg1, Bool.true_and] at hTB; exact hTB
                  clear hcell2 hTB
                  have HM : Hid (-2 < (u j).tmod 2 ∧ (u j).tmod 2 < 2) := by
                    by_cases h : 0 ≤ u j
                    · show _ ∧ _; rw [Int.tmod_eq_emod_of_nonneg h]; omega
                    · have e : (u j).tmod 2 = -((-(u j)).tmod 2) := by rw [Int.neg_tmod]; omega
                      show _ ∧ _
                      rw [e, Int.tmod_eq_emod_of_nonneg (by omega)]; omega
                  go_wp2
                  go_meet
                  exact ⟨congrArg Value.bool HTB.out, rfl⟩
                · have hg1' : ¬ (j : Int) < (l3 : Int) := by omega
                  have htb : tb = false := by rw [← hTB, decide_eq_false hg1]; rfl
                  subst htb
                  clear hTB
                  go_wp2
                  go_meet
                  exact ⟨rfl, rfl⟩
              case rest =>
                obtain ⟨rfl, hw⟩ := hcut
                subst hw
                cases tb with
                | false => as_aux_lemma =>
                  have HTP : Hid (TW w wc o w.heap.size ha va ((K ++ [⟨p, j, ⟨d j, j⟩⟩]) ++ (itL d ps).drop (j + 1)) ps.length hb vb Lb Nb (.slice (some ⟨gi, oi, none⟩) i ci) ps) := by
                    have q := HT.out.1
                    rw [show K ++ (⟨p, j, ⟨d j, j⟩⟩ :: (itL d ps).drop (j + 1) : List (It Th)) = (K ++ [⟨p, j, ⟨d j, j⟩⟩]) ++ (itL d ps).drop (j + 1) by rw [List.append_assoc]; rfl] at q
                    exact q
                  generalize wc = wp at *
                  have px0 : wp.cell? ⟨xb, 0, none⟩ = some (.int .i64 (d j)) := HB.out.cell 0
                  have px1 : wp.cell? ⟨xb, 1, none⟩ = some (.int .i64 (j : Int)) := HB.out.cell 1
                  have hpu := Push_O HTP.out.b ⟨d j, j⟩ (by have := HT.out.2; have := HN.out; have := H4.out.2; omega) (by have := HT.out.2; have := HN.out; have := H4.out.2; omega)
                  go_wp2_with (go_at_call 11; fail)
                  refine hpu.mono ?_
                  rintro e w9 ⟨rfl, ⟨vb', h5, h6⟩, h7⟩
                  have HX : Hid (C2 w w9 o ha hb (.slice (some ⟨gi, oi, none⟩) i ci) d ps (j + 1)) :=
                    ⟨va, vb', K ++ [⟨p, j, ⟨d j, j⟩⟩], _, Nb + 1, (HTP.out.swp.upd h5 h7 (fun q hq => own_push h6 (by omega) hq)).swp, by rw [List.map_append, List.map_append, HT.out.2.1]; rfl, by have := HT.out.2; omega, by rw [List.length_append, List.length_singleton]; have := HT.out.2; omega⟩
                  clear h5 h6 h7 hpu px0 px1
                  go_wp2
                  exact ⟨⟨j + 1, by omega, by go_num, HX.out⟩, by simp [RowKit.intOf]; omega⟩
                | true => as_aux_lemma =>
                  have hl3 : j < l3 := by
                    by_cases q : j < l3
                    · exact q
                    · rw [decide_eq_false q] at hTB; cases hTB
                  clear hTB
                  have hg1' : (j : Int) < (l3 : Int) := by omega
                  obtain ⟨b2, off2, rfl, hcell2⟩ := (HS.out.2.2.below (below_of HT.out.1.fr)).resolve_left (by omega)
                  have hc2 := (hcell2 j hl3).1
                  have x0 : wc.cell? ⟨xb, 0, none⟩ = some (.int .i64 (d j)) := HB.out.cell 0
                  have xf := HB.out.frozen 0
                  have HT2 : Hid (TW w (wc.setCell ⟨xb, 0, none⟩ (.int .i64 (u j))) o w.heap.size ha va (K ++ ⟨p, j, ⟨d j, j⟩⟩ :: (itL d ps).drop (j + 1)) ps.length hb vb Lb Nb (.slice (some ⟨gi, oi, none⟩) i ci) ps ∧ Blk (wc.setCell ⟨xb, 0, none⟩ (.int .i64 (u j))) xb 30 #[.int .i64 (u j), .int .i64 (j : Int)]) := ⟨HT.out.1.loc HB.out HXB.out 0 _, HB.out.set 0 _⟩
                  clear hcell2 HB
                  go_upto_region 25 with fail
                  clear hc2 x0 xf
                  generalize wc.setCell ⟨xb, 0, none⟩ (.int .i64 (u j)) = w5 at *
                  go_cut [23] (fun x23 wx => x23 = .int .i64 0 ∧ Hid (TW w wx o w.heap.size ha va ((K ++ [⟨p, j, ⟨u j, j⟩⟩]) ++ (itL d ps).drop (j + 1)) ps.length hb vb Lb Nb (.slice (some ⟨gi, oi, none⟩) i ci) ps ∧ Blk wx xb 30 #[.int .i64 (u j), .int .i64 (j : Int)]))
                  case first => as_aux_lemma =>
                    rename_i Kd hKd
                    refine wp_region_held (S := fun w' => w'.cell? ⟨gi, oi + j, none⟩ = some (ptr p) ∧ w'.cell? ⟨xb, 0, none⟩ = some (.int .i64 (u j)) ∧ w'.cell? ⟨xb, 1, none⟩ = some (.int .i64 (j : Int))) (by kernel_rfl) ?_
                    change wpAnyH _ _ _ _ _ _ _ _ (World.drew _)
                    have HT4 : Hid (TW w w5.drew o w.heap.size ha va (K ++ ⟨p, j, ⟨d j, j⟩⟩ :: (itL d ps).drop (j + 1)) ps.length hb vb Lb Nb (.slice (some ⟨gi, oi, none⟩) i ci) ps ∧ Blk w5.drew xb 30 #[.int .i64 (u j), .int .i64 (j : Int)]) := ⟨HT2.out.1.sm ((Fr.refl w5 _).drew), HT2.out.2⟩
                    generalize w5.drew = w6 at *
                    clear HT2
                    have hS : w6.cell? ⟨gi, oi + j, none⟩ = some (ptr p) ∧ w6.cell? ⟨xb, 0, none⟩ = some (.int .i64 (u j)) ∧ w6.cell? ⟨xb, 1, none⟩ = some (.int .i64 (j : Int)) := ⟨by rw [← HT.out.2.2.2.2.2.1]; exact HT4.out.1.cell HT.out.2.2.2.2.2.2 HT.out.2.2.2.2.1, HT4.out.2.cell 0, HT4.out.2.cell 1⟩
                    refine takeR (i := 0) (v := ptr ha) (some 152) rfl rfl (by kernel_rfl) (by kernel_rfl) (by kernel_rfl) (fun _ _ _ h => h) (Or.inl ⟨by kernel_rfl, fun w' hSw => by kernel_rfl⟩) hS ?_
                    simp only [Act.put, List.setIfInBounds_toArray, List.set_cons_zero, List.set_cons_succ]
                    refine takeR (i := 1) (v := .slice (some ⟨gi, oi, none⟩) i ci) (some 153) rfl rfl (by kernel_rfl) (by kernel_rfl) (by kernel_rfl) (fun _ _ _ h => h) (Or.inl ⟨by kernel_rfl, fun w' hSw => by kernel_rfl⟩) hS ?_
                    simp only [Act.put, List.setIfInBounds_toArray, List.set_cons_zero, List.set_cons_succ]
                    refine takeR (i := 2) (v := .int .i64 (j : Int)) (some 154) rfl rfl (by kernel_rfl) (by kernel_rfl) (by kernel_rfl) (fun _ _ _ h => h) (Or.inl ⟨by kernel_rfl, fun w' hSw => by kernel_rfl⟩) hS ?_
                    simp only [Act.put, List.setIfInBounds_toArray, List.set_cons_zero, List.set_cons_succ]
                    refine takeR (i := 3) (v := .pointer (some ⟨gi, oi + j, none⟩)) (some 155) rfl rfl (by kernel_rfl) (by kernel_rfl) (by kernel_rfl) (fun _ _ _ h => h) (Or.inl ⟨by kernel_rfl, fun w' hSw => by clear hSw; go_simp⟩) hS ?_
                    simp only [Act.put, List.setIfInBounds_toArray, List.set_cons_zero, List.set_cons_succ]
                    refine takeR (i := 4) (v := ptr p) (some 156) rfl rfl (by kernel_rfl) (by kernel_rfl) (by kernel_rfl) (fun _ _ _ h => h) (Or.inl ⟨by kernel_rfl, fun w' hSw => by have q := hSw.1; clear hSw; go_simp⟩) hS ?_
                    simp only [Act.put, List.setIfInBounds_toArray, List.set_cons_zero, List.set_cons_succ]
                    refine takeR (i := 5) (v := .agg #[.int .i64 (u j), .int .i64 (j : Int)]) (some 157) rfl rfl (by kernel_rfl) (by kernel_rfl) (by kernel_rfl) (fun _ _ _ h => h) (Or.inl ⟨by kernel_rfl, fun w' hSw => by have q := hSw.2.1; have q' := hSw.2.2; clear hSw; go_simp⟩) hS ?_
                    simp only [Act.put, List.setIfInBounds_toArray, List.set_cons_zero, List.set_cons_succ]
                    refine wpAnyH_ready (rs := [6]) (by kernel_rfl) (by simp) ?_
                    refine AllReadyH.cons rfl (fun K1 hK1 => ?_) AllReadyH.nil
                    rw [if_pos (by kernel_rfl)]
                    have hset := Set_O HT4.out.1.a ⟨u j, j⟩ (la_get K _ _)
                    rw [la_set] at hset
                    refine callR (d := some 158) rfl 17 #[ptr ha, ptr p, .agg #[.int .i64 (u j), .int .i64 (j : Int)]] (by kernel_rfl) hset ?_
                    rintro e w7 ⟨rfl, h1, h2⟩
                    have HT5 : Hid (TW w w7 o w.heap.size ha va ((K ++ [⟨p, j, ⟨u j, j⟩⟩]) ++ (itL d ps).drop (j + 1)) ps.length hb vb Lb Nb (.slice (some ⟨gi, oi, none⟩) i ci) ps ∧ Blk w7 xb 30 #[.int .i64 (u j), .int .i64 (j : Int)]) :=
                      ⟨HT4.out.1.upd h1 h2 (fun q hq => .inl (own_set (m := K.length) (x := ⟨u j, j⟩) (la_get K _ _) (by rw [la_set]; exact hq))), HT4.out.2.fr h2 (HT4.out.1.a.other HT4.out.2 (by decide) (by decide) (by decide))⟩
                    have hS7 : w7.cell? ⟨gi, oi + j, none⟩ = some (ptr p) ∧ w7.cell? ⟨xb, 0, none⟩ = some (.int .i64 (u j)) ∧ w7.cell? ⟨xb, 1, none⟩ = some (.int .i64 (j : Int)) := ⟨by rw [← HT.out.2.2.2.2.2.1]; exact HT5.out.1.cell HT.out.2.2.2.2.2.2 HT.out.2.2.2.2.1, HT5.out.2.cell 0, HT5.out.2.cell 1⟩
                    refine ⟨_, rfl, ?_⟩
                    refine hK1.out _ _ hS7 (fun _ => ?_)
                    clear hK1 hset h1 h2 hS
                    simp only [Act.put, List.setIfInBounds_toArray, List.set_cons_zero, List.set_cons_succ]
                    refine takeR (i := 7) (v := .int .i64 0) (some 23) rfl rfl (by kernel_rfl) (by kernel_rfl) (by kernel_rfl) (fun _ _ _ h => h) (Or.inl ⟨by kernel_rfl, fun w' hSw => by kernel_rfl⟩) hS7 ?_
                    simp only [Act.put, List.setIfInBounds_toArray, List.set_cons_zero, List.set_cons_succ]
                    refine wpAnyH_done (by kernel_rfl) ?_ _
                    refine hKd _ _ ?_
                    go_meet
                    exact ⟨rfl, HT5.out⟩
                  case rest =>
                    obtain ⟨rfl, HT4⟩ := hcut
                    clear HT2
                    have hnq : ∀ W, (binOp .neq 30 (.agg #[.int .i64 (u j), .int .i64 (j : Int)]) (.agg #[.int .i64 (u j), .int .i64 (j : Int)])).run Try.prog W = .ok (.bool false) W := fun W => by have q := thing_neq ⟨u j, j⟩ ⟨u j, j⟩ W; simpa using q
                    go_upto_region 26 with fail
                    go_cut [169] (fun x169 wx => x169 = .bool false ∧ Hid (TW w wx o w.heap.size ha va ((K ++ [⟨p, j, ⟨u j, j⟩⟩]) ++ (itL d ps).drop (j + 1)) ps.length hb vb Lb Nb (.slice (some ⟨gi, oi, none⟩) i ci) ps ∧ Blk wx xb 30 #[.int .i64 (u j), .int .i64 (j : Int)]))
                    case first => as_aux_lemma =>
                      rename_i Kd hKd
                      refine wp_region_held (S := fun w' => w'.cell? ⟨gi, oi + j, none⟩ = some (ptr p) ∧ w'.cell? ⟨xb, 0, none⟩ = some (.int .i64 (u j)) ∧ w'.cell? ⟨xb, 1, none⟩ = some (.int .i64 (j : Int))) (by kernel_rfl) ?_
                      change wpAnyH _ _ _ _ _ _ _ _ (World.drew _)
                      have HT6 : Hid (TW w wc.drew o w.heap.size ha va ((K ++ [⟨p, j, ⟨u j, j⟩⟩]) ++ (itL d ps).drop (j + 1)) ps.length hb vb Lb Nb (.slice (some ⟨gi, oi, none⟩) i ci) ps ∧ Blk wc.drew xb 30 #[.int .i64 (u j), .int .i64 (j : Int)]) := ⟨HT4.out.1.sm ((Fr.refl wc _).drew), HT4.out.2⟩
                      generalize wc.drew = w6 at *
                      clear HT4
                      have hS : w6.cell? ⟨gi, oi + j, none⟩ = some (ptr p) ∧ w6.cell? ⟨xb, 0, none⟩ = some (.int .i64 (u j)) ∧ w6.cell? ⟨xb, 1, none⟩ = some (.int .i64 (j : Int)) := ⟨by rw [← HT.out.2.2.2.2.2.1]; exact HT6.out.1.cell HT.out.2.2.2.2.2.2 HT.out.2.2.2.2.1, HT6.out.2.cell 0, HT6.out.2.cell 1⟩
                      refine takeR (i := 0) (v := .int .i64 0) (some 159) rfl rfl (by kernel_rfl) (by kernel_rfl) (by kernel_rfl) (fun _ _ _ h => h) (Or.inl ⟨by kernel_rfl, fun w' hSw => by kernel_rfl⟩) hS ?_
                      simp only [Act.put, List.setIfInBounds_toArray, List.set_cons_zero, List.set_cons_succ]
                      refine takeR (i := 1) (v := .bool false) (some 160) rfl rfl (by kernel_rfl) (by kernel_rfl) (by kernel_rfl) (fun _ _ _ h => h) (Or.inl ⟨by kernel_rfl, fun w' hSw => by kernel_rfl⟩) hS ?_
                      simp only [Act.put, List.setIfInBounds_toArray, List.set_cons_zero, List.set_cons_succ]
                      refine takeR (i := 2) (v := .bool false) (some 161) rfl rfl (by kernel_rfl) (by kernel_rfl) (by kernel_rfl) (fun _ _ _ h => h) (Or.inl ⟨by kernel_rfl, fun w' hSw => by kernel_rfl⟩) hS ?_
                      simp only [Act.put, List.setIfInBounds_toArray, List.set_cons_zero, List.set_cons_succ]
                      refine takeR (i := 3) (v := .slice (some ⟨gi, oi, none⟩) i ci) (some 162) rfl rfl (by kernel_rfl) (by kernel_rfl) (by kernel_rfl) (fun _ _ _ h => h) (Or.inl ⟨by kernel_rfl, fun w' hSw => by kernel_rfl⟩) hS ?_
                      simp only [Act.put, List.setIfInBounds_toArray, List.set_cons_zero, List.set_cons_succ]
                      refine takeR (i := 4) (v := .int .i64 (j : Int)) (some 163) rfl rfl (by kernel_rfl) (by kernel_rfl) (by kernel_rfl) (fun _ _ _ h => h) (Or.inl ⟨by kernel_rfl, fun w' hSw => by kernel_rfl⟩) hS ?_
                      simp only [Act.put, List.setIfInBounds_toArray, List.set_cons_zero, List.set_cons_succ]
                      refine takeR (i := 5) (v := .pointer (some ⟨gi, oi + j, none⟩)) (some 164) rfl rfl (by kernel_rfl) (by kernel_rfl) (by kernel_rfl) (fun _ _ _ h => h) (Or.inl ⟨by kernel_rfl, fun w' hSw => by clear hSw; go_simp⟩) hS ?_
                      simp only [Act.put, List.setIfInBounds_toArray, List.set_cons_zero, List.set_cons_succ]
                      refine takeR (i := 6) (v := ptr p) (some 165) rfl rfl (by kernel_rfl) (by kernel_rfl) (by kernel_rfl) (fun _ _ _ h => h) (Or.inl ⟨by kernel_rfl, fun w' hSw => by have q := hSw.1; clear hSw; go_simp⟩) hS ?_
                      simp only [Act.put, List.setIfInBounds_toArray, List.set_cons_zero, List.set_cons_succ]
                      refine takeR (i := 8) (v := .agg #[.int .i64 (u j), .int .i64 (j : Int)]) (some 167) rfl rfl (by kernel_rfl) (by kernel_rfl) (by kernel_rfl) (fun _ _ _ h => h) (Or.inl ⟨by kernel_rfl, fun w' hSw => by have q := hSw.2.1; have q' := hSw.2.2; clear hSw; go_simp⟩) hS ?_
                      simp only [Act.put, List.setIfInBounds_toArray, List.set_cons_zero, List.set_cons_succ]
                      refine wpAnyH_ready (rs := [7]) (by kernel_rfl) (by simp) ?_
                      refine AllReadyH.cons rfl (fun K1 hK1 => ?_) AllReadyH.nil
                      rw [if_pos (by kernel_rfl)]
                      obtain ⟨k3, hb3⟩ := HT6.out.1.a.blk (m := K.length) (it := ⟨p, j, ⟨u j, j⟩⟩) (by rw [List.append_assoc]; exact la_get K _ _)
                      refine callR (d := some 166) rfl 18 #[ptr p] (by kernel_rfl) (Value_any (it := ⟨p, j, ⟨u j, j⟩⟩) hb3) ?_
                      rintro e w7 ⟨rfl, h2⟩
                      have HT7 : Hid (TW w w7 o w.heap.size ha va ((K ++ [⟨p, j, ⟨u j, j⟩⟩]) ++ (itL d ps).drop (j + 1)) ps.length hb vb Lb Nb (.slice (some ⟨gi, oi, none⟩) i ci) ps ∧ Blk w7 xb 30 #[.int .i64 (u j), .int .i64 (j : Int)]) := ⟨HT6.out.1.sm h2, HT6.out.2.fr h2 (fun q => q)⟩
                      have hS7 : w7.cell? ⟨gi, oi + j, none⟩ = some (ptr p) ∧ w7.cell? ⟨xb, 0, none⟩ = some (.int .i64 (u j)) ∧ w7.cell? ⟨xb, 1, none⟩ = some (.int .i64 (j : Int)) := ⟨h2.cell hS.1 (fun q => q), h2.cell hS.2.1 (fun q => q), h2.cell hS.2.2 (fun q => q)⟩
                      refine ⟨_, rfl, ?_⟩
                      refine hK1.out _ _ hS7 (fun _ => ?_)
                      clear hK1 h2 hS hb3
                      simp only [Act.put, List.setIfInBounds_toArray, List.set_cons_zero, List.set_cons_succ]
                      refine takeR (i := 9) (v := .bool false) (some 168) rfl rfl (by kernel_rfl) (by kernel_rfl) (by kernel_rfl) (fun _ _ _ h => h) (Or.inl ⟨by kernel_rfl, fun w' hSw => by clear hSw; go_simp⟩) hS7 ?_
                      simp only [Act.put, List.setIfInBounds_toArray, List.set_cons_zero, List.set_cons_succ]
                      refine takeR (i := 10) (v := .bool false) (some 169) rfl rfl (by kernel_rfl) (by kernel_rfl) (by kernel_rfl) (fun _ _ _ h => h) (Or.inl ⟨by kernel_rfl, fun w' hSw => by kernel_rfl⟩) hS7 ?_
                      simp only [Act.put, List.setIfInBounds_toArray, List.set_cons_zero, List.set_cons_succ]
                      refine wpAnyH_done (by kernel_rfl) ?_ _
                      refine hKd _ _ ?_
                      go_meet
                      exact ⟨rfl, HT7.out⟩
                    case rest =>
                      obtain ⟨rfl, HT5⟩ := hcut
                      clear HT4 hnq
                      have HTP : Hid (TW w wc o w.heap.size ha va ((K ++ [⟨p, j, ⟨u j, j⟩⟩]) ++ (itL d ps).drop (j + 1)) ps.length hb vb Lb Nb (.slice (some ⟨gi, oi, none⟩) i ci) ps) := HT5.out.1
                      have HBP : Hid (Blk wc xb 30 #[.int .i64 (u j), .int .i64 (j : Int)]) := HT5.out.2
                      clear HT5
                      generalize wc = wp at *
                      have px0 : wp.cell? ⟨xb, 0, none⟩ = some (.int .i64 (u j)) := HBP.out.cell 0
                      have px1 : wp.cell? ⟨xb, 1, none⟩ = some (.int .i64 (j : Int)) := HBP.out.cell 1
                      have hpu := Push_O HTP.out.b ⟨u j, j⟩ (by have := HT.out.2; have := HN.out; have := H4.out.2; omega) (by have := HT.out.2; have := HN.out; have := H4.out.2; omega)
                      go_wp2_with (go_at_call 11; fail)
                      refine hpu.mono ?_
                      rintro e w9 ⟨rfl, ⟨vb', h5, h6⟩, h7⟩
                      have HX : Hid (C2 w w9 o ha hb (.slice (some ⟨gi, oi, none⟩) i ci) d ps (j + 1)) :=
                        ⟨va, vb', K ++ [⟨p, j, ⟨u j, j⟩⟩], _, Nb + 1, (HTP.out.swp.upd h5 h7 (fun q hq => own_push h6 (by omega) hq)).swp, by rw [List.map_append, List.map_append, HT.out.2.1]; rfl, by have := HT.out.2; omega, by rw [List.length_append, List.length_singleton]; have := HT.out.2; omega⟩
                      clear h5 h6 h7 hpu px0 px1
                      go_wp2
                      exact ⟨⟨j + 1, by omega, by go_num, HX.out⟩, by simp [RowKit.intOf]; omega⟩
        · have hji : ¬ (j : Int) < (n : Int) := by omega
          obtain ⟨va, vb, K, Lb, Nb, T, q1, q2, q3⟩ := HQ.out
          have H5 : Hid (C3 w wr o ha hb (.slice ai i ci) ps) := by
            rw [List.drop_eq_nil_of_le (by rw [itL_len]; have := H4.out.2; omega), List.append_nil] at T
            exact ⟨va, vb, K, Lb, _, _, T, q1.symm⟩
          clear T q1 q2 q3 HQ
          go_wp2
          go_loopw [8, 24, 25, 26, 27, 28] (fun x8 x24 _ _ _ _ wr => ∃ j : Nat, j ≤ n + 1 ∧ x24 = .int .i64 (j : Int) ∧ Hid (C3 w wr o ha hb (.slice ai i ci) ps)) (fun _ x24 _ _ _ _ _ => n + 1 - (RowKit.intOf x24).toNat)
          case atStart =>
            exact ⟨0, Nat.zero_le _, rfl, H5.out⟩
          case round =>
            obtain ⟨j2, hj2, rfl, HR⟩ := hrel
            obtain ⟨va, vb, La, Lb, Na, Nb, T, q1⟩ := HR.out
            by_cases hlt2 : j2 < n + 1
            · have hji2 : (j2 : Int) ≤ (n : Int) := by omega
              have hjb2 : (j2 : Int) + 1 < 9223372036854775808 := by have := HN.out; omega
              have FIN : ∀ (x : Th) (e : Int) (w5 w6 : World), Hid (Blk w5 w5.heap.size 30 #[.int .i64 x.k, .int .i64 x.g] → True) := fun _ _ _ _ _ => trivial
              clear FIN
              cases La with
              | nil => as_aux_lemma =>
                have hLb : Lb = [] := List.map_eq_nil_iff.1 q1.symm
                subst hLb
                have hpo := Pop_Z T.a
                have HT : Hid (TW w wr o w.heap.size ha va [] Na hb vb [] Nb (.slice ai i ci) ps) := T
                clear T q1 HR
                go_wp2_with (go_at_call 14; fail)
                refine hpo.mono ?_
                rintro e w5 ⟨rfl, h5, h7⟩
                have HT5 : Hid (TW w (w5.alloc (.cells #[.int .i64 0, .int .i64 0] 30)) o w.heap.size ha va [] Na hb vb [] Nb (.slice ai i ci) ps ∧ Blk (w5.alloc (.cells #[.int .i64 0, .int .i64 0] 30)) w5.heap.size 30 #[.int .i64 0, .int .i64 0]) := ⟨(HT.out.sm h7).sm (Fr.alloc _ _ _), Blk.new _ _ _⟩
                clear h5 h7 hpo
                go_upto_region 33 with fail
                generalize w5.alloc (.cells #[.int .i64 0, .int .i64 0] 30) = w6 at *
                generalize w5.heap.size = xb at *
                have hpo := Pop_Z HT5.out.1.b
                go_wp2_with (go_at_call 14; fail)
                refine hpo.mono ?_
                rintro e w7 ⟨rfl, h5, h7⟩
                have HT8 : Hid (TW w (w7.alloc (.cells #[.int .i64 0, .int .i64 0] 30)) o w.heap.size ha va [] Na hb vb [] Nb (.slice ai i ci) ps ∧ Blk (w7.alloc (.cells #[.int .i64 0, .int .i64 0] 30)) xb 30 #[.int .i64 0, .int .i64 0] ∧ Blk (w7.alloc (.cells #[.int .i64 0, .int .i64 0] 30)) w7.heap.size 30 #[.int .i64 0, .int .i64 0]) := ⟨(HT5.out.1.sm h7).sm (Fr.alloc _ _ _), (HT5.out.2.fr h7 (fun q => q)).alloc _, Blk.new _ _ _⟩
                clear h5 h7 hpo HT5
                go_upto_region 34 with fail
                generalize w7.alloc (.cells #[.int .i64 0, .int .i64 0] 30) = w8 at *
                generalize w7.heap.size = yb at *
                have x0 : w8.cell? ⟨xb, 0, none⟩ = some (.int .i64 0) := HT8.out.2.1.cell 0
                have x1 : w8.cell? ⟨xb, 1, none⟩ = some (.int .i64 0) := HT8.out.2.1.cell 1
                have y0 : w8.cell? ⟨yb, 0, none⟩ = some (.int .i64 0) := HT8.out.2.2.cell 0
                have y1 : w8.cell? ⟨yb, 1, none⟩ = some (.int .i64 0) := HT8.out.2.2.cell 1
                have hnq : ∀ W, (binOp .neq 30 (.agg #[.int .i64 0, .int .i64 0]) (.agg #[.int .i64 0, .int .i64 0])).run Try.prog W = .ok (.bool false) W := fun W => by have q := thing_neq ⟨0, 0⟩ ⟨0, 0⟩ W; simpa using q
                go_wp2
                exact ⟨⟨j2 + 1, by omega, by go_num, ⟨va, vb, [], [], Na, Nb, HT8.out.1, rfl⟩⟩, by simp [RowKit.intOf]; omega⟩
              | cons a0 La0 => as_aux_lemma =>
                have hLa : (a0 :: La0 : List (It Th)) ≠ [] := by simp
                generalize hLL : (a0 :: La0 : List (It Th)) = La at *
                clear hLL
                have hLb : Lb ≠ [] := fun e => hLa (List.map_eq_nil_iff.1 (by rw [q1, e]; rfl))
                have hpo := Pop_O T.a hLa
                have HT : Hid (TW w wr o w.heap.size ha va La Na hb vb Lb Nb (.slice ai i ci) ps ∧ La.map (·.x) = Lb.map (·.x) ∧ Lb ≠ []) := ⟨T, q1, hLb⟩
                clear T q1 HR hLa hLb
                go_wp2_with (go_at_call 14; fail)
                refine hpo.mono ?_
                rintro e w5 ⟨m, it, hm, hmin, rfl, ⟨va', h5, h6⟩, _, h7⟩
                obtain ⟨pi, ri, x⟩ := it
                have HT5 : Hid (TW w (w5.alloc (.cells #[.int .i64 x.k, .int .i64 x.g] 30)) o w.heap.size ha va' (La.eraseIdx m) Na hb vb Lb Nb (.slice ai i ci) ps ∧ Blk (w5.alloc (.cells #[.int .i64 x.k, .int .i64 x.g] 30)) w5.heap.size 30 #[.int .i64 x.k, .int .i64 x.g] ∧ IsMin (lsB o) (La.map (·.x)) m ∧ (La.map (·.x))[m]? = some x) :=
                  ⟨(HT.out.1.upd h5 h7 (fun q hq => .inl (own_erase h6 hq))).sm (Fr.alloc _ _ _), Blk.new _ _ _, hmin, by rw [List.getElem?_map, hm]; rfl⟩
                clear h5 h6 h7 hpo hm hmin
                go_upto_region 33 with fail
                generalize w5.alloc (.cells #[.int .i64 x.k, .int .i64 x.g] 30) = w6 at *
                generalize w5.heap.size = xb at *
                have hpo := Pop_O HT5.out.1.b HT.out.2.2
                go_wp2_with (go_at_call 14; fail)
                refine hpo.mono ?_
                rintro e w7 ⟨m2, it2, hm2, hmin2, rfl, ⟨vb', h5, h6⟩, _, h7⟩
                rw [← HT.out.2.1] at hmin2
                obtain rfl : m = m2 := HT5.out.2.2.1.uniq hmin2
                have hx2 : it2.x = x := by
                  have q : (Lb.map (·.x))[m]? = some it2.x := by rw [List.getElem?_map, hm2]; rfl
                  rw [← HT.out.2.1, HT5.out.2.2.2] at q
                  injection q with q; exact q.symm
                rw [hx2]
                have HT8 : Hid (TW w (w7.alloc (.cells #[.int .i64 x.k, .int .i64 x.g] 30)) o w.heap.size ha va' (La.eraseIdx m) Na hb vb' (Lb.eraseIdx m) Nb (.slice ai i ci) ps ∧ Blk (w7.alloc (.cells #[.int .i64 x.k, .int .i64 x.g] 30)) xb 30 #[.int .i64 x.k, .int .i64 x.g] ∧ Blk (w7.alloc (.cells #[.int .i64 x.k, .int .i64 x.g] 30)) w7.heap.size 30 #[.int .i64 x.k, .int .i64 x.g] ∧ (La.eraseIdx m).map (·.x) = (Lb.eraseIdx m).map (·.x)) :=
                  ⟨((HT5.out.1.swp.upd h5 h7 (fun q hq => .inl (own_erase h6 hq))).swp).sm (Fr.alloc _ _ _), (HT5.out.2.1.fr h7 (HT5.out.1.b.other HT5.out.2.1 (by decide) (by decide) (by decide))).alloc _, Blk.new _ _ _, by rw [erase_map, erase_map, HT.out.2.1]⟩
                clear h5 h6 h7 hpo HT5 hm2 hmin2 hx2
                go_upto_region 34 with fail
                generalize w7.alloc (.cells #[.int .i64 x.k, .int .i64 x.g] 30) = w8 at *
                generalize w7.heap.size = yb at *
                have x0 : w8.cell? ⟨xb, 0, none⟩ = some (.int .i64 x.k) := HT8.out.2.1.cell 0
                have x1 : w8.cell? ⟨xb, 1, none⟩ = some (.int .i64 x.g) := HT8.out.2.1.cell 1
                have y0 : w8.cell? ⟨yb, 0, none⟩ = some (.int .i64 x.k) := HT8.out.2.2.1.cell 0
                have y1 : w8.cell? ⟨yb, 1, none⟩ = some (.int .i64 x.g) := HT8.out.2.2.1.cell 1
                have hnq : ∀ W, (binOp .neq 30 (.agg #[.int .i64 x.k, .int .i64 x.g]) (.agg #[.int .i64 x.k, .int .i64 x.g])).run Try.prog W = .ok (.bool false) W := fun W => by have q := thing_neq x x W; simpa using q
                go_wp2
                exact ⟨⟨j2 + 1, by omega, by go_num, ⟨va', vb', _, _, Na, Nb, HT8.out.1, HT8.out.2.2.2⟩⟩, by simp [RowKit.intOf]; omega⟩
            · have hji2 : ¬ (j2 : Int) ≤ (n : Int) := by omega
              have HB : Hid (Below w.heap.size w wr) := below_of T.fr
              clear T q1 HR
              go_wp2
              go_ret
              exact ⟨rfl, HB.out⟩
end Go.Proofs.Ytdnhhcbabdoomaa
