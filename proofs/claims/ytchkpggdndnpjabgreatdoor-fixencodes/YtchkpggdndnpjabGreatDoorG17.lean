import Derived.Test.YtchkpggdndnpjabGreatDoorG16
import Derived.Laws.Rows

namespace Go.Proofs.YtchkpggdndnpjabGreatDoor
set_option linter.unusedVariables false
open Go.RowKit

set_option maxRecDepth 100000 in
theorem isTag_any (t : Int) (w : World) : Calls Tryz.prog 178 #[.int .i64 t] w fun e w' => e = .returned (.bool (isTg t)) ∧ w' = w := by
  have hE : Hid (isTg t = (decide (1 ≤ t) && decide (t ≤ 9999) && (decide (t < 8) || decide (10 < t)))) := rfl
  generalize isTg t = d at *
  by_cases h1 : 1 ≤ t
  · by_cases h2 : t ≤ 9999
    · by_cases h3 : t < 8
      · have HE : Hid (d = true) := by show d = true; rw [hE.out]; simp [h1, h2, h3]
        go_enter Tryz.func178, Tryz.ntmps178
        go_wp2
        go_ret
        exact ⟨ret_bool HE.out.symm, rfl⟩
      · by_cases h4 : 10 < t
        · have HE : Hid (d = true) := by show d = true; rw [hE.out]; simp [h1, h2, h4]
          have h3' : decide (t < 8) = false := decide_eq_false h3
          go_enter Tryz.func178, Tryz.ntmps178
          go_wp2
          go_ret
          exact ⟨ret_bool HE.out.symm, rfl⟩
        · have HE : Hid (d = false) := by show d = false; rw [hE.out]; simp; omega
          have h3' : decide (t < 8) = false := decide_eq_false h3
          have h4' : decide (10 < t) = false := decide_eq_false h4
          go_enter Tryz.func178, Tryz.ntmps178
          go_wp2
          go_ret
          exact ⟨ret_bool HE.out.symm, rfl⟩
    · have HE : Hid (d = false) := by show d = false; rw [hE.out]; simp; omega
      have h2' : decide (t ≤ 9999) = false := decide_eq_false h2
      go_enter Tryz.func178, Tryz.ntmps178
      go_wp2
      go_ret
      exact ⟨ret_bool HE.out.symm, rfl⟩
  · have HE : Hid (d = false) := by show d = false; rw [hE.out]; simp; omega
    have h1' : decide (1 ≤ t) = false := decide_eq_false h1
    go_enter Tryz.func178, Tryz.ntmps178
    go_wp2
    go_ret
    exact ⟨ret_bool HE.out.symm, rfl⟩

theorem results_cell2 {P : Program} {fn : Func} {p u v : Tmp} {ty : TypeId} (h : fn.results = #[.cell p ty, .tmp u, .tmp v]) (tmps : Array Value) (w : World) (g : Nat) (t : TypeId) (cs : Array Value) (fr : Nat × Nat) (d : TypeDesc)
    (hp : tmps.getD p undef = .pointer (some ⟨g, 0, none⟩)) (hg : w.heap[g]? = some (.cells cs t fr))
    (hu : P.underlying ty = some d) (hd : (match d with | .struct _ | .array _ _ => true | _ => false) = true) (hi : (P.info? ty).map (·.size) = some cs.size) :
    (results fn tmps).run P w = .ok (.tuple #[.agg cs, tmps.getD u undef, tmps.getD v undef]) w := by
  have hp' : tmps[p]?.getD undef = .pointer (some ⟨g, 0, none⟩) := by simpa using hp
  simp [results, h, hp', asAddr, run_loadVar_row w g t ty cs fr d hg hu hd hi]
/-- A field that lies in a block of its own. -/
def FldAt (w : World) (g : Nat) (t : Int) (v : ByteArray) : Prop := w.heap[g]? = some (.cells #[.int .i64 t, .string v] 52 (0, 0))
theorem FldAt.lt {w : World} {g : Nat} {t : Int} {v : ByteArray} (h : FldAt w g t v) : g < w.heap.size := by
  rcases Nat.lt_or_ge g w.heap.size with h' | h'
  · exact h'
  · unfold FldAt at h; rw [Array.getElem?_eq_none h'] at h; cases h
theorem FldAt.below {w w' : World} {g : Nat} {t : Int} {v : ByteArray} {B : Nat} (h : FldAt w g t v) (hb : Below B w w') (hg : g < B) : FldAt w' g t v := (hb.block g hg).trans h
theorem FldAt.cell0 {w : World} {g : Nat} {t : Int} {v : ByteArray} (h : FldAt w g t v) : w.cell? ⟨g, 0, none⟩ = some (.int .i64 t) := by
  unfold FldAt at h; simp [World.cell?, h]
theorem FldAt.cell1 {w : World} {g : Nat} {t : Int} {v : ByteArray} (h : FldAt w g t v) : w.cell? ⟨g, 1, none⟩ = some (.string v) := by
  unfold FldAt at h; simp [World.cell?, h]
theorem FldAt.froz {w : World} {g : Nat} {t : Int} {v : ByteArray} (h : FldAt w g t v) (j : Nat) : w.frozen? ⟨g, j, none⟩ = false := by
  unfold FldAt at h; simp [World.frozen?, h]
theorem FldAt.set {w : World} {g : Nat} {t : Int} {v : ByteArray} (h : FldAt w g t v) (t' : Int) (v' : ByteArray) : FldAt ((w.setCell ⟨g, 0, none⟩ (.int .i64 t')).setCell ⟨g, 1, none⟩ (.string v')) g t' v' := by
  unfold FldAt at *
  have h1 : (w.setCell ⟨g, 0, none⟩ (.int .i64 t')).heap[g]? = some (.cells #[.int .i64 t', .string v] 52 (0, 0)) := by
    rw [setCell_eq_setRow w g 0 _ 52 (0, 0) _ h]
    exact setRow_heap w g _ _ 52 (0, 0) h
  rw [setCell_eq_setRow _ g 1 _ 52 (0, 0) _ h1]
  exact setRow_heap _ g _ _ 52 (0, 0) h1
theorem below_set2 {B : Nat} {w0 w : World} {g : Nat} (h : Below B w0 w) (hg : B ≤ g) (x y : Value) : Below B w0 ((w.setCell ⟨g, 0, none⟩ x).setCell ⟨g, 1, none⟩ y) := (h.setCell hg _).setCell hg _
theorem FaultAt.set2 {w : World} {g b : Nat} {e : Int} {a : Nat} (h : FaultAt w g e a) (hne : g ≠ b) (x y : Value) : FaultAt ((w.setCell ⟨b, 0, none⟩ x).setCell ⟨b, 1, none⟩ y) g e a := by
  unfold FaultAt at *
  rw [Below.heap_setCell _ _ _ _ hne, Below.heap_setCell _ _ _ _ hne]
  exact h
/-- What readField tells. -/
def ReadRet (r : RF) (a : Nat) (w : World) (x : Ending) (w' : World) : Prop :=
  Below w.heap.size w w' ∧ match r with
  | .ok (f, n) => x = .returned (.tuple #[.agg #[.int .i64 f.1, .string (bs f.2)], .int .i64 ((a + n : Nat) : Int), .nilIface])
  | .error (e, k) => ∃ g, w.heap.size ≤ g ∧ x = .returned (.tuple #[.agg #[.int .i64 0, .string ⟨#[]⟩], .int .i64 0, .iface 62 (.pointer (some ⟨g, 0, none⟩))]) ∧ FaultAt w' g e (a + k)
theorem ReadRet.good {r : RF} {a : Nat} {w w' : World} {x : Ending} {f : Fld} {n : Nat} (h : r = .ok (f, n)) (hb : Below w.heap.size w w') (hx : x = .returned (.tuple #[.agg #[.int .i64 f.1, .string (bs f.2)], .int .i64 ((a + n : Nat) : Int), .nilIface])) : ReadRet r a w x w' := by
  refine ⟨hb, ?_⟩; rw [h]; exact hx
theorem ReadRet.fail {r : RF} {a : Nat} {w w' : World} {x : Ending} {e : Int} {k g : Nat} (h : r = .error (e, k)) (hb : Below w.heap.size w w') (hg : w.heap.size ≤ g) (hx : x = .returned (.tuple #[.agg #[.int .i64 0, .string ⟨#[]⟩], .int .i64 0, .iface 62 (.pointer (some ⟨g, 0, none⟩))])) (hf : FaultAt w' g e (a + k)) : ReadRet r a w x w' := by
  refine ⟨hb, ?_⟩; rw [h]; exact ⟨g, hg, hx, hf⟩
set_option maxRecDepth 100000 in
set_option maxHeartbeats 800000 in
theorem readField_any (s : ByteArray) (a : Nat) (w : World) (hs : s.size ≤ 1024) (ha : a ≤ s.size) :
    Calls Tryz.prog 249 #[.string s, .int .i64 (a : Int)] w fun x w' => ReadRet (rdF (s.data.toList.drop a)) a w x w' := by
  have hm : s.size ≤ maxLen := by unfold maxLen; omega
  have ha' : (a : Int) ≤ (s.size : Int) := by omega
  have h1 := fun w => count_dig (s.extract a s.size) w (by have := extract_le s a s.size; omega)
  simp only [drop_data] at h1
  have hdl : cnt dig (s.data.toList.drop a) ≤ s.size - a := by have := cnt_le dig (s.data.toList.drop a); simp at this; omega
  have hR : rdF (s.data.toList.drop a) = if tagOk (s.data.toList.drop a) = true then rdV (puN ((s.data.toList.drop a).take (cnt dig (s.data.toList.drop a))) 9999) (cnt dig (s.data.toList.drop a)) ((s.data.toList.drop a).drop (cnt dig (s.data.toList.drop a) + 1)) else .error (41, 0) := rfl
  have hTk : tagOk (s.data.toList.drop a) = (decide (puE ((s.data.toList.drop a).take (cnt dig (s.data.toList.drop a))) 9999 = 0) && isTg (puN ((s.data.toList.drop a).take (cnt dig (s.data.toList.drop a))) 9999) && decide ((s.data.toList.drop a)[cnt dig (s.data.toList.drop a)]? = some 61)) := rfl
  rw [List.getElem?_drop] at hTk
  rw [List.drop_drop] at hR
  have h2 := fun w => ParseUint_any (s.extract a (a + cnt dig (s.data.toList.drop a))) 9999 w (by have := extract_le s a (a + cnt dig (s.data.toList.drop a)); omega) (by decide)
  simp only [Lib.extract_data, Nat.add_sub_cancel_left] at h2
  generalize rdF (s.data.toList.drop a) = R at *
  have hp0 := pu_bd ((s.data.toList.drop a).take (cnt dig (s.data.toList.drop a))) 9999 (by decide)
  generalize puN ((s.data.toList.drop a).take (cnt dig (s.data.toList.drop a))) 9999 = t at *
  generalize puE ((s.data.toList.drop a).take (cnt dig (s.data.toList.drop a))) 9999 = E at *
  generalize cnt dig (s.data.toList.drop a) = d at *
  have f1 : (a : Int) + (d : Int) ≤ (s.size : Int) := by omega
  have f2 : (a : Int) ≤ (a : Int) + (d : Int) := by omega
  have h3 := fun w => isTag_any t w
  have h4 := fun w => stands_any s (a + d) ((a : Int) + (d : Int)) (by omega) 61 61 rfl w hm (by unfold maxLen; omega)
  by_cases hE : E = 0
  · subst hE
    by_cases hI : isTg t = true
    · simp only [hI] at h3
      by_cases hQ : s.data.toList[a + d]? = some 61
      · have hT : isAt s.data.toList (a + d) 61 = true := decide_eq_true hQ
        simp only [hT] at h4
        have hlt : a + d < s.size := by have := (List.getElem?_eq_some_iff.1 hQ).1; simpa using this
        have hR2 : R = rdV t d (s.data.toList.drop (a + (d + 1))) := by rw [hR, hTk]; simp only [hI, hQ, decide_true, Bool.and_self, if_true]
        clear hR hTk hT hQ hI
        rw [show a + (d + 1) = a + d + 1 by omega] at hR2
        have h5 := fun w => count_val (s.extract (a + d + 1) s.size) w (by have := extract_le s (a + d + 1) s.size; omega)
        simp only [drop_data] at h5
        have hvl : cnt vby (s.data.toList.drop (a + d + 1)) ≤ s.size - (a + d + 1) := by have := cnt_le vby (s.data.toList.drop (a + d + 1)); simp at this; omega
        unfold rdV at hR2
        rw [List.getElem?_drop] at hR2
        have hxd := Lib.extract_data s (a + d + 1) (a + d + 1 + cnt vby (s.data.toList.drop (a + d + 1)))
        rw [Nat.add_sub_cancel_left] at hxd
        have hx : s.extract (a + d + 1) (a + d + 1 + cnt vby (s.data.toList.drop (a + d + 1))) = bs ((s.data.toList.drop (a + d + 1)).take (cnt vby (s.data.toList.drop (a + d + 1)))) := by rw [← hxd]; rfl
        clear hxd
        generalize bs ((s.data.toList.drop (a + d + 1)).take (cnt vby (s.data.toList.drop (a + d + 1)))) = V at *
        generalize cnt vby (s.data.toList.drop (a + d + 1)) = v at *
        have g1 : (a : Int) + (d : Int) + 1 ≤ (s.size : Int) := by omega
        have g2 : (a : Int) + (d : Int) + 1 + (v : Int) ≤ (s.size : Int) := by omega
        have h6 := fun w => stands_any s (a + d + 1 + v) ((a : Int) + (d : Int) + 1 + (v : Int)) (by omega) 1 1 rfl w hm (by unfold maxLen; omega)
        by_cases hv : v = 0
        · subst hv
          have hB : Hid (R = .error (42, d + 1)) := by show R = _; rw [hR2]; simp
          clear hR2 h6 hx
          go_enter Tryz.func249, Tryz.ntmps249
          go_wp2_with (go_at_call 179; fail)
          refine (h1 _).mono ?_
          rintro e w1 ⟨rfl, rfl⟩
          go_wp2_with (go_at_call 247; fail)
          refine (h2 _).mono ?_
          rintro e w1 ⟨rfl, rfl⟩
          go_wp2_with (go_at_call 178; fail)
          refine (h3 _).mono ?_
          rintro e w1 ⟨rfl, rfl⟩
          go_wp2_with (go_at_call 246; fail)
          refine (h4 _).mono ?_
          rintro e w1 ⟨rfl, rfl⟩
          go_wp2_with (go_at_call 179; fail)
          refine (h5 _).mono ?_
          rintro e w1 ⟨rfl, rfl⟩
          go_wp2_with (go_at_call 208; fail)
          refine (fault_any 42 _ (a + (d + 1)) (by omega) _).mono ?_
          rintro e w2 ⟨rfl, hf, hb⟩
          have hz : FldAt w2 w.heap.size 0 ⟨#[]⟩ := (hb.block w.heap.size (by simp)).trans (heap_alloc_new w _)
          have HX : Hid (FaultAt w2 (w.heap.size + 1) 42 (a + (d + 1)) ∧ Below w.heap.size w w2 ∧ FldAt w2 w.heap.size 0 ⟨#[]⟩) := ⟨by have h := hf; simpa using h, ((Below.refl _ w).alloc (Nat.le_refl _) _).trans (hb.mono (by simp)), hz⟩
          have c0 := hz.cell0
          have c1 := hz.cell1
          have z0 := hz.froz 0
          have z1 := hz.froz 1
          clear hf hb hz
          go_wp2
          try simp only [Exit.inBlock, Exit.then]
          refine bodyPost_ret (results_cell2 (fn := Tryz.f249) (p := 4) (u := 5) (v := 6) (ty := 52) rfl _ _ w.heap.size 52 _ (0, 0) _ (by rfl) (HX.out.2.2.set 0 ⟨#[]⟩) Tryz.underlying52 rfl (by kernel_rfl)) rfl ?_
          exact .fail hB.out (below_set2 HX.out.2.1 (Nat.le_refl _) _ _) (Nat.le_succ _) rfl (HX.out.1.set2 (by omega) _ _)
        · have hv' : ¬ (a : Int) + (d : Int) + 1 + (v : Int) = (a : Int) + (d : Int) + 1 := by omega
          have hvb : ((a : Int) + (d : Int) + 1 + (v : Int) == (a : Int) + (d : Int) + 1) = false := by simpa using hv'
          by_cases hS : s.data.toList[a + d + 1 + v]? = some 1
          · have hT : isAt s.data.toList (a + d + 1 + v) 1 = true := decide_eq_true hS
            simp only [hT] at h6
            have hlt2 : a + d + 1 + v < s.size := by have := (List.getElem?_eq_some_iff.1 hS).1; simpa using this
            have hB : Hid (R = .ok ((t, (s.data.toList.drop (a + d + 1)).take v), d + 1 + v + 1)) := by show R = _; rw [hR2, if_pos ⟨by omega, hS⟩]
            have HV : Hid (V = bs ((s.data.toList.drop (a + d + 1)).take v)) := by
              show V = _
              rw [← hx, ← bs_data (s.extract (a + d + 1) (a + d + 1 + v)), Lib.extract_data, Nat.add_sub_cancel_left]
            clear hR2 hT hS
            go_enter Tryz.func249, Tryz.ntmps249
            go_wp2_with (go_at_call 179; fail)
            refine (h1 _).mono ?_
            rintro e w1 ⟨rfl, rfl⟩
            go_wp2_with (go_at_call 247; fail)
            refine (h2 _).mono ?_
            rintro e w1 ⟨rfl, rfl⟩
            go_wp2_with (go_at_call 178; fail)
            refine (h3 _).mono ?_
            rintro e w1 ⟨rfl, rfl⟩
            go_wp2_with (go_at_call 246; fail)
            refine (h4 _).mono ?_
            rintro e w1 ⟨rfl, rfl⟩
            go_wp2_with (go_at_call 179; fail)
            refine (h5 _).mono ?_
            rintro e w1 ⟨rfl, rfl⟩
            go_wp2_with (go_at_call 246; fail)
            refine (h6 _).mono ?_
            rintro e w1 ⟨rfl, rfl⟩
            go_wp2
            try simp only [Exit.inBlock, Exit.then]
            refine bodyPost_ret (results_cell2 (fn := Tryz.f249) (p := 4) (u := 5) (v := 6) (ty := 52) rfl _ _ w.heap.size 52 _ (0, 0) _ (by rfl) (heap_alloc_new w _) Tryz.underlying52 rfl (by kernel_rfl)) rfl ?_
            exact .good hB.out ((Below.refl _ w).alloc (Nat.le_refl _) _) (ret3 (by rw [HV.out]) (vint (by omega)) rfl)
          · have hT : isAt s.data.toList (a + d + 1 + v) 1 = false := decide_eq_false hS
            simp only [hT] at h6
            have hB : Hid (R = .error (42, d + 1 + v)) := by show R = _; rw [hR2, if_neg (fun h => hS h.2)]
            clear hR2 hT hS
            go_enter Tryz.func249, Tryz.ntmps249
            go_wp2_with (go_at_call 179; fail)
            refine (h1 _).mono ?_
            rintro e w1 ⟨rfl, rfl⟩
            go_wp2_with (go_at_call 247; fail)
            refine (h2 _).mono ?_
            rintro e w1 ⟨rfl, rfl⟩
            go_wp2_with (go_at_call 178; fail)
            refine (h3 _).mono ?_
            rintro e w1 ⟨rfl, rfl⟩
            go_wp2_with (go_at_call 246; fail)
            refine (h4 _).mono ?_
            rintro e w1 ⟨rfl, rfl⟩
            go_wp2_with (go_at_call 179; fail)
            refine (h5 _).mono ?_
            rintro e w1 ⟨rfl, rfl⟩
            go_wp2_with (go_at_call 246; fail)
            refine (h6 _).mono ?_
            rintro e w1 ⟨rfl, rfl⟩
            go_wp2_with (go_at_call 208; fail)
            refine (fault_any 42 _ (a + (d + 1 + v)) (by omega) _).mono ?_
            rintro e w2 ⟨rfl, hf, hb⟩
            have hz : FldAt w2 w.heap.size 0 ⟨#[]⟩ := (hb.block w.heap.size (by simp)).trans (heap_alloc_new w _)
            have HX : Hid (FaultAt w2 (w.heap.size + 1) 42 (a + (d + 1 + v)) ∧ Below w.heap.size w w2 ∧ FldAt w2 w.heap.size 0 ⟨#[]⟩) := ⟨by have h := hf; simpa using h, ((Below.refl _ w).alloc (Nat.le_refl _) _).trans (hb.mono (by simp)), hz⟩
            have c0 := hz.cell0
            have c1 := hz.cell1
            have z0 := hz.froz 0
            have z1 := hz.froz 1
            clear hf hb hz
            go_wp2
            try simp only [Exit.inBlock, Exit.then]
            refine bodyPost_ret (results_cell2 (fn := Tryz.f249) (p := 4) (u := 5) (v := 6) (ty := 52) rfl _ _ w.heap.size 52 _ (0, 0) _ (by rfl) (HX.out.2.2.set 0 ⟨#[]⟩) Tryz.underlying52 rfl (by kernel_rfl)) rfl ?_
            exact .fail hB.out (below_set2 HX.out.2.1 (Nat.le_refl _) _ _) (Nat.le_succ _) rfl (HX.out.1.set2 (by omega) _ _)
      · have hT : isAt s.data.toList (a + d) 61 = false := decide_eq_false hQ
        simp only [hT] at h4
        have hB : Hid (R = .error (41, 0)) := by show R = _; rw [hR, hTk]; simp only [hQ, decide_false, Bool.and_false]; rfl
        clear hR hTk hT hQ hI
        go_enter Tryz.func249, Tryz.ntmps249
        go_wp2_with (go_at_call 179; fail)
        refine (h1 _).mono ?_
        rintro e w1 ⟨rfl, rfl⟩
        go_wp2_with (go_at_call 247; fail)
        refine (h2 _).mono ?_
        rintro e w1 ⟨rfl, rfl⟩
        go_wp2_with (go_at_call 178; fail)
        refine (h3 _).mono ?_
        rintro e w1 ⟨rfl, rfl⟩
        go_wp2_with (go_at_call 246; fail)
        refine (h4 _).mono ?_
        rintro e w1 ⟨rfl, rfl⟩
        go_wp2_with (go_at_call 208; fail)
        refine (fault_any 41 _ (a + 0) (by omega) _).mono ?_
        rintro e w2 ⟨rfl, hf, hb⟩
        have hz : FldAt w2 w.heap.size 0 ⟨#[]⟩ := (hb.block w.heap.size (by simp)).trans (heap_alloc_new w _)
        have HX : Hid (FaultAt w2 (w.heap.size + 1) 41 (a + 0) ∧ Below w.heap.size w w2 ∧ FldAt w2 w.heap.size 0 ⟨#[]⟩) := ⟨by have h := hf; simpa using h, ((Below.refl _ w).alloc (Nat.le_refl _) _).trans (hb.mono (by simp)), hz⟩
        have c0 := hz.cell0
        have c1 := hz.cell1
        have z0 := hz.froz 0
        have z1 := hz.froz 1
        clear hf hb hz
        go_wp2
        try simp only [Exit.inBlock, Exit.then]
        refine bodyPost_ret (results_cell2 (fn := Tryz.f249) (p := 4) (u := 5) (v := 6) (ty := 52) rfl _ _ w.heap.size 52 _ (0, 0) _ (by rfl) (HX.out.2.2.set 0 ⟨#[]⟩) Tryz.underlying52 rfl (by kernel_rfl)) rfl ?_
        exact .fail hB.out (below_set2 HX.out.2.1 (Nat.le_refl _) _ _) (Nat.le_succ _) rfl (HX.out.1.set2 (by omega) _ _)
    · have hI' : isTg t = false := by simpa using hI
      simp only [hI'] at h3
      have hB : Hid (R = .error (41, 0)) := by show R = _; rw [hR, hTk]; simp only [hI', Bool.and_false, Bool.false_and]; rfl
      clear hR hTk hI' hI
      go_enter Tryz.func249, Tryz.ntmps249
      go_wp2_with (go_at_call 179; fail)
      refine (h1 _).mono ?_
      rintro e w1 ⟨rfl, rfl⟩
      go_wp2_with (go_at_call 247; fail)
      refine (h2 _).mono ?_
      rintro e w1 ⟨rfl, rfl⟩
      go_wp2_with (go_at_call 178; fail)
      refine (h3 _).mono ?_
      rintro e w1 ⟨rfl, rfl⟩
      go_wp2_with (go_at_call 208; fail)
      refine (fault_any 41 _ (a + 0) (by omega) _).mono ?_
      rintro e w2 ⟨rfl, hf, hb⟩
      have hz : FldAt w2 w.heap.size 0 ⟨#[]⟩ := (hb.block w.heap.size (by simp)).trans (heap_alloc_new w _)
      have HX : Hid (FaultAt w2 (w.heap.size + 1) 41 (a + 0) ∧ Below w.heap.size w w2 ∧ FldAt w2 w.heap.size 0 ⟨#[]⟩) := ⟨by have h := hf; simpa using h, ((Below.refl _ w).alloc (Nat.le_refl _) _).trans (hb.mono (by simp)), hz⟩
      have c0 := hz.cell0
      have c1 := hz.cell1
      have z0 := hz.froz 0
      have z1 := hz.froz 1
      clear hf hb hz
      go_wp2
      try simp only [Exit.inBlock, Exit.then]
      refine bodyPost_ret (results_cell2 (fn := Tryz.f249) (p := 4) (u := 5) (v := 6) (ty := 52) rfl _ _ w.heap.size 52 _ (0, 0) _ (by rfl) (HX.out.2.2.set 0 ⟨#[]⟩) Tryz.underlying52 rfl (by kernel_rfl)) rfl ?_
      exact .fail hB.out (below_set2 HX.out.2.1 (Nat.le_refl _) _ _) (Nat.le_succ _) rfl (HX.out.1.set2 (by omega) _ _)
  · have hB : Hid (R = .error (41, 0)) := by show R = _; rw [hR, hTk]; simp [hE]
    clear hR hTk
    have hEb : (E != 0) = true := by simpa using hE
    go_enter Tryz.func249, Tryz.ntmps249
    go_wp2_with (go_at_call 179; fail)
    refine (h1 _).mono ?_
    rintro e w1 ⟨rfl, rfl⟩
    go_wp2_with (go_at_call 247; fail)
    refine (h2 _).mono ?_
    rintro e w1 ⟨rfl, rfl⟩
    go_wp2_with (go_at_call 208; fail)
    refine (fault_any 41 _ (a + 0) (by omega) _).mono ?_
    rintro e w2 ⟨rfl, hf, hb⟩
    have hz : FldAt w2 w.heap.size 0 ⟨#[]⟩ := (hb.block w.heap.size (by simp)).trans (heap_alloc_new w _)
    have HX : Hid (FaultAt w2 (w.heap.size + 1) 41 (a + 0) ∧ Below w.heap.size w w2 ∧ FldAt w2 w.heap.size 0 ⟨#[]⟩) := ⟨by have h := hf; simpa using h, ((Below.refl _ w).alloc (Nat.le_refl _) _).trans (hb.mono (by simp)), hz⟩
    have c0 := hz.cell0
    have c1 := hz.cell1
    have z0 := hz.froz 0
    have z1 := hz.froz 1
    clear hf hb hz
    go_wp2
    try simp only [Exit.inBlock, Exit.then]
    refine bodyPost_ret (results_cell2 (fn := Tryz.f249) (p := 4) (u := 5) (v := 6) (ty := 52) rfl _ _ w.heap.size 52 _ (0, 0) _ (by rfl) (HX.out.2.2.set 0 ⟨#[]⟩) Tryz.underlying52 rfl (by kernel_rfl)) rfl ?_
    exact .fail hB.out (below_set2 HX.out.2.1 (Nat.le_refl _) _ _) (Nat.le_succ _) rfl (HX.out.1.set2 (by omega) _ _)
end Go.Proofs.YtchkpggdndnpjabGreatDoor
