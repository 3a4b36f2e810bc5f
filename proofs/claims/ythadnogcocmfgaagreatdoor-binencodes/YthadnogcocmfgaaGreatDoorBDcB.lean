import Derived.Test.YthadnogcocmfgaaGreatDoorBDcA
import Derived.Test.YthadnogcocmfgaaGreatDoorBLay
import Derived.Test.YthadnogcocmfgaaGreatDoorBPl

namespace Go.Proofs.YthadnogcocmfgaaGreatDoor
set_option linter.unusedVariables false
open Go.RowKit Go.Great Go.Lib

theorem plcN_at (f : Int) : ∀ (l : List Nat) (a k j : Nat), l[k]? = some j → tNum.getD j 0 = f → (∀ i x, i < k → l[i]? = some x → tNum.getD x 0 ≠ f) → plcN f l a = a + wS (l.take k)
  | [], a, k, j, h, _, _ => by simp at h
  | x :: l, a, 0, j, h, hf, _ => by
    simp at h; subst h
    unfold plcN; rw [if_pos hf]; simp [wS]
  | x :: l, a, k + 1, j, h, hf, hn => by
    unfold plcN
    rw [if_neg (hn 0 x (by omega) rfl), plcN_at f l (a + wd x) k j (by simpa using h) hf fun i y hi hy => hn (i + 1) y (by omega) (by simpa using hy)]
    rw [List.take_succ_cons]
    show a + wd x + wS (l.take k) = a + (wd x + wS (l.take k))
    omega
set_option maxRecDepth 100000 in
theorem isIt_any (Nm f : Int) (V : Value) (A : Int) (c : Nat) (w : World) (hc : w.cell? ⟨c, 0, none⟩ = some (.int .i64 f)) (T : TypeId) :
    Calls Tryz.prog 102 #[.agg #[.int .i64 Nm, .iface T V, .int .i64 A], .pointer (some ⟨c, 0, none⟩)] w fun e w' => e = .returned (.bool (Nm == f)) ∧ Below w.heap.size w w' := by
  have hcl := cell_alloc hc (.cells #[.int .i64 Nm, .iface T V, .int .i64 A] 71)
  have HB : Hid (Below w.heap.size w (w.alloc (.cells #[.int .i64 Nm, .iface T V, .int .i64 A] 71))) := (Below.refl _ w).alloc (Nat.le_refl _) _
  clear hc
  go_enter Tryz.func102, Tryz.ntmps102
  go_wp2
  go_ret
  exact ⟨rfl, HB.out⟩
set_option maxRecDepth 100000 in
set_option maxHeartbeats 800000 in
theorem IndexPlace_any (gp n cv c mB : Nat) (ls : List Nat) (f : Int) (k : Nat) (j : Nat) (w : World) (hn : n = ls.length) (h41 : n ≤ 41) (hk : ls[k]? = some j) (hf : tNum.getD j 0 = f) (hlt : ∀ i x, i < k → ls[i]? = some x → tNum.getD x 0 ≠ f) (hc : w.cell? ⟨c, 0, none⟩ = some (.int .i64 f))
    (hcel : ∀ m u, (plC mB ls 10)[m]? = some u → w.cell? ⟨gp, m, none⟩ = some u) :
    Calls Tryz.prog 101 #[.slice (some ⟨gp, 0, none⟩) n cv, .func (.func 102) #[] #[.pointer (some ⟨c, 0, none⟩)]] w fun e w' => e = .returned (.int .i64 (k : Int)) ∧ Below w.heap.size w w' := by
  have Hx : Hid (n = ls.length ∧ ls[k]? = some j ∧ tNum.getD j 0 = f ∧ (∀ i x, i < k → ls[i]? = some x → tNum.getD x 0 ≠ f) ∧ w.cell? ⟨c, 0, none⟩ = some (.int .i64 f) ∧ ∀ m u, (plC mB ls 10)[m]? = some u → w.cell? ⟨gp, m, none⟩ = some u) := ⟨hn, hk, hf, hlt, hc, hcel⟩
  have hkn : k < n := by have := (List.getElem?_eq_some_iff.1 hk).1; omega
  clear hn hk hf hlt hc hcel
  go_enter Tryz.func101, Tryz.ntmps101
  go_wp2
  go_loopw [4, 5, 8] (fun _ _ i wr => ∃ q : Nat, q ≤ k ∧ i = .int .i64 q ∧ Hid (Below w.heap.size w wr)) (fun _ _ i _ => n - (RowKit.intOf i).toNat)
  case atStart => exact ⟨0, Nat.zero_le _, rfl, Below.refl _ _⟩
  case round =>
    obtain ⟨q, hq, rfl, HB⟩ := hrel
    have hqn : q < n := by omega
    have hqn' : (q : Int) < (n : Int) := by omega
    obtain ⟨x, hx⟩ : ∃ x, ls[q]? = some x := ⟨_, List.getElem?_eq_getElem (by have := Hx.out.1; omega)⟩
    obtain ⟨p0, p1, p2⟩ := plC_at mB ls 10 q x hx
    have hb := HB.out
    have lowc : ∀ {a : Addr} {v : Value}, w.cell? a = some v → wr.cell? a = some v := fun {a v} h => by rw [hb.cell (World.block_lt_of_cell? _ _ h)]; exact h
    have q0 := lowc (Hx.out.2.2.2.2.2 _ _ p0)
    have q1 := lowc (Hx.out.2.2.2.2.2 _ _ p1)
    have q2 := lowc (Hx.out.2.2.2.2.2 _ _ p2)
    have hcw := lowc Hx.out.2.2.2.2.1
    unfold fIf at q1
    have hI := isIt_any (tNum.getD x 0) f (fVal x mB) ((10 + wS (ls.take q) : Nat) : Int) c wr hcw (fTy x)
    clear lowc hb p0 p1 p2
    by_cases hqk : q = k
    · subst hqk
      have hxj : x = j := by rw [Hx.out.2.1] at hx; exact (Option.some.inj hx).symm
      have hfx : tNum.getD x 0 = f := by rw [hxj]; exact Hx.out.2.2.1
      rw [hfx] at hI q0
      rw [show (f == f) = true by simp] at hI
      generalize fVal x mB = V at *
      generalize fTy x = T at *
      generalize ((10 + wS (ls.take q) : Nat) : Int) = A at *
      clear hfx hxj hx
      go_wp2_with (go_at_call 102; refine hI.mono ?_; rintro e w3 ⟨rfl, hb3⟩; have HB3 : Hid (Below w.heap.size w w3) := HB.out.trans (hb3.mono HB.out.size); clear hb3)
      go_ret
      exact ⟨rfl, HB3.out⟩
    · have hne := Hx.out.2.2.2.1 q x (by omega) hx
      have hfb : (tNum.getD x 0 == f) = false := by simpa using hne
      rw [hfb] at hI
      generalize tNum.getD x 0 = Nm at *
      generalize fVal x mB = V at *
      generalize fTy x = T at *
      generalize ((10 + wS (ls.take q) : Nat) : Int) = A at *
      clear hne hfb hx
      go_wp2_with (go_at_call 102; refine hI.mono ?_; rintro e w3 ⟨rfl, hb3⟩; have HB3 : Hid (Below w.heap.size w w3) := HB.out.trans (hb3.mono HB.out.size); clear hb3)
      exact ⟨⟨q + 1, by omega, by go_num, HB3⟩, by simp [RowKit.intOf]; omega⟩
end Go.Proofs.YthadnogcocmfgaaGreatDoor

namespace Go.Proofs.YthadnogcocmfgaaGreatDoor
set_option linter.unusedVariables false
open Go.RowKit

theorem first_at (p : Nat → Prop) : ∀ (l : List Nat), (∃ j ∈ l, p j) → ∃ (k j : Nat), l[k]? = some j ∧ p j ∧ ∀ (i x : Nat), i < k → l[i]? = some x → ¬ p x
  | [], h => by obtain ⟨j, hj, _⟩ := h; cases hj
  | x :: l, h => by
    by_cases hx : p x
    · exact ⟨0, x, rfl, hx, fun i y hi => by omega⟩
    · obtain ⟨j, hj, hp⟩ := h
      have hjl : j ∈ l := by
        rcases List.mem_cons.1 hj with e | e
        · subst e; exact absurd hp hx
        · exact e
      obtain ⟨k, y, h1, h2, h3⟩ := first_at p l ⟨j, hjl, hp⟩
      refine ⟨k + 1, y, by simpa using h1, h2, fun i v hi hv => ?_⟩
      cases i with
      | zero => simp at hv; subst hv; exact hx
      | succ i => exact h3 i v (by omega) (by simpa using hv)
theorem st_zero {M : Msg} {j : Nat} (hj : j < 42) (h : M.cell j = zeroM.cell j) : stOf M j = 0 := by
  have aZ : ∀ i, i < 42 → isStr i = false → isBoo i = false → M.cell i = zeroM.cell i → M.z i = 0 := fun i _ hs hb h => by simpa [Msg.cell, hs, hb, zeroM] using h
  have aS : ∀ i, isStr i = true → M.cell i = zeroM.cell i → M.s i = ⟨#[]⟩ := fun i hs h => by simpa [Msg.cell, hs, zeroM] using h
  have aB : ∀ i, isStr i = false → isBoo i = true → M.cell i = zeroM.cell i → M.b i = false := fun i hs hb h => by simpa [Msg.cell, hs, hb, zeroM] using h
  have nZ : ∀ m : Int, stN 0 m = 0 := fun m => by unfold stN; rw [if_pos rfl]
  have tZ : ∀ p : ByteArray → Bool, stT p ⟨#[]⟩ = 0 := fun p => by unfold stT; exact if_pos rfl
  rcases cases42 hj with rfl | rfl | rfl | rfl | rfl | rfl | rfl | rfl | rfl | rfl | rfl | rfl | rfl | rfl | rfl | rfl | rfl | rfl | rfl | rfl | rfl | rfl | rfl | rfl | rfl | rfl | rfl | rfl | rfl | rfl | rfl | rfl | rfl | rfl | rfl | rfl | rfl | rfl | rfl | rfl | rfl | rfl <;>
    first
    | exact (congrArg (stN · _) (aZ _ (by decide) rfl rfl h)).trans (nZ _)
    | exact (congrArg (stT _) (aS _ rfl h)).trans (tZ _)
    | exact (congrArg stB (aB _ rfl rfl h)).trans rfl
    | exact (congrArg stD (aZ _ (by decide) rfl rfl h)).trans (by unfold stD; rw [if_pos rfl])
theorem fit_tab : ((List.range 18).all fun z => z == 0 || (hasB (z : Int) 6 && (z != 3 || hasB 3 11) && (z != 8 || (hasB 8 26 && hasB 8 27 && hasB 8 29 && hasB 8 30 && hasB 8 31)) && (z != 13 || (hasB 13 36 && hasB 13 37 && hasB 13 39)))) = true := by kernel_rfl
theorem wrong_at {M : Msg} {z : Int} (hK : isK z = true) (h0 : M.z 0 = z) (hz : ∀ j, 1 ≤ j → j < 42 → j ∉ js z → M.cell j = zeroM.cell j) (hv : valE M ≠ 0) :
    ∃ (k j : Nat), (js z)[k]? = some j ∧ tNum.getD j 0 = valN M ∧ ∀ (i x : Nat), i < k → (js z)[i]? = some x → ¬ tNum.getD x 0 = valN M := by
  refine first_at (fun j => tNum.getD j 0 = valN M) (js z) ?_
  have hK' : isK (M.z 0) = true := by rw [h0]; exact hK
  cases hf : firstErr M with
  | some j =>
    have hj : j < 42 := by
      unfold firstErr at hf
      have := List.mem_of_find?_eq_some hf
      simpa using this
    have hne : errAt M j ≠ 0 := by
      unfold firstErr at hf
      have := List.find?_some hf
      simpa using this
    have hN : valN M = tNum.getD j 0 := by simp [valN, hK', hf]
    refine ⟨j, ?_, hN.symm⟩
    have hz17 : 1 ≤ z ∧ z ≤ 17 := by simpa [isK] using hK
    by_cases j0 : j = 0
    · subst j0
      refine absurd ?_ hne
      unfold errAt
      have e1 : stOf M 0 = 1 := by
        show stN (M.z 0) 17 = 1
        unfold stN; rw [h0, if_neg (by omega), if_neg (by omega)]
      rw [e1]
      have e2 : (tMust.getD 0 0).testBit (M.z 0).toNat = true := by rw [h0]; exact all_has z hK
      rw [e2]; cases (tMay.getD 0 0).testBit (M.z 0).toNat <;> rfl
    · by_cases hm : j ∈ js z
      · exact hm
      · refine absurd ?_ hne
        have hs := st_zero hj (hz j (by omega) hj hm)
        have hb : hasB z j = false := by
          cases e : hasB z j
          · rfl
          · exact absurd (mem_js.2 ⟨by omega, by omega, e⟩) hm
        rw [hasB_eq hK hj] at hb
        obtain ⟨b1, b2⟩ := Bool.or_eq_false_iff.1 hb
        unfold errAt
        rw [hs, h0, b1, b2]
        rfl
  | none =>
    have hN : valN M = fitN M := by simp [valN, hK', hf]
    have hF : fitN M ≠ 0 := fun e => hv (by simp [valE, hK', hf, e])
    rw [hN]
    have hz17 : 1 ≤ z ∧ z ≤ 17 := by simpa [isK] using hK
    have ht := List.all_eq_true.1 fit_tab z.toNat (by simp; omega)
    have hzn : (z.toNat == 0) = false := by simp; omega
    rw [hzn, Bool.false_or, show ((z.toNat : Nat) : Int) = z by omega] at ht
    simp only [Bool.and_eq_true, Bool.or_eq_true, bne_iff_ne] at ht
    obtain ⟨⟨⟨t6, t3⟩, t8⟩, t13⟩ := ht
    have mk : ∀ j f, hasB z j = true → 1 ≤ j → j ≤ 41 → tNum.getD j 0 = f → ∃ j ∈ js z, tNum.getD j 0 = f := fun j f a b c d => ⟨j, mem_js.2 ⟨b, c, a⟩, d⟩
    revert hF
    unfold fitN
    rw [h0]
    split
    · intro _; exact mk 6 122 t6 (by omega) (by omega) rfl
    · split
      · rename_i hc
        intro _
        simp only [Bool.and_eq_true, beq_iff_eq] at hc
        have e := hc.1
        subst e
        exact mk 11 16 (t3.resolve_left (by decide)) (by omega) (by omega) rfl
      · split
        · rename_i hc
          simp only [beq_iff_eq] at hc
          subst hc
          obtain ⟨⟨⟨⟨u1, u2⟩, u3⟩, u4⟩, u5⟩ := t8.resolve_left (by decide)
          unfold ordN
          split
          · intro _; exact mk 26 44 u1 (by omega) (by omega) rfl
          · split
            · intro _; exact mk 27 99 u2 (by omega) (by omega) rfl
            · split
              · intro _; exact mk 29 111 u3 (by omega) (by omega) rfl
              · split
                · intro _; exact mk 30 110 u4 (by omega) (by omega) rfl
                · split
                  · intro _; exact mk 31 432 u5 (by omega) (by omega) rfl
                  · intro h; exact absurd rfl h
        · split
          · rename_i hc
            simp only [beq_iff_eq] at hc
            subst hc
            obtain ⟨⟨u1, u2⟩, u3⟩ := t13.resolve_left (by decide)
            unfold exeN
            split
            · intro _; exact mk 36 31 u1 (by omega) (by omega) rfl
            · split
              · intro _; exact mk 37 32 u2 (by omega) (by omega) rfl
              · split
                · intro _; exact mk 39 14 u3 (by omega) (by omega) rfl
                · intro h; exact absurd rfl h
          · intro h; exact absurd rfl h
/-- What was read: its kind, and noughts where there is no place. -/
theorem read_rest {l : List UInt8} {z : Int} {M : Msg} (h : rdL l (js z) 10 (kindM z) = .ok M) : M.z 0 = z ∧ ∀ j, 1 ≤ j → j < 42 → j ∉ js z → M.cell j = zeroM.cell j := by
  refine ⟨(rdL_keep (i := 0) _ _ _ h (zero_notin _)).1.trans rfl, fun j h1 hj hn => ?_⟩
  obtain ⟨a, b, c⟩ := rdL_keep (i := j) _ _ _ h hn
  have e : (kindM z).z j = 0 := by show (if j = 0 then z else 0) = 0; rw [if_neg (by omega)]
  unfold Msg.cell
  rw [a, b, c, e]
  rfl
end Go.Proofs.YthadnogcocmfgaaGreatDoor

namespace Go.Proofs.YthadnogcocmfgaaGreatDoor
set_option linter.unusedVariables false
open Go.RowKit Go.Great Go.Lib

set_option maxRecDepth 100000 in
set_option maxHeartbeats 1000000 in
theorem checkFields_any (M : Msg) (z : Int) (hK : isK z = true) (h0 : M.z 0 = z) (hzr : ∀ j, 1 ≤ j → j < 42 → j ∉ js z → M.cell j = zeroM.cell j) (mB gp cv E S : Nat) (w : World) (hM : Mon w) (hz : M.ok)
    (hcel : ∀ m u, (plC mB (js z) 10)[m]? = some u → w.cell? ⟨gp, m, none⟩ = some u) :
    Calls Tryz.prog 31 #[.agg M.cs, .agg #[.slice (some ⟨gp, 0, none⟩) (js z).length cv, .int .i64 (E : Int), .int .i64 (S : Int)]] w fun e w' => ∃ v, e = .returned v ∧ ErrV (if valE M = 0 then none else some (plcN (valN M) (js z) 10, valE M)) v w w' ∧ Below w.heap.size w w' := by
  have hlen41 : (js z).length ≤ 41 := jsU_len _ 41
  have HM : Hid (0 < w.heap.size ∧ Mon w ∧ M.ok) := ⟨hM.lt, hM, hz⟩
  have HO1 : Hid (OwnM (w.alloc (.cells M.cs 23)) w.heap.size M ∧ Below w.heap.size w (w.alloc (.cells M.cs 23))) := ⟨heap_alloc_new w _, (Below.refl _ w).alloc (Nat.le_refl _) _⟩
  obtain ⟨X, hX⟩ : ∃ X, X = (if valE M = 0 then none else some (plcN (valN M) (js z) 10, valE M)) := ⟨_, rfl⟩
  rw [← hX]
  have HX : Hid (X = (if valE M = 0 then none else some (plcN (valN M) (js z) 10, valE M))) := hX
  have HC : Hid (∀ m u, (plC mB (js z) 10)[m]? = some u → w.cell? ⟨gp, m, none⟩ = some u) := hcel
  clear hM hz hX hcel
  generalize hjl : (js z).length = len at *
  have Hjl : Hid ((js z).length = len) := hjl
  clear hjl
  go_enter Tryz.func31, Tryz.ntmps31
  go_upto_region 1 with fail
  have HB2 : Hid (Below w.heap.size w ((w.alloc (.cells M.cs 23)).alloc (.cells #[.slice (some ⟨gp, 0, none⟩) len cv, .int .i64 (E : Int), .int .i64 (S : Int)] 62))) := HO1.out.2.alloc HO1.out.2.size _
  have HO2 : Hid (OwnM ((w.alloc (.cells M.cs 23)).alloc (.cells #[.slice (some ⟨gp, 0, none⟩) len cv, .int .i64 (E : Int), .int .i64 (S : Int)] 62)) w.heap.size M) := HO1.out.1.below ((Below.refl _ _).alloc (Nat.le_refl _) _) HO1.out.1.lt
  have HL2 : Hid (((w.alloc (.cells M.cs 23)).alloc (.cells #[.slice (some ⟨gp, 0, none⟩) len cv, .int .i64 (E : Int), .int .i64 (S : Int)] 62)).heap[w.heap.size + 1]? = some (.cells #[.slice (some ⟨gp, 0, none⟩) len cv, .int .i64 (E : Int), .int .i64 (S : Int)] 62 (0, 0))) := by
    have := heap_alloc_new (w.alloc (.cells M.cs 23)) (.cells #[.slice (some ⟨gp, 0, none⟩) len cv, .int .i64 (E : Int), .int .i64 (S : Int)] 62)
    show _ = _
    simpa using this
  generalize World.alloc (w.alloc (.cells M.cs 23)) _ = w2 at *
  generalize hcs : M.cs = CS at *
  refine wp_region_lit ?_
  refine wpList_loadM HO2.out (.tmp 2) rfl rfl rfl ?_
  simp only [Act.put, List.setIfInBounds_toArray, List.set_cons_zero, List.set_cons_succ]
  rw [hcs]
  go_wp2_with (go_at_call 10; fail)
  have hvc := Valid_any M w2 (HM.out.2.1.below HB2.out HM.out.1) HM.out.2.2
  rw [hcs] at hvc
  refine hvc.mono ?_
  clear hvc
  rintro e w3 ⟨rfl, hb3⟩
  have HB3 : Hid (Below w.heap.size w w3 ∧ w3.heap[w.heap.size + 1]? = some (.cells #[.slice (some ⟨gp, 0, none⟩) len cv, .int .i64 (E : Int), .int .i64 (S : Int)] 62 (0, 0))) := ⟨HB2.out.trans (hb3.mono HB2.out.size), (hb3.block _ (Array.getElem?_eq_some_iff.1 HL2.out).1).trans HL2.out⟩
  clear hb3 HO1 HO2 HB2 HL2
  by_cases hv : valE M = 0
  · have HX0 : Hid (X = none) := by show _ = _; rw [HX.out, if_pos hv]
    rw [hv]
    generalize valN M = N at *
    have HB4 : Hid (Below w.heap.size w (w3.alloc (.cells #[.int .i64 N] 3))) := HB3.out.1.alloc HB3.out.1.size _
    clear HX hv
    go_wp2
    go_ret
    exact ⟨_, rfl, by rw [HX0.out]; rfl, HB4.out⟩
  · obtain ⟨k, j, hk, hf, hfirst⟩ := wrong_at hK h0 hzr hv
    have hplc := plcN_at (valN M) (js z) 10 k j hk hf hfirst
    have HX1 : Hid (X = some (10 + wS ((js z).take k), valE M)) := by show _ = _; rw [HX.out, if_neg hv, hplc]
    have hkl : k < (js z).length := (List.getElem?_eq_some_iff.1 hk).1
    have hvb : (valE M == 0) = false := by simpa using hv
    obtain ⟨p0, p1, p2⟩ := plC_at mB (js z) 10 k j hk
    have HB4 : Hid (Below w.heap.size w (w3.alloc (.cells #[.int .i64 (valN M)] 3))) := HB3.out.1.alloc HB3.out.1.size _
    have HI : Hid (∀ c w', Below w.heap.size w w' → w'.cell? ⟨c, 0, none⟩ = some (.int .i64 (valN M)) → Calls Tryz.prog 101 #[.slice (some ⟨gp, 0, none⟩) len cv, .func (.func 102) #[] #[.pointer (some ⟨c, 0, none⟩)]] w' fun e w2 => e = .returned (.int .i64 (k : Int)) ∧ Below w'.heap.size w' w2) := fun c w' hb hc =>
      IndexPlace_any gp len cv c mB (js z) (valN M) k j w' Hjl.out.symm hlen41 hk hf hfirst hc fun m u hu => by
        have := HC.out m u hu
        rw [hb.cell (p := ⟨gp, m, none⟩) (World.block_lt_of_cell? _ _ this)]; exact this
    have HP2 : Hid (∀ w', Below w.heap.size w w' → w'.cell? ⟨gp, k * 3 + 2, none⟩ = some (.int .i64 ((10 + wS ((js z).take k) : Nat) : Int))) := fun w' hb => by
      have := HC.out _ _ p2
      rw [hb.cell (p := ⟨gp, k * 3 + 2, none⟩) (World.block_lt_of_cell? _ _ this)]; exact this
    have HL3 : Hid (w3.cell? ⟨w.heap.size + 1, 0, none⟩ = some (.slice (some ⟨gp, 0, none⟩) len cv)) := lay_cell (k := 0) HB3.out.2 rfl
    have HL4 : Hid (∀ w', Below w3.heap.size w3 w' → w'.cell? ⟨w.heap.size + 1, 0, none⟩ = some (.slice (some ⟨gp, 0, none⟩) len cv)) := fun w' hb => by
      rw [hb.cell (p := ⟨w.heap.size + 1, 0, none⟩) (World.block_lt_of_cell? _ _ HL3.out)]; exact HL3.out
    have l4 := HL4.out _ ((Below.refl _ w3).alloc (Nat.le_refl _) (.cells #[.int .i64 (valN M)] 3))
    have hkl' : (k : Int) < (len : Int) := by have := Hjl.out; omega
    have hkl2 : k < len := by have := Hjl.out; omega
    generalize 10 + wS ((js z).take k) = A at *
    generalize valE M = VE at *
    generalize valN M = N at *
    clear HX hv hk hf hfirst hplc hkl p0 p1 p2 HC
    go_wp2_with (go_at_call 101; fail)
    refine (HI.out w3.heap.size _ HB4.out (World.cell?_alloc_new ..)).mono ?_
    rintro e w5 ⟨rfl, hb5⟩
    have HB5 : Hid (Below w.heap.size w w5) := HB4.out.trans (hb5.mono HB4.out.size)
    have l5 := HL4.out w5 (((Below.refl _ w3).alloc (Nat.le_refl _) _).trans (hb5.mono (by simp)))
    have q5 := HP2.out w5 HB5.out
    clear hb5 l4
    go_wp2_with (go_at_call 98; fail)
    refine (fault_any VE (A : Int) _).mono ?_
    rintro x w6 ⟨rfl, rfl⟩
    go_wp2
    go_ret
    exact ⟨_, rfl, by rw [HX1.out]; exact (err_new HB5.out A VE).1, (err_new HB5.out A VE).2⟩
end Go.Proofs.YthadnogcocmfgaaGreatDoor
