/-
  Open of bytes that begin otherwise, both; the reference's Bytes; a tape that is full.
-/
import Derived.Test.YtjnnecoikcmaeaaTEb
import Derived.Test.YtjnnecoikcmaeaaTRb
namespace Go.Proofs.Ytjnnecoikcmaeaa
set_option linter.unusedVariables false
set_option linter.unusedSimpArgs false
open Go.RowKit Go.Great

theorem neS3_run {op : Oper} {a : Act} {s t : ByteArray} (x y : Operand) (ho : op.op = .binOp .neq 9 x y 9) (hx : a.eval x = .string s) (hy : a.eval y = .string t) (hr : s ≠ t) (w : World) : (execOp a.eval op).run Try.prog w = .ok (.value (.bool true)) w := neS2_run x y ho hx hy hr w
set_option maxRecDepth 100000 in
theorem Open_short2 {w : World} {v : Value} {l : List Nat} (h : By w v l) (hl : l.length < 4) : Calls Try.prog 14 #[v] w fun e w' => e = .returned (.tuple #[.pointer none, .int .i64 0, .int .i64 180]) ∧ w' = w := by
  obtain ⟨va, vc, rfl, hvc⟩ := h.form
  have hl' : (l.length : Int) < 4 := by omega
  clear h
  generalize l.length = n at *
  go_enter Try.func14, Try.ntmps14
  go_wp2
  go_ret3
  exact ⟨rfl, rfl⟩
set_option maxRecDepth 100000 in
set_option maxHeartbeats 1000000 in
theorem Open_no {w : World} {v : Value} {l : List Nat} (h : By w v l) (hl : l.length ≤ 140737488355328) (hm : l.take 4 ≠ magic) : Calls Try.prog 14 #[v] w fun e w' => e = .returned (.tuple #[.pointer none, .int .i64 0, .int .i64 180]) ∧ w' = w := by
  by_cases h4 : l.length < 4
  · exact Open_short2 h h4
  have h4' : ¬ (l.length : Int) < 4 := by omega
  obtain ⟨va, vc, hvf, hvc⟩ := h.form
  subst hvf
  have hc4 := h.cut (lo := 0) (hi := 4) (mx := vc) (Nat.zero_le _) (by omega) (by omega) (Nat.le_refl _)
  rw [List.drop_zero, Nat.sub_zero] at hc4
  have hne : ofN (l.take 4) ≠ ⟨#[79, 84, 65, 80]⟩ := fun e => hm (ofN_inj (h.bb.take 4) (by intro x hx; have : x ∈ [79, 84, 65, 80] := hx; simp at this; omega) e)
  clear h
  go_enter Try.func14, Try.ntmps14
  go_upto_region 2 with fail
  rename_i K2 hK2
  refine wp_region_lit ?_
  refine wpList_runTo rfl (some 9) rfl (.slice va l.length vc) w (by kernel_rfl) ?_
  simp only [Act.put, List.setIfInBounds_toArray, List.set_cons_zero, List.set_cons_succ]
  refine wpList_runTo rfl (some 10) rfl (.int .i64 (l.length : Int)) w (by kernel_rfl) ?_
  simp only [Act.put, List.setIfInBounds_toArray, List.set_cons_zero, List.set_cons_succ]
  refine wpList_runTo rfl (some 11) rfl (.int .i64 4) w (by kernel_rfl) ?_
  simp only [Act.put, List.setIfInBounds_toArray, List.set_cons_zero, List.set_cons_succ]
  refine wpList_runTo rfl (some 12) rfl (.bool false) w (by go_simp) ?_
  simp only [Act.put, List.setIfInBounds_toArray, List.set_cons_zero, List.set_cons_succ]
  refine wpList_runTo rfl (some 13) rfl (.bool false) w (by kernel_rfl) ?_
  simp only [Act.put, List.setIfInBounds_toArray, List.set_cons_zero, List.set_cons_succ]
  refine wpList_runToG (by kernel_rfl) (some 14) rfl (.slice va l.length vc) w (by kernel_rfl) ?_
  simp only [Act.put, List.setIfInBounds_toArray, List.set_cons_zero, List.set_cons_succ]
  refine wpList_runToG (by kernel_rfl) (some 15) rfl (.int .i64 4) w (by kernel_rfl) ?_
  simp only [Act.put, List.setIfInBounds_toArray, List.set_cons_zero, List.set_cons_succ]
  refine wpList_runToG (by kernel_rfl) (some 16) rfl (cutV (.slice va l.length vc) 0 4 vc) w (by exact sliceT_run (hi := 4) (.tmp 14) (.tmp 15) rfl (by kernel_rfl) (by kernel_rfl) (by omega) _) ?_
  simp only [Act.put, List.setIfInBounds_toArray, List.set_cons_zero, List.set_cons_succ]
  refine wpList_runToG (by kernel_rfl) (some 17) rfl (.string (ofN (l.take 4))) w (by exact conv_run (.tmp 16) rfl (by kernel_rfl) hc4) ?_
  simp only [Act.put, List.setIfInBounds_toArray, List.set_cons_zero, List.set_cons_succ]
  refine wpList_runToG (by kernel_rfl) (some 18) rfl (.bool true) w (by exact neS2_run (.tmp 17) (.const (.string ⟨#[79, 84, 65, 80]⟩)) rfl (by kernel_rfl) rfl hne _) ?_
  simp only [Act.put, List.setIfInBounds_toArray, List.set_cons_zero, List.set_cons_succ]
  refine wpList_runTo rfl (some 19) rfl (.bool true) w (by kernel_rfl) ?_
  simp only [Act.put, List.setIfInBounds_toArray, List.set_cons_zero, List.set_cons_succ]
  refine wpList_nil ?_
  refine hK2 _ _ ?_
  clear hK2 hc4 hne
  generalize ofN (l.take 4) = mg at *
  generalize cutV (.slice va l.length vc) 0 4 vc = cc at *
  go_wp2
  go_ret3
  exact ⟨rfl, rfl⟩
set_option maxRecDepth 100000 in
set_option maxHeartbeats 2000000 in
theorem refOpen_no {w : World} {v : Value} {l : List Nat} (h : By w v l) (hl : l.length ≤ 140737488355328) (hm : l.take 4 ≠ magic) : Calls Try.prog 28 #[v] w fun e w' => e = .returned (.tuple #[.pointer none, .int .i64 0, .int .i64 180]) ∧ w' = w := by
  by_cases h4 : l.length < 4
  · obtain ⟨va, vc, rfl, hvc⟩ := h.form
    have hl' : (l.length : Int) < 4 := by omega
    clear h hm
    generalize l.length = n at *
    go_enter Try.func28, Try.ntmps28
    go_wp2
    go_ret3
    exact ⟨rfl, rfl⟩
  obtain ⟨vb, vo, vc, hvf, hvc, hcl⟩ := by_cells h (by omega)
  have get : ∀ j, j < 4 → l[j]? = some (dN l j) := fun j hj => by rw [dN_at (by omega)]; exact List.getElem?_eq_getElem (by omega)
  have c0 := hcl 0 _ (get 0 (by decide))
  have c1 := hcl 1 _ (get 1 (by decide))
  have c2 := hcl 2 _ (get 2 (by decide))
  have c3 := hcl 3 _ (get 3 (by decide))
  have hne : ¬ (dN l 0 = 79 ∧ dN l 1 = 84 ∧ dN l 2 = 65 ∧ dN l 3 = 80) := fun ⟨e0, e1, e2, e3⟩ => hm (by
    apply List.ext_getElem?
    intro j
    by_cases hj : j < 4
    · rw [List.getElem?_take_of_lt hj, get j hj]
      have : j = 0 ∨ j = 1 ∨ j = 2 ∨ j = 3 := by omega
      rcases this with rfl | rfl | rfl | rfl
      · rw [e0]; rfl
      · rw [e1]; rfl
      · rw [e2]; rfl
      · rw [e3]; rfl
    · rw [List.getElem?_eq_none (by rw [List.length_take]; omega), List.getElem?_eq_none (by show 4 ≤ j; omega)])
  clear get hcl hm h
  subst hvf
  rw [Nat.add_zero] at c0
  have h4' : ¬ (l.length : Int) < 4 := by omega
  generalize dN l 0 = x0 at *
  generalize dN l 1 = x1 at *
  generalize dN l 2 = x2 at *
  generalize dN l 3 = x3 at *
  generalize l.length = n at *
  have i0 : (0 : Int) < (n : Int) := by omega
  have i1 : (1 : Int) < (n : Int) := by omega
  have i2 : (2 : Int) < (n : Int) := by omega
  have i3 : (3 : Int) < (n : Int) := by omega
  have j1 : 1 < n := by omega
  have j2 : 2 < n := by omega
  have j3 : 3 < n := by omega
  by_cases e0 : x0 = 79
  · subst e0
    by_cases e1 : x1 = 84
    · subst e1
      by_cases e2 : x2 = 65
      · subst e2
        have e3 : x3 ≠ 80 := fun e => hne ⟨rfl, rfl, rfl, e⟩
        have f3 : ((x3 : Int) == 80) = false := by simp; omega
        have f3b : ((x3 : Int) != 80) = true := by simp; omega
        clear hne e3
        go_enter Try.func28, Try.ntmps28
        go_wp2
        go_ret3
        exact ⟨rfl, rfl⟩
      · have f2 : ((x2 : Int) == 65) = false := by simp; omega
        have f2b : ((x2 : Int) != 65) = true := by simp; omega
        clear hne e2
        go_enter Try.func28, Try.ntmps28
        go_wp2
        go_ret3
        exact ⟨rfl, rfl⟩
    · have f1 : ((x1 : Int) == 84) = false := by simp; omega
      have f1b : ((x1 : Int) != 84) = true := by simp; omega
      clear hne e1
      go_enter Try.func28, Try.ntmps28
      go_wp2
      go_ret3
      exact ⟨rfl, rfl⟩
  · have f0 : ((x0 : Int) == 79) = false := by simp; omega
    have f0b : ((x0 : Int) != 79) = true := by simp; omega
    clear hne e0
    go_enter Try.func28, Try.ntmps28
    go_wp2
    go_ret3
    exact ⟨rfl, rfl⟩
/-- The reference's Bytes. -/
theorem csL_len {L : List Cm} (h : ∀ c ∈ L, encE c = 0 ∧ c.ok) (hl : L.length ≤ 1000000) {i : Nat} (hi : i ≤ L.length) : enN (csL L) i ≤ 700000000 := by
  have := enN_bd (cs := csL L) (m := i) fun j hj => by
    have hj2 : j < L.length := by omega
    rw [csL_get (List.getElem?_eq_getElem hj2)]
    exact (h _ (List.getElem_mem hj2)).1
  omega
set_option maxRecDepth 100000 in
set_option maxHeartbeats 4000000 in
theorem refBytes_any {w : World} {g : Nat} {lv : Value} {L : List Cm} (h : RtAt w g lv L) (hl : L.length ≤ 1000000) : Calls Try.prog 24 #[.pointer (some ⟨g, 0, none⟩)] w fun e w' => ∃ v, e = .returned v ∧ Hid (RowB w w' v (tpL (csL L) L.length)) := by
  obtain ⟨la, lc, hlf, _⟩ := h.row.form
  have HT : Hid (RtAt w g lv L) := h
  have HL : Hid (∀ i, i ≤ L.length → enN (csL L) i ≤ 700000000) := fun i hi => csL_len h.ok hl hi
  have HR0 : Hid (RowB w (w.alloc (.cells #[.int .u8 79, .int .u8 84, .int .u8 65, .int .u8 80] 5)) (.slice (some ⟨w.heap.size, 0, none⟩) 4 4) (tpL (csL L) 0)) := ⟨⟨rfl, .inr ⟨w.heap.size, 0, 4, _, rfl, heap_alloc_new w _, Nat.le_refl _, by decide, Nat.le_refl _, rfl⟩⟩, (fun x hx => by have : x ∈ [79, 84, 65, 80] := hx; simp at this; omega), (Below.refl _ w).alloc (Nat.le_refl _) _, fun q hq => by
    have e : w.heap.size = q := by injection hq
    omega⟩
  clear h
  obtain ⟨n, hn⟩ : ∃ n, n = L.length := ⟨_, rfl⟩
  have HN : Hid (n = L.length) := hn
  rw [← hn] at hlf hl
  clear hn
  go_enter Try.func24, Try.ntmps24
  go_upto_region 1 with fail
  rename_i K hK
  refine wp_region_lit ?_
  refine wpList_runTo rfl (some 5) rfl (.slice (some ⟨w.heap.size, 0, none⟩) 4 4) (w.alloc (.cells #[.int .u8 79, .int .u8 84, .int .u8 65, .int .u8 80] 5)) (by kernel_rfl) ?_
  simp only [Act.put, List.setIfInBounds_toArray, List.set_cons_zero, List.set_cons_succ]
  generalize w.alloc (.cells #[.int .u8 79, .int .u8 84, .int .u8 65, .int .u8 80] 5) = W1 at *
  obtain ⟨v0, hv0⟩ : ∃ v0, v0 = Value.slice (some ⟨w.heap.size, 0, none⟩) 4 4 := ⟨_, rfl⟩
  rw [← hv0] at HR0 ⊢
  clear hv0
  refine wpList_runTo rfl (some 3) rfl (v0) W1 (by kernel_rfl) ?_
  simp only [Act.put, List.setIfInBounds_toArray, List.set_cons_zero, List.set_cons_succ]
  refine wpList_nil ?_
  refine hK _ _ ?_
  clear hK
  go_wp2
  go_loopw [3, 4] (fun x y wr => ∃ (i : Nat) (bv : Value), i ≤ n ∧ bv = x ∧ y = .int .i64 (i : Int) ∧ Hid (RowB w wr bv (tpL (csL L) i))) (fun _ y _ => n - (intOf y).toNat)
  case atStart => exact ⟨0, v0, Nat.zero_le _, rfl, rfl, HR0⟩
  case round =>
    clear HR0
    obtain ⟨i, bv, hin, hbv, rfl, HR⟩ := hrel
    subst hbv
    have HT1 : Hid (RtAt wr g lv L) := HT.out.below HR.out.bel
    have cL : wr.cell? ⟨g, 0, none⟩ = some (.slice la n lc) := by rw [← hlf]; exact HT1.out.blk.cell 0
    by_cases hi : i < n
    · have hi' : (i : Int) < (n : Int) := by omega
      obtain ⟨ga, oa, ca, cur, haf, _⟩ := HT1.out.row.more (by rw [← HN.out]; omega)
      rw [hlf] at haf
      injection haf with ha1 _ ha3
      subst ha1
      subst ha3
      obtain ⟨c, hc⟩ : ∃ c, L[i]? = some c := ⟨_, List.getElem?_eq_getElem (by rw [← HN.out]; exact hi)⟩
      have hrg : wr.rangeAt ga (oa + i * 25) c.cs.toList := row_cmd HT1.out.row (by rw [hlf, HN.out]) hc
      obtain ⟨hE, hok⟩ := HT1.out.get hc
      have HCs : Hid (csL L i = c ∧ (encL c).length ≤ 600) := ⟨csL_get hc, (encL_len hE).2⟩
      have hraw := Raw_any c hok hE wr
      clear hc
      go_upto_region 5 with fail
      refine wp_region_lit ?_
      refine wpList_runTo rfl (some 15) rfl (bv) wr (by kernel_rfl) ?_
      simp only [Act.put, List.setIfInBounds_toArray, List.set_cons_zero, List.set_cons_succ]
      refine wpList_runTo rfl (some 16) rfl (.int .i64 (i : Int)) wr (by kernel_rfl) ?_
      simp only [Act.put, List.setIfInBounds_toArray, List.set_cons_zero, List.set_cons_succ]
      refine wpList_runTo rfl (some 17) rfl (.pointer (some ⟨g, 0, none⟩)) wr (by kernel_rfl) ?_
      simp only [Act.put, List.setIfInBounds_toArray, List.set_cons_zero, List.set_cons_succ]
      refine wpList_runTo rfl (some 18) rfl (.pointer (some ⟨g, 0, none⟩)) wr (by kernel_rfl) ?_
      simp only [Act.put, List.setIfInBounds_toArray, List.set_cons_zero, List.set_cons_succ]
      refine wpList_runTo rfl (some 19) rfl (.pointer (some ⟨g, 0, none⟩)) wr (by kernel_rfl) ?_
      simp only [Act.put, List.setIfInBounds_toArray, List.set_cons_zero, List.set_cons_succ]
      refine wpList_runTo rfl (some 20) rfl (.slice (some ⟨ga, oa, none⟩) n lc) wr (by go_simp) ?_
      simp only [Act.put, List.setIfInBounds_toArray, List.set_cons_zero, List.set_cons_succ]
      refine wpList_runTo rfl (some 21) rfl (.int .i64 (i : Int)) wr (by kernel_rfl) ?_
      simp only [Act.put, List.setIfInBounds_toArray, List.set_cons_zero, List.set_cons_succ]
      refine wpList_runTo rfl (some 22) rfl (.pointer (some ⟨ga, oa + i * 25, none⟩)) wr (by exact ixC_run (n := n) (c := lc) (.tmp 20) (.tmp 21) rfl (by kernel_rfl) (by kernel_rfl) hi _) ?_
      simp only [Act.put, List.setIfInBounds_toArray, List.set_cons_zero, List.set_cons_succ]
      refine wpList_runTo rfl (some 23) rfl (.agg c.cs) wr (by exact ldC_run hrg (.tmp 22) rfl (by kernel_rfl)) ?_
      simp only [Act.put, List.setIfInBounds_toArray, List.set_cons_zero, List.set_cons_succ]
      refine wpList_callW rfl (some 24) rfl 41 #[.agg c.cs] (by kernel_rfl) hraw ?_
      clear hraw
      rintro e W2 ⟨v2, rfl, hx2⟩
      refine ⟨_, rfl, ?_⟩
      simp only [Act.put, List.setIfInBounds_toArray, List.set_cons_zero, List.set_cons_succ]
      generalize c.cs = cc
      have hrec := refRecord_any hx2.out.by' (by have := HCs.out.2; omega) i (by omega)
      refine wpList_callW rfl (some 25) rfl 42 #[.int .i64 (i : Int), v2] (by kernel_rfl) hrec ?_
      clear hrec
      rintro e W3 ⟨v3, rfl, hx3⟩
      refine ⟨_, rfl, ?_⟩
      simp only [Act.put, List.setIfInBounds_toArray, List.set_cons_zero, List.set_cons_succ]
      have hrow : RowB w W3 bv (tpL (csL L) i) := ⟨(HR.out.row.fr (Fr.of_below hx2.out.bel (fun _ => False)) fun _ _ => id).fr (Fr.of_below hx3.out.bel (fun _ => False)) fun _ _ => id, HR.out.bb, below_step (below_step HR.out.bel hx2.out.bel) hx3.out.bel, HR.out.low⟩
      obtain ⟨v4, W4, hr4, hrow4⟩ := hrow.app hx3.out.by' (by
        have h1 := HL.out i (by rw [← HN.out]; omega)
        unfold enN at h1
        rw [recL_len]
        have := HCs.out.2
        omega) 28
      have HF : Hid (RowB w W4 v4 (tpL (csL L) (i + 1))) := by
        have e : tpL (csL L) (i + 1) = tpL (csL L) i ++ recL i (encL c) := by
          show tpL (csL L) i ++ recL i (encL (csL L i)) = _
          rw [HCs.out.1]
        rw [e]
        exact hrow4
      clear hrow hrow4 hx2 hx3 HR HT1
      refine wpList_plain rfl fun K1 hK1 => ?_
      refine valR (d := some 26) rfl (w' := W4) v4 (exec_append (v1 := bv) (v2 := v3) (.tmp 15) (.tmp 25) rfl (by kernel_rfl) (by kernel_rfl) hr4) ?_
      refine hK1 _ _ ?_
      clear hK1 hr4
      simp only [Act.put, List.setIfInBounds_toArray, List.set_cons_zero, List.set_cons_succ]
      refine wpList_runTo rfl (some 3) rfl (v4) W4 (by kernel_rfl) ?_
      simp only [Act.put, List.setIfInBounds_toArray, List.set_cons_zero, List.set_cons_succ]
      refine wpList_nil ?_
      go_wp2
      exact ⟨⟨i + 1, v4, by omega, rfl, by go_num, HF⟩, by simp [intOf]; omega⟩
    · obtain rfl : i = n := by omega
      have hi' : ¬ (i : Int) < (i : Int) := by omega
      have HF : Hid (RowB w wr bv (tpL (csL L) L.length)) := by
        have := HR.out
        rw [HN.out] at this
        exact this
      go_wp2
      go_ret
      exact ⟨bv, rfl, HF⟩
end Go.Proofs.Ytjnnecoikcmaeaa
