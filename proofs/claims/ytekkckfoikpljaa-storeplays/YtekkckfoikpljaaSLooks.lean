/-
  StorePlays: looks: do all lists read as their owner left them?
-/
import Derived.Test.YtekkckfoikpljaaSTakes
namespace Go.Proofs.Ytekkckfoikpljaa
set_option linter.unusedVariables false
set_option linter.unusedSimpArgs false
open Go.RowKit Go.Great

theorem loadMk_run {op : Oper} {a : Act} {w : World} {g o : Nat} {x y : Int} (h : w.rangeAt g o (mkL x y)) (t : Operand) (ho : op.op = .load 36 t) (hx : a.eval t = .pointer (some ⟨g, o, none⟩)) : (execOp a.eval op).run Try.prog w = .ok (.value (.agg (mkL x y).toArray)) w := by
  have hl := run_loadVar_mid (P := Try.prog) w g o 36 (mkL x y) _ h Try.underlying36 rfl (by rw [mkL_len]; kernel_rfl)
  unfold execOp
  simp only [ho, hx, Instr.loadAt, Instr.sureAddr, Sem.run_bind, Sem.run_pure, Result.andThen_ok, hl]
theorem part_msgK (x y : Int) (w : World) : (part 34 (mkL x y).toArray 3).run Try.prog w = .ok (.agg zeroM.cs) w := part_msg (⟨0, 0, false, none⟩ : Pt Msg) w
theorem mk_eq_any (x y : Int) (w : World) : (Op.equalIn 10000 36 (.agg (mkL x y).toArray) (.agg (mkL x y).toArray)).run Try.prog w = .ok true w := by
  rw [run_equalIn_agg w 9999 36 _ _ (by kernel_rfl) (by kernel_rfl)]
  obtain ⟨rm, hm1, hm2⟩ := msg_eq_any zeroM zeroM w 9997
  obtain ⟨r, h1, h2⟩ := eqFields_any (xs := (mkL x y).toArray) (ys := (mkL x y).toArray) (w := w) 9999 (fun f => True) (Try.prog.fieldsOf 36).toList fun f hf => by
    have hmem : (f.type, f.offset, f.name != "_") ∈ (Try.prog.fieldsOf 36).toList.map (fun f => (f.type, f.offset, f.name != "_")) := List.mem_map.2 ⟨f, hf, rfl⟩
    rw [pt_at] at hmem
    simp only [List.mem_cons, Prod.mk.injEq, List.not_mem_nil, or_false] at hmem
    rcases hmem with ⟨e1, e2, e3⟩ | ⟨e1, e2, e3⟩ | ⟨e1, e2, e3⟩ | ⟨e1, e2, e3⟩
    · refine ⟨by simpa using e3, .int .i64 x, .int .i64 x, x == x, ?_, ?_, ?_, by simp⟩
      · rw [e1, e2]; exact run_part_plain w pl3 rfl
      · rw [e1, e2]; exact run_part_plain w pl3 rfl
      · rw [e1]; exact run_equalIn_int w 9998 3 .i64 .i64 _ _ Try.underlying3
    · refine ⟨by simpa using e3, .int .i64 y, .int .i64 y, y == y, ?_, ?_, ?_, by simp⟩
      · rw [e1, e2]; exact run_part_plain w pl3 rfl
      · rw [e1, e2]; exact run_part_plain w pl3 rfl
      · rw [e1]; exact run_equalIn_int w 9998 3 .i64 .i64 _ _ Try.underlying3
    · refine ⟨by simpa using e3, .bool false, .bool false, false == false, ?_, ?_, ?_, by simp⟩
      · rw [e1, e2]; exact run_part_plain w pl4 rfl
      · rw [e1, e2]; exact run_part_plain w pl4 rfl
      · rw [e1]; exact run_equalIn_bool' w 9998 4 _ _ Try.underlying4
    · refine ⟨by simpa using e3, .agg zeroM.cs, .agg zeroM.cs, rm, ?_, ?_, ?_, by rw [hm2]; simp⟩
      · rw [e1, e2]; exact part_msgK x y w
      · rw [e1, e2]; exact part_msgK x y w
      · rw [e1]; exact hm1
  have hr : r = true := h2.2 fun _ _ => trivial
  rw [hr] at h1
  exact h1
theorem neqMk_run (p q : Int) {op : Oper} {a : Act} (x y : Operand) (ho : op.op = .binOp .neq 36 x y 36) (hx : a.eval x = .agg (mkL p q).toArray) (hy : a.eval y = .agg (mkL p q).toArray) (w : World) : (execOp a.eval op).run Try.prog w = .ok (.value (.bool false)) w := by
  have h1 := mk_eq_any p q w
  have hgd : (eqGuard .neq 36 x y (.agg (mkL p q).toArray) (.agg (mkL p q).toArray)).run Try.prog w = .ok () w := run_eqGuard_agg (P := Try.prog) w .neq 36 x y _ _ (by kernel_rfl)
  have he : (binOp .neq 36 (.agg (mkL p q).toArray) (.agg (mkL p q).toArray)).run Try.prog w = .ok (.bool false) w := by rw [run_neq_struct, h1]; rfl
  unfold execOp
  simp only [ho, hx, hy, Sem.run_bind, hgd, Result.andThen_ok, he]
  rfl
/-- What a hold is, read in memory. -/
theorem hd_at {w : World} {hs : List Hd} {n g o c i : Nat} {x : Hd} (h : RowAt w 73 46 (.slice (some ⟨g, o, none⟩) n c) n (flatL hdV hs)) (hi : hs[i]? = some x) : w.cell? ⟨g, o + i * 46, none⟩ = some x.v ∧ w.rangeAt g (o + i * 46 + 1) (mkL x.a x.b) := by
  refine ⟨?_, fun j u hu => ?_⟩
  · have := h.cell rfl (j := i * 46 + 0) (u := x.v) (by rw [flatL_get hdV_len hi (by decide)]; rfl)
    rw [Nat.add_zero] at this
    exact this
  · have hj : j < 45 := by have := (List.getElem?_eq_some_iff.1 hu).1; rw [mkL_len] at this; exact this
    have := h.cell rfl (j := i * 46 + (j + 1)) (u := u) (by rw [flatL_get hdV_len hi (by omega)]; exact hu)
    rw [show o + i * 46 + 1 + j = o + (i * 46 + (j + 1)) by omega]
    exact this
theorem mr_at {w : World} {a b : Int} {g o n c j : Nat} (h : MR w a b (.slice (some ⟨g, o, none⟩) n c) n) (hj : j < n) : w.rangeAt g (o + j * 45) (mkL a b) := fun i u hu => by
  have hi : i < 45 := by have := (List.getElem?_eq_some_iff.1 hu).1; rw [mkL_len] at this; exact this
  rw [Nat.add_assoc]
  have hlt : (j + 1) * 45 ≤ n * 45 := Nat.mul_le_mul_right _ hj
  exact RowAt.cell h rfl (by rw [reps_get a b (by omega), show (j * 45 + i) % 45 = i by omega]; exact hu)
/-- What looks reads of a hold. -/
theorem look1 {w : World} {pw : Nat} {ps : List PR} {hs : List Hd} {vP : Value} {N k gH oH cH i nr cv : Nat} {av : Option Addr} {x : Hd} (h : WsAt w pw ps hs vP (.slice (some ⟨gH, oH, none⟩) k cH) N) (hx : hs[i]? = some x) (hxv : x.v = .slice av nr cv) :
    w.cell? ⟨pw, 1, none⟩ = some (.slice (some ⟨gH, oH, none⟩) k cH) ∧ w.cell? ⟨gH, oH + i * 46, none⟩ = some (.slice av nr cv) ∧ w.rangeAt gH (oH + i * 46 + 1) (mkL x.a x.b) := by
  have hrow := h.hrow
  have hk : hs.length = k := by
    obtain ⟨ao, cp, e, _⟩ := hrow.form
    injection e with _ e _
    exact e.symm
  rw [hk] at hrow
  obtain ⟨h1, h2⟩ := hd_at hrow hx
  exact ⟨cell_at h.blk rfl, by rw [h1, hxv], h2⟩
theorem look2 {w : World} {x : Hd} {gv ov nr cv j : Nat} {r : Value} (h : HdAt w x) (hxv : x.v = .slice (some ⟨gv, ov, none⟩) nr cv) (hr : x.rows[j]? = some r) : w.cell? ⟨gv, ov + j, none⟩ = some r := by
  have h1 := h.row
  rw [hxv] at h1
  obtain ⟨ao, cp, e, _⟩ := h1.form
  injection e with _ e _
  rw [← e] at h1
  have := h1.cell rfl (j := j * 1 + 0) (u := r) (by rw [flatL_get oneV_len hr (by decide)]; rfl)
  rw [Nat.mul_one, Nat.add_zero] at this
  exact this
set_option maxRecDepth 100000 in
set_option maxHeartbeats 4000000 in
theorem looks_any {w : World} {pw : Nat} {ps : List PR} {hs : List Hd} {vP vH : Value} {N : Nat} (h : WsAt w pw ps hs vP vH N) :
    Calls Try.prog 16 #[.pointer (some ⟨pw, 0, none⟩)] w fun e w' => e = .returned (.bool true) ∧ Sm w w' := by
  obtain ⟨k, hk⟩ : ∃ k, hs.length = k := ⟨_, rfl⟩
  have HK : Hid (hs.length = k) := hk
  have hrow := h.hrow
  rw [hk] at hrow
  have hmax : k ≤ 9223372036854775807 := by
    have : k ≤ maxLen := by
      rcases hrow.2 with ⟨_, h0⟩ | ⟨_, _, _, _, _, _, h3, h4, _⟩ <;> omega
    unfold maxLen at this; omega
  obtain ⟨aH, cH, hvH, -⟩ := hrow.form
  have hmore : Hid (0 < k → ∃ g o, aH = some ⟨g, o, none⟩) := fun hk0 => by
    obtain ⟨g, o, c, cur, e, _⟩ := hrow.more hk0
    rw [hvH] at e
    injection e with e _ _
    exact ⟨g, o, e⟩
  subst hvH
  have HW : Hid (WsAt w pw ps hs vP (.slice aH k cH) N) := h
  clear h hrow hk
  go_enter Try.func16, Try.ntmps16
  go_upto_region 2 with fail
  go_loopw [3, 4, 5] (fun x3 _ _ wr => ∃ i : Nat, i ≤ k ∧ x3 = .int .i64 (i : Int) ∧ Hid (Sm w wr)) (fun x3 _ _ _ => k - (intOf x3).toNat)
  case atStart => exact ⟨0, Nat.zero_le _, rfl, Sm.refl _⟩
  case round =>
    obtain ⟨i, hi, rfl, HD⟩ := hrel
    have cw : wr.cell? ⟨pw, 1, none⟩ = some (.slice aH k cH) := cell_at (HW.out.ty HD.out.ty).blk rfl
    by_cases hlt : i < k
    · have hlt' : (i : Int) < (k : Int) := by omega
      have hiw : IntKind.i64.wrap ((i : Int) + 1) = (i : Int) + 1 := by rw [IntKind.wrap_i64]; omega
      obtain ⟨x, hx⟩ : ∃ x, hs[i]? = some x := ⟨_, List.getElem?_eq_getElem (by rw [HK.out]; exact hlt)⟩
      obtain ⟨gH, oH, rfl⟩ := hmore.out (by omega)
      obtain ⟨nr, hnr⟩ : ∃ nr, x.rows.length = nr := ⟨_, rfl⟩
      have hxr := (HW.out.hs x (List.mem_of_getElem? hx)).row
      rw [hnr] at hxr
      have hmax2 : nr ≤ 9223372036854775807 := by
        have : nr ≤ maxLen := by
          rcases hxr.2 with ⟨_, h0⟩ | ⟨_, _, _, _, _, _, h3, h4, _⟩ <;> omega
        unfold maxLen at this; omega
      obtain ⟨av, cv, hxv, -⟩ := hxr.form
      have hmorev : Hid (0 < nr → ∃ g o, av = some ⟨g, o, none⟩) := fun hk0 => by
        obtain ⟨g, o, c, cur, e, _⟩ := hxr.more hk0
        rw [hxv] at e
        injection e with e _ _
        exact ⟨g, o, e⟩
      have HX : Hid (hs[i]? = some x ∧ x.v = .slice av nr cv ∧ x.rows.length = nr) := ⟨hx, hxv, hnr⟩
      clear hxr hnr hxv hx
      go_upto_region 5 with fail
      clear cw
      go_loopw [4, 5] (fun x4 _ wr => ∃ j : Nat, j ≤ nr ∧ x4 = .int .i64 (j : Int) ∧ Hid (Sm w wr)) (fun x4 _ _ => nr - (intOf x4).toNat)
      case atStart => exact ⟨0, Nat.zero_le _, rfl, HD⟩
      case round =>
        obtain ⟨j, hj, rfl, HD2⟩ := hrel
        obtain ⟨cw, cx, -⟩ := look1 (HW.out.ty HD2.out.ty) HX.out.1 HX.out.2.1
        by_cases hlt2 : j < nr
        · have hlt2' : (j : Int) < (nr : Int) := by omega
          have hjw : IntKind.i64.wrap ((j : Int) + 1) = (j : Int) + 1 := by rw [IntKind.wrap_i64]; omega
          obtain ⟨gv, ov, rfl⟩ := hmorev.out (by omega)
          obtain ⟨r, hr⟩ : ∃ r, x.rows[j]? = some r := ⟨_, List.getElem?_eq_getElem (by rw [HX.out.2.2]; exact hlt2)⟩
          obtain ⟨n, hm⟩ := (HW.out.hs x (List.mem_of_getElem? HX.out.1)).each r (List.mem_of_getElem? hr)
          have hmax3 : n ≤ 9223372036854775807 := by
            have : n ≤ maxLen := by
              rcases hm.2 with ⟨_, h0⟩ | ⟨_, _, _, _, _, _, h3, h4, _⟩ <;> omega
            unfold maxLen at this; omega
          obtain ⟨ar, cr, hrv, -⟩ := hm.form
          have hmorer : Hid (0 < n → ∃ g o, ar = some ⟨g, o, none⟩) := fun hk0 => by
            obtain ⟨g, o, c, cur, e, _⟩ := RowAt.more hm hk0
            rw [hrv] at e
            injection e with e _ _
            exact ⟨g, o, e⟩
          subst hrv
          have HM : Hid (MR w x.a x.b (.slice ar n cr) n ∧ x.rows[j]? = some (.slice ar n cr)) := ⟨hm, hr⟩
          clear hm hr
          go_upto_region 8 with fail
          clear cw cx
          go_loopw [5] (fun x5 wr => ∃ t : Nat, t ≤ n ∧ x5 = .int .i64 (t : Int) ∧ Hid (Sm w wr)) (fun x5 _ => n - (intOf x5).toNat)
          case atStart => exact ⟨0, Nat.zero_le _, rfl, HD2⟩
          case round =>
            obtain ⟨t, ht, rfl, HD3⟩ := hrel
            obtain ⟨cw, cx, hmk⟩ := look1 (HW.out.ty HD3.out.ty) HX.out.1 HX.out.2.1
            have cr' := look2 ((HW.out.hs x (List.mem_of_getElem? HX.out.1)).ty HD3.out.ty trivial trivial) HX.out.2.1 HM.out.2
            by_cases hlt3 : t < n
            · have hlt3' : (t : Int) < (n : Int) := by omega
              have htw : IntKind.i64.wrap ((t : Int) + 1) = (t : Int) + 1 := by rw [IntKind.wrap_i64]; omega
              obtain ⟨gr, orr, rfl⟩ := hmorer.out (by omega)
              have hrg : Hid (wr.rangeAt gr (orr + t * 45) (mkL x.a x.b)) := mr_at (RowAt.ty HM.out.1 HD3.out.ty trivial) hlt3
              have hmkH : Hid (wr.rangeAt gH (oH + i * 46 + 1) (mkL x.a x.b)) := hmk
              clear hmk
              go_upto_region 10 with fail
              refine wp_region_quiet_lit (by kernel_rfl) (by kernel_rfl) ?_
              iterate 13 (go_big_quiet_step (fail))
              refine quiet_runTo (by kernel_rfl) (some 57) rfl (.agg (mkL x.a x.b).toArray) (fun w' hw => by obtain ⟨q, rfl⟩ := hw; exact loadMk_run (w := wr.drewN q) hrg.out (.tmp 56) rfl (by kernel_rfl)) ?_
              simp only [Act.put, List.setIfInBounds_toArray, List.set_cons_zero, List.set_cons_succ]
              iterate 7 (go_big_quiet_step (fail))
              refine quiet_runTo (by kernel_rfl) (some 65) rfl (.agg (mkL x.a x.b).toArray) (fun w' hw => by obtain ⟨q, rfl⟩ := hw; exact loadMk_run (w := wr.drewN q) hmkH.out (.tmp 64) rfl (by kernel_rfl)) ?_
              simp only [Act.put, List.setIfInBounds_toArray, List.set_cons_zero, List.set_cons_succ]
              refine quiet_runTo (by kernel_rfl) (some 66) rfl (.bool false) (fun w' hw => by exact neqMk_run x.a x.b (.tmp 57) (.tmp 65) rfl (by kernel_rfl) (by kernel_rfl) w') ?_
              simp only [Act.put, List.setIfInBounds_toArray, List.set_cons_zero, List.set_cons_succ]
              refine wpQuiet_nil ?_
              intro _ hw'
              obtain ⟨nq2, hw''⟩ := hw'
              subst hw''
              generalize (mkL x.a x.b).toArray = pa at *
              clear hrg hmkH
              go_wp2
              first
                | exact ⟨⟨t + 1, by omega, by go_num, HD3.out.drewN nq2⟩, by simp [intOf]; omega⟩
                | (go_roundw
                   case rel => exact ⟨t + 1, by omega, by go_num, HD3.out.drewN nq2⟩
                   case measure => simp [intOf]; omega)
            · obtain rfl : t = n := by omega
              go_wp2
              exact ⟨⟨j + 1, by omega, by go_num, HD3.out⟩, by simp [intOf]; omega⟩
        · obtain rfl : j = nr := by omega
          go_wp2
          exact ⟨⟨i + 1, by omega, by go_num, HD2.out⟩, by simp [intOf]; omega⟩
    · obtain rfl : i = k := by omega
      go_wp2
      go_ret
      exact ⟨rfl, HD.out⟩
end Go.Proofs.Ytekkckfoikpljaa
