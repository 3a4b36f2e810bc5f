/-
  tape: Command (of one that there is).
-/
import Derived.Test.YtjnnecoikcmaeaaTQ5
namespace Go.Proofs.Ytjnnecoikcmaeaa
set_option linter.unusedVariables false
set_option linter.unusedSimpArgs false
open Go.RowKit Go.Great

/-- Where the i-th record begins. -/
def begE (es : List Nat) (i : Nat) : Nat := if i = 0 then 4 else es.getD (i - 1) 0
theorem ev_cell {w : World} {t : Tp} (h : TpAt w t) {ea : Addr} {n ec : Nat} (he : t.ev = .slice (some ea) n ec) {i x : Nat} (hx : t.es[i]? = some x) : ∃ b off, ea = ⟨b, off, none⟩ ∧ w.cell? ⟨b, off + i, none⟩ = some (.int .i64 (x : Int)) := by
  have hi := (List.getElem?_eq_some_iff.1 hx).1
  obtain ⟨g, off, cap, cur, e, _⟩ := h.row.more (by omega)
  rw [he] at e
  injection e with e1 e2 e3
  injection e1 with e1
  subst e1
  refine ⟨g, off, rfl, ?_⟩
  have := h.row.cell (show t.ev = .slice (some ⟨g, off, none⟩) t.es.length ec by rw [he, e2]) (j := i) (u := .int .i64 (x : Int)) (by
    have := flatL_get intC_len hx (k := 0) (by decide)
    rw [Nat.mul_one, Nat.add_zero] at this
    exact this)
  exact this
set_option maxRecDepth 100000 in
set_option maxHeartbeats 1000000 in
theorem rec_any {w : World} {t : Tp} (h : TpAt w t) (i x : Nat) (hx : t.es[i]? = some x) (hle : begE t.es i ≤ x) (hxl : x ≤ t.l.length) (hl : t.l.length ≤ 100000000000) (hes : t.es.length ≤ 1000000) : Calls Try.prog 36 #[.pointer (some ⟨t.g, 0, none⟩), .int .i64 (i : Int)] w fun e w' => ∃ v, e = .returned v ∧ Hid (Below w.heap.size w w' ∧ By w' v ((t.l.drop (begE t.es i)).take (x - begE t.es i))) := by
  have hi := (List.getElem?_eq_some_iff.1 hx).1
  obtain ⟨wa, wc, hwf, hwc⟩ := h.by'.form
  obtain ⟨ea, ec, hef, _⟩ := h.row.form
  have c0 : w.cell? ⟨t.g, 0, none⟩ = some t.wv := h.blk.cell 0
  have c1 : w.cell? ⟨t.g, 1, none⟩ = some t.ev := h.blk.cell 1
  have hcut := by have := h.by'; rw [hwf] at this; exact this.cut (lo := begE t.es i) (hi := x) (mx := x) hle hxl (Nat.le_refl _) (by omega)
  have HF : Hid (∀ q : Nat, Below w.heap.size w (w.drewN q) ∧ By (w.drewN q) (cutV (.slice wa t.l.length wc) (begE t.es i) x x) ((t.l.drop (begE t.es i)).take (x - begE t.es i))) := fun q => ⟨below_drewN (Below.refl _ w) q, hcut.below (below_drewN (Below.refl _ w) q)⟩
  cases ea with
  | none =>
    exfalso
    obtain ⟨g, off, cap, cur, e, _⟩ := h.row.more (by omega)
    rw [hef] at e
    injection e with e
    cases e
  | some ea =>
    obtain ⟨eb, eo, rfl, ci⟩ := ev_cell h hef hx
    rw [hef] at c1
    rw [hwf] at c0
    have hi' : (i : Int) < (t.es.length : Int) := by omega
    have HP : Hid (0 < i → ∃ y, y = begE t.es i ∧ ∀ q : Nat, (w.drewN q).cell? ⟨eb, eo + (i - 1), none⟩ = some (.int .i64 (y : Int))) := fun h0 => by
      have hi2 : i - 1 < t.es.length := by omega
      refine ⟨t.es[i - 1], ?_, fun q => ?_⟩
      · unfold begE
        rw [if_neg (by omega), List.getD_eq_getElem?_getD, List.getElem?_eq_getElem hi2]; rfl
      · obtain ⟨b2, o2, e2, c2⟩ := ev_cell h hef (List.getElem?_eq_getElem hi2)
        injection e2 with e3 e4
        subst e3 e4
        exact c2
    have HC : Hid (∀ q : Nat, (w.drewN q).cell? ⟨t.g, 0, none⟩ = some (.slice wa t.l.length wc) ∧ (w.drewN q).cell? ⟨t.g, 1, none⟩ = some (.slice (some ⟨eb, eo, none⟩) t.es.length ec)) := fun q => ⟨c0, c1⟩
    have hsl := fun (op : Oper) (A : Act) (W : World) (xx y z u : Operand) ho hx hy hz hu => sliceA_run (op := op) (a := A) (ao := wa) (n := t.l.length) (cap := wc) (lo := begE t.es i) (hi := x) xx y z u ho hx hy hz hu hle (by omega) W
    have HB0 : Hid (i = 0 → begE t.es i = 4) := fun e => by unfold begE; rw [if_pos e]
    clear h hcut hwf hef hx
    generalize begE t.es i = bg at *
    generalize t.es.length = en at *
    generalize hC : cutV (.slice wa t.l.length wc) bg x x = C at *
    clear hC
    generalize t.l.length = ln at *
    go_enter Try.func36, Try.ntmps36
    go_upto_region 1 with fail
    go_quiet (fail)
    rename_i nq
    obtain ⟨q0, q1⟩ := HC.out nq
    have HF1 : Hid (Below w.heap.size w (w.drewN nq) ∧ By (w.drewN nq) C ((t.l.drop bg).take (x - bg))) := HF.out nq
    have HP1 : Hid (0 < i → ∃ y, y = bg ∧ (w.drewN nq).cell? ⟨eb, eo + (i - 1), none⟩ = some (.int .i64 (y : Int))) := fun h0 => by
      obtain ⟨y, h1, h2⟩ := HP.out h0
      exact ⟨y, h1, h2 nq⟩
    clear HC HF HP c0 c1 ci
    generalize w.drewN nq = W1 at *
    by_cases h0 : i = 0
    · have hb4 := HB0.out h0
      have h0' : ¬ (0 : Int) < (i : Int) := by omega
      subst hb4
      clear HP1 h0
      go_upto_region 4 with fail
      rename_i K4 hK4
      refine wp_region_lit ?_
      refine wpList_runTo rfl (some 24) rfl (.pointer (some ⟨t.g, 0, none⟩)) W1 (by kernel_rfl) ?_
      simp only [Act.put, List.setIfInBounds_toArray, List.set_cons_zero, List.set_cons_succ]
      refine wpList_runTo rfl (some 25) rfl (.pointer (some ⟨t.g, 0, none⟩)) W1 (by kernel_rfl) ?_
      simp only [Act.put, List.setIfInBounds_toArray, List.set_cons_zero, List.set_cons_succ]
      refine wpList_runTo rfl (some 26) rfl (.pointer (some ⟨t.g, 0, none⟩)) W1 (by kernel_rfl) ?_
      simp only [Act.put, List.setIfInBounds_toArray, List.set_cons_zero, List.set_cons_succ]
      refine wpList_runTo rfl (some 27) rfl (.slice wa ln wc) W1 (by go_simp) ?_
      simp only [Act.put, List.setIfInBounds_toArray, List.set_cons_zero, List.set_cons_succ]
      refine wpList_runTo rfl (some 28) rfl (.int .i64 ((4 : Nat) : Int)) W1 (by kernel_rfl) ?_
      simp only [Act.put, List.setIfInBounds_toArray, List.set_cons_zero, List.set_cons_succ]
      refine wpList_runTo rfl (some 29) rfl (.int .i64 (x : Int)) W1 (by kernel_rfl) ?_
      simp only [Act.put, List.setIfInBounds_toArray, List.set_cons_zero, List.set_cons_succ]
      refine wpList_runTo rfl (some 30) rfl (.int .i64 (x : Int)) W1 (by kernel_rfl) ?_
      simp only [Act.put, List.setIfInBounds_toArray, List.set_cons_zero, List.set_cons_succ]
      refine wpList_runTo rfl (some 31) rfl (C) W1 (by exact hsl _ _ _ (.tmp 27) (.tmp 28) (.tmp 29) (.tmp 30) rfl (by kernel_rfl) (by kernel_rfl) (by kernel_rfl) (by kernel_rfl)) ?_
      simp only [Act.put, List.setIfInBounds_toArray, List.set_cons_zero, List.set_cons_succ]
      refine wpList_runTo rfl (some 4) rfl (C) W1 (by kernel_rfl) ?_
      simp only [Act.put, List.setIfInBounds_toArray, List.set_cons_zero, List.set_cons_succ]
      refine wpList_nil ?_
      refine hK4 _ _ ?_
      clear hK4 hsl
      go_wp2
      go_ret
      exact ⟨C, rfl, HF1.out⟩
    · have h0' : (0 : Int) < (i : Int) := by omega
      have h1' : 1 ≤ i := by omega
      have h2' : (i : Int) - 1 < (en : Int) := by omega
      have h3' : i - 1 < en := by omega
      obtain ⟨y, rfl, cy⟩ := HP1.out (by omega)
      clear HP1 h0 HB0
      go_upto_region 4 with fail
      rename_i K4 hK4
      refine wp_region_lit ?_
      refine wpList_runTo rfl (some 24) rfl (.pointer (some ⟨t.g, 0, none⟩)) W1 (by kernel_rfl) ?_
      simp only [Act.put, List.setIfInBounds_toArray, List.set_cons_zero, List.set_cons_succ]
      refine wpList_runTo rfl (some 25) rfl (.pointer (some ⟨t.g, 0, none⟩)) W1 (by kernel_rfl) ?_
      simp only [Act.put, List.setIfInBounds_toArray, List.set_cons_zero, List.set_cons_succ]
      refine wpList_runTo rfl (some 26) rfl (.pointer (some ⟨t.g, 0, none⟩)) W1 (by kernel_rfl) ?_
      simp only [Act.put, List.setIfInBounds_toArray, List.set_cons_zero, List.set_cons_succ]
      refine wpList_runTo rfl (some 27) rfl (.slice wa ln wc) W1 (by go_simp) ?_
      simp only [Act.put, List.setIfInBounds_toArray, List.set_cons_zero, List.set_cons_succ]
      refine wpList_runTo rfl (some 28) rfl (.int .i64 (y : Int)) W1 (by kernel_rfl) ?_
      simp only [Act.put, List.setIfInBounds_toArray, List.set_cons_zero, List.set_cons_succ]
      refine wpList_runTo rfl (some 29) rfl (.int .i64 (x : Int)) W1 (by kernel_rfl) ?_
      simp only [Act.put, List.setIfInBounds_toArray, List.set_cons_zero, List.set_cons_succ]
      refine wpList_runTo rfl (some 30) rfl (.int .i64 (x : Int)) W1 (by kernel_rfl) ?_
      simp only [Act.put, List.setIfInBounds_toArray, List.set_cons_zero, List.set_cons_succ]
      refine wpList_runTo rfl (some 31) rfl (C) W1 (by exact hsl _ _ _ (.tmp 27) (.tmp 28) (.tmp 29) (.tmp 30) rfl (by kernel_rfl) (by kernel_rfl) (by kernel_rfl) (by kernel_rfl)) ?_
      simp only [Act.put, List.setIfInBounds_toArray, List.set_cons_zero, List.set_cons_succ]
      refine wpList_runTo rfl (some 4) rfl (C) W1 (by kernel_rfl) ?_
      simp only [Act.put, List.setIfInBounds_toArray, List.set_cons_zero, List.set_cons_succ]
      refine wpList_nil ?_
      refine hK4 _ _ ?_
      clear hK4 hsl
      go_wp2
      go_ret
      exact ⟨C, rfl, HF1.out⟩
end Go.Proofs.Ytjnnecoikcmaeaa
