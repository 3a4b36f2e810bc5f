/-
  looks: all still read as their owner wrote them.
-/
import Derived.Test.YtdncemecnbglaaaAXd
namespace Go.Proofs.Ytdncemecnbglaaa
set_option linter.unusedVariables false
set_option linter.unusedSimpArgs false
open Go.RowKit Go.Great Go.Maps

theorem rem4_run {op : Oper} {a : Act} {p : Nat} (x : Operand) (ho : op.op = .binOp .rem 3 x (.const (.int .i64 4)) 3) (hx : a.eval x = .int .i64 (p : Int)) (hp : p ≤ 9223372036854775807) (w : World) : (execOp a.eval op).run Try.prog w = .ok (.value (.int .i64 ((p % 4 : Nat) : Int))) w := by
  have h1 : Int.tmod (p : Int) 4 = ((p % 4 : Nat) : Int) := by rw [Int.tmod_eq_emod_of_nonneg (by omega)]; omega
  have h2 : wrap64 ((p % 4 : Nat) : Int) = ((p % 4 : Nat) : Int) := by unfold wrap64; omega
  have h3 : IntKind.i64.wrap ((p % 4 : Nat) : Int) = ((p % 4 : Nat) : Int) := by rw [IntKind.wrap_i64]; omega
  have h4 : IntKind.i64.wrap ((p : Int) % 4) = (p : Int) % 4 := by rw [IntKind.wrap_i64]; omega
  have e : a.eval (.const (.int .i64 4)) = .int .i64 4 := rfl
  unfold execOp
  simp only [ho, hx, e]
  go_simp
theorem subM_run {op : Oper} {a : Act} {p q r : Nat} (x y : Operand) (ho : op.op = .binOp .sub 3 x y 3) (hx : a.eval x = .int .i64 (p : Int)) (hy : a.eval y = .int .i64 (q : Int)) (hr : p = q + r) (hp : p ≤ 9223372036854775807) (w : World) : (execOp a.eval op).run Try.prog w = .ok (.value (.int .i64 (r : Int))) w := by
  have h3 : IntKind.i64.wrap ((p : Int) - (q : Int)) = (r : Int) := by rw [IntKind.wrap_i64]; omega
  clear hr hp
  unfold execOp
  simp only [ho, hx, hy]
  go_simp
theorem ixO_run {op : Oper} {a : Act} {g o n c i : Nat} (x y : Operand) (ho : op.op = .indexAddr 51 x y) (hx : a.eval x = .slice (some ⟨g, o, none⟩) n c) (hy : a.eval y = .int .i64 (i : Int)) (hi : i < n) (w : World) : (execOp a.eval op).run Try.prog w = .ok (.value (.pointer (some ⟨g, o + i, none⟩))) w := by
  have h1 : (i : Int) < (n : Int) := by omega
  have h2 : ¬ (n : Int) ≤ (i : Int) := by omega
  unfold execOp
  simp only [ho, hx, hy]
  go_simp
theorem ixW_run {op : Oper} {a : Act} {g o n c i : Nat} (x y : Operand) (ho : op.op = .indexAddr 50 x y) (hx : a.eval x = .slice (some ⟨g, o, none⟩) n c) (hy : a.eval y = .int .i64 (i : Int)) (hi : i < n) (w : World) : (execOp a.eval op).run Try.prog w = .ok (.value (.pointer (some ⟨g, o + i, none⟩))) w := by
  have h1 : (i : Int) < (n : Int) := by omega
  have h2 : ¬ (n : Int) ≤ (i : Int) := by omega
  unfold execOp
  simp only [ho, hx, hy]
  go_simp
/-- What stands in the list of lists: the i-th one, and its k-th thing. -/
theorem Ls.at' {E T : TypeId} {size : Nat} {w : World} {G : Gh} {v : Value} {os : List (Value × Nat)} (h : Ls E T size w G v os) {i : Nat} (hi : i < os.length) : ∃ og oo oc xa xn xc, v = .slice (some ⟨og, oo, none⟩) os.length oc ∧ w.cell? ⟨og, oo + i, none⟩ = some (.slice xa xn xc) ∧ MkA w G T size (i - i % 4) (.slice xa xn xc) xn := by
  obtain ⟨og, oo, oc, cur, e, _⟩ := h.row.more (by omega)
  obtain ⟨x, hx⟩ : ∃ x, os[i]? = some x := ⟨_, List.getElem?_eq_getElem hi⟩
  have hm := h.ok i x hx
  obtain ⟨xa, xc, hv, _⟩ := hm.form
  have hc := h.row.cell e (j := i) (u := x.1) (by rw [List.getElem?_map, hx]; rfl)
  rw [hv] at hc hm
  exact ⟨og, oo, oc, xa, x.2, xc, e, hc, hm⟩
theorem MkA.bnd {w : World} {G : Gh} {T : TypeId} {size m n : Nat} {v : Value} (k : MkA w G T size m v n) : n ≤ 9223372036854775807 := by
  obtain ⟨xs, r, _⟩ := k
  rcases r.2 with ⟨_, h0⟩ | ⟨g, off, cap, cur, e1, e2, e3, e4, _⟩
  · omega
  · have : maxLen ≤ 9223372036854775807 := by decide
    omega
theorem inn_by {G : Gh} {w : World} (gi : Gi G w) {q m : Nat} (hq : G q = (3, m)) : By w (.slice (some ⟨q, 0, none⟩) 2 2) [m % 256, m / 256 % 256] := by
  have hb := gi.inn q m hq
  refine ⟨⟨some ⟨q, 0, none⟩, 2, rfl, Nat.le_refl _, fun e => (by cases e), .inr ⟨q, 0, rfl, fun j x hj => ?_⟩⟩, fun x hx => ?_⟩
  · rw [Nat.zero_add, cell_of_row _ _ _ _ _ _ hb]
    have hj2 : j < 2 := (List.getElem?_eq_some_iff.1 hj).1
    match j, hj2 with
    | 0, _ => have e : m % 256 = x := by simpa using hj
              rw [← e]; rfl
    | 1, _ => have e : m / 256 % 256 = x := by simpa using hj
              rw [← e]; rfl
  · simp at hx
    rcases hx with rfl | rfl <;> omega
theorem two_by (w : World) (m : Nat) : By (w.alloc (.cells (twoB m) 5)) (.slice (some ⟨w.heap.size, 0, none⟩) 2 2) [m % 256, m / 256 % 256] := by
  refine ⟨⟨some ⟨w.heap.size, 0, none⟩, 2, rfl, Nat.le_refl _, fun e => (by cases e), .inr ⟨w.heap.size, 0, rfl, fun j x hj => ?_⟩⟩, fun x hx => ?_⟩
  · rw [Nat.zero_add, cell_of_row _ _ _ _ _ _ (heap_alloc_new w _)]
    have hj2 : j < 2 := (List.getElem?_eq_some_iff.1 hj).1
    match j, hj2 with
    | 0, _ => have e : m % 256 = x := by simpa using hj
              rw [← e]; rfl
    | 1, _ => have e : m / 256 % 256 = x := by simpa using hj
              rw [← e]; rfl
  · simp at hx
    rcases hx with rfl | rfl <;> omega
set_option maxRecDepth 100000 in
set_option maxHeartbeats 4000000 in
theorem looks_any {w : World} {G : Gh} {p : Nat} {c : PC} {es : List En} {os rs : List (Value × Nat)} (gi : Gi G w) (hb : Blk w p 54 c.cs) (hh : Hs w G c.k es) (ho : Ls 32 35 1 w G c.o os) (hr : Ls 59 61 2 w G c.r rs) (h1 : es.length ≤ 1000000000000) (h2 : os.length ≤ 1000000000000) (h3 : rs.length ≤ 1000000000000) :
    Calls Try.prog 16 #[.pointer (some ⟨p, 0, none⟩)] w fun e w' => e = .returned (.bool true) ∧ Hid (Below w.heap.size w w') := by
  obtain ⟨ka, kc, hk, _⟩ := hh.row.form
  obtain ⟨oa, oc, hoe, _⟩ := ho.row.form
  obtain ⟨ra, rc, hre, _⟩ := hr.row.form
  obtain ⟨nk, hnk⟩ : ∃ nk, nk = es.length := ⟨_, rfl⟩
  obtain ⟨no, hno⟩ : ∃ no, no = os.length := ⟨_, rfl⟩
  obtain ⟨nr, hnr⟩ : ∃ nr, nr = rs.length := ⟨_, rfl⟩
  rw [← hnk] at hk h1
  rw [← hno] at hoe h2
  rw [← hnr] at hre h3
  have HA : Hid (Gi G w ∧ Hs w G c.k es ∧ Ls 32 35 1 w G c.o os ∧ Ls 59 61 2 w G c.r rs) := ⟨gi, hh, ho, hr⟩
  have HN : Hid (nk = es.length ∧ no = os.length ∧ nr = rs.length ∧ c.k = .slice ka nk kc ∧ c.o = .slice oa no oc ∧ c.r = .slice ra nr rc) := ⟨hnk, hno, hnr, hk, hoe, hre⟩
  have HP : Hid (∀ W, Below w.heap.size w W → W.cell? ⟨p, 2, none⟩ = some (.slice ka nk kc) ∧ W.cell? ⟨p, 3, none⟩ = some (.slice ra nr rc) ∧ W.cell? ⟨p, 4, none⟩ = some (.slice oa no oc)) := fun W hW => by
    have hbW : Blk W p 54 c.cs := hb.below hW hb.lt
    exact ⟨by rw [← hk]; exact hbW.cell 2, by rw [← hre]; exact hbW.cell 3, by rw [← hoe]; exact hbW.cell 4⟩
  clear gi hb hh ho hr hk hoe hre hnk hno hnr
  go_enter Try.func16, Try.ntmps16
  go_wp2
  go_loopw [3, 4, 5] (fun x3 _ _ wr => ∃ i : Nat, i ≤ no ∧ x3 = .int .i64 (i : Int) ∧ Hid (Below w.heap.size w wr)) (fun x3 _ _ _ => no - (RowKit.intOf x3).toNat)
  case atStart => exact ⟨0, Nat.zero_le _, rfl, Below.refl _ _⟩
  case round =>
    obtain ⟨i, hi, rfl, HB⟩ := hrel
    obtain ⟨_, _, q4⟩ := HP.out wr HB.out
    by_cases hlt : i < no
    · have hlt' : (i : Int) < (no : Int) := by omega
      obtain ⟨og, oo, oc', xa, xn, xc, eo, hcx, hmx⟩ := HA.out.2.2.1.at' (i := i) (by rw [← HN.out.2.1]; exact hlt)
      rw [HN.out.2.2.2.2.1] at eo
      injection eo with eo1 eo3 eo2
      clear eo3
      subst eo1 eo2
      have hxb := hmx.bnd
      obtain ⟨m, hm⟩ : ∃ m, m = i - i % 4 := ⟨_, rfl⟩
      rw [← hm] at hmx
      have HMI : Hid (i = i % 4 + m) := by show i = i % 4 + m; omega
      have hmb : m ≤ 1000000000000 := by omega
      have HM : Hid (m = i - i % 4) := hm
      have HX : Hid (MkA w G 35 1 m (.slice xa xn xc) xn ∧ ∀ W, Below w.heap.size w W → W.cell? ⟨og, oo + i, none⟩ = some (.slice xa xn xc)) := ⟨hmx, fun W hW => (Fr.of_below hW (fun _ => False)).cell hcx id⟩
      clear hmx hcx hm
      go_upto_region 4 with fail
      rename_i K hK
      refine wp_region_lit ?_
      refine wpList_runTo rfl (some 19) rfl (.int .i64 (i : Int)) wr (by kernel_rfl) ?_
      simp only [Act.put, List.setIfInBounds_toArray, List.set_cons_zero, List.set_cons_succ]
      refine wpList_runTo rfl (some 20) rfl (.int .i64 (i : Int)) wr (by kernel_rfl) ?_
      simp only [Act.put, List.setIfInBounds_toArray, List.set_cons_zero, List.set_cons_succ]
      refine wpList_runTo rfl (some 21) rfl (.int .i64 ((i % 4 : Nat) : Int)) wr (by exact rem4_run (.tmp 20) rfl (by kernel_rfl) (by omega) _) ?_
      simp only [Act.put, List.setIfInBounds_toArray, List.set_cons_zero, List.set_cons_succ]
      refine wpList_runTo rfl (some 22) rfl (.int .i64 (m : Int)) wr (by exact subM_run (.tmp 19) (.tmp 21) rfl (by kernel_rfl) (by kernel_rfl) HMI.out (by omega) _) ?_
      simp only [Act.put, List.setIfInBounds_toArray, List.set_cons_zero, List.set_cons_succ]
      refine wpList_runTo rfl (some 4) rfl (.int .i64 (m : Int)) wr (by kernel_rfl) ?_
      simp only [Act.put, List.setIfInBounds_toArray, List.set_cons_zero, List.set_cons_succ]
      refine wpList_nil ?_
      refine hK _ _ ?_
      clear hK q4
      go_upto_region 6 with fail
      go_loopw [5] (fun x5 wr => ∃ k : Nat, k ≤ xn ∧ x5 = .int .i64 (k : Int) ∧ Hid (Below w.heap.size w wr)) (fun x5 _ => xn - (RowKit.intOf x5).toNat)
      case atStart => exact ⟨0, Nat.zero_le _, rfl, HB.out⟩
      case round =>
        obtain ⟨k, hk, rfl, HB2⟩ := hrel
        clear HB
        obtain ⟨_, _, q4⟩ := HP.out wr HB2.out
        have q5 := HX.out.2 wr HB2.out
        by_cases hltk : k < xn
        · have hltk' : (k : Int) < (xn : Int) := by omega
          obtain ⟨xg, xo, xc', ex⟩ := HX.out.1.at' hltk
          injection ex with ex1 _ ex2
          subst ex1 ex2
          obtain ⟨x, hx1, hx2⟩ := HX.out.1.cell rfl (j := k) (by omega)
          obtain ⟨q, hq, rfl⟩ : ∃ q, G q = (3, m) ∧ x = .slice (some ⟨q, 0, none⟩) 2 2 := by
            rcases hx2 with ⟨h, _⟩ | ⟨h, _⟩ | ⟨_, h⟩
            · exact absurd h (by decide)
            · exact absurd h (by decide)
            · exact h
          have HQ : Hid (∀ W, Below w.heap.size w W → W.cell? ⟨p, 4, none⟩ = some (.slice (some ⟨og, oo, none⟩) no oc) ∧ W.cell? ⟨og, oo + i, none⟩ = some (.slice (some ⟨xg, xo, none⟩) xn xc) ∧ W.cell? ⟨xg, xo + k, none⟩ = some (.slice (some ⟨q, 0, none⟩) 2 2) ∧ By W (.slice (some ⟨q, 0, none⟩) 2 2) [m % 256, m / 256 % 256]) := fun W hW =>
            ⟨(HP.out W hW).2.2, HX.out.2 W hW, (Fr.of_below hW (fun _ => False)).cell hx1 id, (inn_by HA.out.1 hq).below hW⟩
          obtain ⟨B, hB⟩ : ∃ B, B = ofN [m % 256, m / 256 % 256] := ⟨_, rfl⟩
          have HBB : Hid (B = ofN [m % 256, m / 256 % 256]) := hB
          clear hx1 hx2 hq hB
          go_upto_region 8 with fail
          clear q4 q5
          rename_i K hK
          refine wp_region_held (S := fun w' => Below w.heap.size w w') (by kernel_rfl) ?_
          change wpAnyH _ _ _ _ _ _ _ _ (World.drew _)
          have hS : Below w.heap.size w wr.drew := ⟨HB2.out.os, HB2.out.tape, HB2.out.output, HB2.out.size, HB2.out.block⟩
          clear HB2
          generalize wr.drew = Z at *
          refine takeR (i := 0) (v := .pointer (some ⟨p, 0, none⟩)) (some 35) rfl rfl (by kernel_rfl) (by kernel_rfl) (by kernel_rfl) (fun _ _ _ h => h) (Or.inl ⟨by kernel_rfl, fun w' hSw => by kernel_rfl⟩) hS ?_
          simp only [Act.put, List.setIfInBounds_toArray, List.set_cons_zero, List.set_cons_succ]
          refine takeR (i := 1) (v := .pointer (some ⟨p, 0, none⟩)) (some 36) rfl rfl (by kernel_rfl) (by kernel_rfl) (by kernel_rfl) (fun _ _ _ h => h) (Or.inl ⟨by kernel_rfl, fun w' hSw => by kernel_rfl⟩) hS ?_
          simp only [Act.put, List.setIfInBounds_toArray, List.set_cons_zero, List.set_cons_succ]
          refine takeR (i := 2) (v := .pointer (some ⟨p, 4, none⟩)) (some 37) rfl rfl (by kernel_rfl) (by kernel_rfl) (by kernel_rfl) (fun _ _ _ h => h) (Or.inl ⟨by kernel_rfl, fun w' hSw => by kernel_rfl⟩) hS ?_
          simp only [Act.put, List.setIfInBounds_toArray, List.set_cons_zero, List.set_cons_succ]
          refine takeR (i := 3) (v := .slice (some ⟨og, oo, none⟩) no oc) (some 38) rfl rfl (by kernel_rfl) (by kernel_rfl) (by kernel_rfl) (fun _ _ _ h => h) (Or.inl ⟨by kernel_rfl, fun w' hSw => by exact ldS_run (.inr (.inr (.inr (.inr (.inl rfl))))) (.tmp 37) rfl (by kernel_rfl) (HQ.out _ hSw).1⟩) hS ?_
          simp only [Act.put, List.setIfInBounds_toArray, List.set_cons_zero, List.set_cons_succ]
          refine takeR (i := 4) (v := .int .i64 (i : Int)) (some 39) rfl rfl (by kernel_rfl) (by kernel_rfl) (by kernel_rfl) (fun _ _ _ h => h) (Or.inl ⟨by kernel_rfl, fun w' hSw => by kernel_rfl⟩) hS ?_
          simp only [Act.put, List.setIfInBounds_toArray, List.set_cons_zero, List.set_cons_succ]
          refine takeR (i := 5) (v := .pointer (some ⟨og, oo + i, none⟩)) (some 40) rfl rfl (by kernel_rfl) (by kernel_rfl) (by kernel_rfl) (fun _ _ _ h => h) (Or.inl ⟨by kernel_rfl, fun w' hSw => by exact ixO_run (n := no) (c := oc) (.tmp 38) (.tmp 39) rfl (by kernel_rfl) (by kernel_rfl) hlt _⟩) hS ?_
          simp only [Act.put, List.setIfInBounds_toArray, List.set_cons_zero, List.set_cons_succ]
          refine takeR (i := 6) (v := .slice (some ⟨xg, xo, none⟩) xn xc) (some 41) rfl rfl (by kernel_rfl) (by kernel_rfl) (by kernel_rfl) (fun _ _ _ h => h) (Or.inl ⟨by kernel_rfl, fun w' hSw => by exact ldS_run (.inr (.inl rfl)) (.tmp 40) rfl (by kernel_rfl) (HQ.out _ hSw).2.1⟩) hS ?_
          simp only [Act.put, List.setIfInBounds_toArray, List.set_cons_zero, List.set_cons_succ]
          refine takeR (i := 7) (v := .int .i64 (k : Int)) (some 42) rfl rfl (by kernel_rfl) (by kernel_rfl) (by kernel_rfl) (fun _ _ _ h => h) (Or.inl ⟨by kernel_rfl, fun w' hSw => by kernel_rfl⟩) hS ?_
          simp only [Act.put, List.setIfInBounds_toArray, List.set_cons_zero, List.set_cons_succ]
          refine takeR (i := 8) (v := .pointer (some ⟨xg, xo + k, none⟩)) (some 43) rfl rfl (by kernel_rfl) (by kernel_rfl) (by kernel_rfl) (fun _ _ _ h => h) (Or.inl ⟨by kernel_rfl, fun w' hSw => by exact ixV_run (n := xn) (c := xc) (.tmp 41) (.tmp 42) rfl (by kernel_rfl) (by kernel_rfl) hltk _⟩) hS ?_
          simp only [Act.put, List.setIfInBounds_toArray, List.set_cons_zero, List.set_cons_succ]
          refine takeR (i := 9) (v := .slice (some ⟨q, 0, none⟩) 2 2) (some 44) rfl rfl (by kernel_rfl) (by kernel_rfl) (by kernel_rfl) (fun _ _ _ h => h) (Or.inl ⟨by kernel_rfl, fun w' hSw => by exact ldS_run (.inr (.inr (.inl rfl))) (.tmp 43) rfl (by kernel_rfl) (HQ.out _ hSw).2.2.1⟩) hS ?_
          simp only [Act.put, List.setIfInBounds_toArray, List.set_cons_zero, List.set_cons_succ]
          refine takeR (i := 10) (v := .string B) (some 45) rfl rfl (by kernel_rfl) (by kernel_rfl) (by kernel_rfl) (fun _ _ _ h => h) (Or.inl ⟨by kernel_rfl, fun w' hSw => by (rw [HBB.out]; exact conv_run (.tmp 44) rfl (by kernel_rfl) (HQ.out _ hSw).2.2.2)⟩) hS ?_
          simp only [Act.put, List.setIfInBounds_toArray, List.set_cons_zero, List.set_cons_succ]
          refine takeR (i := 11) (v := .int .i64 (m : Int)) (some 46) rfl rfl (by kernel_rfl) (by kernel_rfl) (by kernel_rfl) (fun _ _ _ h => h) (Or.inl ⟨by kernel_rfl, fun w' hSw => by kernel_rfl⟩) hS ?_
          simp only [Act.put, List.setIfInBounds_toArray, List.set_cons_zero, List.set_cons_succ]
          refine takeR (i := 12) (v := .int .u8 ((m % 256 : Nat) : Int)) (some 47) rfl rfl (by kernel_rfl) (by kernel_rfl) (by kernel_rfl) (fun _ _ _ h => h) (Or.inl ⟨by kernel_rfl, fun w' hSw => by exact cvB_run (.tmp 46) rfl (by kernel_rfl) _⟩) hS ?_
          simp only [Act.put, List.setIfInBounds_toArray, List.set_cons_zero, List.set_cons_succ]
          refine takeR (i := 13) (v := .int .i64 (m : Int)) (some 48) rfl rfl (by kernel_rfl) (by kernel_rfl) (by kernel_rfl) (fun _ _ _ h => h) (Or.inl ⟨by kernel_rfl, fun w' hSw => by kernel_rfl⟩) hS ?_
          simp only [Act.put, List.setIfInBounds_toArray, List.set_cons_zero, List.set_cons_succ]
          refine takeR (i := 14) (v := .int .i64 ((m / 256 : Nat) : Int)) (some 49) rfl rfl (by kernel_rfl) (by kernel_rfl) (by kernel_rfl) (fun _ _ _ h => h) (Or.inl ⟨by kernel_rfl, fun w' hSw => by exact quo256_run (.tmp 48) rfl (by kernel_rfl) (by omega) _⟩) hS ?_
          simp only [Act.put, List.setIfInBounds_toArray, List.set_cons_zero, List.set_cons_succ]
          refine takeR (i := 15) (v := .int .u8 ((m / 256 % 256 : Nat) : Int)) (some 50) rfl rfl (by kernel_rfl) (by kernel_rfl) (by kernel_rfl) (fun _ _ _ h => h) (Or.inl ⟨by kernel_rfl, fun w' hSw => by exact cvB_run (.tmp 49) rfl (by kernel_rfl) _⟩) hS ?_
          simp only [Act.put, List.setIfInBounds_toArray, List.set_cons_zero, List.set_cons_succ]
          refine wpAnyH_ready (rs := [16]) (by kernel_rfl) (by simp) ?_
          refine AllReadyH.cons rfl (fun K1 hK1 => ?_) AllReadyH.nil
          rw [if_pos (by kernel_rfl)]
          have hS1 : Below w.heap.size w (Z.alloc (.cells (twoB m) 5)) := hS.alloc hS.size _
          refine valR (d := some 51) rfl (.slice (some ⟨Z.heap.size, 0, none⟩) 2 2) (w' := Z.alloc (.cells (twoB m) 5)) (buildB2_run (.tmp 47) (.tmp 50) rfl (by kernel_rfl) (by kernel_rfl) _) ?_
          refine hK1.out _ _ hS1 (fun _ => ?_)
          clear hK1
          simp only [Act.put, List.setIfInBounds_toArray, List.set_cons_zero, List.set_cons_succ]
          have HT : Hid (By (Z.alloc (.cells (twoB m) 5)) (.slice (some ⟨Z.heap.size, 0, none⟩) 2 2) [m % 256, m / 256 % 256]) := two_by Z m
          clear hS
          generalize Z.alloc (.cells (twoB m) 5) = Z2 at *
          generalize Z.heap.size = zs at *
          refine wpAnyH_ready (rs := [17]) (by kernel_rfl) (by simp) ?_
          refine AllReadyH.cons rfl (fun K1 hK1 => ?_) AllReadyH.nil
          rw [if_pos (by kernel_rfl)]
          refine valR (d := some 52) rfl (.string B) (by rw [HBB.out]; exact conv_run (.tmp 51) rfl (by kernel_rfl) HT.out) ?_
          refine hK1.out _ _ hS1 (fun _ => ?_)
          clear hK1 HT
          simp only [Act.put, List.setIfInBounds_toArray, List.set_cons_zero, List.set_cons_succ]
          refine takeR (i := 18) (v := .bool false) (some 53) rfl rfl (by kernel_rfl) (by kernel_rfl) (by kernel_rfl) (fun _ _ _ h => h) (Or.inl ⟨by kernel_rfl, fun w' hSw => by exact neS_run (s := B) (t := B) (.tmp 45) (.tmp 52) rfl (by kernel_rfl) (by kernel_rfl) rfl _⟩) hS1 ?_
          simp only [Act.put, List.setIfInBounds_toArray, List.set_cons_zero, List.set_cons_succ]
          refine wpAnyH_done (by kernel_rfl) ?_ _
          refine hK _ _ ?_
          clear hK HQ HBB
          have HB2 : Hid (Below w.heap.size w Z2) := hS1
          clear hS1
          go_wp2
          exact ⟨⟨k + 1, by omega, by go_num, HB2.out⟩, by simp [RowKit.intOf]; omega⟩
        · have hltk' : ¬ (k : Int) < (xn : Int) := by omega
          go_wp2
          exact ⟨⟨i + 1, by omega, by go_num, HB2.out⟩, by simp [RowKit.intOf]; omega⟩
    · obtain rfl : i = no := by omega
      clear hlt
      go_upto_region 11 with fail
      clear q4
      go_loopw [6, 7] (fun x6 _ wr => ∃ j : Nat, j ≤ nr ∧ x6 = .int .i64 (j : Int) ∧ Hid (Below w.heap.size w wr)) (fun x6 _ _ => nr - (RowKit.intOf x6).toNat)
      case atStart => exact ⟨0, Nat.zero_le _, rfl, HB.out⟩
      case round =>
        obtain ⟨j, hj, rfl, HB2⟩ := hrel
        clear HB
        obtain ⟨_, q3, _⟩ := HP.out wr HB2.out
        by_cases hlt : j < nr
        · have hlt' : (j : Int) < (nr : Int) := by omega
          obtain ⟨og, oo, oc', xa, xn, xc, eo, hcx, hmx⟩ := HA.out.2.2.2.at' (i := j) (by rw [← HN.out.2.2.1]; exact hlt)
          rw [HN.out.2.2.2.2.2] at eo
          injection eo with eo1 eo3 eo2
          clear eo3
          subst eo1 eo2
          have hxb := hmx.bnd
          obtain ⟨m, hm⟩ : ∃ m, m = j - j % 4 := ⟨_, rfl⟩
          rw [← hm] at hmx
          have HMI : Hid (j = j % 4 + m) := by show j = j % 4 + m; omega
          have hmb : m ≤ 1000000000000 := by omega
          have HX : Hid (MkA w G 61 2 m (.slice xa xn xc) xn ∧ ∀ W, Below w.heap.size w W → W.cell? ⟨og, oo + j, none⟩ = some (.slice xa xn xc)) := ⟨hmx, fun W hW => (Fr.of_below hW (fun _ => False)).cell hcx id⟩
          clear hmx hcx hm
          go_upto_region 14 with fail
          clear q3
          go_loopw [7] (fun x7 wr => ∃ k : Nat, k ≤ xn ∧ x7 = .int .i64 (k : Int) ∧ Hid (Below w.heap.size w wr)) (fun x7 _ => xn - (RowKit.intOf x7).toNat)
          case atStart => exact ⟨0, Nat.zero_le _, rfl, HB2.out⟩
          case round =>
            obtain ⟨k, hk, rfl, HB⟩ := hrel
            clear HB2
            obtain ⟨_, q3, _⟩ := HP.out wr HB.out
            have q5 := HX.out.2 wr HB.out
            by_cases hltk : k < xn
            · have hltk' : (k : Int) < (xn : Int) := by omega
              obtain ⟨xg, xo, xc', ex⟩ := HX.out.1.at' hltk
              injection ex with ex1 _ ex2
              subst ex1 ex2
              obtain ⟨x, hx1, hx2⟩ := HX.out.1.cell rfl (j := k * 2) (by omega)
              obtain ⟨y, hy1, hy2⟩ := HX.out.1.cell rfl (j := k * 2 + 1) (by omega)
              have ex : x = .int .i64 (m : Int) := by
                rcases hx2 with ⟨h, _⟩ | ⟨_, h⟩ | ⟨h, _⟩
                · exact absurd h (by decide)
                · exact h
                · exact absurd h (by decide)
              have ey : y = .int .i64 (m : Int) := by
                rcases hy2 with ⟨h, _⟩ | ⟨_, h⟩ | ⟨h, _⟩
                · exact absurd h (by decide)
                · exact h
                · exact absurd h (by decide)
              subst ex ey
              rw [← Nat.add_assoc] at hy1
              have hrg : wr.rangeAt xg (xo + k * 2) (#[Value.int .i64 (m : Int), .int .i64 (m : Int)] : Array Value).toList := two_range ((Fr.of_below HB.out (fun _ => False)).cell hx1 id) ((Fr.of_below HB.out (fun _ => False)).cell hy1 id)
              clear hx1 hx2 hy1 hy2
              go_upto_region 16 with fail
              rename_i K hK
              refine wp_region_lit ?_
              refine wpList_runTo rfl (some 75) rfl (.pointer (some ⟨p, 0, none⟩)) wr (by kernel_rfl) ?_
              simp only [Act.put, List.setIfInBounds_toArray, List.set_cons_zero, List.set_cons_succ]
              refine wpList_runTo rfl (some 76) rfl (.pointer (some ⟨p, 0, none⟩)) wr (by kernel_rfl) ?_
              simp only [Act.put, List.setIfInBounds_toArray, List.set_cons_zero, List.set_cons_succ]
              refine wpList_runTo rfl (some 77) rfl (.pointer (some ⟨p, 3, none⟩)) wr (by kernel_rfl) ?_
              simp only [Act.put, List.setIfInBounds_toArray, List.set_cons_zero, List.set_cons_succ]
              refine wpList_runTo rfl (some 78) rfl (.slice (some ⟨og, oo, none⟩) nr rc) wr (by exact ldS_run (.inr (.inr (.inr (.inl rfl)))) (.tmp 77) rfl (by kernel_rfl) q3) ?_
              simp only [Act.put, List.setIfInBounds_toArray, List.set_cons_zero, List.set_cons_succ]
              refine wpList_runTo rfl (some 79) rfl (.int .i64 (j : Int)) wr (by kernel_rfl) ?_
              simp only [Act.put, List.setIfInBounds_toArray, List.set_cons_zero, List.set_cons_succ]
              refine wpList_runTo rfl (some 80) rfl (.pointer (some ⟨og, oo + j, none⟩)) wr (by exact ixW_run (n := nr) (c := rc) (.tmp 78) (.tmp 79) rfl (by kernel_rfl) (by kernel_rfl) hlt _) ?_
              simp only [Act.put, List.setIfInBounds_toArray, List.set_cons_zero, List.set_cons_succ]
              refine wpList_runTo rfl (some 81) rfl (.slice (some ⟨xg, xo, none⟩) xn xc) wr (by exact ldS_run (.inr (.inr (.inr (.inr (.inr (.inr rfl)))))) (.tmp 80) rfl (by kernel_rfl) q5) ?_
              simp only [Act.put, List.setIfInBounds_toArray, List.set_cons_zero, List.set_cons_succ]
              refine wpList_runTo rfl (some 82) rfl (.int .i64 (k : Int)) wr (by kernel_rfl) ?_
              simp only [Act.put, List.setIfInBounds_toArray, List.set_cons_zero, List.set_cons_succ]
              refine wpList_runTo rfl (some 83) rfl (.pointer (some ⟨xg, xo + k * 2, none⟩)) wr (by exact ixR_run (n := xn) (c := xc) (.tmp 81) (.tmp 82) rfl (by kernel_rfl) (by kernel_rfl) hltk _) ?_
              simp only [Act.put, List.setIfInBounds_toArray, List.set_cons_zero, List.set_cons_succ]
              refine wpList_runTo rfl (some 84) rfl (.agg #[.int .i64 (m : Int), .int .i64 (m : Int)]) wr (by exact ldA_run hrg Try.underlying61 rfl infoT (.tmp 83) rfl (by kernel_rfl)) ?_
              simp only [Act.put, List.setIfInBounds_toArray, List.set_cons_zero, List.set_cons_succ]
              refine wpList_runTo rfl (some 85) rfl (.int .i64 (j : Int)) wr (by kernel_rfl) ?_
              simp only [Act.put, List.setIfInBounds_toArray, List.set_cons_zero, List.set_cons_succ]
              refine wpList_runTo rfl (some 86) rfl (.int .i64 (j : Int)) wr (by kernel_rfl) ?_
              simp only [Act.put, List.setIfInBounds_toArray, List.set_cons_zero, List.set_cons_succ]
              refine wpList_runTo rfl (some 87) rfl (.int .i64 ((j % 4 : Nat) : Int)) wr (by exact rem4_run (.tmp 86) rfl (by kernel_rfl) (by omega) _) ?_
              simp only [Act.put, List.setIfInBounds_toArray, List.set_cons_zero, List.set_cons_succ]
              refine wpList_runTo rfl (some 88) rfl (.int .i64 (m : Int)) wr (by exact subM_run (.tmp 85) (.tmp 87) rfl (by kernel_rfl) (by kernel_rfl) HMI.out (by omega) _) ?_
              simp only [Act.put, List.setIfInBounds_toArray, List.set_cons_zero, List.set_cons_succ]
              refine wpList_runTo rfl (some 89) rfl (.int .i64 (j : Int)) wr (by kernel_rfl) ?_
              simp only [Act.put, List.setIfInBounds_toArray, List.set_cons_zero, List.set_cons_succ]
              refine wpList_runTo rfl (some 90) rfl (.int .i64 (j : Int)) wr (by kernel_rfl) ?_
              simp only [Act.put, List.setIfInBounds_toArray, List.set_cons_zero, List.set_cons_succ]
              refine wpList_runTo rfl (some 91) rfl (.int .i64 ((j % 4 : Nat) : Int)) wr (by exact rem4_run (.tmp 90) rfl (by kernel_rfl) (by omega) _) ?_
              simp only [Act.put, List.setIfInBounds_toArray, List.set_cons_zero, List.set_cons_succ]
              refine wpList_runTo rfl (some 92) rfl (.int .i64 (m : Int)) wr (by exact subM_run (.tmp 89) (.tmp 91) rfl (by kernel_rfl) (by kernel_rfl) HMI.out (by omega) _) ?_
              simp only [Act.put, List.setIfInBounds_toArray, List.set_cons_zero, List.set_cons_succ]
              refine wpList_runTo rfl (some 93) rfl (.agg #[.int .i64 (m : Int), .int .i64 (m : Int)]) wr (by exact buildW_run (.tmp 88) (.tmp 92) rfl (by kernel_rfl) (by kernel_rfl) _) ?_
              simp only [Act.put, List.setIfInBounds_toArray, List.set_cons_zero, List.set_cons_succ]
              refine wpList_runTo rfl (some 94) rfl (.bool false) wr (by exact eqW_run (x := (m : Int)) (y := (m : Int)) (.inr ⟨rfl, rfl⟩) (.tmp 84) (.tmp 93) rfl (by kernel_rfl) (by kernel_rfl) _) ?_
              simp only [Act.put, List.setIfInBounds_toArray, List.set_cons_zero, List.set_cons_succ]
              refine wpList_nil ?_
              refine hK _ _ ?_
              clear hK hrg q3 q5
              go_wp2
              exact ⟨⟨k + 1, by omega, by go_num, HB.out⟩, by simp [RowKit.intOf]; omega⟩
            · have hltk' : ¬ (k : Int) < (xn : Int) := by omega
              go_wp2
              exact ⟨⟨j + 1, by omega, by go_num, HB.out⟩, by simp [RowKit.intOf]; omega⟩
        · obtain rfl : j = nr := by omega
          clear hlt
          go_upto_region 19 with fail
          clear q3
          go_loopw [8, 9] (fun x8 _ wr => ∃ e : Nat, e ≤ nk ∧ x8 = .int .i64 (e : Int) ∧ Hid (Below w.heap.size w wr)) (fun x8 _ _ => nk - (RowKit.intOf x8).toNat)
          case atStart => exact ⟨0, Nat.zero_le _, rfl, HB2.out⟩
          case round =>
            obtain ⟨e, he, rfl, HB⟩ := hrel
            clear HB2
            obtain ⟨q2, _, _⟩ := HP.out wr HB.out
            by_cases hlt : e < nk
            · have hlt' : (e : Int) < (nk : Int) := by omega
              obtain ⟨E, hE⟩ : ∃ E, es[e]? = some E := ⟨_, List.getElem?_eq_getElem (by rw [← HN.out.1]; exact hlt)⟩
              have hok := HA.out.2.1.ok E (List.mem_of_getElem? hE)
              obtain ⟨kg, ko, kc', kcur, ek, _⟩ := HA.out.2.1.row.more (by rw [← HN.out.1]; omega)
              have ek0 := ek
              rw [HN.out.2.2.2.1] at ek
              injection ek with ek1 ek3 ek2
              clear ek3
              subst ek1 ek2
              obtain ⟨xa, xc, hxv, _⟩ := hok.mr.form
              obtain ⟨ev, xn, m⟩ := E
              dsimp only at hxv
              subst hxv
              have hm256 : m < 256 := hok.m
              have hxb : xn ≤ 140737488351302 := hok.n
              have HX : Hid (MkA w G 5 1 m (.slice xa xn xc) xn ∧ ∀ W, Below w.heap.size w W → W.cell? ⟨kg, ko + e * 2, none⟩ = some (.slice xa xn xc) ∧ W.cell? ⟨kg, ko + e * 2 + 1, none⟩ = some (.int .u8 (m : Int))) := ⟨hok.mr, fun W hW => by
                have hf := Fr.of_below hW (fun _ => False)
                have h0 := HA.out.2.1.row.cell ek0 (j := e * 2 + 0) (u := .slice xa xn xc) (by rw [flatL_get eV_len hE (by decide)]; rfl)
                have h1 := HA.out.2.1.row.cell ek0 (j := e * 2 + 1) (u := .int .u8 (m : Int)) (by rw [flatL_get eV_len hE (by decide)]; rfl)
                rw [← Nat.add_assoc] at h1
                exact ⟨hf.cell h0 id, hf.cell h1 id⟩⟩
              clear hok hE ek0
              go_upto_region 22 with fail
              clear q2
              go_loopw [9] (fun x9 wr => ∃ k : Nat, k ≤ xn ∧ x9 = .int .i64 (k : Int) ∧ Hid (Below w.heap.size w wr)) (fun x9 _ => xn - (RowKit.intOf x9).toNat)
              case atStart => exact ⟨0, Nat.zero_le _, rfl, HB.out⟩
              case round =>
                obtain ⟨k, hk, rfl, HB2⟩ := hrel
                clear HB
                obtain ⟨q2, _, _⟩ := HP.out wr HB2.out
                obtain ⟨q5, q6⟩ := HX.out.2 wr HB2.out
                by_cases hltk : k < xn
                · have hltk' : (k : Int) < (xn : Int) := by omega
                  obtain ⟨xg, xo, xc', ex⟩ := HX.out.1.at' hltk
                  injection ex with ex1 _ ex2
                  subst ex1 ex2
                  obtain ⟨x, hx1, hx2⟩ := HX.out.1.cell rfl (j := k) (by omega)
                  have ex : x = .int .u8 (m : Int) := by
                    rcases hx2 with ⟨_, ⟨h, _⟩ | ⟨h, _⟩⟩ | ⟨h, _⟩ | ⟨h, _⟩
                    · exact h
                    · omega
                    · exact absurd h (by decide)
                    · exact absurd h (by decide)
                  subst ex
                  have q7 := (Fr.of_below HB2.out (fun _ => False)).cell hx1 id
                  clear hx1 hx2
                  go_upto_region 24 with fail
                  go_quiet (fail)
                  go_wp2
                  exact ⟨⟨k + 1, by omega, by go_num, below_drewN HB2.out _⟩, by simp [RowKit.intOf]; omega⟩
                · have hltk' : ¬ (k : Int) < (xn : Int) := by omega
                  go_wp2
                  exact ⟨⟨e + 1, by omega, by go_num, HB2.out⟩, by simp [RowKit.intOf]; omega⟩
            · obtain rfl : e = nk := by omega
              go_wp2
              go_ret
              exact ⟨rfl, HB.out⟩
end Go.Proofs.Ytdncemecnbglaaa
