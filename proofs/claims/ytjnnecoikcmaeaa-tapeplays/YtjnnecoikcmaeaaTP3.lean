/-
  tape: texts written and read, numbers read.
-/
import Derived.Test.YtjnnecoikcmaeaaTP2
import Derived.Lib.AppendStr
import Derived.Test.YtjnnecoikcmaeaaTLate
namespace Go.Proofs.Ytjnnecoikcmaeaa
set_option linter.unusedVariables false
set_option linter.unusedSimpArgs false
open Go.RowKit Go.Great

theorem frozen_alloc {w : World} {a : Addr} {v : Value} (h : w.cell? a = some v) (hf : w.frozen? a = false) (o : Obj) : (w.alloc o).frozen? a = false := by
  have hb := ((Below.refl _ w).alloc (Nat.le_refl _) o).block a.block (World.block_lt_of_cell? _ _ h)
  unfold World.frozen? at hf ⊢
  rw [hb]; exact hf
def ofN (l : List Nat) : ByteArray := ⟨(l.map UInt8.ofNat).toArray⟩
theorem sB_ofN {l : List Nat} (h : BB l) : sB (ofN l) = l := by
  unfold sB ofN
  rw [List.map_map]
  conv => rhs; rw [← List.map_id l]
  refine List.map_congr_left fun x hx => ?_
  have := h x hx
  show (UInt8.ofNat x).toNat = x
  rw [UInt8.toNat_ofNat']
  omega
theorem ofN_sB (s : ByteArray) : ofN (sB s) = s := by
  unfold sB ofN
  rw [List.map_map]
  have : (UInt8.ofNat ∘ fun x : UInt8 => x.toNat) = id := by
    funext x
    show UInt8.ofNat x.toNat = x
    exact UInt8.ofNat_toNat
  rw [this, List.map_id]
theorem ofN_size (l : List Nat) : (ofN l).size = l.length := by simp [ofN, ByteArray.size]
theorem strCells_sB (s : ByteArray) : Lib.strCells s = bvals (sB s) := by
  unfold Lib.strCells bvals sB
  rw [List.map_map]; rfl
set_option maxRecDepth 100000 in
theorem conv_by {w : World} {v : Value} {l : List Nat} (h : By w v l) : (convert 28 9 v).run Try.prog w = .ok (.string (ofN l)) w := by
  obtain ⟨a, cap, rfl, h1, h2, h3⟩ := h.ex
  cases a with
  | none =>
    have : cap = 0 := h2 rfl
    have hl : l = [] := List.eq_nil_of_length_eq_zero (by omega)
    subst hl
    subst this
    exact (by kernel_rfl : (convert 28 9 (.slice none 0 0)).run Try.prog w = .ok (.string ⟨#[]⟩) w)
  | some ad =>
    have := run_convert_bytes_back (P := Try.prog) w 28 9 5 ad cap (l.map UInt8.ofNat) Try.underlying28 Try.underlying5 Try.underlying9 (fun j hj => by
      rw [List.length_map] at hj
      rcases h3 with h3 | ⟨b, off, e, h3⟩
      · rw [h3] at hj; simp at hj
      · injection e with e
        subst e
        rw [Addr.add_mid, h3 j l[j] (List.getElem?_eq_getElem hj), List.getElem_map]
        have := h.bb _ (List.getElem_mem hj)
        rw [UInt8.toNat_ofNat', Nat.mod_eq_of_lt (by omega)])
    rw [List.length_map] at this
    exact this
set_option maxRecDepth 100000 in
set_option maxHeartbeats 1000000 in
theorem tx_wri (B k : Nat) (s : ByteArray) (w : World) (v : Value) (l : List Nat) (hc : w.cell? ⟨B, k, none⟩ = some (.string s)) (h : By w v l) (hl : l.length ≤ 1000000) (hs : s.size ≤ 1000000) : Calls Try.prog 88 #[.agg #[.pointer (some ⟨B, k, none⟩)], v] w fun e w' => ∃ v', e = .returned v' ∧ Hid (OwnB w w' v' (l ++ (varL (foldN (s.size : Int)) ++ sB s))) := by
  have hb : Below w.heap.size w (w.alloc (.cells #[.pointer (some ⟨B, k, none⟩)] 104)) := (Below.refl _ w).alloc (Nat.le_refl _) _
  have HB : Hid (Below w.heap.size w (w.alloc (.cells #[.pointer (some ⟨B, k, none⟩)] 104)) ∧ Blk (w.alloc (.cells #[.pointer (some ⟨B, k, none⟩)] 104)) w.heap.size 104 #[.pointer (some ⟨B, k, none⟩)] ∧ By (w.alloc (.cells #[.pointer (some ⟨B, k, none⟩)] 104)) v l ∧ (w.alloc (.cells #[.pointer (some ⟨B, k, none⟩)] 104)).cell? ⟨B, k, none⟩ = some (.string s)) := ⟨hb, Blk.new _ _ _, h.below hb, cell_alloc hc _⟩
  have hs' : (s.size : Int) ≤ 9223372036854775807 := by omega
  obtain ⟨i0, hi, hz0, hz1, hz2⟩ := info_parts info5
  have HS : Hid (s.size ≤ 1000000 ∧ l.length ≤ 1000000 ∧ (varL (foldN (s.size : Int))).length ≤ 10) := ⟨hs, hl, varL_length10 (foldN_lt (by omega) (by omega))⟩
  clear hb h hc
  go_enter Try.func88, Try.ntmps88
  go_upto_region 1 with fail
  generalize w.alloc (.cells #[.pointer (some ⟨B, k, none⟩)] 104) = X at *
  generalize hbx : w.heap.size = bx at *
  have HBX : Hid (w.heap.size = bx) := hbx
  clear hbx
  refine wp_region_held (S := fun w' => w'.cell? ⟨bx, 0, none⟩ = some (.pointer (some ⟨B, k, none⟩)) ∧ w'.cell? ⟨B, k, none⟩ = some (.string s)) (by kernel_rfl) ?_
  change wpAnyH _ _ _ _ _ _ _ _ (World.drew _)
  have hbd : Below X.heap.size X X.drew := ⟨rfl, rfl, rfl, Nat.le_refl _, fun _ _ => rfl⟩
  have hS : X.drew.cell? ⟨bx, 0, none⟩ = some (.pointer (some ⟨B, k, none⟩)) ∧ X.drew.cell? ⟨B, k, none⟩ = some (.string s) := ⟨HB.out.2.1.cell 0, HB.out.2.2.2⟩
  have hp := PutVar_by (HB.out.2.2.1.below hbd) HS.out.2.1 (s.size : Int) (by omega) (by omega)
  refine takeR (i := 0) (v := v) (some 5) rfl rfl (by kernel_rfl) (by kernel_rfl) (by kernel_rfl) (fun _ _ _ h => h) (Or.inl ⟨by kernel_rfl, fun w' hSw => by kernel_rfl⟩) hS ?_
  simp only [Act.put, List.setIfInBounds_toArray, List.set_cons_zero, List.set_cons_succ]
  refine takeR (i := 1) (v := .pointer (some ⟨bx, 0, none⟩)) (some 6) rfl rfl (by kernel_rfl) (by kernel_rfl) (by kernel_rfl) (fun _ _ _ h => h) (Or.inl ⟨by kernel_rfl, fun w' hSw => by kernel_rfl⟩) hS ?_
  simp only [Act.put, List.setIfInBounds_toArray, List.set_cons_zero, List.set_cons_succ]
  refine takeR (i := 2) (v := .pointer (some ⟨B, k, none⟩)) (some 7) rfl rfl (by kernel_rfl) (by kernel_rfl) (by kernel_rfl) (fun _ _ _ h => h) (Or.inl ⟨by kernel_rfl, fun w' hSw => by have q0 := hSw.1; clear hSw; go_simp⟩) hS ?_
  simp only [Act.put, List.setIfInBounds_toArray, List.set_cons_zero, List.set_cons_succ]
  refine takeR (i := 3) (v := .pointer (some ⟨B, k, none⟩)) (some 8) rfl rfl (by kernel_rfl) (by kernel_rfl) (by kernel_rfl) (fun _ _ _ h => h) (Or.inl ⟨by kernel_rfl, fun w' hSw => by kernel_rfl⟩) hS ?_
  simp only [Act.put, List.setIfInBounds_toArray, List.set_cons_zero, List.set_cons_succ]
  refine takeR (i := 4) (v := .string s) (some 9) rfl rfl (by kernel_rfl) (by kernel_rfl) (by kernel_rfl) (fun _ _ _ h => h) (Or.inl ⟨by kernel_rfl, fun w' hSw => by have q0 := hSw.2; clear hSw; go_simp⟩) hS ?_
  simp only [Act.put, List.setIfInBounds_toArray, List.set_cons_zero, List.set_cons_succ]
  refine takeR (i := 5) (v := .int .i64 (s.size : Int)) (some 10) rfl rfl (by kernel_rfl) (by kernel_rfl) (by kernel_rfl) (fun _ _ _ h => h) (Or.inl ⟨by kernel_rfl, fun w' hSw => by kernel_rfl⟩) hS ?_
  simp only [Act.put, List.setIfInBounds_toArray, List.set_cons_zero, List.set_cons_succ]
  refine takeR (i := 7) (v := .pointer (some ⟨bx, 0, none⟩)) (some 12) rfl rfl (by kernel_rfl) (by kernel_rfl) (by kernel_rfl) (fun _ _ _ h => h) (Or.inl ⟨by kernel_rfl, fun w' hSw => by kernel_rfl⟩) hS ?_
  simp only [Act.put, List.setIfInBounds_toArray, List.set_cons_zero, List.set_cons_succ]
  refine takeR (i := 8) (v := .pointer (some ⟨B, k, none⟩)) (some 13) rfl rfl (by kernel_rfl) (by kernel_rfl) (by kernel_rfl) (fun _ _ _ h => h) (Or.inl ⟨by kernel_rfl, fun w' hSw => by have q0 := hSw.1; clear hSw; go_simp⟩) hS ?_
  simp only [Act.put, List.setIfInBounds_toArray, List.set_cons_zero, List.set_cons_succ]
  refine takeR (i := 9) (v := .pointer (some ⟨B, k, none⟩)) (some 14) rfl rfl (by kernel_rfl) (by kernel_rfl) (by kernel_rfl) (fun _ _ _ h => h) (Or.inl ⟨by kernel_rfl, fun w' hSw => by kernel_rfl⟩) hS ?_
  simp only [Act.put, List.setIfInBounds_toArray, List.set_cons_zero, List.set_cons_succ]
  refine takeR (i := 10) (v := .string s) (some 15) rfl rfl (by kernel_rfl) (by kernel_rfl) (by kernel_rfl) (fun _ _ _ h => h) (Or.inl ⟨by kernel_rfl, fun w' hSw => by have q0 := hSw.2; clear hSw; go_simp⟩) hS ?_
  simp only [Act.put, List.setIfInBounds_toArray, List.set_cons_zero, List.set_cons_succ]
  refine wpAnyH_ready (rs := [6]) (by kernel_rfl) (by simp) ?_
  refine AllReadyH.cons rfl (fun K1 hK1 => ?_) AllReadyH.nil
  rw [if_pos (by kernel_rfl)]
  refine callR (d := some 11) rfl 30 #[v, .int .i64 (s.size : Int)] (by kernel_rfl) hp ?_
  rintro e Y1 ⟨v1, rfl, hx⟩
  refine ⟨_, rfl, ?_⟩
  have hS1 : Y1.cell? ⟨bx, 0, none⟩ = some (.pointer (some ⟨B, k, none⟩)) ∧ Y1.cell? ⟨B, k, none⟩ = some (.string s) := ⟨(hx.out.bel.cell (p := ⟨bx, _, none⟩) (World.block_lt_of_cell? _ _ hS.1)).trans hS.1, (hx.out.bel.cell (p := ⟨B, _, none⟩) (World.block_lt_of_cell? _ _ hS.2)).trans hS.2⟩
  have HO : Hid (OwnB X Y1 v1 (l ++ varL (foldN (s.size : Int)))) := hx.out.since hbd
  clear hx hp
  refine hK1.out _ _ hS1 (fun _ => ?_)
  clear hK1
  simp only [Act.put, List.setIfInBounds_toArray, List.set_cons_zero, List.set_cons_succ]
  have hmx : 3000000 ≤ maxLen := by decide
  obtain ⟨v2, Y2, hr, ho2, hg2, _⟩ := Lib.run_append_own_string (P := Try.prog) Y1 X.heap.size 28 9 28 5 i0 Try.underlying28 Try.underlying9 hi hz0 hz1 hz2 v1 _ _ HO.out.own s (by rw [List.length_append]; have := HS.out; omega) (by rw [List.length_append]; have := HS.out; omega) HO.out.bel.size
  have hb2 : Below X.heap.size X Y2 := below_grownBy HO.out.bel hg2 (Nat.le_refl _) (fun k e => HO.out.low k e)
  have hS2 : Y2.cell? ⟨bx, 0, none⟩ = some (.pointer (some ⟨B, k, none⟩)) ∧ Y2.cell? ⟨B, k, none⟩ = some (.string s) := ⟨(hb2.cell (p := ⟨bx, _, none⟩) (World.block_lt_of_cell? _ _ (HB.out.2.1.cell 0))).trans (HB.out.2.1.cell 0), (hb2.cell (p := ⟨B, _, none⟩) (World.block_lt_of_cell? _ _ HB.out.2.2.2)).trans HB.out.2.2.2⟩
  have HF : Hid (OwnB w Y2 v2 (l ++ (varL (foldN (s.size : Int)) ++ sB s))) := by
    have ho3 := ho2
    rw [strCells_sB, ← bvals_append, List.append_assoc] at ho3
    exact (OwnB.of ho3 hb2 (by rw [← List.append_assoc]; exact HO.out.bb.app (sB_bb s))).since (by rw [HBX.out]; exact HB.out.1)
  refine wpAnyH_ready (rs := [11]) (by kernel_rfl) (by simp) ?_
  refine AllReadyH.cons rfl (fun K1 hK1 => ?_) AllReadyH.nil
  rw [if_pos (by kernel_rfl)]
  refine valR (d := some 16) rfl v2 (exec_append (v1 := v1) (v2 := .string s) (.tmp 11) (.tmp 15) rfl (by kernel_rfl) (by kernel_rfl) hr) ?_
  refine hK1.out _ _ hS2 (fun _ => ?_)
  clear hK1 hr ho2 hg2 hb2 HO hS hS1
  simp only [Act.put, List.setIfInBounds_toArray, List.set_cons_zero, List.set_cons_succ]
  refine takeR (i := 12) (v := v2) (some 4) rfl rfl (by kernel_rfl) (by kernel_rfl) (by kernel_rfl) (fun _ _ _ h => h) (Or.inl ⟨by kernel_rfl, fun w' hSw => by kernel_rfl⟩) hS2 ?_
  simp only [Act.put, List.setIfInBounds_toArray, List.set_cons_zero, List.set_cons_succ]
  refine wpAnyH_done (by kernel_rfl) ?_ _
  clear hS2 HB HS
  go_wp2
  go_ret
  exact ⟨v2, rfl, HF⟩
/-- What a part read leaves: a cell, or nothing. -/
def Wrote (w w' : World) (a : Addr) (v : Value) : Prop := ∃ w1, Below w.heap.size w w1 ∧ w' = w1.setCell a v
set_option maxRecDepth 100000 in
theorem nl_rea (B k : Nat) (z : Int) (w : World) (v : Value) (l : List Nat) (hc : w.cell? ⟨B, k, none⟩ = some (.int .i64 z)) (hf : w.frozen? ⟨B, k, none⟩ = false) (h : By w v l) (hl : l.length ≤ 9223372036854775807) (at_ : Nat) (ha : at_ ≤ l.length) : Calls Try.prog 79 #[.agg #[.pointer (some ⟨B, k, none⟩)], v, .int .i64 (at_ : Int)] w fun e w' => e = .returned (.tuple #[.int .i64 ((((rn l at_ 1 1000000000000000000).map (·.2)).getD at_ : Nat) : Int), .bool (rn l at_ 1 1000000000000000000).isSome]) ∧ Hid (Wrote w w' ⟨B, k, none⟩ (.int .i64 (((rn l at_ 1 1000000000000000000).map (·.1)).getD 0))) := by
  have hb : Below w.heap.size w (w.alloc (.cells #[.pointer (some ⟨B, k, none⟩)] 98)) := (Below.refl _ w).alloc (Nat.le_refl _) _
  have HB : Hid (Below w.heap.size w (w.alloc (.cells #[.pointer (some ⟨B, k, none⟩)] 98))) := hb
  have hc2 : ∀ o, (w.alloc o).cell? ⟨B, k, none⟩ = some (.int .i64 z) := fun o => cell_alloc hc o
  have hf2 : ∀ o, (w.alloc o).frozen? ⟨B, k, none⟩ = false := fun o => frozen_alloc hc hf o
  have hr := readNumber_any (h.below hb) hl at_ 1 1000000000000000000 ha (by decide)
  clear h hb
  obtain ⟨X, hX⟩ : ∃ X, X = rn l at_ 1 1000000000000000000 := ⟨_, rfl⟩
  rw [← hX] at hr ⊢
  clear hX
  cases X with
  | none =>
    simp only [rnV, Option.map_none, Option.getD_none, Option.isSome_none] at hr ⊢
    go_enter Try.func79, Try.ntmps79
    go_wp2_with (go_at_call 45; fail)
    refine hr.mono ?_
    rintro e w1 ⟨rfl, ew⟩
    replace ew := ew.symm
    subst ew
    go_wp2
    go_ret2
    exact ⟨rfl, _, HB.out, rfl⟩
  | some p =>
    obtain ⟨x, q⟩ := p
    simp only [rnV, Option.map_some, Option.getD_some, Option.isSome_some] at hr ⊢
    go_enter Try.func79, Try.ntmps79
    go_wp2_with (go_at_call 45; fail)
    refine hr.mono ?_
    rintro e w1 ⟨rfl, ew⟩
    replace ew := ew.symm
    subst ew
    go_wp2
    go_ret2
    exact ⟨rfl, _, HB.out, rfl⟩
set_option maxRecDepth 100000 in
theorem ni_rea (B k : Nat) (z : Int) (w : World) (v : Value) (l : List Nat) (hc : w.cell? ⟨B, k, none⟩ = some (.int .i64 z)) (hf : w.frozen? ⟨B, k, none⟩ = false) (h : By w v l) (hl : l.length ≤ 9223372036854775807) (at_ : Nat) (ha : at_ ≤ l.length) : Calls Try.prog 83 #[.agg #[.pointer (some ⟨B, k, none⟩)], v, .int .i64 (at_ : Int)] w fun e w' => e = .returned (.tuple #[.int .i64 ((((rn l at_ 1 1000000000000000000).map (·.2)).getD at_ : Nat) : Int), .bool (rn l at_ 1 1000000000000000000).isSome]) ∧ Hid (Wrote w w' ⟨B, k, none⟩ (.int .i64 (((rn l at_ 1 1000000000000000000).map (·.1)).getD 0))) := by
  have hb : Below w.heap.size w (w.alloc (.cells #[.pointer (some ⟨B, k, none⟩)] 101)) := (Below.refl _ w).alloc (Nat.le_refl _) _
  have HB : Hid (Below w.heap.size w (w.alloc (.cells #[.pointer (some ⟨B, k, none⟩)] 101))) := hb
  have hc2 : ∀ o, (w.alloc o).cell? ⟨B, k, none⟩ = some (.int .i64 z) := fun o => cell_alloc hc o
  have hf2 : ∀ o, (w.alloc o).frozen? ⟨B, k, none⟩ = false := fun o => frozen_alloc hc hf o
  have hr := readNumber_any (h.below hb) hl at_ 1 1000000000000000000 ha (by decide)
  clear h hb
  obtain ⟨X, hX⟩ : ∃ X, X = rn l at_ 1 1000000000000000000 := ⟨_, rfl⟩
  rw [← hX] at hr ⊢
  clear hX
  cases X with
  | none =>
    simp only [rnV, Option.map_none, Option.getD_none, Option.isSome_none] at hr ⊢
    go_enter Try.func83, Try.ntmps83
    go_wp2_with (go_at_call 45; fail)
    refine hr.mono ?_
    rintro e w1 ⟨rfl, ew⟩
    replace ew := ew.symm
    subst ew
    go_wp2
    go_ret2
    exact ⟨rfl, _, HB.out, rfl⟩
  | some p =>
    obtain ⟨x, q⟩ := p
    simp only [rnV, Option.map_some, Option.getD_some, Option.isSome_some] at hr ⊢
    go_enter Try.func83, Try.ntmps83
    go_wp2_with (go_at_call 45; fail)
    refine hr.mono ?_
    rintro e w1 ⟨rfl, ew⟩
    replace ew := ew.symm
    subst ew
    go_wp2
    go_ret2
    exact ⟨rfl, _, HB.out, rfl⟩
theorem dN_at {l : List Nat} {j : Nat} (h : j < l.length) : dN l j = l[j] := by
  unfold dN
  rw [List.getD_eq_getElem?_getD, List.getElem?_eq_getElem h]; rfl
/-- A text that is read: where it ends, and what it is. -/
def rt (l : List Nat) (at_ : Nat) : Except Nat (Nat × List Nat) := match rn l at_ 1 60 with
  | none => .error at_
  | some (n, b) => if b + n.toNat ≤ l.length then .ok (b + n.toNat, (l.drop b).take n.toNat) else .error l.length
theorem rn_bd {l : List Nat} {at_ : Nat} {lo hi n : Int} {b : Nat} (hb : BB l) (h : rn l at_ lo hi = some (n, b)) : lo ≤ n ∧ n ≤ hi ∧ at_ < b ∧ b ≤ l.length := by
  unfold rn at h
  cases hg : gvr (dN (l.drop at_)) (l.length - at_) with
  | none => rw [hg] at h; cases h
  | some p =>
    obtain ⟨u, k⟩ := p
    rw [hg] at h
    simp only at h
    split at h
    · rename_i hh
      have hv := var_of_gvr _ _ u k (fun j hj => by
        have hj' : j < (l.drop at_).length := by rw [List.length_drop]; exact hj
        rw [dN_at hj']
        exact (hb.drop at_) _ (List.getElem_mem hj')) hg
      injection h with h
      injection h with h1 h2
      subst h1 h2
      exact ⟨hh.1, hh.2, by omega, by omega⟩
    · cases h
theorem rn_bd10 {l : List Nat} {at_ : Nat} {lo hi n : Int} {b : Nat} (hb : BB l) (h : rn l at_ lo hi = some (n, b)) : b ≤ at_ + 10 := by
  unfold rn at h
  cases hg : gvr (dN (l.drop at_)) (l.length - at_) with
  | none => rw [hg] at h; cases h
  | some p =>
    obtain ⟨u, k⟩ := p
    rw [hg] at h
    simp only at h
    split at h
    · have hv := var_of_gvr _ _ u k (fun j hj => by
        have hj' : j < (l.drop at_).length := by rw [List.length_drop]; exact hj
        rw [dN_at hj']
        exact (hb.drop at_) _ (List.getElem_mem hj')) hg
      injection h with h
      injection h with h1 h2
      omega
    · cases h
theorem sliceA_run {op : Oper} {a : Act} {ao : Option Addr} {n cap lo hi : Nat} (x y z u : Operand) (ho : op.op = .slice 28 x (some y) (some z) (some u)) (hx : a.eval x = .slice ao n cap) (hy : a.eval y = .int .i64 (lo : Int)) (hz : a.eval z = .int .i64 (hi : Int)) (hu : a.eval u = .int .i64 (hi : Int)) (h : lo ≤ hi) (h2 : hi ≤ cap) (w : World) : (execOp a.eval op).run Try.prog w = .ok (.value (cutV (.slice ao n cap) lo hi hi)) w := by
  have HS : (Instr.sliceAt 28 (.slice ao n cap) (some (.int .i64 (lo : Int))) (some (.int .i64 (hi : Int))) (some (.int .i64 (hi : Int)))).run Try.prog w = .ok (cutV (.slice ao n cap) lo hi hi) w := by
    rw [run_sliceAt_slice _ _ _ _ _ _ undB, run_slice_lhm _ _ _ _ _ undB .i64 .i64 .i64 (lo : Int) (hi : Int) (hi : Int) (by omega) (by omega) (by omega) (by omega), size5']
    show Result.ok _ w = _
    unfold sliced cutV
    simp
  unfold execOp
  simp only [ho, hx, hy, hz, hu, Option.map_some, Option.map_none]
  simp only [HS, Sem.run_bind, Result.andThen_ok]
  rfl
theorem conv_run {op : Oper} {a : Act} {w : World} {v : Value} {l : List Nat} (x : Operand) (ho : op.op = .convert 28 9 x) (hx : a.eval x = v) (h : By w v l) : (execOp a.eval op).run Try.prog w = .ok (.value (.string (ofN l))) w := by
  have hc := conv_by h
  unfold execOp
  simp only [ho, hx]
  simp only [hc, Sem.run_bind, Result.andThen_ok]
  rfl
set_option maxRecDepth 100000 in
set_option maxHeartbeats 1000000 in
theorem tx_rea (B k : Nat) (s : ByteArray) (w : World) (v : Value) (l : List Nat) (hc : w.cell? ⟨B, k, none⟩ = some (.string s)) (hf : w.frozen? ⟨B, k, none⟩ = false) (h : By w v l) (hl : l.length ≤ 9223372036854775807) (at_ : Nat) (hat : at_ ≤ 1000000) (ha : at_ ≤ l.length) : Calls Try.prog 87 #[.agg #[.pointer (some ⟨B, k, none⟩)], v, .int .i64 (at_ : Int)] w fun e w' => (match rt l at_ with
    | .error p => e = .returned (.tuple #[.int .i64 (p : Int), .bool false]) ∧ Hid (Below w.heap.size w w')
    | .ok q => e = .returned (.tuple #[.int .i64 (q.1 : Int), .bool true]) ∧ Hid (Wrote w w' ⟨B, k, none⟩ (.string (ofN q.2)))) := by
  have hb : Below w.heap.size w (w.alloc (.cells #[.pointer (some ⟨B, k, none⟩)] 104)) := (Below.refl _ w).alloc (Nat.le_refl _) _
  have HB : Hid (Below w.heap.size w (w.alloc (.cells #[.pointer (some ⟨B, k, none⟩)] 104)) ∧ Blk (w.alloc (.cells #[.pointer (some ⟨B, k, none⟩)] 104)) w.heap.size 104 #[.pointer (some ⟨B, k, none⟩)] ∧ By (w.alloc (.cells #[.pointer (some ⟨B, k, none⟩)] 104)) v l ∧ (w.alloc (.cells #[.pointer (some ⟨B, k, none⟩)] 104)).cell? ⟨B, k, none⟩ = some (.string s) ∧ (w.alloc (.cells #[.pointer (some ⟨B, k, none⟩)] 104)).frozen? ⟨B, k, none⟩ = false) := ⟨hb, Blk.new _ _ _, h.below hb, cell_alloc hc _, frozen_alloc hc hf _⟩
  have hr := readNumber_any (h.below hb) (by omega) at_ 1 60 ha (by decide)
  have hbb := h.bb
  clear hb
  obtain ⟨X, hX⟩ : ∃ X, X = rn l at_ 1 60 := ⟨_, rfl⟩
  have hX' := hX.symm
  unfold rt
  rw [← hX] at hr ⊢
  clear hX
  obtain ⟨va, vc, rfl, hvc⟩ := h.form
  clear h hc hf
  cases X with
  | none =>
    clear hX'
    simp only [rnV] at hr ⊢
    go_enter Try.func87, Try.ntmps87
    go_wp2_with (go_at_call 45; fail)
    refine hr.mono ?_
    rintro e w1 ⟨rfl, ew⟩
    replace ew := ew.symm
    subst ew
    go_wp2
    go_ret2
    exact ⟨rfl, HB.out.1⟩
  | some p =>
    obtain ⟨n, b⟩ := p
    obtain ⟨h1, h2, h3, h4⟩ := rn_bd hbb hX'
    have h5 := rn_bd10 hbb hX'
    obtain ⟨m, rfl⟩ : ∃ m : Nat, n = m := ⟨n.toNat, by omega⟩
    clear hX'
    simp only [rnV, Int.toNat_natCast] at hr ⊢
    have hov : (b : Int) + (m : Int) ≤ 9223372036854775807 := by omega
    by_cases hle : b + m ≤ l.length
    · rw [if_pos hle]
      have hle' : ¬ (l.length : Int) < (b : Int) + (m : Int) := by omega
      simp only
      go_enter Try.func87, Try.ntmps87
      go_wp2_with (go_at_call 45; fail)
      refine hr.mono ?_
      rintro e w1 ⟨rfl, ew⟩
      replace ew := ew.symm
      subst ew
      clear hr
      go_upto_region 7 with fail
      rename_i K hK
      generalize w.alloc (.cells #[.pointer (some ⟨B, k, none⟩)] 104) = X at *
      generalize hbx : w.heap.size = bx at *
      have HBX : Hid (w.heap.size = bx) := hbx
      clear hbx
      refine wp_region_late (fun w' => w'.cell? ⟨bx, 0, none⟩ = some (.pointer (some ⟨B, k, none⟩)) ∧ By w' (.slice va l.length vc) l) 9 (by kernel_rfl) ?_
      intro hCl
      have hbd : Below X.heap.size X X.drew := ⟨rfl, rfl, rfl, Nat.le_refl _, fun _ _ => rfl⟩
      have hS : X.drew.cell? ⟨bx, 0, none⟩ = some (.pointer (some ⟨B, k, none⟩)) ∧ By X.drew (.slice va l.length vc) l := ⟨HB.out.2.1.cell 0, HB.out.2.2.1.below hbd⟩
      have HF : Hid (Wrote w (X.drew.setCell ⟨B, k, none⟩ (.string (ofN ((l.drop b).take m)))) ⟨B, k, none⟩ (.string (ofN ((l.drop b).take m)))) := ⟨X.drew, by rw [HBX.out]; exact ⟨HB.out.1.os, HB.out.1.tape, HB.out.1.output, HB.out.1.size, HB.out.1.block⟩, rfl⟩
      have q0 : X.drew.cell? ⟨B, k, none⟩ = some (.string s) := HB.out.2.2.2.1
      have q1 : X.drew.frozen? ⟨B, k, none⟩ = false := HB.out.2.2.2.2
      clear HB
      generalize X.drew = Z at *
      change wpAnyL _ _ _ _ _ _ 10 _ _ _
      refine takeL (i := 0) (v := .pointer (some ⟨bx, 0, none⟩)) 9 (some 31) rfl rfl (by kernel_rfl) (by kernel_rfl) (by kernel_rfl) (by kernel_rfl) hCl (fun _ _ _ h => h) (Or.inl ⟨by kernel_rfl, fun w' hSw => by kernel_rfl⟩) hS ?_
      clear hCl
      intro hCl
      simp only [Act.put, List.setIfInBounds_toArray, List.set_cons_zero, List.set_cons_succ]
      refine takeL (i := 1) (v := .pointer (some ⟨B, k, none⟩)) 9 (some 32) rfl rfl (by kernel_rfl) (by kernel_rfl) (by kernel_rfl) (by kernel_rfl) hCl (fun _ _ _ h => h) (Or.inl ⟨by kernel_rfl, fun w' hSw => by have q0 := hSw.1; clear hSw; go_simp⟩) hS ?_
      clear hCl
      intro hCl
      simp only [Act.put, List.setIfInBounds_toArray, List.set_cons_zero, List.set_cons_succ]
      refine takeL (i := 2) (v := .slice va l.length vc) 9 (some 33) rfl rfl (by kernel_rfl) (by kernel_rfl) (by kernel_rfl) (by kernel_rfl) hCl (fun _ _ _ h => h) (Or.inl ⟨by kernel_rfl, fun w' hSw => by kernel_rfl⟩) hS ?_
      clear hCl
      intro hCl
      simp only [Act.put, List.setIfInBounds_toArray, List.set_cons_zero, List.set_cons_succ]
      refine takeL (i := 3) (v := .int .i64 (b : Int)) 9 (some 34) rfl rfl (by kernel_rfl) (by kernel_rfl) (by kernel_rfl) (by kernel_rfl) hCl (fun _ _ _ h => h) (Or.inl ⟨by kernel_rfl, fun w' hSw => by kernel_rfl⟩) hS ?_
      clear hCl
      intro hCl
      simp only [Act.put, List.setIfInBounds_toArray, List.set_cons_zero, List.set_cons_succ]
      refine takeL (i := 4) (v := .int .i64 ((b + m : Nat) : Int)) 9 (some 35) rfl rfl (by kernel_rfl) (by kernel_rfl) (by kernel_rfl) (by kernel_rfl) hCl (fun _ _ _ h => h) (Or.inl ⟨by kernel_rfl, fun w' hSw => by kernel_rfl⟩) hS ?_
      clear hCl
      intro hCl
      simp only [Act.put, List.setIfInBounds_toArray, List.set_cons_zero, List.set_cons_succ]
      refine takeL (i := 5) (v := .int .i64 ((b + m : Nat) : Int)) 9 (some 36) rfl rfl (by kernel_rfl) (by kernel_rfl) (by kernel_rfl) (by kernel_rfl) hCl (fun _ _ _ h => h) (Or.inl ⟨by kernel_rfl, fun w' hSw => by kernel_rfl⟩) hS ?_
      clear hCl
      intro hCl
      simp only [Act.put, List.setIfInBounds_toArray, List.set_cons_zero, List.set_cons_succ]
      refine takeL (i := 6) (v := cutV (.slice va l.length vc) b (b + m) (b + m)) 9 (some 37) rfl rfl (by kernel_rfl) (by kernel_rfl) (by kernel_rfl) (by kernel_rfl) hCl (fun _ _ _ h => h) (Or.inl ⟨by kernel_rfl, fun w' hSw => by exact sliceA_run (.tmp 33) (.tmp 34) (.tmp 35) (.tmp 36) rfl (by kernel_rfl) (by kernel_rfl) (by kernel_rfl) (by kernel_rfl) (by omega) (by omega) _⟩) hS ?_
      clear hCl
      intro hCl
      simp only [Act.put, List.setIfInBounds_toArray, List.set_cons_zero, List.set_cons_succ]
      refine takeL (i := 7) (v := .string (ofN ((l.drop b).take m))) 9 (some 38) rfl rfl (by kernel_rfl) (by kernel_rfl) (by kernel_rfl) (by kernel_rfl) hCl (fun _ _ _ h => h) (Or.inl ⟨by kernel_rfl, fun w' hSw => by exact conv_run (.tmp 37) rfl (by kernel_rfl) (by have hq := hSw.2.cutV (lo := b) (hi := b + m) (by omega) hle; rw [Nat.add_sub_cancel_left] at hq; exact hq)⟩) hS ?_
      clear hCl
      intro hCl
      simp only [Act.put, List.setIfInBounds_toArray, List.set_cons_zero, List.set_cons_succ]
      refine takeL (i := 8) (v := .pointer (some ⟨B, k, none⟩)) 9 (some 39) rfl rfl (by kernel_rfl) (by kernel_rfl) (by kernel_rfl) (by kernel_rfl) hCl (fun _ _ _ h => h) (Or.inl ⟨by kernel_rfl, fun w' hSw => by kernel_rfl⟩) hS ?_
      clear hCl
      intro hCl
      simp only [Act.put, List.setIfInBounds_toArray, List.set_cons_zero, List.set_cons_succ]
      refine oneL (i := 9) rfl (by kernel_rfl) hCl (by kernel_rfl) (fun K1 hK1 => ?_)
      refine skipR (d := none) rfl (w' := Z.setCell ⟨B, k, none⟩ (.string (ofN ((l.drop b).take m)))) (by clear hS; go_simp) ?_
      refine hK1.out _ _ (fun h => absurd rfl h) ?_
      clear hK1 hCl hS
      intro hCl
      simp only [Act.put, List.setIfInBounds_toArray, List.set_cons_zero, List.set_cons_succ]
      refine doneL (by kernel_rfl) ?_
      clear hCl
      refine hK _ _ ?_
      clear hK q0 q1
      generalize Z.setCell ⟨B, k, none⟩ (.string (ofN ((l.drop b).take m))) = Y at *
      go_wp2
      go_ret2
      exact ⟨by go_num, HF⟩
    · rw [if_neg hle]
      have hle' : (l.length : Int) < (b : Int) + (m : Int) := by omega
      simp only
      go_enter Try.func87, Try.ntmps87
      go_wp2_with (go_at_call 45; fail)
      refine hr.mono ?_
      rintro e w1 ⟨rfl, ew⟩
      replace ew := ew.symm
      subst ew
      go_wp2
      go_ret2
      exact ⟨rfl, HB.out.1⟩
end Go.Proofs.Ytjnnecoikcmaeaa
