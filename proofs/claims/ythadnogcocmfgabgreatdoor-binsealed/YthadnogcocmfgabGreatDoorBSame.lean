/-
  bin: same, of any bytes.
-/
import Derived.Test.YthadnogcocmfgabGreatDoorBRef7
import Derived.Test.YthadnogcocmfgabGreatDoorRfC
namespace Go.Proofs.YthadnogcocmfgabGreatDoor
set_option linter.unusedVariables false
set_option linter.unusedSimpArgs false
open Go.RowKit Go.Great Go.Lib

theorem rdL_err {l : List UInt8} {k : Nat} {e : Int} : ∀ (js : List Nat) (p : Nat) (M : Msg), rdL l js p M = .error (k, e) → e = 42 ∨ e = 62
  | [], p, M, h => by
    unfold rdL at h
    split at h
    · cases h; exact .inr rfl
    · cases h
  | j :: js, p, M, h => by
    unfold rdL at h
    cases h1 : rdF j ((l.drop p).take (wd j)) M with
    | error x =>
      obtain ⟨i, e'⟩ := x
      rw [h1] at h
      cases h
      exact (rdF_err h1).1
    | ok M1 =>
      rw [h1] at h
      exact rdL_err js _ M1 h
theorem dec_err {l : List UInt8} {k : Nat} {e : Int} (h : decL l = .error (k, e)) : e ≠ 0 := by
  unfold decL at h
  cases h1 : startE l with
  | some a => rw [h1] at h; cases h; decide
  | none =>
    rw [h1] at h
    dsimp only at h
    cases h2 : headE l (sizeN (dL l 4)) with
    | some x =>
      rw [h2] at h
      cases h
      unfold headE at h2
      split at h2
      · cases h2; decide
      · split at h2
        · cases h2; decide
        · split at h2
          · cases h2; decide
          · split at h2
            · cases h2; decide
            · split at h2
              · cases h2; decide
              · cases h2
    | none =>
      rw [h2] at h
      dsimp only at h
      cases h3 : rdL l (js (dL l 4)) 10 (kindM (dL l 4)) with
      | error x =>
        rw [h3] at h
        cases h
        rcases rdL_err _ _ _ h3 with rfl | rfl <;> decide
      | ok M' =>
        rw [h3] at h
        dsimp only at h
        by_cases h4 : valE M' = 0
        · rw [if_pos h4] at h; cases h
        · rw [if_neg h4] at h
          injection h with h
          injection h with _ h
          rw [← h]
          exact h4
theorem decE_err {l : List UInt8} {k : Nat} {e : Int} (h : decE l = some (k, e)) : e ≠ 0 := by
  unfold decE at h
  cases hd : decL l with
  | ok M => rw [hd] at h; cases h
  | error x =>
    rw [hd] at h
    cases h
    exact dec_err hd
theorem neqM_run {op : Oper} {a : Act} {M : Msg} (x y : Operand) (ho : op.op = .binOp .neq 29 x y 29) (hx : a.eval x = .agg M.cs) (hy : a.eval y = .agg M.cs) (w : World) : (execOp a.eval op).run Tryz.prog w = .ok (.value (.bool false)) w := by
  obtain ⟨r, h1, h2⟩ := msg_eq_any M M w
  have hr : r = true := h2.2 rfl
  subst hr
  have hgd : (eqGuard .neq 29 x y (.agg M.cs) (.agg M.cs)).run Tryz.prog w = .ok () w := run_eqGuard_agg (P := Tryz.prog) w .neq 29 x y _ _ (by kernel_rfl)
  have he : (binOp .neq 29 (.agg M.cs) (.agg M.cs)).run Tryz.prog w = .ok (.bool false) w := by rw [run_neq_struct, h1]; rfl
  unfold execOp
  simp only [ho, hx, hy, Sem.run_bind, hgd, Result.andThen_ok, he]
  rfl
theorem FaultAt.lt {w : World} {b : Nat} {k e : Int} (h : FaultAt w b k e) : b < w.heap.size := (Array.getElem?_eq_some_iff.1 h).1
theorem FaultAt.low {w w' : World} {b : Nat} {k e : Int} (h : FaultAt w b k e) (hb : Below w.heap.size w w') : FaultAt w' b k e := (hb.block b h.lt).trans h
theorem FaultAt.at0 {w : World} {b : Nat} {k e : Int} (h : FaultAt w b k e) : w.cell? ⟨b, 0, none⟩ = some (.int .i64 k) := by rw [cell_of_row _ _ _ _ _ _ h]; rfl
theorem FaultAt.at1 {w : World} {b : Nat} {k e : Int} (h : FaultAt w b k e) : w.cell? ⟨b, 1, none⟩ = some (.int .i64 e) := by rw [cell_of_row _ _ _ _ _ _ h]; rfl
theorem FaultAt.fro {w : World} {b : Nat} {k e : Int} (h : FaultAt w b k e) (j : Nat) : w.frozen? ⟨b, j, none⟩ = false := frozen_of_row w b j _ _ h
theorem FaultAt.set {w : World} {b j : Nat} {k e : Int} (h : FaultAt w b k e) (v : Value) {B : Nat} (hB : B ≤ b) : Below B w (w.setCell ⟨b, j, none⟩ v) := by
  rw [setCell_eq_setRow w b j _ _ (0, 0) _ h]
  exact below_setRow (Below.refl _ _) hB _
theorem fault_set0 {w : World} {b : Nat} {k e : Int} (h : FaultAt w b k e) (v : Int) : FaultAt (w.setCell ⟨b, 0, none⟩ (.int .i64 v)) b v e := by
  unfold FaultAt
  rw [setCell_eq_setRow w b 0 _ _ (0, 0) _ h]
  exact setRow_heap w b _ _ _ (0, 0) h
theorem ErrV.low {x : Option (Nat × Int)} {v : Value} {w w' w'' : World} (h : ErrV x v w w') (hb : Below w'.heap.size w' w'') : ErrV x v w w'' := by
  cases x with
  | none => exact h
  | some y =>
    obtain ⟨k, e⟩ := y
    obtain ⟨b, h1, h2, h3⟩ := h
    exact ⟨b, h1, h2, h3.low hb⟩
theorem rowAt {w : World} {g n cap B : Nat} {l : List UInt8} (h : w.ownsRow B 5 1 (.slice (some ⟨g, 0, none⟩) n cap) n (byteCells l)) : At w g 0 l := fun j c hj => by
  have := h.cells (g := g) rfl j (.int .u8 (c.toNat : Int)) (by simp [byteCells, hj])
  rwa [addr_add] at this
theorem rev_take (l : List UInt8) {k : Nat} (hk : k < l.length) : l.reverse.take (k + 1) = l.reverse.take k ++ [l.getD (l.length - 1 - k) 0] := by
  rw [List.take_add_one, List.getElem?_reverse (by omega), List.getElem?_eq_getElem (by omega)]
  simp [List.getD, List.getElem?_eq_getElem (show l.length - 1 - k < l.length by omega)]
theorem rev_dL (l : List UInt8) {k : Nat} (hk : k < l.length) : dL l.reverse k = dL l (l.length - 1 - k) := by
  unfold dL
  rw [List.getD_eq_getElem?_getD, List.getElem?_reverse (by omega), List.getD_eq_getElem?_getD]
set_option maxRecDepth 100000 in
set_option maxHeartbeats 4000000 in
theorem same_any (a : Option Addr) (g off n cap : Nat) (l : List UInt8) (w : World) (hn : n = l.length) (hcap : n ≤ cap) (hmax : n ≤ 140737488355000) (ha : n = 0 ∨ a = some ⟨g, off, none⟩) (hl : At w g off l) (hM : Mon w) :
    Calls Tryz.prog 6 #[.slice a n cap] w fun e w' => e = .returned (.bool true) ∧ Below w.heap.size w w' := by
  obtain ⟨i0, hi, hz0, hz1, hz2⟩ := info_parts info5
  have Hx : Hid (n = l.length ∧ n ≤ cap ∧ n ≤ 140737488355000 ∧ (n = 0 ∨ a = some ⟨g, off, none⟩)) := ⟨hn, hcap, hmax, ha⟩
  have HB : Hid (∀ w', Below w.heap.size w w' → At w' g off l ∧ Mon w' ∧ Src w' a n (dL l)) := fun w' hb => ⟨hl.below hb (Nat.le_refl _), hM.below hb hM.lt, by
    rcases ha with h | h
    · exact .inl h
    · rw [h]; exact (hl.below hb (Nat.le_refl _)).src n hn⟩
  clear hn hcap ha hl hM
  go_enter Tryz.func6, Tryz.ntmps6
  go_wp2_with (go_at_call 13; fail)
  refine (lent_any a n cap (dL l) w hmax (HB.out w (Below.refl _ _)).2.2).mono ?_
  rintro e w1 ⟨rfl, ho1, hb1⟩
  have HO1 : Hid (OwnA w1 w.heap.size (n + 8) (fun j => if j < n then dL l j else 201) ∧ Below w.heap.size w w1 ∧ At w1 w.heap.size 0 l) := ⟨ho1, hb1, fun j c hj => by
    have hjl : j < n := by rw [Hx.out.1]; exact (List.getElem?_eq_some_iff.1 hj).1
    rw [Nat.zero_add, ho1.cell j (by omega), if_pos hjl, d0 hj]⟩
  clear ho1 hb1
  have HD : Hid (Unit → _) := fun _ => Decode_any (some ⟨w.heap.size, 0, none⟩) w.heap.size 0 n (n + 8) l w1 Hx.out.1 (by omega) hmax (.inr rfl) HO1.out.2.2 (HB.out w1 HO1.out.2.1).2.1
  go_upto_region 2 with fail
  refine wp_region_lit ?_
  refine wpList_runTo rfl (some 24) rfl (.slice (some ⟨w.heap.size, 0, none⟩) n (n + 8)) w1 (by kernel_rfl) ?_
  refine wpList_callW rfl (some 25) rfl 10 #[.slice (some ⟨w.heap.size, 0, none⟩) n (n + 8)] (by kernel_rfl) (HD.out ()) ?_
  intro e w2 h2
  obtain ⟨DE, hDE, v1, rfl, hE2, hb2⟩ := gen4 (p := fun X => ∃ v, e = .returned (.tuple #[.agg (decM l).cs, v]) ∧ ErrV X v w1 w2 ∧ Below w1.heap.size w1 w2) (decE l) h2
  clear h2 HD
  refine ⟨_, rfl, ?_⟩
  generalize hDM : decM l = DM at *
  generalize hMC : DM.cs = MC at *
  refine wpList_runTo rfl (some 23) rfl (.tuple #[.agg MC, v1]) w2 (by kernel_rfl) ?_
  refine wpList_runTo rfl (some 26) rfl (.agg MC) w2 (by kernel_rfl) ?_
  refine wpList_runTo rfl (some 27) rfl v1 w2 (by kernel_rfl) ?_
  refine wpList_runTo rfl (some 4) rfl (.pointer (some ⟨w2.heap.size, 0, none⟩)) (w2.alloc (.cells zeroM.cs 29)) (by kernel_rfl) ?_
  refine wpList_store_row rfl 29 (.tmp 4) (.tmp 26) rfl w2.heap.size MC (by kernel_rfl) (by kernel_rfl) 29 _ (heap_alloc_new w2 _) (by rw [← hMC, Msg.cs_size]; kernel_rfl) (by rw [← hMC, Msg.cs_size, Msg.cs_size]) (by rw [← hMC]; exact Msg.cs_one _) ?_
  rw [World.setRow_alloc_new]
  refine wpList_runTo rfl (some 5) rfl v1 (w2.alloc (.cells MC 29)) (by kernel_rfl) ?_
  refine wpList_nil ?_
  simp only [Act.put, List.setIfInBounds_toArray, List.set_cons_zero, List.set_cons_succ]
  have HO3 : Hid (OwnA (w2.alloc (.cells MC 29)) w.heap.size (n + 8) (fun j => if j < n then dL l j else 201) ∧ Below w.heap.size w (w2.alloc (.cells MC 29)) ∧ OwnM (w2.alloc (.cells MC 29)) w2.heap.size DM ∧ w1.heap.size ≤ w2.heap.size ∧ w.heap.size < w1.heap.size ∧ (∀ b k e, FaultAt w2 b k e → FaultAt (w2.alloc (.cells MC 29)) b k e ∧ b < w2.heap.size)) := by
    have h23 : Below w2.heap.size w2 (w2.alloc (.cells MC 29)) := (Below.refl _ w2).alloc (Nat.le_refl _) _
    have h13 : Below w1.heap.size w1 (w2.alloc (.cells MC 29)) := hb2.alloc hb2.size _
    exact ⟨HO1.out.1.below h13 HO1.out.1.lt, HO1.out.2.1.trans (h13.mono HO1.out.2.1.size), by unfold OwnM; rw [hMC]; exact heap_alloc_new w2 _, hb2.size, HO1.out.1.lt, fun b k e hf => ⟨hf.low h23, hf.lt⟩⟩
  have HE1 : Hid (ErrV DE v1 w1 (w2.alloc (.cells MC 29))) := by
    cases DE with
    | none => exact hE2
    | some x =>
      obtain ⟨k, e⟩ := x
      obtain ⟨b, h1, h2, h3⟩ := hE2
      exact ⟨b, h1, h2, (HO3.out.2.2.2.2.2 b _ _ h3).1⟩
  have HE1b : Hid (∀ b, v1 = .iface 44 (.pointer (some ⟨b, 0, none⟩)) → b < w2.heap.size) := fun b hb => by
    cases DE with
    | none => have : v1 = .nilIface := hE2; rw [this] at hb; cases hb
    | some x =>
      obtain ⟨k, e⟩ := x
      obtain ⟨b', h1, h2, h3⟩ := hE2
      rw [h1] at hb
      cases hb
      exact h3.lt
  clear hE2 hb2 HO1
  generalize hm1 : w2.heap.size = m1 at *
  generalize w2.alloc (.cells MC 29) = w3 at *
  clear hm1
  go_wp2_with (go_at_call 14; fail)
  refine (back_any w.heap.size n a cap (dL l) w3 hmax (HB.out w3 HO3.out.2.1).2.2 HO3.out.1).mono ?_
  rintro e w4 ⟨rfl, hb4⟩
  have HO4 : Hid (OwnA w4 w.heap.size (n + 8) (fun j => if j < n then dL l j else 201) ∧ Below w.heap.size w w4 ∧ OwnM w4 m1 DM ∧ m1 < w4.heap.size ∧ w.heap.size < m1) := ⟨HO3.out.1.below hb4 HO3.out.1.lt, HO3.out.2.1.trans (hb4.mono HO3.out.2.1.size), HO3.out.2.2.1.low hb4, Nat.lt_of_lt_of_le HO3.out.2.2.1.lt hb4.size, by have := HO3.out.2.2.2.1; have := HO3.out.2.2.2.2.1; omega⟩
  have HE4 : Hid (ErrV DE v1 w1 w4) := by
    cases DE with
    | none => exact HE1.out
    | some x =>
      obtain ⟨k, e⟩ := x
      obtain ⟨b, h1, h2, h3⟩ := HE1.out
      exact ⟨b, h1, h2, h3.low hb4⟩
  have Hw1 : Hid (w.heap.size < w1.heap.size) := HO3.out.2.2.2.2.1
  clear hb4 HE1 HO3
  go_wp2
  go_loopw [7, 8] (fun x7 x8 wr => ∃ (k : Nat) (ao : Option Addr) (co : Nat), k ≤ n ∧ x8 = .int .i64 (k : Int) ∧ x7 = .slice ao k co ∧ Hid (Wrt w.heap.size w4 wr ∧ OwnA wr w.heap.size (n + 8) (fun j => if j < k then dL l.reverse j else if j < n then dL l j else 201) ∧ wr.ownsRow w4.heap.size 5 1 (.slice ao k co) k (byteCells (l.reverse.take k)))) (fun _ x8 _ => n - (RowKit.intOf x8).toNat)
  case atStart => exact ⟨0, none, 0, Nat.zero_le _, rfl, rfl, Wrt.refl _, HO4.out.1.ext fun j hj => by simp, ⟨by simp [byteCells], .inl ⟨rfl, rfl⟩⟩⟩
  case round =>
    obtain ⟨k, ao, co, hk, rfl, rfl, HR⟩ := hrel
    by_cases hlt : k < n
    · have hlt' : (k : Int) < (n : Int) := by omega
      obtain rfl : a = some ⟨g, off, none⟩ := by
        rcases Hx.out.2.2.2 with h | h
        · omega
        · exact h
      obtain ⟨p, hp⟩ : ∃ p : Nat, p = n - 1 - k := ⟨_, rfl⟩
      have hpI : (n : Int) - 1 - (k : Int) = (p : Int) := by omega
      have hpn : p < n := by omega
      have hpn' : (p : Int) < (n : Int) := by omega
      have hw1 : IntKind.i64.wrap ((n : Int) - 1) = (n : Int) - 1 := by rw [IntKind.wrap_i64]; omega
      have hw2 : IntKind.i64.wrap ((n : Int) - 1 - (k : Int)) = (p : Int) := by rw [IntKind.wrap_i64]; omega
      have HBr : Hid (∀ wq, Below w.heap.size w4 wq → wq.cell? ⟨g, off + p, none⟩ = some (.int .u8 ((dL l p : Nat) : Int))) := fun wq hq => by
        obtain ⟨c, hc, ec⟩ := dL_at (show p < l.length by rw [← Hx.out.1]; exact hpn)
        rw [ec]
        exact (HB.out wq (HO4.out.2.1.trans hq)).1 p c hc
      have hcp := HBr.out wr HR.out.1.below
      have hd256 := dL_lt l p
      have HRv : Hid (dL l.reverse k = dL l p ∧ byteCells (l.reverse.take (k + 1)) = byteCells (l.reverse.take k) ++ [.int .u8 ((dL l p : Nat) : Int)]) := by
        have hkl : k < l.length := by rw [← Hx.out.1]; exact hlt
        refine ⟨by rw [rev_dL l hkl, ← Hx.out.1, hp], ?_⟩
        rw [rev_take l hkl, bc_app]
        show _ = _ ++ [Value.int .u8 (((l.getD p 0).toNat : Nat) : Int)]
        rw [← Hx.out.1, ← hp]
        rfl
      have HP : Hid (p = n - 1 - k) := hp
      clear hp
      generalize dL l p = X at *
      have hnew : Hid (∀ j u, [Value.int .u8 (X : Int)][j]? = some u → (wr.alloc (.cells #[.int .u8 (X : Int)] 5)).cell? ((⟨wr.heap.size, 0, none⟩ : Addr).add j) = some u) := cell_one_new wr (.int .u8 (X : Int)) 5
      go_upto_region 9 with (at_builtin; refine wpList_append_own _ rfl _ _ 22 rfl w4.heap.size 5 i0 (.int .u8 0) 1 1 Tryz.underlying22 hi hz0 hz1 hz2 rfl (by decide) _ k (byteCells (l.reverse.take k)) rfl (HR.out.2.2.alloc _) ⟨wr.heap.size, 0, none⟩ 1 1 [.int .u8 (X : Int)] rfl rfl hnew.out (fun x hx => by simp at hx; subst hx; rfl) (by unfold maxLen; omega) (by omega) (by have := HR.out.1.size; simp; omega) ?_; intro v8 w8 hown8 hgrow8 hnil8)
      obtain ⟨a8, c8, rfl⟩ := own_formR hown8
      have HQ : Hid (Wrt w.heap.size w4 w8 ∧ OwnA w8 w.heap.size (n + 8) (fun j => if j < k then dL l.reverse j else if j < n then dL l j else 201) ∧ w8.ownsRow w4.heap.size 5 1 (.slice a8 (k + 1) c8) (k + 1) (byteCells (l.reverse.take (k + 1)))) := by
        have hlt4 : w.heap.size < w4.heap.size := HO4.out.1.lt
        have hb0 : Below w4.heap.size wr (wr.alloc (.cells #[.int .u8 (X : Int)] 5)) := (Below.refl _ wr).alloc HR.out.1.size _
        have hb8 : Below w4.heap.size wr w8 := below_grownBy hb0 hgrow8 HR.out.1.size (fun q hq => (HR.out.2.2.lt q hq).1)
        exact ⟨HR.out.1.lowB hlt4 hb8, HR.out.2.1.below hb8 hlt4, by rw [HRv.out.2]; exact hown8⟩
      clear hown8 hgrow8 hnil8 HR hnew hcp
      have hcp := HBr.out w8 HQ.out.1.below
      have hcl := HQ.out.2.1.cell k (by omega)
      have hfl := HQ.out.2.1.froz k
      have HF : Hid (Wrt w.heap.size w4 (w8.setCell ⟨w.heap.size, k, none⟩ (.int .u8 (X : Int))) ∧ OwnA (w8.setCell ⟨w.heap.size, k, none⟩ (.int .u8 (X : Int))) w.heap.size (n + 8) (fun j => if j < k + 1 then dL l.reverse j else if j < n then dL l j else 201) ∧ (w8.setCell ⟨w.heap.size, k, none⟩ (.int .u8 (X : Int))).ownsRow w4.heap.size 5 1 (.slice a8 (k + 1) c8) (k + 1) (byteCells (l.reverse.take (k + 1)))) := by
        have hlt4 : w.heap.size < w4.heap.size := HO4.out.1.lt
        have hset : Wrt w.heap.size w8 (w8.setCell ⟨w.heap.size, k, none⟩ (.int .u8 (X : Int))) := by
          obtain ⟨arr, h1, _, _⟩ := HQ.out.2.1
          rw [setCell_eq_setRow w8 w.heap.size k arr 5 (0, 0) _ h1]
          exact Wrt.setRow HQ.out.2.1.lt (Below.refl _ _) _
        refine ⟨HQ.out.1.trans hset, (HQ.out.2.1.set k X (by omega) hd256).ext fun j hj => ?_, row_keep HQ.out.2.2 (fun b h1 h2 => hset.other b h2 (by omega))⟩
        show (if j = k then X else if j < k then dL l.reverse j else if j < n then dL l j else 201) = if j < k + 1 then dL l.reverse j else if j < n then dL l j else 201
        by_cases e : j = k
        · rw [if_pos e, if_pos (by omega), e, HRv.out.1]
        · rw [if_neg e]
          by_cases e2 : j < k
          · rw [if_pos e2, if_pos (by omega)]
          · rw [if_neg e2, if_neg (show ¬ j < k + 1 by omega)]
      clear HQ HRv HBr
      go_wp2
      exact ⟨⟨k + 1, a8, c8, by omega, by go_num, rfl, HF.out⟩, by simp [RowKit.intOf]; omega⟩
    · obtain rfl : k = n := by omega
      have HR2 : Hid (Below w.heap.size w wr ∧ At wr w.heap.size 0 l.reverse ∧ OwnM wr m1 DM ∧ ErrV DE v1 w1 wr ∧ wr.ownsRow w4.heap.size 5 1 (.slice ao k co) k (byteCells l.reverse) ∧ k = l.reverse.length) := by
        have hlt4 : w.heap.size < w4.heap.size := HO4.out.1.lt
        have hkl : k = l.reverse.length := by rw [List.length_reverse]; exact Hx.out.1
        refine ⟨HO4.out.2.1.trans HR.out.1.below, fun j c hj => ?_, (HR.out.1.other m1 HO4.out.2.2.2.1 (by have := HO4.out.2.2.2.2; omega)).trans HO4.out.2.2.1, ?_, ?_, hkl⟩
        · have hjl : j < k := by rw [hkl]; exact (List.getElem?_eq_some_iff.1 hj).1
          rw [Nat.zero_add, HR.out.2.1.cell j (by omega), if_pos hjl, d0 hj]
        · cases DE with
          | none => exact HE4.out
          | some x =>
            obtain ⟨i, e⟩ := x
            obtain ⟨b, h1, h2, h3⟩ := HE4.out
            exact ⟨b, h1, h2, (HR.out.1.other b h3.lt (by have := Hw1.out; omega)).trans h3⟩
        · have := HR.out.2.2
          rw [hkl, List.take_length] at this
          rw [hkl]
          exact this
      clear HR HO4 HE4
      have HS : Hid (∃ gO oO, (k = 0 ∨ ao = some ⟨gO, oO, none⟩) ∧ At wr gO oO l.reverse ∧ k ≤ co) := by
        rcases HR2.out.2.2.2.2.1.2 with ⟨e1, h0⟩ | ⟨gO, cO, cur, e1, e2, e3, e4, _⟩
        · refine ⟨0, 0, .inl h0, fun j c hj => ?_, by omega⟩
          have := (List.getElem?_eq_some_iff.1 hj).1
          have := HR2.out.2.2.2.2.2
          omega
        · injection e1 with e1 _ e5
          subst e1
          exact ⟨gO, 0, .inr rfl, rowAt HR2.out.2.2.2.2.1, by omega⟩
      obtain ⟨gO, oO, hO1, hO2, hO3⟩ := HS.out
      have HOt : Hid ((k = 0 ∨ ao = some ⟨gO, oO, none⟩) ∧ At wr gO oO l.reverse ∧ k ≤ co) := ⟨hO1, hO2, hO3⟩
      clear hO1 hO2 hO3 HS
      have hlr : k = l.reverse.length := HR2.out.2.2.2.2.2
      have hk1 : k ≤ 140737488355000 := Hx.out.2.2.1
      have HD2 : Hid (Unit → _) := fun _ => Decode_any (some ⟨w.heap.size, 0, none⟩) w.heap.size 0 k (k + 8) l.reverse wr hlr (by omega) hk1 (.inr rfl) HR2.out.2.1 (HB.out wr HR2.out.1).2.1
      have HLr : Hid (k = l.reverse.length) := hlr
      clear hlr
      go_upto_region 10 with fail
      refine wp_region_lit ?_
      refine wpList_runTo rfl (some 60) rfl (.slice (some ⟨w.heap.size, 0, none⟩) k (k + 8)) wr (by kernel_rfl) ?_
      refine wpList_callW rfl (some 61) rfl 10 #[.slice (some ⟨w.heap.size, 0, none⟩) k (k + 8)] (by kernel_rfl) (HD2.out ()) ?_
      intro e w5 h5
      obtain ⟨DE2, hDE2, v2, rfl, hE5, hb5⟩ := gen4 (p := fun X => ∃ v, e = .returned (.tuple #[.agg (decM l.reverse).cs, v]) ∧ ErrV X v wr w5 ∧ Below wr.heap.size wr w5) (decE l.reverse) h5
      clear h5 HD2
      refine ⟨_, rfl, ?_⟩
      generalize hDR : decM l.reverse = DR at *
      generalize hRC : DR.cs = RC at *
      refine wpList_runTo rfl (some 59) rfl (.tuple #[.agg RC, v2]) w5 (by kernel_rfl) ?_
      refine wpList_runTo rfl (some 62) rfl (.agg RC) w5 (by kernel_rfl) ?_
      refine wpList_runTo rfl (some 63) rfl v2 w5 (by kernel_rfl) ?_
      refine wpList_runTo rfl (some 9) rfl (.pointer (some ⟨w5.heap.size, 0, none⟩)) (w5.alloc (.cells zeroM.cs 29)) (by kernel_rfl) ?_
      refine wpList_store_row rfl 29 (.tmp 9) (.tmp 62) rfl w5.heap.size RC (by kernel_rfl) (by kernel_rfl) 29 _ (heap_alloc_new w5 _) (by rw [← hRC, Msg.cs_size]; kernel_rfl) (by rw [← hRC, Msg.cs_size, Msg.cs_size]) (by rw [← hRC]; exact Msg.cs_one _) ?_
      rw [World.setRow_alloc_new]
      refine wpList_runTo rfl (some 10) rfl v2 (w5.alloc (.cells RC 29)) (by kernel_rfl) ?_
      refine wpList_nil ?_
      simp only [Act.put, List.setIfInBounds_toArray, List.set_cons_zero, List.set_cons_succ]
      have HO6 : Hid (Below w.heap.size w (w5.alloc (.cells RC 29)) ∧ OwnM (w5.alloc (.cells RC 29)) m1 DM ∧ ErrV DE v1 w1 (w5.alloc (.cells RC 29)) ∧ OwnM (w5.alloc (.cells RC 29)) w5.heap.size DR ∧ ErrV DE2 v2 wr (w5.alloc (.cells RC 29)) ∧ At (w5.alloc (.cells RC 29)) gO oO l.reverse) := by
        have h56 : Below w5.heap.size w5 (w5.alloc (.cells RC 29)) := (Below.refl _ w5).alloc (Nat.le_refl _) _
        have hr6 : Below wr.heap.size wr (w5.alloc (.cells RC 29)) := hb5.alloc hb5.size _
        exact ⟨HR2.out.1.trans (hr6.mono HR2.out.1.size), HR2.out.2.2.1.low hr6, HR2.out.2.2.2.1.low hr6, by unfold OwnM; rw [hRC]; exact heap_alloc_new w5 _, hE5.low h56, HOt.out.2.1.below hr6 (Nat.le_refl _)⟩
      have HOt2 : Hid ((k = 0 ∨ ao = some ⟨gO, oO, none⟩) ∧ k ≤ co) := ⟨HOt.out.1, HOt.out.2.2⟩
      clear hb5 hE5 HR2 HOt
      generalize w5.heap.size = m2 at *
      generalize w5.alloc (.cells RC 29) = w6 at *
      have HF2 : Hid (Unit → Calls Tryz.prog 15 #[.slice ao k co] w6 fun e w' => e = .returned (.tuple #[.agg RC, .int .i64 (plE DE2), .int .i64 (erE DE2)]) ∧ Below w6.heap.size w6 w') := fun _ => by
        have := refDecode_any ao gO oO k co l.reverse w6 HLr.out HOt2.out.2 hk1 HOt2.out.1 HO6.out.2.2.2.2.2
        rw [hDR, hRC, ← hDE2] at this
        exact this
      have HP2 : Hid ((DE2 = none → plE DE2 = 0 ∧ erE DE2 = 0) ∧ ∀ i e, DE2 = some (i, e) → plE DE2 = (i : Int) ∧ erE DE2 = e ∧ e ≠ 0) := ⟨fun h => by rw [h]; exact ⟨rfl, rfl⟩, fun i e h => by rw [h]; exact ⟨rfl, rfl, decE_err (by rw [← hDE2, h])⟩⟩
      clear hDE2 hDR
      generalize plE DE2 = PL2 at *
      generalize erE DE2 = ER2 at *
      go_upto_region 11 with fail
      refine wp_region_lit ?_
      refine wpList_runTo rfl (some 65) rfl (.slice ao k co) w6 (by kernel_rfl) ?_
      refine wpList_callW rfl (some 66) rfl 15 #[.slice ao k co] (by kernel_rfl) (HF2.out ()) ?_
      rintro e w7 ⟨rfl, hb7⟩
      clear HF2
      refine ⟨_, rfl, ?_⟩
      refine wpList_runTo rfl (some 64) rfl (.tuple #[.agg RC, .int .i64 PL2, .int .i64 ER2]) w7 (by kernel_rfl) ?_
      refine wpList_runTo rfl (some 67) rfl (.agg RC) w7 (by kernel_rfl) ?_
      refine wpList_runTo rfl (some 68) rfl (.int .i64 PL2) w7 (by kernel_rfl) ?_
      refine wpList_runTo rfl (some 69) rfl (.int .i64 ER2) w7 (by kernel_rfl) ?_
      refine wpList_runTo rfl (some 11) rfl (.pointer (some ⟨w7.heap.size, 0, none⟩)) (w7.alloc (.cells zeroM.cs 29)) (by kernel_rfl) ?_
      refine wpList_store_row rfl 29 (.tmp 11) (.tmp 67) rfl w7.heap.size RC (by kernel_rfl) (by kernel_rfl) 29 _ (heap_alloc_new w7 _) (by rw [← hRC, Msg.cs_size]; kernel_rfl) (by rw [← hRC, Msg.cs_size, Msg.cs_size]) (by rw [← hRC]; exact Msg.cs_one _) ?_
      rw [World.setRow_alloc_new]
      refine wpList_runTo rfl (some 12) rfl (.int .i64 PL2) (w7.alloc (.cells RC 29)) (by kernel_rfl) ?_
      refine wpList_runTo rfl (some 13) rfl (.int .i64 ER2) (w7.alloc (.cells RC 29)) (by kernel_rfl) ?_
      refine wpList_nil ?_
      simp only [Act.put, List.setIfInBounds_toArray, List.set_cons_zero, List.set_cons_succ]
      have HO8 : Hid (Below w.heap.size w (w7.alloc (.cells RC 29)) ∧ OwnM (w7.alloc (.cells RC 29)) m1 DM ∧ ErrV DE v1 w1 (w7.alloc (.cells RC 29)) ∧ OwnM (w7.alloc (.cells RC 29)) m2 DR ∧ ErrV DE2 v2 wr (w7.alloc (.cells RC 29)) ∧ OwnM (w7.alloc (.cells RC 29)) w7.heap.size DR) := by
        have h68 : Below w6.heap.size w6 (w7.alloc (.cells RC 29)) := hb7.alloc hb7.size _
        exact ⟨HO6.out.1.trans (h68.mono HO6.out.1.size), HO6.out.2.1.low h68, HO6.out.2.2.1.low h68, HO6.out.2.2.2.1.low h68, HO6.out.2.2.2.2.1.low h68, by unfold OwnM; rw [hRC]; exact heap_alloc_new w7 _⟩
      clear hb7 HO6
      generalize w7.heap.size = m3 at *
      generalize w7.alloc (.cells RC 29) = w8 at *
      have HF1 : Hid (∀ w', Below w.heap.size w w' → Calls Tryz.prog 15 #[.slice a k cap] w' fun e w'' => e = .returned (.tuple #[.agg MC, .int .i64 (plE DE), .int .i64 (erE DE)]) ∧ Below w'.heap.size w' w'') := fun w' hb => by
        have := refDecode_any a g off k cap l w' Hx.out.1 Hx.out.2.1 hk1 Hx.out.2.2.2 (HB.out w' hb).1
        rw [hDM, hMC, ← hDE] at this
        exact this
      have HP1 : Hid ((DE = none → plE DE = 0 ∧ erE DE = 0) ∧ ∀ i e, DE = some (i, e) → plE DE = (i : Int) ∧ erE DE = e ∧ e ≠ 0) := ⟨fun h => by rw [h]; exact ⟨rfl, rfl⟩, fun i e h => by rw [h]; exact ⟨rfl, rfl, decE_err (by rw [← hDE, h])⟩⟩
      have HD3 : Hid (∀ w' lB, At w' lB 0 l → Mon w' → Calls Tryz.prog 10 #[.slice (some ⟨lB, 0, none⟩) k (k + 8)] w' fun e w'' => ∃ v, e = .returned (.tuple #[.agg MC, v]) ∧ ErrV DE v w' w'' ∧ Below w'.heap.size w' w'') := fun w' lB hat hmo => by
        have := Decode_any (some ⟨lB, 0, none⟩) lB 0 k (k + 8) l w' Hx.out.1 (by omega) hk1 (.inr rfl) hat hmo
        rw [hDM, hMC, ← hDE] at this
        exact this
      clear hDE hDM
      generalize plE DE = PL1 at *
      generalize erE DE = ER1 at *
      rcases hc2 : DE2 with _ | ⟨i2, e2⟩
      · obtain ⟨rfl, rfl⟩ := HP2.out.1 hc2
        have hv2 : v2 = .nilIface := by have := HO8.out.2.2.2.2.1; rw [hc2] at this; exact this
        subst hv2
        clear hc2 HP2
        go_upto_region 12 with fail
        refine wp_region_lit ?_
        refine wpList_runTo rfl (some 71) rfl .nilIface w8 (by kernel_rfl) ?_
        refine wpList_runTo rfl (some 72) rfl (.tuple #[.pointer none, .bool false]) w8 (by kernel_rfl) ?_
        refine wpList_runTo rfl (some 70) rfl (.tuple #[.pointer none, .bool false]) w8 (by kernel_rfl) ?_
        refine wpList_runTo rfl (some 73) rfl (.pointer none) w8 (by kernel_rfl) ?_
        refine wpList_runTo rfl (some 74) rfl (.bool false) w8 (by kernel_rfl) ?_
        refine wpList_runTo rfl (some 14) rfl (.pointer none) w8 (by kernel_rfl) ?_
        refine wpList_runTo rfl (some 15) rfl (.bool false) w8 (by kernel_rfl) ?_
        refine wpList_nil ?_
        simp only [Act.put, List.setIfInBounds_toArray, List.set_cons_zero, List.set_cons_succ]
        go_upto_region 13 with fail
        refine wp_region_lit ?_
        refine wpList_loadM HO8.out.2.2.2.1 (.tmp 9) rfl rfl rfl ?_
        refine wpList_loadM HO8.out.2.2.2.2.2 (.tmp 11) rfl rfl rfl ?_
        refine wpList_runTo rfl (some 77) rfl (.bool false) w8 (neqM_run (M := DR) (.tmp 75) (.tmp 76) rfl (by kernel_rfl) (by kernel_rfl) w8) ?_
        simp only [Act.put, List.setIfInBounds_toArray, List.set_cons_zero, List.set_cons_succ]
        rw [hRC]
        go_upto_region 15 with fail
        have HF1b := HF1.out w8 HO8.out.1
        refine wp_region_lit ?_
        refine wpList_runTo rfl (some 114) rfl (.slice a k cap) w8 (by kernel_rfl) ?_
        refine wpList_callW rfl (some 115) rfl 15 #[.slice a k cap] (by kernel_rfl) HF1b ?_
        rintro e w9 ⟨rfl, hb9⟩
        clear HF1b HF1
        refine ⟨_, rfl, ?_⟩
        refine wpList_runTo rfl (some 113) rfl (.tuple #[.agg MC, .int .i64 PL1, .int .i64 ER1]) w9 (by kernel_rfl) ?_
        refine wpList_runTo rfl (some 116) rfl (.agg MC) w9 (by kernel_rfl) ?_
        refine wpList_runTo rfl (some 117) rfl (.int .i64 PL1) w9 (by kernel_rfl) ?_
        refine wpList_runTo rfl (some 118) rfl (.int .i64 ER1) w9 (by kernel_rfl) ?_
        refine wpList_runTo rfl (some 16) rfl (.pointer (some ⟨w9.heap.size, 0, none⟩)) (w9.alloc (.cells zeroM.cs 29)) (by kernel_rfl) ?_
        refine wpList_store_row rfl 29 (.tmp 16) (.tmp 116) rfl w9.heap.size MC (by kernel_rfl) (by kernel_rfl) 29 _ (heap_alloc_new w9 _) (by rw [← hMC, Msg.cs_size]; kernel_rfl) (by rw [← hMC, Msg.cs_size, Msg.cs_size]) (by rw [← hMC]; exact Msg.cs_one _) ?_
        rw [World.setRow_alloc_new]
        refine wpList_runTo rfl (some 17) rfl (.int .i64 PL1) (w9.alloc (.cells MC 29)) (by kernel_rfl) ?_
        refine wpList_runTo rfl (some 18) rfl (.int .i64 ER1) (w9.alloc (.cells MC 29)) (by kernel_rfl) ?_
        refine wpList_nil ?_
        simp only [Act.put, List.setIfInBounds_toArray, List.set_cons_zero, List.set_cons_succ]
        have HO10 : Hid (Below w.heap.size w (w9.alloc (.cells MC 29)) ∧ OwnM (w9.alloc (.cells MC 29)) m1 DM ∧ ErrV DE v1 w1 (w9.alloc (.cells MC 29)) ∧ OwnM (w9.alloc (.cells MC 29)) w9.heap.size DM) := by
          have h810 : Below w8.heap.size w8 (w9.alloc (.cells MC 29)) := hb9.alloc hb9.size _
          exact ⟨HO8.out.1.trans (h810.mono HO8.out.1.size), HO8.out.2.1.low h810, HO8.out.2.2.1.low h810, by unfold OwnM; rw [hMC]; exact heap_alloc_new w9 _⟩
        clear hb9 HO8
        generalize w9.heap.size = m4 at *
        generalize w9.alloc (.cells MC 29) = w10 at *
        go_upto_region 16 with fail
        refine wp_region_lit ?_
        refine wpList_runTo rfl (some 119) rfl (.bool true) w10 (by kernel_rfl) ?_
        refine wpList_runTo rfl (some 120) rfl (.bool false) w10 (by kernel_rfl) ?_
        refine wpList_runTo rfl (some 121) rfl (.bool false) w10 (by kernel_rfl) ?_
        refine wpList_loadG HO10.out.2.1 (.tmp 4) (by kernel_rfl) rfl (by kernel_rfl) ?_
        simp only [Act.put, List.setIfInBounds_toArray, List.set_cons_zero, List.set_cons_succ]
        refine wpList_loadG HO10.out.2.2.2 (.tmp 16) (by kernel_rfl) rfl (by kernel_rfl) ?_
        simp only [Act.put, List.setIfInBounds_toArray, List.set_cons_zero, List.set_cons_succ]
        refine wpList_runToG (by kernel_rfl) (some 124) rfl (.bool false) w10 (neqM_run (M := DM) (.tmp 122) (.tmp 123) rfl (by kernel_rfl) (by kernel_rfl) w10) ?_
        simp only [Act.put, List.setIfInBounds_toArray, List.set_cons_zero, List.set_cons_succ]
        rw [hMC]
        rcases hc1 : DE with _ | ⟨i1, e1⟩
        · obtain ⟨rfl, rfl⟩ := HP1.out.1 hc1
          have hv1 : v1 = .nilIface := by have := HO10.out.2.2.1; rw [hc1] at this; exact this
          subst hv1
          clear hc1 HP1
          go_wp2
          go_ret
          exact ⟨rfl, HO10.out.1⟩
        · obtain ⟨rfl, rfl, he1⟩ := HP1.out.2 i1 e1 hc1
          obtain ⟨b1, rfl, hb1, hf1⟩ : ∃ b, v1 = .iface 44 (.pointer (some ⟨b, 0, none⟩)) ∧ w1.heap.size ≤ b ∧ FaultAt w10 b (i1 : Nat) ER1 := by have := HO10.out.2.2.1; rw [hc1] at this; exact this
          have HF : Hid (FaultAt w10 b1 (i1 : Nat) ER1 ∧ w.heap.size ≤ b1) := ⟨hf1, by have := Hw1.out; omega⟩
          have p0 := hf1.at0
          have p1 := hf1.at1
          have pf := hf1.fro 0
          have he1b : (ER1 == 0) = false := by simp [he1]
          have HC1 : Hid (DE = some (i1, ER1)) := hc1
          clear hc1 HP1 hf1 he1 hb1
          go_upto_region 20 with fail
          refine wp_region_lit ?_
          refine wpList_runTo rfl (some 136) rfl (.iface 44 (.pointer (some ⟨b1, 0, none⟩))) w10 (by kernel_rfl) ?_
          refine wpList_runTo rfl (some 137) rfl (.tuple #[.pointer (some ⟨b1, 0, none⟩), .bool true]) w10 (by kernel_rfl) ?_
          refine wpList_runTo rfl (some 135) rfl (.tuple #[.pointer (some ⟨b1, 0, none⟩), .bool true]) w10 (by kernel_rfl) ?_
          refine wpList_runTo rfl (some 138) rfl (.pointer (some ⟨b1, 0, none⟩)) w10 (by kernel_rfl) ?_
          refine wpList_runTo rfl (some 139) rfl (.bool true) w10 (by kernel_rfl) ?_
          refine wpList_runTo rfl (some 19) rfl (.pointer (some ⟨b1, 0, none⟩)) w10 (by kernel_rfl) ?_
          refine wpList_runTo rfl (some 20) rfl (.bool true) w10 (by kernel_rfl) ?_
          refine wpList_nil ?_
          simp only [Act.put, List.setIfInBounds_toArray, List.set_cons_zero, List.set_cons_succ]
          go_upto_region 24 with fail
          have HF11 : Hid (FaultAt (w10.setCell ⟨b1, 0, none⟩ (.int .i64 (-7))) b1 (-7) ER1 ∧ Below w.heap.size w (w10.setCell ⟨b1, 0, none⟩ (.int .i64 (-7)))) := ⟨fault_set0 HF.out.1 _, HO10.out.1.trans (HF.out.1.set _ HF.out.2)⟩
          clear p0 p1 pf
          generalize w10.setCell ⟨b1, 0, none⟩ (.int .i64 (-7)) = w11 at *
          have p1 := HF11.out.1.at1
          have pf := HF11.out.1.fro 1
          go_upto_region 25 with fail
          have HF12 : Hid (Below w.heap.size w (w11.setCell ⟨b1, 1, none⟩ (.int .i64 7))) := HF11.out.2.trans (HF11.out.1.set _ HF.out.2)
          clear p1 pf
          generalize w11.setCell ⟨b1, 1, none⟩ (.int .i64 7) = w12 at *
          have HLe : Hid (Unit → _) := fun _ => lent_any a k cap (dL l) w12 hk1 (HB.out w12 HF12.out).2.2
          refine wp_region_lit ?_
          refine wpList_runTo rfl (some 169) rfl (.slice a k cap) w12 (by kernel_rfl) ?_
          refine wpList_callW rfl (some 170) rfl 13 #[.slice a k cap] (by kernel_rfl) (HLe.out ()) ?_
          rintro e w13 ⟨rfl, ho13, hb13⟩
          refine ⟨_, rfl, ?_⟩
          have hw13 : Below w.heap.size w w13 := HF12.out.trans (hb13.mono HF12.out.size)
          have hat13 : At w13 w12.heap.size 0 l := fun j c hj => by
            have hjl : j < k := by rw [Hx.out.1]; exact (List.getElem?_eq_some_iff.1 hj).1
            rw [Nat.zero_add, ho13.cell j (by omega), if_pos hjl, d0 hj]
          have HD4 := HD3.out w13 w12.heap.size hat13 (HB.out w13 hw13).2.1
          refine wpList_callW rfl (some 171) rfl 10 #[.slice (some ⟨w12.heap.size, 0, none⟩) k (k + 8)] (by kernel_rfl) HD4 ?_
          rintro e w14 ⟨v3, rfl, hE14, hb14⟩
          refine ⟨_, rfl, ?_⟩
          rw [HC1.out] at hE14
          obtain ⟨b3, rfl, _, hf3⟩ := hE14
          have HW14 : Hid (Below w.heap.size w w14) := hw13.trans (hb14.mono hw13.size)
          have p0 := hf3.at0
          have p1 := hf3.at1
          clear HD4 hat13 hw13 ho13 hb13 hb14 hf3 HLe HD3
          refine wpList_runTo rfl (some 168) rfl (.tuple #[.agg MC, .iface 44 (.pointer (some ⟨b3, 0, none⟩))]) w14 (by kernel_rfl) ?_
          refine wpList_runTo rfl (some 172) rfl (.agg MC) w14 (by kernel_rfl) ?_
          refine wpList_runTo rfl (some 173) rfl (.iface 44 (.pointer (some ⟨b3, 0, none⟩))) w14 (by kernel_rfl) ?_
          refine wpList_runTo rfl (some 5) rfl (.iface 44 (.pointer (some ⟨b3, 0, none⟩))) w14 (by kernel_rfl) ?_
          refine wpList_nil ?_
          simp only [Act.put, List.setIfInBounds_toArray, List.set_cons_zero, List.set_cons_succ]
          go_upto_region 26 with fail
          refine wp_region_lit ?_
          refine wpList_runTo rfl (some 175) rfl (.iface 44 (.pointer (some ⟨b3, 0, none⟩))) w14 (by kernel_rfl) ?_
          refine wpList_runTo rfl (some 176) rfl (.tuple #[.pointer (some ⟨b3, 0, none⟩), .bool true]) w14 (by kernel_rfl) ?_
          refine wpList_runTo rfl (some 174) rfl (.tuple #[.pointer (some ⟨b3, 0, none⟩), .bool true]) w14 (by kernel_rfl) ?_
          refine wpList_runTo rfl (some 177) rfl (.pointer (some ⟨b3, 0, none⟩)) w14 (by kernel_rfl) ?_
          refine wpList_runTo rfl (some 178) rfl (.bool true) w14 (by kernel_rfl) ?_
          refine wpList_runTo rfl (some 19) rfl (.pointer (some ⟨b3, 0, none⟩)) w14 (by kernel_rfl) ?_
          refine wpList_runTo rfl (some 20) rfl (.bool true) w14 (by kernel_rfl) ?_
          refine wpList_nil ?_
          simp only [Act.put, List.setIfInBounds_toArray, List.set_cons_zero, List.set_cons_succ]
          go_wp2
          go_ret
          exact ⟨ret_bool (by simp), HW14.out⟩
      · obtain ⟨rfl, rfl, he2⟩ := HP2.out.2 i2 e2 hc2
        obtain ⟨b2, rfl, hb2, hf2⟩ : ∃ b, v2 = .iface 44 (.pointer (some ⟨b, 0, none⟩)) ∧ wr.heap.size ≤ b ∧ FaultAt w8 b (i2 : Nat) ER2 := by have := HO8.out.2.2.2.2.1; rw [hc2] at this; exact this
        have q0 := hf2.at0
        have q1 := hf2.at1
        have he2b : (ER2 == 0) = false := by simp [he2]
        clear hc2 HP2 hf2 he2
        go_upto_region 12 with fail
        refine wp_region_lit ?_
        refine wpList_runTo rfl (some 71) rfl (.iface 44 (.pointer (some ⟨b2, 0, none⟩))) w8 (by kernel_rfl) ?_
        refine wpList_runTo rfl (some 72) rfl (.tuple #[.pointer (some ⟨b2, 0, none⟩), .bool true]) w8 (by kernel_rfl) ?_
        refine wpList_runTo rfl (some 70) rfl (.tuple #[.pointer (some ⟨b2, 0, none⟩), .bool true]) w8 (by kernel_rfl) ?_
        refine wpList_runTo rfl (some 73) rfl (.pointer (some ⟨b2, 0, none⟩)) w8 (by kernel_rfl) ?_
        refine wpList_runTo rfl (some 74) rfl (.bool true) w8 (by kernel_rfl) ?_
        refine wpList_runTo rfl (some 14) rfl (.pointer (some ⟨b2, 0, none⟩)) w8 (by kernel_rfl) ?_
        refine wpList_runTo rfl (some 15) rfl (.bool true) w8 (by kernel_rfl) ?_
        refine wpList_nil ?_
        simp only [Act.put, List.setIfInBounds_toArray, List.set_cons_zero, List.set_cons_succ]
        go_upto_region 13 with fail
        refine wp_region_lit ?_
        refine wpList_loadM HO8.out.2.2.2.1 (.tmp 9) rfl rfl rfl ?_
        refine wpList_loadM HO8.out.2.2.2.2.2 (.tmp 11) rfl rfl rfl ?_
        refine wpList_runTo rfl (some 77) rfl (.bool false) w8 (neqM_run (M := DR) (.tmp 75) (.tmp 76) rfl (by kernel_rfl) (by kernel_rfl) w8) ?_
        simp only [Act.put, List.setIfInBounds_toArray, List.set_cons_zero, List.set_cons_succ]
        rw [hRC]
        go_upto_region 15 with fail
        clear q0 q1
        have HF1b := HF1.out w8 HO8.out.1
        refine wp_region_lit ?_
        refine wpList_runTo rfl (some 114) rfl (.slice a k cap) w8 (by kernel_rfl) ?_
        refine wpList_callW rfl (some 115) rfl 15 #[.slice a k cap] (by kernel_rfl) HF1b ?_
        rintro e w9 ⟨rfl, hb9⟩
        clear HF1b HF1
        refine ⟨_, rfl, ?_⟩
        refine wpList_runTo rfl (some 113) rfl (.tuple #[.agg MC, .int .i64 PL1, .int .i64 ER1]) w9 (by kernel_rfl) ?_
        refine wpList_runTo rfl (some 116) rfl (.agg MC) w9 (by kernel_rfl) ?_
        refine wpList_runTo rfl (some 117) rfl (.int .i64 PL1) w9 (by kernel_rfl) ?_
        refine wpList_runTo rfl (some 118) rfl (.int .i64 ER1) w9 (by kernel_rfl) ?_
        refine wpList_runTo rfl (some 16) rfl (.pointer (some ⟨w9.heap.size, 0, none⟩)) (w9.alloc (.cells zeroM.cs 29)) (by kernel_rfl) ?_
        refine wpList_store_row rfl 29 (.tmp 16) (.tmp 116) rfl w9.heap.size MC (by kernel_rfl) (by kernel_rfl) 29 _ (heap_alloc_new w9 _) (by rw [← hMC, Msg.cs_size]; kernel_rfl) (by rw [← hMC, Msg.cs_size, Msg.cs_size]) (by rw [← hMC]; exact Msg.cs_one _) ?_
        rw [World.setRow_alloc_new]
        refine wpList_runTo rfl (some 17) rfl (.int .i64 PL1) (w9.alloc (.cells MC 29)) (by kernel_rfl) ?_
        refine wpList_runTo rfl (some 18) rfl (.int .i64 ER1) (w9.alloc (.cells MC 29)) (by kernel_rfl) ?_
        refine wpList_nil ?_
        simp only [Act.put, List.setIfInBounds_toArray, List.set_cons_zero, List.set_cons_succ]
        have HO10 : Hid (Below w.heap.size w (w9.alloc (.cells MC 29)) ∧ OwnM (w9.alloc (.cells MC 29)) m1 DM ∧ ErrV DE v1 w1 (w9.alloc (.cells MC 29)) ∧ OwnM (w9.alloc (.cells MC 29)) w9.heap.size DM) := by
          have h810 : Below w8.heap.size w8 (w9.alloc (.cells MC 29)) := hb9.alloc hb9.size _
          exact ⟨HO8.out.1.trans (h810.mono HO8.out.1.size), HO8.out.2.1.low h810, HO8.out.2.2.1.low h810, by unfold OwnM; rw [hMC]; exact heap_alloc_new w9 _⟩
        clear hb9 HO8
        generalize w9.heap.size = m4 at *
        generalize w9.alloc (.cells MC 29) = w10 at *
        go_upto_region 16 with fail
        refine wp_region_lit ?_
        refine wpList_runTo rfl (some 119) rfl (.bool true) w10 (by kernel_rfl) ?_
        refine wpList_runTo rfl (some 120) rfl (.bool false) w10 (by kernel_rfl) ?_
        refine wpList_runTo rfl (some 121) rfl (.bool false) w10 (by kernel_rfl) ?_
        refine wpList_loadG HO10.out.2.1 (.tmp 4) (by kernel_rfl) rfl (by kernel_rfl) ?_
        simp only [Act.put, List.setIfInBounds_toArray, List.set_cons_zero, List.set_cons_succ]
        refine wpList_loadG HO10.out.2.2.2 (.tmp 16) (by kernel_rfl) rfl (by kernel_rfl) ?_
        simp only [Act.put, List.setIfInBounds_toArray, List.set_cons_zero, List.set_cons_succ]
        refine wpList_runToG (by kernel_rfl) (some 124) rfl (.bool false) w10 (neqM_run (M := DM) (.tmp 122) (.tmp 123) rfl (by kernel_rfl) (by kernel_rfl) w10) ?_
        simp only [Act.put, List.setIfInBounds_toArray, List.set_cons_zero, List.set_cons_succ]
        rw [hMC]
        rcases hc1 : DE with _ | ⟨i1, e1⟩
        · obtain ⟨rfl, rfl⟩ := HP1.out.1 hc1
          have hv1 : v1 = .nilIface := by have := HO10.out.2.2.1; rw [hc1] at this; exact this
          subst hv1
          clear hc1 HP1
          go_wp2
          go_ret
          exact ⟨rfl, HO10.out.1⟩
        · obtain ⟨rfl, rfl, he1⟩ := HP1.out.2 i1 e1 hc1
          obtain ⟨b1, rfl, hb1, hf1⟩ : ∃ b, v1 = .iface 44 (.pointer (some ⟨b, 0, none⟩)) ∧ w1.heap.size ≤ b ∧ FaultAt w10 b (i1 : Nat) ER1 := by have := HO10.out.2.2.1; rw [hc1] at this; exact this
          have HF : Hid (FaultAt w10 b1 (i1 : Nat) ER1 ∧ w.heap.size ≤ b1) := ⟨hf1, by have := Hw1.out; omega⟩
          have p0 := hf1.at0
          have p1 := hf1.at1
          have pf := hf1.fro 0
          have he1b : (ER1 == 0) = false := by simp [he1]
          have HC1 : Hid (DE = some (i1, ER1)) := hc1
          clear hc1 HP1 hf1 he1 hb1
          go_upto_region 20 with fail
          refine wp_region_lit ?_
          refine wpList_runTo rfl (some 136) rfl (.iface 44 (.pointer (some ⟨b1, 0, none⟩))) w10 (by kernel_rfl) ?_
          refine wpList_runTo rfl (some 137) rfl (.tuple #[.pointer (some ⟨b1, 0, none⟩), .bool true]) w10 (by kernel_rfl) ?_
          refine wpList_runTo rfl (some 135) rfl (.tuple #[.pointer (some ⟨b1, 0, none⟩), .bool true]) w10 (by kernel_rfl) ?_
          refine wpList_runTo rfl (some 138) rfl (.pointer (some ⟨b1, 0, none⟩)) w10 (by kernel_rfl) ?_
          refine wpList_runTo rfl (some 139) rfl (.bool true) w10 (by kernel_rfl) ?_
          refine wpList_runTo rfl (some 19) rfl (.pointer (some ⟨b1, 0, none⟩)) w10 (by kernel_rfl) ?_
          refine wpList_runTo rfl (some 20) rfl (.bool true) w10 (by kernel_rfl) ?_
          refine wpList_nil ?_
          simp only [Act.put, List.setIfInBounds_toArray, List.set_cons_zero, List.set_cons_succ]
          go_upto_region 24 with fail
          have HF11 : Hid (FaultAt (w10.setCell ⟨b1, 0, none⟩ (.int .i64 (-7))) b1 (-7) ER1 ∧ Below w.heap.size w (w10.setCell ⟨b1, 0, none⟩ (.int .i64 (-7)))) := ⟨fault_set0 HF.out.1 _, HO10.out.1.trans (HF.out.1.set _ HF.out.2)⟩
          clear p0 p1 pf
          generalize w10.setCell ⟨b1, 0, none⟩ (.int .i64 (-7)) = w11 at *
          have p1 := HF11.out.1.at1
          have pf := HF11.out.1.fro 1
          go_upto_region 25 with fail
          have HF12 : Hid (Below w.heap.size w (w11.setCell ⟨b1, 1, none⟩ (.int .i64 7))) := HF11.out.2.trans (HF11.out.1.set _ HF.out.2)
          clear p1 pf
          generalize w11.setCell ⟨b1, 1, none⟩ (.int .i64 7) = w12 at *
          have HLe : Hid (Unit → _) := fun _ => lent_any a k cap (dL l) w12 hk1 (HB.out w12 HF12.out).2.2
          refine wp_region_lit ?_
          refine wpList_runTo rfl (some 169) rfl (.slice a k cap) w12 (by kernel_rfl) ?_
          refine wpList_callW rfl (some 170) rfl 13 #[.slice a k cap] (by kernel_rfl) (HLe.out ()) ?_
          rintro e w13 ⟨rfl, ho13, hb13⟩
          refine ⟨_, rfl, ?_⟩
          have hw13 : Below w.heap.size w w13 := HF12.out.trans (hb13.mono HF12.out.size)
          have hat13 : At w13 w12.heap.size 0 l := fun j c hj => by
            have hjl : j < k := by rw [Hx.out.1]; exact (List.getElem?_eq_some_iff.1 hj).1
            rw [Nat.zero_add, ho13.cell j (by omega), if_pos hjl, d0 hj]
          have HD4 := HD3.out w13 w12.heap.size hat13 (HB.out w13 hw13).2.1
          refine wpList_callW rfl (some 171) rfl 10 #[.slice (some ⟨w12.heap.size, 0, none⟩) k (k + 8)] (by kernel_rfl) HD4 ?_
          rintro e w14 ⟨v3, rfl, hE14, hb14⟩
          refine ⟨_, rfl, ?_⟩
          rw [HC1.out] at hE14
          obtain ⟨b3, rfl, _, hf3⟩ := hE14
          have HW14 : Hid (Below w.heap.size w w14) := hw13.trans (hb14.mono hw13.size)
          have p0 := hf3.at0
          have p1 := hf3.at1
          clear HD4 hat13 hw13 ho13 hb13 hb14 hf3 HLe HD3
          refine wpList_runTo rfl (some 168) rfl (.tuple #[.agg MC, .iface 44 (.pointer (some ⟨b3, 0, none⟩))]) w14 (by kernel_rfl) ?_
          refine wpList_runTo rfl (some 172) rfl (.agg MC) w14 (by kernel_rfl) ?_
          refine wpList_runTo rfl (some 173) rfl (.iface 44 (.pointer (some ⟨b3, 0, none⟩))) w14 (by kernel_rfl) ?_
          refine wpList_runTo rfl (some 5) rfl (.iface 44 (.pointer (some ⟨b3, 0, none⟩))) w14 (by kernel_rfl) ?_
          refine wpList_nil ?_
          simp only [Act.put, List.setIfInBounds_toArray, List.set_cons_zero, List.set_cons_succ]
          go_upto_region 26 with fail
          refine wp_region_lit ?_
          refine wpList_runTo rfl (some 175) rfl (.iface 44 (.pointer (some ⟨b3, 0, none⟩))) w14 (by kernel_rfl) ?_
          refine wpList_runTo rfl (some 176) rfl (.tuple #[.pointer (some ⟨b3, 0, none⟩), .bool true]) w14 (by kernel_rfl) ?_
          refine wpList_runTo rfl (some 174) rfl (.tuple #[.pointer (some ⟨b3, 0, none⟩), .bool true]) w14 (by kernel_rfl) ?_
          refine wpList_runTo rfl (some 177) rfl (.pointer (some ⟨b3, 0, none⟩)) w14 (by kernel_rfl) ?_
          refine wpList_runTo rfl (some 178) rfl (.bool true) w14 (by kernel_rfl) ?_
          refine wpList_runTo rfl (some 19) rfl (.pointer (some ⟨b3, 0, none⟩)) w14 (by kernel_rfl) ?_
          refine wpList_runTo rfl (some 20) rfl (.bool true) w14 (by kernel_rfl) ?_
          refine wpList_nil ?_
          simp only [Act.put, List.setIfInBounds_toArray, List.set_cons_zero, List.set_cons_succ]
          go_wp2
          go_ret
          exact ⟨ret_bool (by simp), HW14.out⟩
end Go.Proofs.YthadnogcocmfgabGreatDoor
