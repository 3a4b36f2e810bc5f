/-
  ledger: bookings of a trade.
-/
import Derived.Test.YtidhahooebepfaaJBkM
namespace Go.Proofs.Ytidhahooebepfaa
set_option linter.unusedVariables false
set_option linter.unusedSimpArgs false
open Go.RowKit Go.Great Go.Maps

theorem exIdx {op : Oper} {a : Act} {w : World} {t : TypeId} {v vx vi : Value} (x y : Operand) (ho : op.op = .index t x y) (hx : a.eval x = vx) (hy : a.eval y = vi) (hr : (Instr.index t vx vi).run Try.prog w = .ok v w) : (execOp a.eval op).run Try.prog w = .ok (.value v) w := by
  unfold execOp
  simp only [ho, hx, hy, Sem.run_bind, hr, Result.andThen_ok, Sem.run_pure]
theorem Bk.cl_one (b : Bk) (u : Value) (hu : u ∈ b.cl) : u.oneCell' = true := List.all_eq_true.1 (show b.cl.all (fun u => u.oneCell') = true from rfl) u hu
theorem below_alloc_set {w : World} {T : TypeId} (old cs : Array Value) : Below w.heap.size w ((w.alloc (.cells old T)).setRow w.heap.size cs) := by
  have h0 : Below w.heap.size w (w.alloc (.cells old T)) := (Below.refl _ w).alloc (Nat.le_refl _) _
  exact ⟨h0.os, h0.tape, h0.output, by simp [World.setRow], fun q hq => by
    have e : ((w.alloc (.cells old T)).setRow w.heap.size cs).heap[q]? = (w.alloc (.cells old T)).heap[q]? := by
      simp only [World.setRow, Array.getElem?_modify]
      rw [if_neg (by omega)]
    exact e.trans (h0.block q hq)⟩
theorem infoB : (Try.prog.info? 42).map (fun i => (i.zero, i.size, i.bytes)) = some (some (.agg #[.string ⟨#[]⟩, .string ⟨#[]⟩, .int .i64 0, .int .i64 0, .int .i64 0]), 5, 56) := by kernel_rfl
theorem info_parts {T : TypeId} {z : Value} {s b : Nat} (h : (Try.prog.info? T).map (fun i => (i.zero, i.size, i.bytes)) = some (some z, s, b)) : ∃ i, Try.prog.info? T = some i ∧ i.zero = some z ∧ i.size = s ∧ i.bytes = b := by
  cases hq : Try.prog.info? T with
  | none => simp [hq] at h
  | some i => simp [hq] at h; exact ⟨i, rfl, h.1, h.2.1, h.2.2⟩
structure RS (w W : World) (lg lo N cap pb : Nat) (l1 l2 : List Bk) (b p : Bk) : Prop where
  row : RowAt W 42 5 (.slice (some ⟨lg, lo, none⟩) N cap) N (flatL Bk.cl (l1 ++ b :: l2))
  bel : Below w.heap.size w W
  pbk : Blk W pb 42 p.cs
theorem flat_setB (l1 l2 : List Bk) (b b' : Bk) (j : Nat) (v : Value) (hj : j < 5) (hb : b'.cl = b.cl.set j v) : (flatL Bk.cl (l1 ++ b :: l2)).set (l1.length * 5 + j) v = flatL Bk.cl (l1 ++ b' :: l2) := by
  rw [flatL_app, flatL_app, List.set_append_right _ _ (by rw [flatL_len Bk.cl_len]; omega), flatL_len Bk.cl_len]
  refine congrArg _ ?_
  show (b.cl ++ flatL Bk.cl l2).set _ _ = b'.cl ++ flatL Bk.cl l2
  rw [show l1.length * 5 + j - l1.length * 5 = j by omega, List.set_append_left _ _ (by rw [Bk.cl_len]; exact hj), hb]
theorem RS.step {w W : World} {lg lo N cap pb : Nat} {l1 l2 : List Bk} {b p : Bk} (h : RS w W lg lo N cap pb l1 l2 b p) (hlow : w.heap.size ≤ lg) (hpl : pb ≠ lg) {i j : Nat} (hi : l1.length = i) (hj : j < 5) (v : Value) (b' : Bk) (hb : b'.cl = b.cl.set j v) :
    RS w ((W.setCell ⟨lg, lo + i * 5 + j, none⟩ v).drew) lg lo N cap pb l1 l2 b' p := by
  subst hi
  have hlen : l1.length * 5 + j < (flatL Bk.cl (l1 ++ b :: l2)).length := by rw [flatL_len Bk.cl_len]; simp; omega
  have h1 := h.row.set hlen v
  rw [flat_setB l1 l2 b b' j v hj hb, ← Nat.add_assoc] at h1
  have hbd : Below (W.setCell ⟨lg, lo + l1.length * 5 + j, none⟩ v).heap.size (W.setCell ⟨lg, lo + l1.length * 5 + j, none⟩ v) (W.setCell ⟨lg, lo + l1.length * 5 + j, none⟩ v).drew := ⟨rfl, rfl, rfl, Nat.le_refl _, fun _ _ => rfl⟩
  have h2 := below_set h.bel hlow (lo + l1.length * 5 + j) v
  exact ⟨h1.fr (Fr.of_below hbd (fun _ => False)) fun _ _ => id, below_step h2 hbd, (h.pbk.other hpl _ v).below hbd (h.pbk.other hpl _ v).lt⟩
theorem RS.cell {w W : World} {lg lo N cap pb : Nat} {l1 l2 : List Bk} {b p : Bk} (h : RS w W lg lo N cap pb l1 l2 b p) {i j : Nat} (hi : l1.length = i) (hj : j < 5) {v : Value} (hv : b.cl[j]? = some v) : W.cell? ⟨lg, lo + i * 5 + j, none⟩ = some v ∧ W.frozen? ⟨lg, lo + i * 5 + j, none⟩ = false := by
  subst hi
  refine ⟨?_, h.row.frozen rfl _⟩
  rw [Nat.add_assoc]
  exact h.row.cell rfl ((flatL_get Bk.cl_len (l := l1 ++ b :: l2) (i := l1.length) (by simp) hj).trans hv)
set_option maxRecDepth 100000 in
set_option maxHeartbeats 4000000 in
theorem bookings_any (t : Tr) (w : World) (hm : t.may = true) : Calls Try.prog 25 #[.agg t.cs] w fun e w' => ∃ v, e = .returned v ∧ Hid (RowAt w' 42 5 v (bkL t).length (flatL Bk.cl (bkL t)) ∧ Below w.heap.size w w' ∧ ∀ q, v.ownBlock = some q → w.heap.size ≤ q) := by
  have HMay : Hid (t.may = true) := hm
  have hv := val_bd hm
  obtain ⟨h1, h2, h3, h4⟩ := may_iff.1 hm
  have w1 : wrap64 (t.pr * t.qt) = t.pr * t.qt := by unfold wrap64; omega
  have w2 : wrap64 (-(t.pr * t.qt)) = -(t.pr * t.qt) := by unfold wrap64; omega
  have w3 : wrap64 (-t.qt) = -t.qt := by unfold wrap64; omega
  have w4 : wrap64 (-t.bf) = -t.bf := by unfold wrap64; omega
  have w5 : wrap64 (-t.bf - t.sf) = -t.bf - t.sf := by unfold wrap64; omega
  have hps : (∀ k : Nat, k < 3 → ∀ (W : World), (Instr.index 86 (.agg #[.string t.bu, .string t.sy, .int .i64 t.qt, .int .i64 (-(t.pr * t.qt)), .int .i64 t.bf, .string t.se, .string t.sy, .int .i64 (-t.qt), .int .i64 (t.pr * t.qt), .int .i64 t.sf, .string ⟨#[]⟩, .string t.sy, .int .i64 0, .int .i64 0, .int .i64 (-t.bf - t.sf)]) (.int .i64 (k : Int))).run Try.prog W = .ok (.agg (pP t k).cs) W) := fun k hk W => by
    rcases (by omega : k = 0 ∨ k = 1 ∨ k = 2) with rfl | rfl | rfl
    · kernel_rfl
    · kernel_rfl
    · kernel_rfl
  have HPs : Hid (∀ k : Nat, k < 3 → ∀ (W : World), (Instr.index 86 (.agg #[.string t.bu, .string t.sy, .int .i64 t.qt, .int .i64 (-(t.pr * t.qt)), .int .i64 t.bf, .string t.se, .string t.sy, .int .i64 (-t.qt), .int .i64 (t.pr * t.qt), .int .i64 t.sf, .string ⟨#[]⟩, .string t.sy, .int .i64 0, .int .i64 0, .int .i64 (-t.bf - t.sf)]) (.int .i64 (k : Int))).run Try.prog W = .ok (.agg (pP t k).cs) W) := hps
  clear hps
  obtain ⟨i0, hi, hz0, hz1, hz2⟩ := info_parts infoB
  have HI : Hid (Try.prog.info? 42 = some i0 ∧ i0.zero = some (.agg #[.string ⟨#[]⟩, .string ⟨#[]⟩, .int .i64 0, .int .i64 0, .int .i64 0]) ∧ i0.size = 5 ∧ i0.bytes = 56) := ⟨hi, hz0, hz1, hz2⟩
  clear hi hz0 hz1 hz2
  have hmf : ∀ (fn : Fn) (first cap : Array Value) (w : World), (Instr.makeFunc fn first cap).run Try.prog w = .ok (.func fn first cap) w := fun _ _ _ _ => rfl
  clear hm h1 h2 h3 h4 hv
  have hmk : ∀ W : World, (Instr.makeSlice 39 (.int .i64 0) (.int .i64 3)).run Try.prog W = .ok (.slice (some ⟨W.heap.size, 0, none⟩) 0 3) (W.alloc (.cells #[.string ⟨#[]⟩, .string ⟨#[]⟩, .int .i64 0, .int .i64 0, .int .i64 0, .string ⟨#[]⟩, .string ⟨#[]⟩, .int .i64 0, .int .i64 0, .int .i64 0, .string ⟨#[]⟩, .string ⟨#[]⟩, .int .i64 0, .int .i64 0, .int .i64 0] 42)) := fun W => by kernel_rfl
  unfold Tr.cs
  go_enter Try.func25, Try.ntmps25
  go_wp2
  simp only [w1, w2, w3, w4, w5]
  clear w1 w2 w3 w4 w5
  have HS0 : Hid (∀ (W : World) (n : Nat), n = W.heap.size → Below w.heap.size w W → w.heap.size ≤ W.heap.size → RowAt (W.alloc (.cells #[.string ⟨#[]⟩, .string ⟨#[]⟩, .int .i64 0, .int .i64 0, .int .i64 0, .string ⟨#[]⟩, .string ⟨#[]⟩, .int .i64 0, .int .i64 0, .int .i64 0, .string ⟨#[]⟩, .string ⟨#[]⟩, .int .i64 0, .int .i64 0, .int .i64 0] 42)) 42 5 (.slice (some ⟨n, 0, none⟩) 0 3) (upB t 0).length (flatL Bk.cl (upB t 0)) ∧ Below w.heap.size w (W.alloc (.cells #[.string ⟨#[]⟩, .string ⟨#[]⟩, .int .i64 0, .int .i64 0, .int .i64 0, .string ⟨#[]⟩, .string ⟨#[]⟩, .int .i64 0, .int .i64 0, .int .i64 0, .string ⟨#[]⟩, .string ⟨#[]⟩, .int .i64 0, .int .i64 0, .int .i64 0] 42))) := fun W n hn hb hle => ⟨⟨rfl, .inr ⟨n, 0, 3, _, rfl, (hn ▸ heap_alloc_new W _), by show 0 ≤ 3; omega, by decide, by simp, rfl⟩⟩, hb.alloc hle _⟩
  go_loopw [5, 48] (fun lv i wr => ∃ k : Nat, k ≤ 3 ∧ i = .int .i64 k ∧ Hid (RowAt wr 42 5 lv (upB t k).length (flatL Bk.cl (upB t k)) ∧ Below w.heap.size w wr ∧ ∀ q, lv.ownBlock = some q → w.heap.size ≤ q)) (fun _ i _ => 3 - (intOf i).toNat)
  case atStart =>
    refine ⟨0, by omega, rfl, ?_⟩
    have hb1 : Below w.heap.size w ((w.alloc (.cells #[.string t.sy, .string t.bu, .string t.se, .int .i64 t.pr, .int .i64 t.qt, .int .i64 t.bf, .int .i64 t.sf] 69)).alloc (.cells #[.string t.bu, .string t.sy, .int .i64 t.qt, .int .i64 (-(t.pr * t.qt)), .int .i64 t.bf, .string t.se, .string t.sy, .int .i64 (-t.qt), .int .i64 (t.pr * t.qt), .int .i64 t.sf, .string ⟨#[]⟩, .string t.sy, .int .i64 0, .int .i64 0, .int .i64 (-t.bf - t.sf)] 86)) := ((Below.refl _ w).alloc (Nat.le_refl _) _).alloc (by simp) _
    have h := HS0.out _ (w.heap.size + 1 + 1) (by simp) hb1 hb1.size
    refine ⟨h.1, h.2, fun q hq => ?_⟩
    · simp [Value.ownBlock] at hq
      omega
  case round =>
    obtain ⟨k, hk, rfl, HI1⟩ := hrel
    clear HS0
    by_cases hlt : k < 3
    · have hlt' : (k : Int) < 3 := by omega
      obtain ⟨ao, cap, rfl, hcap⟩ := HI1.out.1.form
      have HLn : Hid ((upB t k).length ≤ k) := upB_len t k
      go_upto_region 6 with fail
      rename_i K6 hK6
      refine wp_region_lit ?_
      refine wpList_runTo rfl (some 50) rfl (.agg (pP t k).cs) wr (by exact exIdx (.tmp 47) (.tmp 48) rfl (by kernel_rfl) (by kernel_rfl) (HPs.out k hlt wr)) ?_
      simp only [Act.put, List.setIfInBounds_toArray, List.set_cons_zero, List.set_cons_succ]
      refine wpList_runTo rfl (some 7) rfl (.pointer (some ⟨wr.heap.size, 0, none⟩)) (wr.alloc (.cells #[.string ⟨#[]⟩, .string ⟨#[]⟩, .int .i64 0, .int .i64 0, .int .i64 0] 42)) (by kernel_rfl) ?_
      simp only [Act.put, List.setIfInBounds_toArray, List.set_cons_zero, List.set_cons_succ]
      refine wpList_store_row rfl 42 (.tmp 7) (.tmp 50) rfl wr.heap.size (pP t k).cs (by kernel_rfl) (by kernel_rfl) 42 _ (Blk.new _ _ _) (by kernel_rfl) rfl (by kernel_rfl) ?_
      refine wpList_nil ?_
      simp only [Act.put, List.setIfInBounds_toArray, List.set_cons_zero, List.set_cons_succ]
      have hbX : Below wr.heap.size wr ((wr.alloc (.cells #[.string ⟨#[]⟩, .string ⟨#[]⟩, .int .i64 0, .int .i64 0, .int .i64 0] 42)).setRow wr.heap.size (pP t k).cs) := below_alloc_set _ _
      have hpX : Blk ((wr.alloc (.cells #[.string ⟨#[]⟩, .string ⟨#[]⟩, .int .i64 0, .int .i64 0, .int .i64 0] 42)).setRow wr.heap.size (pP t k).cs) wr.heap.size 42 (pP t k).cs := setRow_heap _ _ _ _ _ _ (Blk.new _ _ _)
      have hls : w.heap.size ≤ wr.heap.size := HI1.out.2.1.size
      have HX : Hid (RowAt ((wr.alloc (.cells #[.string ⟨#[]⟩, .string ⟨#[]⟩, .int .i64 0, .int .i64 0, .int .i64 0] 42)).setRow wr.heap.size (pP t k).cs) 42 5 (.slice ao (upB t k).length cap) (upB t k).length (flatL Bk.cl (upB t k)) ∧ Below w.heap.size w ((wr.alloc (.cells #[.string ⟨#[]⟩, .string ⟨#[]⟩, .int .i64 0, .int .i64 0, .int .i64 0] 42)).setRow wr.heap.size (pP t k).cs)) := ⟨HI1.out.1.fr (Fr.of_below hbX (fun _ => False)) fun _ _ => id, below_step HI1.out.2.1 hbX⟩
      have HPb : Hid (Blk ((wr.alloc (.cells #[.string ⟨#[]⟩, .string ⟨#[]⟩, .int .i64 0, .int .i64 0, .int .i64 0] 42)).setRow wr.heap.size (pP t k).cs) wr.heap.size 42 (pP t k).cs ∧ w.heap.size ≤ wr.heap.size ∧ ∀ q, (Value.slice ao (upB t k).length cap).ownBlock = some q → q < wr.heap.size ∧ w.heap.size ≤ q) := ⟨hpX, hls, fun q hq => ⟨(HI1.out.1.lt hq).1, HI1.out.2.2 q hq⟩⟩
      have HUp : Hid (upB t (k + 1) = putB (upB t k) (pP t k)) := rfl
      have HMd : Hid ((∀ b ∈ upB t k, b.mid k) ∧ (pP t k).mid 1) := ⟨upB_mid HMay.out k, pP_mid HMay.out k⟩
      clear hbX hpX hls HI1 HPs HMay
      generalize (wr.alloc (.cells #[.string ⟨#[]⟩, .string ⟨#[]⟩, .int .i64 0, .int .i64 0, .int .i64 0] 42)).setRow wr.heap.size (pP t k).cs = X at *
      generalize wr.heap.size = pb at *
      generalize hl' : upB t (k + 1) = l' at *
      have HUp2 : Hid (upB t (k + 1) = l') := hl'
      clear hl'
      generalize upB t k = l at *
      generalize pP t k = p at *
      refine hK6 _ _ ?_
      clear hK6
      go_wp2_with (go_at_call 40; fail)
      refine (IndexFunc_any l p pb _ X HPb.out.1 HX.out.1 (by have := HLn.out; omega)).mono ?_
      rintro e w2 ⟨rfl, hb2⟩
      have HX2 : Hid (RowAt w2 42 5 (.slice ao l.length cap) l.length (flatL Bk.cl l) ∧ Below w.heap.size w w2 ∧ Blk w2 pb 42 p.cs) := ⟨HX.out.1.fr (Fr.of_below hb2 (fun _ => False)) fun _ _ => id, below_step HX.out.2 hb2, HPb.out.1.below hb2 HPb.out.1.lt⟩
      have HLow : Hid (w.heap.size ≤ pb ∧ ∀ q, (Value.slice ao l.length cap).ownBlock = some q → q < pb ∧ w.heap.size ≤ q) := HPb.out.2
      clear hb2 HX HPb
      have HIx : Hid (idxI l p.ac = match idxB l p.ac with | some i => (i : Int) | none => -1) := rfl
      cases hix : idxB l p.ac with
      | none =>
        have HU : Hid (l' = l ++ [p]) := by rw [HUp.out]; exact putB_none hix
        have hi1 : idxI l p.ac = -1 := by rw [HIx.out, hix]
        clear hix HIx HUp HMd
        rw [hi1]
        clear hi1
        go_upto_region 9 with fail
        refine wp_region_lit ?_
        refine wpList_runTo rfl (some 56) rfl (.slice ao l.length cap) w2 (by kernel_rfl) ?_
        simp only [Act.put, List.setIfInBounds_toArray, List.set_cons_zero, List.set_cons_succ]
        refine wpList_runTo rfl (some 57) rfl (.agg p.cs) w2 (by exact ldK_run HX2.out.2.2.range rfl (.tmp 7) rfl (by kernel_rfl)) ?_
        simp only [Act.put, List.setIfInBounds_toArray, List.set_cons_zero, List.set_cons_succ]
        refine wpList_runTo rfl (some 58) rfl (.slice (some ⟨w2.heap.size, 0, none⟩) 1 1) (w2.alloc (.cells p.cs 42)) (by kernel_rfl) ?_
        simp only [Act.put, List.setIfInBounds_toArray, List.set_cons_zero, List.set_cons_succ]
        have hrA : RowAt (w2.alloc (.cells p.cs 42)) 42 5 (.slice ao l.length cap) l.length (flatL Bk.cl l) := HX2.out.1.fr (Fr.alloc w2 _ (fun _ => False)) fun _ _ => id
        refine wpList_append_row _ rfl (.tmp 56) (.tmp 58) 39 rfl 42 i0 _ 5 56 Try.underlying39 HI.out.1 HI.out.2.1 HI.out.2.2.1 HI.out.2.2.2 (by rfl) (.slice ao l.length cap) l.length (flatL Bk.cl l) (by kernel_rfl) hrA ⟨w2.heap.size, 0, none⟩ 1 1 p.cl (by kernel_rfl) (by rfl) (fun j u hj => by rw [Addr.add_mid, Nat.zero_add, (Blk.new w2 42 p.cs).cell, ← Array.getElem?_toList]; exact hj) (Bk.cl_one p) (.inl (by decide)) (by have := HLn.out; unfold maxLen; omega) (by have := HLn.out; omega) ?_
        intro v5 w5 hrow hfr hnew
        refine wpList_runTo rfl (some 5) rfl v5 w5 (by kernel_rfl) ?_
        refine wpList_nil ?_
        simp only [Act.put, List.setIfInBounds_toArray, List.set_cons_zero, List.set_cons_succ]
        have HF : Hid (RowAt w5 42 5 v5 l'.length (flatL Bk.cl l') ∧ Below w.heap.size w w5 ∧ ∀ q, v5.ownBlock = some q → w.heap.size ≤ q) := by
          have hbA : Below w.heap.size w (w2.alloc (.cells p.cs 42)) := HX2.out.2.1.alloc HX2.out.2.1.size _
          refine ⟨?_, ⟨hfr.os.trans hbA.os, hfr.tape.trans hbA.tape, hfr.output.trans hbA.output, Nat.le_trans hbA.size hfr.size, fun q hq => (hfr.block q (Nat.lt_of_lt_of_le hq hbA.size) (fun e => by have := (HLow.out.2 q e).2; omega)).trans (hbA.block q hq)⟩, fun q hq => ?_⟩
          · rw [HU.out, List.length_append, flatL_app, flatL_one]
            exact hrow
          · rcases hnew with h1 | ⟨h1, _⟩
            · exact (HLow.out.2 q (h1 ▸ hq)).2
            · rw [h1] at hq
              injection hq with hq
              have := hbA.size
              omega
        clear hrow hfr hnew hrA
        go_wp2
        exact ⟨⟨k + 1, by omega, by go_num, HUp2.out ▸ HF⟩, by simp [intOf]; omega⟩
      | some i =>
        obtain ⟨l1, b, l2, hl, hl1, hpu⟩ := putB_some hix
        have hi1 : idxI l p.ac = (i : Int) := by rw [HIx.out, hix]
        have HU : Hid (l' = l1 ++ b.plus p :: l2 ∧ l = l1 ++ b :: l2 ∧ l1.length = i) := ⟨by rw [HUp.out]; exact hpu, hl, hl1⟩
        have hlen : i < l.length := by rw [hl, ← hl1]; simp
        have hmb : b.mid k := HMd.out.1 b (by rw [hl]; exact List.mem_append_right _ List.mem_cons_self)
        have hmp : p.mid 1 := HMd.out.2
        have HRg : Hid (-9223372036854775808 ≤ b.q + p.q ∧ b.q + p.q ≤ 9223372036854775807 ∧ -9223372036854775808 ≤ b.c + p.c ∧ b.c + p.c ≤ 9223372036854775807 ∧ -9223372036854775808 ≤ b.f + p.f ∧ b.f + p.f ≤ 9223372036854775807) := by
          unfold Bk.mid at hmb hmp
          have : (k : Int) * 2000000000000000 ≤ 6000000000000000 := by omega
          exact ⟨by omega, by omega, by omega, by omega, by omega, by omega⟩
        obtain ⟨lg, lo, capv, _, hv, _⟩ := HX2.out.1.more (by omega)
        injection hv with hv1 _ hv3
        subst hv1 hv3
        clear hix HIx HUp HMd hmb hmp hl hl1 hpu
        rw [hi1]
        clear hi1
        have HN : Hid (l.length ≤ k) := HLn.out
        generalize hN : l.length = N at *
        have hii : (i : Int) < (N : Int) := by omega
        have hi0 : ¬ (i : Int) < 0 := by omega
        have hpl : pb ≠ lg := by have := (HLow.out.2 lg rfl).1; omega
        have hpl' : lg ≠ pb := Ne.symm hpl
        have HR0 : Hid (RS w w2 lg lo N cap pb l1 l2 b p) := ⟨by rw [← HU.out.2.1]; exact HX2.out.1, HX2.out.2.1, HX2.out.2.2⟩
        have HLg : Hid (w.heap.size ≤ lg) := (HLow.out.2 lg rfl).2
        clear HX2
        obtain ⟨c2, f2⟩ := HR0.out.cell HU.out.2.2 (j := 2) (by decide) (v := .int .i64 b.q) rfl
        have p2 : w2.cell? ⟨pb, 2, none⟩ = some (.int .i64 p.q) := HR0.out.pbk.cell 2
        have r1 := HRg.out.1
        have r2 := HRg.out.2.1
        go_upto_region 10 with fail
        rename_i K10 hK10
        go_region
        refine hK10 _ _ ?_
        have HR1 : Hid (RS w ((w2.setCell ⟨lg, lo + i * 5 + 2, none⟩ (.int .i64 (b.q + p.q))).drew) lg lo N cap pb l1 l2 ⟨b.ac, b.sy, b.q + p.q, b.c, b.f⟩ p) := HR0.out.step HLg.out hpl HU.out.2.2 (by decide) _ _ rfl
        clear HR0 c2 f2 p2 r1 r2 hK10
        generalize (w2.setCell ⟨lg, lo + i * 5 + 2, none⟩ (.int .i64 (b.q + p.q))).drew = w3 at *
        obtain ⟨c2, f2⟩ := HR1.out.cell HU.out.2.2 (j := 3) (by decide) (v := .int .i64 b.c) rfl
        have p2 : w3.cell? ⟨pb, 3, none⟩ = some (.int .i64 p.c) := HR1.out.pbk.cell 3
        have r1 := HRg.out.2.2.1
        have r2 := HRg.out.2.2.2.1
        go_upto_region 11 with fail
        rename_i K11 hK11
        go_region
        refine hK11 _ _ ?_
        have HR2 : Hid (RS w ((w3.setCell ⟨lg, lo + i * 5 + 3, none⟩ (.int .i64 (b.c + p.c))).drew) lg lo N cap pb l1 l2 ⟨b.ac, b.sy, b.q + p.q, b.c + p.c, b.f⟩ p) := HR1.out.step HLg.out hpl HU.out.2.2 (by decide) _ _ rfl
        clear HR1 c2 f2 p2 r1 r2 hK11
        generalize (w3.setCell ⟨lg, lo + i * 5 + 3, none⟩ (.int .i64 (b.c + p.c))).drew = w4 at *
        obtain ⟨c2, f2⟩ := HR2.out.cell HU.out.2.2 (j := 4) (by decide) (v := .int .i64 b.f) rfl
        have p2 : w4.cell? ⟨pb, 4, none⟩ = some (.int .i64 p.f) := HR2.out.pbk.cell 4
        have r1 := HRg.out.2.2.2.2.1
        have r2 := HRg.out.2.2.2.2.2
        go_upto_region 12 with fail
        go_region
        have HR3 : Hid (RS w ((w4.setCell ⟨lg, lo + i * 5 + 4, none⟩ (.int .i64 (b.f + p.f))).drew) lg lo N cap pb l1 l2 (b.plus p) p) := HR2.out.step HLg.out hpl HU.out.2.2 (by decide) _ _ rfl
        clear HR2 c2 f2 p2 r1 r2
        generalize (w4.setCell ⟨lg, lo + i * 5 + 4, none⟩ (.int .i64 (b.f + p.f))).drew = w5 at *
        have HF : Hid (RowAt w5 42 5 (.slice (some ⟨lg, lo, none⟩) N cap) l'.length (flatL Bk.cl l') ∧ Below w.heap.size w w5 ∧ ∀ q, (Value.slice (some ⟨lg, lo, none⟩) N cap).ownBlock = some q → w.heap.size ≤ q) := by
          refine ⟨?_, HR3.out.bel, fun q hq => (HLow.out.2 q hq).2⟩
          have hln : l'.length = N := by rw [HU.out.1, ← hN, HU.out.2.1]; simp
          rw [hln, HU.out.1]
          exact HR3.out.row
        clear HR3 HRg hN
        go_wp2
        exact ⟨⟨k + 1, by omega, by go_num, HUp2.out ▸ HF⟩, by simp [intOf]; omega⟩
    · have hk3 : k = 3 := by omega
      have HF : Hid (RowAt wr 42 5 u5 (bkL t).length (flatL Bk.cl (bkL t)) ∧ Below w.heap.size w wr ∧ ∀ q, u5.ownBlock = some q → w.heap.size ≤ q) := by
        have := HI1.out
        rw [hk3] at this
        exact this
      have hstop : ¬ (k : Int) < 3 := by omega
      clear hlt hk3 HI1
      go_wp2
      go_ret
      exact ⟨_, rfl, HF⟩
end Go.Proofs.Ytidhahooebepfaa
