/-
  ledger: Balance, Cash; trades that are refused.
-/
import Derived.Test.YtidhahooebepfaaJTrade
namespace Go.Proofs.Ytidhahooebepfaa
set_option linter.unusedVariables false
set_option linter.unusedSimpArgs false
open Go.RowKit Go.Great Go.Maps

set_option maxRecDepth 100000 in
set_option maxHeartbeats 1000000 in
theorem Balance_any (G : Lg) (ac sy : ByteArray) (w : World) (h : LgAt w G) (h1 : ac.size ≤ maxLen) (h2 : sy.size ≤ maxLen) :
    Calls Try.prog 13 #[.pointer (some ⟨G.g, 0, none⟩), .string ac, .string sy] w fun e w' => e = .returned (.tuple #[.int .i64 (amt G.A ac sy).q, .int .i64 (amt G.A ac sy).c]) ∧ Below w.heap.size w w' := by
  have hlk : (Instr.lookup 63 (.map (some G.ma)) (.agg #[.string ac, .string sy]) false).run Try.prog w = .ok (.agg (amt G.A ac sy).cs) w := by
    rw [(h.all.look lawP Try.underlying63 (zeroA _) (keyP ac sy h1 h2)).2, atL_amt h.szA h1 h2]
  have c0 : w.cell? ⟨G.g, 0, none⟩ = some (.map (some G.ma)) := h.blk.cell 0
  clear h h1 h2
  generalize amt G.A ac sy = a at *
  obtain ⟨q, c, f⟩ := a
  simp only [Am.cs] at *
  have HB : Hid (Below w.heap.size w (w.alloc (.cells #[.int .i64 q, .int .i64 c, .int .i64 f] 73))) := (Below.refl _ w).alloc (Nat.le_refl _) _
  go_enter Try.func13, Try.ntmps13
  go_upto_region 2 with fail
  go_quiet (fail)
  go_wp2
  go_ret2
  exact ⟨rfl, below_drewN HB.out _⟩
set_option maxRecDepth 100000 in
set_option maxHeartbeats 1000000 in
theorem Cash_any (G : Lg) (ac : ByteArray) (w : World) (h : LgAt w G) (h1 : ac.size ≤ maxLen) :
    Calls Try.prog 15 #[.pointer (some ⟨G.g, 0, none⟩), .string ac] w fun e w' => e = .returned (.tuple #[.int .i64 (tot G.O ac).1, .int .i64 (tot G.O ac).2]) ∧ Below w.heap.size w w' := by
  have hlk : (Instr.lookup 64 (.map (some G.mo)) (.string ac) false).run Try.prog w = .ok (.agg #[.int .i64 (tot G.O ac).1, .int .i64 (tot G.O ac).2]) w := by
    rw [(h.tot.look law9 Try.underlying64 (zeroT _) (keyS Try.underlying9 h1)).2, atL_tot]
  have c0 : w.cell? ⟨G.g, 2, none⟩ = some (.map (some G.mo)) := h.blk.cell 2
  clear h h1
  generalize tot G.O ac = a at *
  obtain ⟨m, f⟩ := a
  simp only at *
  have HB : Hid (Below w.heap.size w (w.alloc (.cells #[.int .i64 m, .int .i64 f] 77))) := (Below.refl _ w).alloc (Nat.le_refl _) _
  go_enter Try.func15, Try.ntmps15
  go_upto_region 2 with fail
  go_quiet (fail)
  go_wp2
  go_ret2
  exact ⟨rfl, below_drewN HB.out _⟩
set_option maxRecDepth 100000 in
set_option maxHeartbeats 1000000 in
theorem Trade_arg (G : Lg) (t : Tr) (w : World) (hm : t.may = false) :
    Calls Try.prog 10 #[.pointer (some ⟨G.g, 0, none⟩), .string t.sy, .string t.bu, .string t.se, .int .i64 t.pr, .int .i64 t.qt, .int .i64 t.bf, .int .i64 t.sf] w fun e w' => e = .returned (.int .i64 1) ∧ Below w.heap.size w w' := by
  have HM := mayBe_any t
  rw [hm] at HM
  have HB : Hid (Below w.heap.size w (w.alloc (.cells t.cs 69))) := (Below.refl _ w).alloc (Nat.le_refl _) _
  have HT : Hid (Blk (w.alloc (.cells t.cs 69)) w.heap.size 69 t.cs) := Blk.new _ _ _
  clear hm
  go_enter Try.func10, Try.ntmps10
  go_upto_region 2 with fail
  rw [show (#[.string t.sy, .string t.bu, .string t.se, .int .i64 t.pr, .int .i64 t.qt, .int .i64 t.bf, .int .i64 t.sf] : Array Value) = t.cs from rfl]
  generalize w.alloc (.cells t.cs 69) = W1 at *
  rename_i K2 hK2
  refine wp_region_lit ?_
  refine wpList_runTo rfl (some 27) rfl (.agg t.cs) W1 (by exact ldR_run HT.out.range rfl (.tmp 17) rfl (by kernel_rfl)) ?_
  simp only [Act.put, List.setIfInBounds_toArray, List.set_cons_zero, List.set_cons_succ]
  refine wpList_callW rfl (some 28) rfl 23 #[.agg t.cs] (by kernel_rfl) (HM W1) ?_
  rintro e W2 ⟨rfl, hb2⟩
  refine ⟨_, rfl, ?_⟩
  simp only [Act.put, List.setIfInBounds_toArray, List.set_cons_zero, List.set_cons_succ]
  refine wpList_runTo rfl (some 29) rfl (.bool true) W2 (by kernel_rfl) ?_
  simp only [Act.put, List.setIfInBounds_toArray, List.set_cons_zero, List.set_cons_succ]
  refine wpList_nil ?_
  refine hK2 _ _ ?_
  have HF : Hid (Below w.heap.size w W2) := below_step HB.out hb2
  clear hb2 HM hK2 HB HT
  go_wp2
  go_ret
  exact ⟨rfl, HF.out⟩
set_option maxRecDepth 100000 in
set_option maxHeartbeats 1000000 in
theorem Trade_many (G : Lg) (t : Tr) (w : World) (h : LgAt w G) (hm : t.may = true) (hl : 100000 ≤ G.bs.length) :
    Calls Try.prog 10 #[.pointer (some ⟨G.g, 0, none⟩), .string t.sy, .string t.bu, .string t.se, .int .i64 t.pr, .int .i64 t.qt, .int .i64 t.bf, .int .i64 t.sf] w fun e w' => e = .returned (.int .i64 122) ∧ Below w.heap.size w w' := by
  have HM := mayBe_any t
  rw [hm] at HM
  have HL : Hid (LgAt (w.alloc (.cells t.cs 69)) G) := h.below ((Below.refl _ w).alloc (Nat.le_refl _) _)
  have HB : Hid (Below w.heap.size w (w.alloc (.cells t.cs 69))) := (Below.refl _ w).alloc (Nat.le_refl _) _
  have HT : Hid (Blk (w.alloc (.cells t.cs 69)) w.heap.size 69 t.cs) := Blk.new _ _ _
  obtain ⟨abv, cbv, hbv, _⟩ := h.brs.form
  have HBv : Hid (G.bv = .slice abv G.bs.length cbv) := hbv
  have hl' : (100000 : Int) ≤ (G.bs.length : Int) := by omega
  clear hm h hl hbv
  go_enter Try.func10, Try.ntmps10
  go_upto_region 2 with fail
  rw [show (#[.string t.sy, .string t.bu, .string t.se, .int .i64 t.pr, .int .i64 t.qt, .int .i64 t.bf, .int .i64 t.sf] : Array Value) = t.cs from rfl]
  generalize w.alloc (.cells t.cs 69) = W1 at *
  rename_i K2 hK2
  refine wp_region_lit ?_
  refine wpList_runTo rfl (some 27) rfl (.agg t.cs) W1 (by exact ldR_run HT.out.range rfl (.tmp 17) rfl (by kernel_rfl)) ?_
  simp only [Act.put, List.setIfInBounds_toArray, List.set_cons_zero, List.set_cons_succ]
  refine wpList_callW rfl (some 28) rfl 23 #[.agg t.cs] (by kernel_rfl) (HM W1) ?_
  rintro e W2 ⟨rfl, hb2⟩
  refine ⟨_, rfl, ?_⟩
  simp only [Act.put, List.setIfInBounds_toArray, List.set_cons_zero, List.set_cons_succ]
  refine wpList_runTo rfl (some 29) rfl (.bool false) W2 (by kernel_rfl) ?_
  simp only [Act.put, List.setIfInBounds_toArray, List.set_cons_zero, List.set_cons_succ]
  refine wpList_nil ?_
  refine hK2 _ _ ?_
  have HF : Hid (Below w.heap.size w W2) := below_step HB.out hb2
  have c4 : W2.cell? ⟨G.g, 4, none⟩ = some (.slice abv G.bs.length cbv) := by
    have := (HL.out.below hb2).blk.cell 4
    rw [← HBv.out]
    exact this
  clear hb2 HM hK2 HB HT HL
  go_wp2
  go_ret
  exact ⟨rfl, HF.out⟩
end Go.Proofs.Ytidhahooebepfaa
