/-
  tape: a record.
-/
import Derived.Test.YtjnnecoikcmaeaaTQ0
namespace Go.Proofs.Ytjnnecoikcmaeaa
set_option linter.unusedVariables false
set_option linter.unusedSimpArgs false
open Go.RowKit Go.Great

def crcN (l : List Nat) : Nat := crcEnd (crcRow (dN l) l.length)
/-- A record: the command's length, the sum of that, of its number and of the command, the command. -/
def recL (k : Nat) (l : List Nat) : List Nat := putTo l.length 2 2 ++ putTo (crcN (putTo l.length 2 2 ++ putTo k 4 4 ++ l)) 4 4 ++ l
theorem dN_bb {l : List Nat} (h : BB l) (j : Nat) (hj : j < l.length) : dN l j < 256 := by rw [dN_at hj]; exact h _ (List.getElem_mem hj)
theorem crcN_lt {l : List Nat} (h : BB l) : crcN l < 4294967296 := by
  unfold crcN crcEnd
  exact xor_lt32 (by decide) (crcRow_lt _ _ fun j hj => dN_bb h j hj)
theorem recL_len (k : Nat) (l : List Nat) : (recL k l).length = 6 + l.length := by
  unfold recL
  rw [List.length_append, List.length_append, putTo_length, putTo_length]
theorem recL_bb (k : Nat) {l : List Nat} (h : BB l) : BB (recL k l) := ((putTo_bb _ _ _).app (putTo_bb _ _ _)).app h
theorem Crc_by {w : World} {v : Value} {l : List Nat} (h : By w v l) (h0 : l ≠ []) (hl : l.length ≤ 1048576) : Calls Try.prog 47 #[v] w fun e w' => e = .returned (.int .u32 (crcN l : Int)) ∧ w' = w := by
  obtain ⟨a, cap, rfl, _⟩ := h.form
  obtain ⟨_, _, hs, _⟩ := h.src
  have hmx : 1048576 ≤ maxLen := by decide
  rcases hs with hs | ⟨b, off, rfl, hr⟩
  · exact absurd (List.eq_nil_of_length_eq_zero hs) h0
  · exact Crc_any b off l.length cap (dN l) w (by omega) hr
theorem cvu_run {op : Oper} {a : Act} {k : Nat} (x : Operand) (ho : op.op = .convert 3 105 x) (hx : a.eval x = .int .i64 (k : Int)) (hk : k < 9223372036854775808) (w : World) : (execOp a.eval op).run Try.prog w = .ok (.value (.int .u64 (k : Int))) w := by
  have hw : IntKind.u64.wrap (k : Int) = (k : Int) := by rw [IntKind.wrap_u64]; omega
  unfold execOp
  simp only [ho, hx]
  go_simp
theorem cv3_run {op : Oper} {a : Act} {k : Nat} (x : Operand) (ho : op.op = .convert 112 105 x) (hx : a.eval x = .int .u32 (k : Int)) (hk : k < 4294967296) (w : World) : (execOp a.eval op).run Try.prog w = .ok (.value (.int .u64 (k : Int))) w := by
  have hw : IntKind.u64.wrap (k : Int) = (k : Int) := by rw [IntKind.wrap_u64]; omega
  unfold execOp
  simp only [ho, hx]
  go_simp
set_option maxRecDepth 100000 in
set_option maxHeartbeats 1000000 in
theorem record_any {w : World} {v : Value} {l : List Nat} (h : By w v l) (hl : l.length ≤ 60000) (k : Nat) (hk : k < 1000000000) : Calls Try.prog 32 #[v, .int .i64 (k : Int)] w fun e w' => ∃ v', e = .returned v' ∧ Hid (RowB w w' v' (recL k l)) := by
  have HP : Hid (∀ (W : World) (u s : Nat), s ≤ 8 → u < 18446744073709551616 → Calls Try.prog 46 #[.slice none 0 0, .int .u64 (u : Int), .int .i64 (s : Int)] W fun e w' => ∃ v', e = .returned v' ∧ Hid (OwnB W w' v' (putTo u s s))) := fun W u s hs hu => Put_by W u s hs hu
  have HL : Hid (l.length ≤ 60000) := hl
  have HR : Hid (recL k l = putTo l.length 2 2 ++ putTo (crcN (putTo l.length 2 2 ++ putTo k 4 4 ++ l)) 4 4 ++ l) := rfl
  have HY : Hid (By w v l) := h
  have hp1 : Calls Try.prog 46 #[.slice none 0 0, .int .u64 (l.length : Int), .int .i64 2] w fun e w' => ∃ v', e = .returned v' ∧ Hid (OwnB w w' v' (putTo l.length 2 2)) := HP.out w l.length 2 (by decide) (by omega)
  obtain ⟨va, vc, hvf, _⟩ := h.form
  subst hvf
  clear h
  go_enter Try.func32, Try.ntmps32
  go_wp2_with (go_at_call 46; fail)
  refine hp1.mono ?_
  rintro e W1 ⟨v1, rfl, hx1⟩
  have HY1 : Hid (Below w.heap.size w W1 ∧ By W1 v1 (putTo l.length 2 2) ∧ By W1 (.slice va l.length vc) l) := ⟨hx1.out.bel, hx1.out.by', HY.out.below hx1.out.bel⟩
  obtain ⟨a1, c1, rfl, _⟩ := hx1.out.by'.form
  rw [putTo_length] at *
  clear hx1 hp1 HY
  go_upto_region 2 with fail
  rename_i K2 hK2
  have hp2 : Calls Try.prog 46 #[.slice none 0 0, .int .u64 (k : Int), .int .i64 4] W1 fun e w' => ∃ v', e = .returned v' ∧ Hid (OwnB W1 w' v' (putTo k 4 4)) := HP.out W1 k 4 (by decide) (by omega)
  refine wp_region_lit ?_
  refine wpList_runTo rfl (some 11) rfl (.slice a1 2 c1) W1 (by kernel_rfl) ?_
  simp only [Act.put, List.setIfInBounds_toArray, List.set_cons_zero, List.set_cons_succ]
  refine wpList_runTo rfl (some 12) rfl (.int .i64 (k : Int)) W1 (by kernel_rfl) ?_
  simp only [Act.put, List.setIfInBounds_toArray, List.set_cons_zero, List.set_cons_succ]
  refine wpList_runTo rfl (some 13) rfl (.int .u64 (k : Int)) W1 (by exact cvu_run (.tmp 12) rfl (by kernel_rfl) (by omega) _) ?_
  simp only [Act.put, List.setIfInBounds_toArray, List.set_cons_zero, List.set_cons_succ]
  refine wpList_callW rfl (some 14) rfl 46 #[.slice none 0 0, .int .u64 (k : Int), .int .i64 4] (by kernel_rfl) hp2 ?_
  rintro e W2 ⟨v2, rfl, hx2⟩
  refine ⟨_, rfl, ?_⟩
  have HY2 : Hid (Below w.heap.size w W2 ∧ By W2 (.slice a1 2 c1) (putTo l.length 2 2) ∧ By W2 (.slice va l.length vc) l ∧ By W2 v2 (putTo k 4 4)) := ⟨below_step HY1.out.1 hx2.out.bel, HY1.out.2.1.below hx2.out.bel, HY1.out.2.2.below hx2.out.bel, hx2.out.by'⟩
  obtain ⟨a2, c2, rfl, _⟩ := hx2.out.by'.form
  rw [putTo_length] at *
  clear hx2 hp2 HY1
  simp only [Act.put, List.setIfInBounds_toArray, List.set_cons_zero, List.set_cons_succ]
  refine wpList_runTo rfl (some 15) rfl (.slice va l.length vc) W2 (by kernel_rfl) ?_
  simp only [Act.put, List.setIfInBounds_toArray, List.set_cons_zero, List.set_cons_succ]
  refine wpList_runTo rfl (some 16) rfl (.slice (some ⟨W2.heap.size, 0, none⟩) 3 3) (W2.alloc (.cells #[.slice a1 2 c1, .slice a2 4 c2, .slice va l.length vc] 28)) (by kernel_rfl) ?_
  simp only [Act.put, List.setIfInBounds_toArray, List.set_cons_zero, List.set_cons_succ]
  have hb3 : Below W2.heap.size W2 (W2.alloc (.cells #[.slice a1 2 c1, .slice a2 4 c2, .slice va l.length vc] 28)) := (Below.refl _ W2).alloc (Nat.le_refl _) _
  have hk3 := Blk.new W2 28 #[.slice a1 2 c1, .slice a2 4 c2, .slice va l.length vc]
  have HY3 : Hid (Below w.heap.size w (W2.alloc (.cells #[.slice a1 2 c1, .slice a2 4 c2, .slice va l.length vc] 28)) ∧ By (W2.alloc (.cells #[.slice a1 2 c1, .slice a2 4 c2, .slice va l.length vc] 28)) (.slice a1 2 c1) (putTo l.length 2 2) ∧ By (W2.alloc (.cells #[.slice a1 2 c1, .slice a2 4 c2, .slice va l.length vc] 28)) (.slice va l.length vc) l ∧ By (W2.alloc (.cells #[.slice a1 2 c1, .slice a2 4 c2, .slice va l.length vc] 28)) (.slice a2 4 c2) (putTo k 4 4)) := ⟨below_step HY2.out.1 hb3, HY2.out.2.1.below hb3, HY2.out.2.2.1.below hb3, HY2.out.2.2.2.below hb3⟩
  clear HY2 hb3
  generalize W2.alloc (.cells #[.slice a1 2 c1, .slice a2 4 c2, .slice va l.length vc] 28) = W3 at *
  generalize W2.heap.size = b3 at *
  have hcat := Concat_any b3 3 (fun j => if j = 0 then .slice a1 2 c1 else if j = 1 then .slice a2 4 c2 else .slice va l.length vc) (fun j => if j = 0 then putTo l.length 2 2 else if j = 1 then putTo k 4 4 else l) W3 (by decide) (fun j hj => by
    have : j = 0 ∨ j = 1 ∨ j = 2 := by omega
    rcases this with rfl | rfl | rfl <;> exact hk3.cell _) (fun j hj => by
    have : j = 0 ∨ j = 1 ∨ j = 2 := by omega
    rcases this with rfl | rfl | rfl
    · exact HY3.out.2.1
    · exact HY3.out.2.2.2
    · exact HY3.out.2.2.1) (by show 0 < (([] ++ putTo l.length 2 2) ++ putTo k 4 4 ++ l).length; simp [putTo_length]; omega) (by show (([] ++ putTo l.length 2 2) ++ putTo k 4 4 ++ l).length ≤ _; simp [putTo_length]; omega)
  have hce : catU (fun j => if j = 0 then putTo l.length 2 2 else if j = 1 then putTo k 4 4 else l) 3 = putTo l.length 2 2 ++ putTo k 4 4 ++ l := rfl
  rw [hce] at hcat
  refine wpList_callW rfl (some 17) rfl 48 #[.slice (some ⟨b3, 0, none⟩) 3 3] (by kernel_rfl) hcat ?_
  rintro e W4 ⟨v4, rfl, hx4⟩
  refine ⟨_, rfl, ?_⟩
  have HY4 : Hid (Below w.heap.size w W4 ∧ By W4 (.slice a1 2 c1) (putTo l.length 2 2) ∧ By W4 (.slice va l.length vc) l) := ⟨below_step HY3.out.1 hx4.out.bel, HY3.out.2.1.below hx4.out.bel, HY3.out.2.2.1.below hx4.out.bel⟩
  have hcr := Crc_by hx4.out.by' (by intro e; have := congrArg List.length e; simp [putTo_length] at this) (by rw [List.length_append, List.length_append, putTo_length, putTo_length]; omega)
  have hclt := crcN_lt hx4.out.bb
  clear hcat hce hx4 HY3 hk3
  simp only [Act.put, List.setIfInBounds_toArray, List.set_cons_zero, List.set_cons_succ]
  generalize hC : crcN (putTo l.length 2 2 ++ putTo k 4 4 ++ l) = C at *
  refine wpList_callW rfl (some 18) rfl 47 #[v4] (by kernel_rfl) hcr ?_
  rintro e W5 ⟨rfl, ew⟩
  replace ew := ew.symm
  subst ew
  refine ⟨_, rfl, ?_⟩
  simp only [Act.put, List.setIfInBounds_toArray, List.set_cons_zero, List.set_cons_succ]
  refine wpList_runTo rfl (some 6) rfl (.int .u32 (C : Int)) W4 (by kernel_rfl) ?_
  simp only [Act.put, List.setIfInBounds_toArray, List.set_cons_zero, List.set_cons_succ]
  refine wpList_nil ?_
  refine hK2 _ _ ?_
  clear hK2 hcr
  have HC : Hid (crcN (putTo l.length 2 2 ++ putTo k 4 4 ++ l) = C) := hC
  clear hC
  go_upto_region 3 with fail
  rename_i K3 hK3
  have hp6 : Calls Try.prog 46 #[.slice none 0 0, .int .u64 (C : Int), .int .i64 4] W4 fun e w' => ∃ v', e = .returned v' ∧ Hid (OwnB W4 w' v' (putTo C 4 4)) := HP.out W4 C 4 (by decide) (by omega)
  refine wp_region_lit ?_
  refine wpList_runTo rfl (some 19) rfl (.slice a1 2 c1) W4 (by kernel_rfl) ?_
  simp only [Act.put, List.setIfInBounds_toArray, List.set_cons_zero, List.set_cons_succ]
  refine wpList_runTo rfl (some 20) rfl (.int .u32 (C : Int)) W4 (by kernel_rfl) ?_
  simp only [Act.put, List.setIfInBounds_toArray, List.set_cons_zero, List.set_cons_succ]
  refine wpList_runTo rfl (some 21) rfl (.int .u64 (C : Int)) W4 (by exact cv3_run (.tmp 20) rfl (by kernel_rfl) (by omega) _) ?_
  simp only [Act.put, List.setIfInBounds_toArray, List.set_cons_zero, List.set_cons_succ]
  refine wpList_callW rfl (some 22) rfl 46 #[.slice none 0 0, .int .u64 (C : Int), .int .i64 4] (by kernel_rfl) hp6 ?_
  rintro e W6 ⟨v6, rfl, hx6⟩
  refine ⟨_, rfl, ?_⟩
  have HY6 : Hid (Below w.heap.size w W6 ∧ By W6 (.slice a1 2 c1) (putTo l.length 2 2) ∧ By W6 (.slice va l.length vc) l ∧ By W6 v6 (putTo C 4 4)) := ⟨below_step HY4.out.1 hx6.out.bel, HY4.out.2.1.below hx6.out.bel, HY4.out.2.2.below hx6.out.bel, hx6.out.by'⟩
  obtain ⟨a6, c6, rfl, _⟩ := hx6.out.by'.form
  rw [putTo_length] at *
  clear hx6 hp6 HY4
  simp only [Act.put, List.setIfInBounds_toArray, List.set_cons_zero, List.set_cons_succ]
  refine wpList_runTo rfl (some 23) rfl (.slice va l.length vc) W6 (by kernel_rfl) ?_
  simp only [Act.put, List.setIfInBounds_toArray, List.set_cons_zero, List.set_cons_succ]
  refine wpList_runTo rfl (some 24) rfl (.slice (some ⟨W6.heap.size, 0, none⟩) 3 3) (W6.alloc (.cells #[.slice a1 2 c1, .slice a6 4 c6, .slice va l.length vc] 28)) (by kernel_rfl) ?_
  simp only [Act.put, List.setIfInBounds_toArray, List.set_cons_zero, List.set_cons_succ]
  have hb7 : Below W6.heap.size W6 (W6.alloc (.cells #[.slice a1 2 c1, .slice a6 4 c6, .slice va l.length vc] 28)) := (Below.refl _ W6).alloc (Nat.le_refl _) _
  have hk7 := Blk.new W6 28 #[.slice a1 2 c1, .slice a6 4 c6, .slice va l.length vc]
  have HY7 : Hid (Below w.heap.size w (W6.alloc (.cells #[.slice a1 2 c1, .slice a6 4 c6, .slice va l.length vc] 28)) ∧ By (W6.alloc (.cells #[.slice a1 2 c1, .slice a6 4 c6, .slice va l.length vc] 28)) (.slice a1 2 c1) (putTo l.length 2 2) ∧ By (W6.alloc (.cells #[.slice a1 2 c1, .slice a6 4 c6, .slice va l.length vc] 28)) (.slice va l.length vc) l ∧ By (W6.alloc (.cells #[.slice a1 2 c1, .slice a6 4 c6, .slice va l.length vc] 28)) (.slice a6 4 c6) (putTo C 4 4)) := ⟨below_step HY6.out.1 hb7, HY6.out.2.1.below hb7, HY6.out.2.2.1.below hb7, HY6.out.2.2.2.below hb7⟩
  clear HY6 hb7
  generalize W6.alloc (.cells #[.slice a1 2 c1, .slice a6 4 c6, .slice va l.length vc] 28) = W7 at *
  generalize W6.heap.size = b7 at *
  have hcat := Concat_any b7 3 (fun j => if j = 0 then .slice a1 2 c1 else if j = 1 then .slice a6 4 c6 else .slice va l.length vc) (fun j => if j = 0 then putTo l.length 2 2 else if j = 1 then putTo C 4 4 else l) W7 (by decide) (fun j hj => by
    have : j = 0 ∨ j = 1 ∨ j = 2 := by omega
    rcases this with rfl | rfl | rfl <;> exact hk7.cell _) (fun j hj => by
    have : j = 0 ∨ j = 1 ∨ j = 2 := by omega
    rcases this with rfl | rfl | rfl
    · exact HY7.out.2.1
    · exact HY7.out.2.2.2
    · exact HY7.out.2.2.1) (by show 0 < (([] ++ putTo l.length 2 2) ++ putTo C 4 4 ++ l).length; simp [putTo_length]; omega) (by show (([] ++ putTo l.length 2 2) ++ putTo C 4 4 ++ l).length ≤ _; simp [putTo_length]; omega)
  have hce : catU (fun j => if j = 0 then putTo l.length 2 2 else if j = 1 then putTo C 4 4 else l) 3 = putTo l.length 2 2 ++ putTo C 4 4 ++ l := rfl
  rw [hce] at hcat
  refine wpList_callW rfl (some 25) rfl 48 #[.slice (some ⟨b7, 0, none⟩) 3 3] (by kernel_rfl) hcat ?_
  rintro e W8 ⟨v8, rfl, hx8⟩
  refine ⟨_, rfl, ?_⟩
  have HF : Hid (RowB w W8 v8 (recL k l)) := by
    show RowB w W8 v8 (recL k l)
    rw [HR.out]
    exact hx8.out.since HY7.out.1
  clear hcat hce hx8 HY7 hk7
  simp only [Act.put, List.setIfInBounds_toArray, List.set_cons_zero, List.set_cons_succ]
  refine wpList_runTo rfl (some 4) rfl (v8) W8 (by kernel_rfl) ?_
  simp only [Act.put, List.setIfInBounds_toArray, List.set_cons_zero, List.set_cons_succ]
  refine wpList_nil ?_
  refine hK3 _ _ ?_
  clear hK3
  go_wp2
  go_ret
  exact ⟨v8, rfl, HF⟩
set_option maxRecDepth 100000 in
/-- The command in a record. -/
theorem commandOf_any {w : World} {v : Value} {l : List Nat} (h : By w v l) (hl : 6 ≤ l.length) (hm : l.length ≤ 1048576) : Calls Try.prog 35 #[v] w fun e w' => ∃ v', e = .returned v' ∧ w' = w ∧ Hid (By w v' (l.drop 6)) := by
  obtain ⟨va, vc, rfl, hvc⟩ := h.form
  have hc := h.cut (lo := 6) (hi := l.length) (mx := l.length) hl (Nat.le_refl _) (Nat.le_refl _) hvc
  have hd : (l.drop 6).take (l.length - 6) = l.drop 6 := List.take_of_length_le (by rw [List.length_drop]; omega)
  rw [hd] at hc
  have HF : Hid (By w (cutV (.slice va l.length vc) 6 l.length l.length) (l.drop 6)) := hc
  clear hc hd h
  go_enter Try.func35, Try.ntmps35
  go_upto_region 1 with fail
  rename_i K hK
  refine wp_region_lit ?_
  refine wpList_runTo rfl (some 3) rfl (.slice va l.length vc) w (by kernel_rfl) ?_
  simp only [Act.put, List.setIfInBounds_toArray, List.set_cons_zero, List.set_cons_succ]
  refine wpList_runTo rfl (some 4) rfl (.slice va l.length vc) w (by kernel_rfl) ?_
  simp only [Act.put, List.setIfInBounds_toArray, List.set_cons_zero, List.set_cons_succ]
  refine wpList_runTo rfl (some 5) rfl (.int .i64 (l.length : Int)) w (by kernel_rfl) ?_
  simp only [Act.put, List.setIfInBounds_toArray, List.set_cons_zero, List.set_cons_succ]
  refine wpList_runTo rfl (some 6) rfl (.slice va l.length vc) w (by kernel_rfl) ?_
  simp only [Act.put, List.setIfInBounds_toArray, List.set_cons_zero, List.set_cons_succ]
  refine wpList_runTo rfl (some 7) rfl (.int .i64 (l.length : Int)) w (by kernel_rfl) ?_
  simp only [Act.put, List.setIfInBounds_toArray, List.set_cons_zero, List.set_cons_succ]
  refine wpList_runTo rfl (some 8) rfl (cutV (.slice va l.length vc) 6 l.length l.length) w (by exact sliceA_run (.tmp 3) (.const (.int .i64 6)) (.tmp 5) (.tmp 7) rfl (by kernel_rfl) rfl (by kernel_rfl) (by kernel_rfl) hl hvc _) ?_
  simp only [Act.put, List.setIfInBounds_toArray, List.set_cons_zero, List.set_cons_succ]
  refine wpList_runTo rfl (some 2) rfl (cutV (.slice va l.length vc) 6 l.length l.length) w (by kernel_rfl) ?_
  simp only [Act.put, List.setIfInBounds_toArray, List.set_cons_zero, List.set_cons_succ]
  refine wpList_nil ?_
  refine hK _ _ ?_
  clear hK
  generalize cutV (.slice va l.length vc) 6 l.length l.length = C at *
  go_wp2
  go_ret
  exact ⟨C, rfl, rfl, HF⟩
set_option maxRecDepth 100000 in
theorem Get_no {w : World} {v : Value} {l : List Nat} (h : By w v l) (hl : l.length < 2) : Calls Try.prog 49 #[v, .int .i64 2] w fun e w' => e = .returned (.tuple #[.int .u64 0, .bool false]) ∧ w' = w := by
  obtain ⟨va, vc, rfl, hvc⟩ := h.form
  have hl' : (l.length : Int) < 2 := by omega
  clear h
  generalize l.length = n at *
  go_enter Try.func49, Try.ntmps49
  go_wp2
  go_ret2
  exact ⟨rfl, rfl⟩
theorem Get_two {w : World} {v : Value} {l : List Nat} (h : By w v l) (hl : 2 ≤ l.length) (hm : l.length ≤ 140737488355328) : Calls Try.prog 49 #[v, .int .i64 2] w fun e w' => e = .returned (.tuple #[.int .u64 (getN (dN l) 2 : Int), .bool true]) ∧ w' = w := by
  obtain ⟨va, vc, rfl, hvc⟩ := h.form
  obtain ⟨_, _, hs, _⟩ := h.src
  exact Get_yes va l.length vc (dN l) 2 w hs (by decide) (by decide) hl hvc (by omega)
end Go.Proofs.Ytjnnecoikcmaeaa
