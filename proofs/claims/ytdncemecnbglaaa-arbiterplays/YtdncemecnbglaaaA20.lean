/-
  The reference's Wants.
-/
import Derived.Test.YtdncemecnbglaaaA19
namespace Go.Proofs.Ytdncemecnbglaaa
set_option linter.unusedVariables false
set_option linter.unusedSimpArgs false
open Go.RowKit Go.Great Go.Maps

theorem ixKV_run {op : Oper} {a : Act} {v : Value} {g o n c i : Nat} (hv : v = .slice (some ⟨g, o, none⟩) n c) (x y : Operand) (ho : op.op = .indexAddr 83 x y) (hx : a.eval x = v) (hy : a.eval y = .int .i64 (i : Int)) (hi : i < n) (w : World) : (execOp a.eval op).run Try.prog w = .ok (.value (.pointer (some ⟨g, o + i * 2, none⟩))) w := by
  subst hv
  exact ixK_run x y ho hx hy hi w
set_option maxRecDepth 100000 in
set_option maxHeartbeats 2000000 in
theorem rWants_any {w : World} {g : Nat} {kv : Value} {a : Ab} (h : RbAt w g kv a) (now : Int) (hn0 : 0 ≤ now) (hn1 : now ≤ 253402300799999) : Calls Try.prog 32 #[.pointer (some ⟨g, 0, none⟩), .int .i64 now] w fun e w' => ∃ rv, e = .returned rv ∧ Hid (∃ (rs : List (Nat × Nat)), RowAt w' 61 2 rv rs.length (rV rs) ∧ (∀ q, (rv).ownBlock = some q → w.heap.size ≤ q) ∧ Below w.heap.size w w' ∧ (wtB a (max a.la now) (a.pat / 2) = false ∧ rs = [] ∨ wtB a (max a.la now) (a.pat / 2) = true ∧ rs = (wst a.nx (a.ks.map (·.n))).2)) := by
  have HA : Hid (RbAt w g kv a) := h
  have htm : tmB now = true := by unfold tmB; simp [hn0, hn1]
  have hti := timed_any now w
  rw [htm] at hti
  have hla0 := h.bd.l0
  have hla1 := h.bd.l1
  have hp0 := h.bd.p0
  have hp1 := h.bd.p1
  clear h htm
  obtain ⟨MM, hMM⟩ : ∃ MM, MM = max now a.la := ⟨_, rfl⟩
  have HMM : Hid (MM = max a.la now ∧ 0 ≤ MM ∧ MM ≤ 253402300799999 ∧ (0 ≤ a.pat ∧ a.pat ≤ 253402300799999) ∧ MM = max now a.la) := ⟨by omega, by omega, by omega, ⟨hp0, hp1⟩, hMM⟩
  clear hMM hla0 hla1 hp0 hp1 hn0 hn1
  obtain ⟨HP, hHP⟩ : ∃ x, x = a.pat / 2 := ⟨_, rfl⟩
  have HHP : Hid (HP = a.pat / 2) := hHP
  clear hHP
  obtain ⟨ao, n, c, hkv, hnl⟩ : ∃ ao n c, kv = .slice ao n c ∧ n = a.ks.length := by
    obtain ⟨ao, c, e, _⟩ := HA.out.row.form
    exact ⟨ao, _, c, e, rfl⟩
  have HNL : Hid (n = a.ks.length) := hnl
  clear hnl
  go_enter Try.func32, Try.ntmps32
  go_upto_region 1 with fail
  rename_i K hK
  refine wp_region_lit ?_
  refine wpList_runTo rfl (some 10) rfl (.int .i64 now) w (by kernel_rfl) ?_
  simp only [Act.put, List.setIfInBounds_toArray, List.set_cons_zero, List.set_cons_succ]
  refine wpList_callW rfl (some 11) rfl 43 #[.int .i64 now] (by kernel_rfl) hti ?_
  clear hti
  rintro e w1 ⟨rfl, ew⟩
  replace ew := ew.symm
  subst ew
  refine ⟨_, rfl, ?_⟩
  simp only [Act.put, List.setIfInBounds_toArray, List.set_cons_zero, List.set_cons_succ]
  refine wpList_runTo rfl (some 5) rfl (.bool true) w (by kernel_rfl) ?_
  simp only [Act.put, List.setIfInBounds_toArray, List.set_cons_zero, List.set_cons_succ]
  refine wpList_nil ?_
  refine hK _ _ ?_
  clear hK
  have c5 : w.cell? ⟨g, 5, none⟩ = some (.int .i64 a.la) := HA.out.blk.cell 5
  go_upto_region 2 with fail
  rename_i K hK
  refine wp_region_lit ?_
  refine wpList_runTo rfl (some 12) rfl (.int .i64 now) w (by kernel_rfl) ?_
  simp only [Act.put, List.setIfInBounds_toArray, List.set_cons_zero, List.set_cons_succ]
  refine wpList_runTo rfl (some 13) rfl (.pointer (some ⟨g, 0, none⟩)) w (by kernel_rfl) ?_
  simp only [Act.put, List.setIfInBounds_toArray, List.set_cons_zero, List.set_cons_succ]
  refine wpList_runTo rfl (some 14) rfl (.pointer (some ⟨g, 0, none⟩)) w (by kernel_rfl) ?_
  simp only [Act.put, List.setIfInBounds_toArray, List.set_cons_zero, List.set_cons_succ]
  refine wpList_runTo rfl (some 15) rfl (.pointer (some ⟨g, 5, none⟩)) w (by kernel_rfl) ?_
  simp only [Act.put, List.setIfInBounds_toArray, List.set_cons_zero, List.set_cons_succ]
  refine wpList_runTo rfl (some 16) rfl (.int .i64 a.la) w (by exact ldN_run (.inl rfl) (.tmp 15) rfl (by kernel_rfl) (c5)) ?_
  simp only [Act.put, List.setIfInBounds_toArray, List.set_cons_zero, List.set_cons_succ]
  refine wpList_runTo rfl (some 17) rfl (.int .i64 MM) w (by rw [HMM.out.2.2.2.2]; exact mx_run (.tmp 12) (.tmp 16) rfl (by kernel_rfl) (by kernel_rfl) rfl _) ?_
  simp only [Act.put, List.setIfInBounds_toArray, List.set_cons_zero, List.set_cons_succ]
  refine wpList_runTo rfl (some 6) rfl (.int .i64 MM) w (by kernel_rfl) ?_
  simp only [Act.put, List.setIfInBounds_toArray, List.set_cons_zero, List.set_cons_succ]
  refine wpList_nil ?_
  refine hK _ _ ?_
  clear hK
  clear c5
  go_upto_region 3 with fail
  have hbw : Below w.heap.size w w.drew := ⟨rfl, rfl, rfl, Nat.le_refl _, fun _ _ => rfl⟩
  have H2 : Hid (RbAt w.drew g kv a ∧ Below w.heap.size w w.drew) := ⟨HA.out.below hbw, hbw⟩
  clear hbw
  rename_i K hK
  refine wp_region_held (S := fun w' => w'.cell? ⟨g, 3, none⟩ = some kv ∧ w'.cell? ⟨g, 4, none⟩ = some (.int .i64 a.si) ∧ w'.cell? ⟨g, 1, none⟩ = some (.int .i64 a.pat)) (by kernel_rfl) ?_
  change wpAnyH _ _ _ _ _ _ _ _ (World.drew _)
  generalize w.drew = WD at *
  have hS : WD.cell? ⟨g, 3, none⟩ = some kv ∧ WD.cell? ⟨g, 4, none⟩ = some (.int .i64 a.si) ∧ WD.cell? ⟨g, 1, none⟩ = some (.int .i64 a.pat) := ⟨H2.out.1.blk.cell 3, H2.out.1.blk.cell 4, H2.out.1.blk.cell 1⟩
  obtain ⟨zb, hzb⟩ : ∃ zb, (n == 0) = zb := ⟨_, rfl⟩
  cases zb
  case true =>
    have HWT : Hid (wtB a (max a.la now) (a.pat / 2) = false) := by
      have e : n = 0 := by simpa using hzb
      show wtB a (max a.la now) (a.pat / 2) = false
      unfold wtB
      rw [← HNL.out, e]
      rfl
    refine takeR (i := 0) (v := .bool true) (some 18) rfl rfl (by kernel_rfl) (by kernel_rfl) (by kernel_rfl) (fun _ _ _ h => h) (Or.inl ⟨by kernel_rfl, fun w' hSw => by kernel_rfl⟩) hS ?_
    simp only [Act.put, List.setIfInBounds_toArray, List.set_cons_zero, List.set_cons_succ]
    refine takeR (i := 1) (v := .bool false) (some 19) rfl rfl (by kernel_rfl) (by kernel_rfl) (by kernel_rfl) (fun _ _ _ h => h) (Or.inl ⟨by kernel_rfl, fun w' hSw => by kernel_rfl⟩) hS ?_
    simp only [Act.put, List.setIfInBounds_toArray, List.set_cons_zero, List.set_cons_succ]
    refine takeR (i := 2) (v := .bool false) (some 20) rfl rfl (by kernel_rfl) (by kernel_rfl) (by kernel_rfl) (fun _ _ _ h => h) (Or.inl ⟨by kernel_rfl, fun w' hSw => by kernel_rfl⟩) hS ?_
    simp only [Act.put, List.setIfInBounds_toArray, List.set_cons_zero, List.set_cons_succ]
    refine takeR (i := 3) (v := .pointer (some ⟨g, 0, none⟩)) (some 21) rfl rfl (by kernel_rfl) (by kernel_rfl) (by kernel_rfl) (fun _ _ _ h => h) (Or.inl ⟨by kernel_rfl, fun w' hSw => by kernel_rfl⟩) hS ?_
    simp only [Act.put, List.setIfInBounds_toArray, List.set_cons_zero, List.set_cons_succ]
    refine takeR (i := 4) (v := .pointer (some ⟨g, 0, none⟩)) (some 22) rfl rfl (by kernel_rfl) (by kernel_rfl) (by kernel_rfl) (fun _ _ _ h => h) (Or.inl ⟨by kernel_rfl, fun w' hSw => by kernel_rfl⟩) hS ?_
    simp only [Act.put, List.setIfInBounds_toArray, List.set_cons_zero, List.set_cons_succ]
    refine takeR (i := 5) (v := .pointer (some ⟨g, 3, none⟩)) (some 23) rfl rfl (by kernel_rfl) (by kernel_rfl) (by kernel_rfl) (fun _ _ _ h => h) (Or.inl ⟨by kernel_rfl, fun w' hSw => by kernel_rfl⟩) hS ?_
    simp only [Act.put, List.setIfInBounds_toArray, List.set_cons_zero, List.set_cons_succ]
    refine takeR (i := 6) (v := kv) (some 24) rfl rfl (by kernel_rfl) (by kernel_rfl) (by kernel_rfl) (fun _ _ _ h => h) (Or.inl ⟨by kernel_rfl, fun w' hSw => by exact ldK_run (.tmp 23) rfl (by kernel_rfl) (hSw.1)⟩) hS ?_
    simp only [Act.put, List.setIfInBounds_toArray, List.set_cons_zero, List.set_cons_succ]
    refine takeR (i := 7) (v := .int .i64 (n : Int)) (some 25) rfl rfl (by kernel_rfl) (by kernel_rfl) (by kernel_rfl) (fun _ _ _ h => h) (Or.inl ⟨by kernel_rfl, fun w' hSw => by exact lenK_run hkv (.tmp 24) rfl (by kernel_rfl) _⟩) hS ?_
    simp only [Act.put, List.setIfInBounds_toArray, List.set_cons_zero, List.set_cons_succ]
    refine takeR (i := 8) (v := .bool true) (some 26) rfl rfl (by kernel_rfl) (by kernel_rfl) (by kernel_rfl) (fun _ _ _ h => h) (Or.inl ⟨by kernel_rfl, fun w' hSw => by exact eqN_run (p := n) (q := 0) (.tmp 25) (.const (.int .i64 0)) rfl (by kernel_rfl) rfl hzb _⟩) hS ?_
    simp only [Act.put, List.setIfInBounds_toArray, List.set_cons_zero, List.set_cons_succ]
    refine takeR (i := 9) (v := .bool true) (some 27) rfl rfl (by kernel_rfl) (by kernel_rfl) (by kernel_rfl) (fun _ _ _ h => h) (Or.inl ⟨by kernel_rfl, fun w' hSw => by kernel_rfl⟩) hS ?_
    simp only [Act.put, List.setIfInBounds_toArray, List.set_cons_zero, List.set_cons_succ]
    refine takeR (i := 10) (v := .bool true) (some 28) rfl rfl (by kernel_rfl) (by kernel_rfl) (by kernel_rfl) (fun _ _ _ h => h) (Or.inl ⟨by kernel_rfl, fun w' hSw => by kernel_rfl⟩) hS ?_
    simp only [Act.put, List.setIfInBounds_toArray, List.set_cons_zero, List.set_cons_succ]
    refine takeR (i := 11) (v := undef) (some 29) rfl rfl (by kernel_rfl) (by kernel_rfl) (by kernel_rfl) (fun _ _ _ h => h) (Or.inr ⟨by kernel_rfl, rfl⟩) hS ?_
    simp only [Act.put, List.setIfInBounds_toArray, List.set_cons_zero, List.set_cons_succ]
    refine takeR (i := 12) (v := undef) (some 30) rfl rfl (by kernel_rfl) (by kernel_rfl) (by kernel_rfl) (fun _ _ _ h => h) (Or.inr ⟨by kernel_rfl, rfl⟩) hS ?_
    simp only [Act.put, List.setIfInBounds_toArray, List.set_cons_zero, List.set_cons_succ]
    refine takeR (i := 13) (v := undef) (some 31) rfl rfl (by kernel_rfl) (by kernel_rfl) (by kernel_rfl) (fun _ _ _ h => h) (Or.inr ⟨by kernel_rfl, rfl⟩) hS ?_
    simp only [Act.put, List.setIfInBounds_toArray, List.set_cons_zero, List.set_cons_succ]
    refine takeR (i := 14) (v := undef) (some 32) rfl rfl (by kernel_rfl) (by kernel_rfl) (by kernel_rfl) (fun _ _ _ h => h) (Or.inr ⟨by kernel_rfl, rfl⟩) hS ?_
    simp only [Act.put, List.setIfInBounds_toArray, List.set_cons_zero, List.set_cons_succ]
    refine takeR (i := 15) (v := undef) (some 33) rfl rfl (by kernel_rfl) (by kernel_rfl) (by kernel_rfl) (fun _ _ _ h => h) (Or.inr ⟨by kernel_rfl, rfl⟩) hS ?_
    simp only [Act.put, List.setIfInBounds_toArray, List.set_cons_zero, List.set_cons_succ]
    refine takeR (i := 16) (v := undef) (some 34) rfl rfl (by kernel_rfl) (by kernel_rfl) (by kernel_rfl) (fun _ _ _ h => h) (Or.inr ⟨by kernel_rfl, rfl⟩) hS ?_
    simp only [Act.put, List.setIfInBounds_toArray, List.set_cons_zero, List.set_cons_succ]
    refine takeR (i := 17) (v := undef) (some 35) rfl rfl (by kernel_rfl) (by kernel_rfl) (by kernel_rfl) (fun _ _ _ h => h) (Or.inr ⟨by kernel_rfl, rfl⟩) hS ?_
    simp only [Act.put, List.setIfInBounds_toArray, List.set_cons_zero, List.set_cons_succ]
    refine takeR (i := 18) (v := undef) (some 36) rfl rfl (by kernel_rfl) (by kernel_rfl) (by kernel_rfl) (fun _ _ _ h => h) (Or.inr ⟨by kernel_rfl, rfl⟩) hS ?_
    simp only [Act.put, List.setIfInBounds_toArray, List.set_cons_zero, List.set_cons_succ]
    refine takeR (i := 19) (v := undef) (some 37) rfl rfl (by kernel_rfl) (by kernel_rfl) (by kernel_rfl) (fun _ _ _ h => h) (Or.inr ⟨by kernel_rfl, rfl⟩) hS ?_
    simp only [Act.put, List.setIfInBounds_toArray, List.set_cons_zero, List.set_cons_succ]
    refine takeR (i := 20) (v := undef) (some 38) rfl rfl (by kernel_rfl) (by kernel_rfl) (by kernel_rfl) (fun _ _ _ h => h) (Or.inr ⟨by kernel_rfl, rfl⟩) hS ?_
    simp only [Act.put, List.setIfInBounds_toArray, List.set_cons_zero, List.set_cons_succ]
    refine takeR (i := 21) (v := undef) (some 39) rfl rfl (by kernel_rfl) (by kernel_rfl) (by kernel_rfl) (fun _ _ _ h => h) (Or.inr ⟨by kernel_rfl, rfl⟩) hS ?_
    simp only [Act.put, List.setIfInBounds_toArray, List.set_cons_zero, List.set_cons_succ]
    refine takeR (i := 22) (v := undef) (some 40) rfl rfl (by kernel_rfl) (by kernel_rfl) (by kernel_rfl) (fun _ _ _ h => h) (Or.inr ⟨by kernel_rfl, rfl⟩) hS ?_
    simp only [Act.put, List.setIfInBounds_toArray, List.set_cons_zero, List.set_cons_succ]
    refine takeR (i := 23) (v := .bool true) (some 41) rfl rfl (by kernel_rfl) (by kernel_rfl) (by kernel_rfl) (fun _ _ _ h => h) (Or.inl ⟨by kernel_rfl, fun w' hSw => by kernel_rfl⟩) hS ?_
    simp only [Act.put, List.setIfInBounds_toArray, List.set_cons_zero, List.set_cons_succ]
    refine wpAnyH_done (by kernel_rfl) ?_ _
    refine hK _ _ ?_
    clear hK hS
    have HZ : Hid (∃ (rs : List (Nat × Nat)), RowAt WD 61 2 (Value.slice none 0 0) rs.length (rV rs) ∧ (∀ q, ((Value.slice none 0 0)).ownBlock = some q → w.heap.size ≤ q) ∧ Below w.heap.size w WD ∧ (wtB a (max a.la now) (a.pat / 2) = false ∧ rs = [] ∨ wtB a (max a.la now) (a.pat / 2) = true ∧ rs = (wst a.nx (a.ks.map (·.n))).2)) := ⟨[], RowAt.none0 _ _ _, fun q hq => (by cases hq), H2.out.2, .inl ⟨HWT.out, rfl⟩⟩
    clear H2 HA HMM HWT hkv HNL hzb HHP
    go_wp2
    go_ret
    exact ⟨_, rfl, HZ.out⟩
  case false =>
    obtain ⟨pb, hpb⟩ : ∃ pb, decide (MM - a.si < HP) = pb := ⟨_, rfl⟩
    have HWT : Hid (wtB a (max a.la now) (a.pat / 2) = !pb) := by
      have hn : 0 < n := by have : ¬ n = 0 := by simpa using hzb
                            omega
      show wtB a (max a.la now) (a.pat / 2) = !pb
      unfold wtB
      rw [← HNL.out, ← HMM.out.1, ← HHP.out, ← hpb, decide_eq_true hn, Bool.true_and]
      by_cases hq : MM - a.si < HP
      · rw [decide_eq_true hq, decide_eq_false (by omega)]; rfl
      · rw [decide_eq_false hq, decide_eq_true (by omega)]; rfl
    have hsb : -9223372036854775808 ≤ MM - a.si ∧ MM - a.si ≤ 9223372036854775807 := by
      have := HA.out.bd.s0
      have := HA.out.bd.s1
      have := HMM.out.2.1
      have := HMM.out.2.2.1
      omega
    refine takeR (i := 0) (v := .bool true) (some 18) rfl rfl (by kernel_rfl) (by kernel_rfl) (by kernel_rfl) (fun _ _ _ h => h) (Or.inl ⟨by kernel_rfl, fun w' hSw => by kernel_rfl⟩) hS ?_
    simp only [Act.put, List.setIfInBounds_toArray, List.set_cons_zero, List.set_cons_succ]
    refine takeR (i := 1) (v := .bool false) (some 19) rfl rfl (by kernel_rfl) (by kernel_rfl) (by kernel_rfl) (fun _ _ _ h => h) (Or.inl ⟨by kernel_rfl, fun w' hSw => by kernel_rfl⟩) hS ?_
    simp only [Act.put, List.setIfInBounds_toArray, List.set_cons_zero, List.set_cons_succ]
    refine takeR (i := 2) (v := .bool false) (some 20) rfl rfl (by kernel_rfl) (by kernel_rfl) (by kernel_rfl) (fun _ _ _ h => h) (Or.inl ⟨by kernel_rfl, fun w' hSw => by kernel_rfl⟩) hS ?_
    simp only [Act.put, List.setIfInBounds_toArray, List.set_cons_zero, List.set_cons_succ]
    refine takeR (i := 3) (v := .pointer (some ⟨g, 0, none⟩)) (some 21) rfl rfl (by kernel_rfl) (by kernel_rfl) (by kernel_rfl) (fun _ _ _ h => h) (Or.inl ⟨by kernel_rfl, fun w' hSw => by kernel_rfl⟩) hS ?_
    simp only [Act.put, List.setIfInBounds_toArray, List.set_cons_zero, List.set_cons_succ]
    refine takeR (i := 4) (v := .pointer (some ⟨g, 0, none⟩)) (some 22) rfl rfl (by kernel_rfl) (by kernel_rfl) (by kernel_rfl) (fun _ _ _ h => h) (Or.inl ⟨by kernel_rfl, fun w' hSw => by kernel_rfl⟩) hS ?_
    simp only [Act.put, List.setIfInBounds_toArray, List.set_cons_zero, List.set_cons_succ]
    refine takeR (i := 5) (v := .pointer (some ⟨g, 3, none⟩)) (some 23) rfl rfl (by kernel_rfl) (by kernel_rfl) (by kernel_rfl) (fun _ _ _ h => h) (Or.inl ⟨by kernel_rfl, fun w' hSw => by kernel_rfl⟩) hS ?_
    simp only [Act.put, List.setIfInBounds_toArray, List.set_cons_zero, List.set_cons_succ]
    refine takeR (i := 6) (v := kv) (some 24) rfl rfl (by kernel_rfl) (by kernel_rfl) (by kernel_rfl) (fun _ _ _ h => h) (Or.inl ⟨by kernel_rfl, fun w' hSw => by exact ldK_run (.tmp 23) rfl (by kernel_rfl) (hSw.1)⟩) hS ?_
    simp only [Act.put, List.setIfInBounds_toArray, List.set_cons_zero, List.set_cons_succ]
    refine takeR (i := 7) (v := .int .i64 (n : Int)) (some 25) rfl rfl (by kernel_rfl) (by kernel_rfl) (by kernel_rfl) (fun _ _ _ h => h) (Or.inl ⟨by kernel_rfl, fun w' hSw => by exact lenK_run hkv (.tmp 24) rfl (by kernel_rfl) _⟩) hS ?_
    simp only [Act.put, List.setIfInBounds_toArray, List.set_cons_zero, List.set_cons_succ]
    refine takeR (i := 8) (v := .bool false) (some 26) rfl rfl (by kernel_rfl) (by kernel_rfl) (by kernel_rfl) (fun _ _ _ h => h) (Or.inl ⟨by kernel_rfl, fun w' hSw => by exact eqN_run (p := n) (q := 0) (.tmp 25) (.const (.int .i64 0)) rfl (by kernel_rfl) rfl hzb _⟩) hS ?_
    simp only [Act.put, List.setIfInBounds_toArray, List.set_cons_zero, List.set_cons_succ]
    refine takeR (i := 9) (v := .bool false) (some 27) rfl rfl (by kernel_rfl) (by kernel_rfl) (by kernel_rfl) (fun _ _ _ h => h) (Or.inl ⟨by kernel_rfl, fun w' hSw => by kernel_rfl⟩) hS ?_
    simp only [Act.put, List.setIfInBounds_toArray, List.set_cons_zero, List.set_cons_succ]
    refine takeR (i := 10) (v := .bool false) (some 28) rfl rfl (by kernel_rfl) (by kernel_rfl) (by kernel_rfl) (fun _ _ _ h => h) (Or.inl ⟨by kernel_rfl, fun w' hSw => by kernel_rfl⟩) hS ?_
    simp only [Act.put, List.setIfInBounds_toArray, List.set_cons_zero, List.set_cons_succ]
    refine takeR (i := 11) (v := .int .i64 MM) (some 29) rfl rfl (by kernel_rfl) (by kernel_rfl) (by kernel_rfl) (fun _ _ _ h => h) (Or.inl ⟨by kernel_rfl, fun w' hSw => by kernel_rfl⟩) hS ?_
    simp only [Act.put, List.setIfInBounds_toArray, List.set_cons_zero, List.set_cons_succ]
    refine takeR (i := 12) (v := .pointer (some ⟨g, 0, none⟩)) (some 30) rfl rfl (by kernel_rfl) (by kernel_rfl) (by kernel_rfl) (fun _ _ _ h => h) (Or.inl ⟨by kernel_rfl, fun w' hSw => by kernel_rfl⟩) hS ?_
    simp only [Act.put, List.setIfInBounds_toArray, List.set_cons_zero, List.set_cons_succ]
    refine takeR (i := 13) (v := .pointer (some ⟨g, 0, none⟩)) (some 31) rfl rfl (by kernel_rfl) (by kernel_rfl) (by kernel_rfl) (fun _ _ _ h => h) (Or.inl ⟨by kernel_rfl, fun w' hSw => by kernel_rfl⟩) hS ?_
    simp only [Act.put, List.setIfInBounds_toArray, List.set_cons_zero, List.set_cons_succ]
    refine takeR (i := 14) (v := .pointer (some ⟨g, 4, none⟩)) (some 32) rfl rfl (by kernel_rfl) (by kernel_rfl) (by kernel_rfl) (fun _ _ _ h => h) (Or.inl ⟨by kernel_rfl, fun w' hSw => by kernel_rfl⟩) hS ?_
    simp only [Act.put, List.setIfInBounds_toArray, List.set_cons_zero, List.set_cons_succ]
    refine takeR (i := 15) (v := .int .i64 a.si) (some 33) rfl rfl (by kernel_rfl) (by kernel_rfl) (by kernel_rfl) (fun _ _ _ h => h) (Or.inl ⟨by kernel_rfl, fun w' hSw => by exact ldN_run (.inl rfl) (.tmp 32) rfl (by kernel_rfl) (hSw.2.1)⟩) hS ?_
    simp only [Act.put, List.setIfInBounds_toArray, List.set_cons_zero, List.set_cons_succ]
    refine takeR (i := 16) (v := .int .i64 (MM - a.si)) (some 34) rfl rfl (by kernel_rfl) (by kernel_rfl) (by kernel_rfl) (fun _ _ _ h => h) (Or.inl ⟨by kernel_rfl, fun w' hSw => by exact subI_run (.tmp 29) (.tmp 33) rfl (by kernel_rfl) (by kernel_rfl) hsb _⟩) hS ?_
    simp only [Act.put, List.setIfInBounds_toArray, List.set_cons_zero, List.set_cons_succ]
    refine takeR (i := 17) (v := .pointer (some ⟨g, 0, none⟩)) (some 35) rfl rfl (by kernel_rfl) (by kernel_rfl) (by kernel_rfl) (fun _ _ _ h => h) (Or.inl ⟨by kernel_rfl, fun w' hSw => by kernel_rfl⟩) hS ?_
    simp only [Act.put, List.setIfInBounds_toArray, List.set_cons_zero, List.set_cons_succ]
    refine takeR (i := 18) (v := .pointer (some ⟨g, 0, none⟩)) (some 36) rfl rfl (by kernel_rfl) (by kernel_rfl) (by kernel_rfl) (fun _ _ _ h => h) (Or.inl ⟨by kernel_rfl, fun w' hSw => by kernel_rfl⟩) hS ?_
    simp only [Act.put, List.setIfInBounds_toArray, List.set_cons_zero, List.set_cons_succ]
    refine takeR (i := 19) (v := .pointer (some ⟨g, 1, none⟩)) (some 37) rfl rfl (by kernel_rfl) (by kernel_rfl) (by kernel_rfl) (fun _ _ _ h => h) (Or.inl ⟨by kernel_rfl, fun w' hSw => by kernel_rfl⟩) hS ?_
    simp only [Act.put, List.setIfInBounds_toArray, List.set_cons_zero, List.set_cons_succ]
    refine takeR (i := 20) (v := .int .i64 a.pat) (some 38) rfl rfl (by kernel_rfl) (by kernel_rfl) (by kernel_rfl) (fun _ _ _ h => h) (Or.inl ⟨by kernel_rfl, fun w' hSw => by exact ldN_run (.inl rfl) (.tmp 37) rfl (by kernel_rfl) (hSw.2.2)⟩) hS ?_
    simp only [Act.put, List.setIfInBounds_toArray, List.set_cons_zero, List.set_cons_succ]
    refine takeR (i := 21) (v := .int .i64 HP) (some 39) rfl rfl (by kernel_rfl) (by kernel_rfl) (by kernel_rfl) (fun _ _ _ h => h) (Or.inl ⟨by kernel_rfl, fun w' hSw => by rw [HHP.out]; exact quo_run (.tmp 38) (.const (.int .i64 2)) rfl (by kernel_rfl) rfl HMM.out.2.2.2.1 _⟩) hS ?_
    simp only [Act.put, List.setIfInBounds_toArray, List.set_cons_zero, List.set_cons_succ]
    refine takeR (i := 22) (v := .bool pb) (some 40) rfl rfl (by kernel_rfl) (by kernel_rfl) (by kernel_rfl) (fun _ _ _ h => h) (Or.inl ⟨by kernel_rfl, fun w' hSw => by exact ltI_run (.tmp 34) (.tmp 39) rfl (by kernel_rfl) (by kernel_rfl) hpb _⟩) hS ?_
    simp only [Act.put, List.setIfInBounds_toArray, List.set_cons_zero, List.set_cons_succ]
    refine takeR (i := 23) (v := .bool pb) (some 41) rfl rfl (by kernel_rfl) (by kernel_rfl) (by kernel_rfl) (fun _ _ _ h => h) (Or.inl ⟨by kernel_rfl, fun w' hSw => by kernel_rfl⟩) hS ?_
    simp only [Act.put, List.setIfInBounds_toArray, List.set_cons_zero, List.set_cons_succ]
    refine wpAnyH_done (by kernel_rfl) ?_ _
    refine hK _ _ ?_
    clear hK hS hsb
    cases pb
    case true =>
      have HZ : Hid (∃ (rs : List (Nat × Nat)), RowAt WD 61 2 (Value.slice none 0 0) rs.length (rV rs) ∧ (∀ q, ((Value.slice none 0 0)).ownBlock = some q → w.heap.size ≤ q) ∧ Below w.heap.size w WD ∧ (wtB a (max a.la now) (a.pat / 2) = false ∧ rs = [] ∨ wtB a (max a.la now) (a.pat / 2) = true ∧ rs = (wst a.nx (a.ks.map (·.n))).2)) := ⟨[], RowAt.none0 _ _ _, fun q hq => (by cases hq), H2.out.2, .inl ⟨HWT.out, rfl⟩⟩
      clear H2 HA HMM HWT hkv HNL hzb hpb HHP
      go_wp2
      go_ret
      exact ⟨_, rfl, HZ.out⟩
    case false =>
      clear hpb hzb HHP HMM
      have c2 : WD.cell? ⟨g, 2, none⟩ = some (.int .i64 (a.nx : Int)) := H2.out.1.blk.cell 2
      obtain ⟨X, hX⟩ : ∃ X, X = a.nx := ⟨_, rfl⟩
      rw [← hX] at c2
      have HXb : Hid (X = a.nx ∧ X ≤ 1000000000) := ⟨hX, by rw [hX]; exact HA.out.bd.nx⟩
      clear hX
      generalize MM - a.si = DD
      go_upto_region 6 with fail
      rename_i K hK
      refine wp_region_lit ?_
      refine wpList_runTo rfl (some 42) rfl (.pointer (some ⟨g, 0, none⟩)) WD (by kernel_rfl) ?_
      simp only [Act.put, List.setIfInBounds_toArray, List.set_cons_zero, List.set_cons_succ]
      refine wpList_runTo rfl (some 43) rfl (.pointer (some ⟨g, 0, none⟩)) WD (by kernel_rfl) ?_
      simp only [Act.put, List.setIfInBounds_toArray, List.set_cons_zero, List.set_cons_succ]
      refine wpList_runTo rfl (some 44) rfl (.pointer (some ⟨g, 2, none⟩)) WD (by kernel_rfl) ?_
      simp only [Act.put, List.setIfInBounds_toArray, List.set_cons_zero, List.set_cons_succ]
      refine wpList_runTo rfl (some 45) rfl (.int .i64 (X : Int)) WD (by exact ldN_run (.inr rfl) (.tmp 44) rfl (by kernel_rfl) (c2)) ?_
      simp only [Act.put, List.setIfInBounds_toArray, List.set_cons_zero, List.set_cons_succ]
      refine wpList_runTo rfl (some 8) rfl (.int .i64 (X : Int)) WD (by kernel_rfl) ?_
      simp only [Act.put, List.setIfInBounds_toArray, List.set_cons_zero, List.set_cons_succ]
      refine wpList_nil ?_
      refine hK _ _ ?_
      clear hK
      clear c2
      have HW0 : Hid (WI w WD (.slice none 0 0) (.slice none 0 0) [] [] ∧ n ≤ 2000000000000 ∧ ∀ k ∈ a.ks, k.n ≤ 999999999) := ⟨⟨RowAt.none0 _ _ _, RowAt.none0 _ _ _, fun q hq => (by cases hq), H2.out.2⟩, by rw [HNL.out]; have := HA.out.bd.len; have := HA.out.bd.cn 1; have := HA.out.bd.cn 5; omega, HA.out.bd.kn⟩
      have hNb : n ≤ 2000000000000 := HW0.out.2.1
      go_wp2
      go_loopw [7, 8, 9] (fun x y z wr => ∃ (i f : Nat) (rv : Value), rv = x ∧ y = .int .i64 (f : Int) ∧ z = .int .i64 (i : Int) ∧ i ≤ n ∧ f ≤ 1000000000 ∧ Hid (WI w wr (.slice none 0 0) rv [] (wst a.nx ((a.ks.map (·.n)).take i)).2 ∧ f = (wst a.nx ((a.ks.map (·.n)).take i)).1)) (fun _ _ z _ => n - (intOf z).toNat)
      case atStart => exact ⟨0, X, _, rfl, rfl, rfl, Nat.zero_le _, HXb.out.2, HW0.out.1, HXb.out.1⟩
      case round =>
        obtain ⟨i, f, rv, erv, rfl, rfl, hiN, hf1, HW⟩ := hrel
        subst erv
        have HR : Hid (∀ W, Below w.heap.size w W → RbAt W g kv a) := fun W hW => HA.out.below hW
        have c3 : wr.cell? ⟨g, 3, none⟩ = some kv := (HR.out wr HW.out.1.bel).blk.cell 3
        by_cases hlt : i < n
        · obtain ⟨k, hk⟩ : ∃ k, a.ks[i]? = some k := ⟨_, List.getElem?_eq_getElem (by rw [← HNL.out]; exact hlt)⟩
          obtain ⟨m, hm⟩ : ∃ m, m = k.n := ⟨_, rfl⟩
          obtain ⟨kq, ko, hkq, HQ⟩ : ∃ kq ko, kv = .slice (some ⟨kq, ko, none⟩) n c ∧ Hid (∀ W, Below w.heap.size w W → W.cell? ⟨kq, ko + i * 2, none⟩ = some (.int .i64 (m : Int))) := by
            obtain ⟨kq, ko, qc, e1, e2, _⟩ := HA.out.row.at2 hk
            have e3 := e1
            rw [hkv] at e3
            injection e3 with e4 e5 e6
            refine ⟨kq, ko, by rw [hkv, e4], fun W hW => ?_⟩
            obtain ⟨kq', ko', qc', f1, f2, _⟩ := (HR.out W hW).row.at2 hk
            rw [e1] at f1
            injection f1 with f1
            injection f1 with f1
            injection f1 with g1 g2
            subst g1 g2
            rw [f2, hm]
          have hmb : m ≤ 999999999 := by rw [hm]; exact HW0.out.2.2 k (List.mem_of_getElem? hk)
          have HS : Hid (wst a.nx ((a.ks.map (·.n)).take (i + 1)) = wS (wst a.nx ((a.ks.map (·.n)).take i)) m) := wst_succ a.nx (by rw [List.getElem?_map, hk, hm]; rfl)
          have cq : wr.cell? ⟨kq, ko + i * 2, none⟩ = some (.int .i64 (m : Int)) := HQ.out wr HW.out.1.bel
          clear hk hm
          obtain ⟨r, hr⟩ : ∃ r : Bool, decide (f < m) = r := ⟨_, rfl⟩
          go_upto_region 8 with fail
          rename_i K hK
          refine wp_region_lit ?_
          refine wpList_runTo rfl (some 46) rfl (.int .i64 (i : Int)) wr (by kernel_rfl) ?_
          simp only [Act.put, List.setIfInBounds_toArray, List.set_cons_zero, List.set_cons_succ]
          refine wpList_runTo rfl (some 47) rfl (.pointer (some ⟨g, 0, none⟩)) wr (by kernel_rfl) ?_
          simp only [Act.put, List.setIfInBounds_toArray, List.set_cons_zero, List.set_cons_succ]
          refine wpList_runTo rfl (some 48) rfl (.pointer (some ⟨g, 0, none⟩)) wr (by kernel_rfl) ?_
          simp only [Act.put, List.setIfInBounds_toArray, List.set_cons_zero, List.set_cons_succ]
          refine wpList_runTo rfl (some 49) rfl (.pointer (some ⟨g, 3, none⟩)) wr (by kernel_rfl) ?_
          simp only [Act.put, List.setIfInBounds_toArray, List.set_cons_zero, List.set_cons_succ]
          refine wpList_runTo rfl (some 50) rfl (kv) wr (by exact ldK_run (.tmp 49) rfl (by kernel_rfl) (c3)) ?_
          simp only [Act.put, List.setIfInBounds_toArray, List.set_cons_zero, List.set_cons_succ]
          refine wpList_runTo rfl (some 51) rfl (.int .i64 (n : Int)) wr (by exact lenK_run hkv (.tmp 50) rfl (by kernel_rfl) _) ?_
          simp only [Act.put, List.setIfInBounds_toArray, List.set_cons_zero, List.set_cons_succ]
          refine wpList_runTo rfl (some 52) rfl (.bool true) wr (by exact ltN_run (n := i) (k := n) (.tmp 46) (.tmp 51) rfl (by kernel_rfl) (by kernel_rfl) (decide_eq_true hlt) _) ?_
          simp only [Act.put, List.setIfInBounds_toArray, List.set_cons_zero, List.set_cons_succ]
          refine wpList_nil ?_
          refine hK _ _ ?_
          clear hK
          go_upto_region 10 with fail
          rename_i K hK
          refine wp_region_lit ?_
          refine wpList_runTo rfl (some 55) rfl (.pointer (some ⟨g, 0, none⟩)) wr (by kernel_rfl) ?_
          simp only [Act.put, List.setIfInBounds_toArray, List.set_cons_zero, List.set_cons_succ]
          refine wpList_runTo rfl (some 56) rfl (.pointer (some ⟨g, 0, none⟩)) wr (by kernel_rfl) ?_
          simp only [Act.put, List.setIfInBounds_toArray, List.set_cons_zero, List.set_cons_succ]
          refine wpList_runTo rfl (some 57) rfl (.pointer (some ⟨g, 3, none⟩)) wr (by kernel_rfl) ?_
          simp only [Act.put, List.setIfInBounds_toArray, List.set_cons_zero, List.set_cons_succ]
          refine wpList_runTo rfl (some 58) rfl (kv) wr (by exact ldK_run (.tmp 57) rfl (by kernel_rfl) (c3)) ?_
          simp only [Act.put, List.setIfInBounds_toArray, List.set_cons_zero, List.set_cons_succ]
          refine wpList_runTo rfl (some 59) rfl (.int .i64 (i : Int)) wr (by kernel_rfl) ?_
          simp only [Act.put, List.setIfInBounds_toArray, List.set_cons_zero, List.set_cons_succ]
          refine wpList_runTo rfl (some 60) rfl (.pointer (some ⟨kq, ko + i * 2, none⟩)) wr (by exact ixKV_run (i := i) hkq (.tmp 58) (.tmp 59) rfl (by kernel_rfl) (by kernel_rfl) hlt _) ?_
          simp only [Act.put, List.setIfInBounds_toArray, List.set_cons_zero, List.set_cons_succ]
          refine wpList_runTo rfl (some 61) rfl (.pointer (some ⟨kq, ko + i * 2, none⟩)) wr (by kernel_rfl) ?_
          simp only [Act.put, List.setIfInBounds_toArray, List.set_cons_zero, List.set_cons_succ]
          refine wpList_runTo rfl (some 62) rfl (.int .i64 (m : Int)) wr (by exact ldN_run (.inr rfl) (.tmp 61) rfl (by kernel_rfl) (cq)) ?_
          simp only [Act.put, List.setIfInBounds_toArray, List.set_cons_zero, List.set_cons_succ]
          refine wpList_runTo rfl (some 63) rfl (.int .i64 (f : Int)) wr (by kernel_rfl) ?_
          simp only [Act.put, List.setIfInBounds_toArray, List.set_cons_zero, List.set_cons_succ]
          refine wpList_runTo rfl (some 64) rfl (.bool r) wr (by exact gtN_run (n := m) (k := f) (.tmp 62) (.tmp 63) rfl (by kernel_rfl) (by kernel_rfl) hr _) ?_
          simp only [Act.put, List.setIfInBounds_toArray, List.set_cons_zero, List.set_cons_succ]
          refine wpList_nil ?_
          refine hK _ _ ?_
          clear hK
          cases r
          case false =>
            have HN : Hid (WI w wr (.slice none 0 0) rv [] (wst a.nx ((a.ks.map (·.n)).take (i + 1))).2 ∧ m + 1 = (wst a.nx ((a.ks.map (·.n)).take (i + 1))).1) := by
              rw [HS.out]
              unfold wS
              rw [← HW.out.2, if_neg (by simpa using hr)]
              exact ⟨HW.out.1, rfl⟩
            have d3 := c3
            have dq := cq
            clear hr HS HW c3 cq
            go_upto_region 12 with fail
            refine wp_region_lit ?_
            refine wpList_runTo rfl (some 79) rfl (.pointer (some ⟨g, 0, none⟩)) wr (by kernel_rfl) ?_
            simp only [Act.put, List.setIfInBounds_toArray, List.set_cons_zero, List.set_cons_succ]
            refine wpList_runTo rfl (some 80) rfl (.pointer (some ⟨g, 0, none⟩)) wr (by kernel_rfl) ?_
            simp only [Act.put, List.setIfInBounds_toArray, List.set_cons_zero, List.set_cons_succ]
            refine wpList_runTo rfl (some 81) rfl (.pointer (some ⟨g, 3, none⟩)) wr (by kernel_rfl) ?_
            simp only [Act.put, List.setIfInBounds_toArray, List.set_cons_zero, List.set_cons_succ]
            refine wpList_runTo rfl (some 82) rfl (kv) wr (by exact ldK_run (.tmp 81) rfl (by kernel_rfl) (d3)) ?_
            simp only [Act.put, List.setIfInBounds_toArray, List.set_cons_zero, List.set_cons_succ]
            refine wpList_runTo rfl (some 83) rfl (.int .i64 (i : Int)) wr (by kernel_rfl) ?_
            simp only [Act.put, List.setIfInBounds_toArray, List.set_cons_zero, List.set_cons_succ]
            refine wpList_runTo rfl (some 84) rfl (.pointer (some ⟨kq, ko + i * 2, none⟩)) wr (by exact ixKV_run (i := i) hkq (.tmp 82) (.tmp 83) rfl (by kernel_rfl) (by kernel_rfl) hlt _) ?_
            simp only [Act.put, List.setIfInBounds_toArray, List.set_cons_zero, List.set_cons_succ]
            refine wpList_runTo rfl (some 85) rfl (.pointer (some ⟨kq, ko + i * 2, none⟩)) wr (by kernel_rfl) ?_
            simp only [Act.put, List.setIfInBounds_toArray, List.set_cons_zero, List.set_cons_succ]
            refine wpList_runTo rfl (some 86) rfl (.int .i64 (m : Int)) wr (by exact ldN_run (.inr rfl) (.tmp 85) rfl (by kernel_rfl) (dq)) ?_
            simp only [Act.put, List.setIfInBounds_toArray, List.set_cons_zero, List.set_cons_succ]
            refine wpList_runTo rfl (some 87) rfl (.int .i64 ((m + 1 : Nat) : Int)) wr (by exact addN_run (p := m) (q := 1) (.tmp 86) (.const (.int .i64 1)) rfl (by kernel_rfl) rfl (by omega) _) ?_
            simp only [Act.put, List.setIfInBounds_toArray, List.set_cons_zero, List.set_cons_succ]
            refine wpList_runTo rfl (some 8) rfl (.int .i64 ((m + 1 : Nat) : Int)) wr (by kernel_rfl) ?_
            simp only [Act.put, List.setIfInBounds_toArray, List.set_cons_zero, List.set_cons_succ]
            refine wpList_nil ?_
            clear d3 dq
            go_wp2
            exact ⟨⟨i + 1, m + 1, _, rfl, rfl, by go_num, by omega, by omega, HN.out⟩, by simp [intOf]; omega⟩
          case true =>
            have hfm : f < m := by simpa using hr
            obtain ⟨rv', W5, hap, hw5⟩ := HW.out.1.app (f, m - 1) (by have := wst_len a.nx ((a.ks.map (·.n)).take i); rw [List.length_take] at this; omega) 59
            have HN : Hid (WI w W5 (.slice none 0 0) rv' [] (wst a.nx ((a.ks.map (·.n)).take (i + 1))).2 ∧ m + 1 = (wst a.nx ((a.ks.map (·.n)).take (i + 1))).1) := by
              rw [HS.out]
              unfold wS
              rw [← HW.out.2, if_pos hfm]
              exact ⟨hw5, rfl⟩
            have d3 : W5.cell? ⟨g, 3, none⟩ = some kv := (HR.out W5 hw5.bel).blk.cell 3
            have dq : W5.cell? ⟨kq, ko + i * 2, none⟩ = some (.int .i64 (m : Int)) := HQ.out W5 hw5.bel
            clear hr HS HW hw5
            go_upto_region 11 with fail
            rename_i K hK
            refine wp_region_lit ?_
            refine wpList_runTo rfl (some 65) rfl (rv) wr (by kernel_rfl) ?_
            simp only [Act.put, List.setIfInBounds_toArray, List.set_cons_zero, List.set_cons_succ]
            refine wpList_runTo rfl (some 66) rfl (.int .i64 (f : Int)) wr (by kernel_rfl) ?_
            simp only [Act.put, List.setIfInBounds_toArray, List.set_cons_zero, List.set_cons_succ]
            refine wpList_runTo rfl (some 67) rfl (.pointer (some ⟨g, 0, none⟩)) wr (by kernel_rfl) ?_
            simp only [Act.put, List.setIfInBounds_toArray, List.set_cons_zero, List.set_cons_succ]
            refine wpList_runTo rfl (some 68) rfl (.pointer (some ⟨g, 0, none⟩)) wr (by kernel_rfl) ?_
            simp only [Act.put, List.setIfInBounds_toArray, List.set_cons_zero, List.set_cons_succ]
            refine wpList_runTo rfl (some 69) rfl (.pointer (some ⟨g, 3, none⟩)) wr (by kernel_rfl) ?_
            simp only [Act.put, List.setIfInBounds_toArray, List.set_cons_zero, List.set_cons_succ]
            refine wpList_runTo rfl (some 70) rfl (kv) wr (by exact ldK_run (.tmp 69) rfl (by kernel_rfl) (c3)) ?_
            simp only [Act.put, List.setIfInBounds_toArray, List.set_cons_zero, List.set_cons_succ]
            refine wpList_runTo rfl (some 71) rfl (.int .i64 (i : Int)) wr (by kernel_rfl) ?_
            simp only [Act.put, List.setIfInBounds_toArray, List.set_cons_zero, List.set_cons_succ]
            refine wpList_runTo rfl (some 72) rfl (.pointer (some ⟨kq, ko + i * 2, none⟩)) wr (by exact ixKV_run (i := i) hkq (.tmp 70) (.tmp 71) rfl (by kernel_rfl) (by kernel_rfl) hlt _) ?_
            simp only [Act.put, List.setIfInBounds_toArray, List.set_cons_zero, List.set_cons_succ]
            refine wpList_runTo rfl (some 73) rfl (.pointer (some ⟨kq, ko + i * 2, none⟩)) wr (by kernel_rfl) ?_
            simp only [Act.put, List.setIfInBounds_toArray, List.set_cons_zero, List.set_cons_succ]
            refine wpList_runTo rfl (some 74) rfl (.int .i64 (m : Int)) wr (by exact ldN_run (.inr rfl) (.tmp 73) rfl (by kernel_rfl) (cq)) ?_
            simp only [Act.put, List.setIfInBounds_toArray, List.set_cons_zero, List.set_cons_succ]
            refine wpList_runTo rfl (some 75) rfl (.int .i64 ((m - 1 : Nat) : Int)) wr (by exact subN_run (p := m) (q := 1) (.tmp 74) (.const (.int .i64 1)) rfl (by kernel_rfl) rfl (by omega) (by omega) _) ?_
            simp only [Act.put, List.setIfInBounds_toArray, List.set_cons_zero, List.set_cons_succ]
            refine wpList_runTo rfl (some 76) rfl (.agg #[.int .i64 (f : Int), .int .i64 ((m - 1 : Nat) : Int)]) wr (by kernel_rfl) ?_
            simp only [Act.put, List.setIfInBounds_toArray, List.set_cons_zero, List.set_cons_succ]
            refine wpList_runTo rfl (some 77) rfl (.slice (some ⟨wr.heap.size, 0, none⟩) 1 1) (wr.alloc (.cells #[.int .i64 (f : Int), .int .i64 ((m - 1 : Nat) : Int)] 61)) (by kernel_rfl) ?_
            simp only [Act.put, List.setIfInBounds_toArray, List.set_cons_zero, List.set_cons_succ]
            refine wpList_runTo rfl (some 78) rfl (rv') W5 (by exact exec_append (v1 := rv) (v2 := .slice (some ⟨wr.heap.size, 0, none⟩) 1 1) (.tmp 65) (.tmp 77) rfl (by kernel_rfl) (by kernel_rfl) hap) ?_
            simp only [Act.put, List.setIfInBounds_toArray, List.set_cons_zero, List.set_cons_succ]
            refine wpList_runTo rfl (some 7) rfl (rv') W5 (by kernel_rfl) ?_
            simp only [Act.put, List.setIfInBounds_toArray, List.set_cons_zero, List.set_cons_succ]
            refine wpList_nil ?_
            refine hK _ _ ?_
            clear hK
            clear hap c3 cq
            generalize (Value.slice (some ⟨wr.heap.size, 0, none⟩) 1 1) = s77
            generalize (((m - 1 : Nat) : Nat) : Int) = m1
            go_upto_region 12 with fail
            refine wp_region_lit ?_
            refine wpList_runTo rfl (some 79) rfl (.pointer (some ⟨g, 0, none⟩)) W5 (by kernel_rfl) ?_
            simp only [Act.put, List.setIfInBounds_toArray, List.set_cons_zero, List.set_cons_succ]
            refine wpList_runTo rfl (some 80) rfl (.pointer (some ⟨g, 0, none⟩)) W5 (by kernel_rfl) ?_
            simp only [Act.put, List.setIfInBounds_toArray, List.set_cons_zero, List.set_cons_succ]
            refine wpList_runTo rfl (some 81) rfl (.pointer (some ⟨g, 3, none⟩)) W5 (by kernel_rfl) ?_
            simp only [Act.put, List.setIfInBounds_toArray, List.set_cons_zero, List.set_cons_succ]
            refine wpList_runTo rfl (some 82) rfl (kv) W5 (by exact ldK_run (.tmp 81) rfl (by kernel_rfl) (d3)) ?_
            simp only [Act.put, List.setIfInBounds_toArray, List.set_cons_zero, List.set_cons_succ]
            refine wpList_runTo rfl (some 83) rfl (.int .i64 (i : Int)) W5 (by kernel_rfl) ?_
            simp only [Act.put, List.setIfInBounds_toArray, List.set_cons_zero, List.set_cons_succ]
            refine wpList_runTo rfl (some 84) rfl (.pointer (some ⟨kq, ko + i * 2, none⟩)) W5 (by exact ixKV_run (i := i) hkq (.tmp 82) (.tmp 83) rfl (by kernel_rfl) (by kernel_rfl) hlt _) ?_
            simp only [Act.put, List.setIfInBounds_toArray, List.set_cons_zero, List.set_cons_succ]
            refine wpList_runTo rfl (some 85) rfl (.pointer (some ⟨kq, ko + i * 2, none⟩)) W5 (by kernel_rfl) ?_
            simp only [Act.put, List.setIfInBounds_toArray, List.set_cons_zero, List.set_cons_succ]
            refine wpList_runTo rfl (some 86) rfl (.int .i64 (m : Int)) W5 (by exact ldN_run (.inr rfl) (.tmp 85) rfl (by kernel_rfl) (dq)) ?_
            simp only [Act.put, List.setIfInBounds_toArray, List.set_cons_zero, List.set_cons_succ]
            refine wpList_runTo rfl (some 87) rfl (.int .i64 ((m + 1 : Nat) : Int)) W5 (by exact addN_run (p := m) (q := 1) (.tmp 86) (.const (.int .i64 1)) rfl (by kernel_rfl) rfl (by omega) _) ?_
            simp only [Act.put, List.setIfInBounds_toArray, List.set_cons_zero, List.set_cons_succ]
            refine wpList_runTo rfl (some 8) rfl (.int .i64 ((m + 1 : Nat) : Int)) W5 (by kernel_rfl) ?_
            simp only [Act.put, List.setIfInBounds_toArray, List.set_cons_zero, List.set_cons_succ]
            refine wpList_nil ?_
            clear d3 dq
            go_wp2
            exact ⟨⟨i + 1, m + 1, _, rfl, rfl, by go_num, by omega, by omega, HN.out⟩, by simp [intOf]; omega⟩
        · have HZ : Hid (∃ (rs : List (Nat × Nat)), RowAt wr 61 2 rv rs.length (rV rs) ∧ (∀ q, (rv).ownBlock = some q → w.heap.size ≤ q) ∧ Below w.heap.size w wr ∧ (wtB a (max a.la now) (a.pat / 2) = false ∧ rs = [] ∨ wtB a (max a.la now) (a.pat / 2) = true ∧ rs = (wst a.nx (a.ks.map (·.n))).2)) := by
            have e : (a.ks.map (·.n)).take i = a.ks.map (·.n) := List.take_of_length_le (by rw [List.length_map, ← HNL.out]; omega)
            have h1 := HW.out.1
            rw [e] at h1
            exact ⟨_, h1.rows, h1.low, h1.bel, .inr ⟨HWT.out, rfl⟩⟩
          go_upto_region 8 with fail
          rename_i K hK
          refine wp_region_lit ?_
          refine wpList_runTo rfl (some 46) rfl (.int .i64 (i : Int)) wr (by kernel_rfl) ?_
          simp only [Act.put, List.setIfInBounds_toArray, List.set_cons_zero, List.set_cons_succ]
          refine wpList_runTo rfl (some 47) rfl (.pointer (some ⟨g, 0, none⟩)) wr (by kernel_rfl) ?_
          simp only [Act.put, List.setIfInBounds_toArray, List.set_cons_zero, List.set_cons_succ]
          refine wpList_runTo rfl (some 48) rfl (.pointer (some ⟨g, 0, none⟩)) wr (by kernel_rfl) ?_
          simp only [Act.put, List.setIfInBounds_toArray, List.set_cons_zero, List.set_cons_succ]
          refine wpList_runTo rfl (some 49) rfl (.pointer (some ⟨g, 3, none⟩)) wr (by kernel_rfl) ?_
          simp only [Act.put, List.setIfInBounds_toArray, List.set_cons_zero, List.set_cons_succ]
          refine wpList_runTo rfl (some 50) rfl (kv) wr (by exact ldK_run (.tmp 49) rfl (by kernel_rfl) (c3)) ?_
          simp only [Act.put, List.setIfInBounds_toArray, List.set_cons_zero, List.set_cons_succ]
          refine wpList_runTo rfl (some 51) rfl (.int .i64 (n : Int)) wr (by exact lenK_run hkv (.tmp 50) rfl (by kernel_rfl) _) ?_
          simp only [Act.put, List.setIfInBounds_toArray, List.set_cons_zero, List.set_cons_succ]
          refine wpList_runTo rfl (some 52) rfl (.bool false) wr (by exact ltN_run (n := i) (k := n) (.tmp 46) (.tmp 51) rfl (by kernel_rfl) (by kernel_rfl) (decide_eq_false hlt) _) ?_
          simp only [Act.put, List.setIfInBounds_toArray, List.set_cons_zero, List.set_cons_succ]
          refine wpList_nil ?_
          refine hK _ _ ?_
          clear hK
          clear HW HW0 HWT HA c3 HR hkv H2
          go_wp2
          go_ret
          exact ⟨_, rfl, HZ.out⟩
end Go.Proofs.Ytdncemecnbglaaa
