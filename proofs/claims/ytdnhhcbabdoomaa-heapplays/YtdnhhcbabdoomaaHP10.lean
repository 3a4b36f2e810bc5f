/-
  HeapPlays: a step.
-/
import Derived.Test.YtdnhhcbabdoomaaHP9
namespace Go.Proofs.Ytdnhhcbabdoomaa
set_option linter.unusedVariables false
set_option linter.unusedSimpArgs false
open Go.RowKit Go.Great
attribute [local irreducible] wpList

theorem infoStS : (Try.prog.info? 93).map (·.size) = some 6 := by kernel_rfl
section
variable {w W : World} {wb : Nat} {S : St} {col : Nat → Nat}
set_option maxRecDepth 100000 in
set_option maxHeartbeats 16000000 in
theorem step_any (H : PW w W wb S col) (kd on im nn : Int) (x : Th) (h0 : (-9223372036854775808 ≤ on ∧ on ≤ 9223372036854775807)) (h1 : -9223372036854775808 ≤ im ∧ im ≤ 9223372036854775807) (h2 : -9223372036854775808 ≤ nn ∧ nn ≤ 9223372036854775807) (hC : S.C.length < 99990) :
    Calls Try.prog 41 #[ptr wb, .agg #[.int .i64 kd, .int .i64 on, .int .i64 im, .int .i64 nn, .int .i64 x.k, .int .i64 x.g]] W fun e W' => e = .returned (.bool true) ∧ Hid (Nx w W W' wb S col 3) := by
  have HH : Hid (PW w W wb S col ∧ S.C.length < 99990) := ⟨H, hC⟩
  have HBd : Hid ((-9223372036854775808 ≤ on ∧ on ≤ 9223372036854775807) ∧ (-9223372036854775808 ≤ im ∧ im ≤ 9223372036854775807) ∧ (-9223372036854775808 ≤ nn ∧ nn ≤ 9223372036854775807)) := ⟨h0, h1, h2⟩
  clear H hC h0 h1 h2
  go_enter Try.func41, Try.ntmps41
  go_upto_region 0 with fail
  rename_i K hK
  refine wp_region_lit ?_
  refine wpList_runTo rfl (some 3) rfl (.pointer (some ⟨W.heap.size, 0, none⟩)) (W.alloc (.cells #[.int .i64 kd, .int .i64 on, .int .i64 im, .int .i64 nn, .int .i64 x.k, .int .i64 x.g] 93)) (by kernel_rfl) ?_
  simp only [Act.put, List.setIfInBounds_toArray, List.set_cons_zero, List.set_cons_succ]
  have f0 : Fr W (W.alloc (.cells #[.int .i64 kd, .int .i64 on, .int .i64 im, .int .i64 nn, .int .i64 x.k, .int .i64 x.g] 93)) (fun _ => False) := Fr.alloc _ _ _
  have k3 : Blk (W.alloc (.cells #[.int .i64 kd, .int .i64 on, .int .i64 im, .int .i64 nn, .int .i64 x.k, .int .i64 x.g] 93)) W.heap.size 93 #[.int .i64 kd, .int .i64 on, .int .i64 im, .int .i64 nn, .int .i64 x.k, .int .i64 x.g] := Blk.new _ _ _
  obtain ⟨b3, h3⟩ : ∃ b, b = W.heap.size := ⟨_, rfl⟩
  rw [← h3] at k3 ⊢
  generalize W.alloc (.cells #[.int .i64 kd, .int .i64 on, .int .i64 im, .int .i64 nn, .int .i64 x.k, .int .i64 x.g] 93) = Z1 at *
  refine wpList_runTo rfl (some 4) rfl (.bool false) Z1 (by kernel_rfl) ?_
  simp only [Act.put, List.setIfInBounds_toArray, List.set_cons_zero, List.set_cons_succ]
  refine wpList_nil ?_
  refine hK _ _ ?_
  clear hK
  have H2 : Hid (PW w Z1 wb S col ∧ Fr W Z1 (fun _ => False) ∧ Blk Z1 b3 93 #[.int .i64 kd, .int .i64 on, .int .i64 im, .int .i64 nn, .int .i64 x.k, .int .i64 x.g]) := ⟨HH.out.1.sm f0, f0, k3⟩
  clear f0 k3 h3
  go_upto_region 1 with fail
  rename_i K hK
  refine wp_region_lit ?_
  refine wpList_runTo rfl (some 19) rfl (.pointer (some ⟨b3, 1, none⟩)) Z1 (by kernel_rfl) ?_
  simp only [Act.put, List.setIfInBounds_toArray, List.set_cons_zero, List.set_cons_succ]
  refine wpList_runTo rfl (some 20) rfl (.int .i64 on) Z1 (by exact ldC_run (by unfold LC; simp) (.tmp 19) rfl (by kernel_rfl) (H2.out.2.2.cell 1)) ?_
  simp only [Act.put, List.setIfInBounds_toArray, List.set_cons_zero, List.set_cons_succ]
  refine wpList_callW rfl (some 21) rfl 9 #[.int .i64 on, .int .i64 3] (by kernel_rfl) (pick_any on 3 3 rfl _ (by decide) (by decide) HBd.out.1.1 HBd.out.1.2) ?_
  rintro ee Z2 ⟨rfl, ez⟩
  refine ⟨_, rfl, ?_⟩
  simp only [Act.put, List.setIfInBounds_toArray, List.set_cons_zero, List.set_cons_succ]
  replace ez := ez.symm
  subst ez
  obtain ⟨k, hkd⟩ : ∃ k, k = pickN on 3 := ⟨_, rfl⟩
  have hk : k < 3 := by rw [hkd]; exact pickN_lt on (by decide)
  rw [← hkd]
  clear hkd
  refine wpList_runTo rfl (some 5) rfl (.int .i64 (k : Int)) Z1 (by kernel_rfl) ?_
  simp only [Act.put, List.setIfInBounds_toArray, List.set_cons_zero, List.set_cons_succ]
  refine wpList_nil ?_
  refine hK _ _ ?_
  clear hK
  go_upto_region 2 with fail
  rename_i K hK
  refine wp_region_lit ?_
  refine wpList_runTo rfl (some 22) rfl (.pointer (some ⟨b3, 0, none⟩)) Z1 (by kernel_rfl) ?_
  simp only [Act.put, List.setIfInBounds_toArray, List.set_cons_zero, List.set_cons_succ]
  refine wpList_runTo rfl (some 23) rfl (.int .i64 kd) Z1 (by exact ldC_run (by unfold LC; simp) (.tmp 22) rfl (by kernel_rfl) (H2.out.2.2.cell 0)) ?_
  simp only [Act.put, List.setIfInBounds_toArray, List.set_cons_zero, List.set_cons_succ]
  refine wpList_nil ?_
  refine hK _ _ ?_
  clear hK
  go_upto_region 3 with fail
  rename_i K hK
  refine wp_region_lit ?_
  refine wpList_runTo rfl (some 25) rfl (.bool (decide (kd = 1))) Z1 (by exact eqK_run (.tmp 23) (.const (.int .i64 1)) rfl (by kernel_rfl) (by kernel_rfl) _) ?_
  simp only [Act.put, List.setIfInBounds_toArray, List.set_cons_zero, List.set_cons_succ]
  refine wpList_runTo rfl (some 24) rfl (.bool (decide (kd = 1))) Z1 (by kernel_rfl) ?_
  simp only [Act.put, List.setIfInBounds_toArray, List.set_cons_zero, List.set_cons_succ]
  refine wpList_nil ?_
  refine hK _ _ ?_
  clear hK
  by_cases h1 : kd = 1
  · have ed : decide (kd = 1) = true := by simp [h1]
    rw [ed]
    clear ed
    go_upto_region 4 with fail
    refine wp_region_lit ?_
    refine wpList_runTo rfl (some 26) rfl (ptr wb) Z1 (by kernel_rfl) ?_
    simp only [Act.put, List.setIfInBounds_toArray, List.set_cons_zero, List.set_cons_succ]
    refine wpList_runTo rfl (some 27) rfl (.int .i64 (k : Int)) Z1 (by kernel_rfl) ?_
    simp only [Act.put, List.setIfInBounds_toArray, List.set_cons_zero, List.set_cons_succ]
    refine wpList_runTo rfl (some 28) rfl (.pointer (some ⟨b3, 4, none⟩)) Z1 (by kernel_rfl) ?_
    simp only [Act.put, List.setIfInBounds_toArray, List.set_cons_zero, List.set_cons_succ]
    refine wpList_runTo rfl (some 29) rfl (.agg #[.int .i64 x.k, .int .i64 x.g]) Z1 (by exact ldT_run (cs := #[.int .i64 x.k, .int .i64 x.g]) (stp_rng H2.out.2.2) Try.underlying30 rfl infoThS (.tmp 28) rfl (by kernel_rfl)) ?_
    simp only [Act.put, List.setIfInBounds_toArray, List.set_cons_zero, List.set_cons_succ]
    refine wpList_callW rfl (some 30) rfl 65 #[ptr wb, .int .i64 (k : Int), .agg #[.int .i64 x.k, .int .i64 x.g]] (by kernel_rfl) (push_any H2.out.1 hk x (by have := HH.out.2; omega)) ?_
    rintro ee Z2 ⟨rfl, HN⟩
    refine ⟨_, rfl, ?_⟩
    simp only [Act.put, List.setIfInBounds_toArray, List.set_cons_zero, List.set_cons_succ]
    refine wpList_nil ?_
    have HZ : Hid (Nx w W Z2 wb S col 3) := (HN.out.pre H2.out.2.1).mono (by decide)
    clear HN
    clear HH H2 HBd
    go_wp2
    go_ret
    exact ⟨rfl, HZ⟩
  have ed : decide (kd = 1) = false := by simp [h1]
  rw [ed]
  clear ed
  go_upto_region 5 with fail
  rename_i K hK
  refine wp_region_lit ?_
  refine wpList_runTo rfl (some 32) rfl (.bool (decide (kd = 2))) Z1 (by exact eqK_run (.tmp 23) (.const (.int .i64 2)) rfl (by kernel_rfl) (by kernel_rfl) _) ?_
  simp only [Act.put, List.setIfInBounds_toArray, List.set_cons_zero, List.set_cons_succ]
  refine wpList_runTo rfl (some 31) rfl (.bool (decide (kd = 2))) Z1 (by kernel_rfl) ?_
  simp only [Act.put, List.setIfInBounds_toArray, List.set_cons_zero, List.set_cons_succ]
  refine wpList_nil ?_
  refine hK _ _ ?_
  clear hK
  by_cases h2 : kd = 2
  · have ed : decide (kd = 2) = true := by simp [h2]
    rw [ed]
    clear ed
    go_upto_region 6 with fail
    rename_i K hK
    refine wp_region_lit ?_
    refine wpList_runTo rfl (some 34) rfl (ptr wb) Z1 (by kernel_rfl) ?_
    simp only [Act.put, List.setIfInBounds_toArray, List.set_cons_zero, List.set_cons_succ]
    refine wpList_runTo rfl (some 35) rfl (.int .i64 (k : Int)) Z1 (by kernel_rfl) ?_
    simp only [Act.put, List.setIfInBounds_toArray, List.set_cons_zero, List.set_cons_succ]
    refine wpList_runTo rfl (some 36) rfl (ptr wb) Z1 (by kernel_rfl) ?_
    simp only [Act.put, List.setIfInBounds_toArray, List.set_cons_zero, List.set_cons_succ]
    refine wpList_runTo rfl (some 37) rfl (.pointer (some ⟨wb, 0, none⟩)) Z1 (by kernel_rfl) ?_
    simp only [Act.put, List.setIfInBounds_toArray, List.set_cons_zero, List.set_cons_succ]
    refine wpList_runTo rfl (some 38) rfl (.pointer (some ⟨wb, 0 + k, none⟩)) Z1 (by exact ixW_run (.inl rfl) (.tmp 37) (.tmp 35) rfl (by kernel_rfl) (by kernel_rfl) hk _) ?_
    simp only [Act.put, List.setIfInBounds_toArray, List.set_cons_zero, List.set_cons_succ]
    refine wpList_runTo rfl (some 39) rfl (ptr (S.h k)) Z1 (by exact ldC_run (by unfold LC; simp) (.tmp 38) rfl (by kernel_rfl) ((H2.out.1.bw.cell _).trans (cs_h S hk))) ?_
    simp only [Act.put, List.setIfInBounds_toArray, List.set_cons_zero, List.set_cons_succ]
    refine wpList_callW rfl (some 40) rfl 66 #[ptr (S.h k)] (by kernel_rfl) (H2.out.1.peek hk) ?_
    rintro ee Z2 ⟨f2, pt, r, rfl, HR⟩
    refine ⟨_, rfl, ?_⟩
    simp only [Act.put, List.setIfInBounds_toArray, List.set_cons_zero, List.set_cons_succ]
    refine wpList_runTo rfl (some 33) rfl (popE pt r) Z2 (by kernel_rfl) ?_
    simp only [Act.put, List.setIfInBounds_toArray, List.set_cons_zero, List.set_cons_succ]
    refine wpList_runTo rfl (some 41) rfl (.agg #[.int .i64 pt.k, .int .i64 pt.g]) Z2 (by kernel_rfl) ?_
    simp only [Act.put, List.setIfInBounds_toArray, List.set_cons_zero, List.set_cons_succ]
    refine wpList_runTo rfl (some 42) rfl (.int .i64 r) Z2 (by kernel_rfl) ?_
    simp only [Act.put, List.setIfInBounds_toArray, List.set_cons_zero, List.set_cons_succ]
    refine wpList_runTo rfl (some 6) rfl (ptr Z2.heap.size) (Z2.alloc (.cells #[.int .i64 0, .int .i64 0] 30)) (by exact alTh_run Z2 rfl) ?_
    simp only [Act.put, List.setIfInBounds_toArray, List.set_cons_zero, List.set_cons_succ]
    have fZ3 : Fr Z2 (Z2.alloc (.cells #[.int .i64 0, .int .i64 0] 30)) (fun _ => False) := Fr.alloc _ _ _
    obtain ⟨b6, hb6⟩ : ∃ b, b = Z2.heap.size := ⟨_, rfl⟩
    have kb6 : Blk (Z2.alloc (.cells #[.int .i64 0, .int .i64 0] 30)) b6 30 #[.int .i64 0, .int .i64 0] := by rw [hb6]; exact Blk.new _ _ _
    rw [← hb6]
    generalize Z2.alloc (.cells #[.int .i64 0, .int .i64 0] 30) = Z3 at *
    have fst := stT_fr (p := pt.k) (q := pt.g) kb6
    refine wpList_plain rfl fun K8 hK8 => ?_
    refine skipR (d := none) rfl (w' := (Z3.setCell ⟨b6, 0, none⟩ (.int .i64 pt.k)).setCell ⟨b6, 1, none⟩ (.int .i64 pt.g)) (stT_run (.tmp 6) (.tmp 41) rfl (by kernel_rfl) (by kernel_rfl) kb6) ?_
    generalize (Z3.setCell ⟨b6, 0, none⟩ (.int .i64 pt.k)).setCell ⟨b6, 1, none⟩ (.int .i64 pt.g) = Z4 at *
    refine hK8 _ _ ?_
    clear hK8
    try simp only [Act.put]
    have fZ4 : Fr Z2 Z4 (fun _ => False) := (fZ3.trans fst.1 (e3 := fun b => b = b6) fun _ _ q => by rcases q with q | q; exact q.elim; exact q).mono fun b hb q => by omega
    refine wpList_runTo rfl (some 7) rfl (.int .i64 r) Z4 (by kernel_rfl) ?_
    simp only [Act.put, List.setIfInBounds_toArray, List.set_cons_zero, List.set_cons_succ]
    refine wpList_nil ?_
    refine hK _ _ ?_
    clear hK
    have f4 : Fr Z1 Z4 (fun _ => False) := (f2.trans fZ4 fun _ _ q => by rcases q with q | q <;> exact q)
    have H4 : Hid ((PW w Z4 wb S col ∧ Fr W Z4 (fun _ => False) ∧ Blk Z4 b3 93 #[.int .i64 kd, .int .i64 on, .int .i64 im, .int .i64 nn, .int .i64 x.k, .int .i64 x.g]) ∧ Blk Z4 b6 30 #[.int .i64 pt.k, .int .i64 pt.g] ∧ ((r = 110 ∧ pt = ⟨0, 0⟩ ∧ Lk S.C k = []) ∨ (r = 0 ∧ ∃ m a, S.C[m]? = some a ∧ a.k = k ∧ a.gone = false ∧ a.x = pt ∧ IsMin (lsB k) ((Lk S.C k).map (·.x)) (lix S.C k m)))) := ⟨⟨H2.out.1.sm f4, (H2.out.2.1.trans f4 fun _ _ q => by rcases q with q | q <;> exact q), H2.out.2.2.fr f4 (fun q => q)⟩, fst.2, HR⟩
    clear HR f2 f4 fZ3 fZ4 fst kb6 hb6 H2
    go_upto_region 7 with fail
    rename_i K hK
    refine wp_region_lit ?_
    refine wpList_runTo rfl (some 44) rfl (ptr wb) Z4 (by kernel_rfl) ?_
    simp only [Act.put, List.setIfInBounds_toArray, List.set_cons_zero, List.set_cons_succ]
    refine wpList_runTo rfl (some 45) rfl (.int .i64 (k : Int)) Z4 (by kernel_rfl) ?_
    simp only [Act.put, List.setIfInBounds_toArray, List.set_cons_zero, List.set_cons_succ]
    refine wpList_runTo rfl (some 46) rfl (ptr wb) Z4 (by kernel_rfl) ?_
    simp only [Act.put, List.setIfInBounds_toArray, List.set_cons_zero, List.set_cons_succ]
    refine wpList_runTo rfl (some 47) rfl (.pointer (some ⟨wb, 3, none⟩)) Z4 (by kernel_rfl) ?_
    simp only [Act.put, List.setIfInBounds_toArray, List.set_cons_zero, List.set_cons_succ]
    refine wpList_runTo rfl (some 48) rfl (.pointer (some ⟨wb, 3 + k, none⟩)) Z4 (by exact ixW_run (.inr rfl) (.tmp 47) (.tmp 45) rfl (by kernel_rfl) (by kernel_rfl) hk _) ?_
    simp only [Act.put, List.setIfInBounds_toArray, List.set_cons_zero, List.set_cons_succ]
    refine wpList_runTo rfl (some 49) rfl (ptr (S.r k)) Z4 (by exact ldC_run (by unfold LC; simp) (.tmp 48) rfl (by kernel_rfl) ((H4.out.1.1.bw.cell _).trans (cs_r S hk))) ?_
    simp only [Act.put, List.setIfInBounds_toArray, List.set_cons_zero, List.set_cons_succ]
    refine wpList_callW rfl (some 50) rfl 67 #[ptr (S.r k)] (by kernel_rfl) (H4.out.1.1.peek2 hk H4.out.2.2) ?_
    rintro ee Z5 ⟨rfl, f5⟩
    refine ⟨_, rfl, ?_⟩
    simp only [Act.put, List.setIfInBounds_toArray, List.set_cons_zero, List.set_cons_succ]
    refine wpList_runTo rfl (some 43) rfl (popE pt r) Z5 (by kernel_rfl) ?_
    simp only [Act.put, List.setIfInBounds_toArray, List.set_cons_zero, List.set_cons_succ]
    refine wpList_runTo rfl (some 51) rfl (.agg #[.int .i64 pt.k, .int .i64 pt.g]) Z5 (by kernel_rfl) ?_
    simp only [Act.put, List.setIfInBounds_toArray, List.set_cons_zero, List.set_cons_succ]
    refine wpList_runTo rfl (some 52) rfl (.int .i64 r) Z5 (by kernel_rfl) ?_
    simp only [Act.put, List.setIfInBounds_toArray, List.set_cons_zero, List.set_cons_succ]
    refine wpList_runTo rfl (some 8) rfl (ptr Z5.heap.size) (Z5.alloc (.cells #[.int .i64 0, .int .i64 0] 30)) (by exact alTh_run Z5 rfl) ?_
    simp only [Act.put, List.setIfInBounds_toArray, List.set_cons_zero, List.set_cons_succ]
    have fZ6 : Fr Z5 (Z5.alloc (.cells #[.int .i64 0, .int .i64 0] 30)) (fun _ => False) := Fr.alloc _ _ _
    obtain ⟨b8, hb8⟩ : ∃ b, b = Z5.heap.size := ⟨_, rfl⟩
    have kb8 : Blk (Z5.alloc (.cells #[.int .i64 0, .int .i64 0] 30)) b8 30 #[.int .i64 0, .int .i64 0] := by rw [hb8]; exact Blk.new _ _ _
    rw [← hb8]
    generalize Z5.alloc (.cells #[.int .i64 0, .int .i64 0] 30) = Z6 at *
    have fst := stT_fr (p := pt.k) (q := pt.g) kb8
    refine wpList_plain rfl fun K8 hK8 => ?_
    refine skipR (d := none) rfl (w' := (Z6.setCell ⟨b8, 0, none⟩ (.int .i64 pt.k)).setCell ⟨b8, 1, none⟩ (.int .i64 pt.g)) (stT_run (.tmp 8) (.tmp 51) rfl (by kernel_rfl) (by kernel_rfl) kb8) ?_
    generalize (Z6.setCell ⟨b8, 0, none⟩ (.int .i64 pt.k)).setCell ⟨b8, 1, none⟩ (.int .i64 pt.g) = Z7 at *
    refine hK8 _ _ ?_
    clear hK8
    try simp only [Act.put]
    have fZ7 : Fr Z5 Z7 (fun _ => False) := (fZ6.trans fst.1 (e3 := fun b => b = b8) fun _ _ q => by rcases q with q | q; exact q.elim; exact q).mono fun b hb q => by omega
    refine wpList_runTo rfl (some 9) rfl (.int .i64 r) Z7 (by kernel_rfl) ?_
    simp only [Act.put, List.setIfInBounds_toArray, List.set_cons_zero, List.set_cons_succ]
    refine wpList_nil ?_
    refine hK _ _ ?_
    clear hK
    have f7 : Fr Z4 Z7 (fun _ => False) := (f5.trans fZ7 fun _ _ q => by rcases q with q | q <;> exact q)
    have H7 : Hid (Nx w W Z7 wb S col 3 ∧ Blk Z7 b6 30 #[.int .i64 pt.k, .int .i64 pt.g] ∧ Blk Z7 b8 30 #[.int .i64 pt.k, .int .i64 pt.g]) := ⟨HH.out.1.nx (H4.out.1.2.1.trans f7 fun _ _ q => by rcases q with q | q <;> exact q) 3, H4.out.2.1.fr f7 fun q => q, fst.2⟩
    clear f5 f7 fZ6 fZ7 fst kb8 hb8 H4
    go_upto_region 8 with fail
    rename_i K hK
    refine wp_region_lit ?_
    refine wpList_runTo rfl (some 53) rfl (.agg #[.int .i64 pt.k, .int .i64 pt.g]) Z7 (by exact ldT_run (blk_rng H7.out.2.1) Try.underlying30 rfl infoThS (.tmp 6) rfl (by kernel_rfl)) ?_
    simp only [Act.put, List.setIfInBounds_toArray, List.set_cons_zero, List.set_cons_succ]
    refine wpList_runTo rfl (some 54) rfl (.agg #[.int .i64 pt.k, .int .i64 pt.g]) Z7 (by exact ldT_run (blk_rng H7.out.2.2) Try.underlying30 rfl infoThS (.tmp 8) rfl (by kernel_rfl)) ?_
    simp only [Act.put, List.setIfInBounds_toArray, List.set_cons_zero, List.set_cons_succ]
    refine wpList_runTo rfl (some 55) rfl (.bool true) Z7 (by exact eqTh_run (p := pt.k) (q := pt.g) (.tmp 53) (.tmp 54) rfl (by kernel_rfl) (by kernel_rfl) _) ?_
    simp only [Act.put, List.setIfInBounds_toArray, List.set_cons_zero, List.set_cons_succ]
    refine wpList_runTo rfl (some 56) rfl (.bool true) Z7 (by kernel_rfl) ?_
    simp only [Act.put, List.setIfInBounds_toArray, List.set_cons_zero, List.set_cons_succ]
    refine wpList_runToG (by kernel_rfl) (some 57) rfl (.int .i64 r) Z7 (by kernel_rfl) ?_
    simp only [Act.put, List.setIfInBounds_toArray, List.set_cons_zero, List.set_cons_succ]
    refine wpList_runToG (by kernel_rfl) (some 58) rfl (.int .i64 r) Z7 (by kernel_rfl) ?_
    simp only [Act.put, List.setIfInBounds_toArray, List.set_cons_zero, List.set_cons_succ]
    refine wpList_runToG (by kernel_rfl) (some 59) rfl (.bool true) Z7 (by exact eqE_run (p := r) (.tmp 57) (.tmp 58) rfl (by kernel_rfl) (by kernel_rfl) _) ?_
    simp only [Act.put, List.setIfInBounds_toArray, List.set_cons_zero, List.set_cons_succ]
    refine wpList_runTo rfl (some 60) rfl (.bool true) Z7 (by kernel_rfl) ?_
    simp only [Act.put, List.setIfInBounds_toArray, List.set_cons_zero, List.set_cons_succ]
    refine wpList_runTo rfl (some 4) rfl (.bool true) Z7 (by kernel_rfl) ?_
    simp only [Act.put, List.setIfInBounds_toArray, List.set_cons_zero, List.set_cons_succ]
    refine wpList_nil ?_
    refine hK _ _ ?_
    clear hK
    have HZ : Hid (Nx w W Z7 wb S col 3) := H7.out.1
    clear H7 HH HBd
    go_wp2
    go_ret
    exact ⟨rfl, HZ⟩
  have ed : decide (kd = 2) = false := by simp [h2]
  rw [ed]
  clear ed
  go_upto_region 9 with fail
  rename_i K hK
  refine wp_region_lit ?_
  refine wpList_runTo rfl (some 62) rfl (.bool (decide (kd = 3))) Z1 (by exact eqK_run (.tmp 23) (.const (.int .i64 3)) rfl (by kernel_rfl) (by kernel_rfl) _) ?_
  simp only [Act.put, List.setIfInBounds_toArray, List.set_cons_zero, List.set_cons_succ]
  refine wpList_runTo rfl (some 61) rfl (.bool (decide (kd = 3))) Z1 (by kernel_rfl) ?_
  simp only [Act.put, List.setIfInBounds_toArray, List.set_cons_zero, List.set_cons_succ]
  refine wpList_nil ?_
  refine hK _ _ ?_
  clear hK
  by_cases h3 : kd = 3
  · have ed : decide (kd = 3) = true := by simp [h3]
    rw [ed]
    clear ed
    go_upto_region 10 with fail
    rename_i K hK
    refine wp_region_lit ?_
    refine wpList_runTo rfl (some 64) rfl (ptr wb) Z1 (by kernel_rfl) ?_
    simp only [Act.put, List.setIfInBounds_toArray, List.set_cons_zero, List.set_cons_succ]
    refine wpList_runTo rfl (some 65) rfl (.int .i64 (k : Int)) Z1 (by kernel_rfl) ?_
    simp only [Act.put, List.setIfInBounds_toArray, List.set_cons_zero, List.set_cons_succ]
    refine wpList_runTo rfl (some 66) rfl (ptr wb) Z1 (by kernel_rfl) ?_
    simp only [Act.put, List.setIfInBounds_toArray, List.set_cons_zero, List.set_cons_succ]
    refine wpList_runTo rfl (some 67) rfl (.pointer (some ⟨wb, 0, none⟩)) Z1 (by kernel_rfl) ?_
    simp only [Act.put, List.setIfInBounds_toArray, List.set_cons_zero, List.set_cons_succ]
    refine wpList_runTo rfl (some 68) rfl (.pointer (some ⟨wb, 0 + k, none⟩)) Z1 (by exact ixW_run (.inl rfl) (.tmp 67) (.tmp 65) rfl (by kernel_rfl) (by kernel_rfl) hk _) ?_
    simp only [Act.put, List.setIfInBounds_toArray, List.set_cons_zero, List.set_cons_succ]
    refine wpList_runTo rfl (some 69) rfl (ptr (S.h k)) Z1 (by exact ldC_run (by unfold LC; simp) (.tmp 68) rfl (by kernel_rfl) ((H2.out.1.bw.cell _).trans (cs_h S hk))) ?_
    simp only [Act.put, List.setIfInBounds_toArray, List.set_cons_zero, List.set_cons_succ]
    refine wpList_callW rfl (some 70) rfl 14 #[ptr (S.h k)] (by kernel_rfl) (H2.out.1.pop hk) ?_
    rintro ee Z2 ⟨pt, r, rfl, HR⟩
    refine ⟨_, rfl, ?_⟩
    simp only [Act.put, List.setIfInBounds_toArray, List.set_cons_zero, List.set_cons_succ]
    refine wpList_runTo rfl (some 63) rfl (popE pt r) Z2 (by kernel_rfl) ?_
    simp only [Act.put, List.setIfInBounds_toArray, List.set_cons_zero, List.set_cons_succ]
    refine wpList_runTo rfl (some 71) rfl (.agg #[.int .i64 pt.k, .int .i64 pt.g]) Z2 (by kernel_rfl) ?_
    simp only [Act.put, List.setIfInBounds_toArray, List.set_cons_zero, List.set_cons_succ]
    refine wpList_runTo rfl (some 72) rfl (.int .i64 r) Z2 (by kernel_rfl) ?_
    simp only [Act.put, List.setIfInBounds_toArray, List.set_cons_zero, List.set_cons_succ]
    refine wpList_runTo rfl (some 10) rfl (ptr Z2.heap.size) (Z2.alloc (.cells #[.int .i64 0, .int .i64 0] 30)) (by exact alTh_run Z2 rfl) ?_
    simp only [Act.put, List.setIfInBounds_toArray, List.set_cons_zero, List.set_cons_succ]
    have fZ3 : Fr Z2 (Z2.alloc (.cells #[.int .i64 0, .int .i64 0] 30)) (fun _ => False) := Fr.alloc _ _ _
    obtain ⟨b6, hb6⟩ : ∃ b, b = Z2.heap.size := ⟨_, rfl⟩
    have kb6 : Blk (Z2.alloc (.cells #[.int .i64 0, .int .i64 0] 30)) b6 30 #[.int .i64 0, .int .i64 0] := by rw [hb6]; exact Blk.new _ _ _
    rw [← hb6]
    generalize Z2.alloc (.cells #[.int .i64 0, .int .i64 0] 30) = Z3 at *
    have fst := stT_fr (p := pt.k) (q := pt.g) kb6
    refine wpList_plain rfl fun K8 hK8 => ?_
    refine skipR (d := none) rfl (w' := (Z3.setCell ⟨b6, 0, none⟩ (.int .i64 pt.k)).setCell ⟨b6, 1, none⟩ (.int .i64 pt.g)) (stT_run (.tmp 10) (.tmp 71) rfl (by kernel_rfl) (by kernel_rfl) kb6) ?_
    generalize (Z3.setCell ⟨b6, 0, none⟩ (.int .i64 pt.k)).setCell ⟨b6, 1, none⟩ (.int .i64 pt.g) = Z4 at *
    refine hK8 _ _ ?_
    clear hK8
    try simp only [Act.put]
    have fZ4 : Fr Z2 Z4 (fun _ => False) := (fZ3.trans fst.1 (e3 := fun b => b = b6) fun _ _ q => by rcases q with q | q; exact q.elim; exact q).mono fun b hb q => by omega
    refine wpList_runTo rfl (some 11) rfl (.int .i64 r) Z4 (by kernel_rfl) ?_
    simp only [Act.put, List.setIfInBounds_toArray, List.set_cons_zero, List.set_cons_succ]
    refine wpList_nil ?_
    refine hK _ _ ?_
    clear hK
    have H4 : Hid (Popped w Z1 Z4 S k pt r ∧ Blk Z4 b6 30 #[.int .i64 pt.k, .int .i64 pt.g] ∧ Z1.heap.size ≤ b6 ∧ Blk Z4 wb 89 S.cs) := by
      have hf := HR.frH.trans fZ4 (e3 := exO S k) fun _ _ q => by rcases q with q | q; exact .inl q; exact q.elim
      exact ⟨HR.post H2.out.1 hk fZ4 (fun _ q => q.elim), fst.2, by rw [hb6]; exact HR.frH.size, H2.out.1.bw.fr hf (H2.out.1.exC hk (by rw [H2.out.1.cw]; omega))⟩
    clear HR fZ3 fZ4 fst kb6 hb6
    go_upto_region 11 with fail
    rename_i K hK
    refine wp_region_lit ?_
    refine wpList_runTo rfl (some 74) rfl (ptr wb) Z4 (by kernel_rfl) ?_
    simp only [Act.put, List.setIfInBounds_toArray, List.set_cons_zero, List.set_cons_succ]
    refine wpList_runTo rfl (some 75) rfl (.int .i64 (k : Int)) Z4 (by kernel_rfl) ?_
    simp only [Act.put, List.setIfInBounds_toArray, List.set_cons_zero, List.set_cons_succ]
    refine wpList_runTo rfl (some 76) rfl (ptr wb) Z4 (by kernel_rfl) ?_
    simp only [Act.put, List.setIfInBounds_toArray, List.set_cons_zero, List.set_cons_succ]
    refine wpList_runTo rfl (some 77) rfl (.pointer (some ⟨wb, 3, none⟩)) Z4 (by kernel_rfl) ?_
    simp only [Act.put, List.setIfInBounds_toArray, List.set_cons_zero, List.set_cons_succ]
    refine wpList_runTo rfl (some 78) rfl (.pointer (some ⟨wb, 3 + k, none⟩)) Z4 (by exact ixW_run (.inr rfl) (.tmp 77) (.tmp 75) rfl (by kernel_rfl) (by kernel_rfl) hk _) ?_
    simp only [Act.put, List.setIfInBounds_toArray, List.set_cons_zero, List.set_cons_succ]
    refine wpList_runTo rfl (some 79) rfl (ptr (S.r k)) Z4 (by exact ldC_run (by unfold LC; simp) (.tmp 78) rfl (by kernel_rfl) ((H4.out.2.2.2.cell _).trans (cs_r S hk))) ?_
    simp only [Act.put, List.setIfInBounds_toArray, List.set_cons_zero, List.set_cons_succ]
    refine wpList_callW rfl (some 80) rfl 68 #[ptr (S.r k)] (by kernel_rfl) (H2.out.1.pop2 hk H4.out.1 (Fr.refl Z4 _)) ?_
    rintro ee Z5 ⟨rfl, HN, HFr⟩
    refine ⟨_, rfl, ?_⟩
    simp only [Act.put, List.setIfInBounds_toArray, List.set_cons_zero, List.set_cons_succ]
    refine wpList_runTo rfl (some 73) rfl (popE pt r) Z5 (by kernel_rfl) ?_
    simp only [Act.put, List.setIfInBounds_toArray, List.set_cons_zero, List.set_cons_succ]
    refine wpList_runTo rfl (some 81) rfl (.agg #[.int .i64 pt.k, .int .i64 pt.g]) Z5 (by kernel_rfl) ?_
    simp only [Act.put, List.setIfInBounds_toArray, List.set_cons_zero, List.set_cons_succ]
    refine wpList_runTo rfl (some 82) rfl (.int .i64 r) Z5 (by kernel_rfl) ?_
    simp only [Act.put, List.setIfInBounds_toArray, List.set_cons_zero, List.set_cons_succ]
    refine wpList_runTo rfl (some 12) rfl (ptr Z5.heap.size) (Z5.alloc (.cells #[.int .i64 0, .int .i64 0] 30)) (by exact alTh_run Z5 rfl) ?_
    simp only [Act.put, List.setIfInBounds_toArray, List.set_cons_zero, List.set_cons_succ]
    have fZ6 : Fr Z5 (Z5.alloc (.cells #[.int .i64 0, .int .i64 0] 30)) (fun _ => False) := Fr.alloc _ _ _
    obtain ⟨b8, hb8⟩ : ∃ b, b = Z5.heap.size := ⟨_, rfl⟩
    have kb8 : Blk (Z5.alloc (.cells #[.int .i64 0, .int .i64 0] 30)) b8 30 #[.int .i64 0, .int .i64 0] := by rw [hb8]; exact Blk.new _ _ _
    rw [← hb8]
    generalize Z5.alloc (.cells #[.int .i64 0, .int .i64 0] 30) = Z6 at *
    have fst := stT_fr (p := pt.k) (q := pt.g) kb8
    refine wpList_plain rfl fun K8 hK8 => ?_
    refine skipR (d := none) rfl (w' := (Z6.setCell ⟨b8, 0, none⟩ (.int .i64 pt.k)).setCell ⟨b8, 1, none⟩ (.int .i64 pt.g)) (stT_run (.tmp 12) (.tmp 81) rfl (by kernel_rfl) (by kernel_rfl) kb8) ?_
    generalize (Z6.setCell ⟨b8, 0, none⟩ (.int .i64 pt.k)).setCell ⟨b8, 1, none⟩ (.int .i64 pt.g) = Z7 at *
    refine hK8 _ _ ?_
    clear hK8
    try simp only [Act.put]
    have fZ7 : Fr Z5 Z7 (fun _ => False) := (fZ6.trans fst.1 (e3 := fun b => b = b8) fun _ _ q => by rcases q with q | q; exact q.elim; exact q).mono fun b hb q => by omega
    refine wpList_runTo rfl (some 13) rfl (.int .i64 r) Z7 (by kernel_rfl) ?_
    simp only [Act.put, List.setIfInBounds_toArray, List.set_cons_zero, List.set_cons_succ]
    refine wpList_nil ?_
    refine hK _ _ ?_
    clear hK
    have H7 : Hid (Nx w W Z7 wb S col 3 ∧ Blk Z7 b6 30 #[.int .i64 pt.k, .int .i64 pt.g] ∧ Blk Z7 b8 30 #[.int .i64 pt.k, .int .i64 pt.g]) := by
      have hf := HFr.trans fZ7 (e3 := ownR (S.r k) (S.rv k) (Rk S.C k)) fun _ _ q => by rcases q with q | q; exact q; exact q.elim
      refine ⟨((HN.sm fZ7).pre H2.out.2.1).mono (by decide), H4.out.2.1.fr hf fun q => ?_, fst.2⟩
      have q1 := (H2.out.1.rh k hk).lt q
      have q2 := H4.out.2.2.1
      omega
    clear HN HFr fZ6 fZ7 fst kb8 hb8 H4 H2
    go_upto_region 12 with fail
    rename_i K hK
    refine wp_region_lit ?_
    refine wpList_runTo rfl (some 83) rfl (.agg #[.int .i64 pt.k, .int .i64 pt.g]) Z7 (by exact ldT_run (blk_rng H7.out.2.1) Try.underlying30 rfl infoThS (.tmp 10) rfl (by kernel_rfl)) ?_
    simp only [Act.put, List.setIfInBounds_toArray, List.set_cons_zero, List.set_cons_succ]
    refine wpList_runTo rfl (some 84) rfl (.agg #[.int .i64 pt.k, .int .i64 pt.g]) Z7 (by exact ldT_run (blk_rng H7.out.2.2) Try.underlying30 rfl infoThS (.tmp 12) rfl (by kernel_rfl)) ?_
    simp only [Act.put, List.setIfInBounds_toArray, List.set_cons_zero, List.set_cons_succ]
    refine wpList_runTo rfl (some 85) rfl (.bool true) Z7 (by exact eqTh_run (p := pt.k) (q := pt.g) (.tmp 83) (.tmp 84) rfl (by kernel_rfl) (by kernel_rfl) _) ?_
    simp only [Act.put, List.setIfInBounds_toArray, List.set_cons_zero, List.set_cons_succ]
    refine wpList_runTo rfl (some 86) rfl (.bool true) Z7 (by kernel_rfl) ?_
    simp only [Act.put, List.setIfInBounds_toArray, List.set_cons_zero, List.set_cons_succ]
    refine wpList_runToG (by kernel_rfl) (some 87) rfl (.int .i64 r) Z7 (by kernel_rfl) ?_
    simp only [Act.put, List.setIfInBounds_toArray, List.set_cons_zero, List.set_cons_succ]
    refine wpList_runToG (by kernel_rfl) (some 88) rfl (.int .i64 r) Z7 (by kernel_rfl) ?_
    simp only [Act.put, List.setIfInBounds_toArray, List.set_cons_zero, List.set_cons_succ]
    refine wpList_runToG (by kernel_rfl) (some 89) rfl (.bool true) Z7 (by exact eqE_run (p := r) (.tmp 87) (.tmp 88) rfl (by kernel_rfl) (by kernel_rfl) _) ?_
    simp only [Act.put, List.setIfInBounds_toArray, List.set_cons_zero, List.set_cons_succ]
    refine wpList_runTo rfl (some 90) rfl (.bool true) Z7 (by kernel_rfl) ?_
    simp only [Act.put, List.setIfInBounds_toArray, List.set_cons_zero, List.set_cons_succ]
    refine wpList_runTo rfl (some 4) rfl (.bool true) Z7 (by kernel_rfl) ?_
    simp only [Act.put, List.setIfInBounds_toArray, List.set_cons_zero, List.set_cons_succ]
    refine wpList_nil ?_
    refine hK _ _ ?_
    clear hK
    have HZ : Hid (Nx w W Z7 wb S col 3) := H7.out.1
    clear H7 HH HBd
    go_wp2
    go_ret
    exact ⟨rfl, HZ⟩
  have ed : decide (kd = 3) = false := by simp [h3]
  rw [ed]
  clear ed
  go_upto_region 13 with fail
  rename_i K hK
  refine wp_region_lit ?_
  refine wpList_runTo rfl (some 92) rfl (.bool (decide (kd = 4))) Z1 (by exact eqK_run (.tmp 23) (.const (.int .i64 4)) rfl (by kernel_rfl) (by kernel_rfl) _) ?_
  simp only [Act.put, List.setIfInBounds_toArray, List.set_cons_zero, List.set_cons_succ]
  refine wpList_runTo rfl (some 91) rfl (.bool (decide (kd = 4))) Z1 (by kernel_rfl) ?_
  simp only [Act.put, List.setIfInBounds_toArray, List.set_cons_zero, List.set_cons_succ]
  refine wpList_nil ?_
  refine hK _ _ ?_
  clear hK
  by_cases h4 : kd = 4
  · have ed : decide (kd = 4) = true := by simp [h4]
    rw [ed]
    clear ed
    go_upto_region 16 with fail
    rename_i K hK
    refine wp_region_lit ?_
    refine wpList_runTo rfl (some 95) rfl (ptr wb) Z1 (by kernel_rfl) ?_
    simp only [Act.put, List.setIfInBounds_toArray, List.set_cons_zero, List.set_cons_succ]
    refine wpList_runTo rfl (some 96) rfl (.agg #[.int .i64 kd, .int .i64 on, .int .i64 im, .int .i64 nn, .int .i64 x.k, .int .i64 x.g]) Z1 (by exact ldT_run (blk_rng H2.out.2.2) Try.underlying93 rfl infoStS (.tmp 3) rfl (by kernel_rfl)) ?_
    simp only [Act.put, List.setIfInBounds_toArray, List.set_cons_zero, List.set_cons_succ]
    refine wpList_runTo rfl (some 97) rfl (.int .i64 (k : Int)) Z1 (by kernel_rfl) ?_
    simp only [Act.put, List.setIfInBounds_toArray, List.set_cons_zero, List.set_cons_succ]
    refine wpList_callW rfl (some 98) rfl 69 #[ptr wb, .agg #[.int .i64 kd, .int .i64 on, .int .i64 im, .int .i64 nn, .int .i64 x.k, .int .i64 x.g], .int .i64 (k : Int)] (by kernel_rfl) (item_any H2.out.1 hk kd on im nn x HBd.out.2.1.1 HBd.out.2.1.2) ?_
    rintro ee Z2 ⟨rfl, HN⟩
    refine ⟨_, rfl, ?_⟩
    simp only [Act.put, List.setIfInBounds_toArray, List.set_cons_zero, List.set_cons_succ]
    refine wpList_runTo rfl (some 4) rfl (.bool true) Z2 (by kernel_rfl) ?_
    simp only [Act.put, List.setIfInBounds_toArray, List.set_cons_zero, List.set_cons_succ]
    refine wpList_nil ?_
    refine hK _ _ ?_
    clear hK
    have HZ : Hid (Nx w W Z2 wb S col 3) := (HN.out.pre H2.out.2.1).mono (by decide)
    clear HN
    clear HH H2 HBd
    go_wp2
    go_ret
    exact ⟨rfl, HZ⟩
  have ed : decide (kd = 4) = false := by simp [h4]
  rw [ed]
  clear ed
  go_upto_region 14 with fail
  rename_i K hK
  refine wp_region_lit ?_
  refine wpList_runTo rfl (some 93) rfl (.bool (decide (kd = 5))) Z1 (by exact eqK_run (.tmp 23) (.const (.int .i64 5)) rfl (by kernel_rfl) (by kernel_rfl) _) ?_
  simp only [Act.put, List.setIfInBounds_toArray, List.set_cons_zero, List.set_cons_succ]
  refine wpList_runTo rfl (some 91) rfl (.bool (decide (kd = 5))) Z1 (by kernel_rfl) ?_
  simp only [Act.put, List.setIfInBounds_toArray, List.set_cons_zero, List.set_cons_succ]
  refine wpList_nil ?_
  refine hK _ _ ?_
  clear hK
  by_cases h5 : kd = 5
  · have ed : decide (kd = 5) = true := by simp [h5]
    rw [ed]
    clear ed
    go_upto_region 16 with fail
    rename_i K hK
    refine wp_region_lit ?_
    refine wpList_runTo rfl (some 95) rfl (ptr wb) Z1 (by kernel_rfl) ?_
    simp only [Act.put, List.setIfInBounds_toArray, List.set_cons_zero, List.set_cons_succ]
    refine wpList_runTo rfl (some 96) rfl (.agg #[.int .i64 kd, .int .i64 on, .int .i64 im, .int .i64 nn, .int .i64 x.k, .int .i64 x.g]) Z1 (by exact ldT_run (blk_rng H2.out.2.2) Try.underlying93 rfl infoStS (.tmp 3) rfl (by kernel_rfl)) ?_
    simp only [Act.put, List.setIfInBounds_toArray, List.set_cons_zero, List.set_cons_succ]
    refine wpList_runTo rfl (some 97) rfl (.int .i64 (k : Int)) Z1 (by kernel_rfl) ?_
    simp only [Act.put, List.setIfInBounds_toArray, List.set_cons_zero, List.set_cons_succ]
    refine wpList_callW rfl (some 98) rfl 69 #[ptr wb, .agg #[.int .i64 kd, .int .i64 on, .int .i64 im, .int .i64 nn, .int .i64 x.k, .int .i64 x.g], .int .i64 (k : Int)] (by kernel_rfl) (item_any H2.out.1 hk kd on im nn x HBd.out.2.1.1 HBd.out.2.1.2) ?_
    rintro ee Z2 ⟨rfl, HN⟩
    refine ⟨_, rfl, ?_⟩
    simp only [Act.put, List.setIfInBounds_toArray, List.set_cons_zero, List.set_cons_succ]
    refine wpList_runTo rfl (some 4) rfl (.bool true) Z2 (by kernel_rfl) ?_
    simp only [Act.put, List.setIfInBounds_toArray, List.set_cons_zero, List.set_cons_succ]
    refine wpList_nil ?_
    refine hK _ _ ?_
    clear hK
    have HZ : Hid (Nx w W Z2 wb S col 3) := (HN.out.pre H2.out.2.1).mono (by decide)
    clear HN
    clear HH H2 HBd
    go_wp2
    go_ret
    exact ⟨rfl, HZ⟩
  have ed : decide (kd = 5) = false := by simp [h5]
  rw [ed]
  clear ed
  go_upto_region 15 with fail
  refine wp_region_lit ?_
  refine wpList_runTo rfl (some 94) rfl (.bool (decide (kd = 6))) Z1 (by exact eqK_run (.tmp 23) (.const (.int .i64 6)) rfl (by kernel_rfl) (by kernel_rfl) _) ?_
  simp only [Act.put, List.setIfInBounds_toArray, List.set_cons_zero, List.set_cons_succ]
  refine wpList_runTo rfl (some 91) rfl (.bool (decide (kd = 6))) Z1 (by kernel_rfl) ?_
  simp only [Act.put, List.setIfInBounds_toArray, List.set_cons_zero, List.set_cons_succ]
  refine wpList_nil ?_
  by_cases h6 : kd = 6
  · have ed : decide (kd = 6) = true := by simp [h6]
    rw [ed]
    clear ed
    go_upto_region 16 with fail
    rename_i K hK
    refine wp_region_lit ?_
    refine wpList_runTo rfl (some 95) rfl (ptr wb) Z1 (by kernel_rfl) ?_
    simp only [Act.put, List.setIfInBounds_toArray, List.set_cons_zero, List.set_cons_succ]
    refine wpList_runTo rfl (some 96) rfl (.agg #[.int .i64 kd, .int .i64 on, .int .i64 im, .int .i64 nn, .int .i64 x.k, .int .i64 x.g]) Z1 (by exact ldT_run (blk_rng H2.out.2.2) Try.underlying93 rfl infoStS (.tmp 3) rfl (by kernel_rfl)) ?_
    simp only [Act.put, List.setIfInBounds_toArray, List.set_cons_zero, List.set_cons_succ]
    refine wpList_runTo rfl (some 97) rfl (.int .i64 (k : Int)) Z1 (by kernel_rfl) ?_
    simp only [Act.put, List.setIfInBounds_toArray, List.set_cons_zero, List.set_cons_succ]
    refine wpList_callW rfl (some 98) rfl 69 #[ptr wb, .agg #[.int .i64 kd, .int .i64 on, .int .i64 im, .int .i64 nn, .int .i64 x.k, .int .i64 x.g], .int .i64 (k : Int)] (by kernel_rfl) (item_any H2.out.1 hk kd on im nn x HBd.out.2.1.1 HBd.out.2.1.2) ?_
    rintro ee Z2 ⟨rfl, HN⟩
    refine ⟨_, rfl, ?_⟩
    simp only [Act.put, List.setIfInBounds_toArray, List.set_cons_zero, List.set_cons_succ]
    refine wpList_runTo rfl (some 4) rfl (.bool true) Z2 (by kernel_rfl) ?_
    simp only [Act.put, List.setIfInBounds_toArray, List.set_cons_zero, List.set_cons_succ]
    refine wpList_nil ?_
    refine hK _ _ ?_
    clear hK
    have HZ : Hid (Nx w W Z2 wb S col 3) := (HN.out.pre H2.out.2.1).mono (by decide)
    clear HN
    clear HH H2 HBd
    go_wp2
    go_ret
    exact ⟨rfl, HZ⟩
  have ed : decide (kd = 6) = false := by simp [h6]
  rw [ed]
  clear ed
  go_upto_region 17 with fail
  rename_i K hK
  refine wp_region_lit ?_
  refine wpList_runTo rfl (some 100) rfl (.bool (decide (kd = 7))) Z1 (by exact eqK_run (.tmp 23) (.const (.int .i64 7)) rfl (by kernel_rfl) (by kernel_rfl) _) ?_
  simp only [Act.put, List.setIfInBounds_toArray, List.set_cons_zero, List.set_cons_succ]
  refine wpList_runTo rfl (some 99) rfl (.bool (decide (kd = 7))) Z1 (by kernel_rfl) ?_
  simp only [Act.put, List.setIfInBounds_toArray, List.set_cons_zero, List.set_cons_succ]
  refine wpList_nil ?_
  refine hK _ _ ?_
  clear hK
  by_cases h7 : kd = 7
  · have ed : decide (kd = 7) = true := by simp [h7]
    rw [ed]
    clear ed
    go_upto_region 18 with fail
    obtain ⟨Z3, hZ3⟩ : ∃ z, z = Z1.drew := ⟨_, rfl⟩
    have fd : Fr Z1 Z3 (fun _ => False) := by rw [hZ3]; exact (Fr.refl Z1 _).drew
    have H3 : Hid (PW w Z3 wb S col ∧ Fr W Z3 (fun _ => False) ∧ Blk Z3 b3 93 #[.int .i64 kd, .int .i64 on, .int .i64 im, .int .i64 nn, .int .i64 x.k, .int .i64 x.g]) := ⟨H2.out.1.sm fd, (H2.out.2.1.trans fd fun _ _ q => by rcases q with q | q <;> exact q), H2.out.2.2.fr fd (fun q => q)⟩
    have hS : (Blk Z3 wb 89 S.cs ∧ Blk Z3 b3 93 #[.int .i64 kd, .int .i64 on, .int .i64 im, .int .i64 nn, .int .i64 x.k, .int .i64 x.g]) := ⟨H3.out.1.bw, H3.out.2.2⟩
    clear fd
    rename_i K hK
    refine wp_region_held (S := fun w' => (Blk w' wb 89 S.cs ∧ Blk w' b3 93 #[.int .i64 kd, .int .i64 on, .int .i64 im, .int .i64 nn, .int .i64 x.k, .int .i64 x.g])) (by kernel_rfl) ?_
    change wpAnyH _ _ _ _ _ _ _ _ (World.drew _)
    rw [← hZ3]
    clear hZ3 H2
    refine takeR (i := 0) (v := ptr wb) (some 101) rfl rfl (by kernel_rfl) (by kernel_rfl) (by kernel_rfl) (fun _ _ _ h => h) (Or.inl ⟨by kernel_rfl, fun w' hSw => by kernel_rfl⟩) hS ?_
    simp only [Act.put, List.setIfInBounds_toArray, List.set_cons_zero, List.set_cons_succ]
    refine takeR (i := 1) (v := .int .i64 (k : Int)) (some 102) rfl rfl (by kernel_rfl) (by kernel_rfl) (by kernel_rfl) (fun _ _ _ h => h) (Or.inl ⟨by kernel_rfl, fun w' hSw => by kernel_rfl⟩) hS ?_
    simp only [Act.put, List.setIfInBounds_toArray, List.set_cons_zero, List.set_cons_succ]
    refine takeR (i := 2) (v := ptr wb) (some 103) rfl rfl (by kernel_rfl) (by kernel_rfl) (by kernel_rfl) (fun _ _ _ h => h) (Or.inl ⟨by kernel_rfl, fun w' hSw => by kernel_rfl⟩) hS ?_
    simp only [Act.put, List.setIfInBounds_toArray, List.set_cons_zero, List.set_cons_succ]
    refine takeR (i := 3) (v := .pointer (some ⟨wb, 0, none⟩)) (some 104) rfl rfl (by kernel_rfl) (by kernel_rfl) (by kernel_rfl) (fun _ _ _ h => h) (Or.inl ⟨by kernel_rfl, fun w' hSw => by kernel_rfl⟩) hS ?_
    simp only [Act.put, List.setIfInBounds_toArray, List.set_cons_zero, List.set_cons_succ]
    refine takeR (i := 4) (v := .pointer (some ⟨wb, 0 + k, none⟩)) (some 105) rfl rfl (by kernel_rfl) (by kernel_rfl) (by kernel_rfl) (fun _ _ _ h => h) (Or.inl ⟨by kernel_rfl, fun w' hSw => by exact ixW_run (.inl rfl) (.tmp 104) (.tmp 102) rfl (by kernel_rfl) (by kernel_rfl) hk _⟩) hS ?_
    simp only [Act.put, List.setIfInBounds_toArray, List.set_cons_zero, List.set_cons_succ]
    refine takeR (i := 5) (v := ptr (S.h k)) (some 106) rfl rfl (by kernel_rfl) (by kernel_rfl) (by kernel_rfl) (fun _ _ _ h => h) (Or.inl ⟨by kernel_rfl, fun w' hSw => by exact ldC_run (by unfold LC; simp) (.tmp 105) rfl (by kernel_rfl) ((hSw.1.cell _).trans (cs_h S hk))⟩) hS ?_
    simp only [Act.put, List.setIfInBounds_toArray, List.set_cons_zero, List.set_cons_succ]
    refine takeR (i := 7) (v := ptr wb) (some 108) rfl rfl (by kernel_rfl) (by kernel_rfl) (by kernel_rfl) (fun _ _ _ h => h) (Or.inl ⟨by kernel_rfl, fun w' hSw => by kernel_rfl⟩) hS ?_
    simp only [Act.put, List.setIfInBounds_toArray, List.set_cons_zero, List.set_cons_succ]
    refine takeR (i := 8) (v := .int .i64 (k : Int)) (some 109) rfl rfl (by kernel_rfl) (by kernel_rfl) (by kernel_rfl) (fun _ _ _ h => h) (Or.inl ⟨by kernel_rfl, fun w' hSw => by kernel_rfl⟩) hS ?_
    simp only [Act.put, List.setIfInBounds_toArray, List.set_cons_zero, List.set_cons_succ]
    refine takeR (i := 9) (v := ptr wb) (some 110) rfl rfl (by kernel_rfl) (by kernel_rfl) (by kernel_rfl) (fun _ _ _ h => h) (Or.inl ⟨by kernel_rfl, fun w' hSw => by kernel_rfl⟩) hS ?_
    simp only [Act.put, List.setIfInBounds_toArray, List.set_cons_zero, List.set_cons_succ]
    refine takeR (i := 10) (v := .pointer (some ⟨wb, 3, none⟩)) (some 111) rfl rfl (by kernel_rfl) (by kernel_rfl) (by kernel_rfl) (fun _ _ _ h => h) (Or.inl ⟨by kernel_rfl, fun w' hSw => by kernel_rfl⟩) hS ?_
    simp only [Act.put, List.setIfInBounds_toArray, List.set_cons_zero, List.set_cons_succ]
    refine takeR (i := 11) (v := .pointer (some ⟨wb, 3 + k, none⟩)) (some 112) rfl rfl (by kernel_rfl) (by kernel_rfl) (by kernel_rfl) (fun _ _ _ h => h) (Or.inl ⟨by kernel_rfl, fun w' hSw => by exact ixW_run (.inr rfl) (.tmp 111) (.tmp 109) rfl (by kernel_rfl) (by kernel_rfl) hk _⟩) hS ?_
    simp only [Act.put, List.setIfInBounds_toArray, List.set_cons_zero, List.set_cons_succ]
    refine takeR (i := 12) (v := ptr (S.r k)) (some 113) rfl rfl (by kernel_rfl) (by kernel_rfl) (by kernel_rfl) (fun _ _ _ h => h) (Or.inl ⟨by kernel_rfl, fun w' hSw => by exact ldC_run (by unfold LC; simp) (.tmp 112) rfl (by kernel_rfl) ((hSw.1.cell _).trans (cs_r S hk))⟩) hS ?_
    simp only [Act.put, List.setIfInBounds_toArray, List.set_cons_zero, List.set_cons_succ]
    refine wpAnyH_ready (rs := [6]) (by kernel_rfl) (by simp) ?_
    refine AllReadyH.cons rfl (fun K1 hK1 => ?_) AllReadyH.nil
    rw [if_pos (by kernel_rfl)]
    refine callR (d := some 107) rfl 13 #[ptr (S.h k)] (by kernel_rfl) (Len_O (H3.out.1.hp k hk)) ?_
    rintro ee Z4 ⟨rfl, ez⟩
    refine ⟨_, rfl, ?_⟩
    replace ez := ez.symm
    subst ez
    refine hK1.out _ _ hS (fun _ => ?_)
    clear hK1
    simp only [Act.put, List.setIfInBounds_toArray, List.set_cons_zero, List.set_cons_succ]
    refine wpAnyH_ready (rs := [13]) (by kernel_rfl) (by simp) ?_
    refine AllReadyH.cons rfl (fun K1 hK1 => ?_) AllReadyH.nil
    rw [if_pos (by kernel_rfl)]
    refine callR (d := some 114) rfl 70 #[ptr (S.r k)] (by kernel_rfl) (rLen_any (H3.out.1.rh k hk)) ?_
    rintro ee Z4 ⟨rfl, ez⟩
    refine ⟨_, rfl, ?_⟩
    replace ez := ez.symm
    subst ez
    have hll : ((liveL (Rk S.C k)).length : Int) = ((Lk S.C k).length : Int) := by rw [liveR, ← Lk_x, List.length_map]
    rw [hll]
    clear hll
    refine hK1.out _ _ hS (fun _ => ?_)
    clear hK1
    simp only [Act.put, List.setIfInBounds_toArray, List.set_cons_zero, List.set_cons_succ]
    refine takeR (i := 14) (v := .bool true) (some 115) rfl rfl (by kernel_rfl) (by kernel_rfl) (by kernel_rfl) (fun _ _ _ h => h) (Or.inl ⟨by kernel_rfl, fun w' hSw => by exact eqI_run (p := ((Lk S.C k).length : Int)) (.tmp 107) (.tmp 114) rfl (by kernel_rfl) (by kernel_rfl) _⟩) hS ?_
    simp only [Act.put, List.setIfInBounds_toArray, List.set_cons_zero, List.set_cons_succ]
    refine takeR (i := 15) (v := .bool true) (some 4) rfl rfl (by kernel_rfl) (by kernel_rfl) (by kernel_rfl) (fun _ _ _ h => h) (Or.inl ⟨by kernel_rfl, fun w' hSw => by kernel_rfl⟩) hS ?_
    simp only [Act.put, List.setIfInBounds_toArray, List.set_cons_zero, List.set_cons_succ]
    have HZ : Hid (Nx w W Z3 wb S col 3) := HH.out.1.nx H3.out.2.1 3
    refine wpAnyH_done (by kernel_rfl) ?_ _
    clear hS H3 HH HBd
    refine hK _ _ ?_
    clear hK
    go_wp2
    go_ret
    exact ⟨rfl, HZ⟩
  have ed : decide (kd = 7) = false := by simp [h7]
  rw [ed]
  clear ed
  go_upto_region 19 with fail
  rename_i K hK
  refine wp_region_lit ?_
  refine wpList_runTo rfl (some 117) rfl (.bool (decide (kd = 8))) Z1 (by exact eqK_run (.tmp 23) (.const (.int .i64 8)) rfl (by kernel_rfl) (by kernel_rfl) _) ?_
  simp only [Act.put, List.setIfInBounds_toArray, List.set_cons_zero, List.set_cons_succ]
  refine wpList_runTo rfl (some 116) rfl (.bool (decide (kd = 8))) Z1 (by kernel_rfl) ?_
  simp only [Act.put, List.setIfInBounds_toArray, List.set_cons_zero, List.set_cons_succ]
  refine wpList_nil ?_
  refine hK _ _ ?_
  clear hK
  by_cases h8 : kd = 8
  · have ed : decide (kd = 8) = true := by simp [h8]
    rw [ed]
    clear ed
    go_upto_region 20 with fail
    obtain ⟨Z3, hZ3⟩ : ∃ z, z = Z1.drew := ⟨_, rfl⟩
    have fd : Fr Z1 Z3 (fun _ => False) := by rw [hZ3]; exact (Fr.refl Z1 _).drew
    have H3 : Hid (PW w Z3 wb S col ∧ Fr W Z3 (fun _ => False) ∧ Blk Z3 b3 93 #[.int .i64 kd, .int .i64 on, .int .i64 im, .int .i64 nn, .int .i64 x.k, .int .i64 x.g]) := ⟨H2.out.1.sm fd, (H2.out.2.1.trans fd fun _ _ q => by rcases q with q | q <;> exact q), H2.out.2.2.fr fd (fun q => q)⟩
    have hS : (Blk Z3 b3 93 #[.int .i64 kd, .int .i64 on, .int .i64 im, .int .i64 nn, .int .i64 x.k, .int .i64 x.g] ∧ Blk Z3 b3 93 #[.int .i64 kd, .int .i64 on, .int .i64 im, .int .i64 nn, .int .i64 x.k, .int .i64 x.g]) := ⟨H3.out.2.2, H3.out.2.2⟩
    clear fd
    rename_i K hK
    refine wp_region_held (S := fun w' => (Blk w' b3 93 #[.int .i64 kd, .int .i64 on, .int .i64 im, .int .i64 nn, .int .i64 x.k, .int .i64 x.g] ∧ Blk w' b3 93 #[.int .i64 kd, .int .i64 on, .int .i64 im, .int .i64 nn, .int .i64 x.k, .int .i64 x.g])) (by kernel_rfl) ?_
    change wpAnyH _ _ _ _ _ _ _ _ (World.drew _)
    rw [← hZ3]
    clear hZ3 H2
    refine takeR (i := 0) (v := ptr wb) (some 118) rfl rfl (by kernel_rfl) (by kernel_rfl) (by kernel_rfl) (fun _ _ _ h => h) (Or.inl ⟨by kernel_rfl, fun w' hSw => by kernel_rfl⟩) hS ?_
    simp only [Act.put, List.setIfInBounds_toArray, List.set_cons_zero, List.set_cons_succ]
    refine takeR (i := 1) (v := .int .i64 (k : Int)) (some 119) rfl rfl (by kernel_rfl) (by kernel_rfl) (by kernel_rfl) (fun _ _ _ h => h) (Or.inl ⟨by kernel_rfl, fun w' hSw => by kernel_rfl⟩) hS ?_
    simp only [Act.put, List.setIfInBounds_toArray, List.set_cons_zero, List.set_cons_succ]
    refine takeR (i := 2) (v := .pointer (some ⟨b3, 3, none⟩)) (some 120) rfl rfl (by kernel_rfl) (by kernel_rfl) (by kernel_rfl) (fun _ _ _ h => h) (Or.inl ⟨by kernel_rfl, fun w' hSw => by kernel_rfl⟩) hS ?_
    simp only [Act.put, List.setIfInBounds_toArray, List.set_cons_zero, List.set_cons_succ]
    refine takeR (i := 3) (v := .int .i64 nn) (some 121) rfl rfl (by kernel_rfl) (by kernel_rfl) (by kernel_rfl) (fun _ _ _ h => h) (Or.inl ⟨by kernel_rfl, fun w' hSw => by exact ldC_run (by unfold LC; simp) (.tmp 120) rfl (by kernel_rfl) (hSw.2.cell 3)⟩) hS ?_
    simp only [Act.put, List.setIfInBounds_toArray, List.set_cons_zero, List.set_cons_succ]
    refine takeR (i := 5) (v := .pointer (some ⟨b3, 4, none⟩)) (some 123) rfl rfl (by kernel_rfl) (by kernel_rfl) (by kernel_rfl) (fun _ _ _ h => h) (Or.inl ⟨by kernel_rfl, fun w' hSw => by kernel_rfl⟩) hS ?_
    simp only [Act.put, List.setIfInBounds_toArray, List.set_cons_zero, List.set_cons_succ]
    refine takeR (i := 6) (v := .agg #[.int .i64 x.k, .int .i64 x.g]) (some 124) rfl rfl (by kernel_rfl) (by kernel_rfl) (by kernel_rfl) (fun _ _ _ h => h) (Or.inl ⟨by kernel_rfl, fun w' hSw => by exact ldT_run (cs := #[.int .i64 x.k, .int .i64 x.g]) (stp_rng hSw.2) Try.underlying30 rfl infoThS (.tmp 123) rfl (by kernel_rfl)⟩) hS ?_
    simp only [Act.put, List.setIfInBounds_toArray, List.set_cons_zero, List.set_cons_succ]
    refine wpAnyH_ready (rs := [4]) (by kernel_rfl) (by simp) ?_
    refine AllReadyH.cons rfl (fun K1 hK1 => ?_) AllReadyH.nil
    rw [if_pos (by kernel_rfl)]
    refine callR (d := some 122) rfl 9 #[.int .i64 nn, .int .i64 12] (by kernel_rfl) (pick_any nn 12 12 rfl _ (by decide) (by decide) HBd.out.2.2.1 HBd.out.2.2.2) ?_
    rintro ee Z4 ⟨rfl, ez⟩
    refine ⟨_, rfl, ?_⟩
    replace ez := ez.symm
    subst ez
    refine hK1.out _ _ hS (fun _ => ?_)
    clear hK1
    simp only [Act.put, List.setIfInBounds_toArray, List.set_cons_zero, List.set_cons_succ]
    refine wpAnyH_ready (rs := [7]) (by kernel_rfl) (by simp) ?_
    refine AllReadyH.cons rfl (fun K1 hK1 => ?_) AllReadyH.nil
    rw [if_pos (by kernel_rfl)]
    refine callR (d := some 125) rfl 71 #[ptr wb, .int .i64 (k : Int), .int .i64 (pickN nn 12 : Int), .int .i64 (-1), .agg #[.int .i64 x.k, .int .i64 x.g]] (by kernel_rfl) (all_any H3.out.1 hk (pickN nn 12 : Int) (-1) x (by have := HH.out.2; omega)) ?_
    rintro ee Z5 ⟨rfl, HN⟩
    refine ⟨_, rfl, ?_⟩
    have hb5 : (Blk Z5 b3 93 #[.int .i64 kd, .int .i64 on, .int .i64 im, .int .i64 nn, .int .i64 x.k, .int .i64 x.g]) := by
      obtain ⟨_, _, _, _, _, _, _, fr5⟩ := HN.out
      exact H3.out.2.2.fr fr5 (H3.out.1.ownT H3.out.2.2 (by unfold freeT; decide))
    have hS5 : (Blk Z5 b3 93 #[.int .i64 kd, .int .i64 on, .int .i64 im, .int .i64 nn, .int .i64 x.k, .int .i64 x.g] ∧ Blk Z5 b3 93 #[.int .i64 kd, .int .i64 on, .int .i64 im, .int .i64 nn, .int .i64 x.k, .int .i64 x.g]) := ⟨hb5, hb5⟩
    have HN5 : Hid (Nx w W Z5 wb S col 1 ∧ (Blk Z5 b3 93 #[.int .i64 kd, .int .i64 on, .int .i64 im, .int .i64 nn, .int .i64 x.k, .int .i64 x.g])) := ⟨HN.out.pre H3.out.2.1, hb5⟩
    clear HN H3 hS hb5
    refine hK1.out _ _ hS5 (fun _ => ?_)
    clear hK1
    simp only [Act.put, List.setIfInBounds_toArray, List.set_cons_zero, List.set_cons_succ]
    refine takeR (i := 8) (v := .bool true) (some 14) rfl rfl (by kernel_rfl) (by kernel_rfl) (by kernel_rfl) (fun _ _ _ h => h) (Or.inl ⟨by kernel_rfl, fun w' hSw => by kernel_rfl⟩) hS5 ?_
    simp only [Act.put, List.setIfInBounds_toArray, List.set_cons_zero, List.set_cons_succ]
    refine wpAnyH_done (by kernel_rfl) ?_ _
    clear hS5
    refine hK _ _ ?_
    clear hK
    obtain ⟨S5, col5, p5, hh5, hr5, ln5, ow5, fr5⟩ := HN5.out.1
    have H5 : Hid (PW w Z5 wb S5 col5 ∧ S5.h = S.h ∧ S5.r = S.r ∧ S5.C.length ≤ S.C.length + 1 ∧ (∀ b, owns wb S5 b → owns wb S b ∨ W.heap.size ≤ b) ∧ Fr W Z5 (owns wb S) ∧ (Blk Z5 b3 93 #[.int .i64 kd, .int .i64 on, .int .i64 im, .int .i64 nn, .int .i64 x.k, .int .i64 x.g])) := ⟨p5, hh5, hr5, ln5, ow5, fr5, HN5.out.2⟩
    clear HN5 p5 hh5 hr5 ln5 ow5 fr5
    go_upto_region 21 with fail
    rename_i K hK
    refine wp_region_lit ?_
    refine wpList_runTo rfl (some 126) rfl (ptr wb) Z5 (by kernel_rfl) ?_
    simp only [Act.put, List.setIfInBounds_toArray, List.set_cons_zero, List.set_cons_succ]
    refine wpList_runTo rfl (some 127) rfl (.int .i64 (k : Int)) Z5 (by kernel_rfl) ?_
    simp only [Act.put, List.setIfInBounds_toArray, List.set_cons_zero, List.set_cons_succ]
    refine wpList_runTo rfl (some 128) rfl (.pointer (some ⟨b3, 4, none⟩)) Z5 (by kernel_rfl) ?_
    simp only [Act.put, List.setIfInBounds_toArray, List.set_cons_zero, List.set_cons_succ]
    refine wpList_runTo rfl (some 129) rfl (.agg #[.int .i64 x.k, .int .i64 x.g]) Z5 (by exact ldT_run (cs := #[.int .i64 x.k, .int .i64 x.g]) (stp_rng H5.out.2.2.2.2.2.2) Try.underlying30 rfl infoThS (.tmp 128) rfl (by kernel_rfl)) ?_
    simp only [Act.put, List.setIfInBounds_toArray, List.set_cons_zero, List.set_cons_succ]
    refine wpList_callW rfl (some 130) rfl 71 #[ptr wb, .int .i64 (k : Int), .int .i64 (-1), .int .i64 (-1), .agg #[.int .i64 x.k, .int .i64 x.g]] (by kernel_rfl) (all_any H5.out.1 hk (-1) (-1) x (by have := HH.out.2; have := H5.out.2.2.2.1; omega)) ?_
    rintro ee Z6 ⟨rfl, HN⟩
    refine ⟨_, rfl, ?_⟩
    simp only [Act.put, List.setIfInBounds_toArray, List.set_cons_zero, List.set_cons_succ]
    refine wpList_runTo rfl (some 15) rfl (.bool true) Z6 (by kernel_rfl) ?_
    simp only [Act.put, List.setIfInBounds_toArray, List.set_cons_zero, List.set_cons_succ]
    refine wpList_nil ?_
    refine hK _ _ ?_
    clear hK
    have HZ : Hid (Nx w W Z6 wb S col 3) := by
      obtain ⟨S6, col6, p6, hh6, hr6, ln6, ow6, fr6⟩ := HN.out
      have h := H5.out
      refine ⟨S6, col6, p6, hh6.trans h.2.1, hr6.trans h.2.2.1, by have := h.2.2.2.1; omega, fun b q => ?_, h.2.2.2.2.2.1.trans fr6 fun b hb q => ?_⟩
      · rcases ow6 b q with r | r
        · exact h.2.2.2.2.1 b r
        · have := h.2.2.2.2.2.1.size; exact .inr (by omega)
      · rcases q with q | q
        · exact q
        · rcases h.2.2.2.2.1 b q with r | r
          · exact r
          · omega
    clear HN H5
    go_upto_region 22 with fail
    rename_i K hK
    refine wp_region_lit ?_
    refine wpList_runTo rfl (some 131) rfl (.bool true) Z6 (by kernel_rfl) ?_
    simp only [Act.put, List.setIfInBounds_toArray, List.set_cons_zero, List.set_cons_succ]
    refine wpList_runTo rfl (some 132) rfl (.bool true) Z6 (by kernel_rfl) ?_
    simp only [Act.put, List.setIfInBounds_toArray, List.set_cons_zero, List.set_cons_succ]
    refine wpList_runToG (by kernel_rfl) (some 133) rfl (.bool true) Z6 (by kernel_rfl) ?_
    simp only [Act.put, List.setIfInBounds_toArray, List.set_cons_zero, List.set_cons_succ]
    refine wpList_runTo rfl (some 134) rfl (.bool true) Z6 (by kernel_rfl) ?_
    simp only [Act.put, List.setIfInBounds_toArray, List.set_cons_zero, List.set_cons_succ]
    refine wpList_runTo rfl (some 4) rfl (.bool true) Z6 (by kernel_rfl) ?_
    simp only [Act.put, List.setIfInBounds_toArray, List.set_cons_zero, List.set_cons_succ]
    refine wpList_nil ?_
    refine hK _ _ ?_
    clear hK
    clear HH HBd
    go_wp2
    go_ret
    exact ⟨rfl, HZ⟩
  have ed : decide (kd = 8) = false := by simp [h8]
  rw [ed]
  clear ed
  go_upto_region 23 with fail
  rename_i K hK
  refine wp_region_lit ?_
  refine wpList_runTo rfl (some 136) rfl (.bool (decide (kd = 11))) Z1 (by exact eqK_run (.tmp 23) (.const (.int .i64 11)) rfl (by kernel_rfl) (by kernel_rfl) _) ?_
  simp only [Act.put, List.setIfInBounds_toArray, List.set_cons_zero, List.set_cons_succ]
  refine wpList_runTo rfl (some 135) rfl (.bool (decide (kd = 11))) Z1 (by kernel_rfl) ?_
  simp only [Act.put, List.setIfInBounds_toArray, List.set_cons_zero, List.set_cons_succ]
  refine wpList_nil ?_
  refine hK _ _ ?_
  clear hK
  by_cases h11 : kd = 11
  · have ed : decide (kd = 11) = true := by simp [h11]
    rw [ed]
    clear ed
    go_upto_region 24 with fail
    obtain ⟨Z3, hZ3⟩ : ∃ z, z = Z1.drew := ⟨_, rfl⟩
    have fd : Fr Z1 Z3 (fun _ => False) := by rw [hZ3]; exact (Fr.refl Z1 _).drew
    have H3 : Hid (PW w Z3 wb S col ∧ Fr W Z3 (fun _ => False) ∧ Blk Z3 b3 93 #[.int .i64 kd, .int .i64 on, .int .i64 im, .int .i64 nn, .int .i64 x.k, .int .i64 x.g]) := ⟨H2.out.1.sm fd, (H2.out.2.1.trans fd fun _ _ q => by rcases q with q | q <;> exact q), H2.out.2.2.fr fd (fun q => q)⟩
    have hS : (Blk Z3 b3 93 #[.int .i64 kd, .int .i64 on, .int .i64 im, .int .i64 nn, .int .i64 x.k, .int .i64 x.g] ∧ Blk Z3 b3 93 #[.int .i64 kd, .int .i64 on, .int .i64 im, .int .i64 nn, .int .i64 x.k, .int .i64 x.g]) := ⟨H3.out.2.2, H3.out.2.2⟩
    clear fd
    rename_i K hK
    refine wp_region_held (S := fun w' => (Blk w' b3 93 #[.int .i64 kd, .int .i64 on, .int .i64 im, .int .i64 nn, .int .i64 x.k, .int .i64 x.g] ∧ Blk w' b3 93 #[.int .i64 kd, .int .i64 on, .int .i64 im, .int .i64 nn, .int .i64 x.k, .int .i64 x.g])) (by kernel_rfl) ?_
    change wpAnyH _ _ _ _ _ _ _ _ (World.drew _)
    rw [← hZ3]
    clear hZ3 H2
    refine takeR (i := 0) (v := ptr wb) (some 137) rfl rfl (by kernel_rfl) (by kernel_rfl) (by kernel_rfl) (fun _ _ _ h => h) (Or.inl ⟨by kernel_rfl, fun w' hSw => by kernel_rfl⟩) hS ?_
    simp only [Act.put, List.setIfInBounds_toArray, List.set_cons_zero, List.set_cons_succ]
    refine takeR (i := 1) (v := .int .i64 (k : Int)) (some 138) rfl rfl (by kernel_rfl) (by kernel_rfl) (by kernel_rfl) (fun _ _ _ h => h) (Or.inl ⟨by kernel_rfl, fun w' hSw => by kernel_rfl⟩) hS ?_
    simp only [Act.put, List.setIfInBounds_toArray, List.set_cons_zero, List.set_cons_succ]
    refine takeR (i := 2) (v := .pointer (some ⟨b3, 3, none⟩)) (some 139) rfl rfl (by kernel_rfl) (by kernel_rfl) (by kernel_rfl) (fun _ _ _ h => h) (Or.inl ⟨by kernel_rfl, fun w' hSw => by kernel_rfl⟩) hS ?_
    simp only [Act.put, List.setIfInBounds_toArray, List.set_cons_zero, List.set_cons_succ]
    refine takeR (i := 3) (v := .int .i64 nn) (some 140) rfl rfl (by kernel_rfl) (by kernel_rfl) (by kernel_rfl) (fun _ _ _ h => h) (Or.inl ⟨by kernel_rfl, fun w' hSw => by exact ldC_run (by unfold LC; simp) (.tmp 139) rfl (by kernel_rfl) (hSw.2.cell 3)⟩) hS ?_
    simp only [Act.put, List.setIfInBounds_toArray, List.set_cons_zero, List.set_cons_succ]
    refine takeR (i := 5) (v := .pointer (some ⟨b3, 4, none⟩)) (some 142) rfl rfl (by kernel_rfl) (by kernel_rfl) (by kernel_rfl) (fun _ _ _ h => h) (Or.inl ⟨by kernel_rfl, fun w' hSw => by kernel_rfl⟩) hS ?_
    simp only [Act.put, List.setIfInBounds_toArray, List.set_cons_zero, List.set_cons_succ]
    refine takeR (i := 6) (v := .agg #[.int .i64 x.k, .int .i64 x.g]) (some 143) rfl rfl (by kernel_rfl) (by kernel_rfl) (by kernel_rfl) (fun _ _ _ h => h) (Or.inl ⟨by kernel_rfl, fun w' hSw => by exact ldT_run (cs := #[.int .i64 x.k, .int .i64 x.g]) (stp_rng hSw.2) Try.underlying30 rfl infoThS (.tmp 142) rfl (by kernel_rfl)⟩) hS ?_
    simp only [Act.put, List.setIfInBounds_toArray, List.set_cons_zero, List.set_cons_succ]
    refine wpAnyH_ready (rs := [4]) (by kernel_rfl) (by simp) ?_
    refine AllReadyH.cons rfl (fun K1 hK1 => ?_) AllReadyH.nil
    rw [if_pos (by kernel_rfl)]
    refine callR (d := some 141) rfl 9 #[.int .i64 nn, .int .i64 12] (by kernel_rfl) (pick_any nn 12 12 rfl _ (by decide) (by decide) HBd.out.2.2.1 HBd.out.2.2.2) ?_
    rintro ee Z4 ⟨rfl, ez⟩
    refine ⟨_, rfl, ?_⟩
    replace ez := ez.symm
    subst ez
    refine hK1.out _ _ hS (fun _ => ?_)
    clear hK1
    simp only [Act.put, List.setIfInBounds_toArray, List.set_cons_zero, List.set_cons_succ]
    refine wpAnyH_ready (rs := [7]) (by kernel_rfl) (by simp) ?_
    refine AllReadyH.cons rfl (fun K1 hK1 => ?_) AllReadyH.nil
    rw [if_pos (by kernel_rfl)]
    refine callR (d := some 144) rfl 72 #[ptr wb, .int .i64 (k : Int), .int .i64 (pickN nn 12 : Int), .agg #[.int .i64 x.k, .int .i64 x.g]] (by kernel_rfl) (later_any H3.out.1 hk (pickN nn 12 : Int) x (by have := HH.out.2; omega)) ?_
    rintro ee Z5 ⟨rfl, HN⟩
    refine ⟨_, rfl, ?_⟩
    have hb5 : (Blk Z5 b3 93 #[.int .i64 kd, .int .i64 on, .int .i64 im, .int .i64 nn, .int .i64 x.k, .int .i64 x.g]) := by
      obtain ⟨_, _, _, _, _, _, _, fr5⟩ := HN.out
      exact H3.out.2.2.fr fr5 (H3.out.1.ownT H3.out.2.2 (by unfold freeT; decide))
    have hS5 : (Blk Z5 b3 93 #[.int .i64 kd, .int .i64 on, .int .i64 im, .int .i64 nn, .int .i64 x.k, .int .i64 x.g] ∧ Blk Z5 b3 93 #[.int .i64 kd, .int .i64 on, .int .i64 im, .int .i64 nn, .int .i64 x.k, .int .i64 x.g]) := ⟨hb5, hb5⟩
    have HN5 : Hid (Nx w W Z5 wb S col 3 ∧ (Blk Z5 b3 93 #[.int .i64 kd, .int .i64 on, .int .i64 im, .int .i64 nn, .int .i64 x.k, .int .i64 x.g])) := ⟨HN.out.pre H3.out.2.1, hb5⟩
    clear HN H3 hS hb5
    refine hK1.out _ _ hS5 (fun _ => ?_)
    clear hK1
    simp only [Act.put, List.setIfInBounds_toArray, List.set_cons_zero, List.set_cons_succ]
    refine takeR (i := 8) (v := .bool true) (some 4) rfl rfl (by kernel_rfl) (by kernel_rfl) (by kernel_rfl) (fun _ _ _ h => h) (Or.inl ⟨by kernel_rfl, fun w' hSw => by kernel_rfl⟩) hS5 ?_
    simp only [Act.put, List.setIfInBounds_toArray, List.set_cons_zero, List.set_cons_succ]
    refine wpAnyH_done (by kernel_rfl) ?_ _
    clear hS5
    refine hK _ _ ?_
    clear hK
    have HZ : Hid (Nx w W Z5 wb S col 3) := HN5.out.1.mono (by decide)
    clear HN5 HH HBd
    go_wp2
    go_ret
    exact ⟨rfl, HZ⟩
  have ed : decide (kd = 11) = false := by simp [h11]
  rw [ed]
  clear ed
  go_upto_region 25 with fail
  rename_i K hK
  refine wp_region_lit ?_
  refine wpList_runTo rfl (some 146) rfl (.bool (decide (kd = 12))) Z1 (by exact eqK_run (.tmp 23) (.const (.int .i64 12)) rfl (by kernel_rfl) (by kernel_rfl) _) ?_
  simp only [Act.put, List.setIfInBounds_toArray, List.set_cons_zero, List.set_cons_succ]
  refine wpList_runTo rfl (some 145) rfl (.bool (decide (kd = 12))) Z1 (by kernel_rfl) ?_
  simp only [Act.put, List.setIfInBounds_toArray, List.set_cons_zero, List.set_cons_succ]
  refine wpList_nil ?_
  refine hK _ _ ?_
  clear hK
  by_cases h12 : kd = 12
  · have ed : decide (kd = 12) = true := by simp [h12]
    rw [ed]
    clear ed
    go_upto_region 26 with fail
    rename_i K hK
    refine wp_region_lit ?_
    refine wpList_runTo rfl (some 147) rfl (ptr wb) Z1 (by kernel_rfl) ?_
    simp only [Act.put, List.setIfInBounds_toArray, List.set_cons_zero, List.set_cons_succ]
    refine wpList_runTo rfl (some 148) rfl (.int .i64 (k : Int)) Z1 (by kernel_rfl) ?_
    simp only [Act.put, List.setIfInBounds_toArray, List.set_cons_zero, List.set_cons_succ]
    refine wpList_runTo rfl (some 149) rfl (.pointer (some ⟨b3, 3, none⟩)) Z1 (by kernel_rfl) ?_
    simp only [Act.put, List.setIfInBounds_toArray, List.set_cons_zero, List.set_cons_succ]
    refine wpList_runTo rfl (some 150) rfl (.int .i64 nn) Z1 (by exact ldC_run (by unfold LC; simp) (.tmp 149) rfl (by kernel_rfl) (H2.out.2.2.cell 3)) ?_
    simp only [Act.put, List.setIfInBounds_toArray, List.set_cons_zero, List.set_cons_succ]
    refine wpList_callW rfl (some 151) rfl 9 #[.int .i64 nn, .int .i64 12] (by kernel_rfl) (pick_any nn 12 12 rfl _ (by decide) (by decide) HBd.out.2.2.1 HBd.out.2.2.2) ?_
    rintro ee Z2 ⟨rfl, ez⟩
    refine ⟨_, rfl, ?_⟩
    simp only [Act.put, List.setIfInBounds_toArray, List.set_cons_zero, List.set_cons_succ]
    replace ez := ez.symm
    subst ez
    refine wpList_callW rfl (some 152) rfl 73 #[ptr wb, .int .i64 (k : Int), .int .i64 (pickN nn 12 : Int)] (by kernel_rfl) (nest_any H2.out.1 hk (pickN nn 12 : Int) (by have := HH.out.2; omega)) ?_
    rintro ee Z2 ⟨rfl, HN⟩
    refine ⟨_, rfl, ?_⟩
    simp only [Act.put, List.setIfInBounds_toArray, List.set_cons_zero, List.set_cons_succ]
    refine wpList_runTo rfl (some 4) rfl (.bool true) Z2 (by kernel_rfl) ?_
    simp only [Act.put, List.setIfInBounds_toArray, List.set_cons_zero, List.set_cons_succ]
    refine wpList_nil ?_
    refine hK _ _ ?_
    clear hK
    have HZ : Hid (Nx w W Z2 wb S col 3) := (HN.out.pre H2.out.2.1).mono (by decide)
    clear HN
    clear HH H2 HBd
    go_wp2
    go_ret
    exact ⟨rfl, HZ⟩
  have ed : decide (kd = 12) = false := by simp [h12]
  rw [ed]
  clear ed
  go_upto_region 27 with fail
  rename_i K hK
  refine wp_region_lit ?_
  refine wpList_runTo rfl (some 154) rfl (.bool (decide (kd = 9))) Z1 (by exact eqK_run (.tmp 23) (.const (.int .i64 9)) rfl (by kernel_rfl) (by kernel_rfl) _) ?_
  simp only [Act.put, List.setIfInBounds_toArray, List.set_cons_zero, List.set_cons_succ]
  refine wpList_runTo rfl (some 153) rfl (.bool (decide (kd = 9))) Z1 (by kernel_rfl) ?_
  simp only [Act.put, List.setIfInBounds_toArray, List.set_cons_zero, List.set_cons_succ]
  refine wpList_nil ?_
  refine hK _ _ ?_
  clear hK
  by_cases h9 : kd = 9
  · have ed : decide (kd = 9) = true := by simp [h9]
    rw [ed]
    clear ed
    go_upto_region 28 with fail
    obtain ⟨Z3, hZ3⟩ : ∃ z, z = Z1.drew := ⟨_, rfl⟩
    have fd : Fr Z1 Z3 (fun _ => False) := by rw [hZ3]; exact (Fr.refl Z1 _).drew
    have H3 : Hid (PW w Z3 wb S col ∧ Fr W Z3 (fun _ => False) ∧ Blk Z3 b3 93 #[.int .i64 kd, .int .i64 on, .int .i64 im, .int .i64 nn, .int .i64 x.k, .int .i64 x.g]) := ⟨H2.out.1.sm fd, (H2.out.2.1.trans fd fun _ _ q => by rcases q with q | q <;> exact q), H2.out.2.2.fr fd (fun q => q)⟩
    have hS : (Blk Z3 b3 93 #[.int .i64 kd, .int .i64 on, .int .i64 im, .int .i64 nn, .int .i64 x.k, .int .i64 x.g] ∧ Blk Z3 b3 93 #[.int .i64 kd, .int .i64 on, .int .i64 im, .int .i64 nn, .int .i64 x.k, .int .i64 x.g]) := ⟨H3.out.2.2, H3.out.2.2⟩
    clear fd
    rename_i K hK
    refine wp_region_held (S := fun w' => (Blk w' b3 93 #[.int .i64 kd, .int .i64 on, .int .i64 im, .int .i64 nn, .int .i64 x.k, .int .i64 x.g] ∧ Blk w' b3 93 #[.int .i64 kd, .int .i64 on, .int .i64 im, .int .i64 nn, .int .i64 x.k, .int .i64 x.g])) (by kernel_rfl) ?_
    change wpAnyH _ _ _ _ _ _ _ _ (World.drew _)
    rw [← hZ3]
    clear hZ3 H2
    refine takeR (i := 0) (v := ptr wb) (some 155) rfl rfl (by kernel_rfl) (by kernel_rfl) (by kernel_rfl) (fun _ _ _ h => h) (Or.inl ⟨by kernel_rfl, fun w' hSw => by kernel_rfl⟩) hS ?_
    simp only [Act.put, List.setIfInBounds_toArray, List.set_cons_zero, List.set_cons_succ]
    refine takeR (i := 1) (v := .int .i64 (k : Int)) (some 156) rfl rfl (by kernel_rfl) (by kernel_rfl) (by kernel_rfl) (fun _ _ _ h => h) (Or.inl ⟨by kernel_rfl, fun w' hSw => by kernel_rfl⟩) hS ?_
    simp only [Act.put, List.setIfInBounds_toArray, List.set_cons_zero, List.set_cons_succ]
    refine takeR (i := 2) (v := .pointer (some ⟨b3, 3, none⟩)) (some 157) rfl rfl (by kernel_rfl) (by kernel_rfl) (by kernel_rfl) (fun _ _ _ h => h) (Or.inl ⟨by kernel_rfl, fun w' hSw => by kernel_rfl⟩) hS ?_
    simp only [Act.put, List.setIfInBounds_toArray, List.set_cons_zero, List.set_cons_succ]
    refine takeR (i := 3) (v := .int .i64 nn) (some 158) rfl rfl (by kernel_rfl) (by kernel_rfl) (by kernel_rfl) (fun _ _ _ h => h) (Or.inl ⟨by kernel_rfl, fun w' hSw => by exact ldC_run (by unfold LC; simp) (.tmp 157) rfl (by kernel_rfl) (hSw.2.cell 3)⟩) hS ?_
    simp only [Act.put, List.setIfInBounds_toArray, List.set_cons_zero, List.set_cons_succ]
    refine takeR (i := 5) (v := .pointer (some ⟨b3, 4, none⟩)) (some 160) rfl rfl (by kernel_rfl) (by kernel_rfl) (by kernel_rfl) (fun _ _ _ h => h) (Or.inl ⟨by kernel_rfl, fun w' hSw => by kernel_rfl⟩) hS ?_
    simp only [Act.put, List.setIfInBounds_toArray, List.set_cons_zero, List.set_cons_succ]
    refine takeR (i := 6) (v := .agg #[.int .i64 x.k, .int .i64 x.g]) (some 161) rfl rfl (by kernel_rfl) (by kernel_rfl) (by kernel_rfl) (fun _ _ _ h => h) (Or.inl ⟨by kernel_rfl, fun w' hSw => by exact ldT_run (cs := #[.int .i64 x.k, .int .i64 x.g]) (stp_rng hSw.2) Try.underlying30 rfl infoThS (.tmp 160) rfl (by kernel_rfl)⟩) hS ?_
    simp only [Act.put, List.setIfInBounds_toArray, List.set_cons_zero, List.set_cons_succ]
    refine wpAnyH_ready (rs := [4]) (by kernel_rfl) (by simp) ?_
    refine AllReadyH.cons rfl (fun K1 hK1 => ?_) AllReadyH.nil
    rw [if_pos (by kernel_rfl)]
    refine callR (d := some 159) rfl 9 #[.int .i64 nn, .int .i64 6] (by kernel_rfl) (pick_any nn 6 6 rfl _ (by decide) (by decide) HBd.out.2.2.1 HBd.out.2.2.2) ?_
    rintro ee Z4 ⟨rfl, ez⟩
    refine ⟨_, rfl, ?_⟩
    replace ez := ez.symm
    subst ez
    refine hK1.out _ _ hS (fun _ => ?_)
    clear hK1
    simp only [Act.put, List.setIfInBounds_toArray, List.set_cons_zero, List.set_cons_succ]
    refine wpAnyH_ready (rs := [7]) (by kernel_rfl) (by simp) ?_
    refine AllReadyH.cons rfl (fun K1 hK1 => ?_) AllReadyH.nil
    rw [if_pos (by kernel_rfl)]
    refine callR (d := some 162) rfl 71 #[ptr wb, .int .i64 (k : Int), .int .i64 (-1), .int .i64 (pickN nn 6 : Int), .agg #[.int .i64 x.k, .int .i64 x.g]] (by kernel_rfl) (all_any H3.out.1 hk (-1) (pickN nn 6 : Int) x (by have := HH.out.2; omega)) ?_
    rintro ee Z5 ⟨rfl, HN⟩
    refine ⟨_, rfl, ?_⟩
    have hb5 : (Blk Z5 b3 93 #[.int .i64 kd, .int .i64 on, .int .i64 im, .int .i64 nn, .int .i64 x.k, .int .i64 x.g]) := by
      obtain ⟨_, _, _, _, _, _, _, fr5⟩ := HN.out
      exact H3.out.2.2.fr fr5 (H3.out.1.ownT H3.out.2.2 (by unfold freeT; decide))
    have hS5 : (Blk Z5 b3 93 #[.int .i64 kd, .int .i64 on, .int .i64 im, .int .i64 nn, .int .i64 x.k, .int .i64 x.g] ∧ Blk Z5 b3 93 #[.int .i64 kd, .int .i64 on, .int .i64 im, .int .i64 nn, .int .i64 x.k, .int .i64 x.g]) := ⟨hb5, hb5⟩
    have HN5 : Hid (Nx w W Z5 wb S col 1 ∧ (Blk Z5 b3 93 #[.int .i64 kd, .int .i64 on, .int .i64 im, .int .i64 nn, .int .i64 x.k, .int .i64 x.g])) := ⟨HN.out.pre H3.out.2.1, hb5⟩
    clear HN H3 hS hb5
    refine hK1.out _ _ hS5 (fun _ => ?_)
    clear hK1
    simp only [Act.put, List.setIfInBounds_toArray, List.set_cons_zero, List.set_cons_succ]
    refine takeR (i := 8) (v := .bool true) (some 4) rfl rfl (by kernel_rfl) (by kernel_rfl) (by kernel_rfl) (fun _ _ _ h => h) (Or.inl ⟨by kernel_rfl, fun w' hSw => by kernel_rfl⟩) hS5 ?_
    simp only [Act.put, List.setIfInBounds_toArray, List.set_cons_zero, List.set_cons_succ]
    refine wpAnyH_done (by kernel_rfl) ?_ _
    clear hS5
    refine hK _ _ ?_
    clear hK
    have HZ : Hid (Nx w W Z5 wb S col 3) := HN5.out.1.mono (by decide)
    clear HN5 HH HBd
    go_wp2
    go_ret
    exact ⟨rfl, HZ⟩
  have ed : decide (kd = 9) = false := by simp [h9]
  rw [ed]
  clear ed
  go_upto_region 29 with fail
  rename_i K hK
  refine wp_region_lit ?_
  refine wpList_runTo rfl (some 164) rfl (.bool (decide (kd = 10))) Z1 (by exact eqK_run (.tmp 23) (.const (.int .i64 10)) rfl (by kernel_rfl) (by kernel_rfl) _) ?_
  simp only [Act.put, List.setIfInBounds_toArray, List.set_cons_zero, List.set_cons_succ]
  refine wpList_runTo rfl (some 163) rfl (.bool (decide (kd = 10))) Z1 (by kernel_rfl) ?_
  simp only [Act.put, List.setIfInBounds_toArray, List.set_cons_zero, List.set_cons_succ]
  refine wpList_nil ?_
  refine hK _ _ ?_
  clear hK
  by_cases h10 : kd = 10
  · have ed : decide (kd = 10) = true := by simp [h10]
    rw [ed]
    clear ed
    go_upto_region 30 with fail
    rename_i K hK
    refine wp_region_lit ?_
    refine wpList_runTo rfl (some 166) rfl (ptr wb) Z1 (by kernel_rfl) ?_
    simp only [Act.put, List.setIfInBounds_toArray, List.set_cons_zero, List.set_cons_succ]
    refine wpList_runTo rfl (some 167) rfl (.int .i64 (k : Int)) Z1 (by kernel_rfl) ?_
    simp only [Act.put, List.setIfInBounds_toArray, List.set_cons_zero, List.set_cons_succ]
    refine wpList_runTo rfl (some 168) rfl (ptr wb) Z1 (by kernel_rfl) ?_
    simp only [Act.put, List.setIfInBounds_toArray, List.set_cons_zero, List.set_cons_succ]
    refine wpList_runTo rfl (some 169) rfl (.pointer (some ⟨wb, 0, none⟩)) Z1 (by kernel_rfl) ?_
    simp only [Act.put, List.setIfInBounds_toArray, List.set_cons_zero, List.set_cons_succ]
    refine wpList_runTo rfl (some 170) rfl (.pointer (some ⟨wb, 0 + k, none⟩)) Z1 (by exact ixW_run (.inl rfl) (.tmp 169) (.tmp 167) rfl (by kernel_rfl) (by kernel_rfl) hk _) ?_
    simp only [Act.put, List.setIfInBounds_toArray, List.set_cons_zero, List.set_cons_succ]
    refine wpList_runTo rfl (some 171) rfl (ptr (S.h k)) Z1 (by exact ldC_run (by unfold LC; simp) (.tmp 170) rfl (by kernel_rfl) ((H2.out.1.bw.cell _).trans (cs_h S hk))) ?_
    simp only [Act.put, List.setIfInBounds_toArray, List.set_cons_zero, List.set_cons_succ]
    refine wpList_callW rfl (some 172) rfl 16 #[ptr (S.h k), .pointer none] (by kernel_rfl) (Remove_nilO (H2.out.1.hp k hk)) ?_
    rintro ee Z2 ⟨rfl, f2⟩
    refine ⟨_, rfl, ?_⟩
    simp only [Act.put, List.setIfInBounds_toArray, List.set_cons_zero, List.set_cons_succ]
    refine wpList_runTo rfl (some 165) rfl (popE ⟨0, 0⟩ 111) Z2 (by kernel_rfl) ?_
    simp only [Act.put, List.setIfInBounds_toArray, List.set_cons_zero, List.set_cons_succ]
    refine wpList_runTo rfl (some 173) rfl (.agg #[.int .i64 0, .int .i64 0]) Z2 (by kernel_rfl) ?_
    simp only [Act.put, List.setIfInBounds_toArray, List.set_cons_zero, List.set_cons_succ]
    refine wpList_runTo rfl (some 174) rfl (.int .i64 111) Z2 (by kernel_rfl) ?_
    simp only [Act.put, List.setIfInBounds_toArray, List.set_cons_zero, List.set_cons_succ]
    refine wpList_runTo rfl (some 16) rfl (ptr Z2.heap.size) (Z2.alloc (.cells #[.int .i64 0, .int .i64 0] 30)) (by exact alTh_run Z2 rfl) ?_
    simp only [Act.put, List.setIfInBounds_toArray, List.set_cons_zero, List.set_cons_succ]
    have fZ4 : Fr Z2 (Z2.alloc (.cells #[.int .i64 0, .int .i64 0] 30)) (fun _ => False) := Fr.alloc _ _ _
    obtain ⟨b6, hb6⟩ : ∃ b, b = Z2.heap.size := ⟨_, rfl⟩
    have kb6 : Blk (Z2.alloc (.cells #[.int .i64 0, .int .i64 0] 30)) b6 30 #[.int .i64 0, .int .i64 0] := by rw [hb6]; exact Blk.new _ _ _
    rw [← hb6]
    generalize Z2.alloc (.cells #[.int .i64 0, .int .i64 0] 30) = Z4 at *
    have fst := stT_fr (p := 0) (q := 0) kb6
    refine wpList_plain rfl fun K8 hK8 => ?_
    refine skipR (d := none) rfl (w' := (Z4.setCell ⟨b6, 0, none⟩ (.int .i64 0)).setCell ⟨b6, 1, none⟩ (.int .i64 0)) (stT_run (.tmp 16) (.tmp 173) rfl (by kernel_rfl) (by kernel_rfl) kb6) ?_
    generalize (Z4.setCell ⟨b6, 0, none⟩ (.int .i64 0)).setCell ⟨b6, 1, none⟩ (.int .i64 0) = Z5 at *
    refine hK8 _ _ ?_
    clear hK8
    try simp only [Act.put]
    have fZ5 : Fr Z2 Z5 (fun _ => False) := (fZ4.trans fst.1 (e3 := fun b => b = b6) fun _ _ q => by rcases q with q | q; exact q.elim; exact q).mono fun b hb q => by omega
    refine wpList_runTo rfl (some 17) rfl (.int .i64 111) Z5 (by kernel_rfl) ?_
    simp only [Act.put, List.setIfInBounds_toArray, List.set_cons_zero, List.set_cons_succ]
    refine wpList_nil ?_
    refine hK _ _ ?_
    clear hK
    have f4 : Fr Z1 Z5 (fun _ => False) := (f2.trans fZ5 fun _ _ q => by rcases q with q | q <;> exact q)
    have H6 : Hid (PW w Z5 wb S col ∧ Fr W Z5 (fun _ => False) ∧ Blk Z5 b3 93 #[.int .i64 kd, .int .i64 on, .int .i64 im, .int .i64 nn, .int .i64 x.k, .int .i64 x.g]) := ⟨H2.out.1.sm f4, (H2.out.2.1.trans f4 fun _ _ q => by rcases q with q | q <;> exact q), H2.out.2.2.fr f4 (fun q => q)⟩
    clear f2 f4 fZ4 fZ5 fst kb6 hb6 H2
    generalize Z5 = Z1 at *
    have H2 := H6
    clear H6
    go_upto_region 31 with fail
    obtain ⟨Z3, hZ3⟩ : ∃ z, z = Z1.drew := ⟨_, rfl⟩
    have fd : Fr Z1 Z3 (fun _ => False) := by rw [hZ3]; exact (Fr.refl Z1 _).drew
    have H3 : Hid (PW w Z3 wb S col ∧ Fr W Z3 (fun _ => False) ∧ Blk Z3 b3 93 #[.int .i64 kd, .int .i64 on, .int .i64 im, .int .i64 nn, .int .i64 x.k, .int .i64 x.g]) := ⟨H2.out.1.sm fd, (H2.out.2.1.trans fd fun _ _ q => by rcases q with q | q <;> exact q), H2.out.2.2.fr fd (fun q => q)⟩
    have hS : (Blk Z3 wb 89 S.cs ∧ Blk Z3 b3 93 #[.int .i64 kd, .int .i64 on, .int .i64 im, .int .i64 nn, .int .i64 x.k, .int .i64 x.g]) := ⟨H3.out.1.bw, H3.out.2.2⟩
    clear fd
    rename_i K hK
    refine wp_region_held (S := fun w' => (Blk w' wb 89 S.cs ∧ Blk w' b3 93 #[.int .i64 kd, .int .i64 on, .int .i64 im, .int .i64 nn, .int .i64 x.k, .int .i64 x.g])) (by kernel_rfl) ?_
    change wpAnyH _ _ _ _ _ _ _ _ (World.drew _)
    rw [← hZ3]
    clear hZ3 H2
    refine takeR (i := 0) (v := ptr wb) (some 175) rfl rfl (by kernel_rfl) (by kernel_rfl) (by kernel_rfl) (fun _ _ _ h => h) (Or.inl ⟨by kernel_rfl, fun w' hSw => by kernel_rfl⟩) hS ?_
    simp only [Act.put, List.setIfInBounds_toArray, List.set_cons_zero, List.set_cons_succ]
    refine takeR (i := 1) (v := .int .i64 (k : Int)) (some 176) rfl rfl (by kernel_rfl) (by kernel_rfl) (by kernel_rfl) (fun _ _ _ h => h) (Or.inl ⟨by kernel_rfl, fun w' hSw => by kernel_rfl⟩) hS ?_
    simp only [Act.put, List.setIfInBounds_toArray, List.set_cons_zero, List.set_cons_succ]
    refine takeR (i := 2) (v := ptr wb) (some 177) rfl rfl (by kernel_rfl) (by kernel_rfl) (by kernel_rfl) (fun _ _ _ h => h) (Or.inl ⟨by kernel_rfl, fun w' hSw => by kernel_rfl⟩) hS ?_
    simp only [Act.put, List.setIfInBounds_toArray, List.set_cons_zero, List.set_cons_succ]
    refine takeR (i := 3) (v := .pointer (some ⟨wb, 0, none⟩)) (some 178) rfl rfl (by kernel_rfl) (by kernel_rfl) (by kernel_rfl) (fun _ _ _ h => h) (Or.inl ⟨by kernel_rfl, fun w' hSw => by kernel_rfl⟩) hS ?_
    simp only [Act.put, List.setIfInBounds_toArray, List.set_cons_zero, List.set_cons_succ]
    refine takeR (i := 4) (v := .pointer (some ⟨wb, 0 + k, none⟩)) (some 179) rfl rfl (by kernel_rfl) (by kernel_rfl) (by kernel_rfl) (fun _ _ _ h => h) (Or.inl ⟨by kernel_rfl, fun w' hSw => by exact ixW_run (.inl rfl) (.tmp 178) (.tmp 176) rfl (by kernel_rfl) (by kernel_rfl) hk _⟩) hS ?_
    simp only [Act.put, List.setIfInBounds_toArray, List.set_cons_zero, List.set_cons_succ]
    refine takeR (i := 5) (v := ptr (S.h k)) (some 180) rfl rfl (by kernel_rfl) (by kernel_rfl) (by kernel_rfl) (fun _ _ _ h => h) (Or.inl ⟨by kernel_rfl, fun w' hSw => by exact ldC_run (by unfold LC; simp) (.tmp 179) rfl (by kernel_rfl) ((hSw.1.cell _).trans (cs_h S hk))⟩) hS ?_
    simp only [Act.put, List.setIfInBounds_toArray, List.set_cons_zero, List.set_cons_succ]
    refine takeR (i := 6) (v := .pointer (some ⟨b3, 4, none⟩)) (some 181) rfl rfl (by kernel_rfl) (by kernel_rfl) (by kernel_rfl) (fun _ _ _ h => h) (Or.inl ⟨by kernel_rfl, fun w' hSw => by kernel_rfl⟩) hS ?_
    simp only [Act.put, List.setIfInBounds_toArray, List.set_cons_zero, List.set_cons_succ]
    refine takeR (i := 7) (v := .agg #[.int .i64 x.k, .int .i64 x.g]) (some 182) rfl rfl (by kernel_rfl) (by kernel_rfl) (by kernel_rfl) (fun _ _ _ h => h) (Or.inl ⟨by kernel_rfl, fun w' hSw => by exact ldT_run (cs := #[.int .i64 x.k, .int .i64 x.g]) (stp_rng hSw.2) Try.underlying30 rfl infoThS (.tmp 181) rfl (by kernel_rfl)⟩) hS ?_
    simp only [Act.put, List.setIfInBounds_toArray, List.set_cons_zero, List.set_cons_succ]
    refine wpAnyH_ready (rs := [8]) (by kernel_rfl) (by simp) ?_
    refine AllReadyH.cons rfl (fun K1 hK1 => ?_) AllReadyH.nil
    rw [if_pos (by kernel_rfl)]
    refine callR (d := some 183) rfl 17 #[ptr (S.h k), .pointer none, .agg #[.int .i64 x.k, .int .i64 x.g]] (by kernel_rfl) (Set_nilO (H3.out.1.hp k hk) x) ?_
    rintro ee Z4 ⟨rfl, f4⟩
    refine ⟨_, rfl, ?_⟩
    have H4 : Hid (PW w Z4 wb S col ∧ Fr W Z4 (fun _ => False) ∧ Blk Z4 b3 93 #[.int .i64 kd, .int .i64 on, .int .i64 im, .int .i64 nn, .int .i64 x.k, .int .i64 x.g]) := ⟨H3.out.1.sm f4, (H3.out.2.1.trans f4 fun _ _ q => by rcases q with q | q <;> exact q), H3.out.2.2.fr f4 (fun q => q)⟩
    have hS4 : (Blk Z4 wb 89 S.cs ∧ Blk Z4 b3 93 #[.int .i64 kd, .int .i64 on, .int .i64 im, .int .i64 nn, .int .i64 x.k, .int .i64 x.g]) := ⟨H4.out.1.bw, H4.out.2.2⟩
    refine hK1.out _ _ hS4 (fun _ => ?_)
    clear hK1
    simp only [Act.put, List.setIfInBounds_toArray, List.set_cons_zero, List.set_cons_succ]
    refine takeR (i := 9) (v := .int .i64 111) (some 18) rfl rfl (by kernel_rfl) (by kernel_rfl) (by kernel_rfl) (fun _ _ _ h => h) (Or.inl ⟨by kernel_rfl, fun w' hSw => by kernel_rfl⟩) hS4 ?_
    simp only [Act.put, List.setIfInBounds_toArray, List.set_cons_zero, List.set_cons_succ]
    have HZ : Hid (Nx w W Z4 wb S col 3) := HH.out.1.nx H4.out.2.1 3
    refine wpAnyH_done (by kernel_rfl) ?_ _
    clear hS hS4 f4 H3 H4 HH HBd
    refine hK _ _ ?_
    clear hK
    go_upto_region 32 with fail
    rename_i K hK
    refine wp_region_lit ?_
    refine wpList_runTo rfl (some 184) rfl (.int .i64 111) Z4 (by kernel_rfl) ?_
    simp only [Act.put, List.setIfInBounds_toArray, List.set_cons_zero, List.set_cons_succ]
    refine wpList_runTo rfl (some 185) rfl (.bool true) Z4 (by exact eqE_run (p := 111) (.tmp 184) (.const (.int .i64 111)) rfl (by kernel_rfl) (by kernel_rfl) _) ?_
    simp only [Act.put, List.setIfInBounds_toArray, List.set_cons_zero, List.set_cons_succ]
    refine wpList_runTo rfl (some 186) rfl (.bool true) Z4 (by kernel_rfl) ?_
    simp only [Act.put, List.setIfInBounds_toArray, List.set_cons_zero, List.set_cons_succ]
    refine wpList_runToG (by kernel_rfl) (some 187) rfl (.int .i64 111) Z4 (by kernel_rfl) ?_
    simp only [Act.put, List.setIfInBounds_toArray, List.set_cons_zero, List.set_cons_succ]
    refine wpList_runToG (by kernel_rfl) (some 188) rfl (.bool true) Z4 (by exact eqE_run (p := 111) (.tmp 187) (.const (.int .i64 111)) rfl (by kernel_rfl) (by kernel_rfl) _) ?_
    simp only [Act.put, List.setIfInBounds_toArray, List.set_cons_zero, List.set_cons_succ]
    refine wpList_runTo rfl (some 189) rfl (.bool true) Z4 (by kernel_rfl) ?_
    simp only [Act.put, List.setIfInBounds_toArray, List.set_cons_zero, List.set_cons_succ]
    refine wpList_runTo rfl (some 4) rfl (.bool true) Z4 (by kernel_rfl) ?_
    simp only [Act.put, List.setIfInBounds_toArray, List.set_cons_zero, List.set_cons_succ]
    refine wpList_nil ?_
    refine hK _ _ ?_
    clear hK
    go_wp2
    go_ret
    exact ⟨rfl, HZ⟩
  have ed : decide (kd = 10) = false := by simp [h10]
  rw [ed]
  clear ed
  have HZ : Hid (Nx w W Z1 wb S col 3) := HH.out.1.nx H2.out.2.1 3
  clear HH H2 HBd
  go_wp2
  go_ret
  exact ⟨rfl, HZ⟩
end
end Go.Proofs.Ytdnhhcbabdoomaa
