/-
  HeapPlays: All, gone through, at once or later.
-/
import Derived.Test.YtdnhhcbabdoomaaHP7
namespace Go.Proofs.Ytdnhhcbabdoomaa
set_option linter.unusedVariables false
set_option linter.unusedSimpArgs false
open Go.RowKit Go.Great
attribute [local irreducible] wpList

section
variable {w W : World} {wb : Nat} {S : St} {col : Nat → Nat}
set_option maxRecDepth 100000 in
set_option maxHeartbeats 4000000 in
theorem all_any (H : PW w W wb S col) {k : Nat} (hk : k < 3) (nn ch : Int) (x : Th) (hC : S.C.length < 99999) :
    Calls Try.prog 71 #[ptr wb, .int .i64 (k : Int), .int .i64 nn, .int .i64 ch, .agg #[.int .i64 x.k, .int .i64 x.g]] W fun e W' => e = .returned (.bool true) ∧ Hid (Nx w W W' wb S col 1) := by
  have HH : Hid (PW w W wb S col ∧ S.C.length < 99999) := ⟨H, hC⟩
  clear H hC
  go_enter Try.func71, Try.ntmps71
  go_upto_region 0 with fail
  rename_i K hK
  refine wp_region_lit ?_
  refine wpList_runTo rfl (some 9) rfl (.pointer (some ⟨W.heap.size, 0, none⟩)) (W.alloc (.cells #[.int .i64 x.k, .int .i64 x.g] 30)) (by kernel_rfl) ?_
  simp only [Act.put, List.setIfInBounds_toArray, List.set_cons_zero, List.set_cons_succ]
  have fA1 : Fr W (W.alloc (.cells #[.int .i64 x.k, .int .i64 x.g] 30)) (fun _ => False) := Fr.alloc _ _ _
  have kb9 : Blk (W.alloc (.cells #[.int .i64 x.k, .int .i64 x.g] 30)) W.heap.size 30 #[.int .i64 x.k, .int .i64 x.g] := Blk.new _ _ _
  obtain ⟨b9, hb9⟩ : ∃ b, b = W.heap.size := ⟨_, rfl⟩
  rw [← hb9] at kb9 ⊢
  generalize W.alloc (.cells #[.int .i64 x.k, .int .i64 x.g] 30) = A1 at *
  refine wpList_runTo rfl (some 10) rfl (.bool false) A1 (by kernel_rfl) ?_
  simp only [Act.put, List.setIfInBounds_toArray, List.set_cons_zero, List.set_cons_succ]
  refine wpList_nil ?_
  refine hK _ _ ?_
  clear hK
  have HA : Hid (PW w A1 wb S col ∧ Fr W A1 (fun _ => False) ∧ Blk A1 b9 30 #[.int .i64 x.k, .int .i64 x.g]) := ⟨HH.out.1.sm fA1, fA1, kb9⟩
  clear fA1 kb9 hb9
  go_upto_region 1 with fail
  rename_i K hK
  refine wp_region_lit ?_
  refine wpList_runTo rfl (some 12) rfl (ptr wb) A1 (by kernel_rfl) ?_
  simp only [Act.put, List.setIfInBounds_toArray, List.set_cons_zero, List.set_cons_succ]
  refine wpList_runTo rfl (some 13) rfl (.int .i64 (k : Int)) A1 (by kernel_rfl) ?_
  simp only [Act.put, List.setIfInBounds_toArray, List.set_cons_zero, List.set_cons_succ]
  refine wpList_runTo rfl (some 14) rfl (ptr wb) A1 (by kernel_rfl) ?_
  simp only [Act.put, List.setIfInBounds_toArray, List.set_cons_zero, List.set_cons_succ]
  refine wpList_runTo rfl (some 15) rfl (.pointer (some ⟨wb, 0, none⟩)) A1 (by kernel_rfl) ?_
  simp only [Act.put, List.setIfInBounds_toArray, List.set_cons_zero, List.set_cons_succ]
  refine wpList_runTo rfl (some 16) rfl (.pointer (some ⟨wb, 0 + k, none⟩)) A1 (by exact ixW_run (.inl rfl) (.tmp 15) (.tmp 13) rfl (by kernel_rfl) (by kernel_rfl) hk _) ?_
  simp only [Act.put, List.setIfInBounds_toArray, List.set_cons_zero, List.set_cons_succ]
  refine wpList_runTo rfl (some 17) rfl (ptr (S.h k)) A1 (by exact ldC_run (by unfold LC; simp) (.tmp 16) rfl (by kernel_rfl) ((HA.out.1.bw.cell _).trans (cs_h S hk))) ?_
  simp only [Act.put, List.setIfInBounds_toArray, List.set_cons_zero, List.set_cons_succ]
  refine wpList_callW rfl (some 18) rfl 12 #[ptr (S.h k)] (by kernel_rfl) (All_any (S.h k) A1) ?_
  rintro ee A2 ⟨rfl, eA⟩
  refine ⟨_, rfl, ?_⟩
  simp only [Act.put, List.setIfInBounds_toArray, List.set_cons_zero, List.set_cons_succ]
  obtain ⟨Bb, hBb⟩ : ∃ b, b = A1.heap.size := ⟨_, rfl⟩
  rw [← hBb]
  have f2 : Fr A1 A2 (fun _ => False) := by rw [eA]; exact Fr.alloc _ _ _
  have kB : Blk A2 Bb 25 #[ptr (S.h k)] := by rw [eA, hBb]; exact Blk.new _ _ _
  have HA2 : Hid (PW w A2 wb S col ∧ Fr W A2 (fun _ => False) ∧ Blk A2 b9 30 #[.int .i64 x.k, .int .i64 x.g] ∧ Blk A2 Bb 25 #[ptr (S.h k)] ∧ w.heap.size ≤ Bb) := ⟨HA.out.1.sm f2, HA.out.2.1.trans f2 (fun _ _ q => by rcases q with q | q <;> exact q), HA.out.2.2.fr f2 (fun q => q), kB, by have := HA.out.1.fr.size; omega⟩
  clear eA f2 kB hBb HA
  refine wpList_runTo rfl (some 11) rfl (.func (.func 47) #[] #[ptr Bb]) A2 (by kernel_rfl) ?_
  simp only [Act.put, List.setIfInBounds_toArray, List.set_cons_zero, List.set_cons_succ]
  refine wpList_nil ?_
  refine hK _ _ ?_
  clear hK
  go_upto_region 2 with fail
  rename_i K hK
  refine wp_region_lit ?_
  refine wpList_runTo rfl (some 19) rfl (ptr wb) A2 (by kernel_rfl) ?_
  simp only [Act.put, List.setIfInBounds_toArray, List.set_cons_zero, List.set_cons_succ]
  refine wpList_runTo rfl (some 20) rfl (.func (.func 47) #[] #[ptr Bb]) A2 (by kernel_rfl) ?_
  simp only [Act.put, List.setIfInBounds_toArray, List.set_cons_zero, List.set_cons_succ]
  refine wpList_runTo rfl (some 21) rfl (.int .i64 (k : Int)) A2 (by kernel_rfl) ?_
  simp only [Act.put, List.setIfInBounds_toArray, List.set_cons_zero, List.set_cons_succ]
  refine wpList_runTo rfl (some 22) rfl (.int .i64 nn) A2 (by kernel_rfl) ?_
  simp only [Act.put, List.setIfInBounds_toArray, List.set_cons_zero, List.set_cons_succ]
  refine wpList_runTo rfl (some 23) rfl (.int .i64 ch) A2 (by kernel_rfl) ?_
  simp only [Act.put, List.setIfInBounds_toArray, List.set_cons_zero, List.set_cons_succ]
  refine wpList_runTo rfl (some 24) rfl (.agg #[.int .i64 x.k, .int .i64 x.g]) A2 (by exact ldT_run (blk_rng HA2.out.2.2.1) Try.underlying30 rfl infoThS (.tmp 9) rfl (by kernel_rfl)) ?_
  simp only [Act.put, List.setIfInBounds_toArray, List.set_cons_zero, List.set_cons_succ]
  refine wpList_callW rfl (some 25) rfl 85 #[ptr wb, .func (.func 47) #[] #[ptr Bb], .int .i64 (k : Int), .int .i64 nn, .int .i64 ch, .agg #[.int .i64 x.k, .int .i64 x.g]] (by kernel_rfl) (goes_any HA2.out.1 hk nn ch x HA2.out.2.2.2.1 HA2.out.2.2.2.2 HH.out.2) ?_
  rintro ee A3 ⟨rfl, HN⟩
  refine ⟨_, rfl, ?_⟩
  simp only [Act.put, List.setIfInBounds_toArray, List.set_cons_zero, List.set_cons_succ]
  have HZ : Hid (Nx w W A3 wb S col 1) := HN.out.pre HA2.out.2.1
  clear HN HA2 HH
  refine wpList_runTo rfl (some 10) rfl (.bool true) A3 (by kernel_rfl) ?_
  simp only [Act.put, List.setIfInBounds_toArray, List.set_cons_zero, List.set_cons_succ]
  refine wpList_nil ?_
  refine hK _ _ ?_
  clear hK
  go_wp2
  go_ret
  exact ⟨rfl, HZ⟩
set_option maxRecDepth 100000 in
set_option maxHeartbeats 8000000 in
theorem later_any (H : PW w W wb S col) {k : Nat} (hk : k < 3) (nn : Int) (x : Th) (hC : S.C.length < 99990) :
    Calls Try.prog 72 #[ptr wb, .int .i64 (k : Int), .int .i64 nn, .agg #[.int .i64 x.k, .int .i64 x.g]] W fun e W' => e = .returned (.bool true) ∧ Hid (Nx w W W' wb S col 3) := by
  have HH : Hid (PW w W wb S col ∧ S.C.length < 99990) := ⟨H, hC⟩
  clear H hC
  go_enter Try.func72, Try.ntmps72
  go_upto_region 0 with fail
  rename_i K hK
  refine wp_region_lit ?_
  refine wpList_runTo rfl (some 7) rfl (.pointer (some ⟨W.heap.size, 0, none⟩)) (W.alloc (.cells #[.int .i64 x.k, .int .i64 x.g] 30)) (by kernel_rfl) ?_
  simp only [Act.put, List.setIfInBounds_toArray, List.set_cons_zero, List.set_cons_succ]
  have fA1 : Fr W (W.alloc (.cells #[.int .i64 x.k, .int .i64 x.g] 30)) (fun _ => False) := Fr.alloc _ _ _
  have kb7 : Blk (W.alloc (.cells #[.int .i64 x.k, .int .i64 x.g] 30)) W.heap.size 30 #[.int .i64 x.k, .int .i64 x.g] := Blk.new _ _ _
  obtain ⟨b7, hb7⟩ : ∃ b, b = W.heap.size := ⟨_, rfl⟩
  rw [← hb7] at kb7 ⊢
  generalize W.alloc (.cells #[.int .i64 x.k, .int .i64 x.g] 30) = A1 at *
  refine wpList_runTo rfl (some 8) rfl (.bool false) A1 (by kernel_rfl) ?_
  simp only [Act.put, List.setIfInBounds_toArray, List.set_cons_zero, List.set_cons_succ]
  refine wpList_nil ?_
  refine hK _ _ ?_
  clear hK
  have HA : Hid (PW w A1 wb S col ∧ Fr W A1 (fun _ => False) ∧ Blk A1 b7 30 #[.int .i64 x.k, .int .i64 x.g]) := ⟨HH.out.1.sm fA1, fA1, kb7⟩
  clear fA1 kb7 hb7
  go_upto_region 1 with fail
  rename_i K hK
  refine wp_region_lit ?_
  refine wpList_runTo rfl (some 16) rfl (ptr wb) A1 (by kernel_rfl) ?_
  simp only [Act.put, List.setIfInBounds_toArray, List.set_cons_zero, List.set_cons_succ]
  refine wpList_runTo rfl (some 17) rfl (.int .i64 (k : Int)) A1 (by kernel_rfl) ?_
  simp only [Act.put, List.setIfInBounds_toArray, List.set_cons_zero, List.set_cons_succ]
  refine wpList_runTo rfl (some 18) rfl (ptr wb) A1 (by kernel_rfl) ?_
  simp only [Act.put, List.setIfInBounds_toArray, List.set_cons_zero, List.set_cons_succ]
  refine wpList_runTo rfl (some 19) rfl (.pointer (some ⟨wb, 0, none⟩)) A1 (by kernel_rfl) ?_
  simp only [Act.put, List.setIfInBounds_toArray, List.set_cons_zero, List.set_cons_succ]
  refine wpList_runTo rfl (some 20) rfl (.pointer (some ⟨wb, 0 + k, none⟩)) A1 (by exact ixW_run (.inl rfl) (.tmp 19) (.tmp 17) rfl (by kernel_rfl) (by kernel_rfl) hk _) ?_
  simp only [Act.put, List.setIfInBounds_toArray, List.set_cons_zero, List.set_cons_succ]
  refine wpList_runTo rfl (some 21) rfl (ptr (S.h k)) A1 (by exact ldC_run (by unfold LC; simp) (.tmp 20) rfl (by kernel_rfl) ((HA.out.1.bw.cell _).trans (cs_h S hk))) ?_
  simp only [Act.put, List.setIfInBounds_toArray, List.set_cons_zero, List.set_cons_succ]
  refine wpList_callW rfl (some 22) rfl 12 #[ptr (S.h k)] (by kernel_rfl) (All_any (S.h k) A1) ?_
  rintro ee A2 ⟨rfl, eA⟩
  refine ⟨_, rfl, ?_⟩
  simp only [Act.put, List.setIfInBounds_toArray, List.set_cons_zero, List.set_cons_succ]
  obtain ⟨Bb, hBb⟩ : ∃ b, b = A1.heap.size := ⟨_, rfl⟩
  rw [← hBb]
  have f2 : Fr A1 A2 (fun _ => False) := by rw [eA]; exact Fr.alloc _ _ _
  have kB : Blk A2 Bb 25 #[ptr (S.h k)] := by rw [eA, hBb]; exact Blk.new _ _ _
  have HA2 : Hid (PW w A2 wb S col ∧ Fr W A2 (fun _ => False) ∧ Blk A2 b7 30 #[.int .i64 x.k, .int .i64 x.g] ∧ Blk A2 Bb 25 #[ptr (S.h k)] ∧ w.heap.size ≤ Bb) := ⟨HA.out.1.sm f2, HA.out.2.1.trans f2 (fun _ _ q => by rcases q with q | q <;> exact q), HA.out.2.2.fr f2 (fun q => q), kB, by have := HA.out.1.fr.size; omega⟩
  clear eA f2 kB hBb HA
  refine wpList_runTo rfl (some 9) rfl (.func (.func 47) #[] #[ptr Bb]) A2 (by kernel_rfl) ?_
  simp only [Act.put, List.setIfInBounds_toArray, List.set_cons_zero, List.set_cons_succ]
  refine wpList_nil ?_
  refine hK _ _ ?_
  clear hK
  go_upto_region 2 with fail
  rename_i K hK
  refine wp_region_lit ?_
  refine wpList_runTo rfl (some 23) rfl (ptr wb) A2 (by kernel_rfl) ?_
  simp only [Act.put, List.setIfInBounds_toArray, List.set_cons_zero, List.set_cons_succ]
  refine wpList_runTo rfl (some 24) rfl (.int .i64 (k : Int)) A2 (by kernel_rfl) ?_
  simp only [Act.put, List.setIfInBounds_toArray, List.set_cons_zero, List.set_cons_succ]
  refine wpList_runTo rfl (some 25) rfl (.agg #[.int .i64 x.k, .int .i64 x.g]) A2 (by exact ldT_run (blk_rng HA2.out.2.2.1) Try.underlying30 rfl infoThS (.tmp 7) rfl (by kernel_rfl)) ?_
  simp only [Act.put, List.setIfInBounds_toArray, List.set_cons_zero, List.set_cons_succ]
  refine wpList_callW rfl (some 26) rfl 65 #[ptr wb, .int .i64 (k : Int), .agg #[.int .i64 x.k, .int .i64 x.g]] (by kernel_rfl) (push_any HA2.out.1 hk x (by have := HH.out.2; omega)) ?_
  rintro ee A3 ⟨rfl, HN⟩
  refine ⟨_, rfl, ?_⟩
  simp only [Act.put, List.setIfInBounds_toArray, List.set_cons_zero, List.set_cons_succ]
  refine wpList_nil ?_
  refine hK _ _ ?_
  clear hK
  obtain ⟨S3, col3, p3, hh3, hr3, ln3, ow3, fr3⟩ := HN.out
  have n7 := HA2.out.1.ownT HA2.out.2.2.1 (by unfold freeT; decide)
  have nB := HA2.out.1.ownT HA2.out.2.2.2.1 (by unfold freeT; decide)
  have H3 : Hid (PW w A3 wb S3 col3 ∧ S3.h = S.h ∧ S3.r = S.r ∧ S3.C.length ≤ S.C.length + 1 ∧ Blk A3 b7 30 #[.int .i64 x.k, .int .i64 x.g] ∧ Blk A3 Bb 25 #[ptr (S.h k)] ∧ w.heap.size ≤ Bb ∧ (∀ b, owns wb S3 b → owns wb S b ∨ A2.heap.size ≤ b) ∧ Fr A2 A3 (owns wb S) ∧ Fr W A2 (fun _ => False)) := ⟨p3, hh3, hr3, ln3, HA2.out.2.2.1.fr fr3 n7, HA2.out.2.2.2.1.fr fr3 nB, HA2.out.2.2.2.2, ow3, fr3, HA2.out.2.1⟩
  clear HN HA2 p3 hh3 hr3 ln3 ow3 fr3 n7 nB
  go_upto_region 3 with fail
  rename_i K hK
  refine wp_region_lit ?_
  refine wpList_runTo rfl (some 28) rfl (ptr wb) A3 (by kernel_rfl) ?_
  simp only [Act.put, List.setIfInBounds_toArray, List.set_cons_zero, List.set_cons_succ]
  refine wpList_runTo rfl (some 29) rfl (.int .i64 (k : Int)) A3 (by kernel_rfl) ?_
  simp only [Act.put, List.setIfInBounds_toArray, List.set_cons_zero, List.set_cons_succ]
  refine wpList_runTo rfl (some 30) rfl (ptr wb) A3 (by kernel_rfl) ?_
  simp only [Act.put, List.setIfInBounds_toArray, List.set_cons_zero, List.set_cons_succ]
  refine wpList_runTo rfl (some 31) rfl (.pointer (some ⟨wb, 0, none⟩)) A3 (by kernel_rfl) ?_
  simp only [Act.put, List.setIfInBounds_toArray, List.set_cons_zero, List.set_cons_succ]
  refine wpList_runTo rfl (some 32) rfl (.pointer (some ⟨wb, 0 + k, none⟩)) A3 (by exact ixW_run (.inl rfl) (.tmp 31) (.tmp 29) rfl (by kernel_rfl) (by kernel_rfl) hk _) ?_
  simp only [Act.put, List.setIfInBounds_toArray, List.set_cons_zero, List.set_cons_succ]
  refine wpList_runTo rfl (some 33) rfl (ptr (S3.h k)) A3 (by exact ldC_run (by unfold LC; simp) (.tmp 32) rfl (by kernel_rfl) ((H3.out.1.bw.cell _).trans (cs_h S3 hk))) ?_
  simp only [Act.put, List.setIfInBounds_toArray, List.set_cons_zero, List.set_cons_succ]
  refine wpList_callW rfl (some 34) rfl 14 #[ptr (S3.h k)] (by kernel_rfl) (H3.out.1.pop hk) ?_
  rintro ee A4 ⟨pt, r, rfl, HR⟩
  refine ⟨_, rfl, ?_⟩
  simp only [Act.put, List.setIfInBounds_toArray, List.set_cons_zero, List.set_cons_succ]
  refine wpList_runTo rfl (some 27) rfl (popE pt r) A4 (by kernel_rfl) ?_
  simp only [Act.put, List.setIfInBounds_toArray, List.set_cons_zero, List.set_cons_succ]
  refine wpList_runTo rfl (some 35) rfl (.agg #[.int .i64 pt.k, .int .i64 pt.g]) A4 (by kernel_rfl) ?_
  simp only [Act.put, List.setIfInBounds_toArray, List.set_cons_zero, List.set_cons_succ]
  refine wpList_runTo rfl (some 36) rfl (.int .i64 r) A4 (by kernel_rfl) ?_
  simp only [Act.put, List.setIfInBounds_toArray, List.set_cons_zero, List.set_cons_succ]
  refine wpList_runTo rfl (some 10) rfl (ptr A4.heap.size) (A4.alloc (.cells #[.int .i64 0, .int .i64 0] 30)) (by exact alTh_run A4 rfl) ?_
  simp only [Act.put, List.setIfInBounds_toArray, List.set_cons_zero, List.set_cons_succ]
  have fA5 : Fr A4 (A4.alloc (.cells #[.int .i64 0, .int .i64 0] 30)) (fun _ => False) := Fr.alloc _ _ _
  obtain ⟨b10, hb10⟩ : ∃ b, b = A4.heap.size := ⟨_, rfl⟩
  have kb10 : Blk (A4.alloc (.cells #[.int .i64 0, .int .i64 0] 30)) b10 30 #[.int .i64 0, .int .i64 0] := by rw [hb10]; exact Blk.new _ _ _
  rw [← hb10]
  generalize A4.alloc (.cells #[.int .i64 0, .int .i64 0] 30) = A5 at *
  have fst := stT_fr (p := pt.k) (q := pt.g) kb10
  refine wpList_plain rfl fun K8 hK8 => ?_
  refine skipR (d := none) rfl (w' := (A5.setCell ⟨b10, 0, none⟩ (.int .i64 pt.k)).setCell ⟨b10, 1, none⟩ (.int .i64 pt.g)) (stT_run (.tmp 10) (.tmp 35) rfl (by kernel_rfl) (by kernel_rfl) kb10) ?_
  generalize (A5.setCell ⟨b10, 0, none⟩ (.int .i64 pt.k)).setCell ⟨b10, 1, none⟩ (.int .i64 pt.g) = A6 at *
  refine hK8 _ _ ?_
  clear hK8
  try simp only [Act.put]
  have fA6 : Fr A4 A6 (fun _ => False) := (fA5.trans fst.1 (e3 := fun b => b = b10) fun _ _ q => by rcases q with q | q; exact q.elim; exact q).mono fun b hb q => by omega
  refine wpList_runTo rfl (some 11) rfl (.int .i64 r) A6 (by kernel_rfl) ?_
  simp only [Act.put, List.setIfInBounds_toArray, List.set_cons_zero, List.set_cons_succ]
  refine wpList_nil ?_
  refine hK _ _ ?_
  clear hK
  have H6 : Hid (Popped w A3 A6 S3 k pt r ∧ Blk A6 b10 30 #[.int .i64 pt.k, .int .i64 pt.g] ∧ A3.heap.size ≤ b10 ∧ Blk A6 b7 30 #[.int .i64 x.k, .int .i64 x.g] ∧ Blk A6 Bb 25 #[ptr (S.h k)] ∧ Blk A6 wb 89 S3.cs) := by
    have hf := HR.frH.trans fA6 (e3 := exO S3 k) fun _ _ q => by rcases q with q | q; exact .inl q; exact q.elim
    exact ⟨HR.post H3.out.1 hk fA6 (fun _ q => q.elim), fst.2, by rw [hb10]; exact HR.frH.size, H3.out.2.2.2.2.1.fr hf (H3.out.1.exT hk H3.out.2.2.2.2.1 (by decide)), H3.out.2.2.2.2.2.1.fr hf (H3.out.1.exT hk H3.out.2.2.2.2.2.1 (by decide)), H3.out.1.bw.fr hf (H3.out.1.exC hk (by rw [H3.out.1.cw]; omega))⟩
  clear HR fA5 fA6 fst kb10 hb10
  go_upto_region 4 with fail
  rename_i K hK
  refine wp_region_lit ?_
  refine wpList_runTo rfl (some 38) rfl (ptr wb) A6 (by kernel_rfl) ?_
  simp only [Act.put, List.setIfInBounds_toArray, List.set_cons_zero, List.set_cons_succ]
  refine wpList_runTo rfl (some 39) rfl (.int .i64 (k : Int)) A6 (by kernel_rfl) ?_
  simp only [Act.put, List.setIfInBounds_toArray, List.set_cons_zero, List.set_cons_succ]
  refine wpList_runTo rfl (some 40) rfl (ptr wb) A6 (by kernel_rfl) ?_
  simp only [Act.put, List.setIfInBounds_toArray, List.set_cons_zero, List.set_cons_succ]
  refine wpList_runTo rfl (some 41) rfl (.pointer (some ⟨wb, 3, none⟩)) A6 (by kernel_rfl) ?_
  simp only [Act.put, List.setIfInBounds_toArray, List.set_cons_zero, List.set_cons_succ]
  refine wpList_runTo rfl (some 42) rfl (.pointer (some ⟨wb, 3 + k, none⟩)) A6 (by exact ixW_run (.inr rfl) (.tmp 41) (.tmp 39) rfl (by kernel_rfl) (by kernel_rfl) hk _) ?_
  simp only [Act.put, List.setIfInBounds_toArray, List.set_cons_zero, List.set_cons_succ]
  refine wpList_runTo rfl (some 43) rfl (ptr (S3.r k)) A6 (by exact ldC_run (by unfold LC; simp) (.tmp 42) rfl (by kernel_rfl) ((H6.out.2.2.2.2.2.cell _).trans (cs_r S3 hk))) ?_
  simp only [Act.put, List.setIfInBounds_toArray, List.set_cons_zero, List.set_cons_succ]
  refine wpList_callW rfl (some 44) rfl 68 #[ptr (S3.r k)] (by kernel_rfl) (H3.out.1.pop2 hk H6.out.1 (Fr.refl A6 _)) ?_
  rintro ee A7 ⟨rfl, HN, HFr⟩
  refine ⟨_, rfl, ?_⟩
  simp only [Act.put, List.setIfInBounds_toArray, List.set_cons_zero, List.set_cons_succ]
  refine wpList_runTo rfl (some 37) rfl (popE pt r) A7 (by kernel_rfl) ?_
  simp only [Act.put, List.setIfInBounds_toArray, List.set_cons_zero, List.set_cons_succ]
  refine wpList_runTo rfl (some 45) rfl (.agg #[.int .i64 pt.k, .int .i64 pt.g]) A7 (by kernel_rfl) ?_
  simp only [Act.put, List.setIfInBounds_toArray, List.set_cons_zero, List.set_cons_succ]
  refine wpList_runTo rfl (some 46) rfl (.int .i64 r) A7 (by kernel_rfl) ?_
  simp only [Act.put, List.setIfInBounds_toArray, List.set_cons_zero, List.set_cons_succ]
  refine wpList_runTo rfl (some 12) rfl (ptr A7.heap.size) (A7.alloc (.cells #[.int .i64 0, .int .i64 0] 30)) (by exact alTh_run A7 rfl) ?_
  simp only [Act.put, List.setIfInBounds_toArray, List.set_cons_zero, List.set_cons_succ]
  have fA8 : Fr A7 (A7.alloc (.cells #[.int .i64 0, .int .i64 0] 30)) (fun _ => False) := Fr.alloc _ _ _
  obtain ⟨b12, hb12⟩ : ∃ b, b = A7.heap.size := ⟨_, rfl⟩
  have kb12 : Blk (A7.alloc (.cells #[.int .i64 0, .int .i64 0] 30)) b12 30 #[.int .i64 0, .int .i64 0] := by rw [hb12]; exact Blk.new _ _ _
  rw [← hb12]
  generalize A7.alloc (.cells #[.int .i64 0, .int .i64 0] 30) = A8 at *
  have fst := stT_fr (p := pt.k) (q := pt.g) kb12
  refine wpList_plain rfl fun K8 hK8 => ?_
  refine skipR (d := none) rfl (w' := (A8.setCell ⟨b12, 0, none⟩ (.int .i64 pt.k)).setCell ⟨b12, 1, none⟩ (.int .i64 pt.g)) (stT_run (.tmp 12) (.tmp 45) rfl (by kernel_rfl) (by kernel_rfl) kb12) ?_
  generalize (A8.setCell ⟨b12, 0, none⟩ (.int .i64 pt.k)).setCell ⟨b12, 1, none⟩ (.int .i64 pt.g) = A9 at *
  refine hK8 _ _ ?_
  clear hK8
  try simp only [Act.put]
  have fA9 : Fr A7 A9 (fun _ => False) := (fA8.trans fst.1 (e3 := fun b => b = b12) fun _ _ q => by rcases q with q | q; exact q.elim; exact q).mono fun b hb q => by omega
  refine wpList_runTo rfl (some 13) rfl (.int .i64 r) A9 (by kernel_rfl) ?_
  simp only [Act.put, List.setIfInBounds_toArray, List.set_cons_zero, List.set_cons_succ]
  refine wpList_nil ?_
  refine hK _ _ ?_
  clear hK
  have H9 : Hid (Nx w A3 A9 wb S3 col3 0 ∧ Blk A9 b10 30 #[.int .i64 pt.k, .int .i64 pt.g] ∧ Blk A9 b12 30 #[.int .i64 pt.k, .int .i64 pt.g] ∧ Blk A9 b7 30 #[.int .i64 x.k, .int .i64 x.g] ∧ Blk A9 Bb 25 #[ptr (S.h k)]) := by
    have hf := HFr.trans fA9 (e3 := ownR (S3.r k) (S3.rv k) (Rk S3.C k)) fun _ _ q => by rcases q with q | q; exact q; exact q.elim
    have nr : ∀ (b : Nat) (T : TypeId) (cs : Array Value), Blk A3 b T cs → freeT T → ¬ ownR (S3.r k) (S3.rv k) (Rk S3.C k) b := fun b T cs hb hT q => (H3.out.1.rh k hk).other hb hT.2.2.2.1 hT.2.2.2.2.1 hT.2.2.2.2.2.1 q
    refine ⟨HN.sm fA9, H6.out.2.1.fr hf fun q => ?_, fst.2, H6.out.2.2.2.1.fr hf (nr _ _ _ H3.out.2.2.2.2.1 (by unfold freeT; decide)), H6.out.2.2.2.2.1.fr hf (nr _ _ _ H3.out.2.2.2.2.2.1 (by unfold freeT; decide))⟩
    have q1 := (H3.out.1.rh k hk).lt q
    have q2 := H6.out.2.2.1
    omega
  clear HN HFr fA8 fA9 fst kb12 hb12 H6
  obtain ⟨S4, col4, p4, hh4, hr4, ln4, ow4, fr4⟩ := H9.out.1
  have HS4 : Hid (PW w A9 wb S4 col4 ∧ S4.h = S.h ∧ S4.r = S.r ∧ S4.C.length ≤ S.C.length + 1 ∧ (∀ b, owns wb S4 b → owns wb S b ∨ A2.heap.size ≤ b) ∧ Fr W A9 (owns wb S)) := by
    have h3 := H3.out
    refine ⟨p4, hh4.trans h3.2.1, hr4.trans h3.2.2.1, by have := h3.2.2.2.1; omega, fun b q => ?_, (h3.2.2.2.2.2.2.2.2.2.trans h3.2.2.2.2.2.2.2.2.1 (e3 := owns wb S) fun _ _ q => by rcases q with q | q; exact q.elim; exact q).trans fr4 fun b hb q => ?_⟩
    · rcases ow4 b q with r | r
      · exact h3.2.2.2.2.2.2.2.1 b r
      · have := h3.2.2.2.2.2.2.2.2.1.size; exact .inr (by omega)
    · rcases q with q | q
      · exact q
      · rcases h3.2.2.2.2.2.2.2.1 b q with r | r
        · exact r
        · have := h3.2.2.2.2.2.2.2.2.2.size; omega
  have HW2 : Hid (Fr W A2 (fun _ => False) ∧ w.heap.size ≤ Bb ∧ A2.heap.size ≤ A9.heap.size) := ⟨H3.out.2.2.2.2.2.2.2.2.2, H3.out.2.2.2.2.2.2.1, by have := H3.out.2.2.2.2.2.2.2.2.1.size; have := fr4.size; omega⟩
  have HB9 : Hid (Blk A9 b10 30 #[.int .i64 pt.k, .int .i64 pt.g] ∧ Blk A9 b12 30 #[.int .i64 pt.k, .int .i64 pt.g] ∧ Blk A9 b7 30 #[.int .i64 x.k, .int .i64 x.g] ∧ Blk A9 Bb 25 #[ptr (S4.h k)]) := ⟨H9.out.2.1, H9.out.2.2.1, H9.out.2.2.2.1, by rw [HS4.out.2.1]; exact H9.out.2.2.2.2⟩
  clear H3 H9 p4 hh4 hr4 ln4 ow4 fr4
  go_upto_region 5 with fail
  rename_i K hK
  refine wp_region_lit ?_
  refine wpList_runTo rfl (some 47) rfl (ptr wb) A9 (by kernel_rfl) ?_
  simp only [Act.put, List.setIfInBounds_toArray, List.set_cons_zero, List.set_cons_succ]
  refine wpList_runTo rfl (some 48) rfl (.func (.func 47) #[] #[ptr Bb]) A9 (by kernel_rfl) ?_
  simp only [Act.put, List.setIfInBounds_toArray, List.set_cons_zero, List.set_cons_succ]
  refine wpList_runTo rfl (some 49) rfl (.int .i64 (k : Int)) A9 (by kernel_rfl) ?_
  simp only [Act.put, List.setIfInBounds_toArray, List.set_cons_zero, List.set_cons_succ]
  refine wpList_runTo rfl (some 50) rfl (.int .i64 nn) A9 (by kernel_rfl) ?_
  simp only [Act.put, List.setIfInBounds_toArray, List.set_cons_zero, List.set_cons_succ]
  refine wpList_runTo rfl (some 51) rfl (.agg #[.int .i64 x.k, .int .i64 x.g]) A9 (by exact ldT_run (blk_rng HB9.out.2.2.1) Try.underlying30 rfl infoThS (.tmp 7) rfl (by kernel_rfl)) ?_
  simp only [Act.put, List.setIfInBounds_toArray, List.set_cons_zero, List.set_cons_succ]
  refine wpList_callW rfl (some 52) rfl 85 #[ptr wb, .func (.func 47) #[] #[ptr Bb], .int .i64 (k : Int), .int .i64 nn, .int .i64 (-1), .agg #[.int .i64 x.k, .int .i64 x.g]] (by kernel_rfl) (goes_any HS4.out.1 hk nn (-1) x HB9.out.2.2.2 HW2.out.2.1 (by have := HS4.out.2.2.2.1; have := HH.out.2; omega)) ?_
  rintro ee C1 ⟨rfl, HN⟩
  refine ⟨_, rfl, ?_⟩
  simp only [Act.put, List.setIfInBounds_toArray, List.set_cons_zero, List.set_cons_succ]
  refine wpList_runTo rfl (some 14) rfl (.bool true) C1 (by kernel_rfl) ?_
  simp only [Act.put, List.setIfInBounds_toArray, List.set_cons_zero, List.set_cons_succ]
  refine wpList_nil ?_
  refine hK _ _ ?_
  clear hK
  obtain ⟨S5, col5, p5, hh5, hr5, ln5, ow5, fr5⟩ := HN.out
  have no : ∀ (b : Nat) (T : TypeId) (cs : Array Value), Blk A9 b T cs → freeT T → ¬ owns wb S4 b := fun b T cs hb hT => HS4.out.1.ownT hb hT
  have HB5 : Hid (Blk C1 b10 30 #[.int .i64 pt.k, .int .i64 pt.g] ∧ Blk C1 b12 30 #[.int .i64 pt.k, .int .i64 pt.g] ∧ Blk C1 b7 30 #[.int .i64 x.k, .int .i64 x.g] ∧ Blk C1 Bb 25 #[ptr (S5.h k)]) := ⟨HB9.out.1.fr fr5 (no _ _ _ HB9.out.1 (by unfold freeT; decide)), HB9.out.2.1.fr fr5 (no _ _ _ HB9.out.2.1 (by unfold freeT; decide)), HB9.out.2.2.1.fr fr5 (no _ _ _ HB9.out.2.2.1 (by unfold freeT; decide)), by rw [hh5]; exact HB9.out.2.2.2.fr fr5 (no _ _ _ HB9.out.2.2.2 (by unfold freeT; decide))⟩
  have HS5 : Hid (PW w C1 wb S5 col5 ∧ S5.h = S4.h ∧ S5.r = S4.r ∧ S5.C.length ≤ S4.C.length + 1 ∧ (∀ b, owns wb S5 b → owns wb S4 b ∨ A9.heap.size ≤ b) ∧ Fr A9 C1 (owns wb S4)) := ⟨p5, hh5, hr5, ln5, ow5, fr5⟩
  clear HN HB9 p5 hh5 hr5 ln5 ow5 fr5 no
  go_upto_region 6 with fail
  rename_i K hK
  refine wp_region_lit ?_
  refine wpList_runTo rfl (some 53) rfl (ptr wb) C1 (by kernel_rfl) ?_
  simp only [Act.put, List.setIfInBounds_toArray, List.set_cons_zero, List.set_cons_succ]
  refine wpList_runTo rfl (some 54) rfl (.func (.func 47) #[] #[ptr Bb]) C1 (by kernel_rfl) ?_
  simp only [Act.put, List.setIfInBounds_toArray, List.set_cons_zero, List.set_cons_succ]
  refine wpList_runTo rfl (some 55) rfl (.int .i64 (k : Int)) C1 (by kernel_rfl) ?_
  simp only [Act.put, List.setIfInBounds_toArray, List.set_cons_zero, List.set_cons_succ]
  refine wpList_runTo rfl (some 56) rfl (.agg #[.int .i64 x.k, .int .i64 x.g]) C1 (by exact ldT_run (blk_rng HB5.out.2.2.1) Try.underlying30 rfl infoThS (.tmp 7) rfl (by kernel_rfl)) ?_
  simp only [Act.put, List.setIfInBounds_toArray, List.set_cons_zero, List.set_cons_succ]
  refine wpList_callW rfl (some 57) rfl 85 #[ptr wb, .func (.func 47) #[] #[ptr Bb], .int .i64 (k : Int), .int .i64 (-1), .int .i64 (-1), .agg #[.int .i64 x.k, .int .i64 x.g]] (by kernel_rfl) (goes_any HS5.out.1 hk (-1) (-1) x HB5.out.2.2.2 HW2.out.2.1 (by have := HS5.out.2.2.2.1; have := HS4.out.2.2.2.1; have := HH.out.2; omega)) ?_
  rintro ee C2 ⟨rfl, HN⟩
  refine ⟨_, rfl, ?_⟩
  simp only [Act.put, List.setIfInBounds_toArray, List.set_cons_zero, List.set_cons_succ]
  refine wpList_runTo rfl (some 15) rfl (.bool true) C2 (by kernel_rfl) ?_
  simp only [Act.put, List.setIfInBounds_toArray, List.set_cons_zero, List.set_cons_succ]
  refine wpList_nil ?_
  refine hK _ _ ?_
  clear hK
  have HZ : Hid (Nx w W C2 wb S col 3 ∧ Blk C2 b10 30 #[.int .i64 pt.k, .int .i64 pt.g] ∧ Blk C2 b12 30 #[.int .i64 pt.k, .int .i64 pt.g]) := by
    obtain ⟨S6, col6, p6, hh6, hr6, ln6, ow6, fr6⟩ := HN.out
    have h4 := HS4.out
    have h5 := HS5.out
    refine ⟨⟨S6, col6, p6, hh6.trans (h5.2.1.trans h4.2.1), hr6.trans (h5.2.2.1.trans h4.2.2.1), by have := h4.2.2.2.1; have := h5.2.2.2.1; omega, fun b q => ?_, (h4.2.2.2.2.2.trans h5.2.2.2.2.2 (e3 := owns wb S) fun b hb q => ?_).trans fr6 fun b hb q => ?_⟩, HB5.out.1.fr fr6 (h5.1.ownT HB5.out.1 (by unfold freeT; decide)), HB5.out.2.1.fr fr6 (h5.1.ownT HB5.out.2.1 (by unfold freeT; decide))⟩
    · have s1 := h5.2.2.2.2.2.size
      have s2 := HW2.out.1.size
      have s3 := HW2.out.2.2
      rcases ow6 b q with r | r
      · rcases h5.2.2.2.2.1 b r with r | r
        · rcases h4.2.2.2.2.1 b r with r | r
          · exact .inl r
          · exact .inr (by omega)
        · exact .inr (by omega)
      · exact .inr (by omega)
    · rcases q with q | q
      · exact q
      · rcases h4.2.2.2.2.1 b q with r | r
        · exact r
        · have := HW2.out.1.size; omega
    · rcases q with q | q
      · exact q
      · rcases h5.2.2.2.2.1 b q with r | r
        · rcases h4.2.2.2.2.1 b r with r | r
          · exact r
          · have := HW2.out.1.size; omega
        · have := HW2.out.1.size; have := HW2.out.2.2; omega
  clear HN HB5 HS4 HS5 HW2 HH
  go_upto_region 7 with fail
  rename_i K hK
  refine wp_region_lit ?_
  refine wpList_runTo rfl (some 58) rfl (.agg #[.int .i64 pt.k, .int .i64 pt.g]) C2 (by exact ldT_run (blk_rng HZ.out.2.1) Try.underlying30 rfl infoThS (.tmp 10) rfl (by kernel_rfl)) ?_
  simp only [Act.put, List.setIfInBounds_toArray, List.set_cons_zero, List.set_cons_succ]
  refine wpList_runTo rfl (some 59) rfl (.agg #[.int .i64 pt.k, .int .i64 pt.g]) C2 (by exact ldT_run (blk_rng HZ.out.2.2) Try.underlying30 rfl infoThS (.tmp 12) rfl (by kernel_rfl)) ?_
  simp only [Act.put, List.setIfInBounds_toArray, List.set_cons_zero, List.set_cons_succ]
  refine wpList_runTo rfl (some 60) rfl (.bool true) C2 (by exact eqTh_run (p := pt.k) (q := pt.g) (.tmp 58) (.tmp 59) rfl (by kernel_rfl) (by kernel_rfl) _) ?_
  simp only [Act.put, List.setIfInBounds_toArray, List.set_cons_zero, List.set_cons_succ]
  refine wpList_runTo rfl (some 61) rfl (.bool true) C2 (by kernel_rfl) ?_
  simp only [Act.put, List.setIfInBounds_toArray, List.set_cons_zero, List.set_cons_succ]
  refine wpList_runToG (by kernel_rfl) (some 62) rfl (.int .i64 r) C2 (by kernel_rfl) ?_
  simp only [Act.put, List.setIfInBounds_toArray, List.set_cons_zero, List.set_cons_succ]
  refine wpList_runToG (by kernel_rfl) (some 63) rfl (.int .i64 r) C2 (by kernel_rfl) ?_
  simp only [Act.put, List.setIfInBounds_toArray, List.set_cons_zero, List.set_cons_succ]
  refine wpList_runToG (by kernel_rfl) (some 64) rfl (.bool true) C2 (by exact eqE_run (p := r) (.tmp 62) (.tmp 63) rfl (by kernel_rfl) (by kernel_rfl) _) ?_
  simp only [Act.put, List.setIfInBounds_toArray, List.set_cons_zero, List.set_cons_succ]
  refine wpList_runTo rfl (some 65) rfl (.bool true) C2 (by kernel_rfl) ?_
  simp only [Act.put, List.setIfInBounds_toArray, List.set_cons_zero, List.set_cons_succ]
  refine wpList_runTo rfl (some 66) rfl (.bool true) C2 (by kernel_rfl) ?_
  simp only [Act.put, List.setIfInBounds_toArray, List.set_cons_zero, List.set_cons_succ]
  refine wpList_runToG (by kernel_rfl) (some 67) rfl (.bool true) C2 (by kernel_rfl) ?_
  simp only [Act.put, List.setIfInBounds_toArray, List.set_cons_zero, List.set_cons_succ]
  refine wpList_runTo rfl (some 68) rfl (.bool true) C2 (by kernel_rfl) ?_
  simp only [Act.put, List.setIfInBounds_toArray, List.set_cons_zero, List.set_cons_succ]
  refine wpList_runTo rfl (some 69) rfl (.bool true) C2 (by kernel_rfl) ?_
  simp only [Act.put, List.setIfInBounds_toArray, List.set_cons_zero, List.set_cons_succ]
  refine wpList_runToG (by kernel_rfl) (some 70) rfl (.bool true) C2 (by kernel_rfl) ?_
  simp only [Act.put, List.setIfInBounds_toArray, List.set_cons_zero, List.set_cons_succ]
  refine wpList_runTo rfl (some 71) rfl (.bool true) C2 (by kernel_rfl) ?_
  simp only [Act.put, List.setIfInBounds_toArray, List.set_cons_zero, List.set_cons_succ]
  refine wpList_runTo rfl (some 8) rfl (.bool true) C2 (by kernel_rfl) ?_
  simp only [Act.put, List.setIfInBounds_toArray, List.set_cons_zero, List.set_cons_succ]
  refine wpList_nil ?_
  refine hK _ _ ?_
  clear hK
  have HY : Hid (Nx w W C2 wb S col 3) := HZ.out.1
  clear HZ
  go_wp2
  go_ret
  exact ⟨rfl, HY⟩
end
end Go.Proofs.Ytdnhhcbabdoomaa
