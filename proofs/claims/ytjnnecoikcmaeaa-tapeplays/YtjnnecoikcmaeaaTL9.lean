/-
  TapePlays, walked.
-/
import Derived.Test.YtjnnecoikcmaeaaTLy
namespace Go.Proofs.Ytjnnecoikcmaeaa
set_option linter.unusedVariables false
set_option linter.unusedSimpArgs false
open Go.RowKit Go.Great

set_option maxRecDepth 100000 in
set_option maxHeartbeats 4000000 in
theorem TapePlays_law {w : World} (a0 : Option Addr) (n0 c0 : Nat) (t0 : Nat → Cm) (hn : n0 ≤ maxLen) (hs : SrcC w a0 n0 t0) (at_ : Int) : Calls Try.prog 6 #[.slice a0 n0 c0, .int .i64 at_] w fun e w' => e = .returned (.bool true) ∧ Hid (Below w.heap.size w w') := by
  have HS : Hid (SrcC w a0 n0 t0) := hs
  have hn' : n0 ≤ 9223372036854775807 := Nat.le_trans hn (by decide)
  have hsh := shown_any w
  clear hs hn
  go_enter Try.func6, Try.ntmps6
  go_upto_region 1 with fail
  rename_i K hK
  refine wp_region_lit ?_
  refine wpList_callW rfl (some 31) rfl 8 #[] (by kernel_rfl) hsh ?_
  clear hsh
  rintro e W1 ⟨rfl, hx1⟩
  refine ⟨_, rfl, ?_⟩
  simp only [Act.put, List.setIfInBounds_toArray, List.set_cons_zero, List.set_cons_succ]
  refine wpList_runTo rfl (some 5) rfl (.bool true) W1 (by kernel_rfl) ?_
  simp only [Act.put, List.setIfInBounds_toArray, List.set_cons_zero, List.set_cons_succ]
  refine wpList_nil ?_
  refine hK _ _ ?_
  clear hK
  have hnew := New_any W1
  go_upto_region 2 with fail
  rename_i K hK
  refine wp_region_lit ?_
  refine wpList_callW rfl (some 32) rfl 11 #[] (by kernel_rfl) hnew ?_
  clear hnew
  rintro e W2 ⟨t1, rfl, hx2⟩
  refine ⟨_, rfl, ?_⟩
  simp only [Act.put, List.setIfInBounds_toArray, List.set_cons_zero, List.set_cons_succ]
  obtain ⟨tg1, htg1⟩ : ∃ tg, tg = t1.g := ⟨_, rfl⟩
  rw [← htg1]
  refine wpList_runTo rfl (some 6) rfl (.pointer (some ⟨tg1, 0, none⟩)) W2 (by kernel_rfl) ?_
  simp only [Act.put, List.setIfInBounds_toArray, List.set_cons_zero, List.set_cons_succ]
  refine wpList_nil ?_
  refine hK _ _ ?_
  clear hK
  have hnew := New_any W2
  go_upto_region 3 with fail
  rename_i K hK
  refine wp_region_lit ?_
  refine wpList_callW rfl (some 33) rfl 11 #[] (by kernel_rfl) hnew ?_
  clear hnew
  rintro e W3 ⟨t2, rfl, hx3⟩
  refine ⟨_, rfl, ?_⟩
  simp only [Act.put, List.setIfInBounds_toArray, List.set_cons_zero, List.set_cons_succ]
  obtain ⟨tg2, htg2⟩ : ∃ tg, tg = t2.g := ⟨_, rfl⟩
  rw [← htg2]
  refine wpList_runTo rfl (some 7) rfl (.pointer (some ⟨tg2, 0, none⟩)) W3 (by kernel_rfl) ?_
  simp only [Act.put, List.setIfInBounds_toArray, List.set_cons_zero, List.set_cons_succ]
  refine wpList_nil ?_
  refine hK _ _ ?_
  clear hK
  have hnew := refNew_any W3
  go_upto_region 6 with fail
  rename_i K hK
  refine wp_region_lit ?_
  refine wpList_callW rfl (some 44) rfl 20 #[] (by kernel_rfl) hnew ?_
  clear hnew
  rintro e W4 ⟨g1, rfl, hx4⟩
  refine ⟨_, rfl, ?_⟩
  simp only [Act.put, List.setIfInBounds_toArray, List.set_cons_zero, List.set_cons_succ]
  refine wpList_runTo rfl (some 8) rfl (.pointer (some ⟨g1, 0, none⟩)) W4 (by kernel_rfl) ?_
  simp only [Act.put, List.setIfInBounds_toArray, List.set_cons_zero, List.set_cons_succ]
  refine wpList_nil ?_
  refine hK _ _ ?_
  clear hK
  have hnew := refNew_any W4
  go_upto_region 7 with fail
  rename_i K hK
  refine wp_region_lit ?_
  refine wpList_callW rfl (some 45) rfl 20 #[] (by kernel_rfl) hnew ?_
  clear hnew
  rintro e W5 ⟨g2, rfl, hx5⟩
  refine ⟨_, rfl, ?_⟩
  simp only [Act.put, List.setIfInBounds_toArray, List.set_cons_zero, List.set_cons_succ]
  refine wpList_runTo rfl (some 9) rfl (.pointer (some ⟨g2, 0, none⟩)) W5 (by kernel_rfl) ?_
  simp only [Act.put, List.setIfInBounds_toArray, List.set_cons_zero, List.set_cons_succ]
  refine wpList_nil ?_
  refine hK _ _ ?_
  clear hK
  have HP0 : Hid (PW w W5 t1 t2 [] [] g1 g2 (.slice none 0 0) (.slice none 0 0) [] [] (.slice none 0 0) [] ∧ t1.g = tg1 ∧ t2.g = tg2) := ⟨PW.start hx1.out hx2.out hx3.out hx4.out hx5.out, htg1.symm, htg2.symm⟩
  clear hx1 hx2 hx3 hx4 hx5 htg1 htg2
  go_wp2
  go_loopw [10, 11] (fun x y wr => ∃ (i : Nat) (t1 t2 : Tp) (A B : List Cm) (v1 v2 hv : Value) (l : List Ent), hv = x ∧ y = .int .i64 (i : Int) ∧ i ≤ 40 ∧ i ≤ n0 ∧ Hid (PW w wr t1 t2 A B g1 g2 v1 v2 A B hv l ∧ A.length ≤ i ∧ B.length ≤ i ∧ l.length ≤ 360 * i ∧ t1.g = tg1 ∧ t2.g = tg2)) (fun _ y _ => 40 - (intOf y).toNat)
  case atStart => exact ⟨0, t1, t2, [], [], _, _, _, [], rfl, rfl, Nat.zero_le _, Nat.zero_le _, HP0.out.1, Nat.le_refl _, Nat.le_refl _, Nat.le_refl _, HP0.out.2.1, HP0.out.2.2⟩
  case round =>
    clear HP0
    obtain ⟨i, t1, t2, A, B, v1, v2, hv, l, ehv, rfl, hi40, hin, HP⟩ := hrel
    subst ehv
    by_cases hlt : i < n0 ∧ i < 40
    · obtain ⟨hl1, hl2⟩ := hlt
      have hl1' : (i : Int) < (n0 : Int) := by omega
      have hl2' : (i : Int) < 40 := by omega
      rcases HS.out.below HP.out.1.bel with h | ⟨b0, o0, ha0, hcell⟩
      · omega
      obtain ⟨hr0, hok⟩ := hcell i hl1
      have HOK : Hid ((t0 i).ok) := hok
      clear hcell hok
      subst ha0
      obtain ⟨c, hc⟩ : ∃ c, c = t0 i := ⟨_, rfl⟩
      rw [← hc] at hr0 HOK
      clear hc
      go_upto_region 12 with fail
      rename_i K hK
      refine wp_region_lit ?_
      refine wpList_runTo rfl (some 56) rfl (.slice (some ⟨b0, o0, none⟩) n0 c0) wr (by kernel_rfl) ?_
      simp only [Act.put, List.setIfInBounds_toArray, List.set_cons_zero, List.set_cons_succ]
      refine wpList_runTo rfl (some 57) rfl (.int .i64 (i : Int)) wr (by kernel_rfl) ?_
      simp only [Act.put, List.setIfInBounds_toArray, List.set_cons_zero, List.set_cons_succ]
      refine wpList_runTo rfl (some 58) rfl (.pointer (some ⟨b0, o0 + i * 25, none⟩)) wr (by exact ixC_run (c := c0) (.tmp 56) (.tmp 57) rfl (by kernel_rfl) (by kernel_rfl) hl1 _) ?_
      simp only [Act.put, List.setIfInBounds_toArray, List.set_cons_zero, List.set_cons_succ]
      refine wpList_runTo rfl (some 59) rfl (.agg c.cs) wr (by exact ldC_run hr0 (.tmp 58) rfl (by kernel_rfl)) ?_
      simp only [Act.put, List.setIfInBounds_toArray, List.set_cons_zero, List.set_cons_succ]
      refine wpList_runTo rfl (some 12) rfl (.pointer (some ⟨wr.heap.size, 0, none⟩)) (wr.alloc (.cells zeroC.cs 27)) (by kernel_rfl) ?_
      simp only [Act.put, List.setIfInBounds_toArray, List.set_cons_zero, List.set_cons_succ]
      refine store_cmd (c := c) (c' := zeroC) (Blk.new wr _ _) (.tmp 12) (.tmp 59) rfl rfl (by kernel_rfl) (by kernel_rfl) ?_
      simp only [Act.put, List.setIfInBounds_toArray, List.set_cons_zero, List.set_cons_succ]
      have HQ0 : Hid (PC w ((wr.alloc (.cells zeroC.cs 27)).setRow wr.heap.size c.cs) t1 t2 A B g1 g2 v1 v2 A B hv l wr.heap.size c ∧ A.length ≤ i ∧ B.length ≤ i ∧ l.length ≤ 360 * i ∧ t1.g = tg1 ∧ t2.g = tg2) := ⟨PC.of HP.out.1 c, HP.out.2⟩
      clear HP hr0
      generalize (wr.alloc (.cells zeroC.cs 27)).setRow wr.heap.size c.cs = W6 at *
      generalize wr.heap.size = cb at *
      refine wpList_nil ?_
      refine hK _ _ ?_
      clear hK
      have hap := HQ0.out.1.add1 (by have := HQ0.out.2.1; omega) HOK.out
      rw [HQ0.out.2.2.2.2.1] at hap
      go_upto_region 13 with fail
      rename_i K hK
      refine wp_region_lit ?_
      refine wpList_runTo rfl (some 60) rfl (.pointer (some ⟨tg1, 0, none⟩)) W6 (by kernel_rfl) ?_
      simp only [Act.put, List.setIfInBounds_toArray, List.set_cons_zero, List.set_cons_succ]
      refine load_cmd HQ0.out.1.blk (.tmp 12) rfl rfl (by kernel_rfl) ?_
      simp only [Act.put, List.setIfInBounds_toArray, List.set_cons_zero, List.set_cons_succ]
      refine wpList_callW rfl (some 62) rfl 12 #[.pointer (some ⟨tg1, 0, none⟩), .agg c.cs] (by kernel_rfl) hap ?_
      clear hap
      rintro e W7 ⟨rfl, hx7⟩
      refine ⟨_, rfl, ?_⟩
      simp only [Act.put, List.setIfInBounds_toArray, List.set_cons_zero, List.set_cons_succ]
      obtain ⟨t1', htg, hpc⟩ := hx7.out
      have HQ1 : Hid (PC w W7 t1' t2 (addL A c) B g1 g2 v1 v2 A B hv l cb c ∧ A.length ≤ i ∧ B.length ≤ i ∧ l.length ≤ 360 * i ∧ t1'.g = tg1 ∧ t2.g = tg2) := ⟨hpc, HQ0.out.2.1, HQ0.out.2.2.1, HQ0.out.2.2.2.1, htg, HQ0.out.2.2.2.2.2⟩
      clear HQ0 hx7 htg hpc
      obtain ⟨ee, hee⟩ : ∃ ee, ee = encE c := ⟨_, rfl⟩
      rw [← hee]
      refine wpList_runTo rfl (some 13) rfl (.int .i64 ee) W7 (by kernel_rfl) ?_
      simp only [Act.put, List.setIfInBounds_toArray, List.set_cons_zero, List.set_cons_succ]
      refine wpList_nil ?_
      refine hK _ _ ?_
      clear hK
      have hap := HQ1.out.1.add3 (by have := HQ1.out.2.1; omega) HOK.out
      rw [← hee] at hap
      go_upto_region 14 with fail
      rename_i K hK
      refine wp_region_lit ?_
      refine wpList_runTo rfl (some 63) rfl (.pointer (some ⟨g1, 0, none⟩)) W7 (by kernel_rfl) ?_
      simp only [Act.put, List.setIfInBounds_toArray, List.set_cons_zero, List.set_cons_succ]
      refine load_cmd HQ1.out.1.blk (.tmp 12) rfl rfl (by kernel_rfl) ?_
      simp only [Act.put, List.setIfInBounds_toArray, List.set_cons_zero, List.set_cons_succ]
      refine wpList_callW rfl (some 65) rfl 21 #[.pointer (some ⟨g1, 0, none⟩), .agg c.cs] (by kernel_rfl) hap ?_
      clear hap
      rintro e W8 ⟨rfl, hx8⟩
      refine ⟨_, rfl, ?_⟩
      simp only [Act.put, List.setIfInBounds_toArray, List.set_cons_zero, List.set_cons_succ]
      obtain ⟨v1', hpc⟩ := hx8.out
      have HQ2 : Hid (PC w W8 t1' t2 (addL A c) B g1 g2 v1' v2 (addL A c) B hv l cb c ∧ A.length ≤ i ∧ B.length ≤ i ∧ l.length ≤ 360 * i ∧ t1'.g = tg1 ∧ t2.g = tg2) := ⟨hpc, HQ1.out.2⟩
      clear HQ1 hx8 hpc
      refine wpList_runTo rfl (some 14) rfl (.int .i64 ee) W8 (by kernel_rfl) ?_
      simp only [Act.put, List.setIfInBounds_toArray, List.set_cons_zero, List.set_cons_succ]
      refine wpList_nil ?_
      refine hK _ _ ?_
      clear hK
      go_upto_region 15 with fail
      obtain ⟨z, hz⟩ : ∃ z, z = c.n 1 := ⟨_, rfl⟩
      have c2 : W8.cell? ⟨cb, 2, none⟩ = some (.int .i64 z) := by rw [hz]; exact HQ2.out.1.blk.cell 2
      clear hz
      obtain ⟨r, hr⟩ := and_def z
      rename_i K hK
      refine wp_region_lit ?_
      refine wpList_runTo rfl (some 66) rfl (.pointer (some ⟨cb, 2, none⟩)) W8 (by kernel_rfl) ?_
      simp only [Act.put, List.setIfInBounds_toArray, List.set_cons_zero, List.set_cons_succ]
      refine wpList_runTo rfl (some 67) rfl (.int .i64 z) W8 (by exact ldN_run (.inr rfl) (.tmp 66) rfl (by kernel_rfl) c2) ?_
      simp only [Act.put, List.setIfInBounds_toArray, List.set_cons_zero, List.set_cons_succ]
      refine wpList_runTo rfl (some 68) rfl (.int .i64 r) W8 (by exact hr _ _ (.tmp 67) _ rfl (by kernel_rfl)) ?_
      simp only [Act.put, List.setIfInBounds_toArray, List.set_cons_zero, List.set_cons_succ]
      obtain ⟨bo, hbo⟩ : ∃ b : Bool, (r == 1) = b := ⟨_, rfl⟩
      refine wpList_runTo rfl (some 69) rfl (.bool bo) W8 (by exact eq1_run (.tmp 68) (.const (.int .i64 1)) rfl (by kernel_rfl) rfl hbo _) ?_
      simp only [Act.put, List.setIfInBounds_toArray, List.set_cons_zero, List.set_cons_succ]
      refine wpList_nil ?_
      refine hK _ _ ?_
      clear hK hr hbo c2
      go_cut [15, 16] from 46 to 198 (fun x15 x16 wx => ∃ (t2 : Tp) (B : List Cm) (v2 : Value) (W : World), W = wx ∧ Hid (PC w W t1' t2 (addL A c) B g1 g2 v1' v2 (addL A c) B hv l cb c ∧ A.length ≤ i ∧ B.length ≤ i + 1 ∧ l.length ≤ 360 * i ∧ t1'.g = tg1 ∧ t2.g = tg2))
      case first => as_aux_lemma =>
        cases bo
        case false =>
          go_wp2
          go_meet
          exact ⟨_, _, _, _, rfl, HQ2.out.1, HQ2.out.2.1, Nat.le_succ_of_le HQ2.out.2.2.1, HQ2.out.2.2.2⟩
        case true =>
          go_upto_region 16 with fail
          have hap := HQ2.out.1.add2 (by have := HQ2.out.2.2.1; omega) HOK.out
          rw [HQ2.out.2.2.2.2.2] at hap
          rename_i K hK
          refine wp_region_lit ?_
          refine wpList_runTo rfl (some 70) rfl (.pointer (some ⟨tg2, 0, none⟩)) W8 (by kernel_rfl) ?_
          simp only [Act.put, List.setIfInBounds_toArray, List.set_cons_zero, List.set_cons_succ]
          refine load_cmd HQ2.out.1.blk (.tmp 12) rfl rfl (by kernel_rfl) ?_
          simp only [Act.put, List.setIfInBounds_toArray, List.set_cons_zero, List.set_cons_succ]
          refine wpList_callW rfl (some 72) rfl 12 #[.pointer (some ⟨tg2, 0, none⟩), .agg c.cs] (by kernel_rfl) hap ?_
          clear hap
          rintro e W9 ⟨rfl, hx9⟩
          refine ⟨_, rfl, ?_⟩
          simp only [Act.put, List.setIfInBounds_toArray, List.set_cons_zero, List.set_cons_succ]
          obtain ⟨t2', htg, hpc⟩ := hx9.out
          have HQ3 : Hid (PC w W9 t1' t2' (addL A c) (addL B c) g1 g2 v1' v2 (addL A c) B hv l cb c ∧ A.length ≤ i ∧ B.length ≤ i ∧ l.length ≤ 360 * i ∧ t1'.g = tg1 ∧ t2'.g = tg2) := ⟨hpc, HQ2.out.2.1, HQ2.out.2.2.1, HQ2.out.2.2.2.1, HQ2.out.2.2.2.2.1, htg⟩
          clear HQ2 hx9 htg hpc
          rw [← hee]
          refine wpList_runTo rfl (some 15) rfl (.int .i64 ee) W9 (by kernel_rfl) ?_
          simp only [Act.put, List.setIfInBounds_toArray, List.set_cons_zero, List.set_cons_succ]
          refine wpList_nil ?_
          refine hK _ _ ?_
          clear hK
          have hap := HQ3.out.1.add4 (by have := HQ3.out.2.2.1; omega) HOK.out
          rw [← hee] at hap
          go_upto_region 17 with fail
          rename_i K hK
          refine wp_region_lit ?_
          refine wpList_runTo rfl (some 73) rfl (.pointer (some ⟨g2, 0, none⟩)) W9 (by kernel_rfl) ?_
          simp only [Act.put, List.setIfInBounds_toArray, List.set_cons_zero, List.set_cons_succ]
          refine load_cmd HQ3.out.1.blk (.tmp 12) rfl rfl (by kernel_rfl) ?_
          simp only [Act.put, List.setIfInBounds_toArray, List.set_cons_zero, List.set_cons_succ]
          refine wpList_callW rfl (some 75) rfl 21 #[.pointer (some ⟨g2, 0, none⟩), .agg c.cs] (by kernel_rfl) hap ?_
          clear hap
          rintro e W10 ⟨rfl, hx10⟩
          refine ⟨_, rfl, ?_⟩
          simp only [Act.put, List.setIfInBounds_toArray, List.set_cons_zero, List.set_cons_succ]
          obtain ⟨v2', hpc⟩ := hx10.out
          have HQ4 : Hid (PC w W10 t1' t2' (addL A c) (addL B c) g1 g2 v1' v2' (addL A c) (addL B c) hv l cb c ∧ A.length ≤ i ∧ (addL B c).length ≤ i + 1 ∧ l.length ≤ 360 * i ∧ t1'.g = tg1 ∧ t2'.g = tg2) := ⟨hpc, HQ3.out.2.1, Nat.le_trans (addL_len B c) (Nat.succ_le_succ HQ3.out.2.2.1), HQ3.out.2.2.2⟩
          clear HQ3 hx10 hpc
          refine wpList_runTo rfl (some 16) rfl (.int .i64 ee) W10 (by kernel_rfl) ?_
          simp only [Act.put, List.setIfInBounds_toArray, List.set_cons_zero, List.set_cons_succ]
          refine wpList_nil ?_
          refine hK _ _ ?_
          clear hK
          generalize c.cs = CS
          go_wp2
          go_meet
          exact ⟨_, _, _, _, rfl, HQ4.out⟩
      case rest => as_aux_lemma =>
        clear HQ2
        obtain ⟨t2, B, v2, W9, hwx, HQ⟩ := hcut
        subst hwx
        have hA1 := addL_len A c
        generalize addL A c = A1 at *
        have HR9 : Hid (PC w W9 t1' t2 A1 B g1 g2 v1' v2 A1 B hv l cb c ∧ A1.length ≤ i + 1 ∧ B.length ≤ i + 1 ∧ l.length ≤ 360 * i ∧ t1'.g = tg1 ∧ t2.g = tg2) := ⟨HQ.out.1, by have := HQ.out.2.1; omega, HQ.out.2.2⟩
        clear HQ hA1
        obtain ⟨X, hX⟩ : ∃ X, X = encX c := ⟨_, rfl⟩
        have hXl := encX_len c
        rw [← hX] at hXl
        obtain ⟨CS, hCS⟩ : ∃ CS, CS = c.cs := ⟨_, rfl⟩
        have H9 : Hid (PW w W9 t1' t2 A1 B g1 g2 v1' v2 A1 B hv l) := HR9.out.1.pw
        have hen := Encode_any c HOK.out W9
        go_upto_region 20 with fail
        rename_i K hK
        refine wp_region_lit ?_
        refine load_cmd HR9.out.1.blk (.tmp 12) rfl rfl (by kernel_rfl) ?_
        simp only [Act.put, List.setIfInBounds_toArray, List.set_cons_zero, List.set_cons_succ]
        refine wpList_callW rfl (some 81) rfl 9 #[.agg c.cs] (by kernel_rfl) hen ?_
        clear hen
        rintro e WA ⟨b1, rfl, hx⟩
        refine ⟨_, rfl, ?_⟩
        simp only [Act.put, List.setIfInBounds_toArray, List.set_cons_zero, List.set_cons_succ]
        have hrb := encX_row hx.out
        rw [← hX] at hrb
        have HRA : Hid (PC w WA t1' t2 A1 B g1 g2 v1' v2 A1 B hv l cb c ∧ A1.length ≤ i + 1 ∧ B.length ≤ i + 1 ∧ l.length ≤ 360 * i ∧ t1'.g = tg1 ∧ t2.g = tg2) := ⟨HR9.out.1.below hrb.bel, HR9.out.2⟩
        have HpA : Hid (BA WA W9.heap.size WA.heap.size b1 X) := BA.of hrb hXl
        have hszWA := hrb.bel.size
        clear HR9 hx hrb 
        rw [← hee]
        refine wpList_runTo rfl (some 79) rfl (.tuple #[b1, .int .i64 ee]) WA (by kernel_rfl) ?_
        simp only [Act.put, List.setIfInBounds_toArray, List.set_cons_zero, List.set_cons_succ]
        refine wpList_runTo rfl (some 82) rfl (b1) WA (by kernel_rfl) ?_
        simp only [Act.put, List.setIfInBounds_toArray, List.set_cons_zero, List.set_cons_succ]
        refine wpList_runTo rfl (some 83) rfl (.int .i64 ee) WA (by kernel_rfl) ?_
        simp only [Act.put, List.setIfInBounds_toArray, List.set_cons_zero, List.set_cons_succ]
        refine wpList_runTo rfl (some 17) rfl (b1) WA (by kernel_rfl) ?_
        simp only [Act.put, List.setIfInBounds_toArray, List.set_cons_zero, List.set_cons_succ]
        refine wpList_runTo rfl (some 18) rfl (.int .i64 ee) WA (by kernel_rfl) ?_
        simp only [Act.put, List.setIfInBounds_toArray, List.set_cons_zero, List.set_cons_succ]
        refine wpList_nil ?_
        refine hK _ _ ?_
        clear hK
        rw [← hCS]
        have hen := Encode_any c HOK.out WA
        go_upto_region 21 with fail
        rename_i K hK
        refine wp_region_lit ?_
        refine load_cmd HRA.out.1.blk (.tmp 12) rfl rfl (by kernel_rfl) ?_
        simp only [Act.put, List.setIfInBounds_toArray, List.set_cons_zero, List.set_cons_succ]
        refine wpList_callW rfl (some 86) rfl 9 #[.agg c.cs] (by kernel_rfl) hen ?_
        clear hen
        rintro e WB ⟨b2, rfl, hx⟩
        refine ⟨_, rfl, ?_⟩
        simp only [Act.put, List.setIfInBounds_toArray, List.set_cons_zero, List.set_cons_succ]
        have hrb := encX_row hx.out
        rw [← hX] at hrb
        have HRB : Hid (PC w WB t1' t2 A1 B g1 g2 v1' v2 A1 B hv l cb c ∧ A1.length ≤ i + 1 ∧ B.length ≤ i + 1 ∧ l.length ≤ 360 * i ∧ t1'.g = tg1 ∧ t2.g = tg2) := ⟨HRA.out.1.below hrb.bel, HRA.out.2⟩
        have HpB : Hid (BA WB W9.heap.size WA.heap.size b1 X) := HpA.out.below hrb.bel
        have HqB : Hid (BA WB WA.heap.size WB.heap.size b2 X) := BA.of hrb hXl
        have hszWB := hrb.bel.size
        clear HRA hx hrb HpA
        rw [← hee]
        refine wpList_runTo rfl (some 84) rfl (.tuple #[b2, .int .i64 ee]) WB (by kernel_rfl) ?_
        simp only [Act.put, List.setIfInBounds_toArray, List.set_cons_zero, List.set_cons_succ]
        refine wpList_runTo rfl (some 87) rfl (b2) WB (by kernel_rfl) ?_
        simp only [Act.put, List.setIfInBounds_toArray, List.set_cons_zero, List.set_cons_succ]
        refine wpList_runTo rfl (some 88) rfl (.int .i64 ee) WB (by kernel_rfl) ?_
        simp only [Act.put, List.setIfInBounds_toArray, List.set_cons_zero, List.set_cons_succ]
        refine wpList_runTo rfl (some 19) rfl (b2) WB (by kernel_rfl) ?_
        simp only [Act.put, List.setIfInBounds_toArray, List.set_cons_zero, List.set_cons_succ]
        refine wpList_runTo rfl (some 20) rfl (.int .i64 ee) WB (by kernel_rfl) ?_
        simp only [Act.put, List.setIfInBounds_toArray, List.set_cons_zero, List.set_cons_succ]
        refine wpList_nil ?_
        refine hK _ _ ?_
        clear hK
        rw [← hCS]
        have hen := refEncode_any c HOK.out WB
        go_upto_region 22 with fail
        rename_i K hK
        refine wp_region_lit ?_
        refine load_cmd HRB.out.1.blk (.tmp 12) rfl rfl (by kernel_rfl) ?_
        simp only [Act.put, List.setIfInBounds_toArray, List.set_cons_zero, List.set_cons_succ]
        refine wpList_callW rfl (some 91) rfl 22 #[.agg c.cs] (by kernel_rfl) hen ?_
        clear hen
        rintro e WC ⟨d0, rfl, hx⟩
        refine ⟨_, rfl, ?_⟩
        simp only [Act.put, List.setIfInBounds_toArray, List.set_cons_zero, List.set_cons_succ]
        have hrb := encX_row hx.out
        rw [← hX] at hrb
        have HRC : Hid (PC w WC t1' t2 A1 B g1 g2 v1' v2 A1 B hv l cb c ∧ A1.length ≤ i + 1 ∧ B.length ≤ i + 1 ∧ l.length ≤ 360 * i ∧ t1'.g = tg1 ∧ t2.g = tg2) := ⟨HRB.out.1.below hrb.bel, HRB.out.2⟩
        have HpC : Hid (BA WC W9.heap.size WA.heap.size b1 X) := HpB.out.below hrb.bel
        have HqC : Hid (BA WC WA.heap.size WB.heap.size b2 X) := HqB.out.below hrb.bel
        have HdC : Hid (BA WC WB.heap.size WC.heap.size d0 X) := BA.of hrb hXl
        have hszWC := hrb.bel.size
        clear HRB hx hrb HpB HqB
        rw [← hee]
        refine wpList_runTo rfl (some 89) rfl (.tuple #[d0, .int .i64 ee]) WC (by kernel_rfl) ?_
        simp only [Act.put, List.setIfInBounds_toArray, List.set_cons_zero, List.set_cons_succ]
        refine wpList_runTo rfl (some 92) rfl (d0) WC (by kernel_rfl) ?_
        simp only [Act.put, List.setIfInBounds_toArray, List.set_cons_zero, List.set_cons_succ]
        refine wpList_runTo rfl (some 93) rfl (.int .i64 ee) WC (by kernel_rfl) ?_
        simp only [Act.put, List.setIfInBounds_toArray, List.set_cons_zero, List.set_cons_succ]
        refine wpList_runTo rfl (some 21) rfl (d0) WC (by kernel_rfl) ?_
        simp only [Act.put, List.setIfInBounds_toArray, List.set_cons_zero, List.set_cons_succ]
        refine wpList_runTo rfl (some 22) rfl (.int .i64 ee) WC (by kernel_rfl) ?_
        simp only [Act.put, List.setIfInBounds_toArray, List.set_cons_zero, List.set_cons_succ]
        refine wpList_nil ?_
        refine hK _ _ ?_
        clear hK
        rw [← hCS]
        have hl1 := HRC.out.1.pw.pl.p1.len
        rw [HRC.out.2.2.2.2.1] at hl1
        have hl2 := HRC.out.1.pw.pl.p2.len
        rw [HRC.out.2.2.2.2.2] at hl2
        have hl3 := refLen_any HRC.out.1.pw.pl.r1 (by have := HRC.out.2.1; omega)
        have hl4 := refLen_any HRC.out.1.pw.pl.r2 (by have := HRC.out.2.2.1; omega)
        obtain ⟨NA, hNA⟩ : ∃ N, N = A1.length := ⟨_, rfl⟩
        obtain ⟨NB, hNB⟩ : ∃ N, N = B.length := ⟨_, rfl⟩
        rw [← hNA] at hl1 hl3
        rw [← hNB] at hl2 hl4
        clear hNA hNB
        go_upto_region 23 with fail
        rename_i K hK
        refine wp_region_lit ?_
        refine wpList_runTo rfl (some 94) rfl (.int .i64 ee) WC (by kernel_rfl) ?_
        simp only [Act.put, List.setIfInBounds_toArray, List.set_cons_zero, List.set_cons_succ]
        refine wpList_runTo rfl (some 95) rfl (.int .i64 ee) WC (by kernel_rfl) ?_
        simp only [Act.put, List.setIfInBounds_toArray, List.set_cons_zero, List.set_cons_succ]
        refine wpList_runTo rfl (some 96) rfl (.bool false) WC (by exact neI2_run (z := ee) (.inl rfl) (.tmp 94) (.tmp 95) rfl (by kernel_rfl) (by kernel_rfl) _) ?_
        simp only [Act.put, List.setIfInBounds_toArray, List.set_cons_zero, List.set_cons_succ]
        refine wpList_runTo rfl (some 97) rfl (.bool false) WC (by kernel_rfl) ?_
        simp only [Act.put, List.setIfInBounds_toArray, List.set_cons_zero, List.set_cons_succ]
        refine wpList_runToG (by kernel_rfl) (some 98) rfl (.int .i64 ee) WC (by kernel_rfl) ?_
        simp only [Act.put, List.setIfInBounds_toArray, List.set_cons_zero, List.set_cons_succ]
        refine wpList_runToG (by kernel_rfl) (some 99) rfl (.int .i64 ee) WC (by kernel_rfl) ?_
        simp only [Act.put, List.setIfInBounds_toArray, List.set_cons_zero, List.set_cons_succ]
        refine wpList_runToG (by kernel_rfl) (some 100) rfl (.bool false) WC (by exact neI2_run (z := ee) (.inl rfl) (.tmp 98) (.tmp 99) rfl (by kernel_rfl) (by kernel_rfl) _) ?_
        simp only [Act.put, List.setIfInBounds_toArray, List.set_cons_zero, List.set_cons_succ]
        refine wpList_runTo rfl (some 101) rfl (.bool false) WC (by kernel_rfl) ?_
        simp only [Act.put, List.setIfInBounds_toArray, List.set_cons_zero, List.set_cons_succ]
        refine wpList_runTo rfl (some 102) rfl (.bool false) WC (by kernel_rfl) ?_
        simp only [Act.put, List.setIfInBounds_toArray, List.set_cons_zero, List.set_cons_succ]
        refine wpList_runToG (by kernel_rfl) (some 103) rfl (.pointer (some ⟨tg1, 0, none⟩)) WC (by kernel_rfl) ?_
        simp only [Act.put, List.setIfInBounds_toArray, List.set_cons_zero, List.set_cons_succ]
        refine wpList_callG (by kernel_rfl) (some 104) rfl 15 #[.pointer (some ⟨tg1, 0, none⟩)] (by kernel_rfl) hl1 ?_
        clear hl1
        rintro e w7 ⟨rfl, ew⟩
        replace ew := ew.symm
        subst ew
        refine ⟨_, rfl, ?_⟩
        simp only [Act.put, List.setIfInBounds_toArray, List.set_cons_zero, List.set_cons_succ]
        refine wpList_runToG (by kernel_rfl) (some 105) rfl (.pointer (some ⟨g1, 0, none⟩)) WC (by kernel_rfl) ?_
        simp only [Act.put, List.setIfInBounds_toArray, List.set_cons_zero, List.set_cons_succ]
        refine wpList_callG (by kernel_rfl) (some 106) rfl 23 #[.pointer (some ⟨g1, 0, none⟩)] (by kernel_rfl) hl3 ?_
        clear hl3
        rintro e w7 ⟨rfl, ew⟩
        replace ew := ew.symm
        subst ew
        refine ⟨_, rfl, ?_⟩
        simp only [Act.put, List.setIfInBounds_toArray, List.set_cons_zero, List.set_cons_succ]
        refine wpList_runToG (by kernel_rfl) (some 107) rfl (.bool false) WC (by exact neI2_run (z := (NA : Int)) (.inr rfl) (.tmp 104) (.tmp 106) rfl (by kernel_rfl) (by kernel_rfl) _) ?_
        simp only [Act.put, List.setIfInBounds_toArray, List.set_cons_zero, List.set_cons_succ]
        refine wpList_runTo rfl (some 108) rfl (.bool false) WC (by kernel_rfl) ?_
        simp only [Act.put, List.setIfInBounds_toArray, List.set_cons_zero, List.set_cons_succ]
        refine wpList_runTo rfl (some 109) rfl (.bool false) WC (by kernel_rfl) ?_
        simp only [Act.put, List.setIfInBounds_toArray, List.set_cons_zero, List.set_cons_succ]
        refine wpList_runToG (by kernel_rfl) (some 110) rfl (.pointer (some ⟨tg2, 0, none⟩)) WC (by kernel_rfl) ?_
        simp only [Act.put, List.setIfInBounds_toArray, List.set_cons_zero, List.set_cons_succ]
        refine wpList_callG (by kernel_rfl) (some 111) rfl 15 #[.pointer (some ⟨tg2, 0, none⟩)] (by kernel_rfl) hl2 ?_
        clear hl2
        rintro e w7 ⟨rfl, ew⟩
        replace ew := ew.symm
        subst ew
        refine ⟨_, rfl, ?_⟩
        simp only [Act.put, List.setIfInBounds_toArray, List.set_cons_zero, List.set_cons_succ]
        refine wpList_runToG (by kernel_rfl) (some 112) rfl (.pointer (some ⟨g2, 0, none⟩)) WC (by kernel_rfl) ?_
        simp only [Act.put, List.setIfInBounds_toArray, List.set_cons_zero, List.set_cons_succ]
        refine wpList_callG (by kernel_rfl) (some 113) rfl 23 #[.pointer (some ⟨g2, 0, none⟩)] (by kernel_rfl) hl4 ?_
        clear hl4
        rintro e w7 ⟨rfl, ew⟩
        replace ew := ew.symm
        subst ew
        refine ⟨_, rfl, ?_⟩
        simp only [Act.put, List.setIfInBounds_toArray, List.set_cons_zero, List.set_cons_succ]
        refine wpList_runToG (by kernel_rfl) (some 114) rfl (.bool false) WC (by exact neI2_run (z := (NB : Int)) (.inr rfl) (.tmp 111) (.tmp 113) rfl (by kernel_rfl) (by kernel_rfl) _) ?_
        simp only [Act.put, List.setIfInBounds_toArray, List.set_cons_zero, List.set_cons_succ]
        refine wpList_runTo rfl (some 115) rfl (.bool false) WC (by kernel_rfl) ?_
        simp only [Act.put, List.setIfInBounds_toArray, List.set_cons_zero, List.set_cons_succ]
        refine wpList_nil ?_
        refine hK _ _ ?_
        clear hK
        go_upto_region 25 with fail
        rename_i K hK
        refine wp_region_lit ?_
        refine wpList_runTo rfl (some 116) rfl (b1) WC (by kernel_rfl) ?_
        simp only [Act.put, List.setIfInBounds_toArray, List.set_cons_zero, List.set_cons_succ]
        refine wpList_runTo rfl (some 117) rfl (b2) WC (by kernel_rfl) ?_
        simp only [Act.put, List.setIfInBounds_toArray, List.set_cons_zero, List.set_cons_succ]
        obtain ⟨LA, hLA⟩ : ∃ L, L = tpL (csL A1) A1.length := ⟨_, rfl⟩
        obtain ⟨LB, hLB⟩ : ∃ L, L = tpL (csL B) B.length := ⟨_, rfl⟩
        have hLAl : LA.length ≤ 700000000 := by rw [hLA]; exact csL_len HRC.out.1.pw.pl.p1.ok (by have := HRC.out.2.1; omega) (Nat.le_refl _)
        have hLBl : LB.length ≤ 700000000 := by rw [hLB]; exact csL_len HRC.out.1.pw.pl.p2.ok (by have := HRC.out.2.2.1; omega) (Nat.le_refl _)
        have hby := HRC.out.1.pw.pl.p1.bytes
        rw [HRC.out.2.2.2.2.1, ← hLA] at hby
        refine wpList_runTo rfl (some 118) rfl (.pointer (some ⟨tg1, 0, none⟩)) WC (by kernel_rfl) ?_
        simp only [Act.put, List.setIfInBounds_toArray, List.set_cons_zero, List.set_cons_succ]
        refine wpList_callW rfl (some 119) rfl 13 #[.pointer (some ⟨tg1, 0, none⟩)] (by kernel_rfl) hby ?_
        clear hby
        rintro e WD ⟨b3, rfl, hx⟩
        refine ⟨_, rfl, ?_⟩
        simp only [Act.put, List.setIfInBounds_toArray, List.set_cons_zero, List.set_cons_succ]
        have hrb := hx.out
        have HRD : Hid (PC w WD t1' t2 A1 B g1 g2 v1' v2 A1 B hv l cb c ∧ A1.length ≤ i + 1 ∧ B.length ≤ i + 1 ∧ l.length ≤ 360 * i ∧ t1'.g = tg1 ∧ t2.g = tg2) := ⟨HRC.out.1.below hrb.bel, HRC.out.2⟩
        have HpD : Hid (BA WD W9.heap.size WA.heap.size b1 X) := HpC.out.below hrb.bel
        have HqD : Hid (BA WD WA.heap.size WB.heap.size b2 X) := HqC.out.below hrb.bel
        have HdD : Hid (BA WD WB.heap.size WC.heap.size d0 X) := HdC.out.below hrb.bel
        have HrD : Hid (BA WD WC.heap.size WD.heap.size b3 LA) := BA.of hrb hLAl
        have hszWD := hrb.bel.size
        clear HRC hx hrb HpC HqC HdC
        have hby := HRD.out.1.pw.pl.p1.bytes
        rw [HRD.out.2.2.2.2.1, ← hLA] at hby
        refine wpList_runTo rfl (some 120) rfl (.pointer (some ⟨tg1, 0, none⟩)) WD (by kernel_rfl) ?_
        simp only [Act.put, List.setIfInBounds_toArray, List.set_cons_zero, List.set_cons_succ]
        refine wpList_callW rfl (some 121) rfl 13 #[.pointer (some ⟨tg1, 0, none⟩)] (by kernel_rfl) hby ?_
        clear hby
        rintro e WE ⟨b4, rfl, hx⟩
        refine ⟨_, rfl, ?_⟩
        simp only [Act.put, List.setIfInBounds_toArray, List.set_cons_zero, List.set_cons_succ]
        have hrb := hx.out
        have HRE : Hid (PC w WE t1' t2 A1 B g1 g2 v1' v2 A1 B hv l cb c ∧ A1.length ≤ i + 1 ∧ B.length ≤ i + 1 ∧ l.length ≤ 360 * i ∧ t1'.g = tg1 ∧ t2.g = tg2) := ⟨HRD.out.1.below hrb.bel, HRD.out.2⟩
        have HpE : Hid (BA WE W9.heap.size WA.heap.size b1 X) := HpD.out.below hrb.bel
        have HqE : Hid (BA WE WA.heap.size WB.heap.size b2 X) := HqD.out.below hrb.bel
        have HdE : Hid (BA WE WB.heap.size WC.heap.size d0 X) := HdD.out.below hrb.bel
        have HrE : Hid (BA WE WC.heap.size WD.heap.size b3 LA) := HrD.out.below hrb.bel
        have HsE : Hid (BA WE WD.heap.size WE.heap.size b4 LA) := BA.of hrb hLAl
        have hszWE := hrb.bel.size
        clear HRD hx hrb HpD HqD HdD HrD
        have hby := HRE.out.1.pw.pl.p2.bytes
        rw [HRE.out.2.2.2.2.2, ← hLB] at hby
        refine wpList_runTo rfl (some 122) rfl (.pointer (some ⟨tg2, 0, none⟩)) WE (by kernel_rfl) ?_
        simp only [Act.put, List.setIfInBounds_toArray, List.set_cons_zero, List.set_cons_succ]
        refine wpList_callW rfl (some 123) rfl 13 #[.pointer (some ⟨tg2, 0, none⟩)] (by kernel_rfl) hby ?_
        clear hby
        rintro e WF ⟨b5, rfl, hx⟩
        refine ⟨_, rfl, ?_⟩
        simp only [Act.put, List.setIfInBounds_toArray, List.set_cons_zero, List.set_cons_succ]
        have hrb := hx.out
        have HRF : Hid (PC w WF t1' t2 A1 B g1 g2 v1' v2 A1 B hv l cb c ∧ A1.length ≤ i + 1 ∧ B.length ≤ i + 1 ∧ l.length ≤ 360 * i ∧ t1'.g = tg1 ∧ t2.g = tg2) := ⟨HRE.out.1.below hrb.bel, HRE.out.2⟩
        have HpF : Hid (BA WF W9.heap.size WA.heap.size b1 X) := HpE.out.below hrb.bel
        have HqF : Hid (BA WF WA.heap.size WB.heap.size b2 X) := HqE.out.below hrb.bel
        have HdF : Hid (BA WF WB.heap.size WC.heap.size d0 X) := HdE.out.below hrb.bel
        have HrF : Hid (BA WF WC.heap.size WD.heap.size b3 LA) := HrE.out.below hrb.bel
        have HsF : Hid (BA WF WD.heap.size WE.heap.size b4 LA) := HsE.out.below hrb.bel
        have HtF : Hid (BA WF WE.heap.size WF.heap.size b5 LB) := BA.of hrb hLBl
        have hszWF := hrb.bel.size
        clear HRE hx hrb HpE HqE HdE HrE HsE
        refine wpList_runTo rfl (some 124) rfl (.slice (some ⟨WF.heap.size, 0, none⟩) 5 5) (WF.alloc (.cells #[b1, b2, b3, b4, b5] 28)) (by exact build62_run HpF.out.sl HqF.out.sl HrF.out.sl HsF.out.sl HtF.out.sl (.tmp 116) (.tmp 117) (.tmp 119) (.tmp 121) (.tmp 123) rfl (by kernel_rfl) (by kernel_rfl) (by kernel_rfl) (by kernel_rfl) (by kernel_rfl) _) ?_
        simp only [Act.put, List.setIfInBounds_toArray, List.set_cons_zero, List.set_cons_succ]
        have HG0 : Below WF.heap.size WF (WF.alloc (.cells #[b1, b2, b3, b4, b5] 28)) := (Below.refl _ WF).alloc (Nat.le_refl _) _
        have HRG : Hid ((PC w (WF.alloc (.cells #[b1, b2, b3, b4, b5] 28)) t1' t2 A1 B g1 g2 v1' v2 A1 B hv l cb c ∧ A1.length ≤ i + 1 ∧ B.length ≤ i + 1 ∧ l.length ≤ 360 * i ∧ t1'.g = tg1 ∧ t2.g = tg2) ∧ Blk (WF.alloc (.cells #[b1, b2, b3, b4, b5] 28)) WF.heap.size 28 #[b1, b2, b3, b4, b5]) := ⟨⟨HRF.out.1.below HG0, HRF.out.2⟩, Blk.new _ _ _⟩
        have HpG : Hid (BA (WF.alloc (.cells #[b1, b2, b3, b4, b5] 28)) W9.heap.size WA.heap.size b1 X) := HpF.out.below HG0
        have HqG : Hid (BA (WF.alloc (.cells #[b1, b2, b3, b4, b5] 28)) WA.heap.size WB.heap.size b2 X) := HqF.out.below HG0
        have HdG : Hid (BA (WF.alloc (.cells #[b1, b2, b3, b4, b5] 28)) WB.heap.size WC.heap.size d0 X) := HdF.out.below HG0
        have HrG : Hid (BA (WF.alloc (.cells #[b1, b2, b3, b4, b5] 28)) WC.heap.size WD.heap.size b3 LA) := HrF.out.below HG0
        have HsG : Hid (BA (WF.alloc (.cells #[b1, b2, b3, b4, b5] 28)) WD.heap.size WE.heap.size b4 LA) := HsF.out.below HG0
        have HtG : Hid (BA (WF.alloc (.cells #[b1, b2, b3, b4, b5] 28)) WE.heap.size WF.heap.size b5 LB) := HtF.out.below HG0
        clear HRF HG0 HpF HqF HdF HrF HsF HtF
        obtain ⟨b23, hb23⟩ : ∃ b, b = WF.heap.size := ⟨_, rfl⟩
        rw [← hb23] at HRG ⊢
        generalize WF.alloc (.cells #[b1, b2, b3, b4, b5] 28) = WG at *
        refine wpList_runTo rfl (some 23) rfl (.slice (some ⟨b23, 0, none⟩) 5 5) WG (by kernel_rfl) ?_
        simp only [Act.put, List.setIfInBounds_toArray, List.set_cons_zero, List.set_cons_succ]
        refine wpList_nil ?_
        refine hK _ _ ?_
        clear hK
        go_upto_region 26 with fail
        have HTR : Hid (A1.length ≤ i + 1 ∧ B.length ≤ i + 1 ∧ l.length ≤ 360 * i ∧ t1'.g = tg1 ∧ t2.g = tg2) := HRG.out.1.2
        have HTG : Hid (T26 w WG t1' t2 A1 B g1 g2 v1' v2 hv l cb c b23 W9.heap.size WA.heap.size WC.heap.size WD.heap.size WE.heap.size WF.heap.size b1 b2 b3 b4 b5 X LA LB d0) := ⟨HRG.out.1.1, HRG.out.2, HpG.out, HqG.out.mono hszWC, HrG.out, HsG.out, HtG.out, HdG.out.by'⟩
        have HMs : Hid (W9.heap.size ≤ WA.heap.size ∧ WA.heap.size ≤ WC.heap.size ∧ WC.heap.size ≤ WD.heap.size ∧ WD.heap.size ≤ WE.heap.size) := ⟨hszWA, Nat.le_trans hszWB hszWC, hszWD, hszWE⟩
        clear HRG HpG HqG HrG HsG HtG HdG hszWA hszWB hszWC hszWD hszWE hszWF hb23
        go_cut [24] from 46 to 198 (fun x24 wx => ∃ (b24 : Nat) (W : World), W = wx ∧ x24 = .slice (some ⟨b24, 0, none⟩) 5 5 ∧ Hid (T27 w W t1' t2 A1 B g1 g2 v1' v2 hv l b23 b24 [b1, b2, b3, b4, b5] [X, X, LA, LA, LB] 0))
        case first => as_aux_lemma =>
          have hbd : Below WG.heap.size WG WG.drew := ⟨rfl, rfl, rfl, Nat.le_refl _, fun _ _ => rfl⟩
          have HD : Hid (T26 w WG.drew t1' t2 A1 B g1 g2 v1' v2 hv l cb c b23 W9.heap.size WA.heap.size WC.heap.size WD.heap.size WE.heap.size WF.heap.size b1 b2 b3 b4 b5 X LA LB d0) := HTG.out.below hbd
          clear hbd HTG
          refine wp_region_held (S := fun w' => By w' d0 X) (by kernel_rfl) ?_
          change wpAnyH _ _ _ _ _ _ _ _ (World.drew _)
          generalize WG.drew = WX at *
          have hS := HD.out.dd
          refine takeR (i := 0) (v := d0) (some 125) rfl rfl (by kernel_rfl) (by kernel_rfl) (by kernel_rfl) (fun _ _ _ h => h) (Or.inl ⟨by kernel_rfl, fun w' hSw => by kernel_rfl⟩) hS ?_
          simp only [Act.put, List.setIfInBounds_toArray, List.set_cons_zero, List.set_cons_succ]
          refine takeR (i := 1) (v := .string (ofN X)) (some 126) rfl rfl (by kernel_rfl) (by kernel_rfl) (by kernel_rfl) (fun _ _ _ h => h) (Or.inl ⟨by kernel_rfl, fun w' hSw => by exact conv_run (.tmp 125) rfl (by kernel_rfl) hSw⟩) hS ?_
          simp only [Act.put, List.setIfInBounds_toArray, List.set_cons_zero, List.set_cons_succ]
          refine takeR (i := 2) (v := d0) (some 127) rfl rfl (by kernel_rfl) (by kernel_rfl) (by kernel_rfl) (fun _ _ _ h => h) (Or.inl ⟨by kernel_rfl, fun w' hSw => by kernel_rfl⟩) hS ?_
          simp only [Act.put, List.setIfInBounds_toArray, List.set_cons_zero, List.set_cons_succ]
          refine takeR (i := 3) (v := .string (ofN X)) (some 128) rfl rfl (by kernel_rfl) (by kernel_rfl) (by kernel_rfl) (fun _ _ _ h => h) (Or.inl ⟨by kernel_rfl, fun w' hSw => by exact conv_run (.tmp 127) rfl (by kernel_rfl) hSw⟩) hS ?_
          simp only [Act.put, List.setIfInBounds_toArray, List.set_cons_zero, List.set_cons_succ]
          refine takeR (i := 4) (v := .pointer (some ⟨g1, 0, none⟩)) (some 129) rfl rfl (by kernel_rfl) (by kernel_rfl) (by kernel_rfl) (fun _ _ _ h => h) (Or.inl ⟨by kernel_rfl, fun w' hSw => by kernel_rfl⟩) hS ?_
          simp only [Act.put, List.setIfInBounds_toArray, List.set_cons_zero, List.set_cons_succ]
          refine takeR (i := 7) (v := .pointer (some ⟨g1, 0, none⟩)) (some 132) rfl rfl (by kernel_rfl) (by kernel_rfl) (by kernel_rfl) (fun _ _ _ h => h) (Or.inl ⟨by kernel_rfl, fun w' hSw => by kernel_rfl⟩) hS ?_
          simp only [Act.put, List.setIfInBounds_toArray, List.set_cons_zero, List.set_cons_succ]
          refine takeR (i := 10) (v := .pointer (some ⟨g2, 0, none⟩)) (some 135) rfl rfl (by kernel_rfl) (by kernel_rfl) (by kernel_rfl) (fun _ _ _ h => h) (Or.inl ⟨by kernel_rfl, fun w' hSw => by kernel_rfl⟩) hS ?_
          simp only [Act.put, List.setIfInBounds_toArray, List.set_cons_zero, List.set_cons_succ]
          refine wpAnyH_ready (rs := [5]) (by kernel_rfl) (by simp) ?_
          refine AllReadyH.cons rfl (fun K1 hK1 => ?_) AllReadyH.nil
          rw [if_pos (by kernel_rfl)]
          have hrb := refBytes_any HD.out.pc.pw.pl.r1 (by have := HTR.out.1; have := HTR.out.2.1; omega)
          rw [← hLA] at hrb
          refine callR (d := some 130) rfl 24 #[.pointer (some ⟨g1, 0, none⟩)] (by kernel_rfl) hrb ?_
          clear hrb
          rintro e Y1 ⟨s1, rfl, hx⟩
          refine ⟨_, rfl, ?_⟩
          have HD1 : Hid (T26 w Y1 t1' t2 A1 B g1 g2 v1' v2 hv l cb c b23 W9.heap.size WA.heap.size WC.heap.size WD.heap.size WE.heap.size WF.heap.size b1 b2 b3 b4 b5 X LA LB d0 ∧ By Y1 s1 LA) := ⟨HD.out.below hx.out.bel, hx.out.by'⟩
          have hS1 := HD1.out.1.dd
          clear hx HD hS
          refine hK1.out _ _ hS1 (fun _ => ?_)
          clear hK1
          have hS := hS1
          clear hS1
          simp only [Act.put, List.setIfInBounds_toArray, List.set_cons_zero, List.set_cons_succ]
          refine wpAnyH_ready (rs := [6, 8]) (by kernel_rfl) (by simp) ?_
          refine AllReadyH.cons rfl (fun K1 hK1 => ?_) (AllReadyH.cons rfl (fun K1 hK1 => ?_) AllReadyH.nil)
          · skip
            rw [if_pos (by kernel_rfl)]
            refine valR (d := some 131) rfl (.string (ofN LA)) (conv_run (.tmp 130) rfl (by kernel_rfl) HD1.out.2) ?_
            refine hK1.out _ _ hS (fun _ => ?_)
            clear hK1
            simp only [Act.put, List.setIfInBounds_toArray, List.set_cons_zero, List.set_cons_succ]
            refine wpAnyH_ready (rs := [8]) (by kernel_rfl) (by simp) ?_
            refine AllReadyH.cons rfl (fun K1 hK1 => ?_) AllReadyH.nil
            rw [if_pos (by kernel_rfl)]
            have hrb := refBytes_any HD1.out.1.pc.pw.pl.r1 (by have := HTR.out.1; have := HTR.out.2.1; omega)
            rw [← hLA] at hrb
            refine callR (d := some 133) rfl 24 #[.pointer (some ⟨g1, 0, none⟩)] (by kernel_rfl) hrb ?_
            clear hrb
            rintro e Y2 ⟨s2, rfl, hx⟩
            refine ⟨_, rfl, ?_⟩
            have HD2 : Hid (T26 w Y2 t1' t2 A1 B g1 g2 v1' v2 hv l cb c b23 W9.heap.size WA.heap.size WC.heap.size WD.heap.size WE.heap.size WF.heap.size b1 b2 b3 b4 b5 X LA LB d0 ∧ By Y2 s1 LA ∧ By Y2 s2 LA) := ⟨HD1.out.1.below hx.out.bel, HD1.out.2.below hx.out.bel, hx.out.by'⟩
            have hS2 := HD2.out.1.dd
            clear hx HD1 hS
            refine hK1.out _ _ hS2 (fun _ => ?_)
            clear hK1
            have hS := hS2
            clear hS2
            simp only [Act.put, List.setIfInBounds_toArray, List.set_cons_zero, List.set_cons_succ]
            refine wpAnyH_ready (rs := [9, 11]) (by kernel_rfl) (by simp) ?_
            refine AllReadyH.cons rfl (fun K1 hK1 => ?_) (AllReadyH.cons rfl (fun K1 hK1 => ?_) AllReadyH.nil)
            · skip
              rw [if_pos (by kernel_rfl)]
              refine valR (d := some 134) rfl (.string (ofN LA)) (conv_run (.tmp 133) rfl (by kernel_rfl) HD2.out.2.2) ?_
              refine hK1.out _ _ hS (fun _ => ?_)
              clear hK1
              simp only [Act.put, List.setIfInBounds_toArray, List.set_cons_zero, List.set_cons_succ]
              refine wpAnyH_ready (rs := [11]) (by kernel_rfl) (by simp) ?_
              refine AllReadyH.cons rfl (fun K1 hK1 => ?_) AllReadyH.nil
              rw [if_pos (by kernel_rfl)]
              have hrb := refBytes_any HD2.out.1.pc.pw.pl.r2 (by have := HTR.out.1; have := HTR.out.2.1; omega)
              rw [← hLB] at hrb
              refine callR (d := some 136) rfl 24 #[.pointer (some ⟨g2, 0, none⟩)] (by kernel_rfl) hrb ?_
              clear hrb
              rintro e Y3 ⟨s3, rfl, hx⟩
              refine ⟨_, rfl, ?_⟩
              have HD3 : Hid (T26 w Y3 t1' t2 A1 B g1 g2 v1' v2 hv l cb c b23 W9.heap.size WA.heap.size WC.heap.size WD.heap.size WE.heap.size WF.heap.size b1 b2 b3 b4 b5 X LA LB d0 ∧ By Y3 s1 LA ∧ By Y3 s2 LA ∧ By Y3 s3 LB) := ⟨HD2.out.1.below hx.out.bel, HD2.out.2.1.below hx.out.bel, HD2.out.2.2.below hx.out.bel, hx.out.by'⟩
              have hS3 := HD3.out.1.dd
              clear hx HD2 hS
              refine hK1.out _ _ hS3 (fun _ => ?_)
              clear hK1
              have hS := hS3
              clear hS3
              simp only [Act.put, List.setIfInBounds_toArray, List.set_cons_zero, List.set_cons_succ]
              refine wpAnyH_ready (rs := [12]) (by kernel_rfl) (by simp) ?_
              refine AllReadyH.cons rfl (fun K1 hK1 => ?_) AllReadyH.nil
              rw [if_pos (by kernel_rfl)]
              refine valR (d := some 137) rfl (.string (ofN LB)) (conv_run (.tmp 136) rfl (by kernel_rfl) HD3.out.2.2.2) ?_
              refine hK1.out _ _ hS (fun _ => ?_)
              clear hK1
              simp only [Act.put, List.setIfInBounds_toArray, List.set_cons_zero, List.set_cons_succ]
              refine wpAnyH_ready (rs := [13]) (by kernel_rfl) (by simp) ?_
              refine AllReadyH.cons rfl (fun K1 hK1 => ?_) AllReadyH.nil
              rw [if_pos (by kernel_rfl)]
              refine valR (d := some 138) (w' := Y3.alloc (.cells #[.string (ofN X), .string (ofN X), .string (ofN LA), .string (ofN LA), .string (ofN LB)] 9)) rfl (.slice (some ⟨Y3.heap.size, 0, none⟩) 5 5) (build63_run (.tmp 126) (.tmp 128) (.tmp 131) (.tmp 134) (.tmp 137) rfl (by kernel_rfl) (by kernel_rfl) (by kernel_rfl) (by kernel_rfl) (by kernel_rfl) _) ?_
              have HF := (show Hid (T27 w _ t1' t2 A1 B g1 g2 v1' v2 hv l b23 Y3.heap.size [b1, b2, b3, b4, b5] [X, X, LA, LA, LB] 0) from HD3.out.1.fin H9.out (Nat.le_refl _) HMs.out)
              have hS2 : By (Y3.alloc (.cells #[.string (ofN X), .string (ofN X), .string (ofN LA), .string (ofN LA), .string (ofN LB)] 9)) d0 X := HD3.out.1.dd.below ((Below.refl _ Y3).alloc (Nat.le_refl _) _)
              refine hK1.out _ _ hS2 (fun _ => ?_)
              clear hK1 HD3
              simp only [Act.put, List.setIfInBounds_toArray, List.set_cons_zero, List.set_cons_succ]
              generalize Y3.alloc (.cells #[.string (ofN X), .string (ofN X), .string (ofN LA), .string (ofN LA), .string (ofN LB)] 9) = Y4 at *
              generalize Y3.heap.size = b24 at *
              refine takeR (i := 14) (v := .slice (some ⟨b24, 0, none⟩) 5 5) (some 24) rfl rfl (by kernel_rfl) (by kernel_rfl) (by kernel_rfl) (fun _ _ _ h => h) (Or.inl ⟨by kernel_rfl, fun w' hSw => by kernel_rfl⟩) hS2 ?_
              simp only [Act.put, List.setIfInBounds_toArray, List.set_cons_zero, List.set_cons_succ]
              refine wpAnyH_done (by kernel_rfl) ?_ _
              first | go_meet | (go_wp2; go_meet)
              exact ⟨b24, Y4, rfl, rfl, HF.out⟩
            · skip
              rw [if_pos (by kernel_rfl)]
              have hrb := refBytes_any HD2.out.1.pc.pw.pl.r2 (by have := HTR.out.1; have := HTR.out.2.1; omega)
              rw [← hLB] at hrb
              refine callR (d := some 136) rfl 24 #[.pointer (some ⟨g2, 0, none⟩)] (by kernel_rfl) hrb ?_
              clear hrb
              rintro e Y3 ⟨s3, rfl, hx⟩
              refine ⟨_, rfl, ?_⟩
              have HD3 : Hid (T26 w Y3 t1' t2 A1 B g1 g2 v1' v2 hv l cb c b23 W9.heap.size WA.heap.size WC.heap.size WD.heap.size WE.heap.size WF.heap.size b1 b2 b3 b4 b5 X LA LB d0 ∧ By Y3 s1 LA ∧ By Y3 s2 LA ∧ By Y3 s3 LB) := ⟨HD2.out.1.below hx.out.bel, HD2.out.2.1.below hx.out.bel, HD2.out.2.2.below hx.out.bel, hx.out.by'⟩
              have hS3 := HD3.out.1.dd
              clear hx HD2 hS
              refine hK1.out _ _ hS3 (fun _ => ?_)
              clear hK1
              have hS := hS3
              clear hS3
              simp only [Act.put, List.setIfInBounds_toArray, List.set_cons_zero, List.set_cons_succ]
              refine wpAnyH_ready (rs := [9, 12]) (by kernel_rfl) (by simp) ?_
              refine AllReadyH.cons rfl (fun K1 hK1 => ?_) (AllReadyH.cons rfl (fun K1 hK1 => ?_) AllReadyH.nil)
              · skip
                rw [if_pos (by kernel_rfl)]
                refine valR (d := some 134) rfl (.string (ofN LA)) (conv_run (.tmp 133) rfl (by kernel_rfl) HD3.out.2.2.1) ?_
                refine hK1.out _ _ hS (fun _ => ?_)
                clear hK1
                simp only [Act.put, List.setIfInBounds_toArray, List.set_cons_zero, List.set_cons_succ]
                refine wpAnyH_ready (rs := [12]) (by kernel_rfl) (by simp) ?_
                refine AllReadyH.cons rfl (fun K1 hK1 => ?_) AllReadyH.nil
                rw [if_pos (by kernel_rfl)]
                refine valR (d := some 137) rfl (.string (ofN LB)) (conv_run (.tmp 136) rfl (by kernel_rfl) HD3.out.2.2.2) ?_
                refine hK1.out _ _ hS (fun _ => ?_)
                clear hK1
                simp only [Act.put, List.setIfInBounds_toArray, List.set_cons_zero, List.set_cons_succ]
                refine wpAnyH_ready (rs := [13]) (by kernel_rfl) (by simp) ?_
                refine AllReadyH.cons rfl (fun K1 hK1 => ?_) AllReadyH.nil
                rw [if_pos (by kernel_rfl)]
                refine valR (d := some 138) (w' := Y3.alloc (.cells #[.string (ofN X), .string (ofN X), .string (ofN LA), .string (ofN LA), .string (ofN LB)] 9)) rfl (.slice (some ⟨Y3.heap.size, 0, none⟩) 5 5) (build63_run (.tmp 126) (.tmp 128) (.tmp 131) (.tmp 134) (.tmp 137) rfl (by kernel_rfl) (by kernel_rfl) (by kernel_rfl) (by kernel_rfl) (by kernel_rfl) _) ?_
                have HF := (show Hid (T27 w _ t1' t2 A1 B g1 g2 v1' v2 hv l b23 Y3.heap.size [b1, b2, b3, b4, b5] [X, X, LA, LA, LB] 0) from HD3.out.1.fin H9.out (Nat.le_refl _) HMs.out)
                have hS2 : By (Y3.alloc (.cells #[.string (ofN X), .string (ofN X), .string (ofN LA), .string (ofN LA), .string (ofN LB)] 9)) d0 X := HD3.out.1.dd.below ((Below.refl _ Y3).alloc (Nat.le_refl _) _)
                refine hK1.out _ _ hS2 (fun _ => ?_)
                clear hK1 HD3
                simp only [Act.put, List.setIfInBounds_toArray, List.set_cons_zero, List.set_cons_succ]
                generalize Y3.alloc (.cells #[.string (ofN X), .string (ofN X), .string (ofN LA), .string (ofN LA), .string (ofN LB)] 9) = Y4 at *
                generalize Y3.heap.size = b24 at *
                refine takeR (i := 14) (v := .slice (some ⟨b24, 0, none⟩) 5 5) (some 24) rfl rfl (by kernel_rfl) (by kernel_rfl) (by kernel_rfl) (fun _ _ _ h => h) (Or.inl ⟨by kernel_rfl, fun w' hSw => by kernel_rfl⟩) hS2 ?_
                simp only [Act.put, List.setIfInBounds_toArray, List.set_cons_zero, List.set_cons_succ]
                refine wpAnyH_done (by kernel_rfl) ?_ _
                first | go_meet | (go_wp2; go_meet)
                exact ⟨b24, Y4, rfl, rfl, HF.out⟩
              · skip
                rw [if_pos (by kernel_rfl)]
                refine valR (d := some 137) rfl (.string (ofN LB)) (conv_run (.tmp 136) rfl (by kernel_rfl) HD3.out.2.2.2) ?_
                refine hK1.out _ _ hS (fun _ => ?_)
                clear hK1
                simp only [Act.put, List.setIfInBounds_toArray, List.set_cons_zero, List.set_cons_succ]
                refine wpAnyH_ready (rs := [9]) (by kernel_rfl) (by simp) ?_
                refine AllReadyH.cons rfl (fun K1 hK1 => ?_) AllReadyH.nil
                rw [if_pos (by kernel_rfl)]
                refine valR (d := some 134) rfl (.string (ofN LA)) (conv_run (.tmp 133) rfl (by kernel_rfl) HD3.out.2.2.1) ?_
                refine hK1.out _ _ hS (fun _ => ?_)
                clear hK1
                simp only [Act.put, List.setIfInBounds_toArray, List.set_cons_zero, List.set_cons_succ]
                refine wpAnyH_ready (rs := [13]) (by kernel_rfl) (by simp) ?_
                refine AllReadyH.cons rfl (fun K1 hK1 => ?_) AllReadyH.nil
                rw [if_pos (by kernel_rfl)]
                refine valR (d := some 138) (w' := Y3.alloc (.cells #[.string (ofN X), .string (ofN X), .string (ofN LA), .string (ofN LA), .string (ofN LB)] 9)) rfl (.slice (some ⟨Y3.heap.size, 0, none⟩) 5 5) (build63_run (.tmp 126) (.tmp 128) (.tmp 131) (.tmp 134) (.tmp 137) rfl (by kernel_rfl) (by kernel_rfl) (by kernel_rfl) (by kernel_rfl) (by kernel_rfl) _) ?_
                have HF := (show Hid (T27 w _ t1' t2 A1 B g1 g2 v1' v2 hv l b23 Y3.heap.size [b1, b2, b3, b4, b5] [X, X, LA, LA, LB] 0) from HD3.out.1.fin H9.out (Nat.le_refl _) HMs.out)
                have hS2 : By (Y3.alloc (.cells #[.string (ofN X), .string (ofN X), .string (ofN LA), .string (ofN LA), .string (ofN LB)] 9)) d0 X := HD3.out.1.dd.below ((Below.refl _ Y3).alloc (Nat.le_refl _) _)
                refine hK1.out _ _ hS2 (fun _ => ?_)
                clear hK1 HD3
                simp only [Act.put, List.setIfInBounds_toArray, List.set_cons_zero, List.set_cons_succ]
                generalize Y3.alloc (.cells #[.string (ofN X), .string (ofN X), .string (ofN LA), .string (ofN LA), .string (ofN LB)] 9) = Y4 at *
                generalize Y3.heap.size = b24 at *
                refine takeR (i := 14) (v := .slice (some ⟨b24, 0, none⟩) 5 5) (some 24) rfl rfl (by kernel_rfl) (by kernel_rfl) (by kernel_rfl) (fun _ _ _ h => h) (Or.inl ⟨by kernel_rfl, fun w' hSw => by kernel_rfl⟩) hS2 ?_
                simp only [Act.put, List.setIfInBounds_toArray, List.set_cons_zero, List.set_cons_succ]
                refine wpAnyH_done (by kernel_rfl) ?_ _
                first | go_meet | (go_wp2; go_meet)
                exact ⟨b24, Y4, rfl, rfl, HF.out⟩
          · skip
            rw [if_pos (by kernel_rfl)]
            have hrb := refBytes_any HD1.out.1.pc.pw.pl.r1 (by have := HTR.out.1; have := HTR.out.2.1; omega)
            rw [← hLA] at hrb
            refine callR (d := some 133) rfl 24 #[.pointer (some ⟨g1, 0, none⟩)] (by kernel_rfl) hrb ?_
            clear hrb
            rintro e Y2 ⟨s2, rfl, hx⟩
            refine ⟨_, rfl, ?_⟩
            have HD2 : Hid (T26 w Y2 t1' t2 A1 B g1 g2 v1' v2 hv l cb c b23 W9.heap.size WA.heap.size WC.heap.size WD.heap.size WE.heap.size WF.heap.size b1 b2 b3 b4 b5 X LA LB d0 ∧ By Y2 s1 LA ∧ By Y2 s2 LA) := ⟨HD1.out.1.below hx.out.bel, HD1.out.2.below hx.out.bel, hx.out.by'⟩
            have hS2 := HD2.out.1.dd
            clear hx HD1 hS
            refine hK1.out _ _ hS2 (fun _ => ?_)
            clear hK1
            have hS := hS2
            clear hS2
            simp only [Act.put, List.setIfInBounds_toArray, List.set_cons_zero, List.set_cons_succ]
            refine wpAnyH_ready (rs := [6, 9, 11]) (by kernel_rfl) (by simp) ?_
            refine AllReadyH.cons rfl (fun K1 hK1 => ?_) (AllReadyH.cons rfl (fun K1 hK1 => ?_) (AllReadyH.cons rfl (fun K1 hK1 => ?_) AllReadyH.nil))
            · skip
              rw [if_pos (by kernel_rfl)]
              refine valR (d := some 131) rfl (.string (ofN LA)) (conv_run (.tmp 130) rfl (by kernel_rfl) HD2.out.2.1) ?_
              refine hK1.out _ _ hS (fun _ => ?_)
              clear hK1
              simp only [Act.put, List.setIfInBounds_toArray, List.set_cons_zero, List.set_cons_succ]
              refine wpAnyH_ready (rs := [9, 11]) (by kernel_rfl) (by simp) ?_
              refine AllReadyH.cons rfl (fun K1 hK1 => ?_) (AllReadyH.cons rfl (fun K1 hK1 => ?_) AllReadyH.nil)
              · skip
                rw [if_pos (by kernel_rfl)]
                refine valR (d := some 134) rfl (.string (ofN LA)) (conv_run (.tmp 133) rfl (by kernel_rfl) HD2.out.2.2) ?_
                refine hK1.out _ _ hS (fun _ => ?_)
                clear hK1
                simp only [Act.put, List.setIfInBounds_toArray, List.set_cons_zero, List.set_cons_succ]
                refine wpAnyH_ready (rs := [11]) (by kernel_rfl) (by simp) ?_
                refine AllReadyH.cons rfl (fun K1 hK1 => ?_) AllReadyH.nil
                rw [if_pos (by kernel_rfl)]
                have hrb := refBytes_any HD2.out.1.pc.pw.pl.r2 (by have := HTR.out.1; have := HTR.out.2.1; omega)
                rw [← hLB] at hrb
                refine callR (d := some 136) rfl 24 #[.pointer (some ⟨g2, 0, none⟩)] (by kernel_rfl) hrb ?_
                clear hrb
                rintro e Y3 ⟨s3, rfl, hx⟩
                refine ⟨_, rfl, ?_⟩
                have HD3 : Hid (T26 w Y3 t1' t2 A1 B g1 g2 v1' v2 hv l cb c b23 W9.heap.size WA.heap.size WC.heap.size WD.heap.size WE.heap.size WF.heap.size b1 b2 b3 b4 b5 X LA LB d0 ∧ By Y3 s1 LA ∧ By Y3 s2 LA ∧ By Y3 s3 LB) := ⟨HD2.out.1.below hx.out.bel, HD2.out.2.1.below hx.out.bel, HD2.out.2.2.below hx.out.bel, hx.out.by'⟩
                have hS3 := HD3.out.1.dd
                clear hx HD2 hS
                refine hK1.out _ _ hS3 (fun _ => ?_)
                clear hK1
                have hS := hS3
                clear hS3
                simp only [Act.put, List.setIfInBounds_toArray, List.set_cons_zero, List.set_cons_succ]
                refine wpAnyH_ready (rs := [12]) (by kernel_rfl) (by simp) ?_
                refine AllReadyH.cons rfl (fun K1 hK1 => ?_) AllReadyH.nil
                rw [if_pos (by kernel_rfl)]
                refine valR (d := some 137) rfl (.string (ofN LB)) (conv_run (.tmp 136) rfl (by kernel_rfl) HD3.out.2.2.2) ?_
                refine hK1.out _ _ hS (fun _ => ?_)
                clear hK1
                simp only [Act.put, List.setIfInBounds_toArray, List.set_cons_zero, List.set_cons_succ]
                refine wpAnyH_ready (rs := [13]) (by kernel_rfl) (by simp) ?_
                refine AllReadyH.cons rfl (fun K1 hK1 => ?_) AllReadyH.nil
                rw [if_pos (by kernel_rfl)]
                refine valR (d := some 138) (w' := Y3.alloc (.cells #[.string (ofN X), .string (ofN X), .string (ofN LA), .string (ofN LA), .string (ofN LB)] 9)) rfl (.slice (some ⟨Y3.heap.size, 0, none⟩) 5 5) (build63_run (.tmp 126) (.tmp 128) (.tmp 131) (.tmp 134) (.tmp 137) rfl (by kernel_rfl) (by kernel_rfl) (by kernel_rfl) (by kernel_rfl) (by kernel_rfl) _) ?_
                have HF := (show Hid (T27 w _ t1' t2 A1 B g1 g2 v1' v2 hv l b23 Y3.heap.size [b1, b2, b3, b4, b5] [X, X, LA, LA, LB] 0) from HD3.out.1.fin H9.out (Nat.le_refl _) HMs.out)
                have hS2 : By (Y3.alloc (.cells #[.string (ofN X), .string (ofN X), .string (ofN LA), .string (ofN LA), .string (ofN LB)] 9)) d0 X := HD3.out.1.dd.below ((Below.refl _ Y3).alloc (Nat.le_refl _) _)
                refine hK1.out _ _ hS2 (fun _ => ?_)
                clear hK1 HD3
                simp only [Act.put, List.setIfInBounds_toArray, List.set_cons_zero, List.set_cons_succ]
                generalize Y3.alloc (.cells #[.string (ofN X), .string (ofN X), .string (ofN LA), .string (ofN LA), .string (ofN LB)] 9) = Y4 at *
                generalize Y3.heap.size = b24 at *
                refine takeR (i := 14) (v := .slice (some ⟨b24, 0, none⟩) 5 5) (some 24) rfl rfl (by kernel_rfl) (by kernel_rfl) (by kernel_rfl) (fun _ _ _ h => h) (Or.inl ⟨by kernel_rfl, fun w' hSw => by kernel_rfl⟩) hS2 ?_
                simp only [Act.put, List.setIfInBounds_toArray, List.set_cons_zero, List.set_cons_succ]
                refine wpAnyH_done (by kernel_rfl) ?_ _
                first | go_meet | (go_wp2; go_meet)
                exact ⟨b24, Y4, rfl, rfl, HF.out⟩
              · skip
                rw [if_pos (by kernel_rfl)]
                have hrb := refBytes_any HD2.out.1.pc.pw.pl.r2 (by have := HTR.out.1; have := HTR.out.2.1; omega)
                rw [← hLB] at hrb
                refine callR (d := some 136) rfl 24 #[.pointer (some ⟨g2, 0, none⟩)] (by kernel_rfl) hrb ?_
                clear hrb
                rintro e Y3 ⟨s3, rfl, hx⟩
                refine ⟨_, rfl, ?_⟩
                have HD3 : Hid (T26 w Y3 t1' t2 A1 B g1 g2 v1' v2 hv l cb c b23 W9.heap.size WA.heap.size WC.heap.size WD.heap.size WE.heap.size WF.heap.size b1 b2 b3 b4 b5 X LA LB d0 ∧ By Y3 s1 LA ∧ By Y3 s2 LA ∧ By Y3 s3 LB) := ⟨HD2.out.1.below hx.out.bel, HD2.out.2.1.below hx.out.bel, HD2.out.2.2.below hx.out.bel, hx.out.by'⟩
                have hS3 := HD3.out.1.dd
                clear hx HD2 hS
                refine hK1.out _ _ hS3 (fun _ => ?_)
                clear hK1
                have hS := hS3
                clear hS3
                simp only [Act.put, List.setIfInBounds_toArray, List.set_cons_zero, List.set_cons_succ]
                refine wpAnyH_ready (rs := [9, 12]) (by kernel_rfl) (by simp) ?_
                refine AllReadyH.cons rfl (fun K1 hK1 => ?_) (AllReadyH.cons rfl (fun K1 hK1 => ?_) AllReadyH.nil)
                · skip
                  rw [if_pos (by kernel_rfl)]
                  refine valR (d := some 134) rfl (.string (ofN LA)) (conv_run (.tmp 133) rfl (by kernel_rfl) HD3.out.2.2.1) ?_
                  refine hK1.out _ _ hS (fun _ => ?_)
                  clear hK1
                  simp only [Act.put, List.setIfInBounds_toArray, List.set_cons_zero, List.set_cons_succ]
                  refine wpAnyH_ready (rs := [12]) (by kernel_rfl) (by simp) ?_
                  refine AllReadyH.cons rfl (fun K1 hK1 => ?_) AllReadyH.nil
                  rw [if_pos (by kernel_rfl)]
                  refine valR (d := some 137) rfl (.string (ofN LB)) (conv_run (.tmp 136) rfl (by kernel_rfl) HD3.out.2.2.2) ?_
                  refine hK1.out _ _ hS (fun _ => ?_)
                  clear hK1
                  simp only [Act.put, List.setIfInBounds_toArray, List.set_cons_zero, List.set_cons_succ]
                  refine wpAnyH_ready (rs := [13]) (by kernel_rfl) (by simp) ?_
                  refine AllReadyH.cons rfl (fun K1 hK1 => ?_) AllReadyH.nil
                  rw [if_pos (by kernel_rfl)]
                  refine valR (d := some 138) (w' := Y3.alloc (.cells #[.string (ofN X), .string (ofN X), .string (ofN LA), .string (ofN LA), .string (ofN LB)] 9)) rfl (.slice (some ⟨Y3.heap.size, 0, none⟩) 5 5) (build63_run (.tmp 126) (.tmp 128) (.tmp 131) (.tmp 134) (.tmp 137) rfl (by kernel_rfl) (by kernel_rfl) (by kernel_rfl) (by kernel_rfl) (by kernel_rfl) _) ?_
                  have HF := (show Hid (T27 w _ t1' t2 A1 B g1 g2 v1' v2 hv l b23 Y3.heap.size [b1, b2, b3, b4, b5] [X, X, LA, LA, LB] 0) from HD3.out.1.fin H9.out (Nat.le_refl _) HMs.out)
                  have hS2 : By (Y3.alloc (.cells #[.string (ofN X), .string (ofN X), .string (ofN LA), .string (ofN LA), .string (ofN LB)] 9)) d0 X := HD3.out.1.dd.below ((Below.refl _ Y3).alloc (Nat.le_refl _) _)
                  refine hK1.out _ _ hS2 (fun _ => ?_)
                  clear hK1 HD3
                  simp only [Act.put, List.setIfInBounds_toArray, List.set_cons_zero, List.set_cons_succ]
                  generalize Y3.alloc (.cells #[.string (ofN X), .string (ofN X), .string (ofN LA), .string (ofN LA), .string (ofN LB)] 9) = Y4 at *
                  generalize Y3.heap.size = b24 at *
                  refine takeR (i := 14) (v := .slice (some ⟨b24, 0, none⟩) 5 5) (some 24) rfl rfl (by kernel_rfl) (by kernel_rfl) (by kernel_rfl) (fun _ _ _ h => h) (Or.inl ⟨by kernel_rfl, fun w' hSw => by kernel_rfl⟩) hS2 ?_
                  simp only [Act.put, List.setIfInBounds_toArray, List.set_cons_zero, List.set_cons_succ]
                  refine wpAnyH_done (by kernel_rfl) ?_ _
                  first | go_meet | (go_wp2; go_meet)
                  exact ⟨b24, Y4, rfl, rfl, HF.out⟩
                · skip
                  rw [if_pos (by kernel_rfl)]
                  refine valR (d := some 137) rfl (.string (ofN LB)) (conv_run (.tmp 136) rfl (by kernel_rfl) HD3.out.2.2.2) ?_
                  refine hK1.out _ _ hS (fun _ => ?_)
                  clear hK1
                  simp only [Act.put, List.setIfInBounds_toArray, List.set_cons_zero, List.set_cons_succ]
                  refine wpAnyH_ready (rs := [9]) (by kernel_rfl) (by simp) ?_
                  refine AllReadyH.cons rfl (fun K1 hK1 => ?_) AllReadyH.nil
                  rw [if_pos (by kernel_rfl)]
                  refine valR (d := some 134) rfl (.string (ofN LA)) (conv_run (.tmp 133) rfl (by kernel_rfl) HD3.out.2.2.1) ?_
                  refine hK1.out _ _ hS (fun _ => ?_)
                  clear hK1
                  simp only [Act.put, List.setIfInBounds_toArray, List.set_cons_zero, List.set_cons_succ]
                  refine wpAnyH_ready (rs := [13]) (by kernel_rfl) (by simp) ?_
                  refine AllReadyH.cons rfl (fun K1 hK1 => ?_) AllReadyH.nil
                  rw [if_pos (by kernel_rfl)]
                  refine valR (d := some 138) (w' := Y3.alloc (.cells #[.string (ofN X), .string (ofN X), .string (ofN LA), .string (ofN LA), .string (ofN LB)] 9)) rfl (.slice (some ⟨Y3.heap.size, 0, none⟩) 5 5) (build63_run (.tmp 126) (.tmp 128) (.tmp 131) (.tmp 134) (.tmp 137) rfl (by kernel_rfl) (by kernel_rfl) (by kernel_rfl) (by kernel_rfl) (by kernel_rfl) _) ?_
                  have HF := (show Hid (T27 w _ t1' t2 A1 B g1 g2 v1' v2 hv l b23 Y3.heap.size [b1, b2, b3, b4, b5] [X, X, LA, LA, LB] 0) from HD3.out.1.fin H9.out (Nat.le_refl _) HMs.out)
                  have hS2 : By (Y3.alloc (.cells #[.string (ofN X), .string (ofN X), .string (ofN LA), .string (ofN LA), .string (ofN LB)] 9)) d0 X := HD3.out.1.dd.below ((Below.refl _ Y3).alloc (Nat.le_refl _) _)
                  refine hK1.out _ _ hS2 (fun _ => ?_)
                  clear hK1 HD3
                  simp only [Act.put, List.setIfInBounds_toArray, List.set_cons_zero, List.set_cons_succ]
                  generalize Y3.alloc (.cells #[.string (ofN X), .string (ofN X), .string (ofN LA), .string (ofN LA), .string (ofN LB)] 9) = Y4 at *
                  generalize Y3.heap.size = b24 at *
                  refine takeR (i := 14) (v := .slice (some ⟨b24, 0, none⟩) 5 5) (some 24) rfl rfl (by kernel_rfl) (by kernel_rfl) (by kernel_rfl) (fun _ _ _ h => h) (Or.inl ⟨by kernel_rfl, fun w' hSw => by kernel_rfl⟩) hS2 ?_
                  simp only [Act.put, List.setIfInBounds_toArray, List.set_cons_zero, List.set_cons_succ]
                  refine wpAnyH_done (by kernel_rfl) ?_ _
                  first | go_meet | (go_wp2; go_meet)
                  exact ⟨b24, Y4, rfl, rfl, HF.out⟩
            · skip
              rw [if_pos (by kernel_rfl)]
              refine valR (d := some 134) rfl (.string (ofN LA)) (conv_run (.tmp 133) rfl (by kernel_rfl) HD2.out.2.2) ?_
              refine hK1.out _ _ hS (fun _ => ?_)
              clear hK1
              simp only [Act.put, List.setIfInBounds_toArray, List.set_cons_zero, List.set_cons_succ]
              refine wpAnyH_ready (rs := [6, 11]) (by kernel_rfl) (by simp) ?_
              refine AllReadyH.cons rfl (fun K1 hK1 => ?_) (AllReadyH.cons rfl (fun K1 hK1 => ?_) AllReadyH.nil)
              · skip
                rw [if_pos (by kernel_rfl)]
                refine valR (d := some 131) rfl (.string (ofN LA)) (conv_run (.tmp 130) rfl (by kernel_rfl) HD2.out.2.1) ?_
                refine hK1.out _ _ hS (fun _ => ?_)
                clear hK1
                simp only [Act.put, List.setIfInBounds_toArray, List.set_cons_zero, List.set_cons_succ]
                refine wpAnyH_ready (rs := [11]) (by kernel_rfl) (by simp) ?_
                refine AllReadyH.cons rfl (fun K1 hK1 => ?_) AllReadyH.nil
                rw [if_pos (by kernel_rfl)]
                have hrb := refBytes_any HD2.out.1.pc.pw.pl.r2 (by have := HTR.out.1; have := HTR.out.2.1; omega)
                rw [← hLB] at hrb
                refine callR (d := some 136) rfl 24 #[.pointer (some ⟨g2, 0, none⟩)] (by kernel_rfl) hrb ?_
                clear hrb
                rintro e Y3 ⟨s3, rfl, hx⟩
                refine ⟨_, rfl, ?_⟩
                have HD3 : Hid (T26 w Y3 t1' t2 A1 B g1 g2 v1' v2 hv l cb c b23 W9.heap.size WA.heap.size WC.heap.size WD.heap.size WE.heap.size WF.heap.size b1 b2 b3 b4 b5 X LA LB d0 ∧ By Y3 s1 LA ∧ By Y3 s2 LA ∧ By Y3 s3 LB) := ⟨HD2.out.1.below hx.out.bel, HD2.out.2.1.below hx.out.bel, HD2.out.2.2.below hx.out.bel, hx.out.by'⟩
                have hS3 := HD3.out.1.dd
                clear hx HD2 hS
                refine hK1.out _ _ hS3 (fun _ => ?_)
                clear hK1
                have hS := hS3
                clear hS3
                simp only [Act.put, List.setIfInBounds_toArray, List.set_cons_zero, List.set_cons_succ]
                refine wpAnyH_ready (rs := [12]) (by kernel_rfl) (by simp) ?_
                refine AllReadyH.cons rfl (fun K1 hK1 => ?_) AllReadyH.nil
                rw [if_pos (by kernel_rfl)]
                refine valR (d := some 137) rfl (.string (ofN LB)) (conv_run (.tmp 136) rfl (by kernel_rfl) HD3.out.2.2.2) ?_
                refine hK1.out _ _ hS (fun _ => ?_)
                clear hK1
                simp only [Act.put, List.setIfInBounds_toArray, List.set_cons_zero, List.set_cons_succ]
                refine wpAnyH_ready (rs := [13]) (by kernel_rfl) (by simp) ?_
                refine AllReadyH.cons rfl (fun K1 hK1 => ?_) AllReadyH.nil
                rw [if_pos (by kernel_rfl)]
                refine valR (d := some 138) (w' := Y3.alloc (.cells #[.string (ofN X), .string (ofN X), .string (ofN LA), .string (ofN LA), .string (ofN LB)] 9)) rfl (.slice (some ⟨Y3.heap.size, 0, none⟩) 5 5) (build63_run (.tmp 126) (.tmp 128) (.tmp 131) (.tmp 134) (.tmp 137) rfl (by kernel_rfl) (by kernel_rfl) (by kernel_rfl) (by kernel_rfl) (by kernel_rfl) _) ?_
                have HF := (show Hid (T27 w _ t1' t2 A1 B g1 g2 v1' v2 hv l b23 Y3.heap.size [b1, b2, b3, b4, b5] [X, X, LA, LA, LB] 0) from HD3.out.1.fin H9.out (Nat.le_refl _) HMs.out)
                have hS2 : By (Y3.alloc (.cells #[.string (ofN X), .string (ofN X), .string (ofN LA), .string (ofN LA), .string (ofN LB)] 9)) d0 X := HD3.out.1.dd.below ((Below.refl _ Y3).alloc (Nat.le_refl _) _)
                refine hK1.out _ _ hS2 (fun _ => ?_)
                clear hK1 HD3
                simp only [Act.put, List.setIfInBounds_toArray, List.set_cons_zero, List.set_cons_succ]
                generalize Y3.alloc (.cells #[.string (ofN X), .string (ofN X), .string (ofN LA), .string (ofN LA), .string (ofN LB)] 9) = Y4 at *
                generalize Y3.heap.size = b24 at *
                refine takeR (i := 14) (v := .slice (some ⟨b24, 0, none⟩) 5 5) (some 24) rfl rfl (by kernel_rfl) (by kernel_rfl) (by kernel_rfl) (fun _ _ _ h => h) (Or.inl ⟨by kernel_rfl, fun w' hSw => by kernel_rfl⟩) hS2 ?_
                simp only [Act.put, List.setIfInBounds_toArray, List.set_cons_zero, List.set_cons_succ]
                refine wpAnyH_done (by kernel_rfl) ?_ _
                first | go_meet | (go_wp2; go_meet)
                exact ⟨b24, Y4, rfl, rfl, HF.out⟩
              · skip
                rw [if_pos (by kernel_rfl)]
                have hrb := refBytes_any HD2.out.1.pc.pw.pl.r2 (by have := HTR.out.1; have := HTR.out.2.1; omega)
                rw [← hLB] at hrb
                refine callR (d := some 136) rfl 24 #[.pointer (some ⟨g2, 0, none⟩)] (by kernel_rfl) hrb ?_
                clear hrb
                rintro e Y3 ⟨s3, rfl, hx⟩
                refine ⟨_, rfl, ?_⟩
                have HD3 : Hid (T26 w Y3 t1' t2 A1 B g1 g2 v1' v2 hv l cb c b23 W9.heap.size WA.heap.size WC.heap.size WD.heap.size WE.heap.size WF.heap.size b1 b2 b3 b4 b5 X LA LB d0 ∧ By Y3 s1 LA ∧ By Y3 s2 LA ∧ By Y3 s3 LB) := ⟨HD2.out.1.below hx.out.bel, HD2.out.2.1.below hx.out.bel, HD2.out.2.2.below hx.out.bel, hx.out.by'⟩
                have hS3 := HD3.out.1.dd
                clear hx HD2 hS
                refine hK1.out _ _ hS3 (fun _ => ?_)
                clear hK1
                have hS := hS3
                clear hS3
                simp only [Act.put, List.setIfInBounds_toArray, List.set_cons_zero, List.set_cons_succ]
                refine wpAnyH_ready (rs := [6, 12]) (by kernel_rfl) (by simp) ?_
                refine AllReadyH.cons rfl (fun K1 hK1 => ?_) (AllReadyH.cons rfl (fun K1 hK1 => ?_) AllReadyH.nil)
                · skip
                  rw [if_pos (by kernel_rfl)]
                  refine valR (d := some 131) rfl (.string (ofN LA)) (conv_run (.tmp 130) rfl (by kernel_rfl) HD3.out.2.1) ?_
                  refine hK1.out _ _ hS (fun _ => ?_)
                  clear hK1
                  simp only [Act.put, List.setIfInBounds_toArray, List.set_cons_zero, List.set_cons_succ]
                  refine wpAnyH_ready (rs := [12]) (by kernel_rfl) (by simp) ?_
                  refine AllReadyH.cons rfl (fun K1 hK1 => ?_) AllReadyH.nil
                  rw [if_pos (by kernel_rfl)]
                  refine valR (d := some 137) rfl (.string (ofN LB)) (conv_run (.tmp 136) rfl (by kernel_rfl) HD3.out.2.2.2) ?_
                  refine hK1.out _ _ hS (fun _ => ?_)
                  clear hK1
                  simp only [Act.put, List.setIfInBounds_toArray, List.set_cons_zero, List.set_cons_succ]
                  refine wpAnyH_ready (rs := [13]) (by kernel_rfl) (by simp) ?_
                  refine AllReadyH.cons rfl (fun K1 hK1 => ?_) AllReadyH.nil
                  rw [if_pos (by kernel_rfl)]
                  refine valR (d := some 138) (w' := Y3.alloc (.cells #[.string (ofN X), .string (ofN X), .string (ofN LA), .string (ofN LA), .string (ofN LB)] 9)) rfl (.slice (some ⟨Y3.heap.size, 0, none⟩) 5 5) (build63_run (.tmp 126) (.tmp 128) (.tmp 131) (.tmp 134) (.tmp 137) rfl (by kernel_rfl) (by kernel_rfl) (by kernel_rfl) (by kernel_rfl) (by kernel_rfl) _) ?_
                  have HF := (show Hid (T27 w _ t1' t2 A1 B g1 g2 v1' v2 hv l b23 Y3.heap.size [b1, b2, b3, b4, b5] [X, X, LA, LA, LB] 0) from HD3.out.1.fin H9.out (Nat.le_refl _) HMs.out)
                  have hS2 : By (Y3.alloc (.cells #[.string (ofN X), .string (ofN X), .string (ofN LA), .string (ofN LA), .string (ofN LB)] 9)) d0 X := HD3.out.1.dd.below ((Below.refl _ Y3).alloc (Nat.le_refl _) _)
                  refine hK1.out _ _ hS2 (fun _ => ?_)
                  clear hK1 HD3
                  simp only [Act.put, List.setIfInBounds_toArray, List.set_cons_zero, List.set_cons_succ]
                  generalize Y3.alloc (.cells #[.string (ofN X), .string (ofN X), .string (ofN LA), .string (ofN LA), .string (ofN LB)] 9) = Y4 at *
                  generalize Y3.heap.size = b24 at *
                  refine takeR (i := 14) (v := .slice (some ⟨b24, 0, none⟩) 5 5) (some 24) rfl rfl (by kernel_rfl) (by kernel_rfl) (by kernel_rfl) (fun _ _ _ h => h) (Or.inl ⟨by kernel_rfl, fun w' hSw => by kernel_rfl⟩) hS2 ?_
                  simp only [Act.put, List.setIfInBounds_toArray, List.set_cons_zero, List.set_cons_succ]
                  refine wpAnyH_done (by kernel_rfl) ?_ _
                  first | go_meet | (go_wp2; go_meet)
                  exact ⟨b24, Y4, rfl, rfl, HF.out⟩
                · skip
                  rw [if_pos (by kernel_rfl)]
                  refine valR (d := some 137) rfl (.string (ofN LB)) (conv_run (.tmp 136) rfl (by kernel_rfl) HD3.out.2.2.2) ?_
                  refine hK1.out _ _ hS (fun _ => ?_)
                  clear hK1
                  simp only [Act.put, List.setIfInBounds_toArray, List.set_cons_zero, List.set_cons_succ]
                  refine wpAnyH_ready (rs := [6]) (by kernel_rfl) (by simp) ?_
                  refine AllReadyH.cons rfl (fun K1 hK1 => ?_) AllReadyH.nil
                  rw [if_pos (by kernel_rfl)]
                  refine valR (d := some 131) rfl (.string (ofN LA)) (conv_run (.tmp 130) rfl (by kernel_rfl) HD3.out.2.1) ?_
                  refine hK1.out _ _ hS (fun _ => ?_)
                  clear hK1
                  simp only [Act.put, List.setIfInBounds_toArray, List.set_cons_zero, List.set_cons_succ]
                  refine wpAnyH_ready (rs := [13]) (by kernel_rfl) (by simp) ?_
                  refine AllReadyH.cons rfl (fun K1 hK1 => ?_) AllReadyH.nil
                  rw [if_pos (by kernel_rfl)]
                  refine valR (d := some 138) (w' := Y3.alloc (.cells #[.string (ofN X), .string (ofN X), .string (ofN LA), .string (ofN LA), .string (ofN LB)] 9)) rfl (.slice (some ⟨Y3.heap.size, 0, none⟩) 5 5) (build63_run (.tmp 126) (.tmp 128) (.tmp 131) (.tmp 134) (.tmp 137) rfl (by kernel_rfl) (by kernel_rfl) (by kernel_rfl) (by kernel_rfl) (by kernel_rfl) _) ?_
                  have HF := (show Hid (T27 w _ t1' t2 A1 B g1 g2 v1' v2 hv l b23 Y3.heap.size [b1, b2, b3, b4, b5] [X, X, LA, LA, LB] 0) from HD3.out.1.fin H9.out (Nat.le_refl _) HMs.out)
                  have hS2 : By (Y3.alloc (.cells #[.string (ofN X), .string (ofN X), .string (ofN LA), .string (ofN LA), .string (ofN LB)] 9)) d0 X := HD3.out.1.dd.below ((Below.refl _ Y3).alloc (Nat.le_refl _) _)
                  refine hK1.out _ _ hS2 (fun _ => ?_)
                  clear hK1 HD3
                  simp only [Act.put, List.setIfInBounds_toArray, List.set_cons_zero, List.set_cons_succ]
                  generalize Y3.alloc (.cells #[.string (ofN X), .string (ofN X), .string (ofN LA), .string (ofN LA), .string (ofN LB)] 9) = Y4 at *
                  generalize Y3.heap.size = b24 at *
                  refine takeR (i := 14) (v := .slice (some ⟨b24, 0, none⟩) 5 5) (some 24) rfl rfl (by kernel_rfl) (by kernel_rfl) (by kernel_rfl) (fun _ _ _ h => h) (Or.inl ⟨by kernel_rfl, fun w' hSw => by kernel_rfl⟩) hS2 ?_
                  simp only [Act.put, List.setIfInBounds_toArray, List.set_cons_zero, List.set_cons_succ]
                  refine wpAnyH_done (by kernel_rfl) ?_ _
                  first | go_meet | (go_wp2; go_meet)
                  exact ⟨b24, Y4, rfl, rfl, HF.out⟩
            · skip
              rw [if_pos (by kernel_rfl)]
              have hrb := refBytes_any HD2.out.1.pc.pw.pl.r2 (by have := HTR.out.1; have := HTR.out.2.1; omega)
              rw [← hLB] at hrb
              refine callR (d := some 136) rfl 24 #[.pointer (some ⟨g2, 0, none⟩)] (by kernel_rfl) hrb ?_
              clear hrb
              rintro e Y3 ⟨s3, rfl, hx⟩
              refine ⟨_, rfl, ?_⟩
              have HD3 : Hid (T26 w Y3 t1' t2 A1 B g1 g2 v1' v2 hv l cb c b23 W9.heap.size WA.heap.size WC.heap.size WD.heap.size WE.heap.size WF.heap.size b1 b2 b3 b4 b5 X LA LB d0 ∧ By Y3 s1 LA ∧ By Y3 s2 LA ∧ By Y3 s3 LB) := ⟨HD2.out.1.below hx.out.bel, HD2.out.2.1.below hx.out.bel, HD2.out.2.2.below hx.out.bel, hx.out.by'⟩
              have hS3 := HD3.out.1.dd
              clear hx HD2 hS
              refine hK1.out _ _ hS3 (fun _ => ?_)
              clear hK1
              have hS := hS3
              clear hS3
              simp only [Act.put, List.setIfInBounds_toArray, List.set_cons_zero, List.set_cons_succ]
              refine wpAnyH_ready (rs := [6, 9, 12]) (by kernel_rfl) (by simp) ?_
              refine AllReadyH.cons rfl (fun K1 hK1 => ?_) (AllReadyH.cons rfl (fun K1 hK1 => ?_) (AllReadyH.cons rfl (fun K1 hK1 => ?_) AllReadyH.nil))
              · skip
                rw [if_pos (by kernel_rfl)]
                refine valR (d := some 131) rfl (.string (ofN LA)) (conv_run (.tmp 130) rfl (by kernel_rfl) HD3.out.2.1) ?_
                refine hK1.out _ _ hS (fun _ => ?_)
                clear hK1
                simp only [Act.put, List.setIfInBounds_toArray, List.set_cons_zero, List.set_cons_succ]
                refine wpAnyH_ready (rs := [9, 12]) (by kernel_rfl) (by simp) ?_
                refine AllReadyH.cons rfl (fun K1 hK1 => ?_) (AllReadyH.cons rfl (fun K1 hK1 => ?_) AllReadyH.nil)
                · skip
                  rw [if_pos (by kernel_rfl)]
                  refine valR (d := some 134) rfl (.string (ofN LA)) (conv_run (.tmp 133) rfl (by kernel_rfl) HD3.out.2.2.1) ?_
                  refine hK1.out _ _ hS (fun _ => ?_)
                  clear hK1
                  simp only [Act.put, List.setIfInBounds_toArray, List.set_cons_zero, List.set_cons_succ]
                  refine wpAnyH_ready (rs := [12]) (by kernel_rfl) (by simp) ?_
                  refine AllReadyH.cons rfl (fun K1 hK1 => ?_) AllReadyH.nil
                  rw [if_pos (by kernel_rfl)]
                  refine valR (d := some 137) rfl (.string (ofN LB)) (conv_run (.tmp 136) rfl (by kernel_rfl) HD3.out.2.2.2) ?_
                  refine hK1.out _ _ hS (fun _ => ?_)
                  clear hK1
                  simp only [Act.put, List.setIfInBounds_toArray, List.set_cons_zero, List.set_cons_succ]
                  refine wpAnyH_ready (rs := [13]) (by kernel_rfl) (by simp) ?_
                  refine AllReadyH.cons rfl (fun K1 hK1 => ?_) AllReadyH.nil
                  rw [if_pos (by kernel_rfl)]
                  refine valR (d := some 138) (w' := Y3.alloc (.cells #[.string (ofN X), .string (ofN X), .string (ofN LA), .string (ofN LA), .string (ofN LB)] 9)) rfl (.slice (some ⟨Y3.heap.size, 0, none⟩) 5 5) (build63_run (.tmp 126) (.tmp 128) (.tmp 131) (.tmp 134) (.tmp 137) rfl (by kernel_rfl) (by kernel_rfl) (by kernel_rfl) (by kernel_rfl) (by kernel_rfl) _) ?_
                  have HF := (show Hid (T27 w _ t1' t2 A1 B g1 g2 v1' v2 hv l b23 Y3.heap.size [b1, b2, b3, b4, b5] [X, X, LA, LA, LB] 0) from HD3.out.1.fin H9.out (Nat.le_refl _) HMs.out)
                  have hS2 : By (Y3.alloc (.cells #[.string (ofN X), .string (ofN X), .string (ofN LA), .string (ofN LA), .string (ofN LB)] 9)) d0 X := HD3.out.1.dd.below ((Below.refl _ Y3).alloc (Nat.le_refl _) _)
                  refine hK1.out _ _ hS2 (fun _ => ?_)
                  clear hK1 HD3
                  simp only [Act.put, List.setIfInBounds_toArray, List.set_cons_zero, List.set_cons_succ]
                  generalize Y3.alloc (.cells #[.string (ofN X), .string (ofN X), .string (ofN LA), .string (ofN LA), .string (ofN LB)] 9) = Y4 at *
                  generalize Y3.heap.size = b24 at *
                  refine takeR (i := 14) (v := .slice (some ⟨b24, 0, none⟩) 5 5) (some 24) rfl rfl (by kernel_rfl) (by kernel_rfl) (by kernel_rfl) (fun _ _ _ h => h) (Or.inl ⟨by kernel_rfl, fun w' hSw => by kernel_rfl⟩) hS2 ?_
                  simp only [Act.put, List.setIfInBounds_toArray, List.set_cons_zero, List.set_cons_succ]
                  refine wpAnyH_done (by kernel_rfl) ?_ _
                  first | go_meet | (go_wp2; go_meet)
                  exact ⟨b24, Y4, rfl, rfl, HF.out⟩
                · skip
                  rw [if_pos (by kernel_rfl)]
                  refine valR (d := some 137) rfl (.string (ofN LB)) (conv_run (.tmp 136) rfl (by kernel_rfl) HD3.out.2.2.2) ?_
                  refine hK1.out _ _ hS (fun _ => ?_)
                  clear hK1
                  simp only [Act.put, List.setIfInBounds_toArray, List.set_cons_zero, List.set_cons_succ]
                  refine wpAnyH_ready (rs := [9]) (by kernel_rfl) (by simp) ?_
                  refine AllReadyH.cons rfl (fun K1 hK1 => ?_) AllReadyH.nil
                  rw [if_pos (by kernel_rfl)]
                  refine valR (d := some 134) rfl (.string (ofN LA)) (conv_run (.tmp 133) rfl (by kernel_rfl) HD3.out.2.2.1) ?_
                  refine hK1.out _ _ hS (fun _ => ?_)
                  clear hK1
                  simp only [Act.put, List.setIfInBounds_toArray, List.set_cons_zero, List.set_cons_succ]
                  refine wpAnyH_ready (rs := [13]) (by kernel_rfl) (by simp) ?_
                  refine AllReadyH.cons rfl (fun K1 hK1 => ?_) AllReadyH.nil
                  rw [if_pos (by kernel_rfl)]
                  refine valR (d := some 138) (w' := Y3.alloc (.cells #[.string (ofN X), .string (ofN X), .string (ofN LA), .string (ofN LA), .string (ofN LB)] 9)) rfl (.slice (some ⟨Y3.heap.size, 0, none⟩) 5 5) (build63_run (.tmp 126) (.tmp 128) (.tmp 131) (.tmp 134) (.tmp 137) rfl (by kernel_rfl) (by kernel_rfl) (by kernel_rfl) (by kernel_rfl) (by kernel_rfl) _) ?_
                  have HF := (show Hid (T27 w _ t1' t2 A1 B g1 g2 v1' v2 hv l b23 Y3.heap.size [b1, b2, b3, b4, b5] [X, X, LA, LA, LB] 0) from HD3.out.1.fin H9.out (Nat.le_refl _) HMs.out)
                  have hS2 : By (Y3.alloc (.cells #[.string (ofN X), .string (ofN X), .string (ofN LA), .string (ofN LA), .string (ofN LB)] 9)) d0 X := HD3.out.1.dd.below ((Below.refl _ Y3).alloc (Nat.le_refl _) _)
                  refine hK1.out _ _ hS2 (fun _ => ?_)
                  clear hK1 HD3
                  simp only [Act.put, List.setIfInBounds_toArray, List.set_cons_zero, List.set_cons_succ]
                  generalize Y3.alloc (.cells #[.string (ofN X), .string (ofN X), .string (ofN LA), .string (ofN LA), .string (ofN LB)] 9) = Y4 at *
                  generalize Y3.heap.size = b24 at *
                  refine takeR (i := 14) (v := .slice (some ⟨b24, 0, none⟩) 5 5) (some 24) rfl rfl (by kernel_rfl) (by kernel_rfl) (by kernel_rfl) (fun _ _ _ h => h) (Or.inl ⟨by kernel_rfl, fun w' hSw => by kernel_rfl⟩) hS2 ?_
                  simp only [Act.put, List.setIfInBounds_toArray, List.set_cons_zero, List.set_cons_succ]
                  refine wpAnyH_done (by kernel_rfl) ?_ _
                  first | go_meet | (go_wp2; go_meet)
                  exact ⟨b24, Y4, rfl, rfl, HF.out⟩
              · skip
                rw [if_pos (by kernel_rfl)]
                refine valR (d := some 134) rfl (.string (ofN LA)) (conv_run (.tmp 133) rfl (by kernel_rfl) HD3.out.2.2.1) ?_
                refine hK1.out _ _ hS (fun _ => ?_)
                clear hK1
                simp only [Act.put, List.setIfInBounds_toArray, List.set_cons_zero, List.set_cons_succ]
                refine wpAnyH_ready (rs := [6, 12]) (by kernel_rfl) (by simp) ?_
                refine AllReadyH.cons rfl (fun K1 hK1 => ?_) (AllReadyH.cons rfl (fun K1 hK1 => ?_) AllReadyH.nil)
                · skip
                  rw [if_pos (by kernel_rfl)]
                  refine valR (d := some 131) rfl (.string (ofN LA)) (conv_run (.tmp 130) rfl (by kernel_rfl) HD3.out.2.1) ?_
                  refine hK1.out _ _ hS (fun _ => ?_)
                  clear hK1
                  simp only [Act.put, List.setIfInBounds_toArray, List.set_cons_zero, List.set_cons_succ]
                  refine wpAnyH_ready (rs := [12]) (by kernel_rfl) (by simp) ?_
                  refine AllReadyH.cons rfl (fun K1 hK1 => ?_) AllReadyH.nil
                  rw [if_pos (by kernel_rfl)]
                  refine valR (d := some 137) rfl (.string (ofN LB)) (conv_run (.tmp 136) rfl (by kernel_rfl) HD3.out.2.2.2) ?_
                  refine hK1.out _ _ hS (fun _ => ?_)
                  clear hK1
                  simp only [Act.put, List.setIfInBounds_toArray, List.set_cons_zero, List.set_cons_succ]
                  refine wpAnyH_ready (rs := [13]) (by kernel_rfl) (by simp) ?_
                  refine AllReadyH.cons rfl (fun K1 hK1 => ?_) AllReadyH.nil
                  rw [if_pos (by kernel_rfl)]
                  refine valR (d := some 138) (w' := Y3.alloc (.cells #[.string (ofN X), .string (ofN X), .string (ofN LA), .string (ofN LA), .string (ofN LB)] 9)) rfl (.slice (some ⟨Y3.heap.size, 0, none⟩) 5 5) (build63_run (.tmp 126) (.tmp 128) (.tmp 131) (.tmp 134) (.tmp 137) rfl (by kernel_rfl) (by kernel_rfl) (by kernel_rfl) (by kernel_rfl) (by kernel_rfl) _) ?_
                  have HF := (show Hid (T27 w _ t1' t2 A1 B g1 g2 v1' v2 hv l b23 Y3.heap.size [b1, b2, b3, b4, b5] [X, X, LA, LA, LB] 0) from HD3.out.1.fin H9.out (Nat.le_refl _) HMs.out)
                  have hS2 : By (Y3.alloc (.cells #[.string (ofN X), .string (ofN X), .string (ofN LA), .string (ofN LA), .string (ofN LB)] 9)) d0 X := HD3.out.1.dd.below ((Below.refl _ Y3).alloc (Nat.le_refl _) _)
                  refine hK1.out _ _ hS2 (fun _ => ?_)
                  clear hK1 HD3
                  simp only [Act.put, List.setIfInBounds_toArray, List.set_cons_zero, List.set_cons_succ]
                  generalize Y3.alloc (.cells #[.string (ofN X), .string (ofN X), .string (ofN LA), .string (ofN LA), .string (ofN LB)] 9) = Y4 at *
                  generalize Y3.heap.size = b24 at *
                  refine takeR (i := 14) (v := .slice (some ⟨b24, 0, none⟩) 5 5) (some 24) rfl rfl (by kernel_rfl) (by kernel_rfl) (by kernel_rfl) (fun _ _ _ h => h) (Or.inl ⟨by kernel_rfl, fun w' hSw => by kernel_rfl⟩) hS2 ?_
                  simp only [Act.put, List.setIfInBounds_toArray, List.set_cons_zero, List.set_cons_succ]
                  refine wpAnyH_done (by kernel_rfl) ?_ _
                  first | go_meet | (go_wp2; go_meet)
                  exact ⟨b24, Y4, rfl, rfl, HF.out⟩
                · skip
                  rw [if_pos (by kernel_rfl)]
                  refine valR (d := some 137) rfl (.string (ofN LB)) (conv_run (.tmp 136) rfl (by kernel_rfl) HD3.out.2.2.2) ?_
                  refine hK1.out _ _ hS (fun _ => ?_)
                  clear hK1
                  simp only [Act.put, List.setIfInBounds_toArray, List.set_cons_zero, List.set_cons_succ]
                  refine wpAnyH_ready (rs := [6]) (by kernel_rfl) (by simp) ?_
                  refine AllReadyH.cons rfl (fun K1 hK1 => ?_) AllReadyH.nil
                  rw [if_pos (by kernel_rfl)]
                  refine valR (d := some 131) rfl (.string (ofN LA)) (conv_run (.tmp 130) rfl (by kernel_rfl) HD3.out.2.1) ?_
                  refine hK1.out _ _ hS (fun _ => ?_)
                  clear hK1
                  simp only [Act.put, List.setIfInBounds_toArray, List.set_cons_zero, List.set_cons_succ]
                  refine wpAnyH_ready (rs := [13]) (by kernel_rfl) (by simp) ?_
                  refine AllReadyH.cons rfl (fun K1 hK1 => ?_) AllReadyH.nil
                  rw [if_pos (by kernel_rfl)]
                  refine valR (d := some 138) (w' := Y3.alloc (.cells #[.string (ofN X), .string (ofN X), .string (ofN LA), .string (ofN LA), .string (ofN LB)] 9)) rfl (.slice (some ⟨Y3.heap.size, 0, none⟩) 5 5) (build63_run (.tmp 126) (.tmp 128) (.tmp 131) (.tmp 134) (.tmp 137) rfl (by kernel_rfl) (by kernel_rfl) (by kernel_rfl) (by kernel_rfl) (by kernel_rfl) _) ?_
                  have HF := (show Hid (T27 w _ t1' t2 A1 B g1 g2 v1' v2 hv l b23 Y3.heap.size [b1, b2, b3, b4, b5] [X, X, LA, LA, LB] 0) from HD3.out.1.fin H9.out (Nat.le_refl _) HMs.out)
                  have hS2 : By (Y3.alloc (.cells #[.string (ofN X), .string (ofN X), .string (ofN LA), .string (ofN LA), .string (ofN LB)] 9)) d0 X := HD3.out.1.dd.below ((Below.refl _ Y3).alloc (Nat.le_refl _) _)
                  refine hK1.out _ _ hS2 (fun _ => ?_)
                  clear hK1 HD3
                  simp only [Act.put, List.setIfInBounds_toArray, List.set_cons_zero, List.set_cons_succ]
                  generalize Y3.alloc (.cells #[.string (ofN X), .string (ofN X), .string (ofN LA), .string (ofN LA), .string (ofN LB)] 9) = Y4 at *
                  generalize Y3.heap.size = b24 at *
                  refine takeR (i := 14) (v := .slice (some ⟨b24, 0, none⟩) 5 5) (some 24) rfl rfl (by kernel_rfl) (by kernel_rfl) (by kernel_rfl) (fun _ _ _ h => h) (Or.inl ⟨by kernel_rfl, fun w' hSw => by kernel_rfl⟩) hS2 ?_
                  simp only [Act.put, List.setIfInBounds_toArray, List.set_cons_zero, List.set_cons_succ]
                  refine wpAnyH_done (by kernel_rfl) ?_ _
                  first | go_meet | (go_wp2; go_meet)
                  exact ⟨b24, Y4, rfl, rfl, HF.out⟩
              · skip
                rw [if_pos (by kernel_rfl)]
                refine valR (d := some 137) rfl (.string (ofN LB)) (conv_run (.tmp 136) rfl (by kernel_rfl) HD3.out.2.2.2) ?_
                refine hK1.out _ _ hS (fun _ => ?_)
                clear hK1
                simp only [Act.put, List.setIfInBounds_toArray, List.set_cons_zero, List.set_cons_succ]
                refine wpAnyH_ready (rs := [6, 9]) (by kernel_rfl) (by simp) ?_
                refine AllReadyH.cons rfl (fun K1 hK1 => ?_) (AllReadyH.cons rfl (fun K1 hK1 => ?_) AllReadyH.nil)
                · skip
                  rw [if_pos (by kernel_rfl)]
                  refine valR (d := some 131) rfl (.string (ofN LA)) (conv_run (.tmp 130) rfl (by kernel_rfl) HD3.out.2.1) ?_
                  refine hK1.out _ _ hS (fun _ => ?_)
                  clear hK1
                  simp only [Act.put, List.setIfInBounds_toArray, List.set_cons_zero, List.set_cons_succ]
                  refine wpAnyH_ready (rs := [9]) (by kernel_rfl) (by simp) ?_
                  refine AllReadyH.cons rfl (fun K1 hK1 => ?_) AllReadyH.nil
                  rw [if_pos (by kernel_rfl)]
                  refine valR (d := some 134) rfl (.string (ofN LA)) (conv_run (.tmp 133) rfl (by kernel_rfl) HD3.out.2.2.1) ?_
                  refine hK1.out _ _ hS (fun _ => ?_)
                  clear hK1
                  simp only [Act.put, List.setIfInBounds_toArray, List.set_cons_zero, List.set_cons_succ]
                  refine wpAnyH_ready (rs := [13]) (by kernel_rfl) (by simp) ?_
                  refine AllReadyH.cons rfl (fun K1 hK1 => ?_) AllReadyH.nil
                  rw [if_pos (by kernel_rfl)]
                  refine valR (d := some 138) (w' := Y3.alloc (.cells #[.string (ofN X), .string (ofN X), .string (ofN LA), .string (ofN LA), .string (ofN LB)] 9)) rfl (.slice (some ⟨Y3.heap.size, 0, none⟩) 5 5) (build63_run (.tmp 126) (.tmp 128) (.tmp 131) (.tmp 134) (.tmp 137) rfl (by kernel_rfl) (by kernel_rfl) (by kernel_rfl) (by kernel_rfl) (by kernel_rfl) _) ?_
                  have HF := (show Hid (T27 w _ t1' t2 A1 B g1 g2 v1' v2 hv l b23 Y3.heap.size [b1, b2, b3, b4, b5] [X, X, LA, LA, LB] 0) from HD3.out.1.fin H9.out (Nat.le_refl _) HMs.out)
                  have hS2 : By (Y3.alloc (.cells #[.string (ofN X), .string (ofN X), .string (ofN LA), .string (ofN LA), .string (ofN LB)] 9)) d0 X := HD3.out.1.dd.below ((Below.refl _ Y3).alloc (Nat.le_refl _) _)
                  refine hK1.out _ _ hS2 (fun _ => ?_)
                  clear hK1 HD3
                  simp only [Act.put, List.setIfInBounds_toArray, List.set_cons_zero, List.set_cons_succ]
                  generalize Y3.alloc (.cells #[.string (ofN X), .string (ofN X), .string (ofN LA), .string (ofN LA), .string (ofN LB)] 9) = Y4 at *
                  generalize Y3.heap.size = b24 at *
                  refine takeR (i := 14) (v := .slice (some ⟨b24, 0, none⟩) 5 5) (some 24) rfl rfl (by kernel_rfl) (by kernel_rfl) (by kernel_rfl) (fun _ _ _ h => h) (Or.inl ⟨by kernel_rfl, fun w' hSw => by kernel_rfl⟩) hS2 ?_
                  simp only [Act.put, List.setIfInBounds_toArray, List.set_cons_zero, List.set_cons_succ]
                  refine wpAnyH_done (by kernel_rfl) ?_ _
                  first | go_meet | (go_wp2; go_meet)
                  exact ⟨b24, Y4, rfl, rfl, HF.out⟩
                · skip
                  rw [if_pos (by kernel_rfl)]
                  refine valR (d := some 134) rfl (.string (ofN LA)) (conv_run (.tmp 133) rfl (by kernel_rfl) HD3.out.2.2.1) ?_
                  refine hK1.out _ _ hS (fun _ => ?_)
                  clear hK1
                  simp only [Act.put, List.setIfInBounds_toArray, List.set_cons_zero, List.set_cons_succ]
                  refine wpAnyH_ready (rs := [6]) (by kernel_rfl) (by simp) ?_
                  refine AllReadyH.cons rfl (fun K1 hK1 => ?_) AllReadyH.nil
                  rw [if_pos (by kernel_rfl)]
                  refine valR (d := some 131) rfl (.string (ofN LA)) (conv_run (.tmp 130) rfl (by kernel_rfl) HD3.out.2.1) ?_
                  refine hK1.out _ _ hS (fun _ => ?_)
                  clear hK1
                  simp only [Act.put, List.setIfInBounds_toArray, List.set_cons_zero, List.set_cons_succ]
                  refine wpAnyH_ready (rs := [13]) (by kernel_rfl) (by simp) ?_
                  refine AllReadyH.cons rfl (fun K1 hK1 => ?_) AllReadyH.nil
                  rw [if_pos (by kernel_rfl)]
                  refine valR (d := some 138) (w' := Y3.alloc (.cells #[.string (ofN X), .string (ofN X), .string (ofN LA), .string (ofN LA), .string (ofN LB)] 9)) rfl (.slice (some ⟨Y3.heap.size, 0, none⟩) 5 5) (build63_run (.tmp 126) (.tmp 128) (.tmp 131) (.tmp 134) (.tmp 137) rfl (by kernel_rfl) (by kernel_rfl) (by kernel_rfl) (by kernel_rfl) (by kernel_rfl) _) ?_
                  have HF := (show Hid (T27 w _ t1' t2 A1 B g1 g2 v1' v2 hv l b23 Y3.heap.size [b1, b2, b3, b4, b5] [X, X, LA, LA, LB] 0) from HD3.out.1.fin H9.out (Nat.le_refl _) HMs.out)
                  have hS2 : By (Y3.alloc (.cells #[.string (ofN X), .string (ofN X), .string (ofN LA), .string (ofN LA), .string (ofN LB)] 9)) d0 X := HD3.out.1.dd.below ((Below.refl _ Y3).alloc (Nat.le_refl _) _)
                  refine hK1.out _ _ hS2 (fun _ => ?_)
                  clear hK1 HD3
                  simp only [Act.put, List.setIfInBounds_toArray, List.set_cons_zero, List.set_cons_succ]
                  generalize Y3.alloc (.cells #[.string (ofN X), .string (ofN X), .string (ofN LA), .string (ofN LA), .string (ofN LB)] 9) = Y4 at *
                  generalize Y3.heap.size = b24 at *
                  refine takeR (i := 14) (v := .slice (some ⟨b24, 0, none⟩) 5 5) (some 24) rfl rfl (by kernel_rfl) (by kernel_rfl) (by kernel_rfl) (fun _ _ _ h => h) (Or.inl ⟨by kernel_rfl, fun w' hSw => by kernel_rfl⟩) hS2 ?_
                  simp only [Act.put, List.setIfInBounds_toArray, List.set_cons_zero, List.set_cons_succ]
                  refine wpAnyH_done (by kernel_rfl) ?_ _
                  first | go_meet | (go_wp2; go_meet)
                  exact ⟨b24, Y4, rfl, rfl, HF.out⟩
        case rest => as_aux_lemma =>
          obtain ⟨b24, WH, hwx, rfl, HH⟩ := hcut
          subst hwx
          clear HTG H9 HMs
          obtain ⟨vs, xs, hL5, HV⟩ : ∃ (vs : List Value) (xs : List (List Nat)), (vs.length = 5 ∧ xs.length = 5) ∧ Hid (T27 w WH t1' t2 A1 B g1 g2 v1' v2 hv l b23 b24 vs xs 0) := ⟨_, _, ⟨rfl, rfl⟩, HH⟩
          have HL5 : Hid (vs.length = 5 ∧ xs.length = 5) := hL5
          clear HH hL5 hee hX hLA hLB hCS
          go_upto_region 28 with fail
          go_loopw [10, 25] (fun x y wr => ∃ (k : Nat) (hv' : Value) (l' : List Ent), hv' = x ∧ y = .int .i64 (k : Int) ∧ k ≤ 5 ∧ Hid (T27 w wr t1' t2 A1 B g1 g2 v1' v2 hv' l' b23 b24 vs xs k ∧ l'.length ≤ l.length + 72 * k)) (fun _ y _ => 5 - (intOf y).toNat)
          case atStart => exact ⟨0, hv, l, rfl, rfl, Nat.zero_le _, HV.out, Nat.le_refl _⟩
          case round =>
            clear HV
            obtain ⟨k, hw, l', ehw, rfl, hk5, HP⟩ := hrel
            subst ehw
            by_cases hk : k < 5
            · skip
              have hk' : (k : Int) < 5 := by omega
              go_upto_region 31 with fail
              go_loopw [26] (fun x wq => ∃ j : Nat, k ≤ j ∧ j ≤ 5 ∧ x = .int .i64 (j : Int) ∧ Hid (T27 w wq t1' t2 A1 B g1 g2 v1' v2 hw l' b23 b24 vs xs k)) (fun x _ => 5 - (intOf x).toNat)
              case atStart => exact ⟨k, Nat.le_refl _, hk5, rfl, HP.out.1⟩
              case round => as_aux_lemma =>
                obtain ⟨j, hkj, hj5, rfl, HJ⟩ := hrel
                by_cases hj : j < 5
                · have hj' : (j : Int) < 5 := by omega
                  obtain ⟨vj, hvj⟩ : ∃ v, vs[j]? = some v := ⟨_, List.getElem?_eq_getElem (by rw [HL5.out.1]; exact hj)⟩
                  obtain ⟨xj, hxj⟩ : ∃ v, xs[j]? = some v := ⟨_, List.getElem?_eq_getElem (by rw [HL5.out.2]; exact hj)⟩
                  have HVX : Hid (vs[j]? = some vj ∧ xs[j]? = some xj) := ⟨hvj, hxj⟩
                  clear hvj hxj
                  go_upto_region 33 with fail
                  have hbd : Below wr.heap.size wr wr.drew := ⟨rfl, rfl, rfl, Nat.le_refl _, fun _ _ => rfl⟩
                  have HD : Hid (T27 w wr.drew t1' t2 A1 B g1 g2 v1' v2 hw l' b23 b24 vs xs k) := HJ.out.below hbd
                  clear hbd HJ
                  refine wp_region_held (S := fun w' => w'.cell? ⟨b23, j, none⟩ = some vj ∧ w'.cell? ⟨b24, j, none⟩ = some (.string (ofN xj)) ∧ By w' vj xj) (by kernel_rfl) ?_
                  change wpAnyH _ _ _ _ _ _ _ _ (World.drew _)
                  generalize wr.drew = WD at *
                  have hS : WD.cell? ⟨b23, j, none⟩ = some vj ∧ WD.cell? ⟨b24, j, none⟩ = some (.string (ofN xj)) ∧ By WD vj xj := ⟨HD.out.c23 HVX.out.1, HD.out.c24 HVX.out.2, HD.out.by' hkj HVX.out.1 HVX.out.2⟩
                  refine takeR (i := 0) (v := .slice (some ⟨b23, 0, none⟩) 5 5) (some 152) rfl rfl (by kernel_rfl) (by kernel_rfl) (by kernel_rfl) (fun _ _ _ h => h) (Or.inl ⟨by kernel_rfl, fun w' hSw => by kernel_rfl⟩) hS ?_
                  simp only [Act.put, List.setIfInBounds_toArray, List.set_cons_zero, List.set_cons_succ]
                  refine takeR (i := 1) (v := .int .i64 (j : Int)) (some 153) rfl rfl (by kernel_rfl) (by kernel_rfl) (by kernel_rfl) (fun _ _ _ h => h) (Or.inl ⟨by kernel_rfl, fun w' hSw => by kernel_rfl⟩) hS ?_
                  simp only [Act.put, List.setIfInBounds_toArray, List.set_cons_zero, List.set_cons_succ]
                  refine takeR (i := 2) (v := .pointer (some ⟨b23, j, none⟩)) (some 154) rfl rfl (by kernel_rfl) (by kernel_rfl) (by kernel_rfl) (fun _ _ _ h => h) (Or.inl ⟨by kernel_rfl, fun w' hSw => by exact ix5_run (i := j) (.inl rfl) (.tmp 152) (.tmp 153) rfl (by kernel_rfl) (by kernel_rfl) hj _⟩) hS ?_
                  simp only [Act.put, List.setIfInBounds_toArray, List.set_cons_zero, List.set_cons_succ]
                  refine takeR (i := 3) (v := vj) (some 155) rfl rfl (by kernel_rfl) (by kernel_rfl) (by kernel_rfl) (fun _ _ _ h => h) (Or.inl ⟨by kernel_rfl, fun w' hSw => by exact ldV_run (.tmp 154) rfl (by kernel_rfl) hSw.1⟩) hS ?_
                  simp only [Act.put, List.setIfInBounds_toArray, List.set_cons_zero, List.set_cons_succ]
                  refine takeR (i := 4) (v := .string (ofN xj)) (some 156) rfl rfl (by kernel_rfl) (by kernel_rfl) (by kernel_rfl) (fun _ _ _ h => h) (Or.inl ⟨by kernel_rfl, fun w' hSw => by exact conv_run (.tmp 155) rfl (by kernel_rfl) hSw.2.2⟩) hS ?_
                  simp only [Act.put, List.setIfInBounds_toArray, List.set_cons_zero, List.set_cons_succ]
                  refine takeR (i := 5) (v := .slice (some ⟨b24, 0, none⟩) 5 5) (some 157) rfl rfl (by kernel_rfl) (by kernel_rfl) (by kernel_rfl) (fun _ _ _ h => h) (Or.inl ⟨by kernel_rfl, fun w' hSw => by kernel_rfl⟩) hS ?_
                  simp only [Act.put, List.setIfInBounds_toArray, List.set_cons_zero, List.set_cons_succ]
                  refine takeR (i := 6) (v := .int .i64 (j : Int)) (some 158) rfl rfl (by kernel_rfl) (by kernel_rfl) (by kernel_rfl) (fun _ _ _ h => h) (Or.inl ⟨by kernel_rfl, fun w' hSw => by kernel_rfl⟩) hS ?_
                  simp only [Act.put, List.setIfInBounds_toArray, List.set_cons_zero, List.set_cons_succ]
                  refine takeR (i := 7) (v := .pointer (some ⟨b24, j, none⟩)) (some 159) rfl rfl (by kernel_rfl) (by kernel_rfl) (by kernel_rfl) (fun _ _ _ h => h) (Or.inl ⟨by kernel_rfl, fun w' hSw => by exact ix5_run (i := j) (.inr rfl) (.tmp 157) (.tmp 158) rfl (by kernel_rfl) (by kernel_rfl) hj _⟩) hS ?_
                  simp only [Act.put, List.setIfInBounds_toArray, List.set_cons_zero, List.set_cons_succ]
                  refine takeR (i := 8) (v := .string (ofN xj)) (some 160) rfl rfl (by kernel_rfl) (by kernel_rfl) (by kernel_rfl) (fun _ _ _ h => h) (Or.inl ⟨by kernel_rfl, fun w' hSw => by exact ldS_run (.tmp 159) rfl (by kernel_rfl) hSw.2.1⟩) hS ?_
                  simp only [Act.put, List.setIfInBounds_toArray, List.set_cons_zero, List.set_cons_succ]
                  refine takeR (i := 9) (v := .bool false) (some 161) rfl rfl (by kernel_rfl) (by kernel_rfl) (by kernel_rfl) (fun _ _ _ h => h) (Or.inl ⟨by kernel_rfl, fun w' hSw => by exact neS_run (s := ofN xj) (t := ofN xj) (.tmp 156) (.tmp 160) rfl (by kernel_rfl) (by kernel_rfl) rfl _⟩) hS ?_
                  simp only [Act.put, List.setIfInBounds_toArray, List.set_cons_zero, List.set_cons_succ]
                  refine wpAnyH_done (by kernel_rfl) ?_ _
                  clear hS
                  generalize ofN xj = sx
                  go_wp2
                  exact ⟨⟨j + 1, by omega, by omega, by go_num, HD.out⟩, by simp [intOf]; omega⟩
                · have hj' : ¬ (j : Int) < 5 := by omega
                  obtain ⟨vk, hvk⟩ : ∃ v, vs[k]? = some v := ⟨_, List.getElem?_eq_getElem (by rw [HL5.out.1]; exact hk)⟩
                  obtain ⟨xk, hxk⟩ : ∃ v, xs[k]? = some v := ⟨_, List.getElem?_eq_getElem (by rw [HL5.out.2]; exact hk)⟩
                  have hke := HJ.out.pw.keep HJ.out.fb hvk hxk (HJ.out.lo k vk hvk) (by have := HP.out.2; have := HTR.out.2.2.1; omega)
                  have c23 := HJ.out.c23 hvk
                  clear hvk hxk
                  go_upto_region 35 with fail
                  refine wp_region_lit ?_
                  refine wpList_runTo rfl (some 162) rfl (hw) wr (by kernel_rfl) ?_
                  simp only [Act.put, List.setIfInBounds_toArray, List.set_cons_zero, List.set_cons_succ]
                  refine wpList_runTo rfl (some 163) rfl (.slice (some ⟨b23, 0, none⟩) 5 5) wr (by kernel_rfl) ?_
                  simp only [Act.put, List.setIfInBounds_toArray, List.set_cons_zero, List.set_cons_succ]
                  refine wpList_runTo rfl (some 164) rfl (.int .i64 (k : Int)) wr (by kernel_rfl) ?_
                  simp only [Act.put, List.setIfInBounds_toArray, List.set_cons_zero, List.set_cons_succ]
                  refine wpList_runTo rfl (some 165) rfl (.pointer (some ⟨b23, k, none⟩)) wr (by exact ix5_run (i := k) (.inl rfl) (.tmp 163) (.tmp 164) rfl (by kernel_rfl) (by kernel_rfl) hk _) ?_
                  simp only [Act.put, List.setIfInBounds_toArray, List.set_cons_zero, List.set_cons_succ]
                  refine wpList_runTo rfl (some 166) rfl (vk) wr (by exact ldV_run (.tmp 165) rfl (by kernel_rfl) c23) ?_
                  simp only [Act.put, List.setIfInBounds_toArray, List.set_cons_zero, List.set_cons_succ]
                  refine wpList_callW rfl (some 167) rfl 25 #[hw, vk] (by kernel_rfl) hke ?_
                  clear hke c23
                  rintro e WK ⟨vK, rfl, hx⟩
                  refine ⟨_, rfl, ?_⟩
                  simp only [Act.put, List.setIfInBounds_toArray, List.set_cons_zero, List.set_cons_succ]
                  refine wpList_runTo rfl (some 10) rfl (vK) WK (by kernel_rfl) ?_
                  simp only [Act.put, List.setIfInBounds_toArray, List.set_cons_zero, List.set_cons_succ]
                  refine wpList_nil ?_
                  have HN : Hid (∃ l2, T27 w WK t1' t2 A1 B g1 g2 v1' v2 vK l2 b23 b24 vs xs (k + 1) ∧ l2.length ≤ l.length + 72 * (k + 1)) := by
                    obtain ⟨es, hes, hpw, hfb⟩ := hx.out
                    exact ⟨l' ++ es, ⟨hpw, hfb, HJ.out.lo⟩, by rw [List.length_append]; have := HP.out.2; omega⟩
                  clear hx HJ HP
                  go_wp2
                  obtain ⟨l2, HN1, HN2⟩ := HN.out
                  exact ⟨⟨k + 1, _, l2, rfl, by go_num, by omega, HN1, HN2⟩, by simp [intOf]; omega⟩
            · skip
              have hk' : ¬ (k : Int) < 5 := by omega
              have HP' : Hid (PW w wr t1' t2 A1 B g1 g2 v1' v2 A1 B hw l' ∧ l'.length ≤ 360 * (i + 1)) := ⟨HP.out.1.pw, by have := HP.out.2; have := HTR.out.2.2.1; omega⟩
              clear HP
              go_upto_region 36 with fail
              rename_i K hK
              refine wp_region_lit ?_
              refine wpList_runTo rfl (some 168) rfl (.int .i64 at_) wr (by kernel_rfl) ?_
              simp only [Act.put, List.setIfInBounds_toArray, List.set_cons_zero, List.set_cons_succ]
              refine wpList_runTo rfl (some 27) rfl (.int .i64 at_) wr (by kernel_rfl) ?_
              simp only [Act.put, List.setIfInBounds_toArray, List.set_cons_zero, List.set_cons_succ]
              refine wpList_nil ?_
              refine hK _ _ ?_
              clear hK
              go_upto_region 37 with fail
              obtain ⟨bo, hbo⟩ : ∃ b : Bool, (((i % 2 : Nat) : Int) == 0) = b := ⟨_, rfl⟩
              rename_i K hK
              refine wp_region_lit ?_
              refine wpList_runTo rfl (some 169) rfl (.int .i64 (i : Int)) wr (by kernel_rfl) ?_
              simp only [Act.put, List.setIfInBounds_toArray, List.set_cons_zero, List.set_cons_succ]
              refine wpList_runTo rfl (some 170) rfl (.int .i64 ((i % 2 : Nat) : Int)) wr (by exact rem3_run (p := i) (.tmp 169) (.const (.int .i64 2)) rfl (by kernel_rfl) rfl (by omega) _) ?_
              simp only [Act.put, List.setIfInBounds_toArray, List.set_cons_zero, List.set_cons_succ]
              refine wpList_runTo rfl (some 171) rfl (.bool bo) wr (by exact eq1_run (.tmp 170) (.const (.int .i64 0)) rfl (by kernel_rfl) rfl hbo _) ?_
              simp only [Act.put, List.setIfInBounds_toArray, List.set_cons_zero, List.set_cons_succ]
              refine wpList_nil ?_
              refine hK _ _ ?_
              clear hK hbo
              generalize ((i % 2 : Nat) : Int) = im
              go_cut [27] from 46 to 198 (fun x27 wx => ∃ z : Int, x27 = .int .i64 z ∧ wr = wx)
              case first => as_aux_lemma =>
                cases bo
                case false =>
                  go_wp2
                  go_meet
                  exact ⟨at_, rfl, rfl⟩
                case true =>
                  go_wp2
                  go_meet
                  exact ⟨(i : Int), rfl, rfl⟩
              case rest => as_aux_lemma =>
                obtain ⟨z, rfl, hwx⟩ := hcut
                subst hwx
                obtain ⟨dc, de, hd⟩ : ∃ dc de, cmdA A1 z = (dc, de) := ⟨_, _, rfl⟩
                have hcm := HP'.out.1.pl.p1.cmd z
                rw [HTR.out.2.2.2.1, hd] at hcm
                dsimp only at hcm
                go_upto_region 39 with fail
                rename_i K hK
                refine wp_region_lit ?_
                refine wpList_runTo rfl (some 174) rfl (.pointer (some ⟨tg1, 0, none⟩)) wr (by kernel_rfl) ?_
                simp only [Act.put, List.setIfInBounds_toArray, List.set_cons_zero, List.set_cons_succ]
                refine wpList_runTo rfl (some 175) rfl (.int .i64 z) wr (by kernel_rfl) ?_
                simp only [Act.put, List.setIfInBounds_toArray, List.set_cons_zero, List.set_cons_succ]
                refine wpList_callW rfl (some 176) rfl 16 #[.pointer (some ⟨tg1, 0, none⟩), .int .i64 z] (by kernel_rfl) hcm ?_
                clear hcm
                rintro e X1 ⟨rfl, hx⟩
                refine ⟨_, rfl, ?_⟩
                simp only [Act.put, List.setIfInBounds_toArray, List.set_cons_zero, List.set_cons_succ]
                have HX1 : Hid (PW w X1 t1' t2 A1 B g1 g2 v1' v2 A1 B hw l') := HP'.out.1.below hx.out
                clear hx
                refine wpList_runTo rfl (some 173) rfl (.tuple #[.agg dc.cs, .int .i64 de]) X1 (by kernel_rfl) ?_
                simp only [Act.put, List.setIfInBounds_toArray, List.set_cons_zero, List.set_cons_succ]
                refine wpList_runTo rfl (some 177) rfl (.agg dc.cs) X1 (by kernel_rfl) ?_
                simp only [Act.put, List.setIfInBounds_toArray, List.set_cons_zero, List.set_cons_succ]
                refine wpList_runTo rfl (some 178) rfl (.int .i64 de) X1 (by kernel_rfl) ?_
                simp only [Act.put, List.setIfInBounds_toArray, List.set_cons_zero, List.set_cons_succ]
                refine wpList_runTo rfl (some 28) rfl (.pointer (some ⟨X1.heap.size, 0, none⟩)) (X1.alloc (.cells zeroC.cs 27)) (by kernel_rfl) ?_
                simp only [Act.put, List.setIfInBounds_toArray, List.set_cons_zero, List.set_cons_succ]
                refine store_cmd (c := dc) (c' := zeroC) (Blk.new X1 _ _) (.tmp 28) (.tmp 177) rfl rfl (by kernel_rfl) (by kernel_rfl) ?_
                simp only [Act.put, List.setIfInBounds_toArray, List.set_cons_zero, List.set_cons_succ]
                have HX2 : Hid (PW w ((X1.alloc (.cells zeroC.cs 27)).setRow X1.heap.size dc.cs) t1' t2 A1 B g1 g2 v1' v2 A1 B hw l' ∧ Blk ((X1.alloc (.cells zeroC.cs 27)).setRow X1.heap.size dc.cs) X1.heap.size 27 dc.cs) := ⟨HX1.out.below (newC3 X1 dc).1, (newC3 X1 dc).2⟩
                clear HX1
                generalize (X1.alloc (.cells zeroC.cs 27)).setRow X1.heap.size dc.cs = X2 at *
                generalize X1.heap.size = p1 at *
                refine wpList_runTo rfl (some 13) rfl (.int .i64 de) X2 (by kernel_rfl) ?_
                simp only [Act.put, List.setIfInBounds_toArray, List.set_cons_zero, List.set_cons_succ]
                refine wpList_nil ?_
                refine hK _ _ ?_
                clear hK
                have hcm := HX2.out.1.pl.r1.cmd (by have := HTR.out.1; omega) z
                rw [hd] at hcm
                dsimp only at hcm
                clear hd
                go_upto_region 40 with fail
                rename_i K hK
                refine wp_region_lit ?_
                refine wpList_runTo rfl (some 180) rfl (.pointer (some ⟨g1, 0, none⟩)) X2 (by kernel_rfl) ?_
                simp only [Act.put, List.setIfInBounds_toArray, List.set_cons_zero, List.set_cons_succ]
                refine wpList_runTo rfl (some 181) rfl (.int .i64 z) X2 (by kernel_rfl) ?_
                simp only [Act.put, List.setIfInBounds_toArray, List.set_cons_zero, List.set_cons_succ]
                refine wpList_callW rfl (some 182) rfl 26 #[.pointer (some ⟨g1, 0, none⟩), .int .i64 z] (by kernel_rfl) hcm ?_
                clear hcm
                rintro e X3 ⟨rfl, hx⟩
                refine ⟨_, rfl, ?_⟩
                simp only [Act.put, List.setIfInBounds_toArray, List.set_cons_zero, List.set_cons_succ]
                have HX3 : Hid (PW w X3 t1' t2 A1 B g1 g2 v1' v2 A1 B hw l' ∧ Blk X3 p1 27 dc.cs) := ⟨HX2.out.1.below hx.out, HX2.out.2.below hx.out HX2.out.2.lt⟩
                clear hx HX2
                refine wpList_runTo rfl (some 179) rfl (.tuple #[.agg dc.cs, .int .i64 de]) X3 (by kernel_rfl) ?_
                simp only [Act.put, List.setIfInBounds_toArray, List.set_cons_zero, List.set_cons_succ]
                refine wpList_runTo rfl (some 183) rfl (.agg dc.cs) X3 (by kernel_rfl) ?_
                simp only [Act.put, List.setIfInBounds_toArray, List.set_cons_zero, List.set_cons_succ]
                refine wpList_runTo rfl (some 184) rfl (.int .i64 de) X3 (by kernel_rfl) ?_
                simp only [Act.put, List.setIfInBounds_toArray, List.set_cons_zero, List.set_cons_succ]
                refine wpList_runTo rfl (some 29) rfl (.pointer (some ⟨X3.heap.size, 0, none⟩)) (X3.alloc (.cells zeroC.cs 27)) (by kernel_rfl) ?_
                simp only [Act.put, List.setIfInBounds_toArray, List.set_cons_zero, List.set_cons_succ]
                refine store_cmd (c := dc) (c' := zeroC) (Blk.new X3 _ _) (.tmp 29) (.tmp 183) rfl rfl (by kernel_rfl) (by kernel_rfl) ?_
                simp only [Act.put, List.setIfInBounds_toArray, List.set_cons_zero, List.set_cons_succ]
                have HX4 : Hid (PW w ((X3.alloc (.cells zeroC.cs 27)).setRow X3.heap.size dc.cs) t1' t2 A1 B g1 g2 v1' v2 A1 B hw l' ∧ Blk ((X3.alloc (.cells zeroC.cs 27)).setRow X3.heap.size dc.cs) p1 27 dc.cs ∧ Blk ((X3.alloc (.cells zeroC.cs 27)).setRow X3.heap.size dc.cs) X3.heap.size 27 dc.cs) := ⟨HX3.out.1.below (newC3 X3 dc).1, HX3.out.2.below (newC3 X3 dc).1 HX3.out.2.lt, (newC3 X3 dc).2⟩
                clear HX3
                generalize (X3.alloc (.cells zeroC.cs 27)).setRow X3.heap.size dc.cs = X4 at *
                generalize X3.heap.size = p2 at *
                refine wpList_runTo rfl (some 14) rfl (.int .i64 de) X4 (by kernel_rfl) ?_
                simp only [Act.put, List.setIfInBounds_toArray, List.set_cons_zero, List.set_cons_succ]
                refine wpList_nil ?_
                refine hK _ _ ?_
                clear hK
                have hlo := looks_any l' l'.length hw X4 rfl (by have := HP'.out.2; omega) HX4.out.1.pl.row HX4.out.1.pl.ok
                go_upto_region 41 with fail
                rename_i K hK
                refine wp_region_lit ?_
                refine wpList_runTo rfl (some 185) rfl (hw) X4 (by kernel_rfl) ?_
                simp only [Act.put, List.setIfInBounds_toArray, List.set_cons_zero, List.set_cons_succ]
                refine wpList_callW rfl (some 186) rfl 27 #[hw] (by kernel_rfl) hlo ?_
                clear hlo
                rintro e X5 ⟨rfl, hx⟩
                refine ⟨_, rfl, ?_⟩
                simp only [Act.put, List.setIfInBounds_toArray, List.set_cons_zero, List.set_cons_succ]
                have HX5 : Hid (PW w X5 t1' t2 A1 B g1 g2 v1' v2 A1 B hw l' ∧ Blk X5 p1 27 dc.cs ∧ Blk X5 p2 27 dc.cs) := ⟨HX4.out.1.below hx, HX4.out.2.1.below hx HX4.out.2.1.lt, HX4.out.2.2.below hx HX4.out.2.2.lt⟩
                clear hx HX4
                refine wpList_runTo rfl (some 30) rfl (.bool true) X5 (by kernel_rfl) ?_
                simp only [Act.put, List.setIfInBounds_toArray, List.set_cons_zero, List.set_cons_succ]
                refine wpList_nil ?_
                refine hK _ _ ?_
                clear hK
                go_upto_region 42 with fail
                rename_i K hK
                refine wp_region_lit ?_
                refine load_cmd HX5.out.2.1 (.tmp 28) rfl rfl (by kernel_rfl) ?_
                simp only [Act.put, List.setIfInBounds_toArray, List.set_cons_zero, List.set_cons_succ]
                refine load_cmd HX5.out.2.2 (.tmp 29) rfl rfl (by kernel_rfl) ?_
                simp only [Act.put, List.setIfInBounds_toArray, List.set_cons_zero, List.set_cons_succ]
                refine wpList_runTo rfl (some 189) rfl (.bool false) X5 (by exact neC_run (c := dc) (.tmp 187) (.tmp 188) rfl (by kernel_rfl) (by kernel_rfl) _) ?_
                simp only [Act.put, List.setIfInBounds_toArray, List.set_cons_zero, List.set_cons_succ]
                refine wpList_runTo rfl (some 190) rfl (.bool false) X5 (by kernel_rfl) ?_
                simp only [Act.put, List.setIfInBounds_toArray, List.set_cons_zero, List.set_cons_succ]
                refine wpList_runToG (by kernel_rfl) (some 191) rfl (.int .i64 de) X5 (by kernel_rfl) ?_
                simp only [Act.put, List.setIfInBounds_toArray, List.set_cons_zero, List.set_cons_succ]
                refine wpList_runToG (by kernel_rfl) (some 192) rfl (.int .i64 de) X5 (by kernel_rfl) ?_
                simp only [Act.put, List.setIfInBounds_toArray, List.set_cons_zero, List.set_cons_succ]
                refine wpList_runToG (by kernel_rfl) (some 193) rfl (.bool false) X5 (by exact neI2_run (z := de) (.inl rfl) (.tmp 191) (.tmp 192) rfl (by kernel_rfl) (by kernel_rfl) _) ?_
                simp only [Act.put, List.setIfInBounds_toArray, List.set_cons_zero, List.set_cons_succ]
                refine wpList_runTo rfl (some 194) rfl (.bool false) X5 (by kernel_rfl) ?_
                simp only [Act.put, List.setIfInBounds_toArray, List.set_cons_zero, List.set_cons_succ]
                refine wpList_runTo rfl (some 195) rfl (.bool false) X5 (by kernel_rfl) ?_
                simp only [Act.put, List.setIfInBounds_toArray, List.set_cons_zero, List.set_cons_succ]
                refine wpList_runToG (by kernel_rfl) (some 196) rfl (.bool true) X5 (by kernel_rfl) ?_
                simp only [Act.put, List.setIfInBounds_toArray, List.set_cons_zero, List.set_cons_succ]
                refine wpList_runToG (by kernel_rfl) (some 197) rfl (.bool false) X5 (by kernel_rfl) ?_
                simp only [Act.put, List.setIfInBounds_toArray, List.set_cons_zero, List.set_cons_succ]
                refine wpList_runTo rfl (some 198) rfl (.bool false) X5 (by kernel_rfl) ?_
                simp only [Act.put, List.setIfInBounds_toArray, List.set_cons_zero, List.set_cons_succ]
                refine wpList_nil ?_
                refine hK _ _ ?_
                clear hK
                generalize dc.cs = DS
                have HF : Hid (PW w X5 t1' t2 A1 B g1 g2 v1' v2 A1 B hw l' ∧ A1.length ≤ i + 1 ∧ B.length ≤ i + 1 ∧ l'.length ≤ 360 * (i + 1) ∧ t1'.g = tg1 ∧ t2.g = tg2) := ⟨HX5.out.1, HTR.out.1, HTR.out.2.1, HP'.out.2, HTR.out.2.2.2⟩
                clear HX5 HP' HTR
                go_wp2
                first
                  | exact ⟨⟨i + 1, t1', t2, A1, B, v1', v2, hw, l', rfl, by go_num, by omega, by omega, HF.out⟩, by simp [intOf]; omega⟩
                  | (go_roundw; (case rel => ((repeat apply Exists.intro); exact ⟨⟨i + 1, t1', t2, A1, B, v1', v2, hw, l', rfl, by go_num, by omega, by omega, HF.out⟩, rfl⟩)); (case measure => (simp [intOf]; omega)))
    · skip
      go_upto_region 10 with fail
      go_cut [53] from 46 to 53 (fun x53 wx => x53 = .bool false ∧ wx = wr)
      case first => as_aux_lemma =>
        by_cases q1 : (i : Int) < (n0 : Int)
        · have q2 : ¬ (i : Int) < 40 := fun q => hlt ⟨by omega, by omega⟩
          go_wp2
          go_meet
          exact ⟨rfl, rfl⟩
        · go_wp2
          go_meet
          exact ⟨rfl, rfl⟩
      case rest => as_aux_lemma =>
        obtain ⟨rfl, hw⟩ := hcut
        subst hw
        have HE : Hid (PW w wc t1 t2 A B g1 g2 v1 v2 A B hv l ∧ B.length ≤ 40 ∧ t2.g = tg2) := ⟨HP.out.1, by have := HP.out.2.2.1; omega, HP.out.2.2.2.2.2⟩
        clear hlt HS HP
        obtain ⟨i9, hi9⟩ : ∃ i9 : Value, i9 = .int .i64 (i : Int) := ⟨_, rfl⟩
        rw [← hi9]
        clear hi9 hi40 hin
        go_upto_region 44 with fail
        have hbd : Below wc.heap.size wc wc.drew := ⟨rfl, rfl, rfl, Nat.le_refl _, fun _ _ => rfl⟩
        have HA : Hid (PW w wc.drew t1 t2 A B g1 g2 v1 v2 A B hv l ∧ B.length ≤ 40 ∧ t2.g = tg2) := ⟨HE.out.1.below hbd, HE.out.2⟩
        clear hbd HE
        obtain ⟨LB, hLB⟩ : ∃ L, L = tpL (csL B) B.length := ⟨_, rfl⟩
        refine wp_region_held (S := fun _ => True) (by kernel_rfl) ?_
        change wpAnyH _ _ _ _ _ _ _ _ (World.drew _)
        generalize wc.drew = WX at *
        have hS : True := trivial
        refine takeR (i := 0) (v := .pointer (some ⟨tg2, 0, none⟩)) (some 199) rfl rfl (by kernel_rfl) (by kernel_rfl) (by kernel_rfl) (fun _ _ _ h => h) (Or.inl ⟨by kernel_rfl, fun w' hSw => by kernel_rfl⟩) hS ?_
        simp only [Act.put, List.setIfInBounds_toArray, List.set_cons_zero, List.set_cons_succ]
        refine takeR (i := 3) (v := .pointer (some ⟨g2, 0, none⟩)) (some 202) rfl rfl (by kernel_rfl) (by kernel_rfl) (by kernel_rfl) (fun _ _ _ h => h) (Or.inl ⟨by kernel_rfl, fun w' hSw => by kernel_rfl⟩) hS ?_
        simp only [Act.put, List.setIfInBounds_toArray, List.set_cons_zero, List.set_cons_succ]
        have hby := HA.out.1.pl.p2.bytes
        rw [HA.out.2.2, ← hLB] at hby
        refine wpAnyH_ready (rs := [1]) (by kernel_rfl) (by simp) ?_
        refine AllReadyH.cons rfl (fun K1 hK1 => ?_) AllReadyH.nil
        rw [if_pos (by kernel_rfl)]
        refine callR (d := some 200) rfl 13 #[.pointer (some ⟨tg2, 0, none⟩)] (by kernel_rfl) hby ?_
        clear hby
        rintro e WY ⟨s1, rfl, hx1⟩
        refine ⟨_, rfl, ?_⟩
        have HB1 : Hid (PW w WY t1 t2 A B g1 g2 v1 v2 A B hv l ∧ By WY s1 LB ∧ B.length ≤ 40) := ⟨HA.out.1.below hx1.out.bel, hx1.out.by', HA.out.2.1⟩
        have hrb := refBytes_any HB1.out.1.pl.r2 (by have := HB1.out.2.2; omega)
        rw [← hLB] at hrb
        clear hx1 HA
        refine hK1.out _ _ hS (fun _ => ?_)
        clear hK1
        simp only [Act.put, List.setIfInBounds_toArray, List.set_cons_zero, List.set_cons_succ]
        refine wpAnyH_ready (rs := [2, 4]) (by kernel_rfl) (by simp) ?_
        refine AllReadyH.cons rfl (fun K1 hK1 => ?_) (AllReadyH.cons rfl (fun K1 hK1 => ?_) AllReadyH.nil)
        · skip
          rw [if_pos (by kernel_rfl)]
          refine valR (d := some 201) rfl (.string (ofN LB)) (conv_run (.tmp 200) rfl (by kernel_rfl) HB1.out.2.1) ?_
          refine hK1.out _ _ hS (fun _ => ?_)
          clear hK1
          simp only [Act.put, List.setIfInBounds_toArray, List.set_cons_zero, List.set_cons_succ]
          refine wpAnyH_ready (rs := [4]) (by kernel_rfl) (by simp) ?_
          refine AllReadyH.cons rfl (fun K1 hK1 => ?_) AllReadyH.nil
          rw [if_pos (by kernel_rfl)]
          refine callR (d := some 203) rfl 24 #[.pointer (some ⟨g2, 0, none⟩)] (by kernel_rfl) hrb ?_
          clear hrb
          rintro e WZ ⟨s2, rfl, hx2⟩
          refine ⟨_, rfl, ?_⟩
          have HB : Hid (PW w WZ t1 t2 A B g1 g2 v1 v2 A B hv l ∧ By WZ s1 LB ∧ By WZ s2 LB) := ⟨HB1.out.1.below hx2.out.bel, HB1.out.2.1.below hx2.out.bel, hx2.out.by'⟩
          clear hx2 HB1
          refine hK1.out _ _ hS (fun _ => ?_)
          clear hK1
          simp only [Act.put, List.setIfInBounds_toArray, List.set_cons_zero, List.set_cons_succ]
          refine wpAnyH_ready (rs := [5]) (by kernel_rfl) (by simp) ?_
          refine AllReadyH.cons rfl (fun K1 hK1 => ?_) AllReadyH.nil
          rw [if_pos (by kernel_rfl)]
          refine valR (d := some 204) rfl (.string (ofN LB)) (conv_run (.tmp 203) rfl (by kernel_rfl) HB.out.2.2) ?_
          refine hK1.out _ _ hS (fun _ => ?_)
          clear hK1
          simp only [Act.put, List.setIfInBounds_toArray, List.set_cons_zero, List.set_cons_succ]
          refine takeR (i := 6) (v := .bool true) (some 205) rfl rfl (by kernel_rfl) (by kernel_rfl) (by kernel_rfl) (fun _ _ _ h => h) (Or.inl ⟨by kernel_rfl, fun w' hSw => by exact eqS_run (s := ofN LB) (.tmp 201) (.tmp 204) rfl (by kernel_rfl) (by kernel_rfl) _⟩) hS ?_
          simp only [Act.put, List.setIfInBounds_toArray, List.set_cons_zero, List.set_cons_succ]
          refine takeR (i := 7) (v := .bool true) (some 4) rfl rfl (by kernel_rfl) (by kernel_rfl) (by kernel_rfl) (fun _ _ _ h => h) (Or.inl ⟨by kernel_rfl, fun w' hSw => by kernel_rfl⟩) hS ?_
          simp only [Act.put, List.setIfInBounds_toArray, List.set_cons_zero, List.set_cons_succ]
          refine wpAnyH_done (by kernel_rfl) ?_ _
          generalize ofN LB = s5
          go_wp2
          go_ret
          exact ⟨rfl, HB.out.1.bel⟩
        · skip
          rw [if_pos (by kernel_rfl)]
          refine callR (d := some 203) rfl 24 #[.pointer (some ⟨g2, 0, none⟩)] (by kernel_rfl) hrb ?_
          clear hrb
          rintro e WZ ⟨s2, rfl, hx2⟩
          refine ⟨_, rfl, ?_⟩
          have HB : Hid (PW w WZ t1 t2 A B g1 g2 v1 v2 A B hv l ∧ By WZ s1 LB ∧ By WZ s2 LB) := ⟨HB1.out.1.below hx2.out.bel, HB1.out.2.1.below hx2.out.bel, hx2.out.by'⟩
          clear hx2 HB1
          refine hK1.out _ _ hS (fun _ => ?_)
          clear hK1
          simp only [Act.put, List.setIfInBounds_toArray, List.set_cons_zero, List.set_cons_succ]
          refine wpAnyH_ready (rs := [2, 5]) (by kernel_rfl) (by simp) ?_
          refine AllReadyH.cons rfl (fun K1 hK1 => ?_) (AllReadyH.cons rfl (fun K1 hK1 => ?_) AllReadyH.nil)
          · skip
            rw [if_pos (by kernel_rfl)]
            refine valR (d := some 201) rfl (.string (ofN LB)) (conv_run (.tmp 200) rfl (by kernel_rfl) HB.out.2.1) ?_
            refine hK1.out _ _ hS (fun _ => ?_)
            clear hK1
            simp only [Act.put, List.setIfInBounds_toArray, List.set_cons_zero, List.set_cons_succ]
            refine wpAnyH_ready (rs := [5]) (by kernel_rfl) (by simp) ?_
            refine AllReadyH.cons rfl (fun K1 hK1 => ?_) AllReadyH.nil
            rw [if_pos (by kernel_rfl)]
            refine valR (d := some 204) rfl (.string (ofN LB)) (conv_run (.tmp 203) rfl (by kernel_rfl) HB.out.2.2) ?_
            refine hK1.out _ _ hS (fun _ => ?_)
            clear hK1
            simp only [Act.put, List.setIfInBounds_toArray, List.set_cons_zero, List.set_cons_succ]
            refine takeR (i := 6) (v := .bool true) (some 205) rfl rfl (by kernel_rfl) (by kernel_rfl) (by kernel_rfl) (fun _ _ _ h => h) (Or.inl ⟨by kernel_rfl, fun w' hSw => by exact eqS_run (s := ofN LB) (.tmp 201) (.tmp 204) rfl (by kernel_rfl) (by kernel_rfl) _⟩) hS ?_
            simp only [Act.put, List.setIfInBounds_toArray, List.set_cons_zero, List.set_cons_succ]
            refine takeR (i := 7) (v := .bool true) (some 4) rfl rfl (by kernel_rfl) (by kernel_rfl) (by kernel_rfl) (fun _ _ _ h => h) (Or.inl ⟨by kernel_rfl, fun w' hSw => by kernel_rfl⟩) hS ?_
            simp only [Act.put, List.setIfInBounds_toArray, List.set_cons_zero, List.set_cons_succ]
            refine wpAnyH_done (by kernel_rfl) ?_ _
            generalize ofN LB = s5
            go_wp2
            go_ret
            exact ⟨rfl, HB.out.1.bel⟩
          · skip
            rw [if_pos (by kernel_rfl)]
            refine valR (d := some 204) rfl (.string (ofN LB)) (conv_run (.tmp 203) rfl (by kernel_rfl) HB.out.2.2) ?_
            refine hK1.out _ _ hS (fun _ => ?_)
            clear hK1
            simp only [Act.put, List.setIfInBounds_toArray, List.set_cons_zero, List.set_cons_succ]
            refine wpAnyH_ready (rs := [2]) (by kernel_rfl) (by simp) ?_
            refine AllReadyH.cons rfl (fun K1 hK1 => ?_) AllReadyH.nil
            rw [if_pos (by kernel_rfl)]
            refine valR (d := some 201) rfl (.string (ofN LB)) (conv_run (.tmp 200) rfl (by kernel_rfl) HB.out.2.1) ?_
            refine hK1.out _ _ hS (fun _ => ?_)
            clear hK1
            simp only [Act.put, List.setIfInBounds_toArray, List.set_cons_zero, List.set_cons_succ]
            refine takeR (i := 6) (v := .bool true) (some 205) rfl rfl (by kernel_rfl) (by kernel_rfl) (by kernel_rfl) (fun _ _ _ h => h) (Or.inl ⟨by kernel_rfl, fun w' hSw => by exact eqS_run (s := ofN LB) (.tmp 201) (.tmp 204) rfl (by kernel_rfl) (by kernel_rfl) _⟩) hS ?_
            simp only [Act.put, List.setIfInBounds_toArray, List.set_cons_zero, List.set_cons_succ]
            refine takeR (i := 7) (v := .bool true) (some 4) rfl rfl (by kernel_rfl) (by kernel_rfl) (by kernel_rfl) (fun _ _ _ h => h) (Or.inl ⟨by kernel_rfl, fun w' hSw => by kernel_rfl⟩) hS ?_
            simp only [Act.put, List.setIfInBounds_toArray, List.set_cons_zero, List.set_cons_succ]
            refine wpAnyH_done (by kernel_rfl) ?_ _
            generalize ofN LB = s5
            go_wp2
            go_ret
            exact ⟨rfl, HB.out.1.bel⟩
end Go.Proofs.Ytjnnecoikcmaeaa
