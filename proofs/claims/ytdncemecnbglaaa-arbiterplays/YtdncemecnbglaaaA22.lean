/-
  The reference's Hear.
-/
import Derived.Test.YtdncemecnbglaaaA21
namespace Go.Proofs.Ytdncemecnbglaaa
set_option linter.unusedVariables false
set_option linter.unusedSimpArgs false
open Go.RowKit Go.Great Go.Maps

set_option maxRecDepth 100000 in
set_option maxHeartbeats 8000000 in
theorem rHear_any {w : World} {g : Nat} {kv : Value} {a : Ab} (h : RbAt w g kv a) (line : Nat) (hline : line < 2) (now : Int) (hn0 : 0 ≤ now) (hn1 : now ≤ 253402300799999) {v : Value} {l : List Nat} (hv : By w v l) (hl : l.length ≤ 140737488351232) (hgt : ∀ k ∈ a.ks, a.nx < k.n) (hcn : ∀ i, a.cn i + 2 ≤ 1000000000000) : Calls Try.prog 40 #[.pointer (some ⟨g, 0, none⟩), .int .i64 (line : Int), v, .int .i64 now] w fun e w' => ∃ v' er, e = .returned (.tuple #[v', .int .i64 er]) ∧ Hid (∃ kv' out a', RkO w w' g kv kv' v' out a' ∧ RHd a line now l w.heap.size out a' er) := by
  have HA : Hid (RbAt w g kv a ∧ By w v l ∧ l.length ≤ 140737488351232 ∧ (∀ k ∈ a.ks, a.nx < k.n) ∧ ∀ i, a.cn i + 2 ≤ 1000000000000) := ⟨h, hv, hl, hgt, hcn⟩
  have htm : tmB now = true := by unfold tmB; simp [hn0, hn1]
  have hti := timed_any now w
  rw [htm] at hti
  have hla0 := h.bd.l0
  have hla1 := h.bd.l1
  have HKL : Hid (a.ks.length ≤ 2000000000000) := by have := h.bd.len; have := h.bd.cn 1; have := h.bd.cn 5; show a.ks.length ≤ _; omega
  obtain ⟨ao, n, c, hkv, hnl⟩ : ∃ ao n c, kv = .slice ao n c ∧ n = a.ks.length := by
    obtain ⟨ao, c, e, _⟩ := h.row.form
    exact ⟨ao, _, c, e, rfl⟩
  have HNL : Hid (n = a.ks.length) := hnl
  clear hnl
  clear h hv hl hgt hcn htm
  have HLN : Hid (line < 2) := hline
  obtain ⟨MM, hMM⟩ : ∃ MM, MM = max a.la now := ⟨_, rfl⟩
  have HMM : Hid (MM = max a.la now ∧ 0 ≤ MM ∧ MM ≤ 253402300799999) := ⟨hMM, by omega, by omega⟩
  clear hMM hla0 hla1
  have g1 : decide (line < 0) = false := by simp
  have g2 : decide (1 < line) = false := by simp; omega
  go_enter Try.func40, Try.ntmps40
  go_upto_region 1 with fail
  rename_i K hK
  refine wp_region_lit ?_
  refine wpList_runTo rfl (some 15) rfl (.int .i64 now) w (by kernel_rfl) ?_
  simp only [Act.put, List.setIfInBounds_toArray, List.set_cons_zero, List.set_cons_succ]
  refine wpList_callW rfl (some 16) rfl 43 #[.int .i64 now] (by kernel_rfl) hti ?_
  clear hti
  rintro e w1 ⟨rfl, ew⟩
  replace ew := ew.symm
  subst ew
  refine ⟨_, rfl, ?_⟩
  simp only [Act.put, List.setIfInBounds_toArray, List.set_cons_zero, List.set_cons_succ]
  refine wpList_runTo rfl (some 10) rfl (.bool true) w (by kernel_rfl) ?_
  simp only [Act.put, List.setIfInBounds_toArray, List.set_cons_zero, List.set_cons_succ]
  refine wpList_nil ?_
  refine hK _ _ ?_
  clear hK
  go_upto_region 2 with fail
  rename_i K hK
  refine wp_region_lit ?_
  refine wpList_runTo rfl (some 17) rfl (.int .i64 (line : Int)) w (by kernel_rfl) ?_
  simp only [Act.put, List.setIfInBounds_toArray, List.set_cons_zero, List.set_cons_succ]
  refine wpList_runTo rfl (some 18) rfl (.bool false) w (by exact ltN_run (n := line) (k := 0) (.tmp 17) (.const (.int .i64 0)) rfl (by kernel_rfl) rfl g1 _) ?_
  simp only [Act.put, List.setIfInBounds_toArray, List.set_cons_zero, List.set_cons_succ]
  refine wpList_runTo rfl (some 19) rfl (.bool false) w (by kernel_rfl) ?_
  simp only [Act.put, List.setIfInBounds_toArray, List.set_cons_zero, List.set_cons_succ]
  refine wpList_runToG (by kernel_rfl) (some 20) rfl (.int .i64 (line : Int)) w (by kernel_rfl) ?_
  simp only [Act.put, List.setIfInBounds_toArray, List.set_cons_zero, List.set_cons_succ]
  refine wpList_runToG (by kernel_rfl) (some 21) rfl (.bool false) w (by exact gtN_run (n := line) (k := 1) (.tmp 20) (.const (.int .i64 1)) rfl (by kernel_rfl) rfl g2 _) ?_
  simp only [Act.put, List.setIfInBounds_toArray, List.set_cons_zero, List.set_cons_succ]
  refine wpList_runTo rfl (some 22) rfl (.bool false) w (by kernel_rfl) ?_
  simp only [Act.put, List.setIfInBounds_toArray, List.set_cons_zero, List.set_cons_succ]
  refine wpList_runTo rfl (some 23) rfl (.bool false) w (by kernel_rfl) ?_
  simp only [Act.put, List.setIfInBounds_toArray, List.set_cons_zero, List.set_cons_succ]
  refine wpList_runToG (by kernel_rfl) (some 24) rfl (.bool true) w (by kernel_rfl) ?_
  simp only [Act.put, List.setIfInBounds_toArray, List.set_cons_zero, List.set_cons_succ]
  refine wpList_runToG (by kernel_rfl) (some 25) rfl (.bool false) w (by kernel_rfl) ?_
  simp only [Act.put, List.setIfInBounds_toArray, List.set_cons_zero, List.set_cons_succ]
  refine wpList_runTo rfl (some 26) rfl (.bool false) w (by kernel_rfl) ?_
  simp only [Act.put, List.setIfInBounds_toArray, List.set_cons_zero, List.set_cons_succ]
  refine wpList_nil ?_
  refine hK _ _ ?_
  clear hK
  clear g1 g2
  have c5 : w.cell? ⟨g, 5, none⟩ = some (.int .i64 a.la) := HA.out.1.blk.cell 5
  obtain ⟨lb, hlb⟩ : ∃ lb, decide (a.la < now) = lb := ⟨_, rfl⟩
  go_upto_region 4 with fail
  rename_i K hK
  refine wp_region_lit ?_
  refine wpList_runTo rfl (some 27) rfl (.int .i64 now) w (by kernel_rfl) ?_
  simp only [Act.put, List.setIfInBounds_toArray, List.set_cons_zero, List.set_cons_succ]
  refine wpList_runTo rfl (some 28) rfl (.pointer (some ⟨g, 0, none⟩)) w (by kernel_rfl) ?_
  simp only [Act.put, List.setIfInBounds_toArray, List.set_cons_zero, List.set_cons_succ]
  refine wpList_runTo rfl (some 29) rfl (.pointer (some ⟨g, 0, none⟩)) w (by kernel_rfl) ?_
  simp only [Act.put, List.setIfInBounds_toArray, List.set_cons_zero, List.set_cons_succ]
  refine wpList_runTo rfl (some 30) rfl (.pointer (some ⟨g, 5, none⟩)) w (by kernel_rfl) ?_
  simp only [Act.put, List.setIfInBounds_toArray, List.set_cons_zero, List.set_cons_succ]
  refine wpList_runTo rfl (some 31) rfl (.int .i64 a.la) w (by exact ldN_run (.inl rfl) (.tmp 30) rfl (by kernel_rfl) (c5)) ?_
  simp only [Act.put, List.setIfInBounds_toArray, List.set_cons_zero, List.set_cons_succ]
  refine wpList_runTo rfl (some 32) rfl (.bool lb) w (by exact gtI_run (.tmp 27) (.tmp 31) rfl (by kernel_rfl) (by kernel_rfl) hlb _) ?_
  simp only [Act.put, List.setIfInBounds_toArray, List.set_cons_zero, List.set_cons_succ]
  refine wpList_nil ?_
  refine hK _ _ ?_
  clear hK
  cases lb
  case true =>
    have hlt : a.la < now := by simpa using hlb
    have HLT : Hid (a.la < now) := hlt
    clear hlt hlb
    have f5 : w.frozen? ⟨g, 5, none⟩ = false := HA.out.1.blk.frozen 5
    go_upto_region 5 with fail
    rename_i K hK
    refine wp_region_lit ?_
    refine wpList_runTo rfl (some 33) rfl (.pointer (some ⟨g, 0, none⟩)) w (by kernel_rfl) ?_
    simp only [Act.put, List.setIfInBounds_toArray, List.set_cons_zero, List.set_cons_succ]
    refine wpList_runTo rfl (some 34) rfl (.int .i64 now) w (by kernel_rfl) ?_
    simp only [Act.put, List.setIfInBounds_toArray, List.set_cons_zero, List.set_cons_succ]
    refine wpList_runTo rfl (some 35) rfl (.pointer (some ⟨g, 0, none⟩)) w (by kernel_rfl) ?_
    simp only [Act.put, List.setIfInBounds_toArray, List.set_cons_zero, List.set_cons_succ]
    refine wpList_runTo rfl (some 36) rfl (.pointer (some ⟨g, 5, none⟩)) w (by kernel_rfl) ?_
    simp only [Act.put, List.setIfInBounds_toArray, List.set_cons_zero, List.set_cons_succ]
    refine wpList_skipW rfl none rfl (w' := w.setCell ⟨g, 5, none⟩ (.int .i64 now)) (stN_run (.inl rfl) (.tmp 36) (.tmp 34) rfl (by kernel_rfl) (by kernel_rfl) c5 f5) ?_
    simp only [Act.put, List.setIfInBounds_toArray, List.set_cons_zero, List.set_cons_succ]
    refine wpList_nil ?_
    refine hK _ _ ?_
    clear hK
    have H1 : Hid (RbAt (w.setCell ⟨g, 5, none⟩ (.int .i64 now)) g kv (a.tick now) ∧ Fr w (w.setCell ⟨g, 5, none⟩ (.int .i64 now)) (fun x => x = g) ∧ By (w.setCell ⟨g, 5, none⟩ (.int .i64 now)) v l) := by
      have hbd := HA.out.1.bd
      have hf := Fr.setCell w ⟨g, 5, none⟩ (.int .i64 now) (fun x => x = g) rfl
      have e : now = max a.la now := by have := HLT.out; omega
      have := HA.out.1.put { a with la := now } 5 _ rfl HA.out.1.row HA.out.1.pk ⟨hbd.w1, hbd.w2, hbd.p0, hbd.p1, hbd.nx, hbd.s0, hbd.s1, hn0, hn1, hbd.kn, hbd.cn, hbd.len⟩ HA.out.1.so
      refine ⟨?_, hf, HA.out.2.1.frR hf HA.out.1⟩
      unfold Ab.tick
      rw [← e]
      exact this
    generalize w.setCell ⟨g, 5, none⟩ (.int .i64 now) = W1 at *
    clear c5 f5 hn0 hn1 HLT
    obtain ⟨o6, ho6⟩ : ∃ o6, o6 = 6 + line * 4 := ⟨_, rfl⟩
    have HO6 : Hid (o6 = 6 + line * 4) := ho6
    go_upto_region 6 with fail
    rename_i K hK
    refine wp_region_lit ?_
    refine wpList_runTo rfl (some 37) rfl (.pointer (some ⟨g, 0, none⟩)) W1 (by kernel_rfl) ?_
    simp only [Act.put, List.setIfInBounds_toArray, List.set_cons_zero, List.set_cons_succ]
    refine wpList_runTo rfl (some 38) rfl (.int .i64 (line : Int)) W1 (by kernel_rfl) ?_
    simp only [Act.put, List.setIfInBounds_toArray, List.set_cons_zero, List.set_cons_succ]
    refine wpList_runTo rfl (some 39) rfl (.pointer (some ⟨g, 0, none⟩)) W1 (by kernel_rfl) ?_
    simp only [Act.put, List.setIfInBounds_toArray, List.set_cons_zero, List.set_cons_succ]
    refine wpList_runTo rfl (some 40) rfl (.pointer (some ⟨g, 6, none⟩)) W1 (by kernel_rfl) ?_
    simp only [Act.put, List.setIfInBounds_toArray, List.set_cons_zero, List.set_cons_succ]
    refine wpList_runTo rfl (some 41) rfl (.pointer (some ⟨g, o6, none⟩)) W1 (by rw [ho6]; exact ixL_run (i := line) (.tmp 40) (.tmp 38) rfl (by kernel_rfl) (by kernel_rfl) hline _) ?_
    simp only [Act.put, List.setIfInBounds_toArray, List.set_cons_zero, List.set_cons_succ]
    refine wpList_runTo rfl (some 11) rfl (.pointer (some ⟨g, o6, none⟩)) W1 (by kernel_rfl) ?_
    simp only [Act.put, List.setIfInBounds_toArray, List.set_cons_zero, List.set_cons_succ]
    refine wpList_nil ?_
    refine hK _ _ ?_
    clear hK
    clear ho6 hline
    go_upto_region 7 with fail
    have hbw : Below W1.heap.size W1 W1.drew := ⟨rfl, rfl, rfl, Nat.le_refl _, fun _ _ => rfl⟩
    have H1d : Hid (RbAt W1.drew g kv (a.tick now) ∧ Fr w W1.drew (fun x => x = g) ∧ By W1.drew v l) := ⟨H1.out.1.below hbw, H1.out.2.1.trans (Fr.of_below hbw (fun _ => False)) fun x _ q => q.elim id False.elim, H1.out.2.2.below hbw⟩
    clear hbw H1
    obtain ⟨z, hz⟩ : ∃ z, z = (a.tick now).cn (4 * line + 0) := ⟨_, rfl⟩
    obtain ⟨oc, hoc⟩ : ∃ oc, oc = o6 + 0 := ⟨_, rfl⟩
    rename_i K hK
    refine wp_region_late (fun w' => w'.cell? ⟨g, oc, none⟩ = some (.int .i64 (z : Int))) 7 (by kernel_rfl) ?_
    intro hCl
    generalize W1.drew = Z at *
    change wpAnyL _ _ _ _ _ _ 8 _ _ _
    have hS : Z.cell? ⟨g, oc, none⟩ = some (.int .i64 (z : Int)) := by rw [hoc, HO6.out, hz]; exact RbAt.cell_cn H1d.out.1 HLN.out (by decide)
    have hF : Z.frozen? ⟨g, oc, none⟩ = false := H1d.out.1.blk.frozen oc
    have hzb : z + 1 ≤ 1000000000000 := by rw [hz]; have := HA.out.2.2.2.2 (4 * line + 0); show a.cn _ + 1 ≤ _; omega
    refine takeL (i := 0) (v := .pointer (some ⟨g, o6, none⟩)) 7 (some 42) rfl rfl (by kernel_rfl) (by kernel_rfl) (by kernel_rfl) (by kernel_rfl) hCl (fun _ _ _ h => h) (Or.inl ⟨by kernel_rfl, fun w' hSw => by kernel_rfl⟩) hS ?_
    clear hCl
    intro hCl
    simp only [Act.put, List.setIfInBounds_toArray, List.set_cons_zero, List.set_cons_succ]
    refine takeL (i := 1) (v := .pointer (some ⟨g, o6, none⟩)) 7 (some 43) rfl rfl (by kernel_rfl) (by kernel_rfl) (by kernel_rfl) (by kernel_rfl) hCl (fun _ _ _ h => h) (Or.inl ⟨by kernel_rfl, fun w' hSw => by kernel_rfl⟩) hS ?_
    clear hCl
    intro hCl
    simp only [Act.put, List.setIfInBounds_toArray, List.set_cons_zero, List.set_cons_succ]
    refine takeL (i := 2) (v := .pointer (some ⟨g, oc, none⟩)) 7 (some 44) rfl rfl (by kernel_rfl) (by kernel_rfl) (by kernel_rfl) (by kernel_rfl) hCl (fun _ _ _ h => h) (Or.inl ⟨by kernel_rfl, fun w' hSw => by rw [hoc]; kernel_rfl⟩) hS ?_
    clear hCl
    intro hCl
    simp only [Act.put, List.setIfInBounds_toArray, List.set_cons_zero, List.set_cons_succ]
    refine takeL (i := 3) (v := .int .i64 (z : Int)) 7 (some 45) rfl rfl (by kernel_rfl) (by kernel_rfl) (by kernel_rfl) (by kernel_rfl) hCl (fun _ _ _ h => h) (Or.inl ⟨by kernel_rfl, fun w' hSw => by exact ldN_run (.inr rfl) (.tmp 44) rfl (by kernel_rfl) hSw⟩) hS ?_
    clear hCl
    intro hCl
    simp only [Act.put, List.setIfInBounds_toArray, List.set_cons_zero, List.set_cons_succ]
    refine takeL (i := 4) (v := .int .i64 ((z + 1 : Nat) : Int)) 7 (some 46) rfl rfl (by kernel_rfl) (by kernel_rfl) (by kernel_rfl) (by kernel_rfl) hCl (fun _ _ _ h => h) (Or.inl ⟨by kernel_rfl, fun w' hSw => by exact addN_run (p := z) (q := 1) (.tmp 45) (.const (.int .i64 1)) rfl (by kernel_rfl) rfl (by omega) _⟩) hS ?_
    clear hCl
    intro hCl
    simp only [Act.put, List.setIfInBounds_toArray, List.set_cons_zero, List.set_cons_succ]
    refine takeL (i := 5) (v := .pointer (some ⟨g, o6, none⟩)) 7 (some 47) rfl rfl (by kernel_rfl) (by kernel_rfl) (by kernel_rfl) (by kernel_rfl) hCl (fun _ _ _ h => h) (Or.inl ⟨by kernel_rfl, fun w' hSw => by kernel_rfl⟩) hS ?_
    clear hCl
    intro hCl
    simp only [Act.put, List.setIfInBounds_toArray, List.set_cons_zero, List.set_cons_succ]
    refine takeL (i := 6) (v := .pointer (some ⟨g, oc, none⟩)) 7 (some 48) rfl rfl (by kernel_rfl) (by kernel_rfl) (by kernel_rfl) (by kernel_rfl) hCl (fun _ _ _ h => h) (Or.inl ⟨by kernel_rfl, fun w' hSw => by rw [hoc]; kernel_rfl⟩) hS ?_
    clear hCl
    intro hCl
    simp only [Act.put, List.setIfInBounds_toArray, List.set_cons_zero, List.set_cons_succ]
    refine oneL (i := 7) rfl (by kernel_rfl) hCl (by kernel_rfl) (fun K1 hK1 => ?_)
    refine skipR (d := none) rfl (w' := Z.setCell ⟨g, oc, none⟩ (.int .i64 ((z + 1 : Nat) : Int))) (stN_run (.inr rfl) (.tmp 48) (.tmp 46) rfl (by kernel_rfl) (by kernel_rfl) hS hF) ?_
    refine hK1.out _ _ (fun h => absurd rfl h) ?_
    clear hK1 hCl hS hF
    intro hCl
    simp only [Act.put, List.setIfInBounds_toArray, List.set_cons_zero, List.set_cons_succ]
    refine doneL (by kernel_rfl) ?_
    clear hCl
    refine hK _ _ ?_
    clear hK
    have H2p : Hid (RbAt (Z.setCell ⟨g, oc, none⟩ (.int .i64 ((z + 1 : Nat) : Int))) g kv ((a.tick now).cnt (4 * line + 0)) ∧ Fr w (Z.setCell ⟨g, oc, none⟩ (.int .i64 ((z + 1 : Nat) : Int))) (fun x => x = g) ∧ By (Z.setCell ⟨g, oc, none⟩ (.int .i64 ((z + 1 : Nat) : Int))) v l) := by
      have hf := Fr.setCell Z ⟨g, oc, none⟩ (.int .i64 ((z + 1 : Nat) : Int)) (fun x => x = g) rfl
      have hab := H1d.out.1.bump (line := line) (c := 0) HLN.out (by decide) (by rw [← hz]; omega)
      rw [← hz, ← HO6.out, ← hoc] at hab
      exact ⟨hab, H1d.out.2.1.trans hf fun x _ q => q.elim id id, H1d.out.2.2.frR hf H1d.out.1⟩
    generalize Z.setCell ⟨g, oc, none⟩ (.int .i64 ((z + 1 : Nat) : Int)) = W2 at *
    generalize z = z7 at *
    clear H1d hz hoc hzb
    have H2 : Hid (RbAt W2 g kv (a.came line now) ∧ Fr w W2 (fun x => x = g) ∧ By W2 v l) := H2p
    clear H2p
    have hri := right_any H2.out.2.2 (by have := HA.out.2.2.1; omega)
    obtain ⟨R, hR⟩ : ∃ R : Nat, R = (rt l).getD 0 := ⟨_, rfl⟩
    rw [← hR] at hri
    have HR : Hid (R = (rt l).getD 0) := hR
    clear hR
    obtain ⟨zb, hzb⟩ : ∃ zb, (R == 0) = zb := ⟨_, rfl⟩
    go_upto_region 8 with fail
    rename_i K hK
    refine wp_region_lit ?_
    refine wpList_runTo rfl (some 49) rfl (v) W2 (by kernel_rfl) ?_
    simp only [Act.put, List.setIfInBounds_toArray, List.set_cons_zero, List.set_cons_succ]
    refine wpList_callW rfl (some 50) rfl 48 #[v] (by kernel_rfl) hri ?_
    clear hri
    rintro e w1 ⟨rfl, ew⟩
    replace ew := ew.symm
    subst ew
    refine ⟨_, rfl, ?_⟩
    simp only [Act.put, List.setIfInBounds_toArray, List.set_cons_zero, List.set_cons_succ]
    refine wpList_runTo rfl (some 12) rfl (.int .i64 (R : Int)) W2 (by kernel_rfl) ?_
    simp only [Act.put, List.setIfInBounds_toArray, List.set_cons_zero, List.set_cons_succ]
    refine wpList_nil ?_
    refine hK _ _ ?_
    clear hK
    go_upto_region 9 with fail
    rename_i K hK
    refine wp_region_lit ?_
    refine wpList_runTo rfl (some 51) rfl (.int .i64 (R : Int)) W2 (by kernel_rfl) ?_
    simp only [Act.put, List.setIfInBounds_toArray, List.set_cons_zero, List.set_cons_succ]
    refine wpList_runTo rfl (some 52) rfl (.bool zb) W2 (by exact eqN_run (p := R) (q := 0) (.tmp 51) (.const (.int .i64 0)) rfl (by kernel_rfl) rfl hzb _) ?_
    simp only [Act.put, List.setIfInBounds_toArray, List.set_cons_zero, List.set_cons_succ]
    refine wpList_nil ?_
    refine hK _ _ ?_
    clear hK
    cases zb
    case true =>
      have HN : Hid (rt l = none) := by
        have h0 : R = 0 := by simpa using hzb
        have h1 := HR.out
        show rt l = none
        cases e : rt l with
        | none => rfl
        | some m =>
          rw [e] at h1
          have h2 := rt_some e
          simp at h1
          omega
      clear HR hzb
      go_upto_region 10 with fail
      have hbw : Below W2.heap.size W2 W2.drew := ⟨rfl, rfl, rfl, Nat.le_refl _, fun _ _ => rfl⟩
      have H2d : Hid (RbAt W2.drew g kv (a.came line now) ∧ Fr w W2.drew (fun x => x = g) ∧ By W2.drew v l) := ⟨H2.out.1.below hbw, H2.out.2.1.trans (Fr.of_below hbw (fun _ => False)) fun x _ q => q.elim id False.elim, H2.out.2.2.below hbw⟩
      clear hbw H2
      obtain ⟨z, hz⟩ : ∃ z, z = (a.came line now).cn (4 * line + 3) := ⟨_, rfl⟩
      obtain ⟨oc, hoc⟩ : ∃ oc, oc = o6 + 3 := ⟨_, rfl⟩
      rename_i K hK
      refine wp_region_late (fun w' => w'.cell? ⟨g, oc, none⟩ = some (.int .i64 (z : Int))) 7 (by kernel_rfl) ?_
      intro hCl
      generalize W2.drew = Z at *
      change wpAnyL _ _ _ _ _ _ 8 _ _ _
      have hS : Z.cell? ⟨g, oc, none⟩ = some (.int .i64 (z : Int)) := by rw [hoc, HO6.out, hz]; exact RbAt.cell_cn H2d.out.1 HLN.out (by decide)
      have hF : Z.frozen? ⟨g, oc, none⟩ = false := H2d.out.1.blk.frozen oc
      have hzb : z + 1 ≤ 1000000000000 := by rw [hz]; have := HA.out.2.2.2.2 (4 * line + 3); have := (bmp_le a.cn (4 * line) (4 * line + 3)).2; show bmp a.cn (4 * line) (4 * line + 3) + 1 ≤ _; omega
      refine takeL (i := 0) (v := .pointer (some ⟨g, o6, none⟩)) 7 (some 53) rfl rfl (by kernel_rfl) (by kernel_rfl) (by kernel_rfl) (by kernel_rfl) hCl (fun _ _ _ h => h) (Or.inl ⟨by kernel_rfl, fun w' hSw => by kernel_rfl⟩) hS ?_
      clear hCl
      intro hCl
      simp only [Act.put, List.setIfInBounds_toArray, List.set_cons_zero, List.set_cons_succ]
      refine takeL (i := 1) (v := .pointer (some ⟨g, o6, none⟩)) 7 (some 54) rfl rfl (by kernel_rfl) (by kernel_rfl) (by kernel_rfl) (by kernel_rfl) hCl (fun _ _ _ h => h) (Or.inl ⟨by kernel_rfl, fun w' hSw => by kernel_rfl⟩) hS ?_
      clear hCl
      intro hCl
      simp only [Act.put, List.setIfInBounds_toArray, List.set_cons_zero, List.set_cons_succ]
      refine takeL (i := 2) (v := .pointer (some ⟨g, oc, none⟩)) 7 (some 55) rfl rfl (by kernel_rfl) (by kernel_rfl) (by kernel_rfl) (by kernel_rfl) hCl (fun _ _ _ h => h) (Or.inl ⟨by kernel_rfl, fun w' hSw => by rw [hoc]; kernel_rfl⟩) hS ?_
      clear hCl
      intro hCl
      simp only [Act.put, List.setIfInBounds_toArray, List.set_cons_zero, List.set_cons_succ]
      refine takeL (i := 3) (v := .int .i64 (z : Int)) 7 (some 56) rfl rfl (by kernel_rfl) (by kernel_rfl) (by kernel_rfl) (by kernel_rfl) hCl (fun _ _ _ h => h) (Or.inl ⟨by kernel_rfl, fun w' hSw => by exact ldN_run (.inr rfl) (.tmp 55) rfl (by kernel_rfl) hSw⟩) hS ?_
      clear hCl
      intro hCl
      simp only [Act.put, List.setIfInBounds_toArray, List.set_cons_zero, List.set_cons_succ]
      refine takeL (i := 4) (v := .int .i64 ((z + 1 : Nat) : Int)) 7 (some 57) rfl rfl (by kernel_rfl) (by kernel_rfl) (by kernel_rfl) (by kernel_rfl) hCl (fun _ _ _ h => h) (Or.inl ⟨by kernel_rfl, fun w' hSw => by exact addN_run (p := z) (q := 1) (.tmp 56) (.const (.int .i64 1)) rfl (by kernel_rfl) rfl (by omega) _⟩) hS ?_
      clear hCl
      intro hCl
      simp only [Act.put, List.setIfInBounds_toArray, List.set_cons_zero, List.set_cons_succ]
      refine takeL (i := 5) (v := .pointer (some ⟨g, o6, none⟩)) 7 (some 58) rfl rfl (by kernel_rfl) (by kernel_rfl) (by kernel_rfl) (by kernel_rfl) hCl (fun _ _ _ h => h) (Or.inl ⟨by kernel_rfl, fun w' hSw => by kernel_rfl⟩) hS ?_
      clear hCl
      intro hCl
      simp only [Act.put, List.setIfInBounds_toArray, List.set_cons_zero, List.set_cons_succ]
      refine takeL (i := 6) (v := .pointer (some ⟨g, oc, none⟩)) 7 (some 59) rfl rfl (by kernel_rfl) (by kernel_rfl) (by kernel_rfl) (by kernel_rfl) hCl (fun _ _ _ h => h) (Or.inl ⟨by kernel_rfl, fun w' hSw => by rw [hoc]; kernel_rfl⟩) hS ?_
      clear hCl
      intro hCl
      simp only [Act.put, List.setIfInBounds_toArray, List.set_cons_zero, List.set_cons_succ]
      refine oneL (i := 7) rfl (by kernel_rfl) hCl (by kernel_rfl) (fun K1 hK1 => ?_)
      refine skipR (d := none) rfl (w' := Z.setCell ⟨g, oc, none⟩ (.int .i64 ((z + 1 : Nat) : Int))) (stN_run (.inr rfl) (.tmp 59) (.tmp 57) rfl (by kernel_rfl) (by kernel_rfl) hS hF) ?_
      refine hK1.out _ _ (fun h => absurd rfl h) ?_
      clear hK1 hCl hS hF
      intro hCl
      simp only [Act.put, List.setIfInBounds_toArray, List.set_cons_zero, List.set_cons_succ]
      refine doneL (by kernel_rfl) ?_
      clear hCl
      refine hK _ _ ?_
      clear hK
      have H3 : Hid (RbAt (Z.setCell ⟨g, oc, none⟩ (.int .i64 ((z + 1 : Nat) : Int))) g kv ((a.came line now).cnt (4 * line + 3)) ∧ Fr w (Z.setCell ⟨g, oc, none⟩ (.int .i64 ((z + 1 : Nat) : Int))) (fun x => x = g) ∧ By (Z.setCell ⟨g, oc, none⟩ (.int .i64 ((z + 1 : Nat) : Int))) v l) := by
        have hf := Fr.setCell Z ⟨g, oc, none⟩ (.int .i64 ((z + 1 : Nat) : Int)) (fun x => x = g) rfl
        have hab := H2d.out.1.bump (line := line) (c := 3) HLN.out (by decide) (by rw [← hz]; omega)
        rw [← hz, ← HO6.out, ← hoc] at hab
        exact ⟨hab, H2d.out.2.1.trans hf fun x _ q => q.elim id id, H2d.out.2.2.frR hf H2d.out.1⟩
      generalize Z.setCell ⟨g, oc, none⟩ (.int .i64 ((z + 1 : Nat) : Int)) = W3 at *
      generalize z = z10 at *
      clear H2d hz hoc hzb
      have HZ : Hid (∃ kv' out a', RkO w W3 g kv kv' (.slice none 0 0) out a' ∧ RHd a line now l w.heap.size out a' 200) := ⟨kv, [], _, RkO.nil H3.out.1 (fun q hq => .inl hq) H3.out.2.1, by unfold RHd; rw [HN.out]; exact ⟨rfl, rfl, rfl⟩⟩
      clear H3 HA
      go_wp2
      go_ret2
      exact ⟨_, _, rfl, HZ.out⟩
    case false =>
      have HN : Hid (rt l = some R) := by
        have h0 : R ≠ 0 := by simpa using hzb
        have h1 := HR.out
        show rt l = some R
        cases e : rt l with
        | none => rw [e] at h1; exact absurd h1 h0
        | some m => rw [e] at h1; rw [h1]; rfl
      have HM9 : Hid (9 ≤ l.length ∧ 1 ≤ R ∧ R ≤ 999999999) := rt_some HN.out
      clear HR hzb
      obtain ⟨X, hX⟩ : ∃ X, X = a.nx := ⟨_, rfl⟩
      have HX : Hid (X = a.nx) := hX
      clear hX
      have c2 : W2.cell? ⟨g, 2, none⟩ = some (.int .i64 (X : Int)) := by rw [HX.out]; exact H2.out.1.blk.cell 2
      obtain ⟨eb, heb⟩ : ∃ eb, (R == X) = eb := ⟨_, rfl⟩
      go_upto_region 12 with fail
      rename_i K hK
      refine wp_region_lit ?_
      refine wpList_runTo rfl (some 60) rfl (.int .i64 (R : Int)) W2 (by kernel_rfl) ?_
      simp only [Act.put, List.setIfInBounds_toArray, List.set_cons_zero, List.set_cons_succ]
      refine wpList_runTo rfl (some 61) rfl (.pointer (some ⟨g, 0, none⟩)) W2 (by kernel_rfl) ?_
      simp only [Act.put, List.setIfInBounds_toArray, List.set_cons_zero, List.set_cons_succ]
      refine wpList_runTo rfl (some 62) rfl (.pointer (some ⟨g, 0, none⟩)) W2 (by kernel_rfl) ?_
      simp only [Act.put, List.setIfInBounds_toArray, List.set_cons_zero, List.set_cons_succ]
      refine wpList_runTo rfl (some 63) rfl (.pointer (some ⟨g, 2, none⟩)) W2 (by kernel_rfl) ?_
      simp only [Act.put, List.setIfInBounds_toArray, List.set_cons_zero, List.set_cons_succ]
      refine wpList_runTo rfl (some 64) rfl (.int .i64 (X : Int)) W2 (by exact ldN_run (.inr rfl) (.tmp 63) rfl (by kernel_rfl) (c2)) ?_
      simp only [Act.put, List.setIfInBounds_toArray, List.set_cons_zero, List.set_cons_succ]
      refine wpList_runTo rfl (some 65) rfl (.bool eb) W2 (by exact eqN_run (p := R) (q := X) (.tmp 60) (.tmp 64) rfl (by kernel_rfl) (by kernel_rfl) heb _) ?_
      simp only [Act.put, List.setIfInBounds_toArray, List.set_cons_zero, List.set_cons_succ]
      refine wpList_nil ?_
      refine hK _ _ ?_
      clear hK
      clear c2
      cases eb
      case true =>
        have heq1 : R = X := by simpa using heb
        have HEQ : Hid (R = a.nx) := heq1.trans HX.out
        clear heb heq1
        go_upto_region 13 with fail
        have hbw : Below W2.heap.size W2 W2.drew := ⟨rfl, rfl, rfl, Nat.le_refl _, fun _ _ => rfl⟩
        have H2d : Hid (RbAt W2.drew g kv (a.came line now) ∧ Fr w W2.drew (fun x => x = g) ∧ By W2.drew v l) := ⟨H2.out.1.below hbw, H2.out.2.1.trans (Fr.of_below hbw (fun _ => False)) fun x _ q => q.elim id False.elim, H2.out.2.2.below hbw⟩
        clear hbw H2
        obtain ⟨z, hz⟩ : ∃ z, z = (a.came line now).cn (4 * line + 1) := ⟨_, rfl⟩
        obtain ⟨oc, hoc⟩ : ∃ oc, oc = o6 + 1 := ⟨_, rfl⟩
        rename_i K hK
        refine wp_region_late (fun w' => w'.cell? ⟨g, oc, none⟩ = some (.int .i64 (z : Int))) 7 (by kernel_rfl) ?_
        intro hCl
        generalize W2.drew = Z at *
        change wpAnyL _ _ _ _ _ _ 8 _ _ _
        have hS : Z.cell? ⟨g, oc, none⟩ = some (.int .i64 (z : Int)) := by rw [hoc, HO6.out, hz]; exact RbAt.cell_cn H2d.out.1 HLN.out (by decide)
        have hF : Z.frozen? ⟨g, oc, none⟩ = false := H2d.out.1.blk.frozen oc
        have hzb : z + 1 ≤ 1000000000000 := by rw [hz]; have := HA.out.2.2.2.2 (4 * line + 1); have := (bmp_le a.cn (4 * line) (4 * line + 1)).2; show bmp a.cn (4 * line) (4 * line + 1) + 1 ≤ _; omega
        refine takeL (i := 0) (v := .pointer (some ⟨g, o6, none⟩)) 7 (some 66) rfl rfl (by kernel_rfl) (by kernel_rfl) (by kernel_rfl) (by kernel_rfl) hCl (fun _ _ _ h => h) (Or.inl ⟨by kernel_rfl, fun w' hSw => by kernel_rfl⟩) hS ?_
        clear hCl
        intro hCl
        simp only [Act.put, List.setIfInBounds_toArray, List.set_cons_zero, List.set_cons_succ]
        refine takeL (i := 1) (v := .pointer (some ⟨g, o6, none⟩)) 7 (some 67) rfl rfl (by kernel_rfl) (by kernel_rfl) (by kernel_rfl) (by kernel_rfl) hCl (fun _ _ _ h => h) (Or.inl ⟨by kernel_rfl, fun w' hSw => by kernel_rfl⟩) hS ?_
        clear hCl
        intro hCl
        simp only [Act.put, List.setIfInBounds_toArray, List.set_cons_zero, List.set_cons_succ]
        refine takeL (i := 2) (v := .pointer (some ⟨g, oc, none⟩)) 7 (some 68) rfl rfl (by kernel_rfl) (by kernel_rfl) (by kernel_rfl) (by kernel_rfl) hCl (fun _ _ _ h => h) (Or.inl ⟨by kernel_rfl, fun w' hSw => by rw [hoc]; kernel_rfl⟩) hS ?_
        clear hCl
        intro hCl
        simp only [Act.put, List.setIfInBounds_toArray, List.set_cons_zero, List.set_cons_succ]
        refine takeL (i := 3) (v := .int .i64 (z : Int)) 7 (some 69) rfl rfl (by kernel_rfl) (by kernel_rfl) (by kernel_rfl) (by kernel_rfl) hCl (fun _ _ _ h => h) (Or.inl ⟨by kernel_rfl, fun w' hSw => by exact ldN_run (.inr rfl) (.tmp 68) rfl (by kernel_rfl) hSw⟩) hS ?_
        clear hCl
        intro hCl
        simp only [Act.put, List.setIfInBounds_toArray, List.set_cons_zero, List.set_cons_succ]
        refine takeL (i := 4) (v := .int .i64 ((z + 1 : Nat) : Int)) 7 (some 70) rfl rfl (by kernel_rfl) (by kernel_rfl) (by kernel_rfl) (by kernel_rfl) hCl (fun _ _ _ h => h) (Or.inl ⟨by kernel_rfl, fun w' hSw => by exact addN_run (p := z) (q := 1) (.tmp 69) (.const (.int .i64 1)) rfl (by kernel_rfl) rfl (by omega) _⟩) hS ?_
        clear hCl
        intro hCl
        simp only [Act.put, List.setIfInBounds_toArray, List.set_cons_zero, List.set_cons_succ]
        refine takeL (i := 5) (v := .pointer (some ⟨g, o6, none⟩)) 7 (some 71) rfl rfl (by kernel_rfl) (by kernel_rfl) (by kernel_rfl) (by kernel_rfl) hCl (fun _ _ _ h => h) (Or.inl ⟨by kernel_rfl, fun w' hSw => by kernel_rfl⟩) hS ?_
        clear hCl
        intro hCl
        simp only [Act.put, List.setIfInBounds_toArray, List.set_cons_zero, List.set_cons_succ]
        refine takeL (i := 6) (v := .pointer (some ⟨g, oc, none⟩)) 7 (some 72) rfl rfl (by kernel_rfl) (by kernel_rfl) (by kernel_rfl) (by kernel_rfl) hCl (fun _ _ _ h => h) (Or.inl ⟨by kernel_rfl, fun w' hSw => by rw [hoc]; kernel_rfl⟩) hS ?_
        clear hCl
        intro hCl
        simp only [Act.put, List.setIfInBounds_toArray, List.set_cons_zero, List.set_cons_succ]
        refine oneL (i := 7) rfl (by kernel_rfl) hCl (by kernel_rfl) (fun K1 hK1 => ?_)
        refine skipR (d := none) rfl (w' := Z.setCell ⟨g, oc, none⟩ (.int .i64 ((z + 1 : Nat) : Int))) (stN_run (.inr rfl) (.tmp 72) (.tmp 70) rfl (by kernel_rfl) (by kernel_rfl) hS hF) ?_
        refine hK1.out _ _ (fun h => absurd rfl h) ?_
        clear hK1 hCl hS hF
        intro hCl
        simp only [Act.put, List.setIfInBounds_toArray, List.set_cons_zero, List.set_cons_succ]
        refine doneL (by kernel_rfl) ?_
        clear hCl
        refine hK _ _ ?_
        clear hK
        have H3 : Hid (RbAt (Z.setCell ⟨g, oc, none⟩ (.int .i64 ((z + 1 : Nat) : Int))) g kv ((a.came line now).cnt (4 * line + 1)) ∧ Fr w (Z.setCell ⟨g, oc, none⟩ (.int .i64 ((z + 1 : Nat) : Int))) (fun x => x = g) ∧ By (Z.setCell ⟨g, oc, none⟩ (.int .i64 ((z + 1 : Nat) : Int))) v l) := by
          have hf := Fr.setCell Z ⟨g, oc, none⟩ (.int .i64 ((z + 1 : Nat) : Int)) (fun x => x = g) rfl
          have hab := H2d.out.1.bump (line := line) (c := 1) HLN.out (by decide) (by rw [← hz]; omega)
          rw [← hz, ← HO6.out, ← hoc] at hab
          exact ⟨hab, H2d.out.2.1.trans hf fun x _ q => q.elim id id, H2d.out.2.2.frR hf H2d.out.1⟩
        generalize Z.setCell ⟨g, oc, none⟩ (.int .i64 ((z + 1 : Nat) : Int)) = W3 at *
        generalize z = z13 at *
        clear H2d hz hoc hzb
        have c2 : W3.cell? ⟨g, 2, none⟩ = some (.int .i64 (X : Int)) := by rw [HX.out]; exact H3.out.1.blk.cell 2
        have f2 : W3.frozen? ⟨g, 2, none⟩ = false := H3.out.1.blk.frozen 2
        have hXb : X + 1 ≤ 9223372036854775807 := by have := HM9.out.2.2; have := HEQ.out; have := HX.out; omega
        have H4 : Hid (RbAt (W3.setCell ⟨g, 2, none⟩ (.int .i64 ((X + 1 : Nat) : Int))) g kv { (a.came line now).cnt (4 * line + 1) with nx := a.nx + 1 } ∧ Fr w (W3.setCell ⟨g, 2, none⟩ (.int .i64 ((X + 1 : Nat) : Int))) (fun x => x = g) ∧ By (W3.setCell ⟨g, 2, none⟩ (.int .i64 ((X + 1 : Nat) : Int))) v l) := by
          have hbd := H3.out.1.bd
          have hf := Fr.setCell W3 ⟨g, 2, none⟩ (.int .i64 ((X + 1 : Nat) : Int)) (fun x => x = g) rfl
          have hNb := HM9.out.2.2
          have hq := HEQ.out
          refine ⟨?_, H3.out.2.1.trans hf fun x _ q => q.elim id id, H3.out.2.2.frR hf H3.out.1⟩
          rw [HX.out]
          exact H3.out.1.put _ 2 _ rfl H3.out.1.row H3.out.1.pk ⟨hbd.w1, hbd.w2, hbd.p0, hbd.p1, by show a.nx + 1 ≤ _; omega, hbd.s0, hbd.s1, hbd.l0, hbd.l1, hbd.kn, hbd.cn, hbd.len⟩ H3.out.1.so
        go_upto_region 14 with fail
        rename_i K hK
        refine wp_region_lit ?_
        refine wpList_runTo rfl (some 73) rfl (.pointer (some ⟨g, 0, none⟩)) W3 (by kernel_rfl) ?_
        simp only [Act.put, List.setIfInBounds_toArray, List.set_cons_zero, List.set_cons_succ]
        refine wpList_runTo rfl (some 74) rfl (.pointer (some ⟨g, 0, none⟩)) W3 (by kernel_rfl) ?_
        simp only [Act.put, List.setIfInBounds_toArray, List.set_cons_zero, List.set_cons_succ]
        refine wpList_runTo rfl (some 75) rfl (.pointer (some ⟨g, 2, none⟩)) W3 (by kernel_rfl) ?_
        simp only [Act.put, List.setIfInBounds_toArray, List.set_cons_zero, List.set_cons_succ]
        refine wpList_runTo rfl (some 76) rfl (.int .i64 (X : Int)) W3 (by exact ldN_run (.inr rfl) (.tmp 75) rfl (by kernel_rfl) (c2)) ?_
        simp only [Act.put, List.setIfInBounds_toArray, List.set_cons_zero, List.set_cons_succ]
        refine wpList_runTo rfl (some 77) rfl (.int .i64 ((X + 1 : Nat) : Int)) W3 (by exact addN_run (p := X) (q := 1) (.tmp 76) (.const (.int .i64 1)) rfl (by kernel_rfl) rfl hXb _) ?_
        simp only [Act.put, List.setIfInBounds_toArray, List.set_cons_zero, List.set_cons_succ]
        refine wpList_runTo rfl (some 78) rfl (.pointer (some ⟨g, 0, none⟩)) W3 (by kernel_rfl) ?_
        simp only [Act.put, List.setIfInBounds_toArray, List.set_cons_zero, List.set_cons_succ]
        refine wpList_runTo rfl (some 79) rfl (.pointer (some ⟨g, 2, none⟩)) W3 (by kernel_rfl) ?_
        simp only [Act.put, List.setIfInBounds_toArray, List.set_cons_zero, List.set_cons_succ]
        refine wpList_skipW rfl none rfl (w' := W3.setCell ⟨g, 2, none⟩ (.int .i64 ((X + 1 : Nat) : Int))) (stN_run (.inr rfl) (.tmp 79) (.tmp 77) rfl (by kernel_rfl) (by kernel_rfl) c2 f2) ?_
        simp only [Act.put, List.setIfInBounds_toArray, List.set_cons_zero, List.set_cons_succ]
        refine wpList_nil ?_
        refine hK _ _ ?_
        clear hK
        generalize W3.setCell ⟨g, 2, none⟩ (.int .i64 ((X + 1 : Nat) : Int)) = W4 at *
        generalize ((X + 1 : Nat) : Int) = x1
        clear c2 f2 hXb H3
        have hcp := copied_any H4.out.2.2 HA.out.2.2.1
        go_upto_region 15 with fail
        rename_i K hK
        refine wp_region_lit ?_
        refine wpList_runTo rfl (some 80) rfl (.pointer (some ⟨g, 0, none⟩)) W4 (by kernel_rfl) ?_
        simp only [Act.put, List.setIfInBounds_toArray, List.set_cons_zero, List.set_cons_succ]
        refine wpList_runTo rfl (some 81) rfl (v) W4 (by kernel_rfl) ?_
        simp only [Act.put, List.setIfInBounds_toArray, List.set_cons_zero, List.set_cons_succ]
        refine wpList_callW rfl (some 82) rfl 49 #[v] (by kernel_rfl) hcp ?_
        clear hcp
        rintro e W5 ⟨v5, rfl, hx⟩
        refine ⟨_, rfl, ?_⟩
        simp only [Act.put, List.setIfInBounds_toArray, List.set_cons_zero, List.set_cons_succ]
        have hvf : ∃ a n c, v5 = .slice a n c := by
          obtain ⟨ao, c, e, _⟩ := hx.out.row.form
          exact ⟨ao, _, c, e⟩
        have hal : Below W5.heap.size W5 (W5.alloc (.cells #[v5] 35)) := (Below.refl _ W5).alloc (Nat.le_refl _) _
        have HP : Hid (PkAt W5 ⟨R, v5, l⟩ ∧ (∀ q, v5.ownBlock = some q → W4.heap.size ≤ q) ∧ Below W4.heap.size W4 W5) := by
          refine ⟨⟨hx.out.row, hx.out.bb, fun e => ?_⟩, hx.out.low, hx.out.bel⟩
          have h9 := HM9.out.1
          have e' : l = [] := e
          rw [e'] at h9
          simp at h9
        have H6 : Hid (RbAt (W5.alloc (.cells #[v5] 35)) g kv { (a.came line now).cnt (4 * line + 1) with nx := a.nx + 1 }) := (H4.out.1.below HP.out.2.2).below hal
        have hgv := rGives_any H6.out row1B (Nat.le_refl 1)
        clear hx
        refine wpList_runTo rfl (some 83) rfl (.slice (some ⟨W5.heap.size, 0, none⟩) 1 1) (W5.alloc (.cells #[v5] 35)) (by exact build1_run hvf (.tmp 82) rfl (by kernel_rfl) _) ?_
        simp only [Act.put, List.setIfInBounds_toArray, List.set_cons_zero, List.set_cons_succ]
        refine wpList_callW rfl (some 84) rfl 44 #[.pointer (some ⟨g, 0, none⟩), .slice (some ⟨W5.heap.size, 0, none⟩) 1 1] (by kernel_rfl) hgv ?_
        clear hgv
        rintro e W7 ⟨v7, rfl, hx⟩
        refine ⟨_, rfl, ?_⟩
        simp only [Act.put, List.setIfInBounds_toArray, List.set_cons_zero, List.set_cons_succ]
        refine wpList_runTo rfl (some 8) rfl (v7) W7 (by kernel_rfl) ?_
        simp only [Act.put, List.setIfInBounds_toArray, List.set_cons_zero, List.set_cons_succ]
        refine wpList_runTo rfl (some 9) rfl (.int .i64 0) W7 (by kernel_rfl) ?_
        simp only [Act.put, List.setIfInBounds_toArray, List.set_cons_zero, List.set_cons_succ]
        refine wpList_nil ?_
        refine hK _ _ ?_
        clear hK
        have HZ : Hid (∃ kv' out a', RkO w W7 g kv kv' v7 out a' ∧ RHd a line now l w.heap.size out a' 0) := by
          obtain ⟨i, kv', h1⟩ := hx.out
          have hs45 := HP.out.2.2.size
          have hs04 := H4.out.2.1.size
          have hf : Fr w (W5.alloc (.cells #[v5] 35)) (fun x => x = g) := (H4.out.2.1.trans (Fr.of_below HP.out.2.2 (fun _ => False)) fun x _ q => q.elim id False.elim).trans (Fr.of_below hal (fun _ => False)) fun x _ q => q.elim id False.elim
          have hk6 : PkAt (W5.alloc (.cells #[v5] 35)) ⟨R, v5, l⟩ := HP.out.1.fr (Fr.of_below hal (fun _ => False)) fun _ _ => id
          obtain ⟨out, a', h2, h3⟩ := RgO.next (a := (a.came line now).cnt (4 * line + 1)) (k := ⟨R, v5, l⟩) HEQ.out HA.out.2.2.2.1 HA.out.1.so hf (fun q hq => by
            have e : W5.heap.size = q := by injection hq
            omega) hk6 (fun q hq e => by
            obtain ⟨hq5, cur, hc⟩ := HP.out.1.1.lt hq
            have hlo := HP.out.2.1 q hq
            rcases e with e | e
            · have := H4.out.1.blk.lt
              omega
            · have e2 : W5.heap.size = q := by injection e
              omega) h1
          refine ⟨kv', out, a', h2, ?_⟩
          unfold RHd
          rw [HN.out]
          have hfn : fnd a.ks R = none := fnd_of fun q hq e => by
            have := HA.out.2.2.2.1 q hq
            have := HEQ.out
            omega
          refine ⟨rfl, .inr (.inr ⟨?_, ?_, ⟨R, v5, l⟩, rfl, rfl, fun q hq => ?_, h3⟩)⟩
          · unfold hrB
            rw [hfn, HEQ.out]
            simp
          · rw [HEQ.out]
            have := HA.out.1.bd.w1
            omega
          · have := HP.out.2.1 q hq
            omega
        generalize (Value.slice (some ⟨W5.heap.size, 0, none⟩) 1 1) = s83
        clear hx H6 HP H4 HA hal hvf
        go_wp2
        go_ret2
        exact ⟨_, _, rfl, HZ.out⟩
      case false =>
        have hne1 : R ≠ X := by simpa using heb
        have HNE : Hid (R ≠ a.nx) := fun e => hne1 (e.trans HX.out.symm)
        clear heb hne1
        obtain ⟨un, hun⟩ : ∃ un : Value, un = undef := ⟨_, rfl⟩
        go_upto_region 17 with fail
        go_loopw [13] (fun x wr => ∃ i : Nat, x = .int .i64 (i : Int) ∧ i ≤ n ∧ Hid (RbAt wr g kv (a.came line now) ∧ Fr w wr (fun x => x = g) ∧ By wr v l ∧ Plc a.ks R i)) (fun x _ => n - (intOf x).toNat)
        case atStart => exact ⟨0, rfl, Nat.zero_le _, H2.out.1, H2.out.2.1, H2.out.2.2, Nat.zero_le _, fun j _ hj => by omega⟩
        case round =>
          clear H2
          obtain ⟨i, rfl, hin, HL⟩ := hrel
          have H2 : Hid (RbAt wr g kv (a.came line now) ∧ Fr w wr (fun x => x = g) ∧ By wr v l) := ⟨HL.out.1, HL.out.2.1, HL.out.2.2.1⟩
          have HPL : Hid (Plc a.ks R i) := HL.out.2.2.2
          clear HL
          have c3 : wr.cell? ⟨g, 3, none⟩ = some kv := H2.out.1.blk.cell 3
          have c2 : wr.cell? ⟨g, 2, none⟩ = some (.int .i64 (X : Int)) := by rw [HX.out]; exact H2.out.1.blk.cell 2
          by_cases hlt : i < n
          · obtain ⟨k, hk⟩ : ∃ k, a.ks[i]? = some k := ⟨_, List.getElem?_eq_getElem (by rw [← HNL.out]; exact hlt)⟩
            obtain ⟨m, hm⟩ : ∃ m, m = k.n := ⟨_, rfl⟩
            obtain ⟨kq, ko, hkq, cq⟩ : ∃ kq ko, kv = .slice (some ⟨kq, ko, none⟩) n c ∧ wr.cell? ⟨kq, ko + i * 2, none⟩ = some (.int .i64 (m : Int)) := by
              obtain ⟨kq, ko, qc, e1, e2, _⟩ := (show RowAt wr 101 2 kv a.ks.length (kV a.ks) from H2.out.1.row).at2 hk
              have e3 := e1
              rw [hkv] at e3
              injection e3 with e4 e5 e6
              exact ⟨kq, ko, by rw [hkv, e4], by rw [e2, hm]⟩
            have HK : Hid (a.ks[i]? = some k ∧ m = k.n) := ⟨hk, hm⟩
            clear hk hm
            obtain ⟨mb, hmb⟩ : ∃ mb, decide (m < R) = mb := ⟨_, rfl⟩
            go_upto_region 17 with fail
            rename_i K hK
            refine wp_region_lit ?_
            refine wpList_runTo rfl (some 85) rfl (.int .i64 (i : Int)) wr (by kernel_rfl) ?_
            simp only [Act.put, List.setIfInBounds_toArray, List.set_cons_zero, List.set_cons_succ]
            refine wpList_runTo rfl (some 86) rfl (.pointer (some ⟨g, 0, none⟩)) wr (by kernel_rfl) ?_
            simp only [Act.put, List.setIfInBounds_toArray, List.set_cons_zero, List.set_cons_succ]
            refine wpList_runTo rfl (some 87) rfl (.pointer (some ⟨g, 0, none⟩)) wr (by kernel_rfl) ?_
            simp only [Act.put, List.setIfInBounds_toArray, List.set_cons_zero, List.set_cons_succ]
            refine wpList_runTo rfl (some 88) rfl (.pointer (some ⟨g, 3, none⟩)) wr (by kernel_rfl) ?_
            simp only [Act.put, List.setIfInBounds_toArray, List.set_cons_zero, List.set_cons_succ]
            refine wpList_runTo rfl (some 89) rfl (kv) wr (by exact ldK_run (.tmp 88) rfl (by kernel_rfl) (c3)) ?_
            simp only [Act.put, List.setIfInBounds_toArray, List.set_cons_zero, List.set_cons_succ]
            refine wpList_runTo rfl (some 90) rfl (.int .i64 (n : Int)) wr (by exact lenK_run hkv (.tmp 89) rfl (by kernel_rfl) _) ?_
            simp only [Act.put, List.setIfInBounds_toArray, List.set_cons_zero, List.set_cons_succ]
            refine wpList_runTo rfl (some 91) rfl (.bool true) wr (by exact ltN_run (n := i) (k := n) (.tmp 85) (.tmp 90) rfl (by kernel_rfl) (by kernel_rfl) (decide_eq_true hlt) _) ?_
            simp only [Act.put, List.setIfInBounds_toArray, List.set_cons_zero, List.set_cons_succ]
            refine wpList_runTo rfl (some 92) rfl (.bool true) wr (by kernel_rfl) ?_
            simp only [Act.put, List.setIfInBounds_toArray, List.set_cons_zero, List.set_cons_succ]
            refine wpList_runToG (by kernel_rfl) (some 93) rfl (.pointer (some ⟨g, 0, none⟩)) wr (by kernel_rfl) ?_
            simp only [Act.put, List.setIfInBounds_toArray, List.set_cons_zero, List.set_cons_succ]
            refine wpList_runToG (by kernel_rfl) (some 94) rfl (.pointer (some ⟨g, 0, none⟩)) wr (by kernel_rfl) ?_
            simp only [Act.put, List.setIfInBounds_toArray, List.set_cons_zero, List.set_cons_succ]
            refine wpList_runToG (by kernel_rfl) (some 95) rfl (.pointer (some ⟨g, 3, none⟩)) wr (by kernel_rfl) ?_
            simp only [Act.put, List.setIfInBounds_toArray, List.set_cons_zero, List.set_cons_succ]
            refine wpList_runToG (by kernel_rfl) (some 96) rfl (kv) wr (by exact ldK_run (.tmp 95) rfl (by kernel_rfl) (c3)) ?_
            simp only [Act.put, List.setIfInBounds_toArray, List.set_cons_zero, List.set_cons_succ]
            refine wpList_runToG (by kernel_rfl) (some 97) rfl (.int .i64 (i : Int)) wr (by kernel_rfl) ?_
            simp only [Act.put, List.setIfInBounds_toArray, List.set_cons_zero, List.set_cons_succ]
            refine wpList_runToG (by kernel_rfl) (some 98) rfl (.pointer (some ⟨kq, ko + i * 2, none⟩)) wr (by exact ixKV_run (i := i) hkq (.tmp 96) (.tmp 97) rfl (by kernel_rfl) (by kernel_rfl) hlt _) ?_
            simp only [Act.put, List.setIfInBounds_toArray, List.set_cons_zero, List.set_cons_succ]
            refine wpList_runToG (by kernel_rfl) (some 99) rfl (.pointer (some ⟨kq, ko + i * 2, none⟩)) wr (by kernel_rfl) ?_
            simp only [Act.put, List.setIfInBounds_toArray, List.set_cons_zero, List.set_cons_succ]
            refine wpList_runToG (by kernel_rfl) (some 100) rfl (.int .i64 (m : Int)) wr (by exact ldN_run (.inr rfl) (.tmp 99) rfl (by kernel_rfl) (cq)) ?_
            simp only [Act.put, List.setIfInBounds_toArray, List.set_cons_zero, List.set_cons_succ]
            refine wpList_runToG (by kernel_rfl) (some 101) rfl (.int .i64 (R : Int)) wr (by kernel_rfl) ?_
            simp only [Act.put, List.setIfInBounds_toArray, List.set_cons_zero, List.set_cons_succ]
            refine wpList_runToG (by kernel_rfl) (some 102) rfl (.bool mb) wr (by exact ltN_run (n := m) (k := R) (.tmp 100) (.tmp 101) rfl (by kernel_rfl) (by kernel_rfl) hmb _) ?_
            simp only [Act.put, List.setIfInBounds_toArray, List.set_cons_zero, List.set_cons_succ]
            refine wpList_runTo rfl (some 103) rfl (.bool mb) wr (by kernel_rfl) ?_
            simp only [Act.put, List.setIfInBounds_toArray, List.set_cons_zero, List.set_cons_succ]
            refine wpList_nil ?_
            refine hK _ _ ?_
            clear hK
            cases mb
            case true =>
              have HN1 : Hid (Plc a.ks R (i + 1)) := by
                have hmr : m < R := by simpa using hmb
                refine ⟨by rw [← HNL.out]; exact hlt, fun j q hj hq => ?_⟩
                by_cases e : j = i
                · subst e
                  rw [HK.out.1] at hq
                  injection hq with hq
                  rw [← hq, ← HK.out.2]
                  exact hmr
                · exact HPL.out.lo j q (by omega) hq
              have HW : Hid (RbAt wr g kv (a.came line now) ∧ Fr w wr (fun x => x = g) ∧ By wr v l) := H2
              have hib : i + 1 ≤ 2000000000001 := by have := HKL.out; have := HNL.out; omega
              clear hmb H2 HPL c3 c2 cq
              go_wp2
              exact ⟨⟨i + 1, by go_num, by omega, HW.out.1, HW.out.2.1, HW.out.2.2, HN1.out⟩, by simp [intOf]; omega⟩
            case false =>
              have hmr0 : ¬ m < R := by simpa using hmb
              have hmr : R ≤ m := by omega
              clear hmb hmr0
              obtain ⟨xb, hxb⟩ : ∃ xb, decide (R < X) = xb := ⟨_, rfl⟩
              cases xb
              case true =>
                have HHR : Hid (hrB a R = true) := by
                  show hrB a R = true
                  unfold hrB
                  rw [← HX.out, hxb, Bool.or_true]
                obtain ⟨bt, hbt⟩ : ∃ bt : Bool, bt = true := ⟨_, rfl⟩
                rw [← hbt] at hxb
                go_upto_region 19 with fail
                rename_i K hK
                refine wp_region_lit ?_
                refine wpList_runTo rfl (some 107) rfl (.int .i64 (R : Int)) wr (by kernel_rfl) ?_
                simp only [Act.put, List.setIfInBounds_toArray, List.set_cons_zero, List.set_cons_succ]
                refine wpList_runTo rfl (some 108) rfl (.pointer (some ⟨g, 0, none⟩)) wr (by kernel_rfl) ?_
                simp only [Act.put, List.setIfInBounds_toArray, List.set_cons_zero, List.set_cons_succ]
                refine wpList_runTo rfl (some 109) rfl (.pointer (some ⟨g, 0, none⟩)) wr (by kernel_rfl) ?_
                simp only [Act.put, List.setIfInBounds_toArray, List.set_cons_zero, List.set_cons_succ]
                refine wpList_runTo rfl (some 110) rfl (.pointer (some ⟨g, 2, none⟩)) wr (by kernel_rfl) ?_
                simp only [Act.put, List.setIfInBounds_toArray, List.set_cons_zero, List.set_cons_succ]
                refine wpList_runTo rfl (some 111) rfl (.int .i64 (X : Int)) wr (by exact ldN_run (.inr rfl) (.tmp 110) rfl (by kernel_rfl) (c2)) ?_
                simp only [Act.put, List.setIfInBounds_toArray, List.set_cons_zero, List.set_cons_succ]
                refine wpList_runTo rfl (some 112) rfl (.bool bt) wr (by exact ltN_run (n := R) (k := X) (.tmp 107) (.tmp 111) rfl (by kernel_rfl) (by kernel_rfl) hxb _) ?_
                simp only [Act.put, List.setIfInBounds_toArray, List.set_cons_zero, List.set_cons_succ]
                refine wpList_runTo rfl (some 113) rfl (.bool bt) wr (by kernel_rfl) ?_
                simp only [Act.put, List.setIfInBounds_toArray, List.set_cons_zero, List.set_cons_succ]
                refine wpList_skipU hun (by subst hbt; kernel_rfl) (some 114) rfl ?_
                simp only [Act.put, List.setIfInBounds_toArray, List.set_cons_zero, List.set_cons_succ]
                refine wpList_skipU hun (by subst hbt; kernel_rfl) (some 115) rfl ?_
                simp only [Act.put, List.setIfInBounds_toArray, List.set_cons_zero, List.set_cons_succ]
                refine wpList_skipU hun (by subst hbt; kernel_rfl) (some 116) rfl ?_
                simp only [Act.put, List.setIfInBounds_toArray, List.set_cons_zero, List.set_cons_succ]
                refine wpList_skipU hun (by subst hbt; kernel_rfl) (some 117) rfl ?_
                simp only [Act.put, List.setIfInBounds_toArray, List.set_cons_zero, List.set_cons_succ]
                refine wpList_skipU hun (by subst hbt; kernel_rfl) (some 118) rfl ?_
                simp only [Act.put, List.setIfInBounds_toArray, List.set_cons_zero, List.set_cons_succ]
                refine wpList_skipU hun (by subst hbt; kernel_rfl) (some 119) rfl ?_
                simp only [Act.put, List.setIfInBounds_toArray, List.set_cons_zero, List.set_cons_succ]
                refine wpList_skipU hun (by subst hbt; kernel_rfl) (some 120) rfl ?_
                simp only [Act.put, List.setIfInBounds_toArray, List.set_cons_zero, List.set_cons_succ]
                refine wpList_skipU hun (by subst hbt; kernel_rfl) (some 121) rfl ?_
                simp only [Act.put, List.setIfInBounds_toArray, List.set_cons_zero, List.set_cons_succ]
                refine wpList_skipU hun (by subst hun hbt; kernel_rfl) (some 122) rfl ?_
                simp only [Act.put, List.setIfInBounds_toArray, List.set_cons_zero, List.set_cons_succ]
                refine wpList_skipU hun (by subst hun hbt; kernel_rfl) (some 123) rfl ?_
                simp only [Act.put, List.setIfInBounds_toArray, List.set_cons_zero, List.set_cons_succ]
                refine wpList_skipU hun (by subst hun hbt; kernel_rfl) (some 124) rfl ?_
                simp only [Act.put, List.setIfInBounds_toArray, List.set_cons_zero, List.set_cons_succ]
                refine wpList_skipU hun (by subst hun hbt; kernel_rfl) (some 125) rfl ?_
                simp only [Act.put, List.setIfInBounds_toArray, List.set_cons_zero, List.set_cons_succ]
                refine wpList_skipU hun (by subst hun hbt; kernel_rfl) (some 126) rfl ?_
                simp only [Act.put, List.setIfInBounds_toArray, List.set_cons_zero, List.set_cons_succ]
                refine wpList_skipU hun (by subst hun hbt; kernel_rfl) (some 127) rfl ?_
                simp only [Act.put, List.setIfInBounds_toArray, List.set_cons_zero, List.set_cons_succ]
                refine wpList_skipU hun (by subst hun hbt; kernel_rfl) (some 128) rfl ?_
                simp only [Act.put, List.setIfInBounds_toArray, List.set_cons_zero, List.set_cons_succ]
                refine wpList_skipU hun (by subst hun hbt; kernel_rfl) (some 129) rfl ?_
                simp only [Act.put, List.setIfInBounds_toArray, List.set_cons_zero, List.set_cons_succ]
                refine wpList_skipU hun (by subst hun hbt; kernel_rfl) (some 130) rfl ?_
                simp only [Act.put, List.setIfInBounds_toArray, List.set_cons_zero, List.set_cons_succ]
                refine wpList_skipU hun (by subst hun hbt; kernel_rfl) (some 131) rfl ?_
                simp only [Act.put, List.setIfInBounds_toArray, List.set_cons_zero, List.set_cons_succ]
                refine wpList_skipU hun (by subst hbt; kernel_rfl) (some 132) rfl ?_
                simp only [Act.put, List.setIfInBounds_toArray, List.set_cons_zero, List.set_cons_succ]
                refine wpList_runTo rfl (some 133) rfl (.bool true) wr (by subst hbt; kernel_rfl) ?_
                simp only [Act.put, List.setIfInBounds_toArray, List.set_cons_zero, List.set_cons_succ]
                refine wpList_runTo rfl (some 106) rfl (.bool true) wr (by kernel_rfl) ?_
                simp only [Act.put, List.setIfInBounds_toArray, List.set_cons_zero, List.set_cons_succ]
                refine wpList_nil ?_
                refine hK _ _ ?_
                clear hK
                clear hxb c3 c2 cq
                go_upto_region 20 with fail
                have hbw : Below wr.heap.size wr wr.drew := ⟨rfl, rfl, rfl, Nat.le_refl _, fun _ _ => rfl⟩
                have H2d : Hid (RbAt wr.drew g kv (a.came line now) ∧ Fr w wr.drew (fun x => x = g) ∧ By wr.drew v l) := ⟨H2.out.1.below hbw, H2.out.2.1.trans (Fr.of_below hbw (fun _ => False)) fun x _ q => q.elim id False.elim, H2.out.2.2.below hbw⟩
                clear hbw H2
                obtain ⟨z, hz⟩ : ∃ z, z = (a.came line now).cn (4 * line + 2) := ⟨_, rfl⟩
                obtain ⟨oc, hoc⟩ : ∃ oc, oc = o6 + 2 := ⟨_, rfl⟩
                rename_i K hK
                refine wp_region_late (fun w' => w'.cell? ⟨g, oc, none⟩ = some (.int .i64 (z : Int))) 7 (by kernel_rfl) ?_
                intro hCl
                generalize wr.drew = Z at *
                change wpAnyL _ _ _ _ _ _ 8 _ _ _
                have hS : Z.cell? ⟨g, oc, none⟩ = some (.int .i64 (z : Int)) := by rw [hoc, HO6.out, hz]; exact RbAt.cell_cn H2d.out.1 HLN.out (by decide)
                have hF : Z.frozen? ⟨g, oc, none⟩ = false := H2d.out.1.blk.frozen oc
                have hzb : z + 1 ≤ 1000000000000 := by rw [hz]; have := HA.out.2.2.2.2 (4 * line + 2); have := (bmp_le a.cn (4 * line) (4 * line + 2)).2; show bmp a.cn (4 * line) (4 * line + 2) + 1 ≤ _; omega
                refine takeL (i := 0) (v := .pointer (some ⟨g, o6, none⟩)) 7 (some 134) rfl rfl (by kernel_rfl) (by kernel_rfl) (by kernel_rfl) (by kernel_rfl) hCl (fun _ _ _ h => h) (Or.inl ⟨by kernel_rfl, fun w' hSw => by kernel_rfl⟩) hS ?_
                clear hCl
                intro hCl
                simp only [Act.put, List.setIfInBounds_toArray, List.set_cons_zero, List.set_cons_succ]
                refine takeL (i := 1) (v := .pointer (some ⟨g, o6, none⟩)) 7 (some 135) rfl rfl (by kernel_rfl) (by kernel_rfl) (by kernel_rfl) (by kernel_rfl) hCl (fun _ _ _ h => h) (Or.inl ⟨by kernel_rfl, fun w' hSw => by kernel_rfl⟩) hS ?_
                clear hCl
                intro hCl
                simp only [Act.put, List.setIfInBounds_toArray, List.set_cons_zero, List.set_cons_succ]
                refine takeL (i := 2) (v := .pointer (some ⟨g, oc, none⟩)) 7 (some 136) rfl rfl (by kernel_rfl) (by kernel_rfl) (by kernel_rfl) (by kernel_rfl) hCl (fun _ _ _ h => h) (Or.inl ⟨by kernel_rfl, fun w' hSw => by rw [hoc]; kernel_rfl⟩) hS ?_
                clear hCl
                intro hCl
                simp only [Act.put, List.setIfInBounds_toArray, List.set_cons_zero, List.set_cons_succ]
                refine takeL (i := 3) (v := .int .i64 (z : Int)) 7 (some 137) rfl rfl (by kernel_rfl) (by kernel_rfl) (by kernel_rfl) (by kernel_rfl) hCl (fun _ _ _ h => h) (Or.inl ⟨by kernel_rfl, fun w' hSw => by exact ldN_run (.inr rfl) (.tmp 136) rfl (by kernel_rfl) hSw⟩) hS ?_
                clear hCl
                intro hCl
                simp only [Act.put, List.setIfInBounds_toArray, List.set_cons_zero, List.set_cons_succ]
                refine takeL (i := 4) (v := .int .i64 ((z + 1 : Nat) : Int)) 7 (some 138) rfl rfl (by kernel_rfl) (by kernel_rfl) (by kernel_rfl) (by kernel_rfl) hCl (fun _ _ _ h => h) (Or.inl ⟨by kernel_rfl, fun w' hSw => by exact addN_run (p := z) (q := 1) (.tmp 137) (.const (.int .i64 1)) rfl (by kernel_rfl) rfl (by omega) _⟩) hS ?_
                clear hCl
                intro hCl
                simp only [Act.put, List.setIfInBounds_toArray, List.set_cons_zero, List.set_cons_succ]
                refine takeL (i := 5) (v := .pointer (some ⟨g, o6, none⟩)) 7 (some 139) rfl rfl (by kernel_rfl) (by kernel_rfl) (by kernel_rfl) (by kernel_rfl) hCl (fun _ _ _ h => h) (Or.inl ⟨by kernel_rfl, fun w' hSw => by kernel_rfl⟩) hS ?_
                clear hCl
                intro hCl
                simp only [Act.put, List.setIfInBounds_toArray, List.set_cons_zero, List.set_cons_succ]
                refine takeL (i := 6) (v := .pointer (some ⟨g, oc, none⟩)) 7 (some 140) rfl rfl (by kernel_rfl) (by kernel_rfl) (by kernel_rfl) (by kernel_rfl) hCl (fun _ _ _ h => h) (Or.inl ⟨by kernel_rfl, fun w' hSw => by rw [hoc]; kernel_rfl⟩) hS ?_
                clear hCl
                intro hCl
                simp only [Act.put, List.setIfInBounds_toArray, List.set_cons_zero, List.set_cons_succ]
                refine oneL (i := 7) rfl (by kernel_rfl) hCl (by kernel_rfl) (fun K1 hK1 => ?_)
                refine skipR (d := none) rfl (w' := Z.setCell ⟨g, oc, none⟩ (.int .i64 ((z + 1 : Nat) : Int))) (stN_run (.inr rfl) (.tmp 140) (.tmp 138) rfl (by kernel_rfl) (by kernel_rfl) hS hF) ?_
                refine hK1.out _ _ (fun h => absurd rfl h) ?_
                clear hK1 hCl hS hF
                intro hCl
                simp only [Act.put, List.setIfInBounds_toArray, List.set_cons_zero, List.set_cons_succ]
                refine doneL (by kernel_rfl) ?_
                clear hCl
                refine hK _ _ ?_
                clear hK
                have H3 : Hid (RbAt (Z.setCell ⟨g, oc, none⟩ (.int .i64 ((z + 1 : Nat) : Int))) g kv ((a.came line now).cnt (4 * line + 2)) ∧ Fr w (Z.setCell ⟨g, oc, none⟩ (.int .i64 ((z + 1 : Nat) : Int))) (fun x => x = g) ∧ By (Z.setCell ⟨g, oc, none⟩ (.int .i64 ((z + 1 : Nat) : Int))) v l) := by
                  have hf := Fr.setCell Z ⟨g, oc, none⟩ (.int .i64 ((z + 1 : Nat) : Int)) (fun x => x = g) rfl
                  have hab := H2d.out.1.bump (line := line) (c := 2) HLN.out (by decide) (by rw [← hz]; omega)
                  rw [← hz, ← HO6.out, ← hoc] at hab
                  exact ⟨hab, H2d.out.2.1.trans hf fun x _ q => q.elim id id, H2d.out.2.2.frR hf H2d.out.1⟩
                generalize Z.setCell ⟨g, oc, none⟩ (.int .i64 ((z + 1 : Nat) : Int)) = W3 at *
                generalize z = z20 at *
                clear H2d hz hoc hzb
                have HZ : Hid (∃ kv' out a', RkO w W3 g kv kv' (.slice none 0 0) out a' ∧ RHd a line now l w.heap.size out a' 0) := ⟨kv, [], _, RkO.nil H3.out.1 (fun q hq => .inl hq) H3.out.2.1, by unfold RHd; rw [HN.out]; exact ⟨rfl, .inl ⟨HHR.out, rfl, rfl⟩⟩⟩
                clear H3 HA
                go_wp2
                go_ret2
                exact ⟨_, _, rfl, HZ.out⟩
              case false =>
                obtain ⟨eb, heb⟩ : ∃ eb, (m == R) = eb := ⟨_, rfl⟩
                go_upto_region 19 with fail
                rename_i K hK
                refine wp_region_lit ?_
                refine wpList_runTo rfl (some 107) rfl (.int .i64 (R : Int)) wr (by kernel_rfl) ?_
                simp only [Act.put, List.setIfInBounds_toArray, List.set_cons_zero, List.set_cons_succ]
                refine wpList_runTo rfl (some 108) rfl (.pointer (some ⟨g, 0, none⟩)) wr (by kernel_rfl) ?_
                simp only [Act.put, List.setIfInBounds_toArray, List.set_cons_zero, List.set_cons_succ]
                refine wpList_runTo rfl (some 109) rfl (.pointer (some ⟨g, 0, none⟩)) wr (by kernel_rfl) ?_
                simp only [Act.put, List.setIfInBounds_toArray, List.set_cons_zero, List.set_cons_succ]
                refine wpList_runTo rfl (some 110) rfl (.pointer (some ⟨g, 2, none⟩)) wr (by kernel_rfl) ?_
                simp only [Act.put, List.setIfInBounds_toArray, List.set_cons_zero, List.set_cons_succ]
                refine wpList_runTo rfl (some 111) rfl (.int .i64 (X : Int)) wr (by exact ldN_run (.inr rfl) (.tmp 110) rfl (by kernel_rfl) (c2)) ?_
                simp only [Act.put, List.setIfInBounds_toArray, List.set_cons_zero, List.set_cons_succ]
                refine wpList_runTo rfl (some 112) rfl (.bool false) wr (by exact ltN_run (n := R) (k := X) (.tmp 107) (.tmp 111) rfl (by kernel_rfl) (by kernel_rfl) hxb _) ?_
                simp only [Act.put, List.setIfInBounds_toArray, List.set_cons_zero, List.set_cons_succ]
                refine wpList_runTo rfl (some 113) rfl (.bool false) wr (by kernel_rfl) ?_
                simp only [Act.put, List.setIfInBounds_toArray, List.set_cons_zero, List.set_cons_succ]
                refine wpList_runToG (by kernel_rfl) (some 114) rfl (.int .i64 (i : Int)) wr (by kernel_rfl) ?_
                simp only [Act.put, List.setIfInBounds_toArray, List.set_cons_zero, List.set_cons_succ]
                refine wpList_runToG (by kernel_rfl) (some 115) rfl (.pointer (some ⟨g, 0, none⟩)) wr (by kernel_rfl) ?_
                simp only [Act.put, List.setIfInBounds_toArray, List.set_cons_zero, List.set_cons_succ]
                refine wpList_runToG (by kernel_rfl) (some 116) rfl (.pointer (some ⟨g, 0, none⟩)) wr (by kernel_rfl) ?_
                simp only [Act.put, List.setIfInBounds_toArray, List.set_cons_zero, List.set_cons_succ]
                refine wpList_runToG (by kernel_rfl) (some 117) rfl (.pointer (some ⟨g, 3, none⟩)) wr (by kernel_rfl) ?_
                simp only [Act.put, List.setIfInBounds_toArray, List.set_cons_zero, List.set_cons_succ]
                refine wpList_runToG (by kernel_rfl) (some 118) rfl (kv) wr (by exact ldK_run (.tmp 117) rfl (by kernel_rfl) (c3)) ?_
                simp only [Act.put, List.setIfInBounds_toArray, List.set_cons_zero, List.set_cons_succ]
                refine wpList_runToG (by kernel_rfl) (some 119) rfl (.int .i64 (n : Int)) wr (by exact lenK_run hkv (.tmp 118) rfl (by kernel_rfl) _) ?_
                simp only [Act.put, List.setIfInBounds_toArray, List.set_cons_zero, List.set_cons_succ]
                refine wpList_runToG (by kernel_rfl) (some 120) rfl (.bool true) wr (by exact ltN_run (n := i) (k := n) (.tmp 114) (.tmp 119) rfl (by kernel_rfl) (by kernel_rfl) (decide_eq_true hlt) _) ?_
                simp only [Act.put, List.setIfInBounds_toArray, List.set_cons_zero, List.set_cons_succ]
                refine wpList_runToG (by kernel_rfl) (some 121) rfl (.bool true) wr (by kernel_rfl) ?_
                simp only [Act.put, List.setIfInBounds_toArray, List.set_cons_zero, List.set_cons_succ]
                refine wpList_runToG (by kernel_rfl) (some 122) rfl (.pointer (some ⟨g, 0, none⟩)) wr (by kernel_rfl) ?_
                simp only [Act.put, List.setIfInBounds_toArray, List.set_cons_zero, List.set_cons_succ]
                refine wpList_runToG (by kernel_rfl) (some 123) rfl (.pointer (some ⟨g, 0, none⟩)) wr (by kernel_rfl) ?_
                simp only [Act.put, List.setIfInBounds_toArray, List.set_cons_zero, List.set_cons_succ]
                refine wpList_runToG (by kernel_rfl) (some 124) rfl (.pointer (some ⟨g, 3, none⟩)) wr (by kernel_rfl) ?_
                simp only [Act.put, List.setIfInBounds_toArray, List.set_cons_zero, List.set_cons_succ]
                refine wpList_runToG (by kernel_rfl) (some 125) rfl (kv) wr (by exact ldK_run (.tmp 124) rfl (by kernel_rfl) (c3)) ?_
                simp only [Act.put, List.setIfInBounds_toArray, List.set_cons_zero, List.set_cons_succ]
                refine wpList_runToG (by kernel_rfl) (some 126) rfl (.int .i64 (i : Int)) wr (by kernel_rfl) ?_
                simp only [Act.put, List.setIfInBounds_toArray, List.set_cons_zero, List.set_cons_succ]
                refine wpList_runToG (by kernel_rfl) (some 127) rfl (.pointer (some ⟨kq, ko + i * 2, none⟩)) wr (by exact ixKV_run (i := i) hkq (.tmp 125) (.tmp 126) rfl (by kernel_rfl) (by kernel_rfl) hlt _) ?_
                simp only [Act.put, List.setIfInBounds_toArray, List.set_cons_zero, List.set_cons_succ]
                refine wpList_runToG (by kernel_rfl) (some 128) rfl (.pointer (some ⟨kq, ko + i * 2, none⟩)) wr (by kernel_rfl) ?_
                simp only [Act.put, List.setIfInBounds_toArray, List.set_cons_zero, List.set_cons_succ]
                refine wpList_runToG (by kernel_rfl) (some 129) rfl (.int .i64 (m : Int)) wr (by exact ldN_run (.inr rfl) (.tmp 128) rfl (by kernel_rfl) (cq)) ?_
                simp only [Act.put, List.setIfInBounds_toArray, List.set_cons_zero, List.set_cons_succ]
                refine wpList_runToG (by kernel_rfl) (some 130) rfl (.int .i64 (R : Int)) wr (by kernel_rfl) ?_
                simp only [Act.put, List.setIfInBounds_toArray, List.set_cons_zero, List.set_cons_succ]
                refine wpList_runToG (by kernel_rfl) (some 131) rfl (.bool eb) wr (by exact eqN_run (p := m) (q := R) (.tmp 129) (.tmp 130) rfl (by kernel_rfl) (by kernel_rfl) heb _) ?_
                simp only [Act.put, List.setIfInBounds_toArray, List.set_cons_zero, List.set_cons_succ]
                refine wpList_runToG (by kernel_rfl) (some 132) rfl (.bool eb) wr (by kernel_rfl) ?_
                simp only [Act.put, List.setIfInBounds_toArray, List.set_cons_zero, List.set_cons_succ]
                refine wpList_runTo rfl (some 133) rfl (.bool eb) wr (by kernel_rfl) ?_
                simp only [Act.put, List.setIfInBounds_toArray, List.set_cons_zero, List.set_cons_succ]
                refine wpList_runTo rfl (some 106) rfl (.bool eb) wr (by kernel_rfl) ?_
                simp only [Act.put, List.setIfInBounds_toArray, List.set_cons_zero, List.set_cons_succ]
                refine wpList_nil ?_
                refine hK _ _ ?_
                clear hK
                clear c3 c2 cq
                cases eb
                case true =>
                  have HHR : Hid (hrB a R = true) := by
                    have e : m = R := by simpa using heb
                    show hrB a R = true
                    unfold hrB
                    rw [fnd_hit HK.out.1 (HK.out.2.symm.trans e), Bool.true_or]
                  clear heb hxb
                  go_upto_region 20 with fail
                  have hbw : Below wr.heap.size wr wr.drew := ⟨rfl, rfl, rfl, Nat.le_refl _, fun _ _ => rfl⟩
                  have H2d : Hid (RbAt wr.drew g kv (a.came line now) ∧ Fr w wr.drew (fun x => x = g) ∧ By wr.drew v l) := ⟨H2.out.1.below hbw, H2.out.2.1.trans (Fr.of_below hbw (fun _ => False)) fun x _ q => q.elim id False.elim, H2.out.2.2.below hbw⟩
                  clear hbw H2
                  obtain ⟨z, hz⟩ : ∃ z, z = (a.came line now).cn (4 * line + 2) := ⟨_, rfl⟩
                  obtain ⟨oc, hoc⟩ : ∃ oc, oc = o6 + 2 := ⟨_, rfl⟩
                  rename_i K hK
                  refine wp_region_late (fun w' => w'.cell? ⟨g, oc, none⟩ = some (.int .i64 (z : Int))) 7 (by kernel_rfl) ?_
                  intro hCl
                  generalize wr.drew = Z at *
                  change wpAnyL _ _ _ _ _ _ 8 _ _ _
                  have hS : Z.cell? ⟨g, oc, none⟩ = some (.int .i64 (z : Int)) := by rw [hoc, HO6.out, hz]; exact RbAt.cell_cn H2d.out.1 HLN.out (by decide)
                  have hF : Z.frozen? ⟨g, oc, none⟩ = false := H2d.out.1.blk.frozen oc
                  have hzb : z + 1 ≤ 1000000000000 := by rw [hz]; have := HA.out.2.2.2.2 (4 * line + 2); have := (bmp_le a.cn (4 * line) (4 * line + 2)).2; show bmp a.cn (4 * line) (4 * line + 2) + 1 ≤ _; omega
                  refine takeL (i := 0) (v := .pointer (some ⟨g, o6, none⟩)) 7 (some 134) rfl rfl (by kernel_rfl) (by kernel_rfl) (by kernel_rfl) (by kernel_rfl) hCl (fun _ _ _ h => h) (Or.inl ⟨by kernel_rfl, fun w' hSw => by kernel_rfl⟩) hS ?_
                  clear hCl
                  intro hCl
                  simp only [Act.put, List.setIfInBounds_toArray, List.set_cons_zero, List.set_cons_succ]
                  refine takeL (i := 1) (v := .pointer (some ⟨g, o6, none⟩)) 7 (some 135) rfl rfl (by kernel_rfl) (by kernel_rfl) (by kernel_rfl) (by kernel_rfl) hCl (fun _ _ _ h => h) (Or.inl ⟨by kernel_rfl, fun w' hSw => by kernel_rfl⟩) hS ?_
                  clear hCl
                  intro hCl
                  simp only [Act.put, List.setIfInBounds_toArray, List.set_cons_zero, List.set_cons_succ]
                  refine takeL (i := 2) (v := .pointer (some ⟨g, oc, none⟩)) 7 (some 136) rfl rfl (by kernel_rfl) (by kernel_rfl) (by kernel_rfl) (by kernel_rfl) hCl (fun _ _ _ h => h) (Or.inl ⟨by kernel_rfl, fun w' hSw => by rw [hoc]; kernel_rfl⟩) hS ?_
                  clear hCl
                  intro hCl
                  simp only [Act.put, List.setIfInBounds_toArray, List.set_cons_zero, List.set_cons_succ]
                  refine takeL (i := 3) (v := .int .i64 (z : Int)) 7 (some 137) rfl rfl (by kernel_rfl) (by kernel_rfl) (by kernel_rfl) (by kernel_rfl) hCl (fun _ _ _ h => h) (Or.inl ⟨by kernel_rfl, fun w' hSw => by exact ldN_run (.inr rfl) (.tmp 136) rfl (by kernel_rfl) hSw⟩) hS ?_
                  clear hCl
                  intro hCl
                  simp only [Act.put, List.setIfInBounds_toArray, List.set_cons_zero, List.set_cons_succ]
                  refine takeL (i := 4) (v := .int .i64 ((z + 1 : Nat) : Int)) 7 (some 138) rfl rfl (by kernel_rfl) (by kernel_rfl) (by kernel_rfl) (by kernel_rfl) hCl (fun _ _ _ h => h) (Or.inl ⟨by kernel_rfl, fun w' hSw => by exact addN_run (p := z) (q := 1) (.tmp 137) (.const (.int .i64 1)) rfl (by kernel_rfl) rfl (by omega) _⟩) hS ?_
                  clear hCl
                  intro hCl
                  simp only [Act.put, List.setIfInBounds_toArray, List.set_cons_zero, List.set_cons_succ]
                  refine takeL (i := 5) (v := .pointer (some ⟨g, o6, none⟩)) 7 (some 139) rfl rfl (by kernel_rfl) (by kernel_rfl) (by kernel_rfl) (by kernel_rfl) hCl (fun _ _ _ h => h) (Or.inl ⟨by kernel_rfl, fun w' hSw => by kernel_rfl⟩) hS ?_
                  clear hCl
                  intro hCl
                  simp only [Act.put, List.setIfInBounds_toArray, List.set_cons_zero, List.set_cons_succ]
                  refine takeL (i := 6) (v := .pointer (some ⟨g, oc, none⟩)) 7 (some 140) rfl rfl (by kernel_rfl) (by kernel_rfl) (by kernel_rfl) (by kernel_rfl) hCl (fun _ _ _ h => h) (Or.inl ⟨by kernel_rfl, fun w' hSw => by rw [hoc]; kernel_rfl⟩) hS ?_
                  clear hCl
                  intro hCl
                  simp only [Act.put, List.setIfInBounds_toArray, List.set_cons_zero, List.set_cons_succ]
                  refine oneL (i := 7) rfl (by kernel_rfl) hCl (by kernel_rfl) (fun K1 hK1 => ?_)
                  refine skipR (d := none) rfl (w' := Z.setCell ⟨g, oc, none⟩ (.int .i64 ((z + 1 : Nat) : Int))) (stN_run (.inr rfl) (.tmp 140) (.tmp 138) rfl (by kernel_rfl) (by kernel_rfl) hS hF) ?_
                  refine hK1.out _ _ (fun h => absurd rfl h) ?_
                  clear hK1 hCl hS hF
                  intro hCl
                  simp only [Act.put, List.setIfInBounds_toArray, List.set_cons_zero, List.set_cons_succ]
                  refine doneL (by kernel_rfl) ?_
                  clear hCl
                  refine hK _ _ ?_
                  clear hK
                  have H3 : Hid (RbAt (Z.setCell ⟨g, oc, none⟩ (.int .i64 ((z + 1 : Nat) : Int))) g kv ((a.came line now).cnt (4 * line + 2)) ∧ Fr w (Z.setCell ⟨g, oc, none⟩ (.int .i64 ((z + 1 : Nat) : Int))) (fun x => x = g) ∧ By (Z.setCell ⟨g, oc, none⟩ (.int .i64 ((z + 1 : Nat) : Int))) v l) := by
                    have hf := Fr.setCell Z ⟨g, oc, none⟩ (.int .i64 ((z + 1 : Nat) : Int)) (fun x => x = g) rfl
                    have hab := H2d.out.1.bump (line := line) (c := 2) HLN.out (by decide) (by rw [← hz]; omega)
                    rw [← hz, ← HO6.out, ← hoc] at hab
                    exact ⟨hab, H2d.out.2.1.trans hf fun x _ q => q.elim id id, H2d.out.2.2.frR hf H2d.out.1⟩
                  generalize Z.setCell ⟨g, oc, none⟩ (.int .i64 ((z + 1 : Nat) : Int)) = W3 at *
                  generalize z = z20 at *
                  clear H2d hz hoc hzb
                  have HZ : Hid (∃ kv' out a', RkO w W3 g kv kv' (.slice none 0 0) out a' ∧ RHd a line now l w.heap.size out a' 0) := ⟨kv, [], _, RkO.nil H3.out.1 (fun q hq => .inl hq) H3.out.2.1, by unfold RHd; rw [HN.out]; exact ⟨rfl, .inl ⟨HHR.out, rfl, rfl⟩⟩⟩
                  clear H3 HA
                  go_wp2
                  go_ret2
                  exact ⟨_, _, rfl, HZ.out⟩
                case false =>
                  have HHI : Hid (∀ q, a.ks[i]? = some q → R < q.n) := fun q hq => by
                    have e : ¬ m = R := by simpa using heb
                    rw [HK.out.1] at hq
                    injection hq with hq
                    rw [← hq, ← HK.out.2]
                    omega
                  have HHR : Hid (hrB a R = false) := by
                    show hrB a R = false
                    unfold hrB
                    rw [← HX.out, hxb, HPL.out.none HA.out.1.so HHI.out]
                    rfl
                  clear heb hxb hmr
                  go_upto_region 21 with fail
                  have hbw : Below wr.heap.size wr wr.drew := ⟨rfl, rfl, rfl, Nat.le_refl _, fun _ _ => rfl⟩
                  have H2d : Hid (RbAt wr.drew g kv (a.came line now) ∧ Fr w wr.drew (fun x => x = g) ∧ By wr.drew v l) := ⟨H2.out.1.below hbw, H2.out.2.1.trans (Fr.of_below hbw (fun _ => False)) fun x _ q => q.elim id False.elim, H2.out.2.2.below hbw⟩
                  clear hbw H2
                  obtain ⟨WN, hWN⟩ : ∃ X, X = a.win := ⟨_, rfl⟩
                  have HWN : Hid (WN = a.win) := hWN
                  have hXW : X + WN ≤ 9223372036854775807 := by rw [HX.out, hWN]; have := HA.out.1.bd.nx; have := HA.out.1.bd.w2; omega
                  clear hWN
                  obtain ⟨fb, hfb⟩ : ∃ fb, decide (R < X + WN) = fb := ⟨_, rfl⟩
                  rename_i K hK
                  refine wp_region_held (S := fun w' => w'.cell? ⟨g, 2, none⟩ = some (.int .i64 (X : Int)) ∧ w'.cell? ⟨g, 0, none⟩ = some (.int .i64 (WN : Int))) (by kernel_rfl) ?_
                  change wpAnyH _ _ _ _ _ _ _ _ (World.drew _)
                  generalize wr.drew = WD at *
                  have hS : WD.cell? ⟨g, 2, none⟩ = some (.int .i64 (X : Int)) ∧ WD.cell? ⟨g, 0, none⟩ = some (.int .i64 (WN : Int)) := ⟨by rw [HX.out]; exact H2d.out.1.blk.cell 2, by rw [HWN.out]; exact H2d.out.1.blk.cell 0⟩
                  refine takeR (i := 0) (v := .int .i64 (R : Int)) (some 142) rfl rfl (by kernel_rfl) (by kernel_rfl) (by kernel_rfl) (fun _ _ _ h => h) (Or.inl ⟨by kernel_rfl, fun w' hSw => by kernel_rfl⟩) hS ?_
                  simp only [Act.put, List.setIfInBounds_toArray, List.set_cons_zero, List.set_cons_succ]
                  refine takeR (i := 1) (v := .pointer (some ⟨g, 0, none⟩)) (some 143) rfl rfl (by kernel_rfl) (by kernel_rfl) (by kernel_rfl) (fun _ _ _ h => h) (Or.inl ⟨by kernel_rfl, fun w' hSw => by kernel_rfl⟩) hS ?_
                  simp only [Act.put, List.setIfInBounds_toArray, List.set_cons_zero, List.set_cons_succ]
                  refine takeR (i := 2) (v := .pointer (some ⟨g, 0, none⟩)) (some 144) rfl rfl (by kernel_rfl) (by kernel_rfl) (by kernel_rfl) (fun _ _ _ h => h) (Or.inl ⟨by kernel_rfl, fun w' hSw => by kernel_rfl⟩) hS ?_
                  simp only [Act.put, List.setIfInBounds_toArray, List.set_cons_zero, List.set_cons_succ]
                  refine takeR (i := 3) (v := .pointer (some ⟨g, 2, none⟩)) (some 145) rfl rfl (by kernel_rfl) (by kernel_rfl) (by kernel_rfl) (fun _ _ _ h => h) (Or.inl ⟨by kernel_rfl, fun w' hSw => by kernel_rfl⟩) hS ?_
                  simp only [Act.put, List.setIfInBounds_toArray, List.set_cons_zero, List.set_cons_succ]
                  refine takeR (i := 4) (v := .int .i64 (X : Int)) (some 146) rfl rfl (by kernel_rfl) (by kernel_rfl) (by kernel_rfl) (fun _ _ _ h => h) (Or.inl ⟨by kernel_rfl, fun w' hSw => by exact ldN_run (.inr rfl) (.tmp 145) rfl (by kernel_rfl) (hSw.1)⟩) hS ?_
                  simp only [Act.put, List.setIfInBounds_toArray, List.set_cons_zero, List.set_cons_succ]
                  refine takeR (i := 5) (v := .pointer (some ⟨g, 0, none⟩)) (some 147) rfl rfl (by kernel_rfl) (by kernel_rfl) (by kernel_rfl) (fun _ _ _ h => h) (Or.inl ⟨by kernel_rfl, fun w' hSw => by kernel_rfl⟩) hS ?_
                  simp only [Act.put, List.setIfInBounds_toArray, List.set_cons_zero, List.set_cons_succ]
                  refine takeR (i := 6) (v := .pointer (some ⟨g, 0, none⟩)) (some 148) rfl rfl (by kernel_rfl) (by kernel_rfl) (by kernel_rfl) (fun _ _ _ h => h) (Or.inl ⟨by kernel_rfl, fun w' hSw => by kernel_rfl⟩) hS ?_
                  simp only [Act.put, List.setIfInBounds_toArray, List.set_cons_zero, List.set_cons_succ]
                  refine takeR (i := 7) (v := .pointer (some ⟨g, 0, none⟩)) (some 149) rfl rfl (by kernel_rfl) (by kernel_rfl) (by kernel_rfl) (fun _ _ _ h => h) (Or.inl ⟨by kernel_rfl, fun w' hSw => by kernel_rfl⟩) hS ?_
                  simp only [Act.put, List.setIfInBounds_toArray, List.set_cons_zero, List.set_cons_succ]
                  refine takeR (i := 8) (v := .int .i64 (WN : Int)) (some 150) rfl rfl (by kernel_rfl) (by kernel_rfl) (by kernel_rfl) (fun _ _ _ h => h) (Or.inl ⟨by kernel_rfl, fun w' hSw => by exact ldN_run (.inr rfl) (.tmp 149) rfl (by kernel_rfl) (hSw.2)⟩) hS ?_
                  simp only [Act.put, List.setIfInBounds_toArray, List.set_cons_zero, List.set_cons_succ]
                  refine takeR (i := 9) (v := .int .i64 ((X + WN : Nat) : Int)) (some 151) rfl rfl (by kernel_rfl) (by kernel_rfl) (by kernel_rfl) (fun _ _ _ h => h) (Or.inl ⟨by kernel_rfl, fun w' hSw => by exact addN_run (p := X) (q := WN) (.tmp 146) (.tmp 150) rfl (by kernel_rfl) (by kernel_rfl) hXW _⟩) hS ?_
                  simp only [Act.put, List.setIfInBounds_toArray, List.set_cons_zero, List.set_cons_succ]
                  refine takeR (i := 10) (v := .bool fb) (some 152) rfl rfl (by kernel_rfl) (by kernel_rfl) (by kernel_rfl) (fun _ _ _ h => h) (Or.inl ⟨by kernel_rfl, fun w' hSw => by exact ltN_run (n := R) (k := X + WN) (.tmp 142) (.tmp 151) rfl (by kernel_rfl) (by kernel_rfl) hfb _⟩) hS ?_
                  simp only [Act.put, List.setIfInBounds_toArray, List.set_cons_zero, List.set_cons_succ]
                  refine takeR (i := 11) (v := .bool fb) (some 141) rfl rfl (by kernel_rfl) (by kernel_rfl) (by kernel_rfl) (fun _ _ _ h => h) (Or.inl ⟨by kernel_rfl, fun w' hSw => by kernel_rfl⟩) hS ?_
                  simp only [Act.put, List.setIfInBounds_toArray, List.set_cons_zero, List.set_cons_succ]
                  refine wpAnyH_done (by kernel_rfl) ?_ _
                  refine hK _ _ ?_
                  clear hK hS hXW
                  have HFB : Hid (decide (R < a.nx + a.win) = fb) := by rw [← HX.out, ← HWN.out]; exact hfb
                  clear hfb HWN
                  generalize ((X + WN : Nat) : Int) = xw
                  generalize (WN : Int) = wn
                  cases fb
                  case false =>
                    have hfar : a.nx + a.win ≤ R := by have := HFB.out; simp at this; omega
                    have HZ : Hid (∃ kv' out a', RkO w WD g kv kv' (.slice none 0 0) out a' ∧ RHd a line now l w.heap.size out a' 0) := ⟨kv, [], _, RkO.nil H2d.out.1 (fun q hq => .inl hq) H2d.out.2.1, by unfold RHd; rw [HN.out]; exact ⟨rfl, .inr (.inl ⟨HHR.out, hfar, rfl, rfl⟩)⟩⟩
                    clear H2d HA
                    go_wp2
                    go_ret2
                    exact ⟨_, _, rfl, HZ.out⟩
                  case true =>
                    have HNR : Hid (R < a.nx + a.win) := by have := HFB.out; simp at this; exact this
                    clear HFB
                    go_upto_region 22 with fail
                    have hbw : Below WD.heap.size WD WD.drew := ⟨rfl, rfl, rfl, Nat.le_refl _, fun _ _ => rfl⟩
                    have H2dd : Hid (RbAt WD.drew g kv (a.came line now) ∧ Fr w WD.drew (fun x => x = g) ∧ By WD.drew v l) := ⟨H2d.out.1.below hbw, H2d.out.2.1.trans (Fr.of_below hbw (fun _ => False)) fun x _ q => q.elim id False.elim, H2d.out.2.2.below hbw⟩
                    clear hbw H2d
                    obtain ⟨z, hz⟩ : ∃ z, z = (a.came line now).cn (4 * line + 1) := ⟨_, rfl⟩
                    obtain ⟨oc, hoc⟩ : ∃ oc, oc = o6 + 1 := ⟨_, rfl⟩
                    rename_i K hK
                    refine wp_region_late (fun w' => w'.cell? ⟨g, oc, none⟩ = some (.int .i64 (z : Int))) 7 (by kernel_rfl) ?_
                    intro hCl
                    generalize WD.drew = Z at *
                    change wpAnyL _ _ _ _ _ _ 8 _ _ _
                    have hS : Z.cell? ⟨g, oc, none⟩ = some (.int .i64 (z : Int)) := by rw [hoc, HO6.out, hz]; exact RbAt.cell_cn H2dd.out.1 HLN.out (by decide)
                    have hF : Z.frozen? ⟨g, oc, none⟩ = false := H2dd.out.1.blk.frozen oc
                    have hzb : z + 1 ≤ 1000000000000 := by rw [hz]; have := HA.out.2.2.2.2 (4 * line + 1); have := (bmp_le a.cn (4 * line) (4 * line + 1)).2; show bmp a.cn (4 * line) (4 * line + 1) + 1 ≤ _; omega
                    refine takeL (i := 0) (v := .pointer (some ⟨g, o6, none⟩)) 7 (some 153) rfl rfl (by kernel_rfl) (by kernel_rfl) (by kernel_rfl) (by kernel_rfl) hCl (fun _ _ _ h => h) (Or.inl ⟨by kernel_rfl, fun w' hSw => by kernel_rfl⟩) hS ?_
                    clear hCl
                    intro hCl
                    simp only [Act.put, List.setIfInBounds_toArray, List.set_cons_zero, List.set_cons_succ]
                    refine takeL (i := 1) (v := .pointer (some ⟨g, o6, none⟩)) 7 (some 154) rfl rfl (by kernel_rfl) (by kernel_rfl) (by kernel_rfl) (by kernel_rfl) hCl (fun _ _ _ h => h) (Or.inl ⟨by kernel_rfl, fun w' hSw => by kernel_rfl⟩) hS ?_
                    clear hCl
                    intro hCl
                    simp only [Act.put, List.setIfInBounds_toArray, List.set_cons_zero, List.set_cons_succ]
                    refine takeL (i := 2) (v := .pointer (some ⟨g, oc, none⟩)) 7 (some 155) rfl rfl (by kernel_rfl) (by kernel_rfl) (by kernel_rfl) (by kernel_rfl) hCl (fun _ _ _ h => h) (Or.inl ⟨by kernel_rfl, fun w' hSw => by rw [hoc]; kernel_rfl⟩) hS ?_
                    clear hCl
                    intro hCl
                    simp only [Act.put, List.setIfInBounds_toArray, List.set_cons_zero, List.set_cons_succ]
                    refine takeL (i := 3) (v := .int .i64 (z : Int)) 7 (some 156) rfl rfl (by kernel_rfl) (by kernel_rfl) (by kernel_rfl) (by kernel_rfl) hCl (fun _ _ _ h => h) (Or.inl ⟨by kernel_rfl, fun w' hSw => by exact ldN_run (.inr rfl) (.tmp 155) rfl (by kernel_rfl) hSw⟩) hS ?_
                    clear hCl
                    intro hCl
                    simp only [Act.put, List.setIfInBounds_toArray, List.set_cons_zero, List.set_cons_succ]
                    refine takeL (i := 4) (v := .int .i64 ((z + 1 : Nat) : Int)) 7 (some 157) rfl rfl (by kernel_rfl) (by kernel_rfl) (by kernel_rfl) (by kernel_rfl) hCl (fun _ _ _ h => h) (Or.inl ⟨by kernel_rfl, fun w' hSw => by exact addN_run (p := z) (q := 1) (.tmp 156) (.const (.int .i64 1)) rfl (by kernel_rfl) rfl (by omega) _⟩) hS ?_
                    clear hCl
                    intro hCl
                    simp only [Act.put, List.setIfInBounds_toArray, List.set_cons_zero, List.set_cons_succ]
                    refine takeL (i := 5) (v := .pointer (some ⟨g, o6, none⟩)) 7 (some 158) rfl rfl (by kernel_rfl) (by kernel_rfl) (by kernel_rfl) (by kernel_rfl) hCl (fun _ _ _ h => h) (Or.inl ⟨by kernel_rfl, fun w' hSw => by kernel_rfl⟩) hS ?_
                    clear hCl
                    intro hCl
                    simp only [Act.put, List.setIfInBounds_toArray, List.set_cons_zero, List.set_cons_succ]
                    refine takeL (i := 6) (v := .pointer (some ⟨g, oc, none⟩)) 7 (some 159) rfl rfl (by kernel_rfl) (by kernel_rfl) (by kernel_rfl) (by kernel_rfl) hCl (fun _ _ _ h => h) (Or.inl ⟨by kernel_rfl, fun w' hSw => by rw [hoc]; kernel_rfl⟩) hS ?_
                    clear hCl
                    intro hCl
                    simp only [Act.put, List.setIfInBounds_toArray, List.set_cons_zero, List.set_cons_succ]
                    refine oneL (i := 7) rfl (by kernel_rfl) hCl (by kernel_rfl) (fun K1 hK1 => ?_)
                    refine skipR (d := none) rfl (w' := Z.setCell ⟨g, oc, none⟩ (.int .i64 ((z + 1 : Nat) : Int))) (stN_run (.inr rfl) (.tmp 159) (.tmp 157) rfl (by kernel_rfl) (by kernel_rfl) hS hF) ?_
                    refine hK1.out _ _ (fun h => absurd rfl h) ?_
                    clear hK1 hCl hS hF
                    intro hCl
                    simp only [Act.put, List.setIfInBounds_toArray, List.set_cons_zero, List.set_cons_succ]
                    refine doneL (by kernel_rfl) ?_
                    clear hCl
                    refine hK _ _ ?_
                    clear hK
                    have H3 : Hid (RbAt (Z.setCell ⟨g, oc, none⟩ (.int .i64 ((z + 1 : Nat) : Int))) g kv ((a.came line now).cnt (4 * line + 1)) ∧ Fr w (Z.setCell ⟨g, oc, none⟩ (.int .i64 ((z + 1 : Nat) : Int))) (fun x => x = g) ∧ By (Z.setCell ⟨g, oc, none⟩ (.int .i64 ((z + 1 : Nat) : Int))) v l) := by
                      have hf := Fr.setCell Z ⟨g, oc, none⟩ (.int .i64 ((z + 1 : Nat) : Int)) (fun x => x = g) rfl
                      have hab := H2dd.out.1.bump (line := line) (c := 1) HLN.out (by decide) (by rw [← hz]; omega)
                      rw [← hz, ← HO6.out, ← hoc] at hab
                      exact ⟨hab, H2dd.out.2.1.trans hf fun x _ q => q.elim id id, H2dd.out.2.2.frR hf H2dd.out.1⟩
                    generalize Z.setCell ⟨g, oc, none⟩ (.int .i64 ((z + 1 : Nat) : Int)) = W3 at *
                    generalize z = z22 at *
                    clear H2dd hz hoc hzb
                    have c3 : W3.cell? ⟨g, 3, none⟩ = some kv := H3.out.1.blk.cell 3
                    have hcc : i ≤ c := by
                      obtain ⟨_, cc, e1, e2⟩ := H3.out.1.row.form
                      rw [hkv] at e1
                      injection e1 with _ e3 e4
                      have := HPL.out.le
                      have e5 : (a.ks.length) ≤ cc := e2
                      omega
                    obtain ⟨s1, hs1⟩ : ∃ s1, s1 = cutS kv 0 i c := ⟨_, rfl⟩
                    obtain ⟨v4, W4, hap, hI4⟩ := (INS.start W3).app (rs := a.ks.take i) (sv := s1) (by
                      have h1 := (H3.out.1.row.cutH2 (hi := i) (by rw [hkv, HNL.out]; rfl) HPL.out.le).1
                      rw [kV_take] at h1
                      have e : (a.ks.take i).length = i := by rw [List.length_take]; have := HPL.out.le; omega
                      rw [hs1, e]
                      exact h1) (fun q hq => (H3.out.1.pk q (List.mem_of_mem_take hq)).one) (by have := HKL.out; rw [List.length_take]; simp; omega) 83
                    have HI4 : Hid (INS W3 W4 v4 (a.ks.take i)) := hI4
                    clear hI4
                    go_upto_region 23 with fail
                    rename_i K hK
                    refine wp_region_lit ?_
                    refine wpList_runTo rfl (some 14) rfl (.slice none 0 0) W3 (by kernel_rfl) ?_
                    simp only [Act.put, List.setIfInBounds_toArray, List.set_cons_zero, List.set_cons_succ]
                    refine wpList_nil ?_
                    refine hK _ _ ?_
                    clear hK
                    go_upto_region 24 with fail
                    rename_i K hK
                    refine wp_region_lit ?_
                    refine wpList_runTo rfl (some 160) rfl (.slice none 0 0) W3 (by kernel_rfl) ?_
                    simp only [Act.put, List.setIfInBounds_toArray, List.set_cons_zero, List.set_cons_succ]
                    refine wpList_runTo rfl (some 161) rfl (.pointer (some ⟨g, 0, none⟩)) W3 (by kernel_rfl) ?_
                    simp only [Act.put, List.setIfInBounds_toArray, List.set_cons_zero, List.set_cons_succ]
                    refine wpList_runTo rfl (some 162) rfl (.pointer (some ⟨g, 0, none⟩)) W3 (by kernel_rfl) ?_
                    simp only [Act.put, List.setIfInBounds_toArray, List.set_cons_zero, List.set_cons_succ]
                    refine wpList_runTo rfl (some 163) rfl (.pointer (some ⟨g, 3, none⟩)) W3 (by kernel_rfl) ?_
                    simp only [Act.put, List.setIfInBounds_toArray, List.set_cons_zero, List.set_cons_succ]
                    refine wpList_runTo rfl (some 164) rfl (kv) W3 (by exact ldK_run (.tmp 163) rfl (by kernel_rfl) (c3)) ?_
                    simp only [Act.put, List.setIfInBounds_toArray, List.set_cons_zero, List.set_cons_succ]
                    refine wpList_runTo rfl (some 165) rfl (.int .i64 (i : Int)) W3 (by kernel_rfl) ?_
                    simp only [Act.put, List.setIfInBounds_toArray, List.set_cons_zero, List.set_cons_succ]
                    refine wpList_runTo rfl (some 166) rfl (s1) W3 (by rw [hs1]; exact sliceKH_run hkv (.tmp 164) (.tmp 165) rfl (by kernel_rfl) (by kernel_rfl) hcc _) ?_
                    simp only [Act.put, List.setIfInBounds_toArray, List.set_cons_zero, List.set_cons_succ]
                    refine wpList_runTo rfl (some 167) rfl (v4) W4 (by exact exec_append (v1 := .slice none 0 0) (v2 := s1) (.tmp 160) (.tmp 166) rfl (by kernel_rfl) (by kernel_rfl) hap) ?_
                    simp only [Act.put, List.setIfInBounds_toArray, List.set_cons_zero, List.set_cons_succ]
                    refine wpList_runTo rfl (some 14) rfl (v4) W4 (by kernel_rfl) ?_
                    simp only [Act.put, List.setIfInBounds_toArray, List.set_cons_zero, List.set_cons_succ]
                    refine wpList_nil ?_
                    refine hK _ _ ?_
                    clear hK
                    clear hap hs1 c3 hcc
                    have hcp := copied_any (H3.out.2.2.below HI4.out.bel) HA.out.2.2.1
                    go_upto_region 25 with fail
                    rename_i K hK
                    refine wp_region_lit ?_
                    refine wpList_runTo rfl (some 168) rfl (v4) W4 (by kernel_rfl) ?_
                    simp only [Act.put, List.setIfInBounds_toArray, List.set_cons_zero, List.set_cons_succ]
                    refine wpList_runTo rfl (some 169) rfl (.int .i64 (R : Int)) W4 (by kernel_rfl) ?_
                    simp only [Act.put, List.setIfInBounds_toArray, List.set_cons_zero, List.set_cons_succ]
                    refine wpList_runTo rfl (some 170) rfl (v) W4 (by kernel_rfl) ?_
                    simp only [Act.put, List.setIfInBounds_toArray, List.set_cons_zero, List.set_cons_succ]
                    refine wpList_callW rfl (some 171) rfl 49 #[v] (by kernel_rfl) hcp ?_
                    clear hcp
                    rintro e W5 ⟨v5, rfl, hx⟩
                    refine ⟨_, rfl, ?_⟩
                    simp only [Act.put, List.setIfInBounds_toArray, List.set_cons_zero, List.set_cons_succ]
                    have hvf : ∃ a n c, v5 = .slice a n c := by
                      obtain ⟨ao, c, e, _⟩ := hx.out.row.form
                      exact ⟨ao, _, c, e⟩
                    have hal : Below W5.heap.size W5 (W5.alloc (.cells #[.int .i64 (R : Int), v5] 101)) := (Below.refl _ W5).alloc (Nat.le_refl _) _
                    have hI6 := (HI4.out.below hx.out.bel).below hal
                    obtain ⟨v7, W7, hap, hI7⟩ := hI6.app (rs := [⟨R, v5, l⟩]) row1K (fun q hq => by
                      have e : q = ⟨R, v5, l⟩ := by simpa using hq
                      subst e
                      obtain ⟨_, _, _, rfl⟩ := hvf
                      rfl) (by have := HKL.out; rw [List.length_take]; simp; omega) 83
                    have HI7 : Hid (INS W3 W7 v7 (a.ks.take i ++ [⟨R, v5, l⟩])) := hI7
                    have HK7 : Hid (PkAt W7 ⟨R, v5, l⟩ ∧ ∀ q, v5.ownBlock = some q → w.heap.size ≤ q) := by
                      have hlw : ∀ q, v5.ownBlock = some q → W4.heap.size ≤ q := hx.out.low
                      have h34 := HI4.out.bel.size
                      have h03 := H3.out.2.1.size
                      obtain ⟨v7', W7', k1, k2, k3, k4⟩ := appK_run hI6.row row1K (qs := [⟨R, v5, l⟩]) (fun q hq => by
                        have e : q = ⟨R, v5, l⟩ := by simpa using hq
                        subst e
                        obtain ⟨_, _, _, rfl⟩ := hvf
                        rfl) (by have := HKL.out; rw [List.length_take]; simp; omega) 83
                      rw [hap] at k1
                      injection k1 with e1 e2
                      subst e1 e2
                      have hp6 : PkAt (W5.alloc (.cells #[.int .i64 (R : Int), v5] 101)) ⟨R, v5, l⟩ := by
                        refine PkAt.fr (w := W5) ⟨hx.out.row, hx.out.bb, fun e => ?_⟩ (Fr.of_below hal (fun _ => False)) fun _ _ => id
                        have h9 := HM9.out.1
                        have e' : l = [] := e
                        rw [e'] at h9
                        simp at h9
                      refine ⟨hp6.fr k3 fun q hq e => ?_, fun q hq => by have := hlw q hq; omega⟩
                      obtain ⟨_, cur, hc⟩ := hp6.1.lt hq
                      exact hI6.row.ne_type hc (by decide) e
                    clear hI6 hI7 hal hx
                    refine wpList_runTo rfl (some 172) rfl (.agg #[.int .i64 (R : Int), v5]) W5 (by exact buildP_run hvf (.tmp 169) (.tmp 171) rfl (by kernel_rfl) (by kernel_rfl) _) ?_
                    simp only [Act.put, List.setIfInBounds_toArray, List.set_cons_zero, List.set_cons_succ]
                    refine wpList_runTo rfl (some 173) rfl (.slice (some ⟨W5.heap.size, 0, none⟩) 1 1) (W5.alloc (.cells #[.int .i64 (R : Int), v5] 101)) (by exact buildK1_run hvf (.tmp 172) rfl (by kernel_rfl) _) ?_
                    simp only [Act.put, List.setIfInBounds_toArray, List.set_cons_zero, List.set_cons_succ]
                    refine wpList_runTo rfl (some 174) rfl (v7) W7 (by exact exec_append (v1 := v4) (v2 := .slice (some ⟨W5.heap.size, 0, none⟩) 1 1) (.tmp 168) (.tmp 173) rfl (by kernel_rfl) (by kernel_rfl) hap) ?_
                    simp only [Act.put, List.setIfInBounds_toArray, List.set_cons_zero, List.set_cons_succ]
                    refine wpList_runTo rfl (some 14) rfl (v7) W7 (by kernel_rfl) ?_
                    simp only [Act.put, List.setIfInBounds_toArray, List.set_cons_zero, List.set_cons_succ]
                    refine wpList_nil ?_
                    refine hK _ _ ?_
                    clear hK
                    generalize (Value.slice (some ⟨W5.heap.size, 0, none⟩) 1 1) = s173
                    clear hap hvf
                    have c3 : W7.cell? ⟨g, 3, none⟩ = some kv := (H3.out.1.below HI7.out.bel).blk.cell 3
                    have f3 : ∀ W, Below W3.heap.size W3 W → W.cell? ⟨g, 3, none⟩ = some kv ∧ W.frozen? ⟨g, 3, none⟩ = false := fun W hW => ⟨(H3.out.1.below hW).blk.cell 3, (H3.out.1.below hW).blk.frozen 3⟩
                    obtain ⟨s2, hs2⟩ : ∃ s2, s2 = cutS kv i n c := ⟨_, rfl⟩
                    obtain ⟨v8, W8, hap, hI8⟩ := HI7.out.app (rs := a.ks.drop i) (sv := s2) (by
                      have h1 := ((H3.out.1.below HI7.out.bel).row.cutL2 (lo := i) (by rw [hkv, HNL.out]; rfl) HPL.out.le).1
                      rw [kV_drop] at h1
                      rw [hs2, HNL.out, List.length_drop]
                      exact h1) (fun q hq => (H3.out.1.pk q (List.mem_of_mem_drop hq)).one) (by have := HKL.out; rw [List.length_append, List.length_take, List.length_drop]; simp; omega) 83
                    have HI8 : Hid (INS W3 W8 v8 (insK a.ks i ⟨R, v5, l⟩)) := hI8
                    have hv8 : ∃ a n c, v8 = .slice a n c := by
                      obtain ⟨ao, c, e, _⟩ := hI8.row.form
                      exact ⟨ao, _, c, e⟩
                    have HK8 : Hid (PkAt W8 ⟨R, v5, l⟩) := by
                      obtain ⟨v8', W8', k1, k2, k3, k4⟩ := appK_run HI7.out.row (sv := s2) (qs := a.ks.drop i) (by
                        have h1 := ((H3.out.1.below HI7.out.bel).row.cutL2 (lo := i) (by rw [hkv, HNL.out]; rfl) HPL.out.le).1
                        rw [kV_drop] at h1
                        rw [hs2, HNL.out, List.length_drop]
                        exact h1) (fun q hq => (H3.out.1.pk q (List.mem_of_mem_drop hq)).one) (by have := HKL.out; rw [List.length_append, List.length_take, List.length_drop]; simp; omega) 83
                      rw [hap] at k1
                      injection k1 with e1 e2
                      subst e1 e2
                      refine HK7.out.1.fr k3 fun q hq e => ?_
                      obtain ⟨_, cur, hc⟩ := HK7.out.1.1.lt hq
                      exact HI7.out.row.ne_type hc (by decide) e
                    obtain ⟨c8, f8⟩ := f3 W8 hI8.bel
                    have hin : i ≤ n := by rw [HNL.out]; exact HPL.out.le
                    clear hI8 f3
                    have H9 : Hid (RbAt (W8.setCell ⟨g, 3, none⟩ v8) g v8 { (a.came line now).cnt (4 * line + 1) with ks := insK a.ks i ⟨R, v5, l⟩ } ∧ Fr w (W8.setCell ⟨g, 3, none⟩ v8) (fun x => x = g) ∧ ∀ q, v8.ownBlock = some q → w.heap.size ≤ q) := by
                      have h1 := H3.out.1.ins (k := ⟨R, v5, l⟩) HI8.out HK8.out HM9.out.2.2 (by
                        show a.ks.length + 1 ≤ bmp (bmp a.cn (4 * line)) (4 * line + 1) 1 + bmp (bmp a.cn (4 * line)) (4 * line + 1) 5
                        have h1 := HA.out.1.bd.len
                        have h2 := (bmp_le a.cn (4 * line) 1).1
                        have h3 := (bmp_le a.cn (4 * line) 5).1
                        have hl2 := HLN.out
                        by_cases hz : line = 0
                        · subst hz
                          have e := (bmp_le (bmp a.cn (4 * 0)) (4 * 0 + 1) 5).1
                          have e2 : bmp (bmp a.cn (4 * 0)) (4 * 0 + 1) 1 = bmp a.cn (4 * 0) 1 + 1 := rfl
                          omega
                        · obtain rfl : line = 1 := by omega
                          have e := (bmp_le (bmp a.cn (4 * 1)) (4 * 1 + 1) 1).1
                          have e2 : bmp (bmp a.cn (4 * 1)) (4 * 1 + 1) 5 = bmp a.cn (4 * 1) 5 + 1 := rfl
                          omega) HPL.out HHI.out
                      have hf := Fr.setCell W8 ⟨g, 3, none⟩ v8 (fun x => x = g) rfl
                      refine ⟨h1, (H3.out.2.1.trans (Fr.of_below HI8.out.bel (fun _ => False)) fun x _ q => q.elim id False.elim).trans hf fun x _ q => q.elim id id, fun q hq => ?_⟩
                      have := HI8.out.low q hq
                      have := H3.out.2.1.size
                      omega
                    go_upto_region 26 with fail
                    rename_i K hK
                    refine wp_region_lit ?_
                    refine wpList_runTo rfl (some 175) rfl (.pointer (some ⟨g, 0, none⟩)) W7 (by kernel_rfl) ?_
                    simp only [Act.put, List.setIfInBounds_toArray, List.set_cons_zero, List.set_cons_succ]
                    refine wpList_runTo rfl (some 176) rfl (v7) W7 (by kernel_rfl) ?_
                    simp only [Act.put, List.setIfInBounds_toArray, List.set_cons_zero, List.set_cons_succ]
                    refine wpList_runTo rfl (some 177) rfl (.pointer (some ⟨g, 0, none⟩)) W7 (by kernel_rfl) ?_
                    simp only [Act.put, List.setIfInBounds_toArray, List.set_cons_zero, List.set_cons_succ]
                    refine wpList_runTo rfl (some 178) rfl (.pointer (some ⟨g, 0, none⟩)) W7 (by kernel_rfl) ?_
                    simp only [Act.put, List.setIfInBounds_toArray, List.set_cons_zero, List.set_cons_succ]
                    refine wpList_runTo rfl (some 179) rfl (.pointer (some ⟨g, 3, none⟩)) W7 (by kernel_rfl) ?_
                    simp only [Act.put, List.setIfInBounds_toArray, List.set_cons_zero, List.set_cons_succ]
                    refine wpList_runTo rfl (some 180) rfl (kv) W7 (by exact ldK_run (.tmp 179) rfl (by kernel_rfl) (c3)) ?_
                    simp only [Act.put, List.setIfInBounds_toArray, List.set_cons_zero, List.set_cons_succ]
                    refine wpList_runTo rfl (some 181) rfl (.int .i64 (i : Int)) W7 (by kernel_rfl) ?_
                    simp only [Act.put, List.setIfInBounds_toArray, List.set_cons_zero, List.set_cons_succ]
                    refine wpList_runTo rfl (some 182) rfl (s2) W7 (by rw [hs2]; exact sliceKLv_run hkv (.tmp 180) (.tmp 181) rfl (by kernel_rfl) (by kernel_rfl) hin _) ?_
                    simp only [Act.put, List.setIfInBounds_toArray, List.set_cons_zero, List.set_cons_succ]
                    refine wpList_runTo rfl (some 183) rfl (v8) W8 (by exact exec_append (v1 := v7) (v2 := s2) (.tmp 176) (.tmp 182) rfl (by kernel_rfl) (by kernel_rfl) hap) ?_
                    simp only [Act.put, List.setIfInBounds_toArray, List.set_cons_zero, List.set_cons_succ]
                    refine wpList_runTo rfl (some 184) rfl (.pointer (some ⟨g, 0, none⟩)) W8 (by kernel_rfl) ?_
                    simp only [Act.put, List.setIfInBounds_toArray, List.set_cons_zero, List.set_cons_succ]
                    refine wpList_runTo rfl (some 185) rfl (.pointer (some ⟨g, 3, none⟩)) W8 (by kernel_rfl) ?_
                    simp only [Act.put, List.setIfInBounds_toArray, List.set_cons_zero, List.set_cons_succ]
                    refine wpList_skipW rfl none rfl (w' := W8.setCell ⟨g, 3, none⟩ v8) (stK_run hv8 ⟨_, _, _, hkv⟩ (.tmp 185) (.tmp 183) rfl (by kernel_rfl) (by kernel_rfl) c8 f8) ?_
                    simp only [Act.put, List.setIfInBounds_toArray, List.set_cons_zero, List.set_cons_succ]
                    refine wpList_nil ?_
                    refine hK _ _ ?_
                    clear hK
                    generalize W8.setCell ⟨g, 3, none⟩ v8 = W9 at *
                    clear hap hs2 c3 c8 f8 hin H3 HI4 HI7 HI8 HK8
                    have c3 : W9.cell? ⟨g, 3, none⟩ = some v8 := H9.out.1.blk.cell 3
                    obtain ⟨ob, hob⟩ : ∃ ob, (n + 1 == 1) = ob := ⟨_, rfl⟩
                    obtain ⟨a8, c8, hv8f⟩ : ∃ ao c, v8 = .slice ao (n + 1) c := by
                      obtain ⟨ao, c, e, _⟩ := H9.out.1.row.form
                      have e2 : (insK a.ks i ⟨R, v5, l⟩).length = n + 1 := by rw [insK_len, HNL.out]
                      exact ⟨ao, c, by rw [← e2]; exact e⟩
                    go_upto_region 27 with fail
                    rename_i K hK
                    refine wp_region_lit ?_
                    refine wpList_runTo rfl (some 186) rfl (.pointer (some ⟨g, 0, none⟩)) W9 (by kernel_rfl) ?_
                    simp only [Act.put, List.setIfInBounds_toArray, List.set_cons_zero, List.set_cons_succ]
                    refine wpList_runTo rfl (some 187) rfl (.pointer (some ⟨g, 0, none⟩)) W9 (by kernel_rfl) ?_
                    simp only [Act.put, List.setIfInBounds_toArray, List.set_cons_zero, List.set_cons_succ]
                    refine wpList_runTo rfl (some 188) rfl (.pointer (some ⟨g, 3, none⟩)) W9 (by kernel_rfl) ?_
                    simp only [Act.put, List.setIfInBounds_toArray, List.set_cons_zero, List.set_cons_succ]
                    refine wpList_runTo rfl (some 189) rfl (v8) W9 (by exact ldK_run (.tmp 188) rfl (by kernel_rfl) (c3)) ?_
                    simp only [Act.put, List.setIfInBounds_toArray, List.set_cons_zero, List.set_cons_succ]
                    refine wpList_runTo rfl (some 190) rfl (.int .i64 ((n + 1 : Nat) : Int)) W9 (by exact lenK_run hv8f (.tmp 189) rfl (by kernel_rfl) _) ?_
                    simp only [Act.put, List.setIfInBounds_toArray, List.set_cons_zero, List.set_cons_succ]
                    refine wpList_runTo rfl (some 191) rfl (.bool ob) W9 (by exact eqN_run (p := n + 1) (q := 1) (.tmp 190) (.const (.int .i64 1)) rfl (by kernel_rfl) rfl hob _) ?_
                    simp only [Act.put, List.setIfInBounds_toArray, List.set_cons_zero, List.set_cons_succ]
                    refine wpList_nil ?_
                    refine hK _ _ ?_
                    clear hK
                    clear c3 hv8f hv8
                    generalize ((n + 1 : Nat) : Int) = n1
                    cases ob
                    case false =>
                      have HZ : Hid (∃ kv' out a', RkO w W9 g kv kv' (.slice none 0 0) out a' ∧ RHd a line now l w.heap.size out a' 0) := by
                        have hne : a.ks ≠ [] := fun e => by
                          have h1 := HNL.out
                          rw [e] at h1
                          rw [h1] at hob
                          simp at hob
                        refine ⟨v8, [], _, RkO.nil H9.out.1 (fun q hq => .inr (H9.out.2.2 q hq)) H9.out.2.1, ?_⟩
                        unfold RHd
                        rw [HN.out]
                        refine ⟨rfl, .inr (.inr ⟨HHR.out, HNR.out, ⟨R, v5, l⟩, rfl, rfl, HK7.out.2, .inr ⟨HNE.out, rfl, insK_perm _ _ _, ?_⟩⟩)⟩
                        show _ = ({ (a.came line now).cnt (4 * line + 1) with ks := insK a.ks i ⟨R, v5, l⟩, si := if a.ks = [] then _ else _ } : Ab)
                        rw [if_neg hne]
                      clear H9 HA hob
                      go_wp2
                      go_ret2
                      exact ⟨_, _, rfl, HZ.out⟩
                    case true =>
                      have c5 : W9.cell? ⟨g, 5, none⟩ = some (.int .i64 MM) := by rw [HMM.out.1]; exact H9.out.1.blk.cell 5
                      have c4 : W9.cell? ⟨g, 4, none⟩ = some (.int .i64 a.si) := H9.out.1.blk.cell 4
                      have f4 : W9.frozen? ⟨g, 4, none⟩ = false := H9.out.1.blk.frozen 4
                      have HZ : Hid (∃ kv' out a', RkO w (W9.setCell ⟨g, 4, none⟩ (.int .i64 MM)) g kv kv' (.slice none 0 0) out a' ∧ RHd a line now l w.heap.size out a' 0) := by
                        have hnil : a.ks = [] := by
                          have h1 := HNL.out
                          have h2 : n = 0 := by simpa using hob
                          exact List.length_eq_zero_iff.1 (by omega)
                        have hbd := H9.out.1.bd
                        have h1 := H9.out.1.put { (a.came line now).cnt (4 * line + 1) with ks := insK a.ks i ⟨R, v5, l⟩, si := MM } 4 (.int .i64 MM) (by rfl) H9.out.1.row H9.out.1.pk ⟨hbd.w1, hbd.w2, hbd.p0, hbd.p1, hbd.nx, HMM.out.2.1, HMM.out.2.2, hbd.l0, hbd.l1, hbd.kn, hbd.cn, hbd.len⟩ H9.out.1.so
                        have hf := Fr.setCell W9 ⟨g, 4, none⟩ (.int .i64 MM) (fun x => x = g) rfl
                        refine ⟨v8, [], _, RkO.nil h1 (fun q hq => .inr (H9.out.2.2 q hq)) (H9.out.2.1.trans hf fun x _ q => q.elim id id), ?_⟩
                        unfold RHd
                        rw [HN.out]
                        refine ⟨rfl, .inr (.inr ⟨HHR.out, HNR.out, ⟨R, v5, l⟩, rfl, rfl, HK7.out.2, .inr ⟨HNE.out, rfl, insK_perm _ _ _, ?_⟩⟩)⟩
                        show _ = ({ (a.came line now).cnt (4 * line + 1) with ks := insK a.ks i ⟨R, v5, l⟩, si := if a.ks = [] then max a.la now else _ } : Ab)
                        rw [if_pos hnil, HMM.out.1]
                      go_upto_region 28 with fail
                      refine wp_region_lit ?_
                      refine wpList_runTo rfl (some 192) rfl (.pointer (some ⟨g, 0, none⟩)) W9 (by kernel_rfl) ?_
                      simp only [Act.put, List.setIfInBounds_toArray, List.set_cons_zero, List.set_cons_succ]
                      refine wpList_runTo rfl (some 193) rfl (.pointer (some ⟨g, 0, none⟩)) W9 (by kernel_rfl) ?_
                      simp only [Act.put, List.setIfInBounds_toArray, List.set_cons_zero, List.set_cons_succ]
                      refine wpList_runTo rfl (some 194) rfl (.pointer (some ⟨g, 0, none⟩)) W9 (by kernel_rfl) ?_
                      simp only [Act.put, List.setIfInBounds_toArray, List.set_cons_zero, List.set_cons_succ]
                      refine wpList_runTo rfl (some 195) rfl (.pointer (some ⟨g, 5, none⟩)) W9 (by kernel_rfl) ?_
                      simp only [Act.put, List.setIfInBounds_toArray, List.set_cons_zero, List.set_cons_succ]
                      refine wpList_runTo rfl (some 196) rfl (.int .i64 MM) W9 (by exact ldN_run (.inl rfl) (.tmp 195) rfl (by kernel_rfl) (c5)) ?_
                      simp only [Act.put, List.setIfInBounds_toArray, List.set_cons_zero, List.set_cons_succ]
                      refine wpList_runTo rfl (some 197) rfl (.pointer (some ⟨g, 0, none⟩)) W9 (by kernel_rfl) ?_
                      simp only [Act.put, List.setIfInBounds_toArray, List.set_cons_zero, List.set_cons_succ]
                      refine wpList_runTo rfl (some 198) rfl (.pointer (some ⟨g, 4, none⟩)) W9 (by kernel_rfl) ?_
                      simp only [Act.put, List.setIfInBounds_toArray, List.set_cons_zero, List.set_cons_succ]
                      refine wpList_skipW rfl none rfl (w' := W9.setCell ⟨g, 4, none⟩ (.int .i64 MM)) (stN_run (.inl rfl) (.tmp 198) (.tmp 196) rfl (by kernel_rfl) (by kernel_rfl) c4 f4) ?_
                      simp only [Act.put, List.setIfInBounds_toArray, List.set_cons_zero, List.set_cons_succ]
                      refine wpList_nil ?_
                      generalize W9.setCell ⟨g, 4, none⟩ (.int .i64 MM) = W10 at *
                      clear c5 c4 f4 H9 HA hob
                      go_wp2
                      go_ret2
                      exact ⟨_, _, rfl, HZ.out⟩
          · have hine : i = n := by omega
            have HHI : Hid (∀ q, a.ks[i]? = some q → R < q.n) := fun q hq => by
              have h1 := (List.getElem?_eq_some_iff.1 hq).1
              have := HNL.out
              omega
            clear hine
            obtain ⟨bf, hbf⟩ : ∃ bf : Bool, bf = false := ⟨_, rfl⟩
            have hib : decide (i < n) = bf := by rw [hbf]; exact decide_eq_false hlt
            go_upto_region 17 with fail
            rename_i K hK
            refine wp_region_lit ?_
            refine wpList_runTo rfl (some 85) rfl (.int .i64 (i : Int)) wr (by kernel_rfl) ?_
            simp only [Act.put, List.setIfInBounds_toArray, List.set_cons_zero, List.set_cons_succ]
            refine wpList_runTo rfl (some 86) rfl (.pointer (some ⟨g, 0, none⟩)) wr (by kernel_rfl) ?_
            simp only [Act.put, List.setIfInBounds_toArray, List.set_cons_zero, List.set_cons_succ]
            refine wpList_runTo rfl (some 87) rfl (.pointer (some ⟨g, 0, none⟩)) wr (by kernel_rfl) ?_
            simp only [Act.put, List.setIfInBounds_toArray, List.set_cons_zero, List.set_cons_succ]
            refine wpList_runTo rfl (some 88) rfl (.pointer (some ⟨g, 3, none⟩)) wr (by kernel_rfl) ?_
            simp only [Act.put, List.setIfInBounds_toArray, List.set_cons_zero, List.set_cons_succ]
            refine wpList_runTo rfl (some 89) rfl (kv) wr (by exact ldK_run (.tmp 88) rfl (by kernel_rfl) (c3)) ?_
            simp only [Act.put, List.setIfInBounds_toArray, List.set_cons_zero, List.set_cons_succ]
            refine wpList_runTo rfl (some 90) rfl (.int .i64 (n : Int)) wr (by exact lenK_run hkv (.tmp 89) rfl (by kernel_rfl) _) ?_
            simp only [Act.put, List.setIfInBounds_toArray, List.set_cons_zero, List.set_cons_succ]
            refine wpList_runTo rfl (some 91) rfl (.bool bf) wr (by exact ltN_run (n := i) (k := n) (.tmp 85) (.tmp 90) rfl (by kernel_rfl) (by kernel_rfl) hib _) ?_
            simp only [Act.put, List.setIfInBounds_toArray, List.set_cons_zero, List.set_cons_succ]
            refine wpList_runTo rfl (some 92) rfl (.bool bf) wr (by kernel_rfl) ?_
            simp only [Act.put, List.setIfInBounds_toArray, List.set_cons_zero, List.set_cons_succ]
            refine wpList_skipU hun (by subst hbf; kernel_rfl) (some 93) rfl ?_
            simp only [Act.put, List.setIfInBounds_toArray, List.set_cons_zero, List.set_cons_succ]
            refine wpList_skipU hun (by subst hbf; kernel_rfl) (some 94) rfl ?_
            simp only [Act.put, List.setIfInBounds_toArray, List.set_cons_zero, List.set_cons_succ]
            refine wpList_skipU hun (by subst hbf; kernel_rfl) (some 95) rfl ?_
            simp only [Act.put, List.setIfInBounds_toArray, List.set_cons_zero, List.set_cons_succ]
            refine wpList_skipU hun (by subst hbf; kernel_rfl) (some 96) rfl ?_
            simp only [Act.put, List.setIfInBounds_toArray, List.set_cons_zero, List.set_cons_succ]
            refine wpList_skipU hun (by subst hbf; kernel_rfl) (some 97) rfl ?_
            simp only [Act.put, List.setIfInBounds_toArray, List.set_cons_zero, List.set_cons_succ]
            refine wpList_skipU hun (by subst hbf; kernel_rfl) (some 98) rfl ?_
            simp only [Act.put, List.setIfInBounds_toArray, List.set_cons_zero, List.set_cons_succ]
            refine wpList_skipU hun (by subst hbf; kernel_rfl) (some 99) rfl ?_
            simp only [Act.put, List.setIfInBounds_toArray, List.set_cons_zero, List.set_cons_succ]
            refine wpList_skipU hun (by subst hbf; kernel_rfl) (some 100) rfl ?_
            simp only [Act.put, List.setIfInBounds_toArray, List.set_cons_zero, List.set_cons_succ]
            refine wpList_skipU hun (by subst hbf; kernel_rfl) (some 101) rfl ?_
            simp only [Act.put, List.setIfInBounds_toArray, List.set_cons_zero, List.set_cons_succ]
            refine wpList_skipU hun (by subst hbf; kernel_rfl) (some 102) rfl ?_
            simp only [Act.put, List.setIfInBounds_toArray, List.set_cons_zero, List.set_cons_succ]
            refine wpList_runTo rfl (some 103) rfl (.bool false) wr (by subst hbf; kernel_rfl) ?_
            simp only [Act.put, List.setIfInBounds_toArray, List.set_cons_zero, List.set_cons_succ]
            refine wpList_nil ?_
            refine hK _ _ ?_
            clear hK
            obtain ⟨xb, hxb⟩ : ∃ xb, decide (R < X) = xb := ⟨_, rfl⟩
            cases xb
            case true =>
              have HHR : Hid (hrB a R = true) := by
                show hrB a R = true
                unfold hrB
                rw [← HX.out, hxb, Bool.or_true]
              obtain ⟨bt, hbt⟩ : ∃ bt : Bool, bt = true := ⟨_, rfl⟩
              rw [← hbt] at hxb
              go_upto_region 19 with fail
              rename_i K hK
              refine wp_region_lit ?_
              refine wpList_runTo rfl (some 107) rfl (.int .i64 (R : Int)) wr (by kernel_rfl) ?_
              simp only [Act.put, List.setIfInBounds_toArray, List.set_cons_zero, List.set_cons_succ]
              refine wpList_runTo rfl (some 108) rfl (.pointer (some ⟨g, 0, none⟩)) wr (by kernel_rfl) ?_
              simp only [Act.put, List.setIfInBounds_toArray, List.set_cons_zero, List.set_cons_succ]
              refine wpList_runTo rfl (some 109) rfl (.pointer (some ⟨g, 0, none⟩)) wr (by kernel_rfl) ?_
              simp only [Act.put, List.setIfInBounds_toArray, List.set_cons_zero, List.set_cons_succ]
              refine wpList_runTo rfl (some 110) rfl (.pointer (some ⟨g, 2, none⟩)) wr (by kernel_rfl) ?_
              simp only [Act.put, List.setIfInBounds_toArray, List.set_cons_zero, List.set_cons_succ]
              refine wpList_runTo rfl (some 111) rfl (.int .i64 (X : Int)) wr (by exact ldN_run (.inr rfl) (.tmp 110) rfl (by kernel_rfl) (c2)) ?_
              simp only [Act.put, List.setIfInBounds_toArray, List.set_cons_zero, List.set_cons_succ]
              refine wpList_runTo rfl (some 112) rfl (.bool bt) wr (by exact ltN_run (n := R) (k := X) (.tmp 107) (.tmp 111) rfl (by kernel_rfl) (by kernel_rfl) hxb _) ?_
              simp only [Act.put, List.setIfInBounds_toArray, List.set_cons_zero, List.set_cons_succ]
              refine wpList_runTo rfl (some 113) rfl (.bool bt) wr (by kernel_rfl) ?_
              simp only [Act.put, List.setIfInBounds_toArray, List.set_cons_zero, List.set_cons_succ]
              refine wpList_skipU hun (by subst hbt; kernel_rfl) (some 114) rfl ?_
              simp only [Act.put, List.setIfInBounds_toArray, List.set_cons_zero, List.set_cons_succ]
              refine wpList_skipU hun (by subst hbt; kernel_rfl) (some 115) rfl ?_
              simp only [Act.put, List.setIfInBounds_toArray, List.set_cons_zero, List.set_cons_succ]
              refine wpList_skipU hun (by subst hbt; kernel_rfl) (some 116) rfl ?_
              simp only [Act.put, List.setIfInBounds_toArray, List.set_cons_zero, List.set_cons_succ]
              refine wpList_skipU hun (by subst hbt; kernel_rfl) (some 117) rfl ?_
              simp only [Act.put, List.setIfInBounds_toArray, List.set_cons_zero, List.set_cons_succ]
              refine wpList_skipU hun (by subst hbt; kernel_rfl) (some 118) rfl ?_
              simp only [Act.put, List.setIfInBounds_toArray, List.set_cons_zero, List.set_cons_succ]
              refine wpList_skipU hun (by subst hbt; kernel_rfl) (some 119) rfl ?_
              simp only [Act.put, List.setIfInBounds_toArray, List.set_cons_zero, List.set_cons_succ]
              refine wpList_skipU hun (by subst hbt; kernel_rfl) (some 120) rfl ?_
              simp only [Act.put, List.setIfInBounds_toArray, List.set_cons_zero, List.set_cons_succ]
              refine wpList_skipU hun (by subst hbt; kernel_rfl) (some 121) rfl ?_
              simp only [Act.put, List.setIfInBounds_toArray, List.set_cons_zero, List.set_cons_succ]
              refine wpList_skipU hun (by subst hun hbt; kernel_rfl) (some 122) rfl ?_
              simp only [Act.put, List.setIfInBounds_toArray, List.set_cons_zero, List.set_cons_succ]
              refine wpList_skipU hun (by subst hun hbt; kernel_rfl) (some 123) rfl ?_
              simp only [Act.put, List.setIfInBounds_toArray, List.set_cons_zero, List.set_cons_succ]
              refine wpList_skipU hun (by subst hun hbt; kernel_rfl) (some 124) rfl ?_
              simp only [Act.put, List.setIfInBounds_toArray, List.set_cons_zero, List.set_cons_succ]
              refine wpList_skipU hun (by subst hun hbt; kernel_rfl) (some 125) rfl ?_
              simp only [Act.put, List.setIfInBounds_toArray, List.set_cons_zero, List.set_cons_succ]
              refine wpList_skipU hun (by subst hun hbt; kernel_rfl) (some 126) rfl ?_
              simp only [Act.put, List.setIfInBounds_toArray, List.set_cons_zero, List.set_cons_succ]
              refine wpList_skipU hun (by subst hun hbt; kernel_rfl) (some 127) rfl ?_
              simp only [Act.put, List.setIfInBounds_toArray, List.set_cons_zero, List.set_cons_succ]
              refine wpList_skipU hun (by subst hun hbt; kernel_rfl) (some 128) rfl ?_
              simp only [Act.put, List.setIfInBounds_toArray, List.set_cons_zero, List.set_cons_succ]
              refine wpList_skipU hun (by subst hun hbt; kernel_rfl) (some 129) rfl ?_
              simp only [Act.put, List.setIfInBounds_toArray, List.set_cons_zero, List.set_cons_succ]
              refine wpList_skipU hun (by subst hun hbt; kernel_rfl) (some 130) rfl ?_
              simp only [Act.put, List.setIfInBounds_toArray, List.set_cons_zero, List.set_cons_succ]
              refine wpList_skipU hun (by subst hun hbt; kernel_rfl) (some 131) rfl ?_
              simp only [Act.put, List.setIfInBounds_toArray, List.set_cons_zero, List.set_cons_succ]
              refine wpList_skipU hun (by subst hbt; kernel_rfl) (some 132) rfl ?_
              simp only [Act.put, List.setIfInBounds_toArray, List.set_cons_zero, List.set_cons_succ]
              refine wpList_runTo rfl (some 133) rfl (.bool true) wr (by subst hbt; kernel_rfl) ?_
              simp only [Act.put, List.setIfInBounds_toArray, List.set_cons_zero, List.set_cons_succ]
              refine wpList_runTo rfl (some 106) rfl (.bool true) wr (by kernel_rfl) ?_
              simp only [Act.put, List.setIfInBounds_toArray, List.set_cons_zero, List.set_cons_succ]
              refine wpList_nil ?_
              refine hK _ _ ?_
              clear hK
              clear hxb c3 c2
              go_upto_region 20 with fail
              have hbw : Below wr.heap.size wr wr.drew := ⟨rfl, rfl, rfl, Nat.le_refl _, fun _ _ => rfl⟩
              have H2d : Hid (RbAt wr.drew g kv (a.came line now) ∧ Fr w wr.drew (fun x => x = g) ∧ By wr.drew v l) := ⟨H2.out.1.below hbw, H2.out.2.1.trans (Fr.of_below hbw (fun _ => False)) fun x _ q => q.elim id False.elim, H2.out.2.2.below hbw⟩
              clear hbw H2
              obtain ⟨z, hz⟩ : ∃ z, z = (a.came line now).cn (4 * line + 2) := ⟨_, rfl⟩
              obtain ⟨oc, hoc⟩ : ∃ oc, oc = o6 + 2 := ⟨_, rfl⟩
              rename_i K hK
              refine wp_region_late (fun w' => w'.cell? ⟨g, oc, none⟩ = some (.int .i64 (z : Int))) 7 (by kernel_rfl) ?_
              intro hCl
              generalize wr.drew = Z at *
              change wpAnyL _ _ _ _ _ _ 8 _ _ _
              have hS : Z.cell? ⟨g, oc, none⟩ = some (.int .i64 (z : Int)) := by rw [hoc, HO6.out, hz]; exact RbAt.cell_cn H2d.out.1 HLN.out (by decide)
              have hF : Z.frozen? ⟨g, oc, none⟩ = false := H2d.out.1.blk.frozen oc
              have hzb : z + 1 ≤ 1000000000000 := by rw [hz]; have := HA.out.2.2.2.2 (4 * line + 2); have := (bmp_le a.cn (4 * line) (4 * line + 2)).2; show bmp a.cn (4 * line) (4 * line + 2) + 1 ≤ _; omega
              refine takeL (i := 0) (v := .pointer (some ⟨g, o6, none⟩)) 7 (some 134) rfl rfl (by kernel_rfl) (by kernel_rfl) (by kernel_rfl) (by kernel_rfl) hCl (fun _ _ _ h => h) (Or.inl ⟨by kernel_rfl, fun w' hSw => by kernel_rfl⟩) hS ?_
              clear hCl
              intro hCl
              simp only [Act.put, List.setIfInBounds_toArray, List.set_cons_zero, List.set_cons_succ]
              refine takeL (i := 1) (v := .pointer (some ⟨g, o6, none⟩)) 7 (some 135) rfl rfl (by kernel_rfl) (by kernel_rfl) (by kernel_rfl) (by kernel_rfl) hCl (fun _ _ _ h => h) (Or.inl ⟨by kernel_rfl, fun w' hSw => by kernel_rfl⟩) hS ?_
              clear hCl
              intro hCl
              simp only [Act.put, List.setIfInBounds_toArray, List.set_cons_zero, List.set_cons_succ]
              refine takeL (i := 2) (v := .pointer (some ⟨g, oc, none⟩)) 7 (some 136) rfl rfl (by kernel_rfl) (by kernel_rfl) (by kernel_rfl) (by kernel_rfl) hCl (fun _ _ _ h => h) (Or.inl ⟨by kernel_rfl, fun w' hSw => by rw [hoc]; kernel_rfl⟩) hS ?_
              clear hCl
              intro hCl
              simp only [Act.put, List.setIfInBounds_toArray, List.set_cons_zero, List.set_cons_succ]
              refine takeL (i := 3) (v := .int .i64 (z : Int)) 7 (some 137) rfl rfl (by kernel_rfl) (by kernel_rfl) (by kernel_rfl) (by kernel_rfl) hCl (fun _ _ _ h => h) (Or.inl ⟨by kernel_rfl, fun w' hSw => by exact ldN_run (.inr rfl) (.tmp 136) rfl (by kernel_rfl) hSw⟩) hS ?_
              clear hCl
              intro hCl
              simp only [Act.put, List.setIfInBounds_toArray, List.set_cons_zero, List.set_cons_succ]
              refine takeL (i := 4) (v := .int .i64 ((z + 1 : Nat) : Int)) 7 (some 138) rfl rfl (by kernel_rfl) (by kernel_rfl) (by kernel_rfl) (by kernel_rfl) hCl (fun _ _ _ h => h) (Or.inl ⟨by kernel_rfl, fun w' hSw => by exact addN_run (p := z) (q := 1) (.tmp 137) (.const (.int .i64 1)) rfl (by kernel_rfl) rfl (by omega) _⟩) hS ?_
              clear hCl
              intro hCl
              simp only [Act.put, List.setIfInBounds_toArray, List.set_cons_zero, List.set_cons_succ]
              refine takeL (i := 5) (v := .pointer (some ⟨g, o6, none⟩)) 7 (some 139) rfl rfl (by kernel_rfl) (by kernel_rfl) (by kernel_rfl) (by kernel_rfl) hCl (fun _ _ _ h => h) (Or.inl ⟨by kernel_rfl, fun w' hSw => by kernel_rfl⟩) hS ?_
              clear hCl
              intro hCl
              simp only [Act.put, List.setIfInBounds_toArray, List.set_cons_zero, List.set_cons_succ]
              refine takeL (i := 6) (v := .pointer (some ⟨g, oc, none⟩)) 7 (some 140) rfl rfl (by kernel_rfl) (by kernel_rfl) (by kernel_rfl) (by kernel_rfl) hCl (fun _ _ _ h => h) (Or.inl ⟨by kernel_rfl, fun w' hSw => by rw [hoc]; kernel_rfl⟩) hS ?_
              clear hCl
              intro hCl
              simp only [Act.put, List.setIfInBounds_toArray, List.set_cons_zero, List.set_cons_succ]
              refine oneL (i := 7) rfl (by kernel_rfl) hCl (by kernel_rfl) (fun K1 hK1 => ?_)
              refine skipR (d := none) rfl (w' := Z.setCell ⟨g, oc, none⟩ (.int .i64 ((z + 1 : Nat) : Int))) (stN_run (.inr rfl) (.tmp 140) (.tmp 138) rfl (by kernel_rfl) (by kernel_rfl) hS hF) ?_
              refine hK1.out _ _ (fun h => absurd rfl h) ?_
              clear hK1 hCl hS hF
              intro hCl
              simp only [Act.put, List.setIfInBounds_toArray, List.set_cons_zero, List.set_cons_succ]
              refine doneL (by kernel_rfl) ?_
              clear hCl
              refine hK _ _ ?_
              clear hK
              have H3 : Hid (RbAt (Z.setCell ⟨g, oc, none⟩ (.int .i64 ((z + 1 : Nat) : Int))) g kv ((a.came line now).cnt (4 * line + 2)) ∧ Fr w (Z.setCell ⟨g, oc, none⟩ (.int .i64 ((z + 1 : Nat) : Int))) (fun x => x = g) ∧ By (Z.setCell ⟨g, oc, none⟩ (.int .i64 ((z + 1 : Nat) : Int))) v l) := by
                have hf := Fr.setCell Z ⟨g, oc, none⟩ (.int .i64 ((z + 1 : Nat) : Int)) (fun x => x = g) rfl
                have hab := H2d.out.1.bump (line := line) (c := 2) HLN.out (by decide) (by rw [← hz]; omega)
                rw [← hz, ← HO6.out, ← hoc] at hab
                exact ⟨hab, H2d.out.2.1.trans hf fun x _ q => q.elim id id, H2d.out.2.2.frR hf H2d.out.1⟩
              generalize Z.setCell ⟨g, oc, none⟩ (.int .i64 ((z + 1 : Nat) : Int)) = W3 at *
              generalize z = z20 at *
              clear H2d hz hoc hzb
              have HZ : Hid (∃ kv' out a', RkO w W3 g kv kv' (.slice none 0 0) out a' ∧ RHd a line now l w.heap.size out a' 0) := ⟨kv, [], _, RkO.nil H3.out.1 (fun q hq => .inl hq) H3.out.2.1, by unfold RHd; rw [HN.out]; exact ⟨rfl, .inl ⟨HHR.out, rfl, rfl⟩⟩⟩
              clear H3 HA
              go_wp2
              go_ret2
              exact ⟨_, _, rfl, HZ.out⟩
            case false =>
              have HHR : Hid (hrB a R = false) := by
                show hrB a R = false
                unfold hrB
                rw [← HX.out, hxb, HPL.out.none HA.out.1.so HHI.out]
                rfl
              go_upto_region 19 with fail
              rename_i K hK
              refine wp_region_lit ?_
              refine wpList_runTo rfl (some 107) rfl (.int .i64 (R : Int)) wr (by kernel_rfl) ?_
              simp only [Act.put, List.setIfInBounds_toArray, List.set_cons_zero, List.set_cons_succ]
              refine wpList_runTo rfl (some 108) rfl (.pointer (some ⟨g, 0, none⟩)) wr (by kernel_rfl) ?_
              simp only [Act.put, List.setIfInBounds_toArray, List.set_cons_zero, List.set_cons_succ]
              refine wpList_runTo rfl (some 109) rfl (.pointer (some ⟨g, 0, none⟩)) wr (by kernel_rfl) ?_
              simp only [Act.put, List.setIfInBounds_toArray, List.set_cons_zero, List.set_cons_succ]
              refine wpList_runTo rfl (some 110) rfl (.pointer (some ⟨g, 2, none⟩)) wr (by kernel_rfl) ?_
              simp only [Act.put, List.setIfInBounds_toArray, List.set_cons_zero, List.set_cons_succ]
              refine wpList_runTo rfl (some 111) rfl (.int .i64 (X : Int)) wr (by exact ldN_run (.inr rfl) (.tmp 110) rfl (by kernel_rfl) (c2)) ?_
              simp only [Act.put, List.setIfInBounds_toArray, List.set_cons_zero, List.set_cons_succ]
              refine wpList_runTo rfl (some 112) rfl (.bool false) wr (by exact ltN_run (n := R) (k := X) (.tmp 107) (.tmp 111) rfl (by kernel_rfl) (by kernel_rfl) hxb _) ?_
              simp only [Act.put, List.setIfInBounds_toArray, List.set_cons_zero, List.set_cons_succ]
              refine wpList_runTo rfl (some 113) rfl (.bool false) wr (by kernel_rfl) ?_
              simp only [Act.put, List.setIfInBounds_toArray, List.set_cons_zero, List.set_cons_succ]
              refine wpList_runToG (by kernel_rfl) (some 114) rfl (.int .i64 (i : Int)) wr (by kernel_rfl) ?_
              simp only [Act.put, List.setIfInBounds_toArray, List.set_cons_zero, List.set_cons_succ]
              refine wpList_runToG (by kernel_rfl) (some 115) rfl (.pointer (some ⟨g, 0, none⟩)) wr (by kernel_rfl) ?_
              simp only [Act.put, List.setIfInBounds_toArray, List.set_cons_zero, List.set_cons_succ]
              refine wpList_runToG (by kernel_rfl) (some 116) rfl (.pointer (some ⟨g, 0, none⟩)) wr (by kernel_rfl) ?_
              simp only [Act.put, List.setIfInBounds_toArray, List.set_cons_zero, List.set_cons_succ]
              refine wpList_runToG (by kernel_rfl) (some 117) rfl (.pointer (some ⟨g, 3, none⟩)) wr (by kernel_rfl) ?_
              simp only [Act.put, List.setIfInBounds_toArray, List.set_cons_zero, List.set_cons_succ]
              refine wpList_runToG (by kernel_rfl) (some 118) rfl (kv) wr (by exact ldK_run (.tmp 117) rfl (by kernel_rfl) (c3)) ?_
              simp only [Act.put, List.setIfInBounds_toArray, List.set_cons_zero, List.set_cons_succ]
              refine wpList_runToG (by kernel_rfl) (some 119) rfl (.int .i64 (n : Int)) wr (by exact lenK_run hkv (.tmp 118) rfl (by kernel_rfl) _) ?_
              simp only [Act.put, List.setIfInBounds_toArray, List.set_cons_zero, List.set_cons_succ]
              refine wpList_runToG (by kernel_rfl) (some 120) rfl (.bool bf) wr (by exact ltN_run (n := i) (k := n) (.tmp 114) (.tmp 119) rfl (by kernel_rfl) (by kernel_rfl) hib _) ?_
              simp only [Act.put, List.setIfInBounds_toArray, List.set_cons_zero, List.set_cons_succ]
              refine wpList_runToG (by kernel_rfl) (some 121) rfl (.bool bf) wr (by kernel_rfl) ?_
              simp only [Act.put, List.setIfInBounds_toArray, List.set_cons_zero, List.set_cons_succ]
              refine wpList_skipU hun (by subst hbf; kernel_rfl) (some 122) rfl ?_
              simp only [Act.put, List.setIfInBounds_toArray, List.set_cons_zero, List.set_cons_succ]
              refine wpList_skipU hun (by subst hbf; kernel_rfl) (some 123) rfl ?_
              simp only [Act.put, List.setIfInBounds_toArray, List.set_cons_zero, List.set_cons_succ]
              refine wpList_skipU hun (by subst hbf; kernel_rfl) (some 124) rfl ?_
              simp only [Act.put, List.setIfInBounds_toArray, List.set_cons_zero, List.set_cons_succ]
              refine wpList_skipU hun (by subst hbf; kernel_rfl) (some 125) rfl ?_
              simp only [Act.put, List.setIfInBounds_toArray, List.set_cons_zero, List.set_cons_succ]
              refine wpList_skipU hun (by subst hbf; kernel_rfl) (some 126) rfl ?_
              simp only [Act.put, List.setIfInBounds_toArray, List.set_cons_zero, List.set_cons_succ]
              refine wpList_skipU hun (by subst hbf; kernel_rfl) (some 127) rfl ?_
              simp only [Act.put, List.setIfInBounds_toArray, List.set_cons_zero, List.set_cons_succ]
              refine wpList_skipU hun (by subst hbf; kernel_rfl) (some 128) rfl ?_
              simp only [Act.put, List.setIfInBounds_toArray, List.set_cons_zero, List.set_cons_succ]
              refine wpList_skipU hun (by subst hbf; kernel_rfl) (some 129) rfl ?_
              simp only [Act.put, List.setIfInBounds_toArray, List.set_cons_zero, List.set_cons_succ]
              refine wpList_skipU hun (by subst hbf; kernel_rfl) (some 130) rfl ?_
              simp only [Act.put, List.setIfInBounds_toArray, List.set_cons_zero, List.set_cons_succ]
              refine wpList_skipU hun (by subst hbf; kernel_rfl) (some 131) rfl ?_
              simp only [Act.put, List.setIfInBounds_toArray, List.set_cons_zero, List.set_cons_succ]
              refine wpList_runToG (by kernel_rfl) (some 132) rfl (.bool false) wr (by subst hbf; kernel_rfl) ?_
              simp only [Act.put, List.setIfInBounds_toArray, List.set_cons_zero, List.set_cons_succ]
              refine wpList_runTo rfl (some 133) rfl (.bool false) wr (by kernel_rfl) ?_
              simp only [Act.put, List.setIfInBounds_toArray, List.set_cons_zero, List.set_cons_succ]
              refine wpList_runTo rfl (some 106) rfl (.bool false) wr (by kernel_rfl) ?_
              simp only [Act.put, List.setIfInBounds_toArray, List.set_cons_zero, List.set_cons_succ]
              refine wpList_nil ?_
              refine hK _ _ ?_
              clear hK
              clear c3 c2 hxb hib
              go_upto_region 21 with fail
              have hbw : Below wr.heap.size wr wr.drew := ⟨rfl, rfl, rfl, Nat.le_refl _, fun _ _ => rfl⟩
              have H2d : Hid (RbAt wr.drew g kv (a.came line now) ∧ Fr w wr.drew (fun x => x = g) ∧ By wr.drew v l) := ⟨H2.out.1.below hbw, H2.out.2.1.trans (Fr.of_below hbw (fun _ => False)) fun x _ q => q.elim id False.elim, H2.out.2.2.below hbw⟩
              clear hbw H2
              obtain ⟨WN, hWN⟩ : ∃ X, X = a.win := ⟨_, rfl⟩
              have HWN : Hid (WN = a.win) := hWN
              have hXW : X + WN ≤ 9223372036854775807 := by rw [HX.out, hWN]; have := HA.out.1.bd.nx; have := HA.out.1.bd.w2; omega
              clear hWN
              obtain ⟨fb, hfb⟩ : ∃ fb, decide (R < X + WN) = fb := ⟨_, rfl⟩
              rename_i K hK
              refine wp_region_held (S := fun w' => w'.cell? ⟨g, 2, none⟩ = some (.int .i64 (X : Int)) ∧ w'.cell? ⟨g, 0, none⟩ = some (.int .i64 (WN : Int))) (by kernel_rfl) ?_
              change wpAnyH _ _ _ _ _ _ _ _ (World.drew _)
              generalize wr.drew = WD at *
              have hS : WD.cell? ⟨g, 2, none⟩ = some (.int .i64 (X : Int)) ∧ WD.cell? ⟨g, 0, none⟩ = some (.int .i64 (WN : Int)) := ⟨by rw [HX.out]; exact H2d.out.1.blk.cell 2, by rw [HWN.out]; exact H2d.out.1.blk.cell 0⟩
              refine takeR (i := 0) (v := .int .i64 (R : Int)) (some 142) rfl rfl (by kernel_rfl) (by kernel_rfl) (by kernel_rfl) (fun _ _ _ h => h) (Or.inl ⟨by kernel_rfl, fun w' hSw => by kernel_rfl⟩) hS ?_
              simp only [Act.put, List.setIfInBounds_toArray, List.set_cons_zero, List.set_cons_succ]
              refine takeR (i := 1) (v := .pointer (some ⟨g, 0, none⟩)) (some 143) rfl rfl (by kernel_rfl) (by kernel_rfl) (by kernel_rfl) (fun _ _ _ h => h) (Or.inl ⟨by kernel_rfl, fun w' hSw => by kernel_rfl⟩) hS ?_
              simp only [Act.put, List.setIfInBounds_toArray, List.set_cons_zero, List.set_cons_succ]
              refine takeR (i := 2) (v := .pointer (some ⟨g, 0, none⟩)) (some 144) rfl rfl (by kernel_rfl) (by kernel_rfl) (by kernel_rfl) (fun _ _ _ h => h) (Or.inl ⟨by kernel_rfl, fun w' hSw => by kernel_rfl⟩) hS ?_
              simp only [Act.put, List.setIfInBounds_toArray, List.set_cons_zero, List.set_cons_succ]
              refine takeR (i := 3) (v := .pointer (some ⟨g, 2, none⟩)) (some 145) rfl rfl (by kernel_rfl) (by kernel_rfl) (by kernel_rfl) (fun _ _ _ h => h) (Or.inl ⟨by kernel_rfl, fun w' hSw => by kernel_rfl⟩) hS ?_
              simp only [Act.put, List.setIfInBounds_toArray, List.set_cons_zero, List.set_cons_succ]
              refine takeR (i := 4) (v := .int .i64 (X : Int)) (some 146) rfl rfl (by kernel_rfl) (by kernel_rfl) (by kernel_rfl) (fun _ _ _ h => h) (Or.inl ⟨by kernel_rfl, fun w' hSw => by exact ldN_run (.inr rfl) (.tmp 145) rfl (by kernel_rfl) (hSw.1)⟩) hS ?_
              simp only [Act.put, List.setIfInBounds_toArray, List.set_cons_zero, List.set_cons_succ]
              refine takeR (i := 5) (v := .pointer (some ⟨g, 0, none⟩)) (some 147) rfl rfl (by kernel_rfl) (by kernel_rfl) (by kernel_rfl) (fun _ _ _ h => h) (Or.inl ⟨by kernel_rfl, fun w' hSw => by kernel_rfl⟩) hS ?_
              simp only [Act.put, List.setIfInBounds_toArray, List.set_cons_zero, List.set_cons_succ]
              refine takeR (i := 6) (v := .pointer (some ⟨g, 0, none⟩)) (some 148) rfl rfl (by kernel_rfl) (by kernel_rfl) (by kernel_rfl) (fun _ _ _ h => h) (Or.inl ⟨by kernel_rfl, fun w' hSw => by kernel_rfl⟩) hS ?_
              simp only [Act.put, List.setIfInBounds_toArray, List.set_cons_zero, List.set_cons_succ]
              refine takeR (i := 7) (v := .pointer (some ⟨g, 0, none⟩)) (some 149) rfl rfl (by kernel_rfl) (by kernel_rfl) (by kernel_rfl) (fun _ _ _ h => h) (Or.inl ⟨by kernel_rfl, fun w' hSw => by kernel_rfl⟩) hS ?_
              simp only [Act.put, List.setIfInBounds_toArray, List.set_cons_zero, List.set_cons_succ]
              refine takeR (i := 8) (v := .int .i64 (WN : Int)) (some 150) rfl rfl (by kernel_rfl) (by kernel_rfl) (by kernel_rfl) (fun _ _ _ h => h) (Or.inl ⟨by kernel_rfl, fun w' hSw => by exact ldN_run (.inr rfl) (.tmp 149) rfl (by kernel_rfl) (hSw.2)⟩) hS ?_
              simp only [Act.put, List.setIfInBounds_toArray, List.set_cons_zero, List.set_cons_succ]
              refine takeR (i := 9) (v := .int .i64 ((X + WN : Nat) : Int)) (some 151) rfl rfl (by kernel_rfl) (by kernel_rfl) (by kernel_rfl) (fun _ _ _ h => h) (Or.inl ⟨by kernel_rfl, fun w' hSw => by exact addN_run (p := X) (q := WN) (.tmp 146) (.tmp 150) rfl (by kernel_rfl) (by kernel_rfl) hXW _⟩) hS ?_
              simp only [Act.put, List.setIfInBounds_toArray, List.set_cons_zero, List.set_cons_succ]
              refine takeR (i := 10) (v := .bool fb) (some 152) rfl rfl (by kernel_rfl) (by kernel_rfl) (by kernel_rfl) (fun _ _ _ h => h) (Or.inl ⟨by kernel_rfl, fun w' hSw => by exact ltN_run (n := R) (k := X + WN) (.tmp 142) (.tmp 151) rfl (by kernel_rfl) (by kernel_rfl) hfb _⟩) hS ?_
              simp only [Act.put, List.setIfInBounds_toArray, List.set_cons_zero, List.set_cons_succ]
              refine takeR (i := 11) (v := .bool fb) (some 141) rfl rfl (by kernel_rfl) (by kernel_rfl) (by kernel_rfl) (fun _ _ _ h => h) (Or.inl ⟨by kernel_rfl, fun w' hSw => by kernel_rfl⟩) hS ?_
              simp only [Act.put, List.setIfInBounds_toArray, List.set_cons_zero, List.set_cons_succ]
              refine wpAnyH_done (by kernel_rfl) ?_ _
              refine hK _ _ ?_
              clear hK hS hXW
              have HFB : Hid (decide (R < a.nx + a.win) = fb) := by rw [← HX.out, ← HWN.out]; exact hfb
              clear hfb HWN
              generalize ((X + WN : Nat) : Int) = xw
              generalize (WN : Int) = wn
              cases fb
              case false =>
                have hfar : a.nx + a.win ≤ R := by have := HFB.out; simp at this; omega
                have HZ : Hid (∃ kv' out a', RkO w WD g kv kv' (.slice none 0 0) out a' ∧ RHd a line now l w.heap.size out a' 0) := ⟨kv, [], _, RkO.nil H2d.out.1 (fun q hq => .inl hq) H2d.out.2.1, by unfold RHd; rw [HN.out]; exact ⟨rfl, .inr (.inl ⟨HHR.out, hfar, rfl, rfl⟩)⟩⟩
                clear H2d HA
                go_wp2
                go_ret2
                exact ⟨_, _, rfl, HZ.out⟩
              case true =>
                have HNR : Hid (R < a.nx + a.win) := by have := HFB.out; simp at this; exact this
                clear HFB
                go_upto_region 22 with fail
                have hbw : Below WD.heap.size WD WD.drew := ⟨rfl, rfl, rfl, Nat.le_refl _, fun _ _ => rfl⟩
                have H2dd : Hid (RbAt WD.drew g kv (a.came line now) ∧ Fr w WD.drew (fun x => x = g) ∧ By WD.drew v l) := ⟨H2d.out.1.below hbw, H2d.out.2.1.trans (Fr.of_below hbw (fun _ => False)) fun x _ q => q.elim id False.elim, H2d.out.2.2.below hbw⟩
                clear hbw H2d
                obtain ⟨z, hz⟩ : ∃ z, z = (a.came line now).cn (4 * line + 1) := ⟨_, rfl⟩
                obtain ⟨oc, hoc⟩ : ∃ oc, oc = o6 + 1 := ⟨_, rfl⟩
                rename_i K hK
                refine wp_region_late (fun w' => w'.cell? ⟨g, oc, none⟩ = some (.int .i64 (z : Int))) 7 (by kernel_rfl) ?_
                intro hCl
                generalize WD.drew = Z at *
                change wpAnyL _ _ _ _ _ _ 8 _ _ _
                have hS : Z.cell? ⟨g, oc, none⟩ = some (.int .i64 (z : Int)) := by rw [hoc, HO6.out, hz]; exact RbAt.cell_cn H2dd.out.1 HLN.out (by decide)
                have hF : Z.frozen? ⟨g, oc, none⟩ = false := H2dd.out.1.blk.frozen oc
                have hzb : z + 1 ≤ 1000000000000 := by rw [hz]; have := HA.out.2.2.2.2 (4 * line + 1); have := (bmp_le a.cn (4 * line) (4 * line + 1)).2; show bmp a.cn (4 * line) (4 * line + 1) + 1 ≤ _; omega
                refine takeL (i := 0) (v := .pointer (some ⟨g, o6, none⟩)) 7 (some 153) rfl rfl (by kernel_rfl) (by kernel_rfl) (by kernel_rfl) (by kernel_rfl) hCl (fun _ _ _ h => h) (Or.inl ⟨by kernel_rfl, fun w' hSw => by kernel_rfl⟩) hS ?_
                clear hCl
                intro hCl
                simp only [Act.put, List.setIfInBounds_toArray, List.set_cons_zero, List.set_cons_succ]
                refine takeL (i := 1) (v := .pointer (some ⟨g, o6, none⟩)) 7 (some 154) rfl rfl (by kernel_rfl) (by kernel_rfl) (by kernel_rfl) (by kernel_rfl) hCl (fun _ _ _ h => h) (Or.inl ⟨by kernel_rfl, fun w' hSw => by kernel_rfl⟩) hS ?_
                clear hCl
                intro hCl
                simp only [Act.put, List.setIfInBounds_toArray, List.set_cons_zero, List.set_cons_succ]
                refine takeL (i := 2) (v := .pointer (some ⟨g, oc, none⟩)) 7 (some 155) rfl rfl (by kernel_rfl) (by kernel_rfl) (by kernel_rfl) (by kernel_rfl) hCl (fun _ _ _ h => h) (Or.inl ⟨by kernel_rfl, fun w' hSw => by rw [hoc]; kernel_rfl⟩) hS ?_
                clear hCl
                intro hCl
                simp only [Act.put, List.setIfInBounds_toArray, List.set_cons_zero, List.set_cons_succ]
                refine takeL (i := 3) (v := .int .i64 (z : Int)) 7 (some 156) rfl rfl (by kernel_rfl) (by kernel_rfl) (by kernel_rfl) (by kernel_rfl) hCl (fun _ _ _ h => h) (Or.inl ⟨by kernel_rfl, fun w' hSw => by exact ldN_run (.inr rfl) (.tmp 155) rfl (by kernel_rfl) hSw⟩) hS ?_
                clear hCl
                intro hCl
                simp only [Act.put, List.setIfInBounds_toArray, List.set_cons_zero, List.set_cons_succ]
                refine takeL (i := 4) (v := .int .i64 ((z + 1 : Nat) : Int)) 7 (some 157) rfl rfl (by kernel_rfl) (by kernel_rfl) (by kernel_rfl) (by kernel_rfl) hCl (fun _ _ _ h => h) (Or.inl ⟨by kernel_rfl, fun w' hSw => by exact addN_run (p := z) (q := 1) (.tmp 156) (.const (.int .i64 1)) rfl (by kernel_rfl) rfl (by omega) _⟩) hS ?_
                clear hCl
                intro hCl
                simp only [Act.put, List.setIfInBounds_toArray, List.set_cons_zero, List.set_cons_succ]
                refine takeL (i := 5) (v := .pointer (some ⟨g, o6, none⟩)) 7 (some 158) rfl rfl (by kernel_rfl) (by kernel_rfl) (by kernel_rfl) (by kernel_rfl) hCl (fun _ _ _ h => h) (Or.inl ⟨by kernel_rfl, fun w' hSw => by kernel_rfl⟩) hS ?_
                clear hCl
                intro hCl
                simp only [Act.put, List.setIfInBounds_toArray, List.set_cons_zero, List.set_cons_succ]
                refine takeL (i := 6) (v := .pointer (some ⟨g, oc, none⟩)) 7 (some 159) rfl rfl (by kernel_rfl) (by kernel_rfl) (by kernel_rfl) (by kernel_rfl) hCl (fun _ _ _ h => h) (Or.inl ⟨by kernel_rfl, fun w' hSw => by rw [hoc]; kernel_rfl⟩) hS ?_
                clear hCl
                intro hCl
                simp only [Act.put, List.setIfInBounds_toArray, List.set_cons_zero, List.set_cons_succ]
                refine oneL (i := 7) rfl (by kernel_rfl) hCl (by kernel_rfl) (fun K1 hK1 => ?_)
                refine skipR (d := none) rfl (w' := Z.setCell ⟨g, oc, none⟩ (.int .i64 ((z + 1 : Nat) : Int))) (stN_run (.inr rfl) (.tmp 159) (.tmp 157) rfl (by kernel_rfl) (by kernel_rfl) hS hF) ?_
                refine hK1.out _ _ (fun h => absurd rfl h) ?_
                clear hK1 hCl hS hF
                intro hCl
                simp only [Act.put, List.setIfInBounds_toArray, List.set_cons_zero, List.set_cons_succ]
                refine doneL (by kernel_rfl) ?_
                clear hCl
                refine hK _ _ ?_
                clear hK
                have H3 : Hid (RbAt (Z.setCell ⟨g, oc, none⟩ (.int .i64 ((z + 1 : Nat) : Int))) g kv ((a.came line now).cnt (4 * line + 1)) ∧ Fr w (Z.setCell ⟨g, oc, none⟩ (.int .i64 ((z + 1 : Nat) : Int))) (fun x => x = g) ∧ By (Z.setCell ⟨g, oc, none⟩ (.int .i64 ((z + 1 : Nat) : Int))) v l) := by
                  have hf := Fr.setCell Z ⟨g, oc, none⟩ (.int .i64 ((z + 1 : Nat) : Int)) (fun x => x = g) rfl
                  have hab := H2dd.out.1.bump (line := line) (c := 1) HLN.out (by decide) (by rw [← hz]; omega)
                  rw [← hz, ← HO6.out, ← hoc] at hab
                  exact ⟨hab, H2dd.out.2.1.trans hf fun x _ q => q.elim id id, H2dd.out.2.2.frR hf H2dd.out.1⟩
                generalize Z.setCell ⟨g, oc, none⟩ (.int .i64 ((z + 1 : Nat) : Int)) = W3 at *
                generalize z = z22 at *
                clear H2dd hz hoc hzb
                have c3 : W3.cell? ⟨g, 3, none⟩ = some kv := H3.out.1.blk.cell 3
                have hcc : i ≤ c := by
                  obtain ⟨_, cc, e1, e2⟩ := H3.out.1.row.form
                  rw [hkv] at e1
                  injection e1 with _ e3 e4
                  have := HPL.out.le
                  have e5 : (a.ks.length) ≤ cc := e2
                  omega
                obtain ⟨s1, hs1⟩ : ∃ s1, s1 = cutS kv 0 i c := ⟨_, rfl⟩
                obtain ⟨v4, W4, hap, hI4⟩ := (INS.start W3).app (rs := a.ks.take i) (sv := s1) (by
                  have h1 := (H3.out.1.row.cutH2 (hi := i) (by rw [hkv, HNL.out]; rfl) HPL.out.le).1
                  rw [kV_take] at h1
                  have e : (a.ks.take i).length = i := by rw [List.length_take]; have := HPL.out.le; omega
                  rw [hs1, e]
                  exact h1) (fun q hq => (H3.out.1.pk q (List.mem_of_mem_take hq)).one) (by have := HKL.out; rw [List.length_take]; simp; omega) 83
                have HI4 : Hid (INS W3 W4 v4 (a.ks.take i)) := hI4
                clear hI4
                go_upto_region 23 with fail
                rename_i K hK
                refine wp_region_lit ?_
                refine wpList_runTo rfl (some 14) rfl (.slice none 0 0) W3 (by kernel_rfl) ?_
                simp only [Act.put, List.setIfInBounds_toArray, List.set_cons_zero, List.set_cons_succ]
                refine wpList_nil ?_
                refine hK _ _ ?_
                clear hK
                go_upto_region 24 with fail
                rename_i K hK
                refine wp_region_lit ?_
                refine wpList_runTo rfl (some 160) rfl (.slice none 0 0) W3 (by kernel_rfl) ?_
                simp only [Act.put, List.setIfInBounds_toArray, List.set_cons_zero, List.set_cons_succ]
                refine wpList_runTo rfl (some 161) rfl (.pointer (some ⟨g, 0, none⟩)) W3 (by kernel_rfl) ?_
                simp only [Act.put, List.setIfInBounds_toArray, List.set_cons_zero, List.set_cons_succ]
                refine wpList_runTo rfl (some 162) rfl (.pointer (some ⟨g, 0, none⟩)) W3 (by kernel_rfl) ?_
                simp only [Act.put, List.setIfInBounds_toArray, List.set_cons_zero, List.set_cons_succ]
                refine wpList_runTo rfl (some 163) rfl (.pointer (some ⟨g, 3, none⟩)) W3 (by kernel_rfl) ?_
                simp only [Act.put, List.setIfInBounds_toArray, List.set_cons_zero, List.set_cons_succ]
                refine wpList_runTo rfl (some 164) rfl (kv) W3 (by exact ldK_run (.tmp 163) rfl (by kernel_rfl) (c3)) ?_
                simp only [Act.put, List.setIfInBounds_toArray, List.set_cons_zero, List.set_cons_succ]
                refine wpList_runTo rfl (some 165) rfl (.int .i64 (i : Int)) W3 (by kernel_rfl) ?_
                simp only [Act.put, List.setIfInBounds_toArray, List.set_cons_zero, List.set_cons_succ]
                refine wpList_runTo rfl (some 166) rfl (s1) W3 (by rw [hs1]; exact sliceKH_run hkv (.tmp 164) (.tmp 165) rfl (by kernel_rfl) (by kernel_rfl) hcc _) ?_
                simp only [Act.put, List.setIfInBounds_toArray, List.set_cons_zero, List.set_cons_succ]
                refine wpList_runTo rfl (some 167) rfl (v4) W4 (by exact exec_append (v1 := .slice none 0 0) (v2 := s1) (.tmp 160) (.tmp 166) rfl (by kernel_rfl) (by kernel_rfl) hap) ?_
                simp only [Act.put, List.setIfInBounds_toArray, List.set_cons_zero, List.set_cons_succ]
                refine wpList_runTo rfl (some 14) rfl (v4) W4 (by kernel_rfl) ?_
                simp only [Act.put, List.setIfInBounds_toArray, List.set_cons_zero, List.set_cons_succ]
                refine wpList_nil ?_
                refine hK _ _ ?_
                clear hK
                clear hap hs1 c3 hcc
                have hcp := copied_any (H3.out.2.2.below HI4.out.bel) HA.out.2.2.1
                go_upto_region 25 with fail
                rename_i K hK
                refine wp_region_lit ?_
                refine wpList_runTo rfl (some 168) rfl (v4) W4 (by kernel_rfl) ?_
                simp only [Act.put, List.setIfInBounds_toArray, List.set_cons_zero, List.set_cons_succ]
                refine wpList_runTo rfl (some 169) rfl (.int .i64 (R : Int)) W4 (by kernel_rfl) ?_
                simp only [Act.put, List.setIfInBounds_toArray, List.set_cons_zero, List.set_cons_succ]
                refine wpList_runTo rfl (some 170) rfl (v) W4 (by kernel_rfl) ?_
                simp only [Act.put, List.setIfInBounds_toArray, List.set_cons_zero, List.set_cons_succ]
                refine wpList_callW rfl (some 171) rfl 49 #[v] (by kernel_rfl) hcp ?_
                clear hcp
                rintro e W5 ⟨v5, rfl, hx⟩
                refine ⟨_, rfl, ?_⟩
                simp only [Act.put, List.setIfInBounds_toArray, List.set_cons_zero, List.set_cons_succ]
                have hvf : ∃ a n c, v5 = .slice a n c := by
                  obtain ⟨ao, c, e, _⟩ := hx.out.row.form
                  exact ⟨ao, _, c, e⟩
                have hal : Below W5.heap.size W5 (W5.alloc (.cells #[.int .i64 (R : Int), v5] 101)) := (Below.refl _ W5).alloc (Nat.le_refl _) _
                have hI6 := (HI4.out.below hx.out.bel).below hal
                obtain ⟨v7, W7, hap, hI7⟩ := hI6.app (rs := [⟨R, v5, l⟩]) row1K (fun q hq => by
                  have e : q = ⟨R, v5, l⟩ := by simpa using hq
                  subst e
                  obtain ⟨_, _, _, rfl⟩ := hvf
                  rfl) (by have := HKL.out; rw [List.length_take]; simp; omega) 83
                have HI7 : Hid (INS W3 W7 v7 (a.ks.take i ++ [⟨R, v5, l⟩])) := hI7
                have HK7 : Hid (PkAt W7 ⟨R, v5, l⟩ ∧ ∀ q, v5.ownBlock = some q → w.heap.size ≤ q) := by
                  have hlw : ∀ q, v5.ownBlock = some q → W4.heap.size ≤ q := hx.out.low
                  have h34 := HI4.out.bel.size
                  have h03 := H3.out.2.1.size
                  obtain ⟨v7', W7', k1, k2, k3, k4⟩ := appK_run hI6.row row1K (qs := [⟨R, v5, l⟩]) (fun q hq => by
                    have e : q = ⟨R, v5, l⟩ := by simpa using hq
                    subst e
                    obtain ⟨_, _, _, rfl⟩ := hvf
                    rfl) (by have := HKL.out; rw [List.length_take]; simp; omega) 83
                  rw [hap] at k1
                  injection k1 with e1 e2
                  subst e1 e2
                  have hp6 : PkAt (W5.alloc (.cells #[.int .i64 (R : Int), v5] 101)) ⟨R, v5, l⟩ := by
                    refine PkAt.fr (w := W5) ⟨hx.out.row, hx.out.bb, fun e => ?_⟩ (Fr.of_below hal (fun _ => False)) fun _ _ => id
                    have h9 := HM9.out.1
                    have e' : l = [] := e
                    rw [e'] at h9
                    simp at h9
                  refine ⟨hp6.fr k3 fun q hq e => ?_, fun q hq => by have := hlw q hq; omega⟩
                  obtain ⟨_, cur, hc⟩ := hp6.1.lt hq
                  exact hI6.row.ne_type hc (by decide) e
                clear hI6 hI7 hal hx
                refine wpList_runTo rfl (some 172) rfl (.agg #[.int .i64 (R : Int), v5]) W5 (by exact buildP_run hvf (.tmp 169) (.tmp 171) rfl (by kernel_rfl) (by kernel_rfl) _) ?_
                simp only [Act.put, List.setIfInBounds_toArray, List.set_cons_zero, List.set_cons_succ]
                refine wpList_runTo rfl (some 173) rfl (.slice (some ⟨W5.heap.size, 0, none⟩) 1 1) (W5.alloc (.cells #[.int .i64 (R : Int), v5] 101)) (by exact buildK1_run hvf (.tmp 172) rfl (by kernel_rfl) _) ?_
                simp only [Act.put, List.setIfInBounds_toArray, List.set_cons_zero, List.set_cons_succ]
                refine wpList_runTo rfl (some 174) rfl (v7) W7 (by exact exec_append (v1 := v4) (v2 := .slice (some ⟨W5.heap.size, 0, none⟩) 1 1) (.tmp 168) (.tmp 173) rfl (by kernel_rfl) (by kernel_rfl) hap) ?_
                simp only [Act.put, List.setIfInBounds_toArray, List.set_cons_zero, List.set_cons_succ]
                refine wpList_runTo rfl (some 14) rfl (v7) W7 (by kernel_rfl) ?_
                simp only [Act.put, List.setIfInBounds_toArray, List.set_cons_zero, List.set_cons_succ]
                refine wpList_nil ?_
                refine hK _ _ ?_
                clear hK
                generalize (Value.slice (some ⟨W5.heap.size, 0, none⟩) 1 1) = s173
                clear hap hvf
                have c3 : W7.cell? ⟨g, 3, none⟩ = some kv := (H3.out.1.below HI7.out.bel).blk.cell 3
                have f3 : ∀ W, Below W3.heap.size W3 W → W.cell? ⟨g, 3, none⟩ = some kv ∧ W.frozen? ⟨g, 3, none⟩ = false := fun W hW => ⟨(H3.out.1.below hW).blk.cell 3, (H3.out.1.below hW).blk.frozen 3⟩
                obtain ⟨s2, hs2⟩ : ∃ s2, s2 = cutS kv i n c := ⟨_, rfl⟩
                obtain ⟨v8, W8, hap, hI8⟩ := HI7.out.app (rs := a.ks.drop i) (sv := s2) (by
                  have h1 := ((H3.out.1.below HI7.out.bel).row.cutL2 (lo := i) (by rw [hkv, HNL.out]; rfl) HPL.out.le).1
                  rw [kV_drop] at h1
                  rw [hs2, HNL.out, List.length_drop]
                  exact h1) (fun q hq => (H3.out.1.pk q (List.mem_of_mem_drop hq)).one) (by have := HKL.out; rw [List.length_append, List.length_take, List.length_drop]; simp; omega) 83
                have HI8 : Hid (INS W3 W8 v8 (insK a.ks i ⟨R, v5, l⟩)) := hI8
                have hv8 : ∃ a n c, v8 = .slice a n c := by
                  obtain ⟨ao, c, e, _⟩ := hI8.row.form
                  exact ⟨ao, _, c, e⟩
                have HK8 : Hid (PkAt W8 ⟨R, v5, l⟩) := by
                  obtain ⟨v8', W8', k1, k2, k3, k4⟩ := appK_run HI7.out.row (sv := s2) (qs := a.ks.drop i) (by
                    have h1 := ((H3.out.1.below HI7.out.bel).row.cutL2 (lo := i) (by rw [hkv, HNL.out]; rfl) HPL.out.le).1
                    rw [kV_drop] at h1
                    rw [hs2, HNL.out, List.length_drop]
                    exact h1) (fun q hq => (H3.out.1.pk q (List.mem_of_mem_drop hq)).one) (by have := HKL.out; rw [List.length_append, List.length_take, List.length_drop]; simp; omega) 83
                  rw [hap] at k1
                  injection k1 with e1 e2
                  subst e1 e2
                  refine HK7.out.1.fr k3 fun q hq e => ?_
                  obtain ⟨_, cur, hc⟩ := HK7.out.1.1.lt hq
                  exact HI7.out.row.ne_type hc (by decide) e
                obtain ⟨c8, f8⟩ := f3 W8 hI8.bel
                have hin : i ≤ n := by rw [HNL.out]; exact HPL.out.le
                clear hI8 f3
                have H9 : Hid (RbAt (W8.setCell ⟨g, 3, none⟩ v8) g v8 { (a.came line now).cnt (4 * line + 1) with ks := insK a.ks i ⟨R, v5, l⟩ } ∧ Fr w (W8.setCell ⟨g, 3, none⟩ v8) (fun x => x = g) ∧ ∀ q, v8.ownBlock = some q → w.heap.size ≤ q) := by
                  have h1 := H3.out.1.ins (k := ⟨R, v5, l⟩) HI8.out HK8.out HM9.out.2.2 (by
                    show a.ks.length + 1 ≤ bmp (bmp a.cn (4 * line)) (4 * line + 1) 1 + bmp (bmp a.cn (4 * line)) (4 * line + 1) 5
                    have h1 := HA.out.1.bd.len
                    have h2 := (bmp_le a.cn (4 * line) 1).1
                    have h3 := (bmp_le a.cn (4 * line) 5).1
                    have hl2 := HLN.out
                    by_cases hz : line = 0
                    · subst hz
                      have e := (bmp_le (bmp a.cn (4 * 0)) (4 * 0 + 1) 5).1
                      have e2 : bmp (bmp a.cn (4 * 0)) (4 * 0 + 1) 1 = bmp a.cn (4 * 0) 1 + 1 := rfl
                      omega
                    · obtain rfl : line = 1 := by omega
                      have e := (bmp_le (bmp a.cn (4 * 1)) (4 * 1 + 1) 1).1
                      have e2 : bmp (bmp a.cn (4 * 1)) (4 * 1 + 1) 5 = bmp a.cn (4 * 1) 5 + 1 := rfl
                      omega) HPL.out HHI.out
                  have hf := Fr.setCell W8 ⟨g, 3, none⟩ v8 (fun x => x = g) rfl
                  refine ⟨h1, (H3.out.2.1.trans (Fr.of_below HI8.out.bel (fun _ => False)) fun x _ q => q.elim id False.elim).trans hf fun x _ q => q.elim id id, fun q hq => ?_⟩
                  have := HI8.out.low q hq
                  have := H3.out.2.1.size
                  omega
                go_upto_region 26 with fail
                rename_i K hK
                refine wp_region_lit ?_
                refine wpList_runTo rfl (some 175) rfl (.pointer (some ⟨g, 0, none⟩)) W7 (by kernel_rfl) ?_
                simp only [Act.put, List.setIfInBounds_toArray, List.set_cons_zero, List.set_cons_succ]
                refine wpList_runTo rfl (some 176) rfl (v7) W7 (by kernel_rfl) ?_
                simp only [Act.put, List.setIfInBounds_toArray, List.set_cons_zero, List.set_cons_succ]
                refine wpList_runTo rfl (some 177) rfl (.pointer (some ⟨g, 0, none⟩)) W7 (by kernel_rfl) ?_
                simp only [Act.put, List.setIfInBounds_toArray, List.set_cons_zero, List.set_cons_succ]
                refine wpList_runTo rfl (some 178) rfl (.pointer (some ⟨g, 0, none⟩)) W7 (by kernel_rfl) ?_
                simp only [Act.put, List.setIfInBounds_toArray, List.set_cons_zero, List.set_cons_succ]
                refine wpList_runTo rfl (some 179) rfl (.pointer (some ⟨g, 3, none⟩)) W7 (by kernel_rfl) ?_
                simp only [Act.put, List.setIfInBounds_toArray, List.set_cons_zero, List.set_cons_succ]
                refine wpList_runTo rfl (some 180) rfl (kv) W7 (by exact ldK_run (.tmp 179) rfl (by kernel_rfl) (c3)) ?_
                simp only [Act.put, List.setIfInBounds_toArray, List.set_cons_zero, List.set_cons_succ]
                refine wpList_runTo rfl (some 181) rfl (.int .i64 (i : Int)) W7 (by kernel_rfl) ?_
                simp only [Act.put, List.setIfInBounds_toArray, List.set_cons_zero, List.set_cons_succ]
                refine wpList_runTo rfl (some 182) rfl (s2) W7 (by rw [hs2]; exact sliceKLv_run hkv (.tmp 180) (.tmp 181) rfl (by kernel_rfl) (by kernel_rfl) hin _) ?_
                simp only [Act.put, List.setIfInBounds_toArray, List.set_cons_zero, List.set_cons_succ]
                refine wpList_runTo rfl (some 183) rfl (v8) W8 (by exact exec_append (v1 := v7) (v2 := s2) (.tmp 176) (.tmp 182) rfl (by kernel_rfl) (by kernel_rfl) hap) ?_
                simp only [Act.put, List.setIfInBounds_toArray, List.set_cons_zero, List.set_cons_succ]
                refine wpList_runTo rfl (some 184) rfl (.pointer (some ⟨g, 0, none⟩)) W8 (by kernel_rfl) ?_
                simp only [Act.put, List.setIfInBounds_toArray, List.set_cons_zero, List.set_cons_succ]
                refine wpList_runTo rfl (some 185) rfl (.pointer (some ⟨g, 3, none⟩)) W8 (by kernel_rfl) ?_
                simp only [Act.put, List.setIfInBounds_toArray, List.set_cons_zero, List.set_cons_succ]
                refine wpList_skipW rfl none rfl (w' := W8.setCell ⟨g, 3, none⟩ v8) (stK_run hv8 ⟨_, _, _, hkv⟩ (.tmp 185) (.tmp 183) rfl (by kernel_rfl) (by kernel_rfl) c8 f8) ?_
                simp only [Act.put, List.setIfInBounds_toArray, List.set_cons_zero, List.set_cons_succ]
                refine wpList_nil ?_
                refine hK _ _ ?_
                clear hK
                generalize W8.setCell ⟨g, 3, none⟩ v8 = W9 at *
                clear hap hs2 c3 c8 f8 hin H3 HI4 HI7 HI8 HK8
                have c3 : W9.cell? ⟨g, 3, none⟩ = some v8 := H9.out.1.blk.cell 3
                obtain ⟨ob, hob⟩ : ∃ ob, (n + 1 == 1) = ob := ⟨_, rfl⟩
                obtain ⟨a8, c8, hv8f⟩ : ∃ ao c, v8 = .slice ao (n + 1) c := by
                  obtain ⟨ao, c, e, _⟩ := H9.out.1.row.form
                  have e2 : (insK a.ks i ⟨R, v5, l⟩).length = n + 1 := by rw [insK_len, HNL.out]
                  exact ⟨ao, c, by rw [← e2]; exact e⟩
                go_upto_region 27 with fail
                rename_i K hK
                refine wp_region_lit ?_
                refine wpList_runTo rfl (some 186) rfl (.pointer (some ⟨g, 0, none⟩)) W9 (by kernel_rfl) ?_
                simp only [Act.put, List.setIfInBounds_toArray, List.set_cons_zero, List.set_cons_succ]
                refine wpList_runTo rfl (some 187) rfl (.pointer (some ⟨g, 0, none⟩)) W9 (by kernel_rfl) ?_
                simp only [Act.put, List.setIfInBounds_toArray, List.set_cons_zero, List.set_cons_succ]
                refine wpList_runTo rfl (some 188) rfl (.pointer (some ⟨g, 3, none⟩)) W9 (by kernel_rfl) ?_
                simp only [Act.put, List.setIfInBounds_toArray, List.set_cons_zero, List.set_cons_succ]
                refine wpList_runTo rfl (some 189) rfl (v8) W9 (by exact ldK_run (.tmp 188) rfl (by kernel_rfl) (c3)) ?_
                simp only [Act.put, List.setIfInBounds_toArray, List.set_cons_zero, List.set_cons_succ]
                refine wpList_runTo rfl (some 190) rfl (.int .i64 ((n + 1 : Nat) : Int)) W9 (by exact lenK_run hv8f (.tmp 189) rfl (by kernel_rfl) _) ?_
                simp only [Act.put, List.setIfInBounds_toArray, List.set_cons_zero, List.set_cons_succ]
                refine wpList_runTo rfl (some 191) rfl (.bool ob) W9 (by exact eqN_run (p := n + 1) (q := 1) (.tmp 190) (.const (.int .i64 1)) rfl (by kernel_rfl) rfl hob _) ?_
                simp only [Act.put, List.setIfInBounds_toArray, List.set_cons_zero, List.set_cons_succ]
                refine wpList_nil ?_
                refine hK _ _ ?_
                clear hK
                clear c3 hv8f hv8
                generalize ((n + 1 : Nat) : Int) = n1
                cases ob
                case false =>
                  have HZ : Hid (∃ kv' out a', RkO w W9 g kv kv' (.slice none 0 0) out a' ∧ RHd a line now l w.heap.size out a' 0) := by
                    have hne : a.ks ≠ [] := fun e => by
                      have h1 := HNL.out
                      rw [e] at h1
                      rw [h1] at hob
                      simp at hob
                    refine ⟨v8, [], _, RkO.nil H9.out.1 (fun q hq => .inr (H9.out.2.2 q hq)) H9.out.2.1, ?_⟩
                    unfold RHd
                    rw [HN.out]
                    refine ⟨rfl, .inr (.inr ⟨HHR.out, HNR.out, ⟨R, v5, l⟩, rfl, rfl, HK7.out.2, .inr ⟨HNE.out, rfl, insK_perm _ _ _, ?_⟩⟩)⟩
                    show _ = ({ (a.came line now).cnt (4 * line + 1) with ks := insK a.ks i ⟨R, v5, l⟩, si := if a.ks = [] then _ else _ } : Ab)
                    rw [if_neg hne]
                  clear H9 HA hob
                  go_wp2
                  go_ret2
                  exact ⟨_, _, rfl, HZ.out⟩
                case true =>
                  have c5 : W9.cell? ⟨g, 5, none⟩ = some (.int .i64 MM) := by rw [HMM.out.1]; exact H9.out.1.blk.cell 5
                  have c4 : W9.cell? ⟨g, 4, none⟩ = some (.int .i64 a.si) := H9.out.1.blk.cell 4
                  have f4 : W9.frozen? ⟨g, 4, none⟩ = false := H9.out.1.blk.frozen 4
                  have HZ : Hid (∃ kv' out a', RkO w (W9.setCell ⟨g, 4, none⟩ (.int .i64 MM)) g kv kv' (.slice none 0 0) out a' ∧ RHd a line now l w.heap.size out a' 0) := by
                    have hnil : a.ks = [] := by
                      have h1 := HNL.out
                      have h2 : n = 0 := by simpa using hob
                      exact List.length_eq_zero_iff.1 (by omega)
                    have hbd := H9.out.1.bd
                    have h1 := H9.out.1.put { (a.came line now).cnt (4 * line + 1) with ks := insK a.ks i ⟨R, v5, l⟩, si := MM } 4 (.int .i64 MM) (by rfl) H9.out.1.row H9.out.1.pk ⟨hbd.w1, hbd.w2, hbd.p0, hbd.p1, hbd.nx, HMM.out.2.1, HMM.out.2.2, hbd.l0, hbd.l1, hbd.kn, hbd.cn, hbd.len⟩ H9.out.1.so
                    have hf := Fr.setCell W9 ⟨g, 4, none⟩ (.int .i64 MM) (fun x => x = g) rfl
                    refine ⟨v8, [], _, RkO.nil h1 (fun q hq => .inr (H9.out.2.2 q hq)) (H9.out.2.1.trans hf fun x _ q => q.elim id id), ?_⟩
                    unfold RHd
                    rw [HN.out]
                    refine ⟨rfl, .inr (.inr ⟨HHR.out, HNR.out, ⟨R, v5, l⟩, rfl, rfl, HK7.out.2, .inr ⟨HNE.out, rfl, insK_perm _ _ _, ?_⟩⟩)⟩
                    show _ = ({ (a.came line now).cnt (4 * line + 1) with ks := insK a.ks i ⟨R, v5, l⟩, si := if a.ks = [] then max a.la now else _ } : Ab)
                    rw [if_pos hnil, HMM.out.1]
                  go_upto_region 28 with fail
                  refine wp_region_lit ?_
                  refine wpList_runTo rfl (some 192) rfl (.pointer (some ⟨g, 0, none⟩)) W9 (by kernel_rfl) ?_
                  simp only [Act.put, List.setIfInBounds_toArray, List.set_cons_zero, List.set_cons_succ]
                  refine wpList_runTo rfl (some 193) rfl (.pointer (some ⟨g, 0, none⟩)) W9 (by kernel_rfl) ?_
                  simp only [Act.put, List.setIfInBounds_toArray, List.set_cons_zero, List.set_cons_succ]
                  refine wpList_runTo rfl (some 194) rfl (.pointer (some ⟨g, 0, none⟩)) W9 (by kernel_rfl) ?_
                  simp only [Act.put, List.setIfInBounds_toArray, List.set_cons_zero, List.set_cons_succ]
                  refine wpList_runTo rfl (some 195) rfl (.pointer (some ⟨g, 5, none⟩)) W9 (by kernel_rfl) ?_
                  simp only [Act.put, List.setIfInBounds_toArray, List.set_cons_zero, List.set_cons_succ]
                  refine wpList_runTo rfl (some 196) rfl (.int .i64 MM) W9 (by exact ldN_run (.inl rfl) (.tmp 195) rfl (by kernel_rfl) (c5)) ?_
                  simp only [Act.put, List.setIfInBounds_toArray, List.set_cons_zero, List.set_cons_succ]
                  refine wpList_runTo rfl (some 197) rfl (.pointer (some ⟨g, 0, none⟩)) W9 (by kernel_rfl) ?_
                  simp only [Act.put, List.setIfInBounds_toArray, List.set_cons_zero, List.set_cons_succ]
                  refine wpList_runTo rfl (some 198) rfl (.pointer (some ⟨g, 4, none⟩)) W9 (by kernel_rfl) ?_
                  simp only [Act.put, List.setIfInBounds_toArray, List.set_cons_zero, List.set_cons_succ]
                  refine wpList_skipW rfl none rfl (w' := W9.setCell ⟨g, 4, none⟩ (.int .i64 MM)) (stN_run (.inl rfl) (.tmp 198) (.tmp 196) rfl (by kernel_rfl) (by kernel_rfl) c4 f4) ?_
                  simp only [Act.put, List.setIfInBounds_toArray, List.set_cons_zero, List.set_cons_succ]
                  refine wpList_nil ?_
                  generalize W9.setCell ⟨g, 4, none⟩ (.int .i64 MM) = W10 at *
                  clear c5 c4 f4 H9 HA hob
                  go_wp2
                  go_ret2
                  exact ⟨_, _, rfl, HZ.out⟩
  case false =>
    have hlt : ¬ a.la < now := by simpa using hlb
    have H1 : Hid (RbAt w g kv (a.tick now) ∧ Fr w w (fun x => x = g) ∧ By w v l) := by
      have e : a.la = max a.la now := by omega
      have ht : a.tick now = a := by unfold Ab.tick; rw [← e]
      rw [ht]
      exact ⟨HA.out.1, Fr.refl _ _, HA.out.2.1⟩
    clear c5 hn0 hn1 hlt hlb
    obtain ⟨o6, ho6⟩ : ∃ o6, o6 = 6 + line * 4 := ⟨_, rfl⟩
    have HO6 : Hid (o6 = 6 + line * 4) := ho6
    go_upto_region 6 with fail
    rename_i K hK
    refine wp_region_lit ?_
    refine wpList_runTo rfl (some 37) rfl (.pointer (some ⟨g, 0, none⟩)) w (by kernel_rfl) ?_
    simp only [Act.put, List.setIfInBounds_toArray, List.set_cons_zero, List.set_cons_succ]
    refine wpList_runTo rfl (some 38) rfl (.int .i64 (line : Int)) w (by kernel_rfl) ?_
    simp only [Act.put, List.setIfInBounds_toArray, List.set_cons_zero, List.set_cons_succ]
    refine wpList_runTo rfl (some 39) rfl (.pointer (some ⟨g, 0, none⟩)) w (by kernel_rfl) ?_
    simp only [Act.put, List.setIfInBounds_toArray, List.set_cons_zero, List.set_cons_succ]
    refine wpList_runTo rfl (some 40) rfl (.pointer (some ⟨g, 6, none⟩)) w (by kernel_rfl) ?_
    simp only [Act.put, List.setIfInBounds_toArray, List.set_cons_zero, List.set_cons_succ]
    refine wpList_runTo rfl (some 41) rfl (.pointer (some ⟨g, o6, none⟩)) w (by rw [ho6]; exact ixL_run (i := line) (.tmp 40) (.tmp 38) rfl (by kernel_rfl) (by kernel_rfl) hline _) ?_
    simp only [Act.put, List.setIfInBounds_toArray, List.set_cons_zero, List.set_cons_succ]
    refine wpList_runTo rfl (some 11) rfl (.pointer (some ⟨g, o6, none⟩)) w (by kernel_rfl) ?_
    simp only [Act.put, List.setIfInBounds_toArray, List.set_cons_zero, List.set_cons_succ]
    refine wpList_nil ?_
    refine hK _ _ ?_
    clear hK
    clear ho6 hline
    go_upto_region 7 with fail
    have hbw : Below w.heap.size w w.drew := ⟨rfl, rfl, rfl, Nat.le_refl _, fun _ _ => rfl⟩
    have H1d : Hid (RbAt w.drew g kv (a.tick now) ∧ Fr w w.drew (fun x => x = g) ∧ By w.drew v l) := ⟨H1.out.1.below hbw, H1.out.2.1.trans (Fr.of_below hbw (fun _ => False)) fun x _ q => q.elim id False.elim, H1.out.2.2.below hbw⟩
    clear hbw H1
    obtain ⟨z, hz⟩ : ∃ z, z = (a.tick now).cn (4 * line + 0) := ⟨_, rfl⟩
    obtain ⟨oc, hoc⟩ : ∃ oc, oc = o6 + 0 := ⟨_, rfl⟩
    rename_i K hK
    refine wp_region_late (fun w' => w'.cell? ⟨g, oc, none⟩ = some (.int .i64 (z : Int))) 7 (by kernel_rfl) ?_
    intro hCl
    generalize w.drew = Z at *
    change wpAnyL _ _ _ _ _ _ 8 _ _ _
    have hS : Z.cell? ⟨g, oc, none⟩ = some (.int .i64 (z : Int)) := by rw [hoc, HO6.out, hz]; exact RbAt.cell_cn H1d.out.1 HLN.out (by decide)
    have hF : Z.frozen? ⟨g, oc, none⟩ = false := H1d.out.1.blk.frozen oc
    have hzb : z + 1 ≤ 1000000000000 := by rw [hz]; have := HA.out.2.2.2.2 (4 * line + 0); show a.cn _ + 1 ≤ _; omega
    refine takeL (i := 0) (v := .pointer (some ⟨g, o6, none⟩)) 7 (some 42) rfl rfl (by kernel_rfl) (by kernel_rfl) (by kernel_rfl) (by kernel_rfl) hCl (fun _ _ _ h => h) (Or.inl ⟨by kernel_rfl, fun w' hSw => by kernel_rfl⟩) hS ?_
    clear hCl
    intro hCl
    simp only [Act.put, List.setIfInBounds_toArray, List.set_cons_zero, List.set_cons_succ]
    refine takeL (i := 1) (v := .pointer (some ⟨g, o6, none⟩)) 7 (some 43) rfl rfl (by kernel_rfl) (by kernel_rfl) (by kernel_rfl) (by kernel_rfl) hCl (fun _ _ _ h => h) (Or.inl ⟨by kernel_rfl, fun w' hSw => by kernel_rfl⟩) hS ?_
    clear hCl
    intro hCl
    simp only [Act.put, List.setIfInBounds_toArray, List.set_cons_zero, List.set_cons_succ]
    refine takeL (i := 2) (v := .pointer (some ⟨g, oc, none⟩)) 7 (some 44) rfl rfl (by kernel_rfl) (by kernel_rfl) (by kernel_rfl) (by kernel_rfl) hCl (fun _ _ _ h => h) (Or.inl ⟨by kernel_rfl, fun w' hSw => by rw [hoc]; kernel_rfl⟩) hS ?_
    clear hCl
    intro hCl
    simp only [Act.put, List.setIfInBounds_toArray, List.set_cons_zero, List.set_cons_succ]
    refine takeL (i := 3) (v := .int .i64 (z : Int)) 7 (some 45) rfl rfl (by kernel_rfl) (by kernel_rfl) (by kernel_rfl) (by kernel_rfl) hCl (fun _ _ _ h => h) (Or.inl ⟨by kernel_rfl, fun w' hSw => by exact ldN_run (.inr rfl) (.tmp 44) rfl (by kernel_rfl) hSw⟩) hS ?_
    clear hCl
    intro hCl
    simp only [Act.put, List.setIfInBounds_toArray, List.set_cons_zero, List.set_cons_succ]
    refine takeL (i := 4) (v := .int .i64 ((z + 1 : Nat) : Int)) 7 (some 46) rfl rfl (by kernel_rfl) (by kernel_rfl) (by kernel_rfl) (by kernel_rfl) hCl (fun _ _ _ h => h) (Or.inl ⟨by kernel_rfl, fun w' hSw => by exact addN_run (p := z) (q := 1) (.tmp 45) (.const (.int .i64 1)) rfl (by kernel_rfl) rfl (by omega) _⟩) hS ?_
    clear hCl
    intro hCl
    simp only [Act.put, List.setIfInBounds_toArray, List.set_cons_zero, List.set_cons_succ]
    refine takeL (i := 5) (v := .pointer (some ⟨g, o6, none⟩)) 7 (some 47) rfl rfl (by kernel_rfl) (by kernel_rfl) (by kernel_rfl) (by kernel_rfl) hCl (fun _ _ _ h => h) (Or.inl ⟨by kernel_rfl, fun w' hSw => by kernel_rfl⟩) hS ?_
    clear hCl
    intro hCl
    simp only [Act.put, List.setIfInBounds_toArray, List.set_cons_zero, List.set_cons_succ]
    refine takeL (i := 6) (v := .pointer (some ⟨g, oc, none⟩)) 7 (some 48) rfl rfl (by kernel_rfl) (by kernel_rfl) (by kernel_rfl) (by kernel_rfl) hCl (fun _ _ _ h => h) (Or.inl ⟨by kernel_rfl, fun w' hSw => by rw [hoc]; kernel_rfl⟩) hS ?_
    clear hCl
    intro hCl
    simp only [Act.put, List.setIfInBounds_toArray, List.set_cons_zero, List.set_cons_succ]
    refine oneL (i := 7) rfl (by kernel_rfl) hCl (by kernel_rfl) (fun K1 hK1 => ?_)
    refine skipR (d := none) rfl (w' := Z.setCell ⟨g, oc, none⟩ (.int .i64 ((z + 1 : Nat) : Int))) (stN_run (.inr rfl) (.tmp 48) (.tmp 46) rfl (by kernel_rfl) (by kernel_rfl) hS hF) ?_
    refine hK1.out _ _ (fun h => absurd rfl h) ?_
    clear hK1 hCl hS hF
    intro hCl
    simp only [Act.put, List.setIfInBounds_toArray, List.set_cons_zero, List.set_cons_succ]
    refine doneL (by kernel_rfl) ?_
    clear hCl
    refine hK _ _ ?_
    clear hK
    have H2p : Hid (RbAt (Z.setCell ⟨g, oc, none⟩ (.int .i64 ((z + 1 : Nat) : Int))) g kv ((a.tick now).cnt (4 * line + 0)) ∧ Fr w (Z.setCell ⟨g, oc, none⟩ (.int .i64 ((z + 1 : Nat) : Int))) (fun x => x = g) ∧ By (Z.setCell ⟨g, oc, none⟩ (.int .i64 ((z + 1 : Nat) : Int))) v l) := by
      have hf := Fr.setCell Z ⟨g, oc, none⟩ (.int .i64 ((z + 1 : Nat) : Int)) (fun x => x = g) rfl
      have hab := H1d.out.1.bump (line := line) (c := 0) HLN.out (by decide) (by rw [← hz]; omega)
      rw [← hz, ← HO6.out, ← hoc] at hab
      exact ⟨hab, H1d.out.2.1.trans hf fun x _ q => q.elim id id, H1d.out.2.2.frR hf H1d.out.1⟩
    generalize Z.setCell ⟨g, oc, none⟩ (.int .i64 ((z + 1 : Nat) : Int)) = W2 at *
    generalize z = z7 at *
    clear H1d hz hoc hzb
    have H2 : Hid (RbAt W2 g kv (a.came line now) ∧ Fr w W2 (fun x => x = g) ∧ By W2 v l) := H2p
    clear H2p
    have hri := right_any H2.out.2.2 (by have := HA.out.2.2.1; omega)
    obtain ⟨R, hR⟩ : ∃ R : Nat, R = (rt l).getD 0 := ⟨_, rfl⟩
    rw [← hR] at hri
    have HR : Hid (R = (rt l).getD 0) := hR
    clear hR
    obtain ⟨zb, hzb⟩ : ∃ zb, (R == 0) = zb := ⟨_, rfl⟩
    go_upto_region 8 with fail
    rename_i K hK
    refine wp_region_lit ?_
    refine wpList_runTo rfl (some 49) rfl (v) W2 (by kernel_rfl) ?_
    simp only [Act.put, List.setIfInBounds_toArray, List.set_cons_zero, List.set_cons_succ]
    refine wpList_callW rfl (some 50) rfl 48 #[v] (by kernel_rfl) hri ?_
    clear hri
    rintro e w1 ⟨rfl, ew⟩
    replace ew := ew.symm
    subst ew
    refine ⟨_, rfl, ?_⟩
    simp only [Act.put, List.setIfInBounds_toArray, List.set_cons_zero, List.set_cons_succ]
    refine wpList_runTo rfl (some 12) rfl (.int .i64 (R : Int)) W2 (by kernel_rfl) ?_
    simp only [Act.put, List.setIfInBounds_toArray, List.set_cons_zero, List.set_cons_succ]
    refine wpList_nil ?_
    refine hK _ _ ?_
    clear hK
    go_upto_region 9 with fail
    rename_i K hK
    refine wp_region_lit ?_
    refine wpList_runTo rfl (some 51) rfl (.int .i64 (R : Int)) W2 (by kernel_rfl) ?_
    simp only [Act.put, List.setIfInBounds_toArray, List.set_cons_zero, List.set_cons_succ]
    refine wpList_runTo rfl (some 52) rfl (.bool zb) W2 (by exact eqN_run (p := R) (q := 0) (.tmp 51) (.const (.int .i64 0)) rfl (by kernel_rfl) rfl hzb _) ?_
    simp only [Act.put, List.setIfInBounds_toArray, List.set_cons_zero, List.set_cons_succ]
    refine wpList_nil ?_
    refine hK _ _ ?_
    clear hK
    cases zb
    case true =>
      have HN : Hid (rt l = none) := by
        have h0 : R = 0 := by simpa using hzb
        have h1 := HR.out
        show rt l = none
        cases e : rt l with
        | none => rfl
        | some m =>
          rw [e] at h1
          have h2 := rt_some e
          simp at h1
          omega
      clear HR hzb
      go_upto_region 10 with fail
      have hbw : Below W2.heap.size W2 W2.drew := ⟨rfl, rfl, rfl, Nat.le_refl _, fun _ _ => rfl⟩
      have H2d : Hid (RbAt W2.drew g kv (a.came line now) ∧ Fr w W2.drew (fun x => x = g) ∧ By W2.drew v l) := ⟨H2.out.1.below hbw, H2.out.2.1.trans (Fr.of_below hbw (fun _ => False)) fun x _ q => q.elim id False.elim, H2.out.2.2.below hbw⟩
      clear hbw H2
      obtain ⟨z, hz⟩ : ∃ z, z = (a.came line now).cn (4 * line + 3) := ⟨_, rfl⟩
      obtain ⟨oc, hoc⟩ : ∃ oc, oc = o6 + 3 := ⟨_, rfl⟩
      rename_i K hK
      refine wp_region_late (fun w' => w'.cell? ⟨g, oc, none⟩ = some (.int .i64 (z : Int))) 7 (by kernel_rfl) ?_
      intro hCl
      generalize W2.drew = Z at *
      change wpAnyL _ _ _ _ _ _ 8 _ _ _
      have hS : Z.cell? ⟨g, oc, none⟩ = some (.int .i64 (z : Int)) := by rw [hoc, HO6.out, hz]; exact RbAt.cell_cn H2d.out.1 HLN.out (by decide)
      have hF : Z.frozen? ⟨g, oc, none⟩ = false := H2d.out.1.blk.frozen oc
      have hzb : z + 1 ≤ 1000000000000 := by rw [hz]; have := HA.out.2.2.2.2 (4 * line + 3); have := (bmp_le a.cn (4 * line) (4 * line + 3)).2; show bmp a.cn (4 * line) (4 * line + 3) + 1 ≤ _; omega
      refine takeL (i := 0) (v := .pointer (some ⟨g, o6, none⟩)) 7 (some 53) rfl rfl (by kernel_rfl) (by kernel_rfl) (by kernel_rfl) (by kernel_rfl) hCl (fun _ _ _ h => h) (Or.inl ⟨by kernel_rfl, fun w' hSw => by kernel_rfl⟩) hS ?_
      clear hCl
      intro hCl
      simp only [Act.put, List.setIfInBounds_toArray, List.set_cons_zero, List.set_cons_succ]
      refine takeL (i := 1) (v := .pointer (some ⟨g, o6, none⟩)) 7 (some 54) rfl rfl (by kernel_rfl) (by kernel_rfl) (by kernel_rfl) (by kernel_rfl) hCl (fun _ _ _ h => h) (Or.inl ⟨by kernel_rfl, fun w' hSw => by kernel_rfl⟩) hS ?_
      clear hCl
      intro hCl
      simp only [Act.put, List.setIfInBounds_toArray, List.set_cons_zero, List.set_cons_succ]
      refine takeL (i := 2) (v := .pointer (some ⟨g, oc, none⟩)) 7 (some 55) rfl rfl (by kernel_rfl) (by kernel_rfl) (by kernel_rfl) (by kernel_rfl) hCl (fun _ _ _ h => h) (Or.inl ⟨by kernel_rfl, fun w' hSw => by rw [hoc]; kernel_rfl⟩) hS ?_
      clear hCl
      intro hCl
      simp only [Act.put, List.setIfInBounds_toArray, List.set_cons_zero, List.set_cons_succ]
      refine takeL (i := 3) (v := .int .i64 (z : Int)) 7 (some 56) rfl rfl (by kernel_rfl) (by kernel_rfl) (by kernel_rfl) (by kernel_rfl) hCl (fun _ _ _ h => h) (Or.inl ⟨by kernel_rfl, fun w' hSw => by exact ldN_run (.inr rfl) (.tmp 55) rfl (by kernel_rfl) hSw⟩) hS ?_
      clear hCl
      intro hCl
      simp only [Act.put, List.setIfInBounds_toArray, List.set_cons_zero, List.set_cons_succ]
      refine takeL (i := 4) (v := .int .i64 ((z + 1 : Nat) : Int)) 7 (some 57) rfl rfl (by kernel_rfl) (by kernel_rfl) (by kernel_rfl) (by kernel_rfl) hCl (fun _ _ _ h => h) (Or.inl ⟨by kernel_rfl, fun w' hSw => by exact addN_run (p := z) (q := 1) (.tmp 56) (.const (.int .i64 1)) rfl (by kernel_rfl) rfl (by omega) _⟩) hS ?_
      clear hCl
      intro hCl
      simp only [Act.put, List.setIfInBounds_toArray, List.set_cons_zero, List.set_cons_succ]
      refine takeL (i := 5) (v := .pointer (some ⟨g, o6, none⟩)) 7 (some 58) rfl rfl (by kernel_rfl) (by kernel_rfl) (by kernel_rfl) (by kernel_rfl) hCl (fun _ _ _ h => h) (Or.inl ⟨by kernel_rfl, fun w' hSw => by kernel_rfl⟩) hS ?_
      clear hCl
      intro hCl
      simp only [Act.put, List.setIfInBounds_toArray, List.set_cons_zero, List.set_cons_succ]
      refine takeL (i := 6) (v := .pointer (some ⟨g, oc, none⟩)) 7 (some 59) rfl rfl (by kernel_rfl) (by kernel_rfl) (by kernel_rfl) (by kernel_rfl) hCl (fun _ _ _ h => h) (Or.inl ⟨by kernel_rfl, fun w' hSw => by rw [hoc]; kernel_rfl⟩) hS ?_
      clear hCl
      intro hCl
      simp only [Act.put, List.setIfInBounds_toArray, List.set_cons_zero, List.set_cons_succ]
      refine oneL (i := 7) rfl (by kernel_rfl) hCl (by kernel_rfl) (fun K1 hK1 => ?_)
      refine skipR (d := none) rfl (w' := Z.setCell ⟨g, oc, none⟩ (.int .i64 ((z + 1 : Nat) : Int))) (stN_run (.inr rfl) (.tmp 59) (.tmp 57) rfl (by kernel_rfl) (by kernel_rfl) hS hF) ?_
      refine hK1.out _ _ (fun h => absurd rfl h) ?_
      clear hK1 hCl hS hF
      intro hCl
      simp only [Act.put, List.setIfInBounds_toArray, List.set_cons_zero, List.set_cons_succ]
      refine doneL (by kernel_rfl) ?_
      clear hCl
      refine hK _ _ ?_
      clear hK
      have H3 : Hid (RbAt (Z.setCell ⟨g, oc, none⟩ (.int .i64 ((z + 1 : Nat) : Int))) g kv ((a.came line now).cnt (4 * line + 3)) ∧ Fr w (Z.setCell ⟨g, oc, none⟩ (.int .i64 ((z + 1 : Nat) : Int))) (fun x => x = g) ∧ By (Z.setCell ⟨g, oc, none⟩ (.int .i64 ((z + 1 : Nat) : Int))) v l) := by
        have hf := Fr.setCell Z ⟨g, oc, none⟩ (.int .i64 ((z + 1 : Nat) : Int)) (fun x => x = g) rfl
        have hab := H2d.out.1.bump (line := line) (c := 3) HLN.out (by decide) (by rw [← hz]; omega)
        rw [← hz, ← HO6.out, ← hoc] at hab
        exact ⟨hab, H2d.out.2.1.trans hf fun x _ q => q.elim id id, H2d.out.2.2.frR hf H2d.out.1⟩
      generalize Z.setCell ⟨g, oc, none⟩ (.int .i64 ((z + 1 : Nat) : Int)) = W3 at *
      generalize z = z10 at *
      clear H2d hz hoc hzb
      have HZ : Hid (∃ kv' out a', RkO w W3 g kv kv' (.slice none 0 0) out a' ∧ RHd a line now l w.heap.size out a' 200) := ⟨kv, [], _, RkO.nil H3.out.1 (fun q hq => .inl hq) H3.out.2.1, by unfold RHd; rw [HN.out]; exact ⟨rfl, rfl, rfl⟩⟩
      clear H3 HA
      go_wp2
      go_ret2
      exact ⟨_, _, rfl, HZ.out⟩
    case false =>
      have HN : Hid (rt l = some R) := by
        have h0 : R ≠ 0 := by simpa using hzb
        have h1 := HR.out
        show rt l = some R
        cases e : rt l with
        | none => rw [e] at h1; exact absurd h1 h0
        | some m => rw [e] at h1; rw [h1]; rfl
      have HM9 : Hid (9 ≤ l.length ∧ 1 ≤ R ∧ R ≤ 999999999) := rt_some HN.out
      clear HR hzb
      obtain ⟨X, hX⟩ : ∃ X, X = a.nx := ⟨_, rfl⟩
      have HX : Hid (X = a.nx) := hX
      clear hX
      have c2 : W2.cell? ⟨g, 2, none⟩ = some (.int .i64 (X : Int)) := by rw [HX.out]; exact H2.out.1.blk.cell 2
      obtain ⟨eb, heb⟩ : ∃ eb, (R == X) = eb := ⟨_, rfl⟩
      go_upto_region 12 with fail
      rename_i K hK
      refine wp_region_lit ?_
      refine wpList_runTo rfl (some 60) rfl (.int .i64 (R : Int)) W2 (by kernel_rfl) ?_
      simp only [Act.put, List.setIfInBounds_toArray, List.set_cons_zero, List.set_cons_succ]
      refine wpList_runTo rfl (some 61) rfl (.pointer (some ⟨g, 0, none⟩)) W2 (by kernel_rfl) ?_
      simp only [Act.put, List.setIfInBounds_toArray, List.set_cons_zero, List.set_cons_succ]
      refine wpList_runTo rfl (some 62) rfl (.pointer (some ⟨g, 0, none⟩)) W2 (by kernel_rfl) ?_
      simp only [Act.put, List.setIfInBounds_toArray, List.set_cons_zero, List.set_cons_succ]
      refine wpList_runTo rfl (some 63) rfl (.pointer (some ⟨g, 2, none⟩)) W2 (by kernel_rfl) ?_
      simp only [Act.put, List.setIfInBounds_toArray, List.set_cons_zero, List.set_cons_succ]
      refine wpList_runTo rfl (some 64) rfl (.int .i64 (X : Int)) W2 (by exact ldN_run (.inr rfl) (.tmp 63) rfl (by kernel_rfl) (c2)) ?_
      simp only [Act.put, List.setIfInBounds_toArray, List.set_cons_zero, List.set_cons_succ]
      refine wpList_runTo rfl (some 65) rfl (.bool eb) W2 (by exact eqN_run (p := R) (q := X) (.tmp 60) (.tmp 64) rfl (by kernel_rfl) (by kernel_rfl) heb _) ?_
      simp only [Act.put, List.setIfInBounds_toArray, List.set_cons_zero, List.set_cons_succ]
      refine wpList_nil ?_
      refine hK _ _ ?_
      clear hK
      clear c2
      cases eb
      case true =>
        have heq1 : R = X := by simpa using heb
        have HEQ : Hid (R = a.nx) := heq1.trans HX.out
        clear heb heq1
        go_upto_region 13 with fail
        have hbw : Below W2.heap.size W2 W2.drew := ⟨rfl, rfl, rfl, Nat.le_refl _, fun _ _ => rfl⟩
        have H2d : Hid (RbAt W2.drew g kv (a.came line now) ∧ Fr w W2.drew (fun x => x = g) ∧ By W2.drew v l) := ⟨H2.out.1.below hbw, H2.out.2.1.trans (Fr.of_below hbw (fun _ => False)) fun x _ q => q.elim id False.elim, H2.out.2.2.below hbw⟩
        clear hbw H2
        obtain ⟨z, hz⟩ : ∃ z, z = (a.came line now).cn (4 * line + 1) := ⟨_, rfl⟩
        obtain ⟨oc, hoc⟩ : ∃ oc, oc = o6 + 1 := ⟨_, rfl⟩
        rename_i K hK
        refine wp_region_late (fun w' => w'.cell? ⟨g, oc, none⟩ = some (.int .i64 (z : Int))) 7 (by kernel_rfl) ?_
        intro hCl
        generalize W2.drew = Z at *
        change wpAnyL _ _ _ _ _ _ 8 _ _ _
        have hS : Z.cell? ⟨g, oc, none⟩ = some (.int .i64 (z : Int)) := by rw [hoc, HO6.out, hz]; exact RbAt.cell_cn H2d.out.1 HLN.out (by decide)
        have hF : Z.frozen? ⟨g, oc, none⟩ = false := H2d.out.1.blk.frozen oc
        have hzb : z + 1 ≤ 1000000000000 := by rw [hz]; have := HA.out.2.2.2.2 (4 * line + 1); have := (bmp_le a.cn (4 * line) (4 * line + 1)).2; show bmp a.cn (4 * line) (4 * line + 1) + 1 ≤ _; omega
        refine takeL (i := 0) (v := .pointer (some ⟨g, o6, none⟩)) 7 (some 66) rfl rfl (by kernel_rfl) (by kernel_rfl) (by kernel_rfl) (by kernel_rfl) hCl (fun _ _ _ h => h) (Or.inl ⟨by kernel_rfl, fun w' hSw => by kernel_rfl⟩) hS ?_
        clear hCl
        intro hCl
        simp only [Act.put, List.setIfInBounds_toArray, List.set_cons_zero, List.set_cons_succ]
        refine takeL (i := 1) (v := .pointer (some ⟨g, o6, none⟩)) 7 (some 67) rfl rfl (by kernel_rfl) (by kernel_rfl) (by kernel_rfl) (by kernel_rfl) hCl (fun _ _ _ h => h) (Or.inl ⟨by kernel_rfl, fun w' hSw => by kernel_rfl⟩) hS ?_
        clear hCl
        intro hCl
        simp only [Act.put, List.setIfInBounds_toArray, List.set_cons_zero, List.set_cons_succ]
        refine takeL (i := 2) (v := .pointer (some ⟨g, oc, none⟩)) 7 (some 68) rfl rfl (by kernel_rfl) (by kernel_rfl) (by kernel_rfl) (by kernel_rfl) hCl (fun _ _ _ h => h) (Or.inl ⟨by kernel_rfl, fun w' hSw => by rw [hoc]; kernel_rfl⟩) hS ?_
        clear hCl
        intro hCl
        simp only [Act.put, List.setIfInBounds_toArray, List.set_cons_zero, List.set_cons_succ]
        refine takeL (i := 3) (v := .int .i64 (z : Int)) 7 (some 69) rfl rfl (by kernel_rfl) (by kernel_rfl) (by kernel_rfl) (by kernel_rfl) hCl (fun _ _ _ h => h) (Or.inl ⟨by kernel_rfl, fun w' hSw => by exact ldN_run (.inr rfl) (.tmp 68) rfl (by kernel_rfl) hSw⟩) hS ?_
        clear hCl
        intro hCl
        simp only [Act.put, List.setIfInBounds_toArray, List.set_cons_zero, List.set_cons_succ]
        refine takeL (i := 4) (v := .int .i64 ((z + 1 : Nat) : Int)) 7 (some 70) rfl rfl (by kernel_rfl) (by kernel_rfl) (by kernel_rfl) (by kernel_rfl) hCl (fun _ _ _ h => h) (Or.inl ⟨by kernel_rfl, fun w' hSw => by exact addN_run (p := z) (q := 1) (.tmp 69) (.const (.int .i64 1)) rfl (by kernel_rfl) rfl (by omega) _⟩) hS ?_
        clear hCl
        intro hCl
        simp only [Act.put, List.setIfInBounds_toArray, List.set_cons_zero, List.set_cons_succ]
        refine takeL (i := 5) (v := .pointer (some ⟨g, o6, none⟩)) 7 (some 71) rfl rfl (by kernel_rfl) (by kernel_rfl) (by kernel_rfl) (by kernel_rfl) hCl (fun _ _ _ h => h) (Or.inl ⟨by kernel_rfl, fun w' hSw => by kernel_rfl⟩) hS ?_
        clear hCl
        intro hCl
        simp only [Act.put, List.setIfInBounds_toArray, List.set_cons_zero, List.set_cons_succ]
        refine takeL (i := 6) (v := .pointer (some ⟨g, oc, none⟩)) 7 (some 72) rfl rfl (by kernel_rfl) (by kernel_rfl) (by kernel_rfl) (by kernel_rfl) hCl (fun _ _ _ h => h) (Or.inl ⟨by kernel_rfl, fun w' hSw => by rw [hoc]; kernel_rfl⟩) hS ?_
        clear hCl
        intro hCl
        simp only [Act.put, List.setIfInBounds_toArray, List.set_cons_zero, List.set_cons_succ]
        refine oneL (i := 7) rfl (by kernel_rfl) hCl (by kernel_rfl) (fun K1 hK1 => ?_)
        refine skipR (d := none) rfl (w' := Z.setCell ⟨g, oc, none⟩ (.int .i64 ((z + 1 : Nat) : Int))) (stN_run (.inr rfl) (.tmp 72) (.tmp 70) rfl (by kernel_rfl) (by kernel_rfl) hS hF) ?_
        refine hK1.out _ _ (fun h => absurd rfl h) ?_
        clear hK1 hCl hS hF
        intro hCl
        simp only [Act.put, List.setIfInBounds_toArray, List.set_cons_zero, List.set_cons_succ]
        refine doneL (by kernel_rfl) ?_
        clear hCl
        refine hK _ _ ?_
        clear hK
        have H3 : Hid (RbAt (Z.setCell ⟨g, oc, none⟩ (.int .i64 ((z + 1 : Nat) : Int))) g kv ((a.came line now).cnt (4 * line + 1)) ∧ Fr w (Z.setCell ⟨g, oc, none⟩ (.int .i64 ((z + 1 : Nat) : Int))) (fun x => x = g) ∧ By (Z.setCell ⟨g, oc, none⟩ (.int .i64 ((z + 1 : Nat) : Int))) v l) := by
          have hf := Fr.setCell Z ⟨g, oc, none⟩ (.int .i64 ((z + 1 : Nat) : Int)) (fun x => x = g) rfl
          have hab := H2d.out.1.bump (line := line) (c := 1) HLN.out (by decide) (by rw [← hz]; omega)
          rw [← hz, ← HO6.out, ← hoc] at hab
          exact ⟨hab, H2d.out.2.1.trans hf fun x _ q => q.elim id id, H2d.out.2.2.frR hf H2d.out.1⟩
        generalize Z.setCell ⟨g, oc, none⟩ (.int .i64 ((z + 1 : Nat) : Int)) = W3 at *
        generalize z = z13 at *
        clear H2d hz hoc hzb
        have c2 : W3.cell? ⟨g, 2, none⟩ = some (.int .i64 (X : Int)) := by rw [HX.out]; exact H3.out.1.blk.cell 2
        have f2 : W3.frozen? ⟨g, 2, none⟩ = false := H3.out.1.blk.frozen 2
        have hXb : X + 1 ≤ 9223372036854775807 := by have := HM9.out.2.2; have := HEQ.out; have := HX.out; omega
        have H4 : Hid (RbAt (W3.setCell ⟨g, 2, none⟩ (.int .i64 ((X + 1 : Nat) : Int))) g kv { (a.came line now).cnt (4 * line + 1) with nx := a.nx + 1 } ∧ Fr w (W3.setCell ⟨g, 2, none⟩ (.int .i64 ((X + 1 : Nat) : Int))) (fun x => x = g) ∧ By (W3.setCell ⟨g, 2, none⟩ (.int .i64 ((X + 1 : Nat) : Int))) v l) := by
          have hbd := H3.out.1.bd
          have hf := Fr.setCell W3 ⟨g, 2, none⟩ (.int .i64 ((X + 1 : Nat) : Int)) (fun x => x = g) rfl
          have hNb := HM9.out.2.2
          have hq := HEQ.out
          refine ⟨?_, H3.out.2.1.trans hf fun x _ q => q.elim id id, H3.out.2.2.frR hf H3.out.1⟩
          rw [HX.out]
          exact H3.out.1.put _ 2 _ rfl H3.out.1.row H3.out.1.pk ⟨hbd.w1, hbd.w2, hbd.p0, hbd.p1, by show a.nx + 1 ≤ _; omega, hbd.s0, hbd.s1, hbd.l0, hbd.l1, hbd.kn, hbd.cn, hbd.len⟩ H3.out.1.so
        go_upto_region 14 with fail
        rename_i K hK
        refine wp_region_lit ?_
        refine wpList_runTo rfl (some 73) rfl (.pointer (some ⟨g, 0, none⟩)) W3 (by kernel_rfl) ?_
        simp only [Act.put, List.setIfInBounds_toArray, List.set_cons_zero, List.set_cons_succ]
        refine wpList_runTo rfl (some 74) rfl (.pointer (some ⟨g, 0, none⟩)) W3 (by kernel_rfl) ?_
        simp only [Act.put, List.setIfInBounds_toArray, List.set_cons_zero, List.set_cons_succ]
        refine wpList_runTo rfl (some 75) rfl (.pointer (some ⟨g, 2, none⟩)) W3 (by kernel_rfl) ?_
        simp only [Act.put, List.setIfInBounds_toArray, List.set_cons_zero, List.set_cons_succ]
        refine wpList_runTo rfl (some 76) rfl (.int .i64 (X : Int)) W3 (by exact ldN_run (.inr rfl) (.tmp 75) rfl (by kernel_rfl) (c2)) ?_
        simp only [Act.put, List.setIfInBounds_toArray, List.set_cons_zero, List.set_cons_succ]
        refine wpList_runTo rfl (some 77) rfl (.int .i64 ((X + 1 : Nat) : Int)) W3 (by exact addN_run (p := X) (q := 1) (.tmp 76) (.const (.int .i64 1)) rfl (by kernel_rfl) rfl hXb _) ?_
        simp only [Act.put, List.setIfInBounds_toArray, List.set_cons_zero, List.set_cons_succ]
        refine wpList_runTo rfl (some 78) rfl (.pointer (some ⟨g, 0, none⟩)) W3 (by kernel_rfl) ?_
        simp only [Act.put, List.setIfInBounds_toArray, List.set_cons_zero, List.set_cons_succ]
        refine wpList_runTo rfl (some 79) rfl (.pointer (some ⟨g, 2, none⟩)) W3 (by kernel_rfl) ?_
        simp only [Act.put, List.setIfInBounds_toArray, List.set_cons_zero, List.set_cons_succ]
        refine wpList_skipW rfl none rfl (w' := W3.setCell ⟨g, 2, none⟩ (.int .i64 ((X + 1 : Nat) : Int))) (stN_run (.inr rfl) (.tmp 79) (.tmp 77) rfl (by kernel_rfl) (by kernel_rfl) c2 f2) ?_
        simp only [Act.put, List.setIfInBounds_toArray, List.set_cons_zero, List.set_cons_succ]
        refine wpList_nil ?_
        refine hK _ _ ?_
        clear hK
        generalize W3.setCell ⟨g, 2, none⟩ (.int .i64 ((X + 1 : Nat) : Int)) = W4 at *
        generalize ((X + 1 : Nat) : Int) = x1
        clear c2 f2 hXb H3
        have hcp := copied_any H4.out.2.2 HA.out.2.2.1
        go_upto_region 15 with fail
        rename_i K hK
        refine wp_region_lit ?_
        refine wpList_runTo rfl (some 80) rfl (.pointer (some ⟨g, 0, none⟩)) W4 (by kernel_rfl) ?_
        simp only [Act.put, List.setIfInBounds_toArray, List.set_cons_zero, List.set_cons_succ]
        refine wpList_runTo rfl (some 81) rfl (v) W4 (by kernel_rfl) ?_
        simp only [Act.put, List.setIfInBounds_toArray, List.set_cons_zero, List.set_cons_succ]
        refine wpList_callW rfl (some 82) rfl 49 #[v] (by kernel_rfl) hcp ?_
        clear hcp
        rintro e W5 ⟨v5, rfl, hx⟩
        refine ⟨_, rfl, ?_⟩
        simp only [Act.put, List.setIfInBounds_toArray, List.set_cons_zero, List.set_cons_succ]
        have hvf : ∃ a n c, v5 = .slice a n c := by
          obtain ⟨ao, c, e, _⟩ := hx.out.row.form
          exact ⟨ao, _, c, e⟩
        have hal : Below W5.heap.size W5 (W5.alloc (.cells #[v5] 35)) := (Below.refl _ W5).alloc (Nat.le_refl _) _
        have HP : Hid (PkAt W5 ⟨R, v5, l⟩ ∧ (∀ q, v5.ownBlock = some q → W4.heap.size ≤ q) ∧ Below W4.heap.size W4 W5) := by
          refine ⟨⟨hx.out.row, hx.out.bb, fun e => ?_⟩, hx.out.low, hx.out.bel⟩
          have h9 := HM9.out.1
          have e' : l = [] := e
          rw [e'] at h9
          simp at h9
        have H6 : Hid (RbAt (W5.alloc (.cells #[v5] 35)) g kv { (a.came line now).cnt (4 * line + 1) with nx := a.nx + 1 }) := (H4.out.1.below HP.out.2.2).below hal
        have hgv := rGives_any H6.out row1B (Nat.le_refl 1)
        clear hx
        refine wpList_runTo rfl (some 83) rfl (.slice (some ⟨W5.heap.size, 0, none⟩) 1 1) (W5.alloc (.cells #[v5] 35)) (by exact build1_run hvf (.tmp 82) rfl (by kernel_rfl) _) ?_
        simp only [Act.put, List.setIfInBounds_toArray, List.set_cons_zero, List.set_cons_succ]
        refine wpList_callW rfl (some 84) rfl 44 #[.pointer (some ⟨g, 0, none⟩), .slice (some ⟨W5.heap.size, 0, none⟩) 1 1] (by kernel_rfl) hgv ?_
        clear hgv
        rintro e W7 ⟨v7, rfl, hx⟩
        refine ⟨_, rfl, ?_⟩
        simp only [Act.put, List.setIfInBounds_toArray, List.set_cons_zero, List.set_cons_succ]
        refine wpList_runTo rfl (some 8) rfl (v7) W7 (by kernel_rfl) ?_
        simp only [Act.put, List.setIfInBounds_toArray, List.set_cons_zero, List.set_cons_succ]
        refine wpList_runTo rfl (some 9) rfl (.int .i64 0) W7 (by kernel_rfl) ?_
        simp only [Act.put, List.setIfInBounds_toArray, List.set_cons_zero, List.set_cons_succ]
        refine wpList_nil ?_
        refine hK _ _ ?_
        clear hK
        have HZ : Hid (∃ kv' out a', RkO w W7 g kv kv' v7 out a' ∧ RHd a line now l w.heap.size out a' 0) := by
          obtain ⟨i, kv', h1⟩ := hx.out
          have hs45 := HP.out.2.2.size
          have hs04 := H4.out.2.1.size
          have hf : Fr w (W5.alloc (.cells #[v5] 35)) (fun x => x = g) := (H4.out.2.1.trans (Fr.of_below HP.out.2.2 (fun _ => False)) fun x _ q => q.elim id False.elim).trans (Fr.of_below hal (fun _ => False)) fun x _ q => q.elim id False.elim
          have hk6 : PkAt (W5.alloc (.cells #[v5] 35)) ⟨R, v5, l⟩ := HP.out.1.fr (Fr.of_below hal (fun _ => False)) fun _ _ => id
          obtain ⟨out, a', h2, h3⟩ := RgO.next (a := (a.came line now).cnt (4 * line + 1)) (k := ⟨R, v5, l⟩) HEQ.out HA.out.2.2.2.1 HA.out.1.so hf (fun q hq => by
            have e : W5.heap.size = q := by injection hq
            omega) hk6 (fun q hq e => by
            obtain ⟨hq5, cur, hc⟩ := HP.out.1.1.lt hq
            have hlo := HP.out.2.1 q hq
            rcases e with e | e
            · have := H4.out.1.blk.lt
              omega
            · have e2 : W5.heap.size = q := by injection e
              omega) h1
          refine ⟨kv', out, a', h2, ?_⟩
          unfold RHd
          rw [HN.out]
          have hfn : fnd a.ks R = none := fnd_of fun q hq e => by
            have := HA.out.2.2.2.1 q hq
            have := HEQ.out
            omega
          refine ⟨rfl, .inr (.inr ⟨?_, ?_, ⟨R, v5, l⟩, rfl, rfl, fun q hq => ?_, h3⟩)⟩
          · unfold hrB
            rw [hfn, HEQ.out]
            simp
          · rw [HEQ.out]
            have := HA.out.1.bd.w1
            omega
          · have := HP.out.2.1 q hq
            omega
        generalize (Value.slice (some ⟨W5.heap.size, 0, none⟩) 1 1) = s83
        clear hx H6 HP H4 HA hal hvf
        go_wp2
        go_ret2
        exact ⟨_, _, rfl, HZ.out⟩
      case false =>
        have hne1 : R ≠ X := by simpa using heb
        have HNE : Hid (R ≠ a.nx) := fun e => hne1 (e.trans HX.out.symm)
        clear heb hne1
        obtain ⟨un, hun⟩ : ∃ un : Value, un = undef := ⟨_, rfl⟩
        go_upto_region 17 with fail
        go_loopw [13] (fun x wr => ∃ i : Nat, x = .int .i64 (i : Int) ∧ i ≤ n ∧ Hid (RbAt wr g kv (a.came line now) ∧ Fr w wr (fun x => x = g) ∧ By wr v l ∧ Plc a.ks R i)) (fun x _ => n - (intOf x).toNat)
        case atStart => exact ⟨0, rfl, Nat.zero_le _, H2.out.1, H2.out.2.1, H2.out.2.2, Nat.zero_le _, fun j _ hj => by omega⟩
        case round =>
          clear H2
          obtain ⟨i, rfl, hin, HL⟩ := hrel
          have H2 : Hid (RbAt wr g kv (a.came line now) ∧ Fr w wr (fun x => x = g) ∧ By wr v l) := ⟨HL.out.1, HL.out.2.1, HL.out.2.2.1⟩
          have HPL : Hid (Plc a.ks R i) := HL.out.2.2.2
          clear HL
          have c3 : wr.cell? ⟨g, 3, none⟩ = some kv := H2.out.1.blk.cell 3
          have c2 : wr.cell? ⟨g, 2, none⟩ = some (.int .i64 (X : Int)) := by rw [HX.out]; exact H2.out.1.blk.cell 2
          by_cases hlt : i < n
          · obtain ⟨k, hk⟩ : ∃ k, a.ks[i]? = some k := ⟨_, List.getElem?_eq_getElem (by rw [← HNL.out]; exact hlt)⟩
            obtain ⟨m, hm⟩ : ∃ m, m = k.n := ⟨_, rfl⟩
            obtain ⟨kq, ko, hkq, cq⟩ : ∃ kq ko, kv = .slice (some ⟨kq, ko, none⟩) n c ∧ wr.cell? ⟨kq, ko + i * 2, none⟩ = some (.int .i64 (m : Int)) := by
              obtain ⟨kq, ko, qc, e1, e2, _⟩ := (show RowAt wr 101 2 kv a.ks.length (kV a.ks) from H2.out.1.row).at2 hk
              have e3 := e1
              rw [hkv] at e3
              injection e3 with e4 e5 e6
              exact ⟨kq, ko, by rw [hkv, e4], by rw [e2, hm]⟩
            have HK : Hid (a.ks[i]? = some k ∧ m = k.n) := ⟨hk, hm⟩
            clear hk hm
            obtain ⟨mb, hmb⟩ : ∃ mb, decide (m < R) = mb := ⟨_, rfl⟩
            go_upto_region 17 with fail
            rename_i K hK
            refine wp_region_lit ?_
            refine wpList_runTo rfl (some 85) rfl (.int .i64 (i : Int)) wr (by kernel_rfl) ?_
            simp only [Act.put, List.setIfInBounds_toArray, List.set_cons_zero, List.set_cons_succ]
            refine wpList_runTo rfl (some 86) rfl (.pointer (some ⟨g, 0, none⟩)) wr (by kernel_rfl) ?_
            simp only [Act.put, List.setIfInBounds_toArray, List.set_cons_zero, List.set_cons_succ]
            refine wpList_runTo rfl (some 87) rfl (.pointer (some ⟨g, 0, none⟩)) wr (by kernel_rfl) ?_
            simp only [Act.put, List.setIfInBounds_toArray, List.set_cons_zero, List.set_cons_succ]
            refine wpList_runTo rfl (some 88) rfl (.pointer (some ⟨g, 3, none⟩)) wr (by kernel_rfl) ?_
            simp only [Act.put, List.setIfInBounds_toArray, List.set_cons_zero, List.set_cons_succ]
            refine wpList_runTo rfl (some 89) rfl (kv) wr (by exact ldK_run (.tmp 88) rfl (by kernel_rfl) (c3)) ?_
            simp only [Act.put, List.setIfInBounds_toArray, List.set_cons_zero, List.set_cons_succ]
            refine wpList_runTo rfl (some 90) rfl (.int .i64 (n : Int)) wr (by exact lenK_run hkv (.tmp 89) rfl (by kernel_rfl) _) ?_
            simp only [Act.put, List.setIfInBounds_toArray, List.set_cons_zero, List.set_cons_succ]
            refine wpList_runTo rfl (some 91) rfl (.bool true) wr (by exact ltN_run (n := i) (k := n) (.tmp 85) (.tmp 90) rfl (by kernel_rfl) (by kernel_rfl) (decide_eq_true hlt) _) ?_
            simp only [Act.put, List.setIfInBounds_toArray, List.set_cons_zero, List.set_cons_succ]
            refine wpList_runTo rfl (some 92) rfl (.bool true) wr (by kernel_rfl) ?_
            simp only [Act.put, List.setIfInBounds_toArray, List.set_cons_zero, List.set_cons_succ]
            refine wpList_runToG (by kernel_rfl) (some 93) rfl (.pointer (some ⟨g, 0, none⟩)) wr (by kernel_rfl) ?_
            simp only [Act.put, List.setIfInBounds_toArray, List.set_cons_zero, List.set_cons_succ]
            refine wpList_runToG (by kernel_rfl) (some 94) rfl (.pointer (some ⟨g, 0, none⟩)) wr (by kernel_rfl) ?_
            simp only [Act.put, List.setIfInBounds_toArray, List.set_cons_zero, List.set_cons_succ]
            refine wpList_runToG (by kernel_rfl) (some 95) rfl (.pointer (some ⟨g, 3, none⟩)) wr (by kernel_rfl) ?_
            simp only [Act.put, List.setIfInBounds_toArray, List.set_cons_zero, List.set_cons_succ]
            refine wpList_runToG (by kernel_rfl) (some 96) rfl (kv) wr (by exact ldK_run (.tmp 95) rfl (by kernel_rfl) (c3)) ?_
            simp only [Act.put, List.setIfInBounds_toArray, List.set_cons_zero, List.set_cons_succ]
            refine wpList_runToG (by kernel_rfl) (some 97) rfl (.int .i64 (i : Int)) wr (by kernel_rfl) ?_
            simp only [Act.put, List.setIfInBounds_toArray, List.set_cons_zero, List.set_cons_succ]
            refine wpList_runToG (by kernel_rfl) (some 98) rfl (.pointer (some ⟨kq, ko + i * 2, none⟩)) wr (by exact ixKV_run (i := i) hkq (.tmp 96) (.tmp 97) rfl (by kernel_rfl) (by kernel_rfl) hlt _) ?_
            simp only [Act.put, List.setIfInBounds_toArray, List.set_cons_zero, List.set_cons_succ]
            refine wpList_runToG (by kernel_rfl) (some 99) rfl (.pointer (some ⟨kq, ko + i * 2, none⟩)) wr (by kernel_rfl) ?_
            simp only [Act.put, List.setIfInBounds_toArray, List.set_cons_zero, List.set_cons_succ]
            refine wpList_runToG (by kernel_rfl) (some 100) rfl (.int .i64 (m : Int)) wr (by exact ldN_run (.inr rfl) (.tmp 99) rfl (by kernel_rfl) (cq)) ?_
            simp only [Act.put, List.setIfInBounds_toArray, List.set_cons_zero, List.set_cons_succ]
            refine wpList_runToG (by kernel_rfl) (some 101) rfl (.int .i64 (R : Int)) wr (by kernel_rfl) ?_
            simp only [Act.put, List.setIfInBounds_toArray, List.set_cons_zero, List.set_cons_succ]
            refine wpList_runToG (by kernel_rfl) (some 102) rfl (.bool mb) wr (by exact ltN_run (n := m) (k := R) (.tmp 100) (.tmp 101) rfl (by kernel_rfl) (by kernel_rfl) hmb _) ?_
            simp only [Act.put, List.setIfInBounds_toArray, List.set_cons_zero, List.set_cons_succ]
            refine wpList_runTo rfl (some 103) rfl (.bool mb) wr (by kernel_rfl) ?_
            simp only [Act.put, List.setIfInBounds_toArray, List.set_cons_zero, List.set_cons_succ]
            refine wpList_nil ?_
            refine hK _ _ ?_
            clear hK
            cases mb
            case true =>
              have HN1 : Hid (Plc a.ks R (i + 1)) := by
                have hmr : m < R := by simpa using hmb
                refine ⟨by rw [← HNL.out]; exact hlt, fun j q hj hq => ?_⟩
                by_cases e : j = i
                · subst e
                  rw [HK.out.1] at hq
                  injection hq with hq
                  rw [← hq, ← HK.out.2]
                  exact hmr
                · exact HPL.out.lo j q (by omega) hq
              have HW : Hid (RbAt wr g kv (a.came line now) ∧ Fr w wr (fun x => x = g) ∧ By wr v l) := H2
              have hib : i + 1 ≤ 2000000000001 := by have := HKL.out; have := HNL.out; omega
              clear hmb H2 HPL c3 c2 cq
              go_wp2
              exact ⟨⟨i + 1, by go_num, by omega, HW.out.1, HW.out.2.1, HW.out.2.2, HN1.out⟩, by simp [intOf]; omega⟩
            case false =>
              have hmr0 : ¬ m < R := by simpa using hmb
              have hmr : R ≤ m := by omega
              clear hmb hmr0
              obtain ⟨xb, hxb⟩ : ∃ xb, decide (R < X) = xb := ⟨_, rfl⟩
              cases xb
              case true =>
                have HHR : Hid (hrB a R = true) := by
                  show hrB a R = true
                  unfold hrB
                  rw [← HX.out, hxb, Bool.or_true]
                obtain ⟨bt, hbt⟩ : ∃ bt : Bool, bt = true := ⟨_, rfl⟩
                rw [← hbt] at hxb
                go_upto_region 19 with fail
                rename_i K hK
                refine wp_region_lit ?_
                refine wpList_runTo rfl (some 107) rfl (.int .i64 (R : Int)) wr (by kernel_rfl) ?_
                simp only [Act.put, List.setIfInBounds_toArray, List.set_cons_zero, List.set_cons_succ]
                refine wpList_runTo rfl (some 108) rfl (.pointer (some ⟨g, 0, none⟩)) wr (by kernel_rfl) ?_
                simp only [Act.put, List.setIfInBounds_toArray, List.set_cons_zero, List.set_cons_succ]
                refine wpList_runTo rfl (some 109) rfl (.pointer (some ⟨g, 0, none⟩)) wr (by kernel_rfl) ?_
                simp only [Act.put, List.setIfInBounds_toArray, List.set_cons_zero, List.set_cons_succ]
                refine wpList_runTo rfl (some 110) rfl (.pointer (some ⟨g, 2, none⟩)) wr (by kernel_rfl) ?_
                simp only [Act.put, List.setIfInBounds_toArray, List.set_cons_zero, List.set_cons_succ]
                refine wpList_runTo rfl (some 111) rfl (.int .i64 (X : Int)) wr (by exact ldN_run (.inr rfl) (.tmp 110) rfl (by kernel_rfl) (c2)) ?_
                simp only [Act.put, List.setIfInBounds_toArray, List.set_cons_zero, List.set_cons_succ]
                refine wpList_runTo rfl (some 112) rfl (.bool bt) wr (by exact ltN_run (n := R) (k := X) (.tmp 107) (.tmp 111) rfl (by kernel_rfl) (by kernel_rfl) hxb _) ?_
                simp only [Act.put, List.setIfInBounds_toArray, List.set_cons_zero, List.set_cons_succ]
                refine wpList_runTo rfl (some 113) rfl (.bool bt) wr (by kernel_rfl) ?_
                simp only [Act.put, List.setIfInBounds_toArray, List.set_cons_zero, List.set_cons_succ]
                refine wpList_skipU hun (by subst hbt; kernel_rfl) (some 114) rfl ?_
                simp only [Act.put, List.setIfInBounds_toArray, List.set_cons_zero, List.set_cons_succ]
                refine wpList_skipU hun (by subst hbt; kernel_rfl) (some 115) rfl ?_
                simp only [Act.put, List.setIfInBounds_toArray, List.set_cons_zero, List.set_cons_succ]
                refine wpList_skipU hun (by subst hbt; kernel_rfl) (some 116) rfl ?_
                simp only [Act.put, List.setIfInBounds_toArray, List.set_cons_zero, List.set_cons_succ]
                refine wpList_skipU hun (by subst hbt; kernel_rfl) (some 117) rfl ?_
                simp only [Act.put, List.setIfInBounds_toArray, List.set_cons_zero, List.set_cons_succ]
                refine wpList_skipU hun (by subst hbt; kernel_rfl) (some 118) rfl ?_
                simp only [Act.put, List.setIfInBounds_toArray, List.set_cons_zero, List.set_cons_succ]
                refine wpList_skipU hun (by subst hbt; kernel_rfl) (some 119) rfl ?_
                simp only [Act.put, List.setIfInBounds_toArray, List.set_cons_zero, List.set_cons_succ]
                refine wpList_skipU hun (by subst hbt; kernel_rfl) (some 120) rfl ?_
                simp only [Act.put, List.setIfInBounds_toArray, List.set_cons_zero, List.set_cons_succ]
                refine wpList_skipU hun (by subst hbt; kernel_rfl) (some 121) rfl ?_
                simp only [Act.put, List.setIfInBounds_toArray, List.set_cons_zero, List.set_cons_succ]
                refine wpList_skipU hun (by subst hun hbt; kernel_rfl) (some 122) rfl ?_
                simp only [Act.put, List.setIfInBounds_toArray, List.set_cons_zero, List.set_cons_succ]
                refine wpList_skipU hun (by subst hun hbt; kernel_rfl) (some 123) rfl ?_
                simp only [Act.put, List.setIfInBounds_toArray, List.set_cons_zero, List.set_cons_succ]
                refine wpList_skipU hun (by subst hun hbt; kernel_rfl) (some 124) rfl ?_
                simp only [Act.put, List.setIfInBounds_toArray, List.set_cons_zero, List.set_cons_succ]
                refine wpList_skipU hun (by subst hun hbt; kernel_rfl) (some 125) rfl ?_
                simp only [Act.put, List.setIfInBounds_toArray, List.set_cons_zero, List.set_cons_succ]
                refine wpList_skipU hun (by subst hun hbt; kernel_rfl) (some 126) rfl ?_
                simp only [Act.put, List.setIfInBounds_toArray, List.set_cons_zero, List.set_cons_succ]
                refine wpList_skipU hun (by subst hun hbt; kernel_rfl) (some 127) rfl ?_
                simp only [Act.put, List.setIfInBounds_toArray, List.set_cons_zero, List.set_cons_succ]
                refine wpList_skipU hun (by subst hun hbt; kernel_rfl) (some 128) rfl ?_
                simp only [Act.put, List.setIfInBounds_toArray, List.set_cons_zero, List.set_cons_succ]
                refine wpList_skipU hun (by subst hun hbt; kernel_rfl) (some 129) rfl ?_
                simp only [Act.put, List.setIfInBounds_toArray, List.set_cons_zero, List.set_cons_succ]
                refine wpList_skipU hun (by subst hun hbt; kernel_rfl) (some 130) rfl ?_
                simp only [Act.put, List.setIfInBounds_toArray, List.set_cons_zero, List.set_cons_succ]
                refine wpList_skipU hun (by subst hun hbt; kernel_rfl) (some 131) rfl ?_
                simp only [Act.put, List.setIfInBounds_toArray, List.set_cons_zero, List.set_cons_succ]
                refine wpList_skipU hun (by subst hbt; kernel_rfl) (some 132) rfl ?_
                simp only [Act.put, List.setIfInBounds_toArray, List.set_cons_zero, List.set_cons_succ]
                refine wpList_runTo rfl (some 133) rfl (.bool true) wr (by subst hbt; kernel_rfl) ?_
                simp only [Act.put, List.setIfInBounds_toArray, List.set_cons_zero, List.set_cons_succ]
                refine wpList_runTo rfl (some 106) rfl (.bool true) wr (by kernel_rfl) ?_
                simp only [Act.put, List.setIfInBounds_toArray, List.set_cons_zero, List.set_cons_succ]
                refine wpList_nil ?_
                refine hK _ _ ?_
                clear hK
                clear hxb c3 c2 cq
                go_upto_region 20 with fail
                have hbw : Below wr.heap.size wr wr.drew := ⟨rfl, rfl, rfl, Nat.le_refl _, fun _ _ => rfl⟩
                have H2d : Hid (RbAt wr.drew g kv (a.came line now) ∧ Fr w wr.drew (fun x => x = g) ∧ By wr.drew v l) := ⟨H2.out.1.below hbw, H2.out.2.1.trans (Fr.of_below hbw (fun _ => False)) fun x _ q => q.elim id False.elim, H2.out.2.2.below hbw⟩
                clear hbw H2
                obtain ⟨z, hz⟩ : ∃ z, z = (a.came line now).cn (4 * line + 2) := ⟨_, rfl⟩
                obtain ⟨oc, hoc⟩ : ∃ oc, oc = o6 + 2 := ⟨_, rfl⟩
                rename_i K hK
                refine wp_region_late (fun w' => w'.cell? ⟨g, oc, none⟩ = some (.int .i64 (z : Int))) 7 (by kernel_rfl) ?_
                intro hCl
                generalize wr.drew = Z at *
                change wpAnyL _ _ _ _ _ _ 8 _ _ _
                have hS : Z.cell? ⟨g, oc, none⟩ = some (.int .i64 (z : Int)) := by rw [hoc, HO6.out, hz]; exact RbAt.cell_cn H2d.out.1 HLN.out (by decide)
                have hF : Z.frozen? ⟨g, oc, none⟩ = false := H2d.out.1.blk.frozen oc
                have hzb : z + 1 ≤ 1000000000000 := by rw [hz]; have := HA.out.2.2.2.2 (4 * line + 2); have := (bmp_le a.cn (4 * line) (4 * line + 2)).2; show bmp a.cn (4 * line) (4 * line + 2) + 1 ≤ _; omega
                refine takeL (i := 0) (v := .pointer (some ⟨g, o6, none⟩)) 7 (some 134) rfl rfl (by kernel_rfl) (by kernel_rfl) (by kernel_rfl) (by kernel_rfl) hCl (fun _ _ _ h => h) (Or.inl ⟨by kernel_rfl, fun w' hSw => by kernel_rfl⟩) hS ?_
                clear hCl
                intro hCl
                simp only [Act.put, List.setIfInBounds_toArray, List.set_cons_zero, List.set_cons_succ]
                refine takeL (i := 1) (v := .pointer (some ⟨g, o6, none⟩)) 7 (some 135) rfl rfl (by kernel_rfl) (by kernel_rfl) (by kernel_rfl) (by kernel_rfl) hCl (fun _ _ _ h => h) (Or.inl ⟨by kernel_rfl, fun w' hSw => by kernel_rfl⟩) hS ?_
                clear hCl
                intro hCl
                simp only [Act.put, List.setIfInBounds_toArray, List.set_cons_zero, List.set_cons_succ]
                refine takeL (i := 2) (v := .pointer (some ⟨g, oc, none⟩)) 7 (some 136) rfl rfl (by kernel_rfl) (by kernel_rfl) (by kernel_rfl) (by kernel_rfl) hCl (fun _ _ _ h => h) (Or.inl ⟨by kernel_rfl, fun w' hSw => by rw [hoc]; kernel_rfl⟩) hS ?_
                clear hCl
                intro hCl
                simp only [Act.put, List.setIfInBounds_toArray, List.set_cons_zero, List.set_cons_succ]
                refine takeL (i := 3) (v := .int .i64 (z : Int)) 7 (some 137) rfl rfl (by kernel_rfl) (by kernel_rfl) (by kernel_rfl) (by kernel_rfl) hCl (fun _ _ _ h => h) (Or.inl ⟨by kernel_rfl, fun w' hSw => by exact ldN_run (.inr rfl) (.tmp 136) rfl (by kernel_rfl) hSw⟩) hS ?_
                clear hCl
                intro hCl
                simp only [Act.put, List.setIfInBounds_toArray, List.set_cons_zero, List.set_cons_succ]
                refine takeL (i := 4) (v := .int .i64 ((z + 1 : Nat) : Int)) 7 (some 138) rfl rfl (by kernel_rfl) (by kernel_rfl) (by kernel_rfl) (by kernel_rfl) hCl (fun _ _ _ h => h) (Or.inl ⟨by kernel_rfl, fun w' hSw => by exact addN_run (p := z) (q := 1) (.tmp 137) (.const (.int .i64 1)) rfl (by kernel_rfl) rfl (by omega) _⟩) hS ?_
                clear hCl
                intro hCl
                simp only [Act.put, List.setIfInBounds_toArray, List.set_cons_zero, List.set_cons_succ]
                refine takeL (i := 5) (v := .pointer (some ⟨g, o6, none⟩)) 7 (some 139) rfl rfl (by kernel_rfl) (by kernel_rfl) (by kernel_rfl) (by kernel_rfl) hCl (fun _ _ _ h => h) (Or.inl ⟨by kernel_rfl, fun w' hSw => by kernel_rfl⟩) hS ?_
                clear hCl
                intro hCl
                simp only [Act.put, List.setIfInBounds_toArray, List.set_cons_zero, List.set_cons_succ]
                refine takeL (i := 6) (v := .pointer (some ⟨g, oc, none⟩)) 7 (some 140) rfl rfl (by kernel_rfl) (by kernel_rfl) (by kernel_rfl) (by kernel_rfl) hCl (fun _ _ _ h => h) (Or.inl ⟨by kernel_rfl, fun w' hSw => by rw [hoc]; kernel_rfl⟩) hS ?_
                clear hCl
                intro hCl
                simp only [Act.put, List.setIfInBounds_toArray, List.set_cons_zero, List.set_cons_succ]
                refine oneL (i := 7) rfl (by kernel_rfl) hCl (by kernel_rfl) (fun K1 hK1 => ?_)
                refine skipR (d := none) rfl (w' := Z.setCell ⟨g, oc, none⟩ (.int .i64 ((z + 1 : Nat) : Int))) (stN_run (.inr rfl) (.tmp 140) (.tmp 138) rfl (by kernel_rfl) (by kernel_rfl) hS hF) ?_
                refine hK1.out _ _ (fun h => absurd rfl h) ?_
                clear hK1 hCl hS hF
                intro hCl
                simp only [Act.put, List.setIfInBounds_toArray, List.set_cons_zero, List.set_cons_succ]
                refine doneL (by kernel_rfl) ?_
                clear hCl
                refine hK _ _ ?_
                clear hK
                have H3 : Hid (RbAt (Z.setCell ⟨g, oc, none⟩ (.int .i64 ((z + 1 : Nat) : Int))) g kv ((a.came line now).cnt (4 * line + 2)) ∧ Fr w (Z.setCell ⟨g, oc, none⟩ (.int .i64 ((z + 1 : Nat) : Int))) (fun x => x = g) ∧ By (Z.setCell ⟨g, oc, none⟩ (.int .i64 ((z + 1 : Nat) : Int))) v l) := by
                  have hf := Fr.setCell Z ⟨g, oc, none⟩ (.int .i64 ((z + 1 : Nat) : Int)) (fun x => x = g) rfl
                  have hab := H2d.out.1.bump (line := line) (c := 2) HLN.out (by decide) (by rw [← hz]; omega)
                  rw [← hz, ← HO6.out, ← hoc] at hab
                  exact ⟨hab, H2d.out.2.1.trans hf fun x _ q => q.elim id id, H2d.out.2.2.frR hf H2d.out.1⟩
                generalize Z.setCell ⟨g, oc, none⟩ (.int .i64 ((z + 1 : Nat) : Int)) = W3 at *
                generalize z = z20 at *
                clear H2d hz hoc hzb
                have HZ : Hid (∃ kv' out a', RkO w W3 g kv kv' (.slice none 0 0) out a' ∧ RHd a line now l w.heap.size out a' 0) := ⟨kv, [], _, RkO.nil H3.out.1 (fun q hq => .inl hq) H3.out.2.1, by unfold RHd; rw [HN.out]; exact ⟨rfl, .inl ⟨HHR.out, rfl, rfl⟩⟩⟩
                clear H3 HA
                go_wp2
                go_ret2
                exact ⟨_, _, rfl, HZ.out⟩
              case false =>
                obtain ⟨eb, heb⟩ : ∃ eb, (m == R) = eb := ⟨_, rfl⟩
                go_upto_region 19 with fail
                rename_i K hK
                refine wp_region_lit ?_
                refine wpList_runTo rfl (some 107) rfl (.int .i64 (R : Int)) wr (by kernel_rfl) ?_
                simp only [Act.put, List.setIfInBounds_toArray, List.set_cons_zero, List.set_cons_succ]
                refine wpList_runTo rfl (some 108) rfl (.pointer (some ⟨g, 0, none⟩)) wr (by kernel_rfl) ?_
                simp only [Act.put, List.setIfInBounds_toArray, List.set_cons_zero, List.set_cons_succ]
                refine wpList_runTo rfl (some 109) rfl (.pointer (some ⟨g, 0, none⟩)) wr (by kernel_rfl) ?_
                simp only [Act.put, List.setIfInBounds_toArray, List.set_cons_zero, List.set_cons_succ]
                refine wpList_runTo rfl (some 110) rfl (.pointer (some ⟨g, 2, none⟩)) wr (by kernel_rfl) ?_
                simp only [Act.put, List.setIfInBounds_toArray, List.set_cons_zero, List.set_cons_succ]
                refine wpList_runTo rfl (some 111) rfl (.int .i64 (X : Int)) wr (by exact ldN_run (.inr rfl) (.tmp 110) rfl (by kernel_rfl) (c2)) ?_
                simp only [Act.put, List.setIfInBounds_toArray, List.set_cons_zero, List.set_cons_succ]
                refine wpList_runTo rfl (some 112) rfl (.bool false) wr (by exact ltN_run (n := R) (k := X) (.tmp 107) (.tmp 111) rfl (by kernel_rfl) (by kernel_rfl) hxb _) ?_
                simp only [Act.put, List.setIfInBounds_toArray, List.set_cons_zero, List.set_cons_succ]
                refine wpList_runTo rfl (some 113) rfl (.bool false) wr (by kernel_rfl) ?_
                simp only [Act.put, List.setIfInBounds_toArray, List.set_cons_zero, List.set_cons_succ]
                refine wpList_runToG (by kernel_rfl) (some 114) rfl (.int .i64 (i : Int)) wr (by kernel_rfl) ?_
                simp only [Act.put, List.setIfInBounds_toArray, List.set_cons_zero, List.set_cons_succ]
                refine wpList_runToG (by kernel_rfl) (some 115) rfl (.pointer (some ⟨g, 0, none⟩)) wr (by kernel_rfl) ?_
                simp only [Act.put, List.setIfInBounds_toArray, List.set_cons_zero, List.set_cons_succ]
                refine wpList_runToG (by kernel_rfl) (some 116) rfl (.pointer (some ⟨g, 0, none⟩)) wr (by kernel_rfl) ?_
                simp only [Act.put, List.setIfInBounds_toArray, List.set_cons_zero, List.set_cons_succ]
                refine wpList_runToG (by kernel_rfl) (some 117) rfl (.pointer (some ⟨g, 3, none⟩)) wr (by kernel_rfl) ?_
                simp only [Act.put, List.setIfInBounds_toArray, List.set_cons_zero, List.set_cons_succ]
                refine wpList_runToG (by kernel_rfl) (some 118) rfl (kv) wr (by exact ldK_run (.tmp 117) rfl (by kernel_rfl) (c3)) ?_
                simp only [Act.put, List.setIfInBounds_toArray, List.set_cons_zero, List.set_cons_succ]
                refine wpList_runToG (by kernel_rfl) (some 119) rfl (.int .i64 (n : Int)) wr (by exact lenK_run hkv (.tmp 118) rfl (by kernel_rfl) _) ?_
                simp only [Act.put, List.setIfInBounds_toArray, List.set_cons_zero, List.set_cons_succ]
                refine wpList_runToG (by kernel_rfl) (some 120) rfl (.bool true) wr (by exact ltN_run (n := i) (k := n) (.tmp 114) (.tmp 119) rfl (by kernel_rfl) (by kernel_rfl) (decide_eq_true hlt) _) ?_
                simp only [Act.put, List.setIfInBounds_toArray, List.set_cons_zero, List.set_cons_succ]
                refine wpList_runToG (by kernel_rfl) (some 121) rfl (.bool true) wr (by kernel_rfl) ?_
                simp only [Act.put, List.setIfInBounds_toArray, List.set_cons_zero, List.set_cons_succ]
                refine wpList_runToG (by kernel_rfl) (some 122) rfl (.pointer (some ⟨g, 0, none⟩)) wr (by kernel_rfl) ?_
                simp only [Act.put, List.setIfInBounds_toArray, List.set_cons_zero, List.set_cons_succ]
                refine wpList_runToG (by kernel_rfl) (some 123) rfl (.pointer (some ⟨g, 0, none⟩)) wr (by kernel_rfl) ?_
                simp only [Act.put, List.setIfInBounds_toArray, List.set_cons_zero, List.set_cons_succ]
                refine wpList_runToG (by kernel_rfl) (some 124) rfl (.pointer (some ⟨g, 3, none⟩)) wr (by kernel_rfl) ?_
                simp only [Act.put, List.setIfInBounds_toArray, List.set_cons_zero, List.set_cons_succ]
                refine wpList_runToG (by kernel_rfl) (some 125) rfl (kv) wr (by exact ldK_run (.tmp 124) rfl (by kernel_rfl) (c3)) ?_
                simp only [Act.put, List.setIfInBounds_toArray, List.set_cons_zero, List.set_cons_succ]
                refine wpList_runToG (by kernel_rfl) (some 126) rfl (.int .i64 (i : Int)) wr (by kernel_rfl) ?_
                simp only [Act.put, List.setIfInBounds_toArray, List.set_cons_zero, List.set_cons_succ]
                refine wpList_runToG (by kernel_rfl) (some 127) rfl (.pointer (some ⟨kq, ko + i * 2, none⟩)) wr (by exact ixKV_run (i := i) hkq (.tmp 125) (.tmp 126) rfl (by kernel_rfl) (by kernel_rfl) hlt _) ?_
                simp only [Act.put, List.setIfInBounds_toArray, List.set_cons_zero, List.set_cons_succ]
                refine wpList_runToG (by kernel_rfl) (some 128) rfl (.pointer (some ⟨kq, ko + i * 2, none⟩)) wr (by kernel_rfl) ?_
                simp only [Act.put, List.setIfInBounds_toArray, List.set_cons_zero, List.set_cons_succ]
                refine wpList_runToG (by kernel_rfl) (some 129) rfl (.int .i64 (m : Int)) wr (by exact ldN_run (.inr rfl) (.tmp 128) rfl (by kernel_rfl) (cq)) ?_
                simp only [Act.put, List.setIfInBounds_toArray, List.set_cons_zero, List.set_cons_succ]
                refine wpList_runToG (by kernel_rfl) (some 130) rfl (.int .i64 (R : Int)) wr (by kernel_rfl) ?_
                simp only [Act.put, List.setIfInBounds_toArray, List.set_cons_zero, List.set_cons_succ]
                refine wpList_runToG (by kernel_rfl) (some 131) rfl (.bool eb) wr (by exact eqN_run (p := m) (q := R) (.tmp 129) (.tmp 130) rfl (by kernel_rfl) (by kernel_rfl) heb _) ?_
                simp only [Act.put, List.setIfInBounds_toArray, List.set_cons_zero, List.set_cons_succ]
                refine wpList_runToG (by kernel_rfl) (some 132) rfl (.bool eb) wr (by kernel_rfl) ?_
                simp only [Act.put, List.setIfInBounds_toArray, List.set_cons_zero, List.set_cons_succ]
                refine wpList_runTo rfl (some 133) rfl (.bool eb) wr (by kernel_rfl) ?_
                simp only [Act.put, List.setIfInBounds_toArray, List.set_cons_zero, List.set_cons_succ]
                refine wpList_runTo rfl (some 106) rfl (.bool eb) wr (by kernel_rfl) ?_
                simp only [Act.put, List.setIfInBounds_toArray, List.set_cons_zero, List.set_cons_succ]
                refine wpList_nil ?_
                refine hK _ _ ?_
                clear hK
                clear c3 c2 cq
                cases eb
                case true =>
                  have HHR : Hid (hrB a R = true) := by
                    have e : m = R := by simpa using heb
                    show hrB a R = true
                    unfold hrB
                    rw [fnd_hit HK.out.1 (HK.out.2.symm.trans e), Bool.true_or]
                  clear heb hxb
                  go_upto_region 20 with fail
                  have hbw : Below wr.heap.size wr wr.drew := ⟨rfl, rfl, rfl, Nat.le_refl _, fun _ _ => rfl⟩
                  have H2d : Hid (RbAt wr.drew g kv (a.came line now) ∧ Fr w wr.drew (fun x => x = g) ∧ By wr.drew v l) := ⟨H2.out.1.below hbw, H2.out.2.1.trans (Fr.of_below hbw (fun _ => False)) fun x _ q => q.elim id False.elim, H2.out.2.2.below hbw⟩
                  clear hbw H2
                  obtain ⟨z, hz⟩ : ∃ z, z = (a.came line now).cn (4 * line + 2) := ⟨_, rfl⟩
                  obtain ⟨oc, hoc⟩ : ∃ oc, oc = o6 + 2 := ⟨_, rfl⟩
                  rename_i K hK
                  refine wp_region_late (fun w' => w'.cell? ⟨g, oc, none⟩ = some (.int .i64 (z : Int))) 7 (by kernel_rfl) ?_
                  intro hCl
                  generalize wr.drew = Z at *
                  change wpAnyL _ _ _ _ _ _ 8 _ _ _
                  have hS : Z.cell? ⟨g, oc, none⟩ = some (.int .i64 (z : Int)) := by rw [hoc, HO6.out, hz]; exact RbAt.cell_cn H2d.out.1 HLN.out (by decide)
                  have hF : Z.frozen? ⟨g, oc, none⟩ = false := H2d.out.1.blk.frozen oc
                  have hzb : z + 1 ≤ 1000000000000 := by rw [hz]; have := HA.out.2.2.2.2 (4 * line + 2); have := (bmp_le a.cn (4 * line) (4 * line + 2)).2; show bmp a.cn (4 * line) (4 * line + 2) + 1 ≤ _; omega
                  refine takeL (i := 0) (v := .pointer (some ⟨g, o6, none⟩)) 7 (some 134) rfl rfl (by kernel_rfl) (by kernel_rfl) (by kernel_rfl) (by kernel_rfl) hCl (fun _ _ _ h => h) (Or.inl ⟨by kernel_rfl, fun w' hSw => by kernel_rfl⟩) hS ?_
                  clear hCl
                  intro hCl
                  simp only [Act.put, List.setIfInBounds_toArray, List.set_cons_zero, List.set_cons_succ]
                  refine takeL (i := 1) (v := .pointer (some ⟨g, o6, none⟩)) 7 (some 135) rfl rfl (by kernel_rfl) (by kernel_rfl) (by kernel_rfl) (by kernel_rfl) hCl (fun _ _ _ h => h) (Or.inl ⟨by kernel_rfl, fun w' hSw => by kernel_rfl⟩) hS ?_
                  clear hCl
                  intro hCl
                  simp only [Act.put, List.setIfInBounds_toArray, List.set_cons_zero, List.set_cons_succ]
                  refine takeL (i := 2) (v := .pointer (some ⟨g, oc, none⟩)) 7 (some 136) rfl rfl (by kernel_rfl) (by kernel_rfl) (by kernel_rfl) (by kernel_rfl) hCl (fun _ _ _ h => h) (Or.inl ⟨by kernel_rfl, fun w' hSw => by rw [hoc]; kernel_rfl⟩) hS ?_
                  clear hCl
                  intro hCl
                  simp only [Act.put, List.setIfInBounds_toArray, List.set_cons_zero, List.set_cons_succ]
                  refine takeL (i := 3) (v := .int .i64 (z : Int)) 7 (some 137) rfl rfl (by kernel_rfl) (by kernel_rfl) (by kernel_rfl) (by kernel_rfl) hCl (fun _ _ _ h => h) (Or.inl ⟨by kernel_rfl, fun w' hSw => by exact ldN_run (.inr rfl) (.tmp 136) rfl (by kernel_rfl) hSw⟩) hS ?_
                  clear hCl
                  intro hCl
                  simp only [Act.put, List.setIfInBounds_toArray, List.set_cons_zero, List.set_cons_succ]
                  refine takeL (i := 4) (v := .int .i64 ((z + 1 : Nat) : Int)) 7 (some 138) rfl rfl (by kernel_rfl) (by kernel_rfl) (by kernel_rfl) (by kernel_rfl) hCl (fun _ _ _ h => h) (Or.inl ⟨by kernel_rfl, fun w' hSw => by exact addN_run (p := z) (q := 1) (.tmp 137) (.const (.int .i64 1)) rfl (by kernel_rfl) rfl (by omega) _⟩) hS ?_
                  clear hCl
                  intro hCl
                  simp only [Act.put, List.setIfInBounds_toArray, List.set_cons_zero, List.set_cons_succ]
                  refine takeL (i := 5) (v := .pointer (some ⟨g, o6, none⟩)) 7 (some 139) rfl rfl (by kernel_rfl) (by kernel_rfl) (by kernel_rfl) (by kernel_rfl) hCl (fun _ _ _ h => h) (Or.inl ⟨by kernel_rfl, fun w' hSw => by kernel_rfl⟩) hS ?_
                  clear hCl
                  intro hCl
                  simp only [Act.put, List.setIfInBounds_toArray, List.set_cons_zero, List.set_cons_succ]
                  refine takeL (i := 6) (v := .pointer (some ⟨g, oc, none⟩)) 7 (some 140) rfl rfl (by kernel_rfl) (by kernel_rfl) (by kernel_rfl) (by kernel_rfl) hCl (fun _ _ _ h => h) (Or.inl ⟨by kernel_rfl, fun w' hSw => by rw [hoc]; kernel_rfl⟩) hS ?_
                  clear hCl
                  intro hCl
                  simp only [Act.put, List.setIfInBounds_toArray, List.set_cons_zero, List.set_cons_succ]
                  refine oneL (i := 7) rfl (by kernel_rfl) hCl (by kernel_rfl) (fun K1 hK1 => ?_)
                  refine skipR (d := none) rfl (w' := Z.setCell ⟨g, oc, none⟩ (.int .i64 ((z + 1 : Nat) : Int))) (stN_run (.inr rfl) (.tmp 140) (.tmp 138) rfl (by kernel_rfl) (by kernel_rfl) hS hF) ?_
                  refine hK1.out _ _ (fun h => absurd rfl h) ?_
                  clear hK1 hCl hS hF
                  intro hCl
                  simp only [Act.put, List.setIfInBounds_toArray, List.set_cons_zero, List.set_cons_succ]
                  refine doneL (by kernel_rfl) ?_
                  clear hCl
                  refine hK _ _ ?_
                  clear hK
                  have H3 : Hid (RbAt (Z.setCell ⟨g, oc, none⟩ (.int .i64 ((z + 1 : Nat) : Int))) g kv ((a.came line now).cnt (4 * line + 2)) ∧ Fr w (Z.setCell ⟨g, oc, none⟩ (.int .i64 ((z + 1 : Nat) : Int))) (fun x => x = g) ∧ By (Z.setCell ⟨g, oc, none⟩ (.int .i64 ((z + 1 : Nat) : Int))) v l) := by
                    have hf := Fr.setCell Z ⟨g, oc, none⟩ (.int .i64 ((z + 1 : Nat) : Int)) (fun x => x = g) rfl
                    have hab := H2d.out.1.bump (line := line) (c := 2) HLN.out (by decide) (by rw [← hz]; omega)
                    rw [← hz, ← HO6.out, ← hoc] at hab
                    exact ⟨hab, H2d.out.2.1.trans hf fun x _ q => q.elim id id, H2d.out.2.2.frR hf H2d.out.1⟩
                  generalize Z.setCell ⟨g, oc, none⟩ (.int .i64 ((z + 1 : Nat) : Int)) = W3 at *
                  generalize z = z20 at *
                  clear H2d hz hoc hzb
                  have HZ : Hid (∃ kv' out a', RkO w W3 g kv kv' (.slice none 0 0) out a' ∧ RHd a line now l w.heap.size out a' 0) := ⟨kv, [], _, RkO.nil H3.out.1 (fun q hq => .inl hq) H3.out.2.1, by unfold RHd; rw [HN.out]; exact ⟨rfl, .inl ⟨HHR.out, rfl, rfl⟩⟩⟩
                  clear H3 HA
                  go_wp2
                  go_ret2
                  exact ⟨_, _, rfl, HZ.out⟩
                case false =>
                  have HHI : Hid (∀ q, a.ks[i]? = some q → R < q.n) := fun q hq => by
                    have e : ¬ m = R := by simpa using heb
                    rw [HK.out.1] at hq
                    injection hq with hq
                    rw [← hq, ← HK.out.2]
                    omega
                  have HHR : Hid (hrB a R = false) := by
                    show hrB a R = false
                    unfold hrB
                    rw [← HX.out, hxb, HPL.out.none HA.out.1.so HHI.out]
                    rfl
                  clear heb hxb hmr
                  go_upto_region 21 with fail
                  have hbw : Below wr.heap.size wr wr.drew := ⟨rfl, rfl, rfl, Nat.le_refl _, fun _ _ => rfl⟩
                  have H2d : Hid (RbAt wr.drew g kv (a.came line now) ∧ Fr w wr.drew (fun x => x = g) ∧ By wr.drew v l) := ⟨H2.out.1.below hbw, H2.out.2.1.trans (Fr.of_below hbw (fun _ => False)) fun x _ q => q.elim id False.elim, H2.out.2.2.below hbw⟩
                  clear hbw H2
                  obtain ⟨WN, hWN⟩ : ∃ X, X = a.win := ⟨_, rfl⟩
                  have HWN : Hid (WN = a.win) := hWN
                  have hXW : X + WN ≤ 9223372036854775807 := by rw [HX.out, hWN]; have := HA.out.1.bd.nx; have := HA.out.1.bd.w2; omega
                  clear hWN
                  obtain ⟨fb, hfb⟩ : ∃ fb, decide (R < X + WN) = fb := ⟨_, rfl⟩
                  rename_i K hK
                  refine wp_region_held (S := fun w' => w'.cell? ⟨g, 2, none⟩ = some (.int .i64 (X : Int)) ∧ w'.cell? ⟨g, 0, none⟩ = some (.int .i64 (WN : Int))) (by kernel_rfl) ?_
                  change wpAnyH _ _ _ _ _ _ _ _ (World.drew _)
                  generalize wr.drew = WD at *
                  have hS : WD.cell? ⟨g, 2, none⟩ = some (.int .i64 (X : Int)) ∧ WD.cell? ⟨g, 0, none⟩ = some (.int .i64 (WN : Int)) := ⟨by rw [HX.out]; exact H2d.out.1.blk.cell 2, by rw [HWN.out]; exact H2d.out.1.blk.cell 0⟩
                  refine takeR (i := 0) (v := .int .i64 (R : Int)) (some 142) rfl rfl (by kernel_rfl) (by kernel_rfl) (by kernel_rfl) (fun _ _ _ h => h) (Or.inl ⟨by kernel_rfl, fun w' hSw => by kernel_rfl⟩) hS ?_
                  simp only [Act.put, List.setIfInBounds_toArray, List.set_cons_zero, List.set_cons_succ]
                  refine takeR (i := 1) (v := .pointer (some ⟨g, 0, none⟩)) (some 143) rfl rfl (by kernel_rfl) (by kernel_rfl) (by kernel_rfl) (fun _ _ _ h => h) (Or.inl ⟨by kernel_rfl, fun w' hSw => by kernel_rfl⟩) hS ?_
                  simp only [Act.put, List.setIfInBounds_toArray, List.set_cons_zero, List.set_cons_succ]
                  refine takeR (i := 2) (v := .pointer (some ⟨g, 0, none⟩)) (some 144) rfl rfl (by kernel_rfl) (by kernel_rfl) (by kernel_rfl) (fun _ _ _ h => h) (Or.inl ⟨by kernel_rfl, fun w' hSw => by kernel_rfl⟩) hS ?_
                  simp only [Act.put, List.setIfInBounds_toArray, List.set_cons_zero, List.set_cons_succ]
                  refine takeR (i := 3) (v := .pointer (some ⟨g, 2, none⟩)) (some 145) rfl rfl (by kernel_rfl) (by kernel_rfl) (by kernel_rfl) (fun _ _ _ h => h) (Or.inl ⟨by kernel_rfl, fun w' hSw => by kernel_rfl⟩) hS ?_
                  simp only [Act.put, List.setIfInBounds_toArray, List.set_cons_zero, List.set_cons_succ]
                  refine takeR (i := 4) (v := .int .i64 (X : Int)) (some 146) rfl rfl (by kernel_rfl) (by kernel_rfl) (by kernel_rfl) (fun _ _ _ h => h) (Or.inl ⟨by kernel_rfl, fun w' hSw => by exact ldN_run (.inr rfl) (.tmp 145) rfl (by kernel_rfl) (hSw.1)⟩) hS ?_
                  simp only [Act.put, List.setIfInBounds_toArray, List.set_cons_zero, List.set_cons_succ]
                  refine takeR (i := 5) (v := .pointer (some ⟨g, 0, none⟩)) (some 147) rfl rfl (by kernel_rfl) (by kernel_rfl) (by kernel_rfl) (fun _ _ _ h => h) (Or.inl ⟨by kernel_rfl, fun w' hSw => by kernel_rfl⟩) hS ?_
                  simp only [Act.put, List.setIfInBounds_toArray, List.set_cons_zero, List.set_cons_succ]
                  refine takeR (i := 6) (v := .pointer (some ⟨g, 0, none⟩)) (some 148) rfl rfl (by kernel_rfl) (by kernel_rfl) (by kernel_rfl) (fun _ _ _ h => h) (Or.inl ⟨by kernel_rfl, fun w' hSw => by kernel_rfl⟩) hS ?_
                  simp only [Act.put, List.setIfInBounds_toArray, List.set_cons_zero, List.set_cons_succ]
                  refine takeR (i := 7) (v := .pointer (some ⟨g, 0, none⟩)) (some 149) rfl rfl (by kernel_rfl) (by kernel_rfl) (by kernel_rfl) (fun _ _ _ h => h) (Or.inl ⟨by kernel_rfl, fun w' hSw => by kernel_rfl⟩) hS ?_
                  simp only [Act.put, List.setIfInBounds_toArray, List.set_cons_zero, List.set_cons_succ]
                  refine takeR (i := 8) (v := .int .i64 (WN : Int)) (some 150) rfl rfl (by kernel_rfl) (by kernel_rfl) (by kernel_rfl) (fun _ _ _ h => h) (Or.inl ⟨by kernel_rfl, fun w' hSw => by exact ldN_run (.inr rfl) (.tmp 149) rfl (by kernel_rfl) (hSw.2)⟩) hS ?_
                  simp only [Act.put, List.setIfInBounds_toArray, List.set_cons_zero, List.set_cons_succ]
                  refine takeR (i := 9) (v := .int .i64 ((X + WN : Nat) : Int)) (some 151) rfl rfl (by kernel_rfl) (by kernel_rfl) (by kernel_rfl) (fun _ _ _ h => h) (Or.inl ⟨by kernel_rfl, fun w' hSw => by exact addN_run (p := X) (q := WN) (.tmp 146) (.tmp 150) rfl (by kernel_rfl) (by kernel_rfl) hXW _⟩) hS ?_
                  simp only [Act.put, List.setIfInBounds_toArray, List.set_cons_zero, List.set_cons_succ]
                  refine takeR (i := 10) (v := .bool fb) (some 152) rfl rfl (by kernel_rfl) (by kernel_rfl) (by kernel_rfl) (fun _ _ _ h => h) (Or.inl ⟨by kernel_rfl, fun w' hSw => by exact ltN_run (n := R) (k := X + WN) (.tmp 142) (.tmp 151) rfl (by kernel_rfl) (by kernel_rfl) hfb _⟩) hS ?_
                  simp only [Act.put, List.setIfInBounds_toArray, List.set_cons_zero, List.set_cons_succ]
                  refine takeR (i := 11) (v := .bool fb) (some 141) rfl rfl (by kernel_rfl) (by kernel_rfl) (by kernel_rfl) (fun _ _ _ h => h) (Or.inl ⟨by kernel_rfl, fun w' hSw => by kernel_rfl⟩) hS ?_
                  simp only [Act.put, List.setIfInBounds_toArray, List.set_cons_zero, List.set_cons_succ]
                  refine wpAnyH_done (by kernel_rfl) ?_ _
                  refine hK _ _ ?_
                  clear hK hS hXW
                  have HFB : Hid (decide (R < a.nx + a.win) = fb) := by rw [← HX.out, ← HWN.out]; exact hfb
                  clear hfb HWN
                  generalize ((X + WN : Nat) : Int) = xw
                  generalize (WN : Int) = wn
                  cases fb
                  case false =>
                    have hfar : a.nx + a.win ≤ R := by have := HFB.out; simp at this; omega
                    have HZ : Hid (∃ kv' out a', RkO w WD g kv kv' (.slice none 0 0) out a' ∧ RHd a line now l w.heap.size out a' 0) := ⟨kv, [], _, RkO.nil H2d.out.1 (fun q hq => .inl hq) H2d.out.2.1, by unfold RHd; rw [HN.out]; exact ⟨rfl, .inr (.inl ⟨HHR.out, hfar, rfl, rfl⟩)⟩⟩
                    clear H2d HA
                    go_wp2
                    go_ret2
                    exact ⟨_, _, rfl, HZ.out⟩
                  case true =>
                    have HNR : Hid (R < a.nx + a.win) := by have := HFB.out; simp at this; exact this
                    clear HFB
                    go_upto_region 22 with fail
                    have hbw : Below WD.heap.size WD WD.drew := ⟨rfl, rfl, rfl, Nat.le_refl _, fun _ _ => rfl⟩
                    have H2dd : Hid (RbAt WD.drew g kv (a.came line now) ∧ Fr w WD.drew (fun x => x = g) ∧ By WD.drew v l) := ⟨H2d.out.1.below hbw, H2d.out.2.1.trans (Fr.of_below hbw (fun _ => False)) fun x _ q => q.elim id False.elim, H2d.out.2.2.below hbw⟩
                    clear hbw H2d
                    obtain ⟨z, hz⟩ : ∃ z, z = (a.came line now).cn (4 * line + 1) := ⟨_, rfl⟩
                    obtain ⟨oc, hoc⟩ : ∃ oc, oc = o6 + 1 := ⟨_, rfl⟩
                    rename_i K hK
                    refine wp_region_late (fun w' => w'.cell? ⟨g, oc, none⟩ = some (.int .i64 (z : Int))) 7 (by kernel_rfl) ?_
                    intro hCl
                    generalize WD.drew = Z at *
                    change wpAnyL _ _ _ _ _ _ 8 _ _ _
                    have hS : Z.cell? ⟨g, oc, none⟩ = some (.int .i64 (z : Int)) := by rw [hoc, HO6.out, hz]; exact RbAt.cell_cn H2dd.out.1 HLN.out (by decide)
                    have hF : Z.frozen? ⟨g, oc, none⟩ = false := H2dd.out.1.blk.frozen oc
                    have hzb : z + 1 ≤ 1000000000000 := by rw [hz]; have := HA.out.2.2.2.2 (4 * line + 1); have := (bmp_le a.cn (4 * line) (4 * line + 1)).2; show bmp a.cn (4 * line) (4 * line + 1) + 1 ≤ _; omega
                    refine takeL (i := 0) (v := .pointer (some ⟨g, o6, none⟩)) 7 (some 153) rfl rfl (by kernel_rfl) (by kernel_rfl) (by kernel_rfl) (by kernel_rfl) hCl (fun _ _ _ h => h) (Or.inl ⟨by kernel_rfl, fun w' hSw => by kernel_rfl⟩) hS ?_
                    clear hCl
                    intro hCl
                    simp only [Act.put, List.setIfInBounds_toArray, List.set_cons_zero, List.set_cons_succ]
                    refine takeL (i := 1) (v := .pointer (some ⟨g, o6, none⟩)) 7 (some 154) rfl rfl (by kernel_rfl) (by kernel_rfl) (by kernel_rfl) (by kernel_rfl) hCl (fun _ _ _ h => h) (Or.inl ⟨by kernel_rfl, fun w' hSw => by kernel_rfl⟩) hS ?_
                    clear hCl
                    intro hCl
                    simp only [Act.put, List.setIfInBounds_toArray, List.set_cons_zero, List.set_cons_succ]
                    refine takeL (i := 2) (v := .pointer (some ⟨g, oc, none⟩)) 7 (some 155) rfl rfl (by kernel_rfl) (by kernel_rfl) (by kernel_rfl) (by kernel_rfl) hCl (fun _ _ _ h => h) (Or.inl ⟨by kernel_rfl, fun w' hSw => by rw [hoc]; kernel_rfl⟩) hS ?_
                    clear hCl
                    intro hCl
                    simp only [Act.put, List.setIfInBounds_toArray, List.set_cons_zero, List.set_cons_succ]
                    refine takeL (i := 3) (v := .int .i64 (z : Int)) 7 (some 156) rfl rfl (by kernel_rfl) (by kernel_rfl) (by kernel_rfl) (by kernel_rfl) hCl (fun _ _ _ h => h) (Or.inl ⟨by kernel_rfl, fun w' hSw => by exact ldN_run (.inr rfl) (.tmp 155) rfl (by kernel_rfl) hSw⟩) hS ?_
                    clear hCl
                    intro hCl
                    simp only [Act.put, List.setIfInBounds_toArray, List.set_cons_zero, List.set_cons_succ]
                    refine takeL (i := 4) (v := .int .i64 ((z + 1 : Nat) : Int)) 7 (some 157) rfl rfl (by kernel_rfl) (by kernel_rfl) (by kernel_rfl) (by kernel_rfl) hCl (fun _ _ _ h => h) (Or.inl ⟨by kernel_rfl, fun w' hSw => by exact addN_run (p := z) (q := 1) (.tmp 156) (.const (.int .i64 1)) rfl (by kernel_rfl) rfl (by omega) _⟩) hS ?_
                    clear hCl
                    intro hCl
                    simp only [Act.put, List.setIfInBounds_toArray, List.set_cons_zero, List.set_cons_succ]
                    refine takeL (i := 5) (v := .pointer (some ⟨g, o6, none⟩)) 7 (some 158) rfl rfl (by kernel_rfl) (by kernel_rfl) (by kernel_rfl) (by kernel_rfl) hCl (fun _ _ _ h => h) (Or.inl ⟨by kernel_rfl, fun w' hSw => by kernel_rfl⟩) hS ?_
                    clear hCl
                    intro hCl
                    simp only [Act.put, List.setIfInBounds_toArray, List.set_cons_zero, List.set_cons_succ]
                    refine takeL (i := 6) (v := .pointer (some ⟨g, oc, none⟩)) 7 (some 159) rfl rfl (by kernel_rfl) (by kernel_rfl) (by kernel_rfl) (by kernel_rfl) hCl (fun _ _ _ h => h) (Or.inl ⟨by kernel_rfl, fun w' hSw => by rw [hoc]; kernel_rfl⟩) hS ?_
                    clear hCl
                    intro hCl
                    simp only [Act.put, List.setIfInBounds_toArray, List.set_cons_zero, List.set_cons_succ]
                    refine oneL (i := 7) rfl (by kernel_rfl) hCl (by kernel_rfl) (fun K1 hK1 => ?_)
                    refine skipR (d := none) rfl (w' := Z.setCell ⟨g, oc, none⟩ (.int .i64 ((z + 1 : Nat) : Int))) (stN_run (.inr rfl) (.tmp 159) (.tmp 157) rfl (by kernel_rfl) (by kernel_rfl) hS hF) ?_
                    refine hK1.out _ _ (fun h => absurd rfl h) ?_
                    clear hK1 hCl hS hF
                    intro hCl
                    simp only [Act.put, List.setIfInBounds_toArray, List.set_cons_zero, List.set_cons_succ]
                    refine doneL (by kernel_rfl) ?_
                    clear hCl
                    refine hK _ _ ?_
                    clear hK
                    have H3 : Hid (RbAt (Z.setCell ⟨g, oc, none⟩ (.int .i64 ((z + 1 : Nat) : Int))) g kv ((a.came line now).cnt (4 * line + 1)) ∧ Fr w (Z.setCell ⟨g, oc, none⟩ (.int .i64 ((z + 1 : Nat) : Int))) (fun x => x = g) ∧ By (Z.setCell ⟨g, oc, none⟩ (.int .i64 ((z + 1 : Nat) : Int))) v l) := by
                      have hf := Fr.setCell Z ⟨g, oc, none⟩ (.int .i64 ((z + 1 : Nat) : Int)) (fun x => x = g) rfl
                      have hab := H2dd.out.1.bump (line := line) (c := 1) HLN.out (by decide) (by rw [← hz]; omega)
                      rw [← hz, ← HO6.out, ← hoc] at hab
                      exact ⟨hab, H2dd.out.2.1.trans hf fun x _ q => q.elim id id, H2dd.out.2.2.frR hf H2dd.out.1⟩
                    generalize Z.setCell ⟨g, oc, none⟩ (.int .i64 ((z + 1 : Nat) : Int)) = W3 at *
                    generalize z = z22 at *
                    clear H2dd hz hoc hzb
                    have c3 : W3.cell? ⟨g, 3, none⟩ = some kv := H3.out.1.blk.cell 3
                    have hcc : i ≤ c := by
                      obtain ⟨_, cc, e1, e2⟩ := H3.out.1.row.form
                      rw [hkv] at e1
                      injection e1 with _ e3 e4
                      have := HPL.out.le
                      have e5 : (a.ks.length) ≤ cc := e2
                      omega
                    obtain ⟨s1, hs1⟩ : ∃ s1, s1 = cutS kv 0 i c := ⟨_, rfl⟩
                    obtain ⟨v4, W4, hap, hI4⟩ := (INS.start W3).app (rs := a.ks.take i) (sv := s1) (by
                      have h1 := (H3.out.1.row.cutH2 (hi := i) (by rw [hkv, HNL.out]; rfl) HPL.out.le).1
                      rw [kV_take] at h1
                      have e : (a.ks.take i).length = i := by rw [List.length_take]; have := HPL.out.le; omega
                      rw [hs1, e]
                      exact h1) (fun q hq => (H3.out.1.pk q (List.mem_of_mem_take hq)).one) (by have := HKL.out; rw [List.length_take]; simp; omega) 83
                    have HI4 : Hid (INS W3 W4 v4 (a.ks.take i)) := hI4
                    clear hI4
                    go_upto_region 23 with fail
                    rename_i K hK
                    refine wp_region_lit ?_
                    refine wpList_runTo rfl (some 14) rfl (.slice none 0 0) W3 (by kernel_rfl) ?_
                    simp only [Act.put, List.setIfInBounds_toArray, List.set_cons_zero, List.set_cons_succ]
                    refine wpList_nil ?_
                    refine hK _ _ ?_
                    clear hK
                    go_upto_region 24 with fail
                    rename_i K hK
                    refine wp_region_lit ?_
                    refine wpList_runTo rfl (some 160) rfl (.slice none 0 0) W3 (by kernel_rfl) ?_
                    simp only [Act.put, List.setIfInBounds_toArray, List.set_cons_zero, List.set_cons_succ]
                    refine wpList_runTo rfl (some 161) rfl (.pointer (some ⟨g, 0, none⟩)) W3 (by kernel_rfl) ?_
                    simp only [Act.put, List.setIfInBounds_toArray, List.set_cons_zero, List.set_cons_succ]
                    refine wpList_runTo rfl (some 162) rfl (.pointer (some ⟨g, 0, none⟩)) W3 (by kernel_rfl) ?_
                    simp only [Act.put, List.setIfInBounds_toArray, List.set_cons_zero, List.set_cons_succ]
                    refine wpList_runTo rfl (some 163) rfl (.pointer (some ⟨g, 3, none⟩)) W3 (by kernel_rfl) ?_
                    simp only [Act.put, List.setIfInBounds_toArray, List.set_cons_zero, List.set_cons_succ]
                    refine wpList_runTo rfl (some 164) rfl (kv) W3 (by exact ldK_run (.tmp 163) rfl (by kernel_rfl) (c3)) ?_
                    simp only [Act.put, List.setIfInBounds_toArray, List.set_cons_zero, List.set_cons_succ]
                    refine wpList_runTo rfl (some 165) rfl (.int .i64 (i : Int)) W3 (by kernel_rfl) ?_
                    simp only [Act.put, List.setIfInBounds_toArray, List.set_cons_zero, List.set_cons_succ]
                    refine wpList_runTo rfl (some 166) rfl (s1) W3 (by rw [hs1]; exact sliceKH_run hkv (.tmp 164) (.tmp 165) rfl (by kernel_rfl) (by kernel_rfl) hcc _) ?_
                    simp only [Act.put, List.setIfInBounds_toArray, List.set_cons_zero, List.set_cons_succ]
                    refine wpList_runTo rfl (some 167) rfl (v4) W4 (by exact exec_append (v1 := .slice none 0 0) (v2 := s1) (.tmp 160) (.tmp 166) rfl (by kernel_rfl) (by kernel_rfl) hap) ?_
                    simp only [Act.put, List.setIfInBounds_toArray, List.set_cons_zero, List.set_cons_succ]
                    refine wpList_runTo rfl (some 14) rfl (v4) W4 (by kernel_rfl) ?_
                    simp only [Act.put, List.setIfInBounds_toArray, List.set_cons_zero, List.set_cons_succ]
                    refine wpList_nil ?_
                    refine hK _ _ ?_
                    clear hK
                    clear hap hs1 c3 hcc
                    have hcp := copied_any (H3.out.2.2.below HI4.out.bel) HA.out.2.2.1
                    go_upto_region 25 with fail
                    rename_i K hK
                    refine wp_region_lit ?_
                    refine wpList_runTo rfl (some 168) rfl (v4) W4 (by kernel_rfl) ?_
                    simp only [Act.put, List.setIfInBounds_toArray, List.set_cons_zero, List.set_cons_succ]
                    refine wpList_runTo rfl (some 169) rfl (.int .i64 (R : Int)) W4 (by kernel_rfl) ?_
                    simp only [Act.put, List.setIfInBounds_toArray, List.set_cons_zero, List.set_cons_succ]
                    refine wpList_runTo rfl (some 170) rfl (v) W4 (by kernel_rfl) ?_
                    simp only [Act.put, List.setIfInBounds_toArray, List.set_cons_zero, List.set_cons_succ]
                    refine wpList_callW rfl (some 171) rfl 49 #[v] (by kernel_rfl) hcp ?_
                    clear hcp
                    rintro e W5 ⟨v5, rfl, hx⟩
                    refine ⟨_, rfl, ?_⟩
                    simp only [Act.put, List.setIfInBounds_toArray, List.set_cons_zero, List.set_cons_succ]
                    have hvf : ∃ a n c, v5 = .slice a n c := by
                      obtain ⟨ao, c, e, _⟩ := hx.out.row.form
                      exact ⟨ao, _, c, e⟩
                    have hal : Below W5.heap.size W5 (W5.alloc (.cells #[.int .i64 (R : Int), v5] 101)) := (Below.refl _ W5).alloc (Nat.le_refl _) _
                    have hI6 := (HI4.out.below hx.out.bel).below hal
                    obtain ⟨v7, W7, hap, hI7⟩ := hI6.app (rs := [⟨R, v5, l⟩]) row1K (fun q hq => by
                      have e : q = ⟨R, v5, l⟩ := by simpa using hq
                      subst e
                      obtain ⟨_, _, _, rfl⟩ := hvf
                      rfl) (by have := HKL.out; rw [List.length_take]; simp; omega) 83
                    have HI7 : Hid (INS W3 W7 v7 (a.ks.take i ++ [⟨R, v5, l⟩])) := hI7
                    have HK7 : Hid (PkAt W7 ⟨R, v5, l⟩ ∧ ∀ q, v5.ownBlock = some q → w.heap.size ≤ q) := by
                      have hlw : ∀ q, v5.ownBlock = some q → W4.heap.size ≤ q := hx.out.low
                      have h34 := HI4.out.bel.size
                      have h03 := H3.out.2.1.size
                      obtain ⟨v7', W7', k1, k2, k3, k4⟩ := appK_run hI6.row row1K (qs := [⟨R, v5, l⟩]) (fun q hq => by
                        have e : q = ⟨R, v5, l⟩ := by simpa using hq
                        subst e
                        obtain ⟨_, _, _, rfl⟩ := hvf
                        rfl) (by have := HKL.out; rw [List.length_take]; simp; omega) 83
                      rw [hap] at k1
                      injection k1 with e1 e2
                      subst e1 e2
                      have hp6 : PkAt (W5.alloc (.cells #[.int .i64 (R : Int), v5] 101)) ⟨R, v5, l⟩ := by
                        refine PkAt.fr (w := W5) ⟨hx.out.row, hx.out.bb, fun e => ?_⟩ (Fr.of_below hal (fun _ => False)) fun _ _ => id
                        have h9 := HM9.out.1
                        have e' : l = [] := e
                        rw [e'] at h9
                        simp at h9
                      refine ⟨hp6.fr k3 fun q hq e => ?_, fun q hq => by have := hlw q hq; omega⟩
                      obtain ⟨_, cur, hc⟩ := hp6.1.lt hq
                      exact hI6.row.ne_type hc (by decide) e
                    clear hI6 hI7 hal hx
                    refine wpList_runTo rfl (some 172) rfl (.agg #[.int .i64 (R : Int), v5]) W5 (by exact buildP_run hvf (.tmp 169) (.tmp 171) rfl (by kernel_rfl) (by kernel_rfl) _) ?_
                    simp only [Act.put, List.setIfInBounds_toArray, List.set_cons_zero, List.set_cons_succ]
                    refine wpList_runTo rfl (some 173) rfl (.slice (some ⟨W5.heap.size, 0, none⟩) 1 1) (W5.alloc (.cells #[.int .i64 (R : Int), v5] 101)) (by exact buildK1_run hvf (.tmp 172) rfl (by kernel_rfl) _) ?_
                    simp only [Act.put, List.setIfInBounds_toArray, List.set_cons_zero, List.set_cons_succ]
                    refine wpList_runTo rfl (some 174) rfl (v7) W7 (by exact exec_append (v1 := v4) (v2 := .slice (some ⟨W5.heap.size, 0, none⟩) 1 1) (.tmp 168) (.tmp 173) rfl (by kernel_rfl) (by kernel_rfl) hap) ?_
                    simp only [Act.put, List.setIfInBounds_toArray, List.set_cons_zero, List.set_cons_succ]
                    refine wpList_runTo rfl (some 14) rfl (v7) W7 (by kernel_rfl) ?_
                    simp only [Act.put, List.setIfInBounds_toArray, List.set_cons_zero, List.set_cons_succ]
                    refine wpList_nil ?_
                    refine hK _ _ ?_
                    clear hK
                    generalize (Value.slice (some ⟨W5.heap.size, 0, none⟩) 1 1) = s173
                    clear hap hvf
                    have c3 : W7.cell? ⟨g, 3, none⟩ = some kv := (H3.out.1.below HI7.out.bel).blk.cell 3
                    have f3 : ∀ W, Below W3.heap.size W3 W → W.cell? ⟨g, 3, none⟩ = some kv ∧ W.frozen? ⟨g, 3, none⟩ = false := fun W hW => ⟨(H3.out.1.below hW).blk.cell 3, (H3.out.1.below hW).blk.frozen 3⟩
                    obtain ⟨s2, hs2⟩ : ∃ s2, s2 = cutS kv i n c := ⟨_, rfl⟩
                    obtain ⟨v8, W8, hap, hI8⟩ := HI7.out.app (rs := a.ks.drop i) (sv := s2) (by
                      have h1 := ((H3.out.1.below HI7.out.bel).row.cutL2 (lo := i) (by rw [hkv, HNL.out]; rfl) HPL.out.le).1
                      rw [kV_drop] at h1
                      rw [hs2, HNL.out, List.length_drop]
                      exact h1) (fun q hq => (H3.out.1.pk q (List.mem_of_mem_drop hq)).one) (by have := HKL.out; rw [List.length_append, List.length_take, List.length_drop]; simp; omega) 83
                    have HI8 : Hid (INS W3 W8 v8 (insK a.ks i ⟨R, v5, l⟩)) := hI8
                    have hv8 : ∃ a n c, v8 = .slice a n c := by
                      obtain ⟨ao, c, e, _⟩ := hI8.row.form
                      exact ⟨ao, _, c, e⟩
                    have HK8 : Hid (PkAt W8 ⟨R, v5, l⟩) := by
                      obtain ⟨v8', W8', k1, k2, k3, k4⟩ := appK_run HI7.out.row (sv := s2) (qs := a.ks.drop i) (by
                        have h1 := ((H3.out.1.below HI7.out.bel).row.cutL2 (lo := i) (by rw [hkv, HNL.out]; rfl) HPL.out.le).1
                        rw [kV_drop] at h1
                        rw [hs2, HNL.out, List.length_drop]
                        exact h1) (fun q hq => (H3.out.1.pk q (List.mem_of_mem_drop hq)).one) (by have := HKL.out; rw [List.length_append, List.length_take, List.length_drop]; simp; omega) 83
                      rw [hap] at k1
                      injection k1 with e1 e2
                      subst e1 e2
                      refine HK7.out.1.fr k3 fun q hq e => ?_
                      obtain ⟨_, cur, hc⟩ := HK7.out.1.1.lt hq
                      exact HI7.out.row.ne_type hc (by decide) e
                    obtain ⟨c8, f8⟩ := f3 W8 hI8.bel
                    have hin : i ≤ n := by rw [HNL.out]; exact HPL.out.le
                    clear hI8 f3
                    have H9 : Hid (RbAt (W8.setCell ⟨g, 3, none⟩ v8) g v8 { (a.came line now).cnt (4 * line + 1) with ks := insK a.ks i ⟨R, v5, l⟩ } ∧ Fr w (W8.setCell ⟨g, 3, none⟩ v8) (fun x => x = g) ∧ ∀ q, v8.ownBlock = some q → w.heap.size ≤ q) := by
                      have h1 := H3.out.1.ins (k := ⟨R, v5, l⟩) HI8.out HK8.out HM9.out.2.2 (by
                        show a.ks.length + 1 ≤ bmp (bmp a.cn (4 * line)) (4 * line + 1) 1 + bmp (bmp a.cn (4 * line)) (4 * line + 1) 5
                        have h1 := HA.out.1.bd.len
                        have h2 := (bmp_le a.cn (4 * line) 1).1
                        have h3 := (bmp_le a.cn (4 * line) 5).1
                        have hl2 := HLN.out
                        by_cases hz : line = 0
                        · subst hz
                          have e := (bmp_le (bmp a.cn (4 * 0)) (4 * 0 + 1) 5).1
                          have e2 : bmp (bmp a.cn (4 * 0)) (4 * 0 + 1) 1 = bmp a.cn (4 * 0) 1 + 1 := rfl
                          omega
                        · obtain rfl : line = 1 := by omega
                          have e := (bmp_le (bmp a.cn (4 * 1)) (4 * 1 + 1) 1).1
                          have e2 : bmp (bmp a.cn (4 * 1)) (4 * 1 + 1) 5 = bmp a.cn (4 * 1) 5 + 1 := rfl
                          omega) HPL.out HHI.out
                      have hf := Fr.setCell W8 ⟨g, 3, none⟩ v8 (fun x => x = g) rfl
                      refine ⟨h1, (H3.out.2.1.trans (Fr.of_below HI8.out.bel (fun _ => False)) fun x _ q => q.elim id False.elim).trans hf fun x _ q => q.elim id id, fun q hq => ?_⟩
                      have := HI8.out.low q hq
                      have := H3.out.2.1.size
                      omega
                    go_upto_region 26 with fail
                    rename_i K hK
                    refine wp_region_lit ?_
                    refine wpList_runTo rfl (some 175) rfl (.pointer (some ⟨g, 0, none⟩)) W7 (by kernel_rfl) ?_
                    simp only [Act.put, List.setIfInBounds_toArray, List.set_cons_zero, List.set_cons_succ]
                    refine wpList_runTo rfl (some 176) rfl (v7) W7 (by kernel_rfl) ?_
                    simp only [Act.put, List.setIfInBounds_toArray, List.set_cons_zero, List.set_cons_succ]
                    refine wpList_runTo rfl (some 177) rfl (.pointer (some ⟨g, 0, none⟩)) W7 (by kernel_rfl) ?_
                    simp only [Act.put, List.setIfInBounds_toArray, List.set_cons_zero, List.set_cons_succ]
                    refine wpList_runTo rfl (some 178) rfl (.pointer (some ⟨g, 0, none⟩)) W7 (by kernel_rfl) ?_
                    simp only [Act.put, List.setIfInBounds_toArray, List.set_cons_zero, List.set_cons_succ]
                    refine wpList_runTo rfl (some 179) rfl (.pointer (some ⟨g, 3, none⟩)) W7 (by kernel_rfl) ?_
                    simp only [Act.put, List.setIfInBounds_toArray, List.set_cons_zero, List.set_cons_succ]
                    refine wpList_runTo rfl (some 180) rfl (kv) W7 (by exact ldK_run (.tmp 179) rfl (by kernel_rfl) (c3)) ?_
                    simp only [Act.put, List.setIfInBounds_toArray, List.set_cons_zero, List.set_cons_succ]
                    refine wpList_runTo rfl (some 181) rfl (.int .i64 (i : Int)) W7 (by kernel_rfl) ?_
                    simp only [Act.put, List.setIfInBounds_toArray, List.set_cons_zero, List.set_cons_succ]
                    refine wpList_runTo rfl (some 182) rfl (s2) W7 (by rw [hs2]; exact sliceKLv_run hkv (.tmp 180) (.tmp 181) rfl (by kernel_rfl) (by kernel_rfl) hin _) ?_
                    simp only [Act.put, List.setIfInBounds_toArray, List.set_cons_zero, List.set_cons_succ]
                    refine wpList_runTo rfl (some 183) rfl (v8) W8 (by exact exec_append (v1 := v7) (v2 := s2) (.tmp 176) (.tmp 182) rfl (by kernel_rfl) (by kernel_rfl) hap) ?_
                    simp only [Act.put, List.setIfInBounds_toArray, List.set_cons_zero, List.set_cons_succ]
                    refine wpList_runTo rfl (some 184) rfl (.pointer (some ⟨g, 0, none⟩)) W8 (by kernel_rfl) ?_
                    simp only [Act.put, List.setIfInBounds_toArray, List.set_cons_zero, List.set_cons_succ]
                    refine wpList_runTo rfl (some 185) rfl (.pointer (some ⟨g, 3, none⟩)) W8 (by kernel_rfl) ?_
                    simp only [Act.put, List.setIfInBounds_toArray, List.set_cons_zero, List.set_cons_succ]
                    refine wpList_skipW rfl none rfl (w' := W8.setCell ⟨g, 3, none⟩ v8) (stK_run hv8 ⟨_, _, _, hkv⟩ (.tmp 185) (.tmp 183) rfl (by kernel_rfl) (by kernel_rfl) c8 f8) ?_
                    simp only [Act.put, List.setIfInBounds_toArray, List.set_cons_zero, List.set_cons_succ]
                    refine wpList_nil ?_
                    refine hK _ _ ?_
                    clear hK
                    generalize W8.setCell ⟨g, 3, none⟩ v8 = W9 at *
                    clear hap hs2 c3 c8 f8 hin H3 HI4 HI7 HI8 HK8
                    have c3 : W9.cell? ⟨g, 3, none⟩ = some v8 := H9.out.1.blk.cell 3
                    obtain ⟨ob, hob⟩ : ∃ ob, (n + 1 == 1) = ob := ⟨_, rfl⟩
                    obtain ⟨a8, c8, hv8f⟩ : ∃ ao c, v8 = .slice ao (n + 1) c := by
                      obtain ⟨ao, c, e, _⟩ := H9.out.1.row.form
                      have e2 : (insK a.ks i ⟨R, v5, l⟩).length = n + 1 := by rw [insK_len, HNL.out]
                      exact ⟨ao, c, by rw [← e2]; exact e⟩
                    go_upto_region 27 with fail
                    rename_i K hK
                    refine wp_region_lit ?_
                    refine wpList_runTo rfl (some 186) rfl (.pointer (some ⟨g, 0, none⟩)) W9 (by kernel_rfl) ?_
                    simp only [Act.put, List.setIfInBounds_toArray, List.set_cons_zero, List.set_cons_succ]
                    refine wpList_runTo rfl (some 187) rfl (.pointer (some ⟨g, 0, none⟩)) W9 (by kernel_rfl) ?_
                    simp only [Act.put, List.setIfInBounds_toArray, List.set_cons_zero, List.set_cons_succ]
                    refine wpList_runTo rfl (some 188) rfl (.pointer (some ⟨g, 3, none⟩)) W9 (by kernel_rfl) ?_
                    simp only [Act.put, List.setIfInBounds_toArray, List.set_cons_zero, List.set_cons_succ]
                    refine wpList_runTo rfl (some 189) rfl (v8) W9 (by exact ldK_run (.tmp 188) rfl (by kernel_rfl) (c3)) ?_
                    simp only [Act.put, List.setIfInBounds_toArray, List.set_cons_zero, List.set_cons_succ]
                    refine wpList_runTo rfl (some 190) rfl (.int .i64 ((n + 1 : Nat) : Int)) W9 (by exact lenK_run hv8f (.tmp 189) rfl (by kernel_rfl) _) ?_
                    simp only [Act.put, List.setIfInBounds_toArray, List.set_cons_zero, List.set_cons_succ]
                    refine wpList_runTo rfl (some 191) rfl (.bool ob) W9 (by exact eqN_run (p := n + 1) (q := 1) (.tmp 190) (.const (.int .i64 1)) rfl (by kernel_rfl) rfl hob _) ?_
                    simp only [Act.put, List.setIfInBounds_toArray, List.set_cons_zero, List.set_cons_succ]
                    refine wpList_nil ?_
                    refine hK _ _ ?_
                    clear hK
                    clear c3 hv8f hv8
                    generalize ((n + 1 : Nat) : Int) = n1
                    cases ob
                    case false =>
                      have HZ : Hid (∃ kv' out a', RkO w W9 g kv kv' (.slice none 0 0) out a' ∧ RHd a line now l w.heap.size out a' 0) := by
                        have hne : a.ks ≠ [] := fun e => by
                          have h1 := HNL.out
                          rw [e] at h1
                          rw [h1] at hob
                          simp at hob
                        refine ⟨v8, [], _, RkO.nil H9.out.1 (fun q hq => .inr (H9.out.2.2 q hq)) H9.out.2.1, ?_⟩
                        unfold RHd
                        rw [HN.out]
                        refine ⟨rfl, .inr (.inr ⟨HHR.out, HNR.out, ⟨R, v5, l⟩, rfl, rfl, HK7.out.2, .inr ⟨HNE.out, rfl, insK_perm _ _ _, ?_⟩⟩)⟩
                        show _ = ({ (a.came line now).cnt (4 * line + 1) with ks := insK a.ks i ⟨R, v5, l⟩, si := if a.ks = [] then _ else _ } : Ab)
                        rw [if_neg hne]
                      clear H9 HA hob
                      go_wp2
                      go_ret2
                      exact ⟨_, _, rfl, HZ.out⟩
                    case true =>
                      have c5 : W9.cell? ⟨g, 5, none⟩ = some (.int .i64 MM) := by rw [HMM.out.1]; exact H9.out.1.blk.cell 5
                      have c4 : W9.cell? ⟨g, 4, none⟩ = some (.int .i64 a.si) := H9.out.1.blk.cell 4
                      have f4 : W9.frozen? ⟨g, 4, none⟩ = false := H9.out.1.blk.frozen 4
                      have HZ : Hid (∃ kv' out a', RkO w (W9.setCell ⟨g, 4, none⟩ (.int .i64 MM)) g kv kv' (.slice none 0 0) out a' ∧ RHd a line now l w.heap.size out a' 0) := by
                        have hnil : a.ks = [] := by
                          have h1 := HNL.out
                          have h2 : n = 0 := by simpa using hob
                          exact List.length_eq_zero_iff.1 (by omega)
                        have hbd := H9.out.1.bd
                        have h1 := H9.out.1.put { (a.came line now).cnt (4 * line + 1) with ks := insK a.ks i ⟨R, v5, l⟩, si := MM } 4 (.int .i64 MM) (by rfl) H9.out.1.row H9.out.1.pk ⟨hbd.w1, hbd.w2, hbd.p0, hbd.p1, hbd.nx, HMM.out.2.1, HMM.out.2.2, hbd.l0, hbd.l1, hbd.kn, hbd.cn, hbd.len⟩ H9.out.1.so
                        have hf := Fr.setCell W9 ⟨g, 4, none⟩ (.int .i64 MM) (fun x => x = g) rfl
                        refine ⟨v8, [], _, RkO.nil h1 (fun q hq => .inr (H9.out.2.2 q hq)) (H9.out.2.1.trans hf fun x _ q => q.elim id id), ?_⟩
                        unfold RHd
                        rw [HN.out]
                        refine ⟨rfl, .inr (.inr ⟨HHR.out, HNR.out, ⟨R, v5, l⟩, rfl, rfl, HK7.out.2, .inr ⟨HNE.out, rfl, insK_perm _ _ _, ?_⟩⟩)⟩
                        show _ = ({ (a.came line now).cnt (4 * line + 1) with ks := insK a.ks i ⟨R, v5, l⟩, si := if a.ks = [] then max a.la now else _ } : Ab)
                        rw [if_pos hnil, HMM.out.1]
                      go_upto_region 28 with fail
                      refine wp_region_lit ?_
                      refine wpList_runTo rfl (some 192) rfl (.pointer (some ⟨g, 0, none⟩)) W9 (by kernel_rfl) ?_
                      simp only [Act.put, List.setIfInBounds_toArray, List.set_cons_zero, List.set_cons_succ]
                      refine wpList_runTo rfl (some 193) rfl (.pointer (some ⟨g, 0, none⟩)) W9 (by kernel_rfl) ?_
                      simp only [Act.put, List.setIfInBounds_toArray, List.set_cons_zero, List.set_cons_succ]
                      refine wpList_runTo rfl (some 194) rfl (.pointer (some ⟨g, 0, none⟩)) W9 (by kernel_rfl) ?_
                      simp only [Act.put, List.setIfInBounds_toArray, List.set_cons_zero, List.set_cons_succ]
                      refine wpList_runTo rfl (some 195) rfl (.pointer (some ⟨g, 5, none⟩)) W9 (by kernel_rfl) ?_
                      simp only [Act.put, List.setIfInBounds_toArray, List.set_cons_zero, List.set_cons_succ]
                      refine wpList_runTo rfl (some 196) rfl (.int .i64 MM) W9 (by exact ldN_run (.inl rfl) (.tmp 195) rfl (by kernel_rfl) (c5)) ?_
                      simp only [Act.put, List.setIfInBounds_toArray, List.set_cons_zero, List.set_cons_succ]
                      refine wpList_runTo rfl (some 197) rfl (.pointer (some ⟨g, 0, none⟩)) W9 (by kernel_rfl) ?_
                      simp only [Act.put, List.setIfInBounds_toArray, List.set_cons_zero, List.set_cons_succ]
                      refine wpList_runTo rfl (some 198) rfl (.pointer (some ⟨g, 4, none⟩)) W9 (by kernel_rfl) ?_
                      simp only [Act.put, List.setIfInBounds_toArray, List.set_cons_zero, List.set_cons_succ]
                      refine wpList_skipW rfl none rfl (w' := W9.setCell ⟨g, 4, none⟩ (.int .i64 MM)) (stN_run (.inl rfl) (.tmp 198) (.tmp 196) rfl (by kernel_rfl) (by kernel_rfl) c4 f4) ?_
                      simp only [Act.put, List.setIfInBounds_toArray, List.set_cons_zero, List.set_cons_succ]
                      refine wpList_nil ?_
                      generalize W9.setCell ⟨g, 4, none⟩ (.int .i64 MM) = W10 at *
                      clear c5 c4 f4 H9 HA hob
                      go_wp2
                      go_ret2
                      exact ⟨_, _, rfl, HZ.out⟩
          · have hine : i = n := by omega
            have HHI : Hid (∀ q, a.ks[i]? = some q → R < q.n) := fun q hq => by
              have h1 := (List.getElem?_eq_some_iff.1 hq).1
              have := HNL.out
              omega
            clear hine
            obtain ⟨bf, hbf⟩ : ∃ bf : Bool, bf = false := ⟨_, rfl⟩
            have hib : decide (i < n) = bf := by rw [hbf]; exact decide_eq_false hlt
            go_upto_region 17 with fail
            rename_i K hK
            refine wp_region_lit ?_
            refine wpList_runTo rfl (some 85) rfl (.int .i64 (i : Int)) wr (by kernel_rfl) ?_
            simp only [Act.put, List.setIfInBounds_toArray, List.set_cons_zero, List.set_cons_succ]
            refine wpList_runTo rfl (some 86) rfl (.pointer (some ⟨g, 0, none⟩)) wr (by kernel_rfl) ?_
            simp only [Act.put, List.setIfInBounds_toArray, List.set_cons_zero, List.set_cons_succ]
            refine wpList_runTo rfl (some 87) rfl (.pointer (some ⟨g, 0, none⟩)) wr (by kernel_rfl) ?_
            simp only [Act.put, List.setIfInBounds_toArray, List.set_cons_zero, List.set_cons_succ]
            refine wpList_runTo rfl (some 88) rfl (.pointer (some ⟨g, 3, none⟩)) wr (by kernel_rfl) ?_
            simp only [Act.put, List.setIfInBounds_toArray, List.set_cons_zero, List.set_cons_succ]
            refine wpList_runTo rfl (some 89) rfl (kv) wr (by exact ldK_run (.tmp 88) rfl (by kernel_rfl) (c3)) ?_
            simp only [Act.put, List.setIfInBounds_toArray, List.set_cons_zero, List.set_cons_succ]
            refine wpList_runTo rfl (some 90) rfl (.int .i64 (n : Int)) wr (by exact lenK_run hkv (.tmp 89) rfl (by kernel_rfl) _) ?_
            simp only [Act.put, List.setIfInBounds_toArray, List.set_cons_zero, List.set_cons_succ]
            refine wpList_runTo rfl (some 91) rfl (.bool bf) wr (by exact ltN_run (n := i) (k := n) (.tmp 85) (.tmp 90) rfl (by kernel_rfl) (by kernel_rfl) hib _) ?_
            simp only [Act.put, List.setIfInBounds_toArray, List.set_cons_zero, List.set_cons_succ]
            refine wpList_runTo rfl (some 92) rfl (.bool bf) wr (by kernel_rfl) ?_
            simp only [Act.put, List.setIfInBounds_toArray, List.set_cons_zero, List.set_cons_succ]
            refine wpList_skipU hun (by subst hbf; kernel_rfl) (some 93) rfl ?_
            simp only [Act.put, List.setIfInBounds_toArray, List.set_cons_zero, List.set_cons_succ]
            refine wpList_skipU hun (by subst hbf; kernel_rfl) (some 94) rfl ?_
            simp only [Act.put, List.setIfInBounds_toArray, List.set_cons_zero, List.set_cons_succ]
            refine wpList_skipU hun (by subst hbf; kernel_rfl) (some 95) rfl ?_
            simp only [Act.put, List.setIfInBounds_toArray, List.set_cons_zero, List.set_cons_succ]
            refine wpList_skipU hun (by subst hbf; kernel_rfl) (some 96) rfl ?_
            simp only [Act.put, List.setIfInBounds_toArray, List.set_cons_zero, List.set_cons_succ]
            refine wpList_skipU hun (by subst hbf; kernel_rfl) (some 97) rfl ?_
            simp only [Act.put, List.setIfInBounds_toArray, List.set_cons_zero, List.set_cons_succ]
            refine wpList_skipU hun (by subst hbf; kernel_rfl) (some 98) rfl ?_
            simp only [Act.put, List.setIfInBounds_toArray, List.set_cons_zero, List.set_cons_succ]
            refine wpList_skipU hun (by subst hbf; kernel_rfl) (some 99) rfl ?_
            simp only [Act.put, List.setIfInBounds_toArray, List.set_cons_zero, List.set_cons_succ]
            refine wpList_skipU hun (by subst hbf; kernel_rfl) (some 100) rfl ?_
            simp only [Act.put, List.setIfInBounds_toArray, List.set_cons_zero, List.set_cons_succ]
            refine wpList_skipU hun (by subst hbf; kernel_rfl) (some 101) rfl ?_
            simp only [Act.put, List.setIfInBounds_toArray, List.set_cons_zero, List.set_cons_succ]
            refine wpList_skipU hun (by subst hbf; kernel_rfl) (some 102) rfl ?_
            simp only [Act.put, List.setIfInBounds_toArray, List.set_cons_zero, List.set_cons_succ]
            refine wpList_runTo rfl (some 103) rfl (.bool false) wr (by subst hbf; kernel_rfl) ?_
            simp only [Act.put, List.setIfInBounds_toArray, List.set_cons_zero, List.set_cons_succ]
            refine wpList_nil ?_
            refine hK _ _ ?_
            clear hK
            obtain ⟨xb, hxb⟩ : ∃ xb, decide (R < X) = xb := ⟨_, rfl⟩
            cases xb
            case true =>
              have HHR : Hid (hrB a R = true) := by
                show hrB a R = true
                unfold hrB
                rw [← HX.out, hxb, Bool.or_true]
              obtain ⟨bt, hbt⟩ : ∃ bt : Bool, bt = true := ⟨_, rfl⟩
              rw [← hbt] at hxb
              go_upto_region 19 with fail
              rename_i K hK
              refine wp_region_lit ?_
              refine wpList_runTo rfl (some 107) rfl (.int .i64 (R : Int)) wr (by kernel_rfl) ?_
              simp only [Act.put, List.setIfInBounds_toArray, List.set_cons_zero, List.set_cons_succ]
              refine wpList_runTo rfl (some 108) rfl (.pointer (some ⟨g, 0, none⟩)) wr (by kernel_rfl) ?_
              simp only [Act.put, List.setIfInBounds_toArray, List.set_cons_zero, List.set_cons_succ]
              refine wpList_runTo rfl (some 109) rfl (.pointer (some ⟨g, 0, none⟩)) wr (by kernel_rfl) ?_
              simp only [Act.put, List.setIfInBounds_toArray, List.set_cons_zero, List.set_cons_succ]
              refine wpList_runTo rfl (some 110) rfl (.pointer (some ⟨g, 2, none⟩)) wr (by kernel_rfl) ?_
              simp only [Act.put, List.setIfInBounds_toArray, List.set_cons_zero, List.set_cons_succ]
              refine wpList_runTo rfl (some 111) rfl (.int .i64 (X : Int)) wr (by exact ldN_run (.inr rfl) (.tmp 110) rfl (by kernel_rfl) (c2)) ?_
              simp only [Act.put, List.setIfInBounds_toArray, List.set_cons_zero, List.set_cons_succ]
              refine wpList_runTo rfl (some 112) rfl (.bool bt) wr (by exact ltN_run (n := R) (k := X) (.tmp 107) (.tmp 111) rfl (by kernel_rfl) (by kernel_rfl) hxb _) ?_
              simp only [Act.put, List.setIfInBounds_toArray, List.set_cons_zero, List.set_cons_succ]
              refine wpList_runTo rfl (some 113) rfl (.bool bt) wr (by kernel_rfl) ?_
              simp only [Act.put, List.setIfInBounds_toArray, List.set_cons_zero, List.set_cons_succ]
              refine wpList_skipU hun (by subst hbt; kernel_rfl) (some 114) rfl ?_
              simp only [Act.put, List.setIfInBounds_toArray, List.set_cons_zero, List.set_cons_succ]
              refine wpList_skipU hun (by subst hbt; kernel_rfl) (some 115) rfl ?_
              simp only [Act.put, List.setIfInBounds_toArray, List.set_cons_zero, List.set_cons_succ]
              refine wpList_skipU hun (by subst hbt; kernel_rfl) (some 116) rfl ?_
              simp only [Act.put, List.setIfInBounds_toArray, List.set_cons_zero, List.set_cons_succ]
              refine wpList_skipU hun (by subst hbt; kernel_rfl) (some 117) rfl ?_
              simp only [Act.put, List.setIfInBounds_toArray, List.set_cons_zero, List.set_cons_succ]
              refine wpList_skipU hun (by subst hbt; kernel_rfl) (some 118) rfl ?_
              simp only [Act.put, List.setIfInBounds_toArray, List.set_cons_zero, List.set_cons_succ]
              refine wpList_skipU hun (by subst hbt; kernel_rfl) (some 119) rfl ?_
              simp only [Act.put, List.setIfInBounds_toArray, List.set_cons_zero, List.set_cons_succ]
              refine wpList_skipU hun (by subst hbt; kernel_rfl) (some 120) rfl ?_
              simp only [Act.put, List.setIfInBounds_toArray, List.set_cons_zero, List.set_cons_succ]
              refine wpList_skipU hun (by subst hbt; kernel_rfl) (some 121) rfl ?_
              simp only [Act.put, List.setIfInBounds_toArray, List.set_cons_zero, List.set_cons_succ]
              refine wpList_skipU hun (by subst hun hbt; kernel_rfl) (some 122) rfl ?_
              simp only [Act.put, List.setIfInBounds_toArray, List.set_cons_zero, List.set_cons_succ]
              refine wpList_skipU hun (by subst hun hbt; kernel_rfl) (some 123) rfl ?_
              simp only [Act.put, List.setIfInBounds_toArray, List.set_cons_zero, List.set_cons_succ]
              refine wpList_skipU hun (by subst hun hbt; kernel_rfl) (some 124) rfl ?_
              simp only [Act.put, List.setIfInBounds_toArray, List.set_cons_zero, List.set_cons_succ]
              refine wpList_skipU hun (by subst hun hbt; kernel_rfl) (some 125) rfl ?_
              simp only [Act.put, List.setIfInBounds_toArray, List.set_cons_zero, List.set_cons_succ]
              refine wpList_skipU hun (by subst hun hbt; kernel_rfl) (some 126) rfl ?_
              simp only [Act.put, List.setIfInBounds_toArray, List.set_cons_zero, List.set_cons_succ]
              refine wpList_skipU hun (by subst hun hbt; kernel_rfl) (some 127) rfl ?_
              simp only [Act.put, List.setIfInBounds_toArray, List.set_cons_zero, List.set_cons_succ]
              refine wpList_skipU hun (by subst hun hbt; kernel_rfl) (some 128) rfl ?_
              simp only [Act.put, List.setIfInBounds_toArray, List.set_cons_zero, List.set_cons_succ]
              refine wpList_skipU hun (by subst hun hbt; kernel_rfl) (some 129) rfl ?_
              simp only [Act.put, List.setIfInBounds_toArray, List.set_cons_zero, List.set_cons_succ]
              refine wpList_skipU hun (by subst hun hbt; kernel_rfl) (some 130) rfl ?_
              simp only [Act.put, List.setIfInBounds_toArray, List.set_cons_zero, List.set_cons_succ]
              refine wpList_skipU hun (by subst hun hbt; kernel_rfl) (some 131) rfl ?_
              simp only [Act.put, List.setIfInBounds_toArray, List.set_cons_zero, List.set_cons_succ]
              refine wpList_skipU hun (by subst hbt; kernel_rfl) (some 132) rfl ?_
              simp only [Act.put, List.setIfInBounds_toArray, List.set_cons_zero, List.set_cons_succ]
              refine wpList_runTo rfl (some 133) rfl (.bool true) wr (by subst hbt; kernel_rfl) ?_
              simp only [Act.put, List.setIfInBounds_toArray, List.set_cons_zero, List.set_cons_succ]
              refine wpList_runTo rfl (some 106) rfl (.bool true) wr (by kernel_rfl) ?_
              simp only [Act.put, List.setIfInBounds_toArray, List.set_cons_zero, List.set_cons_succ]
              refine wpList_nil ?_
              refine hK _ _ ?_
              clear hK
              clear hxb c3 c2
              go_upto_region 20 with fail
              have hbw : Below wr.heap.size wr wr.drew := ⟨rfl, rfl, rfl, Nat.le_refl _, fun _ _ => rfl⟩
              have H2d : Hid (RbAt wr.drew g kv (a.came line now) ∧ Fr w wr.drew (fun x => x = g) ∧ By wr.drew v l) := ⟨H2.out.1.below hbw, H2.out.2.1.trans (Fr.of_below hbw (fun _ => False)) fun x _ q => q.elim id False.elim, H2.out.2.2.below hbw⟩
              clear hbw H2
              obtain ⟨z, hz⟩ : ∃ z, z = (a.came line now).cn (4 * line + 2) := ⟨_, rfl⟩
              obtain ⟨oc, hoc⟩ : ∃ oc, oc = o6 + 2 := ⟨_, rfl⟩
              rename_i K hK
              refine wp_region_late (fun w' => w'.cell? ⟨g, oc, none⟩ = some (.int .i64 (z : Int))) 7 (by kernel_rfl) ?_
              intro hCl
              generalize wr.drew = Z at *
              change wpAnyL _ _ _ _ _ _ 8 _ _ _
              have hS : Z.cell? ⟨g, oc, none⟩ = some (.int .i64 (z : Int)) := by rw [hoc, HO6.out, hz]; exact RbAt.cell_cn H2d.out.1 HLN.out (by decide)
              have hF : Z.frozen? ⟨g, oc, none⟩ = false := H2d.out.1.blk.frozen oc
              have hzb : z + 1 ≤ 1000000000000 := by rw [hz]; have := HA.out.2.2.2.2 (4 * line + 2); have := (bmp_le a.cn (4 * line) (4 * line + 2)).2; show bmp a.cn (4 * line) (4 * line + 2) + 1 ≤ _; omega
              refine takeL (i := 0) (v := .pointer (some ⟨g, o6, none⟩)) 7 (some 134) rfl rfl (by kernel_rfl) (by kernel_rfl) (by kernel_rfl) (by kernel_rfl) hCl (fun _ _ _ h => h) (Or.inl ⟨by kernel_rfl, fun w' hSw => by kernel_rfl⟩) hS ?_
              clear hCl
              intro hCl
              simp only [Act.put, List.setIfInBounds_toArray, List.set_cons_zero, List.set_cons_succ]
              refine takeL (i := 1) (v := .pointer (some ⟨g, o6, none⟩)) 7 (some 135) rfl rfl (by kernel_rfl) (by kernel_rfl) (by kernel_rfl) (by kernel_rfl) hCl (fun _ _ _ h => h) (Or.inl ⟨by kernel_rfl, fun w' hSw => by kernel_rfl⟩) hS ?_
              clear hCl
              intro hCl
              simp only [Act.put, List.setIfInBounds_toArray, List.set_cons_zero, List.set_cons_succ]
              refine takeL (i := 2) (v := .pointer (some ⟨g, oc, none⟩)) 7 (some 136) rfl rfl (by kernel_rfl) (by kernel_rfl) (by kernel_rfl) (by kernel_rfl) hCl (fun _ _ _ h => h) (Or.inl ⟨by kernel_rfl, fun w' hSw => by rw [hoc]; kernel_rfl⟩) hS ?_
              clear hCl
              intro hCl
              simp only [Act.put, List.setIfInBounds_toArray, List.set_cons_zero, List.set_cons_succ]
              refine takeL (i := 3) (v := .int .i64 (z : Int)) 7 (some 137) rfl rfl (by kernel_rfl) (by kernel_rfl) (by kernel_rfl) (by kernel_rfl) hCl (fun _ _ _ h => h) (Or.inl ⟨by kernel_rfl, fun w' hSw => by exact ldN_run (.inr rfl) (.tmp 136) rfl (by kernel_rfl) hSw⟩) hS ?_
              clear hCl
              intro hCl
              simp only [Act.put, List.setIfInBounds_toArray, List.set_cons_zero, List.set_cons_succ]
              refine takeL (i := 4) (v := .int .i64 ((z + 1 : Nat) : Int)) 7 (some 138) rfl rfl (by kernel_rfl) (by kernel_rfl) (by kernel_rfl) (by kernel_rfl) hCl (fun _ _ _ h => h) (Or.inl ⟨by kernel_rfl, fun w' hSw => by exact addN_run (p := z) (q := 1) (.tmp 137) (.const (.int .i64 1)) rfl (by kernel_rfl) rfl (by omega) _⟩) hS ?_
              clear hCl
              intro hCl
              simp only [Act.put, List.setIfInBounds_toArray, List.set_cons_zero, List.set_cons_succ]
              refine takeL (i := 5) (v := .pointer (some ⟨g, o6, none⟩)) 7 (some 139) rfl rfl (by kernel_rfl) (by kernel_rfl) (by kernel_rfl) (by kernel_rfl) hCl (fun _ _ _ h => h) (Or.inl ⟨by kernel_rfl, fun w' hSw => by kernel_rfl⟩) hS ?_
              clear hCl
              intro hCl
              simp only [Act.put, List.setIfInBounds_toArray, List.set_cons_zero, List.set_cons_succ]
              refine takeL (i := 6) (v := .pointer (some ⟨g, oc, none⟩)) 7 (some 140) rfl rfl (by kernel_rfl) (by kernel_rfl) (by kernel_rfl) (by kernel_rfl) hCl (fun _ _ _ h => h) (Or.inl ⟨by kernel_rfl, fun w' hSw => by rw [hoc]; kernel_rfl⟩) hS ?_
              clear hCl
              intro hCl
              simp only [Act.put, List.setIfInBounds_toArray, List.set_cons_zero, List.set_cons_succ]
              refine oneL (i := 7) rfl (by kernel_rfl) hCl (by kernel_rfl) (fun K1 hK1 => ?_)
              refine skipR (d := none) rfl (w' := Z.setCell ⟨g, oc, none⟩ (.int .i64 ((z + 1 : Nat) : Int))) (stN_run (.inr rfl) (.tmp 140) (.tmp 138) rfl (by kernel_rfl) (by kernel_rfl) hS hF) ?_
              refine hK1.out _ _ (fun h => absurd rfl h) ?_
              clear hK1 hCl hS hF
              intro hCl
              simp only [Act.put, List.setIfInBounds_toArray, List.set_cons_zero, List.set_cons_succ]
              refine doneL (by kernel_rfl) ?_
              clear hCl
              refine hK _ _ ?_
              clear hK
              have H3 : Hid (RbAt (Z.setCell ⟨g, oc, none⟩ (.int .i64 ((z + 1 : Nat) : Int))) g kv ((a.came line now).cnt (4 * line + 2)) ∧ Fr w (Z.setCell ⟨g, oc, none⟩ (.int .i64 ((z + 1 : Nat) : Int))) (fun x => x = g) ∧ By (Z.setCell ⟨g, oc, none⟩ (.int .i64 ((z + 1 : Nat) : Int))) v l) := by
                have hf := Fr.setCell Z ⟨g, oc, none⟩ (.int .i64 ((z + 1 : Nat) : Int)) (fun x => x = g) rfl
                have hab := H2d.out.1.bump (line := line) (c := 2) HLN.out (by decide) (by rw [← hz]; omega)
                rw [← hz, ← HO6.out, ← hoc] at hab
                exact ⟨hab, H2d.out.2.1.trans hf fun x _ q => q.elim id id, H2d.out.2.2.frR hf H2d.out.1⟩
              generalize Z.setCell ⟨g, oc, none⟩ (.int .i64 ((z + 1 : Nat) : Int)) = W3 at *
              generalize z = z20 at *
              clear H2d hz hoc hzb
              have HZ : Hid (∃ kv' out a', RkO w W3 g kv kv' (.slice none 0 0) out a' ∧ RHd a line now l w.heap.size out a' 0) := ⟨kv, [], _, RkO.nil H3.out.1 (fun q hq => .inl hq) H3.out.2.1, by unfold RHd; rw [HN.out]; exact ⟨rfl, .inl ⟨HHR.out, rfl, rfl⟩⟩⟩
              clear H3 HA
              go_wp2
              go_ret2
              exact ⟨_, _, rfl, HZ.out⟩
            case false =>
              have HHR : Hid (hrB a R = false) := by
                show hrB a R = false
                unfold hrB
                rw [← HX.out, hxb, HPL.out.none HA.out.1.so HHI.out]
                rfl
              go_upto_region 19 with fail
              rename_i K hK
              refine wp_region_lit ?_
              refine wpList_runTo rfl (some 107) rfl (.int .i64 (R : Int)) wr (by kernel_rfl) ?_
              simp only [Act.put, List.setIfInBounds_toArray, List.set_cons_zero, List.set_cons_succ]
              refine wpList_runTo rfl (some 108) rfl (.pointer (some ⟨g, 0, none⟩)) wr (by kernel_rfl) ?_
              simp only [Act.put, List.setIfInBounds_toArray, List.set_cons_zero, List.set_cons_succ]
              refine wpList_runTo rfl (some 109) rfl (.pointer (some ⟨g, 0, none⟩)) wr (by kernel_rfl) ?_
              simp only [Act.put, List.setIfInBounds_toArray, List.set_cons_zero, List.set_cons_succ]
              refine wpList_runTo rfl (some 110) rfl (.pointer (some ⟨g, 2, none⟩)) wr (by kernel_rfl) ?_
              simp only [Act.put, List.setIfInBounds_toArray, List.set_cons_zero, List.set_cons_succ]
              refine wpList_runTo rfl (some 111) rfl (.int .i64 (X : Int)) wr (by exact ldN_run (.inr rfl) (.tmp 110) rfl (by kernel_rfl) (c2)) ?_
              simp only [Act.put, List.setIfInBounds_toArray, List.set_cons_zero, List.set_cons_succ]
              refine wpList_runTo rfl (some 112) rfl (.bool false) wr (by exact ltN_run (n := R) (k := X) (.tmp 107) (.tmp 111) rfl (by kernel_rfl) (by kernel_rfl) hxb _) ?_
              simp only [Act.put, List.setIfInBounds_toArray, List.set_cons_zero, List.set_cons_succ]
              refine wpList_runTo rfl (some 113) rfl (.bool false) wr (by kernel_rfl) ?_
              simp only [Act.put, List.setIfInBounds_toArray, List.set_cons_zero, List.set_cons_succ]
              refine wpList_runToG (by kernel_rfl) (some 114) rfl (.int .i64 (i : Int)) wr (by kernel_rfl) ?_
              simp only [Act.put, List.setIfInBounds_toArray, List.set_cons_zero, List.set_cons_succ]
              refine wpList_runToG (by kernel_rfl) (some 115) rfl (.pointer (some ⟨g, 0, none⟩)) wr (by kernel_rfl) ?_
              simp only [Act.put, List.setIfInBounds_toArray, List.set_cons_zero, List.set_cons_succ]
              refine wpList_runToG (by kernel_rfl) (some 116) rfl (.pointer (some ⟨g, 0, none⟩)) wr (by kernel_rfl) ?_
              simp only [Act.put, List.setIfInBounds_toArray, List.set_cons_zero, List.set_cons_succ]
              refine wpList_runToG (by kernel_rfl) (some 117) rfl (.pointer (some ⟨g, 3, none⟩)) wr (by kernel_rfl) ?_
              simp only [Act.put, List.setIfInBounds_toArray, List.set_cons_zero, List.set_cons_succ]
              refine wpList_runToG (by kernel_rfl) (some 118) rfl (kv) wr (by exact ldK_run (.tmp 117) rfl (by kernel_rfl) (c3)) ?_
              simp only [Act.put, List.setIfInBounds_toArray, List.set_cons_zero, List.set_cons_succ]
              refine wpList_runToG (by kernel_rfl) (some 119) rfl (.int .i64 (n : Int)) wr (by exact lenK_run hkv (.tmp 118) rfl (by kernel_rfl) _) ?_
              simp only [Act.put, List.setIfInBounds_toArray, List.set_cons_zero, List.set_cons_succ]
              refine wpList_runToG (by kernel_rfl) (some 120) rfl (.bool bf) wr (by exact ltN_run (n := i) (k := n) (.tmp 114) (.tmp 119) rfl (by kernel_rfl) (by kernel_rfl) hib _) ?_
              simp only [Act.put, List.setIfInBounds_toArray, List.set_cons_zero, List.set_cons_succ]
              refine wpList_runToG (by kernel_rfl) (some 121) rfl (.bool bf) wr (by kernel_rfl) ?_
              simp only [Act.put, List.setIfInBounds_toArray, List.set_cons_zero, List.set_cons_succ]
              refine wpList_skipU hun (by subst hbf; kernel_rfl) (some 122) rfl ?_
              simp only [Act.put, List.setIfInBounds_toArray, List.set_cons_zero, List.set_cons_succ]
              refine wpList_skipU hun (by subst hbf; kernel_rfl) (some 123) rfl ?_
              simp only [Act.put, List.setIfInBounds_toArray, List.set_cons_zero, List.set_cons_succ]
              refine wpList_skipU hun (by subst hbf; kernel_rfl) (some 124) rfl ?_
              simp only [Act.put, List.setIfInBounds_toArray, List.set_cons_zero, List.set_cons_succ]
              refine wpList_skipU hun (by subst hbf; kernel_rfl) (some 125) rfl ?_
              simp only [Act.put, List.setIfInBounds_toArray, List.set_cons_zero, List.set_cons_succ]
              refine wpList_skipU hun (by subst hbf; kernel_rfl) (some 126) rfl ?_
              simp only [Act.put, List.setIfInBounds_toArray, List.set_cons_zero, List.set_cons_succ]
              refine wpList_skipU hun (by subst hbf; kernel_rfl) (some 127) rfl ?_
              simp only [Act.put, List.setIfInBounds_toArray, List.set_cons_zero, List.set_cons_succ]
              refine wpList_skipU hun (by subst hbf; kernel_rfl) (some 128) rfl ?_
              simp only [Act.put, List.setIfInBounds_toArray, List.set_cons_zero, List.set_cons_succ]
              refine wpList_skipU hun (by subst hbf; kernel_rfl) (some 129) rfl ?_
              simp only [Act.put, List.setIfInBounds_toArray, List.set_cons_zero, List.set_cons_succ]
              refine wpList_skipU hun (by subst hbf; kernel_rfl) (some 130) rfl ?_
              simp only [Act.put, List.setIfInBounds_toArray, List.set_cons_zero, List.set_cons_succ]
              refine wpList_skipU hun (by subst hbf; kernel_rfl) (some 131) rfl ?_
              simp only [Act.put, List.setIfInBounds_toArray, List.set_cons_zero, List.set_cons_succ]
              refine wpList_runToG (by kernel_rfl) (some 132) rfl (.bool false) wr (by subst hbf; kernel_rfl) ?_
              simp only [Act.put, List.setIfInBounds_toArray, List.set_cons_zero, List.set_cons_succ]
              refine wpList_runTo rfl (some 133) rfl (.bool false) wr (by kernel_rfl) ?_
              simp only [Act.put, List.setIfInBounds_toArray, List.set_cons_zero, List.set_cons_succ]
              refine wpList_runTo rfl (some 106) rfl (.bool false) wr (by kernel_rfl) ?_
              simp only [Act.put, List.setIfInBounds_toArray, List.set_cons_zero, List.set_cons_succ]
              refine wpList_nil ?_
              refine hK _ _ ?_
              clear hK
              clear c3 c2 hxb hib
              go_upto_region 21 with fail
              have hbw : Below wr.heap.size wr wr.drew := ⟨rfl, rfl, rfl, Nat.le_refl _, fun _ _ => rfl⟩
              have H2d : Hid (RbAt wr.drew g kv (a.came line now) ∧ Fr w wr.drew (fun x => x = g) ∧ By wr.drew v l) := ⟨H2.out.1.below hbw, H2.out.2.1.trans (Fr.of_below hbw (fun _ => False)) fun x _ q => q.elim id False.elim, H2.out.2.2.below hbw⟩
              clear hbw H2
              obtain ⟨WN, hWN⟩ : ∃ X, X = a.win := ⟨_, rfl⟩
              have HWN : Hid (WN = a.win) := hWN
              have hXW : X + WN ≤ 9223372036854775807 := by rw [HX.out, hWN]; have := HA.out.1.bd.nx; have := HA.out.1.bd.w2; omega
              clear hWN
              obtain ⟨fb, hfb⟩ : ∃ fb, decide (R < X + WN) = fb := ⟨_, rfl⟩
              rename_i K hK
              refine wp_region_held (S := fun w' => w'.cell? ⟨g, 2, none⟩ = some (.int .i64 (X : Int)) ∧ w'.cell? ⟨g, 0, none⟩ = some (.int .i64 (WN : Int))) (by kernel_rfl) ?_
              change wpAnyH _ _ _ _ _ _ _ _ (World.drew _)
              generalize wr.drew = WD at *
              have hS : WD.cell? ⟨g, 2, none⟩ = some (.int .i64 (X : Int)) ∧ WD.cell? ⟨g, 0, none⟩ = some (.int .i64 (WN : Int)) := ⟨by rw [HX.out]; exact H2d.out.1.blk.cell 2, by rw [HWN.out]; exact H2d.out.1.blk.cell 0⟩
              refine takeR (i := 0) (v := .int .i64 (R : Int)) (some 142) rfl rfl (by kernel_rfl) (by kernel_rfl) (by kernel_rfl) (fun _ _ _ h => h) (Or.inl ⟨by kernel_rfl, fun w' hSw => by kernel_rfl⟩) hS ?_
              simp only [Act.put, List.setIfInBounds_toArray, List.set_cons_zero, List.set_cons_succ]
              refine takeR (i := 1) (v := .pointer (some ⟨g, 0, none⟩)) (some 143) rfl rfl (by kernel_rfl) (by kernel_rfl) (by kernel_rfl) (fun _ _ _ h => h) (Or.inl ⟨by kernel_rfl, fun w' hSw => by kernel_rfl⟩) hS ?_
              simp only [Act.put, List.setIfInBounds_toArray, List.set_cons_zero, List.set_cons_succ]
              refine takeR (i := 2) (v := .pointer (some ⟨g, 0, none⟩)) (some 144) rfl rfl (by kernel_rfl) (by kernel_rfl) (by kernel_rfl) (fun _ _ _ h => h) (Or.inl ⟨by kernel_rfl, fun w' hSw => by kernel_rfl⟩) hS ?_
              simp only [Act.put, List.setIfInBounds_toArray, List.set_cons_zero, List.set_cons_succ]
              refine takeR (i := 3) (v := .pointer (some ⟨g, 2, none⟩)) (some 145) rfl rfl (by kernel_rfl) (by kernel_rfl) (by kernel_rfl) (fun _ _ _ h => h) (Or.inl ⟨by kernel_rfl, fun w' hSw => by kernel_rfl⟩) hS ?_
              simp only [Act.put, List.setIfInBounds_toArray, List.set_cons_zero, List.set_cons_succ]
              refine takeR (i := 4) (v := .int .i64 (X : Int)) (some 146) rfl rfl (by kernel_rfl) (by kernel_rfl) (by kernel_rfl) (fun _ _ _ h => h) (Or.inl ⟨by kernel_rfl, fun w' hSw => by exact ldN_run (.inr rfl) (.tmp 145) rfl (by kernel_rfl) (hSw.1)⟩) hS ?_
              simp only [Act.put, List.setIfInBounds_toArray, List.set_cons_zero, List.set_cons_succ]
              refine takeR (i := 5) (v := .pointer (some ⟨g, 0, none⟩)) (some 147) rfl rfl (by kernel_rfl) (by kernel_rfl) (by kernel_rfl) (fun _ _ _ h => h) (Or.inl ⟨by kernel_rfl, fun w' hSw => by kernel_rfl⟩) hS ?_
              simp only [Act.put, List.setIfInBounds_toArray, List.set_cons_zero, List.set_cons_succ]
              refine takeR (i := 6) (v := .pointer (some ⟨g, 0, none⟩)) (some 148) rfl rfl (by kernel_rfl) (by kernel_rfl) (by kernel_rfl) (fun _ _ _ h => h) (Or.inl ⟨by kernel_rfl, fun w' hSw => by kernel_rfl⟩) hS ?_
              simp only [Act.put, List.setIfInBounds_toArray, List.set_cons_zero, List.set_cons_succ]
              refine takeR (i := 7) (v := .pointer (some ⟨g, 0, none⟩)) (some 149) rfl rfl (by kernel_rfl) (by kernel_rfl) (by kernel_rfl) (fun _ _ _ h => h) (Or.inl ⟨by kernel_rfl, fun w' hSw => by kernel_rfl⟩) hS ?_
              simp only [Act.put, List.setIfInBounds_toArray, List.set_cons_zero, List.set_cons_succ]
              refine takeR (i := 8) (v := .int .i64 (WN : Int)) (some 150) rfl rfl (by kernel_rfl) (by kernel_rfl) (by kernel_rfl) (fun _ _ _ h => h) (Or.inl ⟨by kernel_rfl, fun w' hSw => by exact ldN_run (.inr rfl) (.tmp 149) rfl (by kernel_rfl) (hSw.2)⟩) hS ?_
              simp only [Act.put, List.setIfInBounds_toArray, List.set_cons_zero, List.set_cons_succ]
              refine takeR (i := 9) (v := .int .i64 ((X + WN : Nat) : Int)) (some 151) rfl rfl (by kernel_rfl) (by kernel_rfl) (by kernel_rfl) (fun _ _ _ h => h) (Or.inl ⟨by kernel_rfl, fun w' hSw => by exact addN_run (p := X) (q := WN) (.tmp 146) (.tmp 150) rfl (by kernel_rfl) (by kernel_rfl) hXW _⟩) hS ?_
              simp only [Act.put, List.setIfInBounds_toArray, List.set_cons_zero, List.set_cons_succ]
              refine takeR (i := 10) (v := .bool fb) (some 152) rfl rfl (by kernel_rfl) (by kernel_rfl) (by kernel_rfl) (fun _ _ _ h => h) (Or.inl ⟨by kernel_rfl, fun w' hSw => by exact ltN_run (n := R) (k := X + WN) (.tmp 142) (.tmp 151) rfl (by kernel_rfl) (by kernel_rfl) hfb _⟩) hS ?_
              simp only [Act.put, List.setIfInBounds_toArray, List.set_cons_zero, List.set_cons_succ]
              refine takeR (i := 11) (v := .bool fb) (some 141) rfl rfl (by kernel_rfl) (by kernel_rfl) (by kernel_rfl) (fun _ _ _ h => h) (Or.inl ⟨by kernel_rfl, fun w' hSw => by kernel_rfl⟩) hS ?_
              simp only [Act.put, List.setIfInBounds_toArray, List.set_cons_zero, List.set_cons_succ]
              refine wpAnyH_done (by kernel_rfl) ?_ _
              refine hK _ _ ?_
              clear hK hS hXW
              have HFB : Hid (decide (R < a.nx + a.win) = fb) := by rw [← HX.out, ← HWN.out]; exact hfb
              clear hfb HWN
              generalize ((X + WN : Nat) : Int) = xw
              generalize (WN : Int) = wn
              cases fb
              case false =>
                have hfar : a.nx + a.win ≤ R := by have := HFB.out; simp at this; omega
                have HZ : Hid (∃ kv' out a', RkO w WD g kv kv' (.slice none 0 0) out a' ∧ RHd a line now l w.heap.size out a' 0) := ⟨kv, [], _, RkO.nil H2d.out.1 (fun q hq => .inl hq) H2d.out.2.1, by unfold RHd; rw [HN.out]; exact ⟨rfl, .inr (.inl ⟨HHR.out, hfar, rfl, rfl⟩)⟩⟩
                clear H2d HA
                go_wp2
                go_ret2
                exact ⟨_, _, rfl, HZ.out⟩
              case true =>
                have HNR : Hid (R < a.nx + a.win) := by have := HFB.out; simp at this; exact this
                clear HFB
                go_upto_region 22 with fail
                have hbw : Below WD.heap.size WD WD.drew := ⟨rfl, rfl, rfl, Nat.le_refl _, fun _ _ => rfl⟩
                have H2dd : Hid (RbAt WD.drew g kv (a.came line now) ∧ Fr w WD.drew (fun x => x = g) ∧ By WD.drew v l) := ⟨H2d.out.1.below hbw, H2d.out.2.1.trans (Fr.of_below hbw (fun _ => False)) fun x _ q => q.elim id False.elim, H2d.out.2.2.below hbw⟩
                clear hbw H2d
                obtain ⟨z, hz⟩ : ∃ z, z = (a.came line now).cn (4 * line + 1) := ⟨_, rfl⟩
                obtain ⟨oc, hoc⟩ : ∃ oc, oc = o6 + 1 := ⟨_, rfl⟩
                rename_i K hK
                refine wp_region_late (fun w' => w'.cell? ⟨g, oc, none⟩ = some (.int .i64 (z : Int))) 7 (by kernel_rfl) ?_
                intro hCl
                generalize WD.drew = Z at *
                change wpAnyL _ _ _ _ _ _ 8 _ _ _
                have hS : Z.cell? ⟨g, oc, none⟩ = some (.int .i64 (z : Int)) := by rw [hoc, HO6.out, hz]; exact RbAt.cell_cn H2dd.out.1 HLN.out (by decide)
                have hF : Z.frozen? ⟨g, oc, none⟩ = false := H2dd.out.1.blk.frozen oc
                have hzb : z + 1 ≤ 1000000000000 := by rw [hz]; have := HA.out.2.2.2.2 (4 * line + 1); have := (bmp_le a.cn (4 * line) (4 * line + 1)).2; show bmp a.cn (4 * line) (4 * line + 1) + 1 ≤ _; omega
                refine takeL (i := 0) (v := .pointer (some ⟨g, o6, none⟩)) 7 (some 153) rfl rfl (by kernel_rfl) (by kernel_rfl) (by kernel_rfl) (by kernel_rfl) hCl (fun _ _ _ h => h) (Or.inl ⟨by kernel_rfl, fun w' hSw => by kernel_rfl⟩) hS ?_
                clear hCl
                intro hCl
                simp only [Act.put, List.setIfInBounds_toArray, List.set_cons_zero, List.set_cons_succ]
                refine takeL (i := 1) (v := .pointer (some ⟨g, o6, none⟩)) 7 (some 154) rfl rfl (by kernel_rfl) (by kernel_rfl) (by kernel_rfl) (by kernel_rfl) hCl (fun _ _ _ h => h) (Or.inl ⟨by kernel_rfl, fun w' hSw => by kernel_rfl⟩) hS ?_
                clear hCl
                intro hCl
                simp only [Act.put, List.setIfInBounds_toArray, List.set_cons_zero, List.set_cons_succ]
                refine takeL (i := 2) (v := .pointer (some ⟨g, oc, none⟩)) 7 (some 155) rfl rfl (by kernel_rfl) (by kernel_rfl) (by kernel_rfl) (by kernel_rfl) hCl (fun _ _ _ h => h) (Or.inl ⟨by kernel_rfl, fun w' hSw => by rw [hoc]; kernel_rfl⟩) hS ?_
                clear hCl
                intro hCl
                simp only [Act.put, List.setIfInBounds_toArray, List.set_cons_zero, List.set_cons_succ]
                refine takeL (i := 3) (v := .int .i64 (z : Int)) 7 (some 156) rfl rfl (by kernel_rfl) (by kernel_rfl) (by kernel_rfl) (by kernel_rfl) hCl (fun _ _ _ h => h) (Or.inl ⟨by kernel_rfl, fun w' hSw => by exact ldN_run (.inr rfl) (.tmp 155) rfl (by kernel_rfl) hSw⟩) hS ?_
                clear hCl
                intro hCl
                simp only [Act.put, List.setIfInBounds_toArray, List.set_cons_zero, List.set_cons_succ]
                refine takeL (i := 4) (v := .int .i64 ((z + 1 : Nat) : Int)) 7 (some 157) rfl rfl (by kernel_rfl) (by kernel_rfl) (by kernel_rfl) (by kernel_rfl) hCl (fun _ _ _ h => h) (Or.inl ⟨by kernel_rfl, fun w' hSw => by exact addN_run (p := z) (q := 1) (.tmp 156) (.const (.int .i64 1)) rfl (by kernel_rfl) rfl (by omega) _⟩) hS ?_
                clear hCl
                intro hCl
                simp only [Act.put, List.setIfInBounds_toArray, List.set_cons_zero, List.set_cons_succ]
                refine takeL (i := 5) (v := .pointer (some ⟨g, o6, none⟩)) 7 (some 158) rfl rfl (by kernel_rfl) (by kernel_rfl) (by kernel_rfl) (by kernel_rfl) hCl (fun _ _ _ h => h) (Or.inl ⟨by kernel_rfl, fun w' hSw => by kernel_rfl⟩) hS ?_
                clear hCl
                intro hCl
                simp only [Act.put, List.setIfInBounds_toArray, List.set_cons_zero, List.set_cons_succ]
                refine takeL (i := 6) (v := .pointer (some ⟨g, oc, none⟩)) 7 (some 159) rfl rfl (by kernel_rfl) (by kernel_rfl) (by kernel_rfl) (by kernel_rfl) hCl (fun _ _ _ h => h) (Or.inl ⟨by kernel_rfl, fun w' hSw => by rw [hoc]; kernel_rfl⟩) hS ?_
                clear hCl
                intro hCl
                simp only [Act.put, List.setIfInBounds_toArray, List.set_cons_zero, List.set_cons_succ]
                refine oneL (i := 7) rfl (by kernel_rfl) hCl (by kernel_rfl) (fun K1 hK1 => ?_)
                refine skipR (d := none) rfl (w' := Z.setCell ⟨g, oc, none⟩ (.int .i64 ((z + 1 : Nat) : Int))) (stN_run (.inr rfl) (.tmp 159) (.tmp 157) rfl (by kernel_rfl) (by kernel_rfl) hS hF) ?_
                refine hK1.out _ _ (fun h => absurd rfl h) ?_
                clear hK1 hCl hS hF
                intro hCl
                simp only [Act.put, List.setIfInBounds_toArray, List.set_cons_zero, List.set_cons_succ]
                refine doneL (by kernel_rfl) ?_
                clear hCl
                refine hK _ _ ?_
                clear hK
                have H3 : Hid (RbAt (Z.setCell ⟨g, oc, none⟩ (.int .i64 ((z + 1 : Nat) : Int))) g kv ((a.came line now).cnt (4 * line + 1)) ∧ Fr w (Z.setCell ⟨g, oc, none⟩ (.int .i64 ((z + 1 : Nat) : Int))) (fun x => x = g) ∧ By (Z.setCell ⟨g, oc, none⟩ (.int .i64 ((z + 1 : Nat) : Int))) v l) := by
                  have hf := Fr.setCell Z ⟨g, oc, none⟩ (.int .i64 ((z + 1 : Nat) : Int)) (fun x => x = g) rfl
                  have hab := H2dd.out.1.bump (line := line) (c := 1) HLN.out (by decide) (by rw [← hz]; omega)
                  rw [← hz, ← HO6.out, ← hoc] at hab
                  exact ⟨hab, H2dd.out.2.1.trans hf fun x _ q => q.elim id id, H2dd.out.2.2.frR hf H2dd.out.1⟩
                generalize Z.setCell ⟨g, oc, none⟩ (.int .i64 ((z + 1 : Nat) : Int)) = W3 at *
                generalize z = z22 at *
                clear H2dd hz hoc hzb
                have c3 : W3.cell? ⟨g, 3, none⟩ = some kv := H3.out.1.blk.cell 3
                have hcc : i ≤ c := by
                  obtain ⟨_, cc, e1, e2⟩ := H3.out.1.row.form
                  rw [hkv] at e1
                  injection e1 with _ e3 e4
                  have := HPL.out.le
                  have e5 : (a.ks.length) ≤ cc := e2
                  omega
                obtain ⟨s1, hs1⟩ : ∃ s1, s1 = cutS kv 0 i c := ⟨_, rfl⟩
                obtain ⟨v4, W4, hap, hI4⟩ := (INS.start W3).app (rs := a.ks.take i) (sv := s1) (by
                  have h1 := (H3.out.1.row.cutH2 (hi := i) (by rw [hkv, HNL.out]; rfl) HPL.out.le).1
                  rw [kV_take] at h1
                  have e : (a.ks.take i).length = i := by rw [List.length_take]; have := HPL.out.le; omega
                  rw [hs1, e]
                  exact h1) (fun q hq => (H3.out.1.pk q (List.mem_of_mem_take hq)).one) (by have := HKL.out; rw [List.length_take]; simp; omega) 83
                have HI4 : Hid (INS W3 W4 v4 (a.ks.take i)) := hI4
                clear hI4
                go_upto_region 23 with fail
                rename_i K hK
                refine wp_region_lit ?_
                refine wpList_runTo rfl (some 14) rfl (.slice none 0 0) W3 (by kernel_rfl) ?_
                simp only [Act.put, List.setIfInBounds_toArray, List.set_cons_zero, List.set_cons_succ]
                refine wpList_nil ?_
                refine hK _ _ ?_
                clear hK
                go_upto_region 24 with fail
                rename_i K hK
                refine wp_region_lit ?_
                refine wpList_runTo rfl (some 160) rfl (.slice none 0 0) W3 (by kernel_rfl) ?_
                simp only [Act.put, List.setIfInBounds_toArray, List.set_cons_zero, List.set_cons_succ]
                refine wpList_runTo rfl (some 161) rfl (.pointer (some ⟨g, 0, none⟩)) W3 (by kernel_rfl) ?_
                simp only [Act.put, List.setIfInBounds_toArray, List.set_cons_zero, List.set_cons_succ]
                refine wpList_runTo rfl (some 162) rfl (.pointer (some ⟨g, 0, none⟩)) W3 (by kernel_rfl) ?_
                simp only [Act.put, List.setIfInBounds_toArray, List.set_cons_zero, List.set_cons_succ]
                refine wpList_runTo rfl (some 163) rfl (.pointer (some ⟨g, 3, none⟩)) W3 (by kernel_rfl) ?_
                simp only [Act.put, List.setIfInBounds_toArray, List.set_cons_zero, List.set_cons_succ]
                refine wpList_runTo rfl (some 164) rfl (kv) W3 (by exact ldK_run (.tmp 163) rfl (by kernel_rfl) (c3)) ?_
                simp only [Act.put, List.setIfInBounds_toArray, List.set_cons_zero, List.set_cons_succ]
                refine wpList_runTo rfl (some 165) rfl (.int .i64 (i : Int)) W3 (by kernel_rfl) ?_
                simp only [Act.put, List.setIfInBounds_toArray, List.set_cons_zero, List.set_cons_succ]
                refine wpList_runTo rfl (some 166) rfl (s1) W3 (by rw [hs1]; exact sliceKH_run hkv (.tmp 164) (.tmp 165) rfl (by kernel_rfl) (by kernel_rfl) hcc _) ?_
                simp only [Act.put, List.setIfInBounds_toArray, List.set_cons_zero, List.set_cons_succ]
                refine wpList_runTo rfl (some 167) rfl (v4) W4 (by exact exec_append (v1 := .slice none 0 0) (v2 := s1) (.tmp 160) (.tmp 166) rfl (by kernel_rfl) (by kernel_rfl) hap) ?_
                simp only [Act.put, List.setIfInBounds_toArray, List.set_cons_zero, List.set_cons_succ]
                refine wpList_runTo rfl (some 14) rfl (v4) W4 (by kernel_rfl) ?_
                simp only [Act.put, List.setIfInBounds_toArray, List.set_cons_zero, List.set_cons_succ]
                refine wpList_nil ?_
                refine hK _ _ ?_
                clear hK
                clear hap hs1 c3 hcc
                have hcp := copied_any (H3.out.2.2.below HI4.out.bel) HA.out.2.2.1
                go_upto_region 25 with fail
                rename_i K hK
                refine wp_region_lit ?_
                refine wpList_runTo rfl (some 168) rfl (v4) W4 (by kernel_rfl) ?_
                simp only [Act.put, List.setIfInBounds_toArray, List.set_cons_zero, List.set_cons_succ]
                refine wpList_runTo rfl (some 169) rfl (.int .i64 (R : Int)) W4 (by kernel_rfl) ?_
                simp only [Act.put, List.setIfInBounds_toArray, List.set_cons_zero, List.set_cons_succ]
                refine wpList_runTo rfl (some 170) rfl (v) W4 (by kernel_rfl) ?_
                simp only [Act.put, List.setIfInBounds_toArray, List.set_cons_zero, List.set_cons_succ]
                refine wpList_callW rfl (some 171) rfl 49 #[v] (by kernel_rfl) hcp ?_
                clear hcp
                rintro e W5 ⟨v5, rfl, hx⟩
                refine ⟨_, rfl, ?_⟩
                simp only [Act.put, List.setIfInBounds_toArray, List.set_cons_zero, List.set_cons_succ]
                have hvf : ∃ a n c, v5 = .slice a n c := by
                  obtain ⟨ao, c, e, _⟩ := hx.out.row.form
                  exact ⟨ao, _, c, e⟩
                have hal : Below W5.heap.size W5 (W5.alloc (.cells #[.int .i64 (R : Int), v5] 101)) := (Below.refl _ W5).alloc (Nat.le_refl _) _
                have hI6 := (HI4.out.below hx.out.bel).below hal
                obtain ⟨v7, W7, hap, hI7⟩ := hI6.app (rs := [⟨R, v5, l⟩]) row1K (fun q hq => by
                  have e : q = ⟨R, v5, l⟩ := by simpa using hq
                  subst e
                  obtain ⟨_, _, _, rfl⟩ := hvf
                  rfl) (by have := HKL.out; rw [List.length_take]; simp; omega) 83
                have HI7 : Hid (INS W3 W7 v7 (a.ks.take i ++ [⟨R, v5, l⟩])) := hI7
                have HK7 : Hid (PkAt W7 ⟨R, v5, l⟩ ∧ ∀ q, v5.ownBlock = some q → w.heap.size ≤ q) := by
                  have hlw : ∀ q, v5.ownBlock = some q → W4.heap.size ≤ q := hx.out.low
                  have h34 := HI4.out.bel.size
                  have h03 := H3.out.2.1.size
                  obtain ⟨v7', W7', k1, k2, k3, k4⟩ := appK_run hI6.row row1K (qs := [⟨R, v5, l⟩]) (fun q hq => by
                    have e : q = ⟨R, v5, l⟩ := by simpa using hq
                    subst e
                    obtain ⟨_, _, _, rfl⟩ := hvf
                    rfl) (by have := HKL.out; rw [List.length_take]; simp; omega) 83
                  rw [hap] at k1
                  injection k1 with e1 e2
                  subst e1 e2
                  have hp6 : PkAt (W5.alloc (.cells #[.int .i64 (R : Int), v5] 101)) ⟨R, v5, l⟩ := by
                    refine PkAt.fr (w := W5) ⟨hx.out.row, hx.out.bb, fun e => ?_⟩ (Fr.of_below hal (fun _ => False)) fun _ _ => id
                    have h9 := HM9.out.1
                    have e' : l = [] := e
                    rw [e'] at h9
                    simp at h9
                  refine ⟨hp6.fr k3 fun q hq e => ?_, fun q hq => by have := hlw q hq; omega⟩
                  obtain ⟨_, cur, hc⟩ := hp6.1.lt hq
                  exact hI6.row.ne_type hc (by decide) e
                clear hI6 hI7 hal hx
                refine wpList_runTo rfl (some 172) rfl (.agg #[.int .i64 (R : Int), v5]) W5 (by exact buildP_run hvf (.tmp 169) (.tmp 171) rfl (by kernel_rfl) (by kernel_rfl) _) ?_
                simp only [Act.put, List.setIfInBounds_toArray, List.set_cons_zero, List.set_cons_succ]
                refine wpList_runTo rfl (some 173) rfl (.slice (some ⟨W5.heap.size, 0, none⟩) 1 1) (W5.alloc (.cells #[.int .i64 (R : Int), v5] 101)) (by exact buildK1_run hvf (.tmp 172) rfl (by kernel_rfl) _) ?_
                simp only [Act.put, List.setIfInBounds_toArray, List.set_cons_zero, List.set_cons_succ]
                refine wpList_runTo rfl (some 174) rfl (v7) W7 (by exact exec_append (v1 := v4) (v2 := .slice (some ⟨W5.heap.size, 0, none⟩) 1 1) (.tmp 168) (.tmp 173) rfl (by kernel_rfl) (by kernel_rfl) hap) ?_
                simp only [Act.put, List.setIfInBounds_toArray, List.set_cons_zero, List.set_cons_succ]
                refine wpList_runTo rfl (some 14) rfl (v7) W7 (by kernel_rfl) ?_
                simp only [Act.put, List.setIfInBounds_toArray, List.set_cons_zero, List.set_cons_succ]
                refine wpList_nil ?_
                refine hK _ _ ?_
                clear hK
                generalize (Value.slice (some ⟨W5.heap.size, 0, none⟩) 1 1) = s173
                clear hap hvf
                have c3 : W7.cell? ⟨g, 3, none⟩ = some kv := (H3.out.1.below HI7.out.bel).blk.cell 3
                have f3 : ∀ W, Below W3.heap.size W3 W → W.cell? ⟨g, 3, none⟩ = some kv ∧ W.frozen? ⟨g, 3, none⟩ = false := fun W hW => ⟨(H3.out.1.below hW).blk.cell 3, (H3.out.1.below hW).blk.frozen 3⟩
                obtain ⟨s2, hs2⟩ : ∃ s2, s2 = cutS kv i n c := ⟨_, rfl⟩
                obtain ⟨v8, W8, hap, hI8⟩ := HI7.out.app (rs := a.ks.drop i) (sv := s2) (by
                  have h1 := ((H3.out.1.below HI7.out.bel).row.cutL2 (lo := i) (by rw [hkv, HNL.out]; rfl) HPL.out.le).1
                  rw [kV_drop] at h1
                  rw [hs2, HNL.out, List.length_drop]
                  exact h1) (fun q hq => (H3.out.1.pk q (List.mem_of_mem_drop hq)).one) (by have := HKL.out; rw [List.length_append, List.length_take, List.length_drop]; simp; omega) 83
                have HI8 : Hid (INS W3 W8 v8 (insK a.ks i ⟨R, v5, l⟩)) := hI8
                have hv8 : ∃ a n c, v8 = .slice a n c := by
                  obtain ⟨ao, c, e, _⟩ := hI8.row.form
                  exact ⟨ao, _, c, e⟩
                have HK8 : Hid (PkAt W8 ⟨R, v5, l⟩) := by
                  obtain ⟨v8', W8', k1, k2, k3, k4⟩ := appK_run HI7.out.row (sv := s2) (qs := a.ks.drop i) (by
                    have h1 := ((H3.out.1.below HI7.out.bel).row.cutL2 (lo := i) (by rw [hkv, HNL.out]; rfl) HPL.out.le).1
                    rw [kV_drop] at h1
                    rw [hs2, HNL.out, List.length_drop]
                    exact h1) (fun q hq => (H3.out.1.pk q (List.mem_of_mem_drop hq)).one) (by have := HKL.out; rw [List.length_append, List.length_take, List.length_drop]; simp; omega) 83
                  rw [hap] at k1
                  injection k1 with e1 e2
                  subst e1 e2
                  refine HK7.out.1.fr k3 fun q hq e => ?_
                  obtain ⟨_, cur, hc⟩ := HK7.out.1.1.lt hq
                  exact HI7.out.row.ne_type hc (by decide) e
                obtain ⟨c8, f8⟩ := f3 W8 hI8.bel
                have hin : i ≤ n := by rw [HNL.out]; exact HPL.out.le
                clear hI8 f3
                have H9 : Hid (RbAt (W8.setCell ⟨g, 3, none⟩ v8) g v8 { (a.came line now).cnt (4 * line + 1) with ks := insK a.ks i ⟨R, v5, l⟩ } ∧ Fr w (W8.setCell ⟨g, 3, none⟩ v8) (fun x => x = g) ∧ ∀ q, v8.ownBlock = some q → w.heap.size ≤ q) := by
                  have h1 := H3.out.1.ins (k := ⟨R, v5, l⟩) HI8.out HK8.out HM9.out.2.2 (by
                    show a.ks.length + 1 ≤ bmp (bmp a.cn (4 * line)) (4 * line + 1) 1 + bmp (bmp a.cn (4 * line)) (4 * line + 1) 5
                    have h1 := HA.out.1.bd.len
                    have h2 := (bmp_le a.cn (4 * line) 1).1
                    have h3 := (bmp_le a.cn (4 * line) 5).1
                    have hl2 := HLN.out
                    by_cases hz : line = 0
                    · subst hz
                      have e := (bmp_le (bmp a.cn (4 * 0)) (4 * 0 + 1) 5).1
                      have e2 : bmp (bmp a.cn (4 * 0)) (4 * 0 + 1) 1 = bmp a.cn (4 * 0) 1 + 1 := rfl
                      omega
                    · obtain rfl : line = 1 := by omega
                      have e := (bmp_le (bmp a.cn (4 * 1)) (4 * 1 + 1) 1).1
                      have e2 : bmp (bmp a.cn (4 * 1)) (4 * 1 + 1) 5 = bmp a.cn (4 * 1) 5 + 1 := rfl
                      omega) HPL.out HHI.out
                  have hf := Fr.setCell W8 ⟨g, 3, none⟩ v8 (fun x => x = g) rfl
                  refine ⟨h1, (H3.out.2.1.trans (Fr.of_below HI8.out.bel (fun _ => False)) fun x _ q => q.elim id False.elim).trans hf fun x _ q => q.elim id id, fun q hq => ?_⟩
                  have := HI8.out.low q hq
                  have := H3.out.2.1.size
                  omega
                go_upto_region 26 with fail
                rename_i K hK
                refine wp_region_lit ?_
                refine wpList_runTo rfl (some 175) rfl (.pointer (some ⟨g, 0, none⟩)) W7 (by kernel_rfl) ?_
                simp only [Act.put, List.setIfInBounds_toArray, List.set_cons_zero, List.set_cons_succ]
                refine wpList_runTo rfl (some 176) rfl (v7) W7 (by kernel_rfl) ?_
                simp only [Act.put, List.setIfInBounds_toArray, List.set_cons_zero, List.set_cons_succ]
                refine wpList_runTo rfl (some 177) rfl (.pointer (some ⟨g, 0, none⟩)) W7 (by kernel_rfl) ?_
                simp only [Act.put, List.setIfInBounds_toArray, List.set_cons_zero, List.set_cons_succ]
                refine wpList_runTo rfl (some 178) rfl (.pointer (some ⟨g, 0, none⟩)) W7 (by kernel_rfl) ?_
                simp only [Act.put, List.setIfInBounds_toArray, List.set_cons_zero, List.set_cons_succ]
                refine wpList_runTo rfl (some 179) rfl (.pointer (some ⟨g, 3, none⟩)) W7 (by kernel_rfl) ?_
                simp only [Act.put, List.setIfInBounds_toArray, List.set_cons_zero, List.set_cons_succ]
                refine wpList_runTo rfl (some 180) rfl (kv) W7 (by exact ldK_run (.tmp 179) rfl (by kernel_rfl) (c3)) ?_
                simp only [Act.put, List.setIfInBounds_toArray, List.set_cons_zero, List.set_cons_succ]
                refine wpList_runTo rfl (some 181) rfl (.int .i64 (i : Int)) W7 (by kernel_rfl) ?_
                simp only [Act.put, List.setIfInBounds_toArray, List.set_cons_zero, List.set_cons_succ]
                refine wpList_runTo rfl (some 182) rfl (s2) W7 (by rw [hs2]; exact sliceKLv_run hkv (.tmp 180) (.tmp 181) rfl (by kernel_rfl) (by kernel_rfl) hin _) ?_
                simp only [Act.put, List.setIfInBounds_toArray, List.set_cons_zero, List.set_cons_succ]
                refine wpList_runTo rfl (some 183) rfl (v8) W8 (by exact exec_append (v1 := v7) (v2 := s2) (.tmp 176) (.tmp 182) rfl (by kernel_rfl) (by kernel_rfl) hap) ?_
                simp only [Act.put, List.setIfInBounds_toArray, List.set_cons_zero, List.set_cons_succ]
                refine wpList_runTo rfl (some 184) rfl (.pointer (some ⟨g, 0, none⟩)) W8 (by kernel_rfl) ?_
                simp only [Act.put, List.setIfInBounds_toArray, List.set_cons_zero, List.set_cons_succ]
                refine wpList_runTo rfl (some 185) rfl (.pointer (some ⟨g, 3, none⟩)) W8 (by kernel_rfl) ?_
                simp only [Act.put, List.setIfInBounds_toArray, List.set_cons_zero, List.set_cons_succ]
                refine wpList_skipW rfl none rfl (w' := W8.setCell ⟨g, 3, none⟩ v8) (stK_run hv8 ⟨_, _, _, hkv⟩ (.tmp 185) (.tmp 183) rfl (by kernel_rfl) (by kernel_rfl) c8 f8) ?_
                simp only [Act.put, List.setIfInBounds_toArray, List.set_cons_zero, List.set_cons_succ]
                refine wpList_nil ?_
                refine hK _ _ ?_
                clear hK
                generalize W8.setCell ⟨g, 3, none⟩ v8 = W9 at *
                clear hap hs2 c3 c8 f8 hin H3 HI4 HI7 HI8 HK8
                have c3 : W9.cell? ⟨g, 3, none⟩ = some v8 := H9.out.1.blk.cell 3
                obtain ⟨ob, hob⟩ : ∃ ob, (n + 1 == 1) = ob := ⟨_, rfl⟩
                obtain ⟨a8, c8, hv8f⟩ : ∃ ao c, v8 = .slice ao (n + 1) c := by
                  obtain ⟨ao, c, e, _⟩ := H9.out.1.row.form
                  have e2 : (insK a.ks i ⟨R, v5, l⟩).length = n + 1 := by rw [insK_len, HNL.out]
                  exact ⟨ao, c, by rw [← e2]; exact e⟩
                go_upto_region 27 with fail
                rename_i K hK
                refine wp_region_lit ?_
                refine wpList_runTo rfl (some 186) rfl (.pointer (some ⟨g, 0, none⟩)) W9 (by kernel_rfl) ?_
                simp only [Act.put, List.setIfInBounds_toArray, List.set_cons_zero, List.set_cons_succ]
                refine wpList_runTo rfl (some 187) rfl (.pointer (some ⟨g, 0, none⟩)) W9 (by kernel_rfl) ?_
                simp only [Act.put, List.setIfInBounds_toArray, List.set_cons_zero, List.set_cons_succ]
                refine wpList_runTo rfl (some 188) rfl (.pointer (some ⟨g, 3, none⟩)) W9 (by kernel_rfl) ?_
                simp only [Act.put, List.setIfInBounds_toArray, List.set_cons_zero, List.set_cons_succ]
                refine wpList_runTo rfl (some 189) rfl (v8) W9 (by exact ldK_run (.tmp 188) rfl (by kernel_rfl) (c3)) ?_
                simp only [Act.put, List.setIfInBounds_toArray, List.set_cons_zero, List.set_cons_succ]
                refine wpList_runTo rfl (some 190) rfl (.int .i64 ((n + 1 : Nat) : Int)) W9 (by exact lenK_run hv8f (.tmp 189) rfl (by kernel_rfl) _) ?_
                simp only [Act.put, List.setIfInBounds_toArray, List.set_cons_zero, List.set_cons_succ]
                refine wpList_runTo rfl (some 191) rfl (.bool ob) W9 (by exact eqN_run (p := n + 1) (q := 1) (.tmp 190) (.const (.int .i64 1)) rfl (by kernel_rfl) rfl hob _) ?_
                simp only [Act.put, List.setIfInBounds_toArray, List.set_cons_zero, List.set_cons_succ]
                refine wpList_nil ?_
                refine hK _ _ ?_
                clear hK
                clear c3 hv8f hv8
                generalize ((n + 1 : Nat) : Int) = n1
                cases ob
                case false =>
                  have HZ : Hid (∃ kv' out a', RkO w W9 g kv kv' (.slice none 0 0) out a' ∧ RHd a line now l w.heap.size out a' 0) := by
                    have hne : a.ks ≠ [] := fun e => by
                      have h1 := HNL.out
                      rw [e] at h1
                      rw [h1] at hob
                      simp at hob
                    refine ⟨v8, [], _, RkO.nil H9.out.1 (fun q hq => .inr (H9.out.2.2 q hq)) H9.out.2.1, ?_⟩
                    unfold RHd
                    rw [HN.out]
                    refine ⟨rfl, .inr (.inr ⟨HHR.out, HNR.out, ⟨R, v5, l⟩, rfl, rfl, HK7.out.2, .inr ⟨HNE.out, rfl, insK_perm _ _ _, ?_⟩⟩)⟩
                    show _ = ({ (a.came line now).cnt (4 * line + 1) with ks := insK a.ks i ⟨R, v5, l⟩, si := if a.ks = [] then _ else _ } : Ab)
                    rw [if_neg hne]
                  clear H9 HA hob
                  go_wp2
                  go_ret2
                  exact ⟨_, _, rfl, HZ.out⟩
                case true =>
                  have c5 : W9.cell? ⟨g, 5, none⟩ = some (.int .i64 MM) := by rw [HMM.out.1]; exact H9.out.1.blk.cell 5
                  have c4 : W9.cell? ⟨g, 4, none⟩ = some (.int .i64 a.si) := H9.out.1.blk.cell 4
                  have f4 : W9.frozen? ⟨g, 4, none⟩ = false := H9.out.1.blk.frozen 4
                  have HZ : Hid (∃ kv' out a', RkO w (W9.setCell ⟨g, 4, none⟩ (.int .i64 MM)) g kv kv' (.slice none 0 0) out a' ∧ RHd a line now l w.heap.size out a' 0) := by
                    have hnil : a.ks = [] := by
                      have h1 := HNL.out
                      have h2 : n = 0 := by simpa using hob
                      exact List.length_eq_zero_iff.1 (by omega)
                    have hbd := H9.out.1.bd
                    have h1 := H9.out.1.put { (a.came line now).cnt (4 * line + 1) with ks := insK a.ks i ⟨R, v5, l⟩, si := MM } 4 (.int .i64 MM) (by rfl) H9.out.1.row H9.out.1.pk ⟨hbd.w1, hbd.w2, hbd.p0, hbd.p1, hbd.nx, HMM.out.2.1, HMM.out.2.2, hbd.l0, hbd.l1, hbd.kn, hbd.cn, hbd.len⟩ H9.out.1.so
                    have hf := Fr.setCell W9 ⟨g, 4, none⟩ (.int .i64 MM) (fun x => x = g) rfl
                    refine ⟨v8, [], _, RkO.nil h1 (fun q hq => .inr (H9.out.2.2 q hq)) (H9.out.2.1.trans hf fun x _ q => q.elim id id), ?_⟩
                    unfold RHd
                    rw [HN.out]
                    refine ⟨rfl, .inr (.inr ⟨HHR.out, HNR.out, ⟨R, v5, l⟩, rfl, rfl, HK7.out.2, .inr ⟨HNE.out, rfl, insK_perm _ _ _, ?_⟩⟩)⟩
                    show _ = ({ (a.came line now).cnt (4 * line + 1) with ks := insK a.ks i ⟨R, v5, l⟩, si := if a.ks = [] then max a.la now else _ } : Ab)
                    rw [if_pos hnil, HMM.out.1]
                  go_upto_region 28 with fail
                  refine wp_region_lit ?_
                  refine wpList_runTo rfl (some 192) rfl (.pointer (some ⟨g, 0, none⟩)) W9 (by kernel_rfl) ?_
                  simp only [Act.put, List.setIfInBounds_toArray, List.set_cons_zero, List.set_cons_succ]
                  refine wpList_runTo rfl (some 193) rfl (.pointer (some ⟨g, 0, none⟩)) W9 (by kernel_rfl) ?_
                  simp only [Act.put, List.setIfInBounds_toArray, List.set_cons_zero, List.set_cons_succ]
                  refine wpList_runTo rfl (some 194) rfl (.pointer (some ⟨g, 0, none⟩)) W9 (by kernel_rfl) ?_
                  simp only [Act.put, List.setIfInBounds_toArray, List.set_cons_zero, List.set_cons_succ]
                  refine wpList_runTo rfl (some 195) rfl (.pointer (some ⟨g, 5, none⟩)) W9 (by kernel_rfl) ?_
                  simp only [Act.put, List.setIfInBounds_toArray, List.set_cons_zero, List.set_cons_succ]
                  refine wpList_runTo rfl (some 196) rfl (.int .i64 MM) W9 (by exact ldN_run (.inl rfl) (.tmp 195) rfl (by kernel_rfl) (c5)) ?_
                  simp only [Act.put, List.setIfInBounds_toArray, List.set_cons_zero, List.set_cons_succ]
                  refine wpList_runTo rfl (some 197) rfl (.pointer (some ⟨g, 0, none⟩)) W9 (by kernel_rfl) ?_
                  simp only [Act.put, List.setIfInBounds_toArray, List.set_cons_zero, List.set_cons_succ]
                  refine wpList_runTo rfl (some 198) rfl (.pointer (some ⟨g, 4, none⟩)) W9 (by kernel_rfl) ?_
                  simp only [Act.put, List.setIfInBounds_toArray, List.set_cons_zero, List.set_cons_succ]
                  refine wpList_skipW rfl none rfl (w' := W9.setCell ⟨g, 4, none⟩ (.int .i64 MM)) (stN_run (.inl rfl) (.tmp 198) (.tmp 196) rfl (by kernel_rfl) (by kernel_rfl) c4 f4) ?_
                  simp only [Act.put, List.setIfInBounds_toArray, List.set_cons_zero, List.set_cons_succ]
                  refine wpList_nil ?_
                  generalize W9.setCell ⟨g, 4, none⟩ (.int .i64 MM) = W10 at *
                  clear c5 c4 f4 H9 HA hob
                  go_wp2
                  go_ret2
                  exact ⟨_, _, rfl, HZ.out⟩
end Go.Proofs.Ytdncemecnbglaaa
