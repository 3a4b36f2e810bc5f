/-
  hears, walked.
-/
import Derived.Test.YtdncemecnbglaaaAXb
namespace Go.Proofs.Ytdncemecnbglaaa
set_option linter.unusedVariables false
set_option linter.unusedSimpArgs false
open Go.RowKit Go.Great Go.Maps

/-- What the desk's first bytes are, ahead of the call and behind it. -/
def C2 (l xs : List Nat) (bl i : Nat) : Prop := xs.length = bl + 8 ∧ BB xs ∧ (∀ j, j < bl → xs[j]? = l[j]?) ∧ ∀ j, bl ≤ j → j < i → xs[j]? = some 201
def C3 (l xs : List Nat) (bl i : Nat) : Prop := xs.length = bl + 8 ∧ (∀ j, i ≤ j → j < bl → xs[j]? = l[j]?) ∧ ∀ j, i ≤ j → bl ≤ j → j < bl + 8 → xs[j]? = some 201
theorem C2.set {l xs : List Nat} {bl i : Nat} (h : C2 l xs bl i) (hi : bl ≤ i) (hl : i < bl + 8) : C2 l (xs.set i 201) bl (i + 1) := by
  obtain ⟨h1, h2, h3, h4⟩ := h
  refine ⟨by rw [List.length_set]; exact h1, fun x hx => ?_, fun j hj => by rw [List.getElem?_set_ne (by omega)]; exact h3 j hj, fun j hj1 hj2 => ?_⟩
  · rcases List.mem_or_eq_of_mem_set hx with hx | rfl
    · exact h2 x hx
    · decide
  · by_cases e : i = j
    · subst e; rw [List.getElem?_set_self (by omega)]
    · rw [List.getElem?_set_ne e]; exact h4 j hj1 (by omega)
theorem C2.to3 {l xs : List Nat} {bl : Nat} (h : C2 l xs bl (bl + 8)) : C3 l xs bl 0 := ⟨h.1, fun j _ hj => h.2.2.1 j hj, fun j _ h1 h2 => h.2.2.2 j h1 h2⟩
theorem C3.set {l xs : List Nat} {bl i : Nat} (h : C3 l xs bl i) (y : Nat) : C3 l (xs.set i y) bl (i + 1) := by
  obtain ⟨h1, h3, h4⟩ := h
  exact ⟨by rw [List.length_set]; exact h1, fun j hj1 hj2 => by rw [List.getElem?_set_ne (by omega)]; exact h3 j (by omega) hj2, fun j hj1 hj2 hj3 => by rw [List.getElem?_set_ne (by omega)]; exact h4 j (by omega) hj2 hj3⟩
def opV (kd hh ln : Int) (v : Value) (now : Int) : Array Value := #[.int .i64 kd, .int .i64 hh, .int .i64 ln, v, .int .i64 now]
def deskM (p need : Nat) (w : World) : Nat := match w.cell? ⟨p, 7, none⟩ with
  | some (.slice _ n _) => need - n
  | _ => 0
set_option maxRecDepth 100000 in
set_option maxHeartbeats 4000000 in
theorem hears_any {s N B0 : Nat} {G : Gh} {w : World} {P : PR} (h : PrAt s G w P N) (hs : s < 400) (hN : N < 1000) (hB0 : B0 ≤ w.heap.size) (hG0 : ∀ q, G q ≠ (0, 0) → B0 ≤ q) (hO0 : ∀ q, P.own q → B0 ≤ q) (kd hh ln now : Int) {ba : Option Addr} {bl bc : Nat} {l : List Nat} (HB : ∀ W, Below B0 w W → By W (.slice ba bl bc) l) (hl : l.length ≤ 140737488351232) :
    Calls Try.prog 29 #[.pointer (some ⟨P.p, 0, none⟩), .agg (opV kd hh ln (.slice ba bl bc) now)] w fun e w' => e = .returned (.bool true) ∧ Hid (StepR s G w P (N + 1) w') := by
  have hbl : bl = l.length := by
    obtain ⟨a, c, e, _⟩ := (HB w (Below.refl _ _)).form
    injection e
  have hbl2 : bl ≤ 140737488351232 := by omega
  have HI : Hid (s < 400 ∧ N < 1000 ∧ B0 ≤ w.heap.size ∧ (∀ q, G q ≠ (0, 0) → B0 ≤ q) ∧ (∀ q, P.own q → B0 ≤ q) ∧ (∀ W, Below B0 w W → By W (.slice ba bl bc) l) ∧ bl = l.length) := ⟨hs, hN, hB0, hG0, hO0, HB, hbl⟩
  have H0 : Hid (HSt s N G w P w.heap.size (opV kd hh ln (.slice ba bl bc) now) G (w.alloc (.cells (opV kd hh ln (.slice ba bl bc) now) 56)) P.c.d P.dn) := by
    have hb : Below w.heap.size w (w.alloc (.cells (opV kd hh ln (.slice ba bl bc) now) 56)) := (Below.refl _ w).alloc (Nat.le_refl _) _
    exact ⟨h.below hb, (Stp.below (s := 1000 + s) h.gi hb).mono (fun _ _ e => e.elim) h.exT, Blk.new w _ _, Nat.le_refl _⟩
  clear h hs hN hB0 hG0 hO0 HB hbl hl
  go_enter Try.func29, Try.ntmps29
  go_upto_region 0 with fail
  rename_i K hK
  refine wp_region_lit ?_
  refine wpList_runTo rfl (some 3) rfl (.pointer (some ⟨w.heap.size, 0, none⟩)) (w.alloc (.cells (opV kd hh ln (.slice ba bl bc) now) 56)) (by kernel_rfl) ?_
  simp only [Act.put, List.setIfInBounds_toArray, List.set_cons_zero, List.set_cons_succ]
  refine wpList_runTo rfl (some 4) rfl (.bool false) (w.alloc (.cells (opV kd hh ln (.slice ba bl bc) now) 56)) (by kernel_rfl) ?_
  simp only [Act.put, List.setIfInBounds_toArray, List.set_cons_zero, List.set_cons_succ]
  refine wpList_nil ?_
  refine hK _ _ ?_
  clear hK
  have hbx : ∃ bx, bx = w.heap.size := ⟨_, rfl⟩
  obtain ⟨bx, hbx⟩ := hbx
  obtain ⟨OV, hOV⟩ : ∃ OV, OV = opV kd hh ln (.slice ba bl bc) now := ⟨_, rfl⟩
  obtain ⟨W0, hW0⟩ : ∃ W0, W0 = w.alloc (.cells (opV kd hh ln (.slice ba bl bc) now) 56) := ⟨_, rfl⟩
  rw [← hW0, ← hbx, ← hOV] at H0
  rw [← hW0, ← hbx]
  have HOV : Hid (OV = opV kd hh ln (.slice ba bl bc) now) := hOV
  clear hOV hW0
  have hpp : ∃ p, p = P.p := ⟨_, rfl⟩
  obtain ⟨p, hpp⟩ := hpp
  have HP : Hid (p = P.p) := hpp
  rw [← hpp]
  clear hpp hbx
  have hw8 : IntKind.i64.wrap ((bl : Int) + 8) = (bl : Int) + 8 := by rw [IntKind.wrap_i64]; omega
  have hw8' : wrap64 ((bl : Int) + 8) = (bl : Int) + 8 := by unfold wrap64; omega
  go_upto_region 1 with fail
  go_loopw [] (fun wr => ∃ (da : Option Addr) (dn dc : Nat), Hid (∃ G1, HSt s N G w P bx OV G1 wr (.slice da dn dc) dn)) (fun wr => deskM p (bl + 8) wr)
  case atStart =>
    obtain ⟨da, dc, e, _⟩ := H0.out.pr.dk.form
    have e2 : P.c.d = .slice da P.dn dc := e
    rw [e2] at H0
    exact ⟨da, P.dn, dc, G, H0.out⟩
  case round =>
    obtain ⟨da, dn, dc, HS⟩ := hrel
    clear H0
    have q7 : wr.cell? ⟨p, 7, none⟩ = some (.slice da dn dc) := by
      obtain ⟨G1, h1⟩ := HS.out
      rw [HP.out]; exact h1.pr.blk.cell 7
    have qo : Blk wr bx 56 OV := by
      obtain ⟨G1, h1⟩ := HS.out
      exact h1.bk
    rw [HOV.out] at qo
    have HS1 : Hid (∃ G1, HSt s N G w P bx OV G1 wr.drew (.slice da dn dc) dn) := by
      obtain ⟨G1, h1⟩ := HS.out
      exact ⟨G1, h1.below ⟨rfl, rfl, rfl, Nat.le_refl _, fun _ _ => rfl⟩⟩
    have hms : deskM p (bl + 8) wr = bl + 8 - dn := by unfold deskM; rw [q7]
    have HMS : Hid (deskM p (bl + 8) wr = bl + 8 - dn) := hms
    clear HS hms
    have qd7 : wr.drew.cell? ⟨p, 7, none⟩ = some (.slice da dn dc) := q7
    have qd3 : wr.drew.cell? ⟨bx, 3, none⟩ = some (.slice ba bl bc) := qo.cell 3
    clear q7 qo
    go_upto_region 1 with fail
    rename_i K hK
    refine wp_region_held (S := fun w' => w'.cell? ⟨p, 7, none⟩ = some (.slice da dn dc) ∧ w'.cell? ⟨bx, 3, none⟩ = some (.slice ba bl bc)) (by kernel_rfl) ?_
    change wpAnyH _ _ _ _ _ _ _ _ (World.drew _)
    have hS := And.intro qd7 qd3
    generalize wr.drew = Z at *
    obtain ⟨tb, htb⟩ : ∃ tb, tb = decide (dn < bl + 8) := ⟨_, rfl⟩
    refine takeR (i := 0) (v := .pointer (some ⟨p, 0, none⟩)) (some 13) rfl rfl (by kernel_rfl) (by kernel_rfl) (by kernel_rfl) (fun _ _ _ h => h) (Or.inl ⟨by kernel_rfl, fun w' hSw => by kernel_rfl⟩) hS ?_
    simp only [Act.put, List.setIfInBounds_toArray, List.set_cons_zero, List.set_cons_succ]
    refine takeR (i := 1) (v := .pointer (some ⟨p, 0, none⟩)) (some 14) rfl rfl (by kernel_rfl) (by kernel_rfl) (by kernel_rfl) (fun _ _ _ h => h) (Or.inl ⟨by kernel_rfl, fun w' hSw => by kernel_rfl⟩) hS ?_
    simp only [Act.put, List.setIfInBounds_toArray, List.set_cons_zero, List.set_cons_succ]
    refine takeR (i := 2) (v := .pointer (some ⟨p, 7, none⟩)) (some 15) rfl rfl (by kernel_rfl) (by kernel_rfl) (by kernel_rfl) (fun _ _ _ h => h) (Or.inl ⟨by kernel_rfl, fun w' hSw => by kernel_rfl⟩) hS ?_
    simp only [Act.put, List.setIfInBounds_toArray, List.set_cons_zero, List.set_cons_succ]
    refine takeR (i := 3) (v := .slice da dn dc) (some 16) rfl rfl (by kernel_rfl) (by kernel_rfl) (by kernel_rfl) (fun _ _ _ h => h) (Or.inl ⟨by kernel_rfl, fun w' hSw => by exact ldS_run (.inr (.inr (.inl rfl))) (.tmp 15) rfl (by kernel_rfl) hSw.1⟩) hS ?_
    simp only [Act.put, List.setIfInBounds_toArray, List.set_cons_zero, List.set_cons_succ]
    refine takeR (i := 4) (v := .int .i64 (dn : Int)) (some 17) rfl rfl (by kernel_rfl) (by kernel_rfl) (by kernel_rfl) (fun _ _ _ h => h) (Or.inl ⟨by kernel_rfl, fun w' hSw => by exact lenL_run (v := .slice da dn dc) rfl (.tmp 16) rfl (.inr (.inr (.inl rfl))) (by kernel_rfl) _⟩) hS ?_
    simp only [Act.put, List.setIfInBounds_toArray, List.set_cons_zero, List.set_cons_succ]
    refine takeR (i := 5) (v := .pointer (some ⟨bx, 3, none⟩)) (some 18) rfl rfl (by kernel_rfl) (by kernel_rfl) (by kernel_rfl) (fun _ _ _ h => h) (Or.inl ⟨by kernel_rfl, fun w' hSw => by kernel_rfl⟩) hS ?_
    simp only [Act.put, List.setIfInBounds_toArray, List.set_cons_zero, List.set_cons_succ]
    refine takeR (i := 6) (v := .slice ba bl bc) (some 19) rfl rfl (by kernel_rfl) (by kernel_rfl) (by kernel_rfl) (fun _ _ _ h => h) (Or.inl ⟨by kernel_rfl, fun w' hSw => by exact ldS_run (.inr (.inr (.inl rfl))) (.tmp 18) rfl (by kernel_rfl) hSw.2⟩) hS ?_
    simp only [Act.put, List.setIfInBounds_toArray, List.set_cons_zero, List.set_cons_succ]
    refine takeR (i := 7) (v := .int .i64 (bl : Int)) (some 20) rfl rfl (by kernel_rfl) (by kernel_rfl) (by kernel_rfl) (fun _ _ _ h => h) (Or.inl ⟨by kernel_rfl, fun w' hSw => by exact lenL_run (v := .slice ba bl bc) rfl (.tmp 19) rfl (.inr (.inr (.inl rfl))) (by kernel_rfl) _⟩) hS ?_
    simp only [Act.put, List.setIfInBounds_toArray, List.set_cons_zero, List.set_cons_succ]
    refine takeR (i := 8) (v := .int .i64 ((bl + 8 : Nat) : Int)) (some 21) rfl rfl (by kernel_rfl) (by kernel_rfl) (by kernel_rfl) (fun _ _ _ h => h) (Or.inl ⟨by kernel_rfl, fun w' hSw => by exact addN_run (p := bl) (q := 8) (.tmp 20) (.const (.int .i64 8)) rfl (by kernel_rfl) rfl (by omega) _⟩) hS ?_
    simp only [Act.put, List.setIfInBounds_toArray, List.set_cons_zero, List.set_cons_succ]
    refine takeR (i := 9) (v := .bool tb) (some 22) rfl rfl (by kernel_rfl) (by kernel_rfl) (by kernel_rfl) (fun _ _ _ h => h) (Or.inl ⟨by kernel_rfl, fun w' hSw => by exact ltN_run (n := dn) (k := bl + 8) (.tmp 17) (.tmp 21) rfl (by kernel_rfl) (by kernel_rfl) htb.symm _⟩) hS ?_
    simp only [Act.put, List.setIfInBounds_toArray, List.set_cons_zero, List.set_cons_succ]
    refine wpAnyH_done (by kernel_rfl) ?_ _
    refine hK _ _ ?_
    clear hK hS
    by_cases hlt : dn < bl + 8
    · obtain rfl : tb = true := by rw [htb]; exact decide_eq_true hlt
      clear htb
      obtain ⟨nn, hnn⟩ : ∃ nn, nn = 2 * bl + 64 := ⟨_, rfl⟩
      have HNN : Hid (nn = 2 * bl + 64) := hnn
      have hnb : nn ≤ 281474976710656 := by omega
      have hnb2 : bl + 8 - nn = 0 := by omega
      have hnb3 : 0 < bl + 8 - dn := by omega
      clear hnn
      have hp7 : Z.cell? ⟨p, 7, none⟩ = some (.slice da dn dc) := qd7
      have hpl : p < Z.heap.size := World.block_lt_of_cell? _ _ qd7
      have q72 : (Z.alloc (.cells (madeCells #[Value.int .u8 0] nn) 5)).cell? ⟨p, 7, none⟩ = some (.slice da dn dc) := (Fr.alloc Z _ (fun _ => False)).cell qd7 id
      have qf : (Z.alloc (.cells (madeCells #[Value.int .u8 0] nn) 5)).frozen? ⟨p, 7, none⟩ = false := by
        obtain ⟨G1, h1⟩ := HS1.out
        have := (h1.pr.blk.alloc (.cells (madeCells #[Value.int .u8 0] nn) 5)).frozen 7
        rw [HP.out]; exact this
      have HS2 : Hid (∃ G1, HSt s N G w P bx OV G1 ((Z.alloc (.cells (madeCells #[Value.int .u8 0] nn) 5)).setCell ⟨p, 7, none⟩ (.slice (some ⟨Z.heap.size, 0, none⟩) nn nn)) (.slice (some ⟨Z.heap.size, 0, none⟩) nn nn) nn) := by
        obtain ⟨G1, h1⟩ := HS1.out
        have := h1.make nn hnb
        rw [← HP.out] at this
        exact this
      have hm2 : deskM p (bl + 8) ((Z.alloc (.cells (madeCells #[Value.int .u8 0] nn) 5)).setCell ⟨p, 7, none⟩ (.slice (some ⟨Z.heap.size, 0, none⟩) nn nn)) = bl + 8 - nn := by
        obtain ⟨G1, h1⟩ := HS2.out
        have hc := h1.pr.blk.cell 7
        have hc2 : ((Z.alloc (.cells (madeCells #[Value.int .u8 0] nn) 5)).setCell ⟨p, 7, none⟩ (.slice (some ⟨Z.heap.size, 0, none⟩) nn nn)).cell? ⟨p, 7, none⟩ = some (.slice (some ⟨Z.heap.size, 0, none⟩) nn nn) := by
          have e : (P.dk (.slice (some ⟨Z.heap.size, 0, none⟩) nn nn) nn).p = p := HP.out.symm
          rw [e] at hc
          exact hc
        unfold deskM
        rw [hc2]
      clear HS1
      go_upto_region 2 with fail
      refine wp_region_lit ?_
      refine wpList_runTo rfl (some 23) rfl (.pointer (some ⟨p, 0, none⟩)) Z (by kernel_rfl) ?_
      simp only [Act.put, List.setIfInBounds_toArray, List.set_cons_zero, List.set_cons_succ]
      refine wpList_runTo rfl (some 24) rfl (.pointer (some ⟨bx, 3, none⟩)) Z (by kernel_rfl) ?_
      simp only [Act.put, List.setIfInBounds_toArray, List.set_cons_zero, List.set_cons_succ]
      refine wpList_runTo rfl (some 25) rfl (.slice ba bl bc) Z (by exact ldS_run (.inr (.inr (.inl rfl))) (.tmp 24) rfl (by kernel_rfl) qd3) ?_
      simp only [Act.put, List.setIfInBounds_toArray, List.set_cons_zero, List.set_cons_succ]
      refine wpList_runTo rfl (some 26) rfl (.int .i64 (bl : Int)) Z (by exact lenL_run (v := .slice ba bl bc) rfl (.tmp 25) rfl (.inr (.inr (.inl rfl))) (by kernel_rfl) _) ?_
      simp only [Act.put, List.setIfInBounds_toArray, List.set_cons_zero, List.set_cons_succ]
      refine wpList_runTo rfl (some 27) rfl (.int .i64 ((2 * bl : Nat) : Int)) Z (by exact mul2_run (.tmp 26) rfl (by kernel_rfl) (by omega) _) ?_
      simp only [Act.put, List.setIfInBounds_toArray, List.set_cons_zero, List.set_cons_succ]
      refine wpList_runTo rfl (some 28) rfl (.int .i64 (nn : Int)) Z (by (rw [HNN.out]; exact addN_run (p := 2 * bl) (q := 64) (.tmp 27) (.const (.int .i64 64)) rfl (by kernel_rfl) rfl (by omega) _)) ?_
      simp only [Act.put, List.setIfInBounds_toArray, List.set_cons_zero, List.set_cons_succ]
      refine wpList_runTo rfl (some 29) rfl (.slice (some ⟨Z.heap.size, 0, none⟩) nn nn) (Z.alloc (.cells (madeCells #[Value.int .u8 0] nn) 5)) (by exact mkB_run (.tmp 28) (.tmp 28) rfl (by kernel_rfl) (by kernel_rfl) hnb _) ?_
      simp only [Act.put, List.setIfInBounds_toArray, List.set_cons_zero, List.set_cons_succ]
      refine wpList_runTo rfl (some 30) rfl (.pointer (some ⟨p, 0, none⟩)) (Z.alloc (.cells (madeCells #[Value.int .u8 0] nn) 5)) (by kernel_rfl) ?_
      simp only [Act.put, List.setIfInBounds_toArray, List.set_cons_zero, List.set_cons_succ]
      refine wpList_runTo rfl (some 31) rfl (.pointer (some ⟨p, 7, none⟩)) (Z.alloc (.cells (madeCells #[Value.int .u8 0] nn) 5)) (by kernel_rfl) ?_
      simp only [Act.put, List.setIfInBounds_toArray, List.set_cons_zero, List.set_cons_succ]
      refine wpList_skipW rfl none rfl (w' := (Z.alloc (.cells (madeCells #[Value.int .u8 0] nn) 5)).setCell ⟨p, 7, none⟩ (.slice (some ⟨Z.heap.size, 0, none⟩) nn nn)) (stS_run (.inr (.inr (.inl rfl))) ⟨_, _, _, rfl⟩ ⟨_, _, _, rfl⟩ (.tmp 31) (.tmp 29) rfl (by kernel_rfl) (by kernel_rfl) q72 qf) ?_
      refine wpList_nil ?_
      clear q72 qf hp7 hpl qd7 qd3
      generalize (Z.alloc (.cells (madeCells #[Value.int .u8 0] nn) 5)).setCell ⟨p, 7, none⟩ (.slice (some ⟨Z.heap.size, 0, none⟩) nn nn) = Z2 at *
      generalize Z.heap.size = zs at *
      have HM2 : Hid (deskM p (bl + 8) Z2 = bl + 8 - nn) := hm2
      clear hm2
      go_wp2
      refine ⟨?_, ?_⟩
      · repeat (apply Exists.intro)
        refine ⟨⟨some ⟨zs, 0, none⟩, nn, nn, HS2.out⟩, rfl⟩
      · rw [HMS.out, HM2.out]; omega
    · obtain rfl : tb = false := by rw [htb]; exact decide_eq_false hlt
      clear htb
      obtain ⟨G1, h1⟩ := HS1.out
      clear HS1 HMS
      obtain ⟨ys, hy1, hy2, hy3⟩ := h1.pr.dk.desk
      obtain ⟨dg, dz, dc', dcur, ed, _⟩ := hy1.more (by show 0 < dn; omega)
      have ed2 : Value.slice da dn dc = .slice (some ⟨dg, dz, none⟩) dn dc' := ed
      injection ed2 with ed3 _ ed4
      subst ed3 ed4
      have hcolD : G1 dg = (2, 300) := by
        obtain ⟨zs, _, _, hq⟩ := h1.pr.dk
        exact hq dg rfl
      have hdc : bl + 8 ≤ dc := by
        obtain ⟨a, c, e, hle⟩ := hy1.form
        have e2 : Value.slice (some ⟨dg, dz, none⟩) dn dc = .slice a dn c := e
        injection e2 with _ _ e2
        have : dn ≤ c := hle
        omega
      have hlt2 : bl + 8 ≤ dn := by omega
      have H1 : Hid (DSt s N G w P bx OV G1 Z.drew (.slice (some ⟨dg, dz, none⟩) dn dc) dn dg dz (bl + 8) dc (ys.take (bl + 8)) ∧ (ys.take (bl + 8)).length = bl + 8 ∧ BB (ys.take (bl + 8))) := by
        have hpre := RowAt.pre (m := bl + 8) (show RowAt Z 5 1 (.slice (some ⟨dg, dz, none⟩) dn dc) dn (bvals ys) from hy1) hlt2
        have e : (bvals ys).take ((bl + 8) * 1) = bvals (ys.take (bl + 8)) := by unfold bvals; rw [Nat.mul_one, List.map_take]
        rw [e] at hpre
        exact ⟨DSt.below ⟨h1, hpre, hcolD⟩ ⟨rfl, rfl, rfl, Nat.le_refl _, fun _ _ => rfl⟩, by rw [List.length_take, hy2]; exact Nat.min_eq_left hlt2, hy3.take _⟩
      clear h1 hy1 hy2 hy3 ed hcolD
      go_upto_region 3 with fail
      have qe7 : Z.drew.cell? ⟨p, 7, none⟩ = some (.slice (some ⟨dg, dz, none⟩) dn dc) := qd7
      have qe3 : Z.drew.cell? ⟨bx, 3, none⟩ = some (.slice ba bl bc) := qd3
      clear qd7 qd3
      rename_i K hK
      refine wp_region_held (S := fun w' => w'.cell? ⟨p, 7, none⟩ = some (.slice (some ⟨dg, dz, none⟩) dn dc) ∧ w'.cell? ⟨bx, 3, none⟩ = some (.slice ba bl bc)) (by kernel_rfl) ?_
      change wpAnyH _ _ _ _ _ _ _ _ (World.drew _)
      have hS := And.intro qe7 qe3
      generalize Z.drew = Y at *
      refine takeR (i := 0) (v := .pointer (some ⟨p, 0, none⟩)) (some 32) rfl rfl (by kernel_rfl) (by kernel_rfl) (by kernel_rfl) (fun _ _ _ h => h) (Or.inl ⟨by kernel_rfl, fun w' hSw => by kernel_rfl⟩) hS ?_
      simp only [Act.put, List.setIfInBounds_toArray, List.set_cons_zero, List.set_cons_succ]
      refine takeR (i := 1) (v := .pointer (some ⟨p, 0, none⟩)) (some 33) rfl rfl (by kernel_rfl) (by kernel_rfl) (by kernel_rfl) (fun _ _ _ h => h) (Or.inl ⟨by kernel_rfl, fun w' hSw => by kernel_rfl⟩) hS ?_
      simp only [Act.put, List.setIfInBounds_toArray, List.set_cons_zero, List.set_cons_succ]
      refine takeR (i := 2) (v := .pointer (some ⟨p, 7, none⟩)) (some 34) rfl rfl (by kernel_rfl) (by kernel_rfl) (by kernel_rfl) (fun _ _ _ h => h) (Or.inl ⟨by kernel_rfl, fun w' hSw => by kernel_rfl⟩) hS ?_
      simp only [Act.put, List.setIfInBounds_toArray, List.set_cons_zero, List.set_cons_succ]
      refine takeR (i := 3) (v := .slice (some ⟨dg, dz, none⟩) dn dc) (some 35) rfl rfl (by kernel_rfl) (by kernel_rfl) (by kernel_rfl) (fun _ _ _ h => h) (Or.inl ⟨by kernel_rfl, fun w' hSw => by exact ldS_run (.inr (.inr (.inl rfl))) (.tmp 34) rfl (by kernel_rfl) hSw.1⟩) hS ?_
      simp only [Act.put, List.setIfInBounds_toArray, List.set_cons_zero, List.set_cons_succ]
      refine takeR (i := 4) (v := .pointer (some ⟨bx, 3, none⟩)) (some 36) rfl rfl (by kernel_rfl) (by kernel_rfl) (by kernel_rfl) (fun _ _ _ h => h) (Or.inl ⟨by kernel_rfl, fun w' hSw => by kernel_rfl⟩) hS ?_
      simp only [Act.put, List.setIfInBounds_toArray, List.set_cons_zero, List.set_cons_succ]
      refine takeR (i := 5) (v := .slice ba bl bc) (some 37) rfl rfl (by kernel_rfl) (by kernel_rfl) (by kernel_rfl) (fun _ _ _ h => h) (Or.inl ⟨by kernel_rfl, fun w' hSw => by exact ldS_run (.inr (.inr (.inl rfl))) (.tmp 36) rfl (by kernel_rfl) hSw.2⟩) hS ?_
      simp only [Act.put, List.setIfInBounds_toArray, List.set_cons_zero, List.set_cons_succ]
      refine takeR (i := 6) (v := .int .i64 (bl : Int)) (some 38) rfl rfl (by kernel_rfl) (by kernel_rfl) (by kernel_rfl) (fun _ _ _ h => h) (Or.inl ⟨by kernel_rfl, fun w' hSw => by exact lenL_run (v := .slice ba bl bc) rfl (.tmp 37) rfl (.inr (.inr (.inl rfl))) (by kernel_rfl) _⟩) hS ?_
      simp only [Act.put, List.setIfInBounds_toArray, List.set_cons_zero, List.set_cons_succ]
      refine takeR (i := 7) (v := .int .i64 ((bl + 8 : Nat) : Int)) (some 39) rfl rfl (by kernel_rfl) (by kernel_rfl) (by kernel_rfl) (fun _ _ _ h => h) (Or.inl ⟨by kernel_rfl, fun w' hSw => by exact addN_run (p := bl) (q := 8) (.tmp 38) (.const (.int .i64 8)) rfl (by kernel_rfl) rfl (by omega) _⟩) hS ?_
      simp only [Act.put, List.setIfInBounds_toArray, List.set_cons_zero, List.set_cons_succ]
      refine takeR (i := 8) (v := .slice (some ⟨dg, dz, none⟩) (bl + 8) dc) (some 40) rfl rfl (by kernel_rfl) (by kernel_rfl) (by kernel_rfl) (fun _ _ _ h => h) (Or.inl ⟨by kernel_rfl, fun w' hSw => by exact (sliceT_run (ao := some ⟨dg, dz, none⟩) (n := dn) (cap := dc) (hi := bl + 8) (.tmp 35) (.tmp 39) rfl (by kernel_rfl) (by kernel_rfl) hdc w').trans (by rw [cut0 hdc])⟩) hS ?_
      simp only [Act.put, List.setIfInBounds_toArray, List.set_cons_zero, List.set_cons_succ]
      refine takeR (i := 9) (v := .slice (some ⟨dg, dz, none⟩) (bl + 8) dc) (some 5) rfl rfl (by kernel_rfl) (by kernel_rfl) (by kernel_rfl) (fun _ _ _ h => h) (Or.inl ⟨by kernel_rfl, fun w' hSw => by kernel_rfl⟩) hS ?_
      simp only [Act.put, List.setIfInBounds_toArray, List.set_cons_zero, List.set_cons_succ]
      refine wpAnyH_done (by kernel_rfl) ?_ _
      refine hK _ _ ?_
      clear hK hS qe7
      obtain ⟨xs0, hxs0⟩ : ∃ xs0, xs0 = ys.take (bl + 8) := ⟨_, rfl⟩
      rw [← hxs0] at H1
      clear hxs0
      have hby : By Y (.slice ba bl bc) l := by
        have hlow := (H1.out.1.hs.st.low HI.out.2.2.1 HI.out.2.2.2.1 HI.out.2.2.2.2.1).1
        exact HI.out.2.2.2.2.2.1 Y hlow
      have hlb : l.length ≤ bl + 8 := by rw [← HI.out.2.2.2.2.2.2]; omega
      obtain ⟨Y2, hcp, hrow2, hst2⟩ := desk_copy (s := 1000 + s) 3 H1.out.1.hs.pr.gi H1.out.1.col H1.out.1.row H1.out.2.2 hby hlb
      have H2 : Hid (∃ xs, DSt s N G w P bx OV G1 Y2 (.slice (some ⟨dg, dz, none⟩) dn dc) dn dg dz (bl + 8) dc xs ∧ C2 l xs bl bl) := by
        refine ⟨_, ⟨H1.out.1.hs.desk hst2, hrow2, H1.out.1.col⟩, ?_, hby.bb.app (H1.out.2.2.drop _), fun j hj => ?_, fun j h1 h2 => by omega⟩
        · have e1 := H1.out.2.1
          have e2 := HI.out.2.2.2.2.2.2
          rw [List.length_append, List.length_drop, e1]
          omega
        · rw [List.getElem?_append_left (by rw [← HI.out.2.2.2.2.2.2]; exact hj)]
      have qe32 : Y2.cell? ⟨bx, 3, none⟩ = some (.slice ba bl bc) := by
        obtain ⟨xs, h1, _⟩ := H2.out
        have := h1.hs.bk
        rw [HOV.out] at this
        exact this.cell 3
      rw [← HI.out.2.2.2.2.2.2] at hcp
      clear H1 hby hlb hrow2 hst2
      go_upto_region 4 with fail
      rename_i K hK
      refine wp_region_lit ?_
      refine wpList_runTo rfl (some 41) rfl (.slice (some ⟨dg, dz, none⟩) (bl + 8) dc) Y (by kernel_rfl) ?_
      simp only [Act.put, List.setIfInBounds_toArray, List.set_cons_zero, List.set_cons_succ]
      refine wpList_runTo rfl (some 42) rfl (.pointer (some ⟨bx, 3, none⟩)) Y (by kernel_rfl) ?_
      simp only [Act.put, List.setIfInBounds_toArray, List.set_cons_zero, List.set_cons_succ]
      refine wpList_runTo rfl (some 43) rfl (.slice ba bl bc) Y (by exact ldS_run (.inr (.inr (.inl rfl))) (.tmp 42) rfl (by kernel_rfl) qe3) ?_
      simp only [Act.put, List.setIfInBounds_toArray, List.set_cons_zero, List.set_cons_succ]
      refine wpList_runTo rfl (some 44) rfl (.int .i64 (bl : Int)) Y2 (by exact exec_copy (v1 := .slice (some ⟨dg, dz, none⟩) (bl + 8) dc) (v2 := .slice ba bl bc) (.tmp 41) (.tmp 43) rfl (by kernel_rfl) (by kernel_rfl) hcp) ?_
      simp only [Act.put, List.setIfInBounds_toArray, List.set_cons_zero, List.set_cons_succ]
      refine wpList_nil ?_
      refine hK _ _ ?_
      clear hK hcp qe3
      go_upto_region 6 with fail
      clear qe32
      go_loopw [6] (fun x6 wr => ∃ i : Nat, bl ≤ i ∧ i ≤ bl + 8 ∧ x6 = .int .i64 (i : Int) ∧ Hid (∃ xs, DSt s N G w P bx OV G1 wr (.slice (some ⟨dg, dz, none⟩) dn dc) dn dg dz (bl + 8) dc xs ∧ C2 l xs bl i)) (fun x6 _ => bl + 8 - (RowKit.intOf x6).toNat)
      case atStart => exact ⟨bl, Nat.le_refl _, by omega, rfl, H2.out⟩
      case round =>
        obtain ⟨i, hi0, hi, rfl, HS⟩ := hrel
        clear H2
        by_cases hlti : i < bl + 8
        · have hlti' : (i : Int) < ((bl + 8 : Nat) : Int) := by omega
          obtain ⟨xs, h1, h2⟩ := HS.out
          have hxi : i < xs.length := by rw [h2.1]; exact hlti
          have qc : wr.cell? ⟨dg, dz + i, none⟩ = some (.int .u8 (xs[i] : Int)) := h1.row.cell rfl (by unfold bvals; rw [List.getElem?_map, List.getElem?_eq_getElem hxi]; rfl)
          have qf : wr.frozen? ⟨dg, dz + i, none⟩ = false := h1.row.frozen rfl _
          have HQ : Hid (∃ xs, DSt s N G w P bx OV G1 (wr.setCell ⟨dg, dz + i, none⟩ (.int .u8 201)) (.slice (some ⟨dg, dz, none⟩) dn dc) dn dg dz (bl + 8) dc xs ∧ C2 l xs bl (i + 1)) := ⟨_, h1.set (y := 201) hlti (by decide), h2.set hi0 hlti⟩
          generalize xs[i] = xi at *
          clear HS h1 h2
          go_wp2
          exact ⟨⟨i + 1, by omega, by omega, by go_num, HQ.out⟩, by simp [RowKit.intOf]; omega⟩
        · obtain rfl : i = bl + 8 := by omega
          obtain ⟨xs, h1, h2⟩ := HS.out
          have hd0 : Below wr.heap.size wr wr.drew := ⟨rfl, rfl, rfl, Nat.le_refl _, fun _ _ => rfl⟩
          have H3 : Hid (DSt s N G w P bx OV G1 wr.drew (.slice (some ⟨dg, dz, none⟩) dn dc) dn dg dz (bl + 8) dc xs ∧ C3 l xs bl 0 ∧ By wr.drew (.slice (some ⟨dg, dz, none⟩) bl dc) l) := by
            have h3 := h1.below hd0
            refine ⟨h3, h2.to3, desk_by h3.row (by omega) h2.2.2.1 HI.out.2.2.2.2.2.2 ?_⟩
            exact (HI.out.2.2.2.2.2.1 w (Below.refl _ _)).bb
          clear HS h1 h2 hd0 hlti
          obtain ⟨gg, hgg⟩ : ∃ gg, gg = P.g := ⟨_, rfl⟩
          obtain ⟨hg2, hhg⟩ : ∃ hg2, hg2 = P.h := ⟨_, rfl⟩
          have HGG : Hid (gg = P.g ∧ hg2 = P.h) := ⟨hgg, hhg⟩
          have hcnb : ∀ i, P.a.cn i + 2 ≤ 1000000000000 := fun i => by
            have h5 : P.a.cn i ≤ 2 * N := H3.out.1.hs.pr.cn i
            have := HI.out.2.1
            omega
          have hhear := hear_any H3.out.1.hs.pr.ab ln now H3.out.2.2 (by rw [← HI.out.2.2.2.2.2.2]; exact hbl2) H3.out.1.hs.pr.gt hcnb
          have hhe2 : Calls Try.prog 9 #[.pointer (some ⟨gg, 0, none⟩), .int .i64 ln, .slice (some ⟨dg, dz, none⟩) bl dc, .int .i64 now] wr.drew fun e w' => ∃ v' er, e = .returned (.tuple #[v', .int .i64 er]) ∧ Hid (∃ out a', TkO wr.drew w' P.g P.b v' out a' ∧ HdB P.a ln now l wr.drew.heap.size out a' er) := by
            rw [hgg]; exact hhear
          clear hhear hcnb
          have qp : Blk wr.drew p 54 ((P.dk (.slice (some ⟨dg, dz, none⟩) dn dc) dn).c.cs) := by rw [HP.out]; exact H3.out.1.hs.pr.blk
          have qb : Blk wr.drew bx 56 (opV kd hh ln (.slice ba bl bc) now) := by rw [← HOV.out]; exact H3.out.1.hs.bk
          have qa : P.c.a = .pointer (some ⟨gg, 0, none⟩) := by rw [hgg]; exact H3.out.1.hs.pr.ca
          have qh : P.c.b = .pointer (some ⟨hg2, 0, none⟩) := by rw [hhg]; exact H3.out.1.hs.pr.cb
          have HQA : Hid (P.c.a = .pointer (some ⟨gg, 0, none⟩) ∧ P.c.b = .pointer (some ⟨hg2, 0, none⟩)) := ⟨qa, qh⟩
          have hS : wr.drew.cell? ⟨p, 0, none⟩ = some (.pointer (some ⟨gg, 0, none⟩)) ∧ wr.drew.cell? ⟨bx, 2, none⟩ = some (.int .i64 ln) ∧ wr.drew.cell? ⟨bx, 3, none⟩ = some (.slice ba bl bc) ∧ wr.drew.cell? ⟨bx, 4, none⟩ = some (.int .i64 now) :=
            ⟨by rw [← qa]; exact qp.cell 0, qb.cell 2, qb.cell 3, qb.cell 4⟩
          clear hgg hhg qa qh
          go_upto_region 9 with fail
          rename_i K hK
          refine wp_region_held (S := fun w' => w'.cell? ⟨p, 0, none⟩ = some (.pointer (some ⟨gg, 0, none⟩)) ∧ w'.cell? ⟨bx, 2, none⟩ = some (.int .i64 ln) ∧ w'.cell? ⟨bx, 3, none⟩ = some (.slice ba bl bc) ∧ w'.cell? ⟨bx, 4, none⟩ = some (.int .i64 now)) (by kernel_rfl) ?_
          change wpAnyH _ _ _ _ _ _ _ _ (World.drew _)
          generalize wr.drew = Z3 at *
          have hdc1 : bl ≤ dc := by omega
          refine takeR (i := 0) (v := .pointer (some ⟨p, 0, none⟩)) (some 58) rfl rfl (by kernel_rfl) (by kernel_rfl) (by kernel_rfl) (fun _ _ _ h => h) (Or.inl ⟨by kernel_rfl, fun w' hSw => by kernel_rfl⟩) hS ?_
          simp only [Act.put, List.setIfInBounds_toArray, List.set_cons_zero, List.set_cons_succ]
          refine takeR (i := 1) (v := .pointer (some ⟨p, 0, none⟩)) (some 59) rfl rfl (by kernel_rfl) (by kernel_rfl) (by kernel_rfl) (fun _ _ _ h => h) (Or.inl ⟨by kernel_rfl, fun w' hSw => by kernel_rfl⟩) hS ?_
          simp only [Act.put, List.setIfInBounds_toArray, List.set_cons_zero, List.set_cons_succ]
          refine takeR (i := 2) (v := .pointer (some ⟨p, 0, none⟩)) (some 60) rfl rfl (by kernel_rfl) (by kernel_rfl) (by kernel_rfl) (fun _ _ _ h => h) (Or.inl ⟨by kernel_rfl, fun w' hSw => by kernel_rfl⟩) hS ?_
          simp only [Act.put, List.setIfInBounds_toArray, List.set_cons_zero, List.set_cons_succ]
          refine takeR (i := 3) (v := .pointer (some ⟨gg, 0, none⟩)) (some 61) rfl rfl (by kernel_rfl) (by kernel_rfl) (by kernel_rfl) (fun _ _ _ h => h) (Or.inl ⟨by kernel_rfl, fun w' hSw => by exact ldP_run (.inl rfl) (.tmp 60) rfl (by kernel_rfl) hSw.1⟩) hS ?_
          simp only [Act.put, List.setIfInBounds_toArray, List.set_cons_zero, List.set_cons_succ]
          refine takeR (i := 4) (v := .pointer (some ⟨bx, 2, none⟩)) (some 62) rfl rfl (by kernel_rfl) (by kernel_rfl) (by kernel_rfl) (fun _ _ _ h => h) (Or.inl ⟨by kernel_rfl, fun w' hSw => by kernel_rfl⟩) hS ?_
          simp only [Act.put, List.setIfInBounds_toArray, List.set_cons_zero, List.set_cons_succ]
          refine takeR (i := 5) (v := .int .i64 ln) (some 63) rfl rfl (by kernel_rfl) (by kernel_rfl) (by kernel_rfl) (fun _ _ _ h => h) (Or.inl ⟨by kernel_rfl, fun w' hSw => by exact ldN_run (.inr rfl) (.tmp 62) rfl (by kernel_rfl) hSw.2.1⟩) hS ?_
          simp only [Act.put, List.setIfInBounds_toArray, List.set_cons_zero, List.set_cons_succ]
          refine takeR (i := 6) (v := .slice (some ⟨dg, dz, none⟩) (bl + 8) dc) (some 64) rfl rfl (by kernel_rfl) (by kernel_rfl) (by kernel_rfl) (fun _ _ _ h => h) (Or.inl ⟨by kernel_rfl, fun w' hSw => by kernel_rfl⟩) hS ?_
          simp only [Act.put, List.setIfInBounds_toArray, List.set_cons_zero, List.set_cons_succ]
          refine takeR (i := 7) (v := .pointer (some ⟨bx, 3, none⟩)) (some 65) rfl rfl (by kernel_rfl) (by kernel_rfl) (by kernel_rfl) (fun _ _ _ h => h) (Or.inl ⟨by kernel_rfl, fun w' hSw => by kernel_rfl⟩) hS ?_
          simp only [Act.put, List.setIfInBounds_toArray, List.set_cons_zero, List.set_cons_succ]
          refine takeR (i := 8) (v := .slice ba bl bc) (some 66) rfl rfl (by kernel_rfl) (by kernel_rfl) (by kernel_rfl) (fun _ _ _ h => h) (Or.inl ⟨by kernel_rfl, fun w' hSw => by exact ldS_run (.inr (.inr (.inl rfl))) (.tmp 65) rfl (by kernel_rfl) hSw.2.2.1⟩) hS ?_
          simp only [Act.put, List.setIfInBounds_toArray, List.set_cons_zero, List.set_cons_succ]
          refine takeR (i := 9) (v := .int .i64 (bl : Int)) (some 67) rfl rfl (by kernel_rfl) (by kernel_rfl) (by kernel_rfl) (fun _ _ _ h => h) (Or.inl ⟨by kernel_rfl, fun w' hSw => by exact lenL_run (v := .slice ba bl bc) rfl (.tmp 66) rfl (.inr (.inr (.inl rfl))) (by kernel_rfl) _⟩) hS ?_
          simp only [Act.put, List.setIfInBounds_toArray, List.set_cons_zero, List.set_cons_succ]
          refine takeR (i := 10) (v := .slice (some ⟨dg, dz, none⟩) bl dc) (some 68) rfl rfl (by kernel_rfl) (by kernel_rfl) (by kernel_rfl) (fun _ _ _ h => h) (Or.inl ⟨by kernel_rfl, fun w' hSw => by exact (sliceT_run (ao := some ⟨dg, dz, none⟩) (n := bl + 8) (cap := dc) (hi := bl) (.tmp 64) (.tmp 67) rfl (by kernel_rfl) (by kernel_rfl) hdc1 w').trans (by rw [cut0 hdc1])⟩) hS ?_
          simp only [Act.put, List.setIfInBounds_toArray, List.set_cons_zero, List.set_cons_succ]
          refine takeR (i := 11) (v := .pointer (some ⟨bx, 4, none⟩)) (some 69) rfl rfl (by kernel_rfl) (by kernel_rfl) (by kernel_rfl) (fun _ _ _ h => h) (Or.inl ⟨by kernel_rfl, fun w' hSw => by kernel_rfl⟩) hS ?_
          simp only [Act.put, List.setIfInBounds_toArray, List.set_cons_zero, List.set_cons_succ]
          refine takeR (i := 12) (v := .int .i64 now) (some 70) rfl rfl (by kernel_rfl) (by kernel_rfl) (by kernel_rfl) (fun _ _ _ h => h) (Or.inl ⟨by kernel_rfl, fun w' hSw => by exact ldN_run (.inl rfl) (.tmp 69) rfl (by kernel_rfl) hSw.2.2.2⟩) hS ?_
          simp only [Act.put, List.setIfInBounds_toArray, List.set_cons_zero, List.set_cons_succ]
          refine wpAnyH_ready (rs := [13]) (by kernel_rfl) (by simp) ?_
          refine AllReadyH.cons rfl (fun K1 hK1 => ?_) AllReadyH.nil
          rw [if_pos (by kernel_rfl)]
          refine callR (d := some 71) rfl 9 #[.pointer (some ⟨gg, 0, none⟩), .int .i64 ln, .slice (some ⟨dg, dz, none⟩) bl dc, .int .i64 now] (by kernel_rfl) hhe2 ?_
          clear hhe2 hS
          rintro e W1 ⟨v1, er, rfl, hx⟩
          refine ⟨_, rfl, ?_⟩
          obtain ⟨out, a', ht, hd⟩ := hx.out
          have hpg : ∀ x T (cs : Array Value), Blk Z3 x T cs → T ≠ 67 → ¬ (x = P.g ∨ x = P.b) := fun x T cs hb hT e => by
            rcases e with e | e
            · subst e; exact Blk.neT hb H3.out.1.hs.pr.ab.blk hT
            · obtain ⟨es, c, hm⟩ := H3.out.1.hs.pr.ab.map.is
              have hm2 : Z3.heap[P.b]? = some (.map es c) := hm
              unfold Blk at hb
              rw [e, hm2] at hb
              cases hb
          have qp1 : Blk W1 p 54 ((P.dk (.slice (some ⟨dg, dz, none⟩) dn dc) dn).c.cs) := qp.fr ht.fr (hpg _ _ _ qp (by decide))
          have qb1 : Blk W1 bx 56 (opV kd hh ln (.slice ba bl bc) now) := qb.fr ht.fr (hpg _ _ _ qb (by decide))
          have hst1 : Stp (1000 + s) (fun x => x = P.g ∨ x = P.b) G1 Z3 G1 W1 := Stp.of_fr H3.out.1.hs.pr.gi ht.fr fun q cur T hq hc => H3.out.1.hs.pr.exT q cur T (by
            rcases hq with e | e
            · exact .inr (.inl e)
            · exact .inr (.inr (.inl e))) hc
          have hrow1 : RowAt W1 5 1 (.slice (some ⟨dg, dz, none⟩) (bl + 8) dc) (bl + 8) (bvals xs) := H3.out.1.row.fr ht.fr fun q hq => by
            obtain ⟨_, cur, hc⟩ := H3.out.1.row.lt hq
            exact hpg q 5 cur hc (by decide)
          obtain ⟨va, vc, hv1, _⟩ := ht.row.form
          obtain ⟨vn, hvn⟩ : ∃ vn, vn = out.length := ⟨_, rfl⟩
          rw [← hvn] at hv1
          subst hv1
          have HH : Hid (TkO Z3 W1 P.g P.b (.slice va vn vc) out a' ∧ HdB P.a ln now l Z3.heap.size out a' er ∧ Stp (1000 + s) (fun x => x = P.g ∨ x = P.b) G1 Z3 G1 W1) := ⟨ht, hd, hst1⟩
          have H4 : Hid (∃ xs, RowAt W1 5 1 (.slice (some ⟨dg, dz, none⟩) (bl + 8) dc) (bl + 8) (bvals xs) ∧ C3 l xs bl 0 ∧ Stp (1000 + s) (fun _ => False) G1 W1 G1 W1) := ⟨xs, hrow1, H3.out.2.1, Stp.refl0 hst1.gi⟩
          have HB1 : Hid (Blk W1 p 54 ((P.dk (.slice (some ⟨dg, dz, none⟩) dn dc) dn).c.cs) ∧ Blk W1 bx 56 (opV kd hh ln (.slice ba bl bc) now) ∧ ∀ W, Below B0 W1 W → By W (.slice ba bl bc) l) := ⟨qp1, qb1, fun W hW => by
            have h5 := (H3.out.1.hs.st.low HI.out.2.2.1 HI.out.2.2.2.1 HI.out.2.2.2.2.1).1
            have hz : B0 ≤ Z3.heap.size := Nat.le_trans HI.out.2.2.1 h5.size
            have h6 : Below B0 Z3 W1 := ht.fr.low hz fun q hq => HI.out.2.2.2.2.1 q (by
              rcases hq with e | e
              · exact .inr (.inl e)
              · exact .inr (.inr (.inl e)))
            exact HI.out.2.2.2.2.2.1 W ((h5.trans h6).trans hW)⟩
          have hS : W1.cell? ⟨p, 0, none⟩ = some (.pointer (some ⟨gg, 0, none⟩)) ∧ W1.cell? ⟨bx, 2, none⟩ = some (.int .i64 ln) ∧ W1.cell? ⟨bx, 3, none⟩ = some (.slice ba bl bc) ∧ W1.cell? ⟨bx, 4, none⟩ = some (.int .i64 now) :=
            ⟨by rw [← HQA.out.1]; exact qp1.cell 0, qb1.cell 2, qb1.cell 3, qb1.cell 4⟩
          clear hx ht hd hpg qp1 qb1 hst1 hrow1 qp qb hvn
          refine hK1.out _ _ hS (fun _ => ?_)
          clear hK1
          simp only [Act.put, List.setIfInBounds_toArray, List.set_cons_zero, List.set_cons_succ]
          refine takeR (i := 14) (v := .tuple #[.slice va vn vc, .int .i64 er]) (some 57) rfl rfl (by kernel_rfl) (by kernel_rfl) (by kernel_rfl) (fun _ _ _ h => h) (Or.inl ⟨by kernel_rfl, fun w' hSw => by kernel_rfl⟩) hS ?_
          simp only [Act.put, List.setIfInBounds_toArray, List.set_cons_zero, List.set_cons_succ]
          refine takeR (i := 15) (v := .slice va vn vc) (some 72) rfl rfl (by kernel_rfl) (by kernel_rfl) (by kernel_rfl) (fun _ _ _ h => h) (Or.inl ⟨by kernel_rfl, fun w' hSw => by kernel_rfl⟩) hS ?_
          simp only [Act.put, List.setIfInBounds_toArray, List.set_cons_zero, List.set_cons_succ]
          refine takeR (i := 16) (v := .int .i64 er) (some 73) rfl rfl (by kernel_rfl) (by kernel_rfl) (by kernel_rfl) (fun _ _ _ h => h) (Or.inl ⟨by kernel_rfl, fun w' hSw => by kernel_rfl⟩) hS ?_
          simp only [Act.put, List.setIfInBounds_toArray, List.set_cons_zero, List.set_cons_succ]
          refine takeR (i := 17) (v := .slice va vn vc) (some 7) rfl rfl (by kernel_rfl) (by kernel_rfl) (by kernel_rfl) (fun _ _ _ h => h) (Or.inl ⟨by kernel_rfl, fun w' hSw => by kernel_rfl⟩) hS ?_
          simp only [Act.put, List.setIfInBounds_toArray, List.set_cons_zero, List.set_cons_succ]
          refine takeR (i := 18) (v := .int .i64 er) (some 8) rfl rfl (by kernel_rfl) (by kernel_rfl) (by kernel_rfl) (fun _ _ _ h => h) (Or.inl ⟨by kernel_rfl, fun w' hSw => by kernel_rfl⟩) hS ?_
          simp only [Act.put, List.setIfInBounds_toArray, List.set_cons_zero, List.set_cons_succ]
          refine wpAnyH_done (by kernel_rfl) ?_ _
          refine hK _ _ ?_
          clear hK hS
          go_upto_region 11 with fail
          have hm255 : bl + 8 ≤ 1000000000000000 := by omega
          go_loopw [9] (fun x9 wr => ∃ i : Nat, i ≤ bl + 8 ∧ x9 = .int .i64 (i : Int) ∧ Hid (∃ xs, RowAt wr 5 1 (.slice (some ⟨dg, dz, none⟩) (bl + 8) dc) (bl + 8) (bvals xs) ∧ C3 l xs bl i ∧ Stp (1000 + s) (fun _ => False) G1 W1 G1 wr)) (fun x9 _ => bl + 8 - (RowKit.intOf x9).toNat)
          case atStart => exact ⟨0, Nat.zero_le _, rfl, H4.out⟩
          case round =>
            obtain ⟨i, hi, rfl, HS⟩ := hrel
            clear H4
            by_cases hlti : i < bl + 8
            · have hlti' : (i : Int) < ((bl + 8 : Nat) : Int) := by omega
              have hd0 : Below wr.heap.size wr wr.drew := ⟨rfl, rfl, rfl, Nat.le_refl _, fun _ _ => rfl⟩
              have H5 : Hid (∃ xs, RowAt wr.drew 5 1 (.slice (some ⟨dg, dz, none⟩) (bl + 8) dc) (bl + 8) (bvals xs) ∧ C3 l xs bl i ∧ Stp (1000 + s) (fun _ => False) G1 W1 G1 wr.drew) := by
                obtain ⟨xs, h1, h2, h3⟩ := HS.out
                exact ⟨xs, h1.fr (Fr.of_below hd0 (fun _ => False)) fun _ _ => id, h2, h3.trans0 (Stp.drew h3.gi)⟩
              clear HS hd0
              have qb3 : wr.drew.cell? ⟨bx, 3, none⟩ = some (.slice ba bl bc) := by
                obtain ⟨xs, _, _, h3⟩ := H5.out
                exact (HB1.out.2.1.stp h3 (by unfold hotT; decide) id).cell 3
              obtain ⟨xs, h1, h2, h3⟩ := H5.out
              have hxi : i < xs.length := by rw [h2.1]; exact hlti
              have qd : wr.drew.cell? ⟨dg, dz + i, none⟩ = some (.int .u8 (xs[i] : Int)) := h1.cell rfl (by unfold bvals; rw [List.getElem?_map, List.getElem?_eq_getElem hxi]; rfl)
              have qff : wr.drew.frozen? ⟨dg, dz + i, none⟩ = false := h1.frozen rfl _
              have hxg : xs[i]? = some xs[i] := List.getElem?_eq_getElem hxi
              have hby : By wr.drew (.slice ba bl bc) l := by
                have hz : B0 ≤ W1.heap.size := Nat.le_trans (Nat.le_trans HI.out.2.2.1 H3.out.1.hs.st.size) HH.out.1.fr.size
                have hG1 : ∀ q, G1 q ≠ (0, 0) → B0 ≤ q := (H3.out.1.hs.st.low HI.out.2.2.1 HI.out.2.2.2.1 HI.out.2.2.2.2.1).2
                exact HB1.out.2.2 _ (h3.low hz hG1 fun _ e => e.elim).1
              have hcases : (i < bl ∧ ∃ bg bo, ba = some ⟨bg, bo, none⟩ ∧ wr.drew.cell? ⟨bg, bo + i, none⟩ = some (.int .u8 (xs[i] : Int))) ∨ bl ≤ i ∧ xs[i] = 201 := by
                by_cases hb : i < bl
                · left
                  refine ⟨hb, ?_⟩
                  have hli : l[i]? = some xs[i] := by rw [← h2.2.1 i (Nat.le_refl _) hb, hxg]
                  obtain ⟨a, c, e, _, _, h9⟩ := hby.ex
                  injection e with e1 _ _
                  rcases h9 with h9 | ⟨bg, bo, e2, h9⟩
                  · rw [h9] at hli; cases hli
                  · exact ⟨bg, bo, e1.trans e2, h9 i _ hli⟩
                · right
                  refine ⟨by omega, ?_⟩
                  have := h2.2.2 i (Nat.le_refl _) (by omega) hlti
                  rw [hxg] at this
                  injection this
              have H6 : Hid (∃ xs, RowAt (wr.drew.setCell ⟨dg, dz + i, none⟩ (.int .u8 202)) 5 1 (.slice (some ⟨dg, dz, none⟩) (bl + 8) dc) (bl + 8) (bvals xs) ∧ C3 l xs bl (i + 1) ∧ Stp (1000 + s) (fun _ => False) G1 W1 G1 (wr.drew.setCell ⟨dg, dz + i, none⟩ (.int .u8 202))) := by
                obtain ⟨k1, k2⟩ := desk_set (s := 1000 + s) (y := 202) h3.gi H3.out.1.col h1 hlti (by decide)
                exact ⟨_, k1, h2.set 202, h3.trans0 k2⟩
              generalize xs[i] = xi at *
              clear h1 h2 h3 H5 hxg hby hxi
              go_upto_region 13 with fail
              rename_i K hK
              rcases hcases with ⟨hib, bg, bo, rfl, qo⟩ | ⟨hib, hx201⟩
              · refine wp_region_held (S := fun w' => w'.cell? ⟨bx, 3, none⟩ = some (.slice (some ⟨bg, bo, none⟩) bl bc) ∧ w'.cell? ⟨dg, dz + i, none⟩ = some (.int .u8 (xi : Int)) ∧ w'.cell? ⟨bg, bo + i, none⟩ = some (.int .u8 (xi : Int))) (by kernel_rfl) ?_
                change wpAnyH _ _ _ _ _ _ _ _ (World.drew _)
                have hS := And.intro qb3 (And.intro qd qo)
                generalize wr.drew = Z5 at *
                refine takeR (i := 0) (v := .int .i64 (i : Int)) (some 80) rfl rfl (by kernel_rfl) (by kernel_rfl) (by kernel_rfl) (fun _ _ _ h => h) (Or.inl ⟨by kernel_rfl, fun w' hSw => by kernel_rfl⟩) hS ?_
                simp only [Act.put, List.setIfInBounds_toArray, List.set_cons_zero, List.set_cons_succ]
                refine takeR (i := 1) (v := .pointer (some ⟨bx, 3, none⟩)) (some 81) rfl rfl (by kernel_rfl) (by kernel_rfl) (by kernel_rfl) (fun _ _ _ h => h) (Or.inl ⟨by kernel_rfl, fun w' hSw => by kernel_rfl⟩) hS ?_
                simp only [Act.put, List.setIfInBounds_toArray, List.set_cons_zero, List.set_cons_succ]
                refine takeR (i := 2) (v := .slice (some ⟨bg, bo, none⟩) bl bc) (some 82) rfl rfl (by kernel_rfl) (by kernel_rfl) (by kernel_rfl) (fun _ _ _ h => h) (Or.inl ⟨by kernel_rfl, fun w' hSw => by exact ldS_run (.inr (.inr (.inl rfl))) (.tmp 81) rfl (by kernel_rfl) hSw.1⟩) hS ?_
                simp only [Act.put, List.setIfInBounds_toArray, List.set_cons_zero, List.set_cons_succ]
                refine takeR (i := 3) (v := .int .i64 (bl : Int)) (some 83) rfl rfl (by kernel_rfl) (by kernel_rfl) (by kernel_rfl) (fun _ _ _ h => h) (Or.inl ⟨by kernel_rfl, fun w' hSw => by exact lenL_run (v := .slice (some ⟨bg, bo, none⟩) bl bc) rfl (.tmp 82) rfl (.inr (.inr (.inl rfl))) (by kernel_rfl) _⟩) hS ?_
                simp only [Act.put, List.setIfInBounds_toArray, List.set_cons_zero, List.set_cons_succ]
                refine takeR (i := 4) (v := .bool true) (some 84) rfl rfl (by kernel_rfl) (by kernel_rfl) (by kernel_rfl) (fun _ _ _ h => h) (Or.inl ⟨by kernel_rfl, fun w' hSw => by exact ltN_run (n := i) (k := bl) (.tmp 80) (.tmp 83) rfl (by kernel_rfl) (by kernel_rfl) (decide_eq_true hib) _⟩) hS ?_
                simp only [Act.put, List.setIfInBounds_toArray, List.set_cons_zero, List.set_cons_succ]
                refine takeR (i := 5) (v := .bool true) (some 85) rfl rfl (by kernel_rfl) (by kernel_rfl) (by kernel_rfl) (fun _ _ _ h => h) (Or.inl ⟨by kernel_rfl, fun w' hSw => by kernel_rfl⟩) hS ?_
                simp only [Act.put, List.setIfInBounds_toArray, List.set_cons_zero, List.set_cons_succ]
                refine takeR (i := 6) (v := .slice (some ⟨dg, dz, none⟩) (bl + 8) dc) (some 86) rfl rfl (by kernel_rfl) (by kernel_rfl) (by kernel_rfl) (fun _ _ _ h => h) (Or.inl ⟨by kernel_rfl, fun w' hSw => by kernel_rfl⟩) hS ?_
                simp only [Act.put, List.setIfInBounds_toArray, List.set_cons_zero, List.set_cons_succ]
                refine takeR (i := 7) (v := .int .i64 (i : Int)) (some 87) rfl rfl (by kernel_rfl) (by kernel_rfl) (by kernel_rfl) (fun _ _ _ h => h) (Or.inl ⟨by kernel_rfl, fun w' hSw => by kernel_rfl⟩) hS ?_
                simp only [Act.put, List.setIfInBounds_toArray, List.set_cons_zero, List.set_cons_succ]
                refine takeR (i := 8) (v := .pointer (some ⟨dg, dz + i, none⟩)) (some 88) rfl rfl (by kernel_rfl) (by kernel_rfl) (by kernel_rfl) (fun _ _ _ h => h) (Or.inl ⟨by kernel_rfl, fun w' hSw => by exact ixB_run (n := bl + 8) (c := dc) (.tmp 86) (.tmp 87) rfl (by kernel_rfl) (by kernel_rfl) hlti _⟩) hS ?_
                simp only [Act.put, List.setIfInBounds_toArray, List.set_cons_zero, List.set_cons_succ]
                refine takeR (i := 9) (v := .int .u8 (xi : Int)) (some 89) rfl rfl (by kernel_rfl) (by kernel_rfl) (by kernel_rfl) (fun _ _ _ h => h) (Or.inl ⟨by kernel_rfl, fun w' hSw => by exact ldY_run (.tmp 88) rfl (by kernel_rfl) hSw.2.1⟩) hS ?_
                simp only [Act.put, List.setIfInBounds_toArray, List.set_cons_zero, List.set_cons_succ]
                refine takeR (i := 10) (v := .pointer (some ⟨bx, 3, none⟩)) (some 90) rfl rfl (by kernel_rfl) (by kernel_rfl) (by kernel_rfl) (fun _ _ _ h => h) (Or.inl ⟨by kernel_rfl, fun w' hSw => by kernel_rfl⟩) hS ?_
                simp only [Act.put, List.setIfInBounds_toArray, List.set_cons_zero, List.set_cons_succ]
                refine takeR (i := 11) (v := .slice (some ⟨bg, bo, none⟩) bl bc) (some 91) rfl rfl (by kernel_rfl) (by kernel_rfl) (by kernel_rfl) (fun _ _ _ h => h) (Or.inl ⟨by kernel_rfl, fun w' hSw => by exact ldS_run (.inr (.inr (.inl rfl))) (.tmp 90) rfl (by kernel_rfl) hSw.1⟩) hS ?_
                simp only [Act.put, List.setIfInBounds_toArray, List.set_cons_zero, List.set_cons_succ]
                refine takeR (i := 12) (v := .int .i64 (i : Int)) (some 92) rfl rfl (by kernel_rfl) (by kernel_rfl) (by kernel_rfl) (fun _ _ _ h => h) (Or.inl ⟨by kernel_rfl, fun w' hSw => by kernel_rfl⟩) hS ?_
                simp only [Act.put, List.setIfInBounds_toArray, List.set_cons_zero, List.set_cons_succ]
                refine takeR (i := 13) (v := .pointer (some ⟨bg, bo + i, none⟩)) (some 93) rfl rfl (by kernel_rfl) (by kernel_rfl) (by kernel_rfl) (fun _ _ _ h => h) (Or.inl ⟨by kernel_rfl, fun w' hSw => by exact ixB_run (n := bl) (c := bc) (.tmp 91) (.tmp 92) rfl (by kernel_rfl) (by kernel_rfl) hib _⟩) hS ?_
                simp only [Act.put, List.setIfInBounds_toArray, List.set_cons_zero, List.set_cons_succ]
                refine takeR (i := 14) (v := .int .u8 (xi : Int)) (some 94) rfl rfl (by kernel_rfl) (by kernel_rfl) (by kernel_rfl) (fun _ _ _ h => h) (Or.inl ⟨by kernel_rfl, fun w' hSw => by exact ldY_run (.tmp 93) rfl (by kernel_rfl) hSw.2.2⟩) hS ?_
                simp only [Act.put, List.setIfInBounds_toArray, List.set_cons_zero, List.set_cons_succ]
                refine takeR (i := 15) (v := .bool false) (some 95) rfl rfl (by kernel_rfl) (by kernel_rfl) (by kernel_rfl) (fun _ _ _ h => h) (Or.inl ⟨by kernel_rfl, fun w' hSw => by exact ne8_run (p := xi) (.tmp 89) (.tmp 94) rfl (by kernel_rfl) (by kernel_rfl) _⟩) hS ?_
                simp only [Act.put, List.setIfInBounds_toArray, List.set_cons_zero, List.set_cons_succ]
                refine takeR (i := 16) (v := .bool false) (some 96) rfl rfl (by kernel_rfl) (by kernel_rfl) (by kernel_rfl) (fun _ _ _ h => h) (Or.inl ⟨by kernel_rfl, fun w' hSw => by kernel_rfl⟩) hS ?_
                simp only [Act.put, List.setIfInBounds_toArray, List.set_cons_zero, List.set_cons_succ]
                refine takeR (i := 17) (v := .bool false) (some 97) rfl rfl (by kernel_rfl) (by kernel_rfl) (by kernel_rfl) (fun _ _ _ h => h) (Or.inl ⟨by kernel_rfl, fun w' hSw => by kernel_rfl⟩) hS ?_
                simp only [Act.put, List.setIfInBounds_toArray, List.set_cons_zero, List.set_cons_succ]
                refine takeR (i := 18) (v := .int .i64 (i : Int)) (some 98) rfl rfl (by kernel_rfl) (by kernel_rfl) (by kernel_rfl) (fun _ _ _ h => h) (Or.inl ⟨by kernel_rfl, fun w' hSw => by kernel_rfl⟩) hS ?_
                simp only [Act.put, List.setIfInBounds_toArray, List.set_cons_zero, List.set_cons_succ]
                refine takeR (i := 19) (v := .pointer (some ⟨bx, 3, none⟩)) (some 99) rfl rfl (by kernel_rfl) (by kernel_rfl) (by kernel_rfl) (fun _ _ _ h => h) (Or.inl ⟨by kernel_rfl, fun w' hSw => by kernel_rfl⟩) hS ?_
                simp only [Act.put, List.setIfInBounds_toArray, List.set_cons_zero, List.set_cons_succ]
                refine takeR (i := 20) (v := .slice (some ⟨bg, bo, none⟩) bl bc) (some 100) rfl rfl (by kernel_rfl) (by kernel_rfl) (by kernel_rfl) (fun _ _ _ h => h) (Or.inl ⟨by kernel_rfl, fun w' hSw => by exact ldS_run (.inr (.inr (.inl rfl))) (.tmp 99) rfl (by kernel_rfl) hSw.1⟩) hS ?_
                simp only [Act.put, List.setIfInBounds_toArray, List.set_cons_zero, List.set_cons_succ]
                refine takeR (i := 21) (v := .int .i64 (bl : Int)) (some 101) rfl rfl (by kernel_rfl) (by kernel_rfl) (by kernel_rfl) (fun _ _ _ h => h) (Or.inl ⟨by kernel_rfl, fun w' hSw => by exact lenL_run (v := .slice (some ⟨bg, bo, none⟩) bl bc) rfl (.tmp 100) rfl (.inr (.inr (.inl rfl))) (by kernel_rfl) _⟩) hS ?_
                simp only [Act.put, List.setIfInBounds_toArray, List.set_cons_zero, List.set_cons_succ]
                refine takeR (i := 22) (v := .bool false) (some 102) rfl rfl (by kernel_rfl) (by kernel_rfl) (by kernel_rfl) (fun _ _ _ h => h) (Or.inl ⟨by kernel_rfl, fun w' hSw => by exact geqN_run (p := i) (q := bl) (.tmp 98) (.tmp 101) rfl (by kernel_rfl) (by kernel_rfl) (decide_eq_false (by omega)) _⟩) hS ?_
                simp only [Act.put, List.setIfInBounds_toArray, List.set_cons_zero, List.set_cons_succ]
                refine takeR (i := 23) (v := .bool false) (some 103) rfl rfl (by kernel_rfl) (by kernel_rfl) (by kernel_rfl) (fun _ _ _ h => h) (Or.inl ⟨by kernel_rfl, fun w' hSw => by kernel_rfl⟩) hS ?_
                simp only [Act.put, List.setIfInBounds_toArray, List.set_cons_zero, List.set_cons_succ]
                refine takeR (i := 24) (v := undef) (some 104) rfl rfl (by kernel_rfl) (by kernel_rfl) (by kernel_rfl) (fun _ _ _ h => h) (Or.inr ⟨by kernel_rfl, rfl⟩) hS ?_
                simp only [Act.put, List.setIfInBounds_toArray, List.set_cons_zero, List.set_cons_succ]
                refine takeR (i := 25) (v := undef) (some 105) rfl rfl (by kernel_rfl) (by kernel_rfl) (by kernel_rfl) (fun _ _ _ h => h) (Or.inr ⟨by kernel_rfl, rfl⟩) hS ?_
                simp only [Act.put, List.setIfInBounds_toArray, List.set_cons_zero, List.set_cons_succ]
                refine takeR (i := 26) (v := undef) (some 106) rfl rfl (by kernel_rfl) (by kernel_rfl) (by kernel_rfl) (fun _ _ _ h => h) (Or.inr ⟨by kernel_rfl, rfl⟩) hS ?_
                simp only [Act.put, List.setIfInBounds_toArray, List.set_cons_zero, List.set_cons_succ]
                refine takeR (i := 27) (v := undef) (some 107) rfl rfl (by kernel_rfl) (by kernel_rfl) (by kernel_rfl) (fun _ _ _ h => h) (Or.inr ⟨by kernel_rfl, rfl⟩) hS ?_
                simp only [Act.put, List.setIfInBounds_toArray, List.set_cons_zero, List.set_cons_succ]
                refine takeR (i := 28) (v := undef) (some 108) rfl rfl (by kernel_rfl) (by kernel_rfl) (by kernel_rfl) (fun _ _ _ h => h) (Or.inr ⟨by kernel_rfl, rfl⟩) hS ?_
                simp only [Act.put, List.setIfInBounds_toArray, List.set_cons_zero, List.set_cons_succ]
                refine takeR (i := 29) (v := .bool false) (some 109) rfl rfl (by kernel_rfl) (by kernel_rfl) (by kernel_rfl) (fun _ _ _ h => h) (Or.inl ⟨by kernel_rfl, fun w' hSw => by kernel_rfl⟩) hS ?_
                simp only [Act.put, List.setIfInBounds_toArray, List.set_cons_zero, List.set_cons_succ]
                refine takeR (i := 30) (v := .bool false) (some 110) rfl rfl (by kernel_rfl) (by kernel_rfl) (by kernel_rfl) (fun _ _ _ h => h) (Or.inl ⟨by kernel_rfl, fun w' hSw => by kernel_rfl⟩) hS ?_
                simp only [Act.put, List.setIfInBounds_toArray, List.set_cons_zero, List.set_cons_succ]
                refine wpAnyH_done (by kernel_rfl) ?_ _
                refine hK _ _ ?_
                clear hK hS qb3 qo
                go_wp2
                exact ⟨⟨i + 1, by omega, by go_num, H6.out⟩, by simp [RowKit.intOf]; omega⟩
              · refine wp_region_held (S := fun w' => w'.cell? ⟨bx, 3, none⟩ = some (.slice ba bl bc) ∧ w'.cell? ⟨dg, dz + i, none⟩ = some (.int .u8 ((201 : Nat) : Int))) (by kernel_rfl) ?_
                change wpAnyH _ _ _ _ _ _ _ _ (World.drew _)
                rw [hx201] at qd
                have hS := And.intro qb3 qd
                generalize wr.drew = Z5 at *
                refine takeR (i := 0) (v := .int .i64 (i : Int)) (some 80) rfl rfl (by kernel_rfl) (by kernel_rfl) (by kernel_rfl) (fun _ _ _ h => h) (Or.inl ⟨by kernel_rfl, fun w' hSw => by kernel_rfl⟩) hS ?_
                simp only [Act.put, List.setIfInBounds_toArray, List.set_cons_zero, List.set_cons_succ]
                refine takeR (i := 1) (v := .pointer (some ⟨bx, 3, none⟩)) (some 81) rfl rfl (by kernel_rfl) (by kernel_rfl) (by kernel_rfl) (fun _ _ _ h => h) (Or.inl ⟨by kernel_rfl, fun w' hSw => by kernel_rfl⟩) hS ?_
                simp only [Act.put, List.setIfInBounds_toArray, List.set_cons_zero, List.set_cons_succ]
                refine takeR (i := 2) (v := .slice ba bl bc) (some 82) rfl rfl (by kernel_rfl) (by kernel_rfl) (by kernel_rfl) (fun _ _ _ h => h) (Or.inl ⟨by kernel_rfl, fun w' hSw => by exact ldS_run (.inr (.inr (.inl rfl))) (.tmp 81) rfl (by kernel_rfl) hSw.1⟩) hS ?_
                simp only [Act.put, List.setIfInBounds_toArray, List.set_cons_zero, List.set_cons_succ]
                refine takeR (i := 3) (v := .int .i64 (bl : Int)) (some 83) rfl rfl (by kernel_rfl) (by kernel_rfl) (by kernel_rfl) (fun _ _ _ h => h) (Or.inl ⟨by kernel_rfl, fun w' hSw => by exact lenL_run (v := .slice ba bl bc) rfl (.tmp 82) rfl (.inr (.inr (.inl rfl))) (by kernel_rfl) _⟩) hS ?_
                simp only [Act.put, List.setIfInBounds_toArray, List.set_cons_zero, List.set_cons_succ]
                refine takeR (i := 4) (v := .bool false) (some 84) rfl rfl (by kernel_rfl) (by kernel_rfl) (by kernel_rfl) (fun _ _ _ h => h) (Or.inl ⟨by kernel_rfl, fun w' hSw => by exact ltN_run (n := i) (k := bl) (.tmp 80) (.tmp 83) rfl (by kernel_rfl) (by kernel_rfl) (decide_eq_false (by omega)) _⟩) hS ?_
                simp only [Act.put, List.setIfInBounds_toArray, List.set_cons_zero, List.set_cons_succ]
                refine takeR (i := 5) (v := .bool false) (some 85) rfl rfl (by kernel_rfl) (by kernel_rfl) (by kernel_rfl) (fun _ _ _ h => h) (Or.inl ⟨by kernel_rfl, fun w' hSw => by kernel_rfl⟩) hS ?_
                simp only [Act.put, List.setIfInBounds_toArray, List.set_cons_zero, List.set_cons_succ]
                refine takeR (i := 6) (v := undef) (some 86) rfl rfl (by kernel_rfl) (by kernel_rfl) (by kernel_rfl) (fun _ _ _ h => h) (Or.inr ⟨by kernel_rfl, rfl⟩) hS ?_
                simp only [Act.put, List.setIfInBounds_toArray, List.set_cons_zero, List.set_cons_succ]
                refine takeR (i := 7) (v := undef) (some 87) rfl rfl (by kernel_rfl) (by kernel_rfl) (by kernel_rfl) (fun _ _ _ h => h) (Or.inr ⟨by kernel_rfl, rfl⟩) hS ?_
                simp only [Act.put, List.setIfInBounds_toArray, List.set_cons_zero, List.set_cons_succ]
                refine takeR (i := 8) (v := undef) (some 88) rfl rfl (by kernel_rfl) (by kernel_rfl) (by kernel_rfl) (fun _ _ _ h => h) (Or.inr ⟨by kernel_rfl, rfl⟩) hS ?_
                simp only [Act.put, List.setIfInBounds_toArray, List.set_cons_zero, List.set_cons_succ]
                refine takeR (i := 9) (v := undef) (some 89) rfl rfl (by kernel_rfl) (by kernel_rfl) (by kernel_rfl) (fun _ _ _ h => h) (Or.inr ⟨by kernel_rfl, rfl⟩) hS ?_
                simp only [Act.put, List.setIfInBounds_toArray, List.set_cons_zero, List.set_cons_succ]
                refine takeR (i := 10) (v := undef) (some 90) rfl rfl (by kernel_rfl) (by kernel_rfl) (by kernel_rfl) (fun _ _ _ h => h) (Or.inr ⟨by kernel_rfl, rfl⟩) hS ?_
                simp only [Act.put, List.setIfInBounds_toArray, List.set_cons_zero, List.set_cons_succ]
                refine takeR (i := 11) (v := undef) (some 91) rfl rfl (by kernel_rfl) (by kernel_rfl) (by kernel_rfl) (fun _ _ _ h => h) (Or.inr ⟨by kernel_rfl, rfl⟩) hS ?_
                simp only [Act.put, List.setIfInBounds_toArray, List.set_cons_zero, List.set_cons_succ]
                refine takeR (i := 12) (v := undef) (some 92) rfl rfl (by kernel_rfl) (by kernel_rfl) (by kernel_rfl) (fun _ _ _ h => h) (Or.inr ⟨by kernel_rfl, rfl⟩) hS ?_
                simp only [Act.put, List.setIfInBounds_toArray, List.set_cons_zero, List.set_cons_succ]
                refine takeR (i := 13) (v := undef) (some 93) rfl rfl (by kernel_rfl) (by kernel_rfl) (by kernel_rfl) (fun _ _ _ h => h) (Or.inr ⟨by kernel_rfl, rfl⟩) hS ?_
                simp only [Act.put, List.setIfInBounds_toArray, List.set_cons_zero, List.set_cons_succ]
                refine takeR (i := 14) (v := undef) (some 94) rfl rfl (by kernel_rfl) (by kernel_rfl) (by kernel_rfl) (fun _ _ _ h => h) (Or.inr ⟨by kernel_rfl, rfl⟩) hS ?_
                simp only [Act.put, List.setIfInBounds_toArray, List.set_cons_zero, List.set_cons_succ]
                refine takeR (i := 15) (v := undef) (some 95) rfl rfl (by kernel_rfl) (by kernel_rfl) (by kernel_rfl) (fun _ _ _ h => h) (Or.inr ⟨by kernel_rfl, rfl⟩) hS ?_
                simp only [Act.put, List.setIfInBounds_toArray, List.set_cons_zero, List.set_cons_succ]
                refine takeR (i := 16) (v := .bool false) (some 96) rfl rfl (by kernel_rfl) (by kernel_rfl) (by kernel_rfl) (fun _ _ _ h => h) (Or.inl ⟨by kernel_rfl, fun w' hSw => by kernel_rfl⟩) hS ?_
                simp only [Act.put, List.setIfInBounds_toArray, List.set_cons_zero, List.set_cons_succ]
                refine takeR (i := 17) (v := .bool false) (some 97) rfl rfl (by kernel_rfl) (by kernel_rfl) (by kernel_rfl) (fun _ _ _ h => h) (Or.inl ⟨by kernel_rfl, fun w' hSw => by kernel_rfl⟩) hS ?_
                simp only [Act.put, List.setIfInBounds_toArray, List.set_cons_zero, List.set_cons_succ]
                refine takeR (i := 18) (v := .int .i64 (i : Int)) (some 98) rfl rfl (by kernel_rfl) (by kernel_rfl) (by kernel_rfl) (fun _ _ _ h => h) (Or.inl ⟨by kernel_rfl, fun w' hSw => by kernel_rfl⟩) hS ?_
                simp only [Act.put, List.setIfInBounds_toArray, List.set_cons_zero, List.set_cons_succ]
                refine takeR (i := 19) (v := .pointer (some ⟨bx, 3, none⟩)) (some 99) rfl rfl (by kernel_rfl) (by kernel_rfl) (by kernel_rfl) (fun _ _ _ h => h) (Or.inl ⟨by kernel_rfl, fun w' hSw => by kernel_rfl⟩) hS ?_
                simp only [Act.put, List.setIfInBounds_toArray, List.set_cons_zero, List.set_cons_succ]
                refine takeR (i := 20) (v := .slice ba bl bc) (some 100) rfl rfl (by kernel_rfl) (by kernel_rfl) (by kernel_rfl) (fun _ _ _ h => h) (Or.inl ⟨by kernel_rfl, fun w' hSw => by exact ldS_run (.inr (.inr (.inl rfl))) (.tmp 99) rfl (by kernel_rfl) hSw.1⟩) hS ?_
                simp only [Act.put, List.setIfInBounds_toArray, List.set_cons_zero, List.set_cons_succ]
                refine takeR (i := 21) (v := .int .i64 (bl : Int)) (some 101) rfl rfl (by kernel_rfl) (by kernel_rfl) (by kernel_rfl) (fun _ _ _ h => h) (Or.inl ⟨by kernel_rfl, fun w' hSw => by exact lenL_run (v := .slice ba bl bc) rfl (.tmp 100) rfl (.inr (.inr (.inl rfl))) (by kernel_rfl) _⟩) hS ?_
                simp only [Act.put, List.setIfInBounds_toArray, List.set_cons_zero, List.set_cons_succ]
                refine takeR (i := 22) (v := .bool true) (some 102) rfl rfl (by kernel_rfl) (by kernel_rfl) (by kernel_rfl) (fun _ _ _ h => h) (Or.inl ⟨by kernel_rfl, fun w' hSw => by exact geqN_run (p := i) (q := bl) (.tmp 98) (.tmp 101) rfl (by kernel_rfl) (by kernel_rfl) (decide_eq_true hib) _⟩) hS ?_
                simp only [Act.put, List.setIfInBounds_toArray, List.set_cons_zero, List.set_cons_succ]
                refine takeR (i := 23) (v := .bool true) (some 103) rfl rfl (by kernel_rfl) (by kernel_rfl) (by kernel_rfl) (fun _ _ _ h => h) (Or.inl ⟨by kernel_rfl, fun w' hSw => by kernel_rfl⟩) hS ?_
                simp only [Act.put, List.setIfInBounds_toArray, List.set_cons_zero, List.set_cons_succ]
                refine takeR (i := 24) (v := .slice (some ⟨dg, dz, none⟩) (bl + 8) dc) (some 104) rfl rfl (by kernel_rfl) (by kernel_rfl) (by kernel_rfl) (fun _ _ _ h => h) (Or.inl ⟨by kernel_rfl, fun w' hSw => by kernel_rfl⟩) hS ?_
                simp only [Act.put, List.setIfInBounds_toArray, List.set_cons_zero, List.set_cons_succ]
                refine takeR (i := 25) (v := .int .i64 (i : Int)) (some 105) rfl rfl (by kernel_rfl) (by kernel_rfl) (by kernel_rfl) (fun _ _ _ h => h) (Or.inl ⟨by kernel_rfl, fun w' hSw => by kernel_rfl⟩) hS ?_
                simp only [Act.put, List.setIfInBounds_toArray, List.set_cons_zero, List.set_cons_succ]
                refine takeR (i := 26) (v := .pointer (some ⟨dg, dz + i, none⟩)) (some 106) rfl rfl (by kernel_rfl) (by kernel_rfl) (by kernel_rfl) (fun _ _ _ h => h) (Or.inl ⟨by kernel_rfl, fun w' hSw => by exact ixB_run (n := bl + 8) (c := dc) (.tmp 104) (.tmp 105) rfl (by kernel_rfl) (by kernel_rfl) hlti _⟩) hS ?_
                simp only [Act.put, List.setIfInBounds_toArray, List.set_cons_zero, List.set_cons_succ]
                refine takeR (i := 27) (v := .int .u8 ((201 : Nat) : Int)) (some 107) rfl rfl (by kernel_rfl) (by kernel_rfl) (by kernel_rfl) (fun _ _ _ h => h) (Or.inl ⟨by kernel_rfl, fun w' hSw => by exact ldY_run (x0 := 201) (.tmp 106) rfl (by kernel_rfl) hSw.2⟩) hS ?_
                simp only [Act.put, List.setIfInBounds_toArray, List.set_cons_zero, List.set_cons_succ]
                refine takeR (i := 28) (v := .bool false) (some 108) rfl rfl (by kernel_rfl) (by kernel_rfl) (by kernel_rfl) (fun _ _ _ h => h) (Or.inl ⟨by kernel_rfl, fun w' hSw => by exact ne8_run (p := 201) (.tmp 107) (.const (.int .u8 201)) rfl (by kernel_rfl) rfl _⟩) hS ?_
                simp only [Act.put, List.setIfInBounds_toArray, List.set_cons_zero, List.set_cons_succ]
                refine takeR (i := 29) (v := .bool false) (some 109) rfl rfl (by kernel_rfl) (by kernel_rfl) (by kernel_rfl) (fun _ _ _ h => h) (Or.inl ⟨by kernel_rfl, fun w' hSw => by kernel_rfl⟩) hS ?_
                simp only [Act.put, List.setIfInBounds_toArray, List.set_cons_zero, List.set_cons_succ]
                refine takeR (i := 30) (v := .bool false) (some 110) rfl rfl (by kernel_rfl) (by kernel_rfl) (by kernel_rfl) (fun _ _ _ h => h) (Or.inl ⟨by kernel_rfl, fun w' hSw => by kernel_rfl⟩) hS ?_
                simp only [Act.put, List.setIfInBounds_toArray, List.set_cons_zero, List.set_cons_succ]
                refine wpAnyH_done (by kernel_rfl) ?_ _
                refine hK _ _ ?_
                clear hK hS qb3 hx201
                go_wp2
                exact ⟨⟨i + 1, by omega, by go_num, H6.out⟩, by simp [RowKit.intOf]; omega⟩
            · obtain rfl : i = bl + 8 := by omega
              have hd : Stp (1000 + s) (fun _ => False) G1 W1 G1 wr.drew := by
                obtain ⟨xs, _, _, h3⟩ := HS.out
                exact h3.trans0 (Stp.drew h3.gi)
              have hpr := H3.out.1.hs.pr
              have hgn : ∀ x T (cs : Array Value), Blk Z3 x T cs → T ≠ 67 → ¬ (x = P.g ∨ x = P.b) := fun x T cs hb hT e => by
                rcases e with e | e
                · subst e; exact Blk.neT hb hpr.ab.blk hT
                · obtain ⟨es, c, hm⟩ := hpr.ab.map.is
                  have hm2 : Z3.heap[P.b]? = some (.map es c) := hm
                  unfold Blk at hb
                  rw [e, hm2] at hb
                  cases hb
              have hrc : ∀ k ∈ P.r.ks, ∀ q, k.v.ownBlock = some q → ∀ m, G1 q ≠ (2, m) := fun k hk q hq m e => by
                have h0 : G1 q = (0, 0) := hpr.rc k hk q hq
                rw [h0] at e; simp at e
              have hrb1 : RbAt W1 P.h P.kv P.r := RbAt.stp hpr.rb HH.out.2.2 (fun q hq => by
                rcases hq with rfl | hq
                · exact hgn _ _ _ hpr.rb.blk (by decide)
                · obtain ⟨_, cur, hc⟩ := hpr.rb.row.lt hq
                  exact hgn q _ cur hc (by decide)) hrc
              have hrb2 : RbAt wr.drew P.h P.kv P.r := hrb1.stp hd (fun _ _ => id) hrc
              have hby : By wr.drew (.slice ba bl bc) l := by
                have hz : B0 ≤ W1.heap.size := Nat.le_trans (Nat.le_trans HI.out.2.2.1 H3.out.1.hs.st.size) HH.out.1.fr.size
                have hG1 : ∀ q, G1 q ≠ (0, 0) → B0 ≤ q := (H3.out.1.hs.st.low HI.out.2.2.1 HI.out.2.2.2.1 HI.out.2.2.2.2.1).2
                exact HB1.out.2.2 _ (hd.low hz hG1 fun _ e => e.elim).1
              have hrel : Rel P.a P.r := hpr.rel
              have hgt : ∀ k ∈ P.a.ks, P.a.nx < k.n := hpr.gt
              have hrh := rhear_any hrb2 ln now hby (by rw [← HI.out.2.2.2.2.2.2]; exact hbl2) (fun k hk => by
                obtain ⟨q, hq, e⟩ := hrel.sam.symm.some hrel.dp hk
                have := hgt q hq
                have := hrel.nx
                omega) (fun i => by
                have h5 : P.a.cn i ≤ 2 * N := hpr.cn i
                have := HI.out.2.1
                rw [← hrel.cn]
                omega)
              have hrh2 : Calls Try.prog 40 #[.pointer (some ⟨hg2, 0, none⟩), .int .i64 ln, .slice ba bl bc, .int .i64 now] wr.drew fun e w' => ∃ v' er, e = .returned (.tuple #[v', .int .i64 er]) ∧ Hid (∃ kv' out a', RkO wr.drew w' P.h P.kv kv' v' out a' ∧ RHdB P.r ln now l wr.drew.heap.size out a' er) := by
                rw [HGG.out.2]; exact hrh
              have qp : Blk wr.drew p 54 ((P.dk (.slice (some ⟨dg, dz, none⟩) dn dc) dn).c.cs) := HB1.out.1.stp hd nhP id
              have qb : Blk wr.drew bx 56 (opV kd hh ln (.slice ba bl bc) now) := HB1.out.2.1.stp hd (by unfold hotT; decide) id
              have hS : wr.drew.cell? ⟨p, 1, none⟩ = some (.pointer (some ⟨hg2, 0, none⟩)) ∧ wr.drew.cell? ⟨bx, 2, none⟩ = some (.int .i64 ln) ∧ wr.drew.cell? ⟨bx, 3, none⟩ = some (.slice ba bl bc) ∧ wr.drew.cell? ⟨bx, 4, none⟩ = some (.int .i64 now) :=
                ⟨by rw [← HQA.out.2]; exact qp.cell 1, qb.cell 2, qb.cell 3, qb.cell 4⟩
              have HD : Hid (Stp (1000 + s) (fun _ => False) G1 W1 G1 wr.drew ∧ RbAt wr.drew P.h P.kv P.r) := ⟨hd, hrb2⟩
              clear hd hpr hgn hrc hrb1 hrb2 hby hrel hgt hrh HS hlti
              go_upto_region 16 with fail
              rename_i K hK
              refine wp_region_held (S := fun w' => w'.cell? ⟨p, 1, none⟩ = some (.pointer (some ⟨hg2, 0, none⟩)) ∧ w'.cell? ⟨bx, 2, none⟩ = some (.int .i64 ln) ∧ w'.cell? ⟨bx, 3, none⟩ = some (.slice ba bl bc) ∧ w'.cell? ⟨bx, 4, none⟩ = some (.int .i64 now)) (by kernel_rfl) ?_
              change wpAnyH _ _ _ _ _ _ _ _ (World.drew _)
              generalize wr.drew = Z6 at *
              refine takeR (i := 0) (v := .pointer (some ⟨p, 0, none⟩)) (some 115) rfl rfl (by kernel_rfl) (by kernel_rfl) (by kernel_rfl) (fun _ _ _ h => h) (Or.inl ⟨by kernel_rfl, fun w' hSw => by kernel_rfl⟩) hS ?_
              simp only [Act.put, List.setIfInBounds_toArray, List.set_cons_zero, List.set_cons_succ]
              refine takeR (i := 1) (v := .pointer (some ⟨p, 0, none⟩)) (some 116) rfl rfl (by kernel_rfl) (by kernel_rfl) (by kernel_rfl) (fun _ _ _ h => h) (Or.inl ⟨by kernel_rfl, fun w' hSw => by kernel_rfl⟩) hS ?_
              simp only [Act.put, List.setIfInBounds_toArray, List.set_cons_zero, List.set_cons_succ]
              refine takeR (i := 2) (v := .pointer (some ⟨p, 1, none⟩)) (some 117) rfl rfl (by kernel_rfl) (by kernel_rfl) (by kernel_rfl) (fun _ _ _ h => h) (Or.inl ⟨by kernel_rfl, fun w' hSw => by kernel_rfl⟩) hS ?_
              simp only [Act.put, List.setIfInBounds_toArray, List.set_cons_zero, List.set_cons_succ]
              refine takeR (i := 3) (v := .pointer (some ⟨hg2, 0, none⟩)) (some 118) rfl rfl (by kernel_rfl) (by kernel_rfl) (by kernel_rfl) (fun _ _ _ h => h) (Or.inl ⟨by kernel_rfl, fun w' hSw => by exact ldP_run (.inr rfl) (.tmp 117) rfl (by kernel_rfl) hSw.1⟩) hS ?_
              simp only [Act.put, List.setIfInBounds_toArray, List.set_cons_zero, List.set_cons_succ]
              refine takeR (i := 4) (v := .pointer (some ⟨bx, 2, none⟩)) (some 119) rfl rfl (by kernel_rfl) (by kernel_rfl) (by kernel_rfl) (fun _ _ _ h => h) (Or.inl ⟨by kernel_rfl, fun w' hSw => by kernel_rfl⟩) hS ?_
              simp only [Act.put, List.setIfInBounds_toArray, List.set_cons_zero, List.set_cons_succ]
              refine takeR (i := 5) (v := .int .i64 ln) (some 120) rfl rfl (by kernel_rfl) (by kernel_rfl) (by kernel_rfl) (fun _ _ _ h => h) (Or.inl ⟨by kernel_rfl, fun w' hSw => by exact ldN_run (.inr rfl) (.tmp 119) rfl (by kernel_rfl) hSw.2.1⟩) hS ?_
              simp only [Act.put, List.setIfInBounds_toArray, List.set_cons_zero, List.set_cons_succ]
              refine takeR (i := 6) (v := .pointer (some ⟨bx, 3, none⟩)) (some 121) rfl rfl (by kernel_rfl) (by kernel_rfl) (by kernel_rfl) (fun _ _ _ h => h) (Or.inl ⟨by kernel_rfl, fun w' hSw => by kernel_rfl⟩) hS ?_
              simp only [Act.put, List.setIfInBounds_toArray, List.set_cons_zero, List.set_cons_succ]
              refine takeR (i := 7) (v := .slice ba bl bc) (some 122) rfl rfl (by kernel_rfl) (by kernel_rfl) (by kernel_rfl) (fun _ _ _ h => h) (Or.inl ⟨by kernel_rfl, fun w' hSw => by exact ldS_run (.inr (.inr (.inl rfl))) (.tmp 121) rfl (by kernel_rfl) hSw.2.2.1⟩) hS ?_
              simp only [Act.put, List.setIfInBounds_toArray, List.set_cons_zero, List.set_cons_succ]
              refine takeR (i := 8) (v := .pointer (some ⟨bx, 4, none⟩)) (some 123) rfl rfl (by kernel_rfl) (by kernel_rfl) (by kernel_rfl) (fun _ _ _ h => h) (Or.inl ⟨by kernel_rfl, fun w' hSw => by kernel_rfl⟩) hS ?_
              simp only [Act.put, List.setIfInBounds_toArray, List.set_cons_zero, List.set_cons_succ]
              refine takeR (i := 9) (v := .int .i64 now) (some 124) rfl rfl (by kernel_rfl) (by kernel_rfl) (by kernel_rfl) (fun _ _ _ h => h) (Or.inl ⟨by kernel_rfl, fun w' hSw => by exact ldN_run (.inl rfl) (.tmp 123) rfl (by kernel_rfl) hSw.2.2.2⟩) hS ?_
              simp only [Act.put, List.setIfInBounds_toArray, List.set_cons_zero, List.set_cons_succ]
              refine wpAnyH_ready (rs := [10]) (by kernel_rfl) (by simp) ?_
              refine AllReadyH.cons rfl (fun K1 hK1 => ?_) AllReadyH.nil
              rw [if_pos (by kernel_rfl)]
              refine callR (d := some 125) rfl 40 #[.pointer (some ⟨hg2, 0, none⟩), .int .i64 ln, .slice ba bl bc, .int .i64 now] (by kernel_rfl) hrh2 ?_
              clear hrh2 hS
              rintro e W3 ⟨v2, er2, rfl, hx⟩
              refine ⟨_, rfl, ?_⟩
              obtain ⟨kv', out2, r', hk, hrd⟩ := hx.out
              obtain ⟨nk, hfct, hee⟩ := Fct.hear H3.out.1.hs.pr.rel H3.out.1.hs.pr.gt HH.out.2.1 hrd
              subst hee
              have hph : ∀ x T (cs : Array Value), Blk Z6 x T cs → T ≠ 85 → ¬ x = P.h := fun x T cs hb hT e => by
                subst e; exact Blk.neT hb HD.out.2.blk hT
              have qp3 : Blk W3 p 54 ((P.dk (.slice (some ⟨dg, dz, none⟩) dn dc) dn).c.cs) := qp.fr hk.fr (hph _ _ _ qp (by decide))
              have qb3 : Blk W3 bx 56 (opV kd hh ln (.slice ba bl bc) now) := qb.fr hk.fr (hph _ _ _ qb (by decide))
              have hS : W3.cell? ⟨p, 1, none⟩ = some (.pointer (some ⟨hg2, 0, none⟩)) ∧ W3.cell? ⟨bx, 2, none⟩ = some (.int .i64 ln) ∧ W3.cell? ⟨bx, 3, none⟩ = some (.slice ba bl bc) ∧ W3.cell? ⟨bx, 4, none⟩ = some (.int .i64 now) :=
                ⟨by rw [← HQA.out.2]; exact qp3.cell 1, qb3.cell 2, qb3.cell 3, qb3.cell 4⟩
              obtain ⟨G2, hmd⟩ := PrAt.midF H3.out.1.hs.pr HI.out.1 (by have := HI.out.2.1; omega) HH.out.1 HD.out.1 hk hfct (by rw [← HI.out.2.2.2.2.2.2]; exact hbl2)
              have HM : Hid (Md s G1 Z3 (P.dk (.slice (some ⟨dg, dz, none⟩) dn dc) dn) N G2 W3 a' r' kv' (.slice va vn vc) v2 out out2 (nk ++ P.a.ks)) := hmd
              obtain ⟨v2a, v2c, hv2, _⟩ := hk.row.form
              obtain ⟨v2n, hv2n⟩ : ∃ v2n, v2n = out2.length := ⟨_, rfl⟩
              rw [← hv2n] at hv2
              subst hv2
              clear hx hk hrd hfct hph qp qb qp3 qb3 hmd hv2n HD
              refine hK1.out _ _ hS (fun _ => ?_)
              clear hK1
              simp only [Act.put, List.setIfInBounds_toArray, List.set_cons_zero, List.set_cons_succ]
              refine takeR (i := 11) (v := .tuple #[.slice v2a v2n v2c, .int .i64 er]) (some 114) rfl rfl (by kernel_rfl) (by kernel_rfl) (by kernel_rfl) (fun _ _ _ h => h) (Or.inl ⟨by kernel_rfl, fun w' hSw => by kernel_rfl⟩) hS ?_
              simp only [Act.put, List.setIfInBounds_toArray, List.set_cons_zero, List.set_cons_succ]
              refine takeR (i := 12) (v := .slice v2a v2n v2c) (some 126) rfl rfl (by kernel_rfl) (by kernel_rfl) (by kernel_rfl) (fun _ _ _ h => h) (Or.inl ⟨by kernel_rfl, fun w' hSw => by kernel_rfl⟩) hS ?_
              simp only [Act.put, List.setIfInBounds_toArray, List.set_cons_zero, List.set_cons_succ]
              refine takeR (i := 13) (v := .int .i64 er) (some 127) rfl rfl (by kernel_rfl) (by kernel_rfl) (by kernel_rfl) (fun _ _ _ h => h) (Or.inl ⟨by kernel_rfl, fun w' hSw => by kernel_rfl⟩) hS ?_
              simp only [Act.put, List.setIfInBounds_toArray, List.set_cons_zero, List.set_cons_succ]
              refine takeR (i := 14) (v := .slice v2a v2n v2c) (some 10) rfl rfl (by kernel_rfl) (by kernel_rfl) (by kernel_rfl) (fun _ _ _ h => h) (Or.inl ⟨by kernel_rfl, fun w' hSw => by kernel_rfl⟩) hS ?_
              simp only [Act.put, List.setIfInBounds_toArray, List.set_cons_zero, List.set_cons_succ]
              refine takeR (i := 15) (v := .int .i64 er) (some 11) rfl rfl (by kernel_rfl) (by kernel_rfl) (by kernel_rfl) (fun _ _ _ h => h) (Or.inl ⟨by kernel_rfl, fun w' hSw => by kernel_rfl⟩) hS ?_
              simp only [Act.put, List.setIfInBounds_toArray, List.set_cons_zero, List.set_cons_succ]
              refine wpAnyH_done (by kernel_rfl) ?_ _
              refine hK _ _ ?_
              clear hK hS
              have hcm := comes_any HM.out.cin
              have hcm2 : Calls Try.prog 30 #[.pointer (some ⟨p, 0, none⟩), .slice va vn vc, .slice v2a v2n v2c] W3 fun e w' => e = .returned (.bool true) ∧ Hid (∃ G' c es os, CV (2 * s + 1) G2 W3 P.p (P.dk (.slice (some ⟨dg, dz, none⟩) dn dc) dn).c (.slice va vn vc) out G' w' c es os ∧ es.length = P.es.length + 4 * P.ws.length ∧ os.length = P.os.length + 4) := by
                rw [HP.out]; exact hcm
              clear hcm
              go_upto_region 17 with fail
              rename_i K hK
              refine wp_region_lit ?_
              refine wpList_runTo rfl (some 128) rfl (.pointer (some ⟨p, 0, none⟩)) W3 (by kernel_rfl) ?_
              simp only [Act.put, List.setIfInBounds_toArray, List.set_cons_zero, List.set_cons_succ]
              refine wpList_runTo rfl (some 129) rfl (.slice va vn vc) W3 (by kernel_rfl) ?_
              simp only [Act.put, List.setIfInBounds_toArray, List.set_cons_zero, List.set_cons_succ]
              refine wpList_runTo rfl (some 130) rfl (.slice v2a v2n v2c) W3 (by kernel_rfl) ?_
              simp only [Act.put, List.setIfInBounds_toArray, List.set_cons_zero, List.set_cons_succ]
              refine wpList_callW rfl (some 131) rfl 30 #[.pointer (some ⟨p, 0, none⟩), .slice va vn vc, .slice v2a v2n v2c] (by kernel_rfl) hcm2 ?_
              clear hcm2
              rintro e W4 ⟨rfl, hx⟩
              refine ⟨_, rfl, ?_⟩
              simp only [Act.put, List.setIfInBounds_toArray, List.set_cons_zero, List.set_cons_succ]
              refine wpList_runTo rfl (some 12) rfl (.bool true) W4 (by kernel_rfl) ?_
              simp only [Act.put, List.setIfInBounds_toArray, List.set_cons_zero, List.set_cons_succ]
              refine wpList_nil ?_
              refine hK _ _ ?_
              clear hK
              have HF : Hid (StepR s G w P (N + 1) W4) := by
                obtain ⟨G', c, es, os, hcv, he, ho⟩ := hx.out
                exact StepR.comp H3.out.1.hs.st (Md.after H3.out.1.hs.pr HM.out HI.out.1 hcv he ho) rfl fun _ => Iff.rfl
              have her : ((er : Int) == er) = true := by simp
              clear hx HM H3 HH HB1 HI
              go_wp2
              go_ret
              exact ⟨rfl, HF.out⟩
end Go.Proofs.Ytdncemecnbglaaa
