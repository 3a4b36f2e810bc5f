/-
  ledger: whether what an account has goes too far.
-/
import Derived.Test.YtidhahooebepfaaJAdd
import Derived.Test.YtidhahooebepfaaJBkg
namespace Go.Proofs.Ytidhahooebepfaa
set_option linter.unusedVariables false
set_option linter.unusedSimpArgs false
open Go.RowKit Go.Great Go.Maps

def vvA (a : Am) (m f : Int) (k : Nat) : Int := if k = 0 then a.q else if k = 1 then a.c else if k = 2 then a.f else if k = 3 then m else f
def inS (x : Int) : Bool := wiB x (-1000000000000000000) 1000000000000000000
def brB (a : Am) (m f : Int) : Bool := inS a.q && inS a.c && inS a.f && inS m && inS f
theorem brB_yes {a : Am} {m f : Int} (h : ∀ j, j < 5 → inS (vvA a m f j) = true) : brB a m f = true := by
  unfold brB
  have h0 : inS a.q = true := h 0 (by decide)
  have h1 : inS a.c = true := h 1 (by decide)
  have h2 : inS a.f = true := h 2 (by decide)
  have h3 : inS m = true := h 3 (by decide)
  have h4 : inS f = true := h 4 (by decide)
  rw [h0, h1, h2, h3, h4]; rfl
theorem brB_no {a : Am} {m f : Int} {j : Nat} (hj : j < 5) (h : inS (vvA a m f j) = false) : brB a m f = false := by
  unfold brB
  rcases (by omega : j = 0 ∨ j = 1 ∨ j = 2 ∨ j = 3 ∨ j = 4) with rfl | rfl | rfl | rfl | rfl
  · rw [show inS a.q = false from h]; rfl
  · rw [show inS a.c = false from h]; simp
  · rw [show inS a.f = false from h]; simp
  · rw [show inS m = false from h]; simp
  · rw [show inS f = false from h]; simp
theorem below_setRow {B g : Nat} {a w : World} (hb : Below B a w) (hB : B ≤ g) (cs : Array Value) : Below B a (w.setRow g cs) :=
  ⟨hb.os, hb.tape, hb.output, by simpa [World.setRow] using hb.size, fun q hq => by
    have e : (w.setRow g cs).heap[q]? = w.heap[q]? := by
      simp only [World.setRow, Array.getElem?_modify]
      rw [if_neg (by omega)]
    exact e.trans (hb.block q hq)⟩
theorem Blk.rowOther {w : World} {g h : Nat} {T : TypeId} {cs : Array Value} (b : Blk w g T cs) (hne : h ≠ g) (xs : Array Value) : Blk (w.setRow h xs) g T cs := by
  have e : (w.setRow h xs).heap[g]? = w.heap[g]? := by
    simp only [World.setRow, Array.getElem?_modify]
    rw [if_neg (by omega)]
  exact e.trans b
set_option maxRecDepth 100000 in
set_option maxHeartbeats 4000000 in
theorem bears_any (G : Lg) (ac sy : ByteArray) (w : World) (h : LgAt w G) (h1 : ac.size ≤ maxLen) (h2 : sy.size ≤ maxLen) :
    Calls Try.prog 39 #[.pointer (some ⟨G.g, 0, none⟩), .string ac, .string sy] w fun e w' => e = .returned (.bool (brB (amt G.A ac sy) (tot G.O ac).1 (tot G.O ac).2)) ∧ Below w.heap.size w w' := by
  have HK1 : Hid (keyOf Try.prog 75 (.agg #[.string ac, .string sy]) = some (plK ac sy)) := keyP ac sy h1 h2
  have HK2 : Hid (keyOf Try.prog 9 (.string ac) = some (sK ac)) := keyS Try.underlying9 h1
  have HAt : Hid (∀ w', Below w.heap.size w w' → Blk w' G.g 67 G.cs ∧ (Instr.lookup 63 (.map (some G.ma)) (.agg #[.string ac, .string sy]) false).run Try.prog w' = .ok (.agg (amt G.A ac sy).cs) w' ∧ (Instr.lookup 64 (.map (some G.mo)) (.string ac) false).run Try.prog w' = .ok (.agg #[.int .i64 (tot G.O ac).1, .int .i64 (tot G.O ac).2]) w') := fun w' hb => by
    have h0 := h.below hb
    exact ⟨h0.blk, by rw [(h0.all.look lawP Try.underlying63 (zeroA _) HK1.out).2, atL_amt h0.szA h1 h2], by rw [(h0.tot.look law9 Try.underlying64 (zeroT _) HK2.out).2, atL_tot]⟩
  clear h h1 h2
  generalize amt G.A ac sy = A at *
  generalize tot G.O ac = O at *
  obtain ⟨m, f⟩ := O
  have HR1 : Hid ((∀ j, j < 5 → inS (vvA A m f j) = true) → brB A m f = true) := brB_yes
  have HR2 : Hid (∀ j, j < 5 → inS (vvA A m f j) = false → brB A m f = false) := fun j hj h => brB_no hj h
  simp only
  generalize brB A m f = R at *
  have HC : Hid (A.cs = #[.int .i64 A.q, .int .i64 A.c, .int .i64 A.f]) := rfl
  go_enter Try.func39, Try.ntmps39
  go_upto_region 1 with fail
  go_cut [7, 8] from 11 to 24 (fun x7 x8 wx => ∃ ab tb : Nat, x7 = .pointer (some ⟨ab, 0, none⟩) ∧ x8 = .pointer (some ⟨tb, 0, none⟩) ∧ Hid (Blk wx ab 73 A.cs ∧ Blk wx tb 77 #[.int .i64 m, .int .i64 f] ∧ Below w.heap.size w wx))
  case first =>
    refine wp_region_held (S := fun w' => Blk w' G.g 67 G.cs ∧ (Instr.lookup 63 (.map (some G.ma)) (.agg #[.string ac, .string sy]) false).run Try.prog w' = .ok (.agg A.cs) w' ∧ (Instr.lookup 64 (.map (some G.mo)) (.string ac) false).run Try.prog w' = .ok (.agg #[.int .i64 m, .int .i64 f]) w') (by kernel_rfl) ?_
    change wpAnyH _ _ _ _ _ _ _ _ (World.drew _)
    have hbz : Below w.heap.size w w.drew := below_drew w
    have hS := HAt.out _ hbz
    generalize w.drew = Z at *
    refine takeR (i := 0) (v := .pointer (some ⟨G.g, 0, none⟩)) (some 11) rfl rfl (by kernel_rfl) (by kernel_rfl) (by kernel_rfl) (fun _ _ _ h => h) (Or.inl ⟨by kernel_rfl, fun w' hSw => by kernel_rfl⟩) hS ?_
    simp only [Act.put, List.setIfInBounds_toArray, List.set_cons_zero, List.set_cons_succ]
    refine takeR (i := 1) (v := .pointer (some ⟨G.g, 0, none⟩)) (some 12) rfl rfl (by kernel_rfl) (by kernel_rfl) (by kernel_rfl) (fun _ _ _ h => h) (Or.inl ⟨by kernel_rfl, fun w' hSw => by kernel_rfl⟩) hS ?_
    simp only [Act.put, List.setIfInBounds_toArray, List.set_cons_zero, List.set_cons_succ]
    refine takeR (i := 2) (v := .pointer (some ⟨G.g, 0, none⟩)) (some 13) rfl rfl (by kernel_rfl) (by kernel_rfl) (by kernel_rfl) (fun _ _ _ h => h) (Or.inl ⟨by kernel_rfl, fun w' hSw => by kernel_rfl⟩) hS ?_
    simp only [Act.put, List.setIfInBounds_toArray, List.set_cons_zero, List.set_cons_succ]
    refine takeR (i := 3) (v := .map (some G.ma)) (some 14) rfl rfl (by kernel_rfl) (by kernel_rfl) (by kernel_rfl) (fun _ _ _ h => h) (Or.inl ⟨by kernel_rfl, fun w' hSw => by have q : w'.cell? ⟨G.g, 0, none⟩ = some (.map (some G.ma)) := hSw.1.cell 0; clear hSw; go_simp⟩) hS ?_
    simp only [Act.put, List.setIfInBounds_toArray, List.set_cons_zero, List.set_cons_succ]
    refine takeR (i := 4) (v := .string ac) (some 15) rfl rfl (by kernel_rfl) (by kernel_rfl) (by kernel_rfl) (fun _ _ _ h => h) (Or.inl ⟨by kernel_rfl, fun w' hSw => by kernel_rfl⟩) hS ?_
    simp only [Act.put, List.setIfInBounds_toArray, List.set_cons_zero, List.set_cons_succ]
    refine takeR (i := 5) (v := .string sy) (some 16) rfl rfl (by kernel_rfl) (by kernel_rfl) (by kernel_rfl) (fun _ _ _ h => h) (Or.inl ⟨by kernel_rfl, fun w' hSw => by kernel_rfl⟩) hS ?_
    simp only [Act.put, List.setIfInBounds_toArray, List.set_cons_zero, List.set_cons_succ]
    refine takeR (i := 6) (v := .agg #[.string ac, .string sy]) (some 17) rfl rfl (by kernel_rfl) (by kernel_rfl) (by kernel_rfl) (fun _ _ _ h => h) (Or.inl ⟨by kernel_rfl, fun w' hSw => by kernel_rfl⟩) hS ?_
    simp only [Act.put, List.setIfInBounds_toArray, List.set_cons_zero, List.set_cons_succ]
    refine takeR (i := 7) (v := .agg A.cs) (some 18) rfl rfl (by kernel_rfl) (by kernel_rfl) (by kernel_rfl) (fun _ _ _ h => h) (Or.inl ⟨by kernel_rfl, fun w' hSw => by exact exLook (.tmp 14) (.tmp 17) rfl (by kernel_rfl) (by kernel_rfl) hSw.2.1⟩) hS ?_
    simp only [Act.put, List.setIfInBounds_toArray, List.set_cons_zero, List.set_cons_succ]
    refine takeR (i := 8) (v := .pointer (some ⟨G.g, 0, none⟩)) (some 19) rfl rfl (by kernel_rfl) (by kernel_rfl) (by kernel_rfl) (fun _ _ _ h => h) (Or.inl ⟨by kernel_rfl, fun w' hSw => by kernel_rfl⟩) hS ?_
    simp only [Act.put, List.setIfInBounds_toArray, List.set_cons_zero, List.set_cons_succ]
    refine takeR (i := 9) (v := .pointer (some ⟨G.g, 0, none⟩)) (some 20) rfl rfl (by kernel_rfl) (by kernel_rfl) (by kernel_rfl) (fun _ _ _ h => h) (Or.inl ⟨by kernel_rfl, fun w' hSw => by kernel_rfl⟩) hS ?_
    simp only [Act.put, List.setIfInBounds_toArray, List.set_cons_zero, List.set_cons_succ]
    refine takeR (i := 10) (v := .pointer (some ⟨G.g, 2, none⟩)) (some 21) rfl rfl (by kernel_rfl) (by kernel_rfl) (by kernel_rfl) (fun _ _ _ h => h) (Or.inl ⟨by kernel_rfl, fun w' hSw => by kernel_rfl⟩) hS ?_
    simp only [Act.put, List.setIfInBounds_toArray, List.set_cons_zero, List.set_cons_succ]
    refine takeR (i := 11) (v := .map (some G.mo)) (some 22) rfl rfl (by kernel_rfl) (by kernel_rfl) (by kernel_rfl) (fun _ _ _ h => h) (Or.inl ⟨by kernel_rfl, fun w' hSw => by have q : w'.cell? ⟨G.g, 2, none⟩ = some (.map (some G.mo)) := hSw.1.cell 2; clear hSw; go_simp⟩) hS ?_
    simp only [Act.put, List.setIfInBounds_toArray, List.set_cons_zero, List.set_cons_succ]
    refine takeR (i := 12) (v := .string ac) (some 23) rfl rfl (by kernel_rfl) (by kernel_rfl) (by kernel_rfl) (fun _ _ _ h => h) (Or.inl ⟨by kernel_rfl, fun w' hSw => by kernel_rfl⟩) hS ?_
    simp only [Act.put, List.setIfInBounds_toArray, List.set_cons_zero, List.set_cons_succ]
    refine takeR (i := 13) (v := .agg #[.int .i64 m, .int .i64 f]) (some 24) rfl rfl (by kernel_rfl) (by kernel_rfl) (by kernel_rfl) (fun _ _ _ h => h) (Or.inl ⟨by kernel_rfl, fun w' hSw => by exact exLook (.tmp 22) (.tmp 23) rfl (by kernel_rfl) (by kernel_rfl) hSw.2.2⟩) hS ?_
    simp only [Act.put, List.setIfInBounds_toArray, List.set_cons_zero, List.set_cons_succ]
    refine wpAnyH_ready (rs := [14, 15]) (by kernel_rfl) (by simp) ?_
    refine AllReadyH.cons rfl (fun K1 hK1 => ?_) (AllReadyH.cons rfl (fun K1 hK1 => ?_) AllReadyH.nil)
    · rw [if_pos (by kernel_rfl)]
      refine valR (d := some 7) rfl (.pointer (some ⟨Z.heap.size, 0, none⟩)) (w' := Z.alloc (.cells #[.int .i64 0, .int .i64 0, .int .i64 0] 73)) (by kernel_rfl) ?_
      have hb1 : Below w.heap.size w (Z.alloc (.cells #[.int .i64 0, .int .i64 0, .int .i64 0] 73)) := hbz.alloc hbz.size _
      have k1 : Blk (Z.alloc (.cells #[.int .i64 0, .int .i64 0, .int .i64 0] 73)) Z.heap.size 73 #[.int .i64 0, .int .i64 0, .int .i64 0] := Blk.new _ _ _
      have hl1 : w.heap.size ≤ Z.heap.size := hbz.size
      refine hK1.out _ _ (HAt.out _ hb1) (fun _ => ?_)
      clear hK1
      simp only [Act.put, List.setIfInBounds_toArray, List.set_cons_zero, List.set_cons_succ]
      generalize Z.alloc (.cells #[.int .i64 0, .int .i64 0, .int .i64 0] 73) = Y at *
      generalize Z.heap.size = n1 at *
      refine wpAnyH_ready (rs := [15]) (by kernel_rfl) (by simp) ?_
      refine AllReadyH.cons rfl (fun K1 hK1 => ?_) AllReadyH.nil
      rw [if_pos (by kernel_rfl)]
      refine valR (d := some 8) rfl (.pointer (some ⟨Y.heap.size, 0, none⟩)) (w' := Y.alloc (.cells #[.int .i64 0, .int .i64 0] 77)) (by kernel_rfl) ?_
      have hb2 : Below w.heap.size w (Y.alloc (.cells #[.int .i64 0, .int .i64 0] 77)) := hb1.alloc hb1.size _
      have k2 : Blk (Y.alloc (.cells #[.int .i64 0, .int .i64 0] 77)) Y.heap.size 77 #[.int .i64 0, .int .i64 0] := Blk.new _ _ _
      have k1' := k1.alloc (.cells #[.int .i64 0, .int .i64 0] 77)
      have hl2 : w.heap.size ≤ Y.heap.size := hb1.size
      have hne : n1 ≠ Y.heap.size := by have := k1.lt; omega
      refine hK1.out _ _ (HAt.out _ hb2) (fun _ => ?_)
      clear hK1
      simp only [Act.put, List.setIfInBounds_toArray, List.set_cons_zero, List.set_cons_succ]
      clear hb1 k1
      generalize Y.alloc (.cells #[.int .i64 0, .int .i64 0] 77) = X at *
      generalize Y.heap.size = n2 at *
      refine wpAnyH_ready (rs := [16]) (by kernel_rfl) (by simp) ?_
      refine AllReadyH.cons rfl (fun K1 hK1 => ?_) AllReadyH.nil
      rw [if_pos (by kernel_rfl)]
      refine wp_store_row 73 (.tmp 7) (.tmp 18) rfl n1 A.cs (by kernel_rfl) (by kernel_rfl) 73 _ k1' (by kernel_rfl) rfl (by kernel_rfl) ?_
      have hb3 : Below w.heap.size w (X.setRow n1 A.cs) := below_setRow hb2 hl1 _
      have q1 : Blk (X.setRow n1 A.cs) n1 73 A.cs := setRow_heap _ _ _ _ _ _ k1'
      have q2 : Blk (X.setRow n1 A.cs) n2 77 #[.int .i64 0, .int .i64 0] := k2.rowOther hne _
      refine hK1.out _ _ (HAt.out _ hb3) (fun _ => ?_)
      clear hK1
      simp only [Act.put, List.setIfInBounds_toArray, List.set_cons_zero, List.set_cons_succ]
      generalize X.setRow n1 A.cs = V at *
      refine wpAnyH_ready (rs := [17]) (by kernel_rfl) (by simp) ?_
      refine AllReadyH.cons rfl (fun K1 hK1 => ?_) AllReadyH.nil
      rw [if_pos (by kernel_rfl)]
      refine wp_store_row 77 (.tmp 8) (.tmp 24) rfl n2 #[.int .i64 m, .int .i64 f] (by kernel_rfl) (by kernel_rfl) 77 _ q2 (by kernel_rfl) rfl (by kernel_rfl) ?_
      have hb4 : Below w.heap.size w (V.setRow n2 #[.int .i64 m, .int .i64 f]) := below_setRow hb3 hl2 _
      have g1 : Blk (V.setRow n2 #[.int .i64 m, .int .i64 f]) n1 73 A.cs := q1.rowOther hne.symm _
      have g2 : Blk (V.setRow n2 #[.int .i64 m, .int .i64 f]) n2 77 #[.int .i64 m, .int .i64 f] := setRow_heap _ _ _ _ _ _ q2
      refine hK1.out _ _ (HAt.out _ hb4) (fun _ => ?_)
      clear hK1
      simp only [Act.put, List.setIfInBounds_toArray, List.set_cons_zero, List.set_cons_succ]
      refine wpAnyH_done (by kernel_rfl) ?_ _
      go_wp2
      go_meet
      exact ⟨n1, n2, rfl, rfl, g1, g2, hb4⟩
    · rw [if_pos (by kernel_rfl)]
      refine valR (d := some 8) rfl (.pointer (some ⟨Z.heap.size, 0, none⟩)) (w' := Z.alloc (.cells #[.int .i64 0, .int .i64 0] 77)) (by kernel_rfl) ?_
      have hb1 : Below w.heap.size w (Z.alloc (.cells #[.int .i64 0, .int .i64 0] 77)) := hbz.alloc hbz.size _
      have k1 : Blk (Z.alloc (.cells #[.int .i64 0, .int .i64 0] 77)) Z.heap.size 77 #[.int .i64 0, .int .i64 0] := Blk.new _ _ _
      have hl1 : w.heap.size ≤ Z.heap.size := hbz.size
      refine hK1.out _ _ (HAt.out _ hb1) (fun _ => ?_)
      clear hK1
      simp only [Act.put, List.setIfInBounds_toArray, List.set_cons_zero, List.set_cons_succ]
      generalize Z.alloc (.cells #[.int .i64 0, .int .i64 0] 77) = Y at *
      generalize Z.heap.size = n1 at *
      refine wpAnyH_ready (rs := [14]) (by kernel_rfl) (by simp) ?_
      refine AllReadyH.cons rfl (fun K1 hK1 => ?_) AllReadyH.nil
      rw [if_pos (by kernel_rfl)]
      refine valR (d := some 7) rfl (.pointer (some ⟨Y.heap.size, 0, none⟩)) (w' := Y.alloc (.cells #[.int .i64 0, .int .i64 0, .int .i64 0] 73)) (by kernel_rfl) ?_
      have hb2 : Below w.heap.size w (Y.alloc (.cells #[.int .i64 0, .int .i64 0, .int .i64 0] 73)) := hb1.alloc hb1.size _
      have k2 : Blk (Y.alloc (.cells #[.int .i64 0, .int .i64 0, .int .i64 0] 73)) Y.heap.size 73 #[.int .i64 0, .int .i64 0, .int .i64 0] := Blk.new _ _ _
      have k1' := k1.alloc (.cells #[.int .i64 0, .int .i64 0, .int .i64 0] 73)
      have hl2 : w.heap.size ≤ Y.heap.size := hb1.size
      have hne : n1 ≠ Y.heap.size := by have := k1.lt; omega
      refine hK1.out _ _ (HAt.out _ hb2) (fun _ => ?_)
      clear hK1
      simp only [Act.put, List.setIfInBounds_toArray, List.set_cons_zero, List.set_cons_succ]
      clear hb1 k1
      generalize Y.alloc (.cells #[.int .i64 0, .int .i64 0, .int .i64 0] 73) = X at *
      generalize Y.heap.size = n2 at *
      refine wpAnyH_ready (rs := [16]) (by kernel_rfl) (by simp) ?_
      refine AllReadyH.cons rfl (fun K1 hK1 => ?_) AllReadyH.nil
      rw [if_pos (by kernel_rfl)]
      refine wp_store_row 73 (.tmp 7) (.tmp 18) rfl n2 A.cs (by kernel_rfl) (by kernel_rfl) 73 _ k2 (by kernel_rfl) rfl (by kernel_rfl) ?_
      have hb3 : Below w.heap.size w (X.setRow n2 A.cs) := below_setRow hb2 hl2 _
      have q1 : Blk (X.setRow n2 A.cs) n2 73 A.cs := setRow_heap _ _ _ _ _ _ k2
      have q2 : Blk (X.setRow n2 A.cs) n1 77 #[.int .i64 0, .int .i64 0] := k1'.rowOther hne.symm _
      refine hK1.out _ _ (HAt.out _ hb3) (fun _ => ?_)
      clear hK1
      simp only [Act.put, List.setIfInBounds_toArray, List.set_cons_zero, List.set_cons_succ]
      generalize X.setRow n2 A.cs = V at *
      refine wpAnyH_ready (rs := [17]) (by kernel_rfl) (by simp) ?_
      refine AllReadyH.cons rfl (fun K1 hK1 => ?_) AllReadyH.nil
      rw [if_pos (by kernel_rfl)]
      refine wp_store_row 77 (.tmp 8) (.tmp 24) rfl n1 #[.int .i64 m, .int .i64 f] (by kernel_rfl) (by kernel_rfl) 77 _ q2 (by kernel_rfl) rfl (by kernel_rfl) ?_
      have hb4 : Below w.heap.size w (V.setRow n1 #[.int .i64 m, .int .i64 f]) := below_setRow hb3 hl1 _
      have g1 : Blk (V.setRow n1 #[.int .i64 m, .int .i64 f]) n2 73 A.cs := q1.rowOther hne _
      have g2 : Blk (V.setRow n1 #[.int .i64 m, .int .i64 f]) n1 77 #[.int .i64 m, .int .i64 f] := setRow_heap _ _ _ _ _ _ q2
      refine hK1.out _ _ (HAt.out _ hb4) (fun _ => ?_)
      clear hK1
      simp only [Act.put, List.setIfInBounds_toArray, List.set_cons_zero, List.set_cons_succ]
      refine wpAnyH_done (by kernel_rfl) ?_ _
      go_wp2
      go_meet
      exact ⟨n2, n1, rfl, rfl, g1, g2, hb4⟩
  case rest =>
    obtain ⟨ab, tb, rfl, rfl, HB⟩ := hcut
    clear HAt HK1 HK2
    have a0 : wc.cell? ⟨ab, 0, none⟩ = some (.int .i64 A.q) := HB.out.1.cell 0
    have a1 : wc.cell? ⟨ab, 1, none⟩ = some (.int .i64 A.c) := HB.out.1.cell 1
    have a2 : wc.cell? ⟨ab, 2, none⟩ = some (.int .i64 A.f) := HB.out.1.cell 2
    have t0 : wc.cell? ⟨tb, 0, none⟩ = some (.int .i64 m) := HB.out.2.1.cell 0
    have t1 : wc.cell? ⟨tb, 1, none⟩ = some (.int .i64 f) := HB.out.2.1.cell 1
    have hps : (∀ k : Nat, k < 5 → ∀ (W : World), (Instr.index 106 (.agg #[.int .i64 A.q, .int .i64 A.c, .int .i64 A.f, .int .i64 m, .int .i64 f]) (.int .i64 (k : Int))).run Try.prog W = .ok (.int .i64 (vvA A m f k)) W) := fun k hk W => by
      rcases (by omega : k = 0 ∨ k = 1 ∨ k = 2 ∨ k = 3 ∨ k = 4) with rfl | rfl | rfl | rfl | rfl
      · kernel_rfl
      · kernel_rfl
      · kernel_rfl
      · kernel_rfl
      · kernel_rfl
    have HPs : Hid (∀ k : Nat, k < 5 → ∀ (W : World), (Instr.index 106 (.agg #[.int .i64 A.q, .int .i64 A.c, .int .i64 A.f, .int .i64 m, .int .i64 f]) (.int .i64 (k : Int))).run Try.prog W = .ok (.int .i64 (vvA A m f k)) W) := hps
    have HBl : Hid (Below w.heap.size w wc) := HB.out.2.2
    clear hps HB
    go_wp2
    go_loop [36] (fun i => ∃ k : Nat, k ≤ 5 ∧ i = .int .i64 k ∧ Hid (∀ j, j < k → inS (vvA A m f j) = true)) (fun i => 5 - (intOf i).toNat)
    case atStart => exact ⟨0, by omega, rfl, fun j hj => by omega⟩
    case round =>
      obtain ⟨k, hk, rfl, HI⟩ := hrel
      by_cases hlt : k < 5
      · have hlt' : (k : Int) < 5 := by omega
        have hin := fun W => within_any (vvA A m f k) (-1000000000000000000) 1000000000000000000 W
        have HIn : Hid (wiB (vvA A m f k) (-1000000000000000000) 1000000000000000000 = inS (vvA A m f k)) := rfl
        rw [HIn.out] at hin
        have HIx := HPs.out k hlt
        have HIxH : Hid (∀ (W : World), (Instr.index 106 (.agg #[.int .i64 A.q, .int .i64 A.c, .int .i64 A.f, .int .i64 m, .int .i64 f]) (.int .i64 (k : Int))).run Try.prog W = .ok (.int .i64 (vvA A m f k)) W) := HIx
        clear HIx HIn
        have HNo : Hid (inS (vvA A m f k) = false → R = false) := HR2.out k hlt
        have HUp : Hid (inS (vvA A m f k) = true → ∀ j, j < k + 1 → inS (vvA A m f j) = true) := fun h j hj => by
          by_cases e : j = k
          · rw [e]; exact h
          · exact HI.out j (by omega)
        generalize vvA A m f k = x at *
        go_upto_region 4 with fail
        rename_i K4 hK4
        refine wp_region_lit ?_
        refine wpList_runTo rfl (some 38) rfl (.int .i64 x) wc (by exact exIdx (.tmp 35) (.tmp 36) rfl (by kernel_rfl) (by kernel_rfl) (HIxH.out wc)) ?_
        simp only [Act.put, List.setIfInBounds_toArray, List.set_cons_zero, List.set_cons_succ]
        refine wpList_runTo rfl (some 10) rfl (.int .i64 x) wc (by kernel_rfl) ?_
        simp only [Act.put, List.setIfInBounds_toArray, List.set_cons_zero, List.set_cons_succ]
        refine wpList_nil ?_
        refine hK4 _ _ ?_
        clear hK4 HIxH
        go_wp2_with (go_at_call 36; fail)
        refine (hin _).mono ?_
        rintro e w2 ⟨rfl, ew⟩
        replace ew := ew.symm
        subst ew
        cases hx : inS x
        · have HF : Hid (R = false) := HNo.out hx
          clear hx hin
          go_wp2
          go_ret
          exact ⟨by rw [HF.out]; rfl, HBl.out⟩
        · have HF : Hid (∀ j, j < k + 1 → inS (vvA A m f j) = true) := HUp.out hx
          clear hx hin
          go_wp2
          exact ⟨⟨k + 1, by omega, by go_num, HF⟩, by simp [intOf]; omega⟩
      · have hk5 : k = 5 := by omega
        have HF : Hid (R = true) := HR1.out (fun j hj => HI.out j (by omega))
        have hstop : ¬ (k : Int) < 5 := by omega
        clear hlt hk5
        go_wp2
        go_ret
        exact ⟨by rw [HF.out]; rfl, HBl.out⟩
end Go.Proofs.Ytidhahooebepfaa
