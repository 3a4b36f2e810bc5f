/-
  fix: FixKnown's walk.
-/
import Derived.Test.YtchkpggdndnpjaaGreatDoorFxKn0
import Derived.Test.YtchkpggdndnpjaaGreatDoorG31
import Derived.Deep.RegionLaw
import Derived.Deep.DeepCutAuto
import Derived.Deep.CutBlock
namespace Go.Proofs.YtchkpggdndnpjaaGreatDoor
set_option linter.unusedVariables false
set_option linter.unusedSimpArgs false
open Go.RowKit Go.Great

/-- The rows that the law lays, in memory. -/
structure KW (w W : World) (g0 g5 g6 g7 g8 : Nat) : Prop where
  below : Below w.heap.size w W
  f0 : W.heap[g0]? = some (.cells #[.int .i64 35, .string ⟨#[49]⟩, .int .i64 49, .string ⟨#[65]⟩, .int .i64 56, .string ⟨#[66]⟩, .int .i64 34, .string ⟨#[55]⟩, .int .i64 52, .string ⟨#[50, 48, 50, 52, 48, 50, 50, 57, 45, 49, 50, 58, 51, 52, 58, 53, 54]⟩] 51 (0, 0))
  f5 : W.heap[g5]? = some (.cells #[.int .i64 1, .int .i64 2, .int .i64 0, .int .i64 5, .int .i64 11] 3 (0, 0))
  f6 : W.heap[g6]? = some (.cells #[.int .i64 112, .int .i64 44, .int .i64 9000, .int .i64 34, .int .i64 35] 3 (0, 0))
  f7 : W.heap[g7]? = some (.cells #[.int .i64 5, .int .i64 1, .int .i64 1, .int .i64 3, .int .i64 0] 3 (0, 0))
  f8 : W.heap[g8]? = some (.cells #[.int .i64 50, .int .i64 53, .int .i64 52, .int .i64 31, .int .i64 30] 30 (0, 0))
  lt : w.heap.size ≤ g0 ∧ g0 < g5 ∧ g5 < g6 ∧ g6 < g7 ∧ g7 < g8
/-- What is kept of it behind the switch. -/
structure KT (w W : World) (g5 g6 g7 g8 : Nat) : Prop where
  below : Below w.heap.size w W
  f5 : W.heap[g5]? = some (.cells #[.int .i64 1, .int .i64 2, .int .i64 0, .int .i64 5, .int .i64 11] 3 (0, 0))
  f6 : W.heap[g6]? = some (.cells #[.int .i64 112, .int .i64 44, .int .i64 9000, .int .i64 34, .int .i64 35] 3 (0, 0))
  f7 : W.heap[g7]? = some (.cells #[.int .i64 5, .int .i64 1, .int .i64 1, .int .i64 3, .int .i64 0] 3 (0, 0))
  f8 : W.heap[g8]? = some (.cells #[.int .i64 50, .int .i64 53, .int .i64 52, .int .i64 31, .int .i64 30] 30 (0, 0))
theorem KT.low {w W W' : World} {g5 g6 g7 g8 : Nat} (h : KT w W g5 g6 g7 g8) (hb : Below W.heap.size W W') : KT w W' g5 g6 g7 g8 :=
  have lt : ∀ {g : Nat} {o : Obj}, W.heap[g]? = some o → g < W.heap.size := fun h => (Array.getElem?_eq_some_iff.1 h).1
  ⟨h.below.trans (hb.mono h.below.size), (hb.block _ (lt h.f5)).trans h.f5, (hb.block _ (lt h.f6)).trans h.f6, (hb.block _ (lt h.f7)).trans h.f7, (hb.block _ (lt h.f8)).trans h.f8⟩
theorem KW.kt {w W : World} {g0 g5 g6 g7 g8 : Nat} (h : KW w W g0 g5 g6 g7 g8) : KT w W g5 g6 g7 g8 := ⟨h.below, h.f5, h.f6, h.f7, h.f8⟩
theorem KW.put {w W : World} {g0 g5 g6 g7 g8 : Nat} (h : KW w W g0 g5 g6 g7 g8) (i : Nat) (v : Value) : KT w (W.setCell ⟨g0, i, none⟩ v) g5 g6 g7 g8 := by
  obtain ⟨l0, l1, l2, l3, l4⟩ := h.lt
  have e : ∀ g, g0 < g → (W.setCell ⟨g0, i, none⟩ v).heap[g]? = W.heap[g]? := fun g hg => by
    rw [setCell_eq_setRow W g0 i _ _ _ v h.f0]
    exact setRow_other _ _ _ _ (by omega)
  exact ⟨h.below.setCell l0 _, (e g5 (by omega)).trans h.f5, (e g6 (by omega)).trans h.f6, (e g7 (by omega)).trans h.f7, (e g8 (by omega)).trans h.f8⟩
theorem alloc_get {w : World} {o : Obj} {g : Nat} (h : g < w.heap.size) : (w.alloc o).heap[g]? = w.heap[g]? := ((Below.refl _ w).alloc (Nat.le_refl _) o).block g h
theorem alloc_top (w : World) (o : Obj) {g : Nat} (h : g = w.heap.size) : (w.alloc o).heap[g]? = some o := by rw [h]; exact heap_alloc_new w o
def flatF : List Fld → List Value
  | [] => []
  | f :: r => .int .i64 f.1 :: .string (bs f.2) :: flatF r
theorem flat_at : ∀ (fs : List Fld) (j : Nat) (f : Fld), fs[j]? = some f → (flatF fs)[j * 2]? = some (.int .i64 f.1) ∧ (flatF fs)[j * 2 + 1]? = some (.string (bs f.2))
  | [], j, f, h => by simp at h
  | x :: r, 0, f, h => by
    simp at h
    subst h
    exact ⟨rfl, rfl⟩
  | x :: r, j + 1, f, h => by
    have h2 := flat_at r j f (by simpa using h)
    rw [show (j + 1) * 2 = j * 2 + 1 + 1 by omega]
    exact ⟨h2.1, h2.2⟩
theorem src_flat {w : World} {g n : Nat} {t : TypeId} {fr : Nat × Nat} {fs : List Fld} (h : w.heap[g]? = some (.cells (flatF fs).toArray t fr)) (hn : n = fs.length) : SrcF w (.slice (some ⟨g, 0, none⟩) n n) fs := by
  subst hn
  refine ⟨some ⟨g, 0, none⟩, fs.length, rfl, Nat.le_refl _, .inr ⟨g, 0, rfl, fun j f hj => ?_⟩⟩
  rw [cell_of_row _ _ _ _ _ _ h, cell_of_row _ _ _ _ _ _ h, Nat.zero_add]
  simpa using flat_at fs j f hj
theorem KW.src {w W : World} {g0 g5 g6 g7 g8 : Nat} (h : KW w W g0 g5 g6 g7 g8) : SrcF W (.slice (some ⟨g0, 0, none⟩) 5 5) (knF 0) := src_flat (t := 51) (fr := (0, 0)) (h.f0.trans (by kernel_rfl)) rfl
theorem KW.src3 {w W : World} {g0 g5 g6 g7 g8 : Nat} (h : KW w W g0 g5 g6 g7 g8) : SrcF (W.setCell ⟨g0, 7, none⟩ (.string ⟨#[48, 55]⟩)) (.slice (some ⟨g0, 0, none⟩) 5 5) (knF 3) := by
  refine src_flat (t := 51) (fr := (0, 0)) ?_ rfl
  rw [setCell_eq_setRow W g0 7 _ _ _ _ h.f0]
  exact (setRow_heap W g0 _ _ _ _ h.f0).trans (by kernel_rfl)
theorem KW.src4 {w W : World} {g0 g5 g6 g7 g8 : Nat} (h : KW w W g0 g5 g6 g7 g8) : SrcF (W.setCell ⟨g0, 1, none⟩ (.string ⟨#[90]⟩)) (.slice (some ⟨g0, 0, none⟩) 5 5) (knF 4) := by
  refine src_flat (t := 51) (fr := (0, 0)) ?_ rfl
  rw [setCell_eq_setRow W g0 1 _ _ _ _ h.f0]
  exact (setRow_heap W g0 _ _ _ _ h.f0).trans (by kernel_rfl)
theorem KW.low {w W W' : World} {g0 g5 g6 g7 g8 : Nat} (h : KW w W g0 g5 g6 g7 g8) (hb : Below W.heap.size W W') : KW w W' g0 g5 g6 g7 g8 :=
  have lt : ∀ {g : Nat} {o : Obj}, W.heap[g]? = some o → g < W.heap.size := fun h => (Array.getElem?_eq_some_iff.1 h).1
  ⟨h.below.trans (hb.mono h.below.size), (hb.block _ (lt h.f0)).trans h.f0, (hb.block _ (lt h.f5)).trans h.f5, (hb.block _ (lt h.f6)).trans h.f6, (hb.block _ (lt h.f7)).trans h.f7, (hb.block _ (lt h.f8)).trans h.f8, h.lt⟩
theorem KW.new {w W : World} {g0 g5 g6 g7 g8 : Nat} (h : KW w W g0 g5 g6 g7 g8) (k : Nat) (cs : Array Value) (hc : cs = (flatF (knF k)).toArray) (hl : (knF k).length = 6) :
    SrcF (W.alloc (.cells cs 51)) (.slice (some ⟨W.heap.size, 0, none⟩) 6 6) (knF k) ∧ KT w (W.alloc (.cells cs 51)) g5 g6 g7 g8 := by
  subst hc
  refine ⟨src_flat (t := 51) (fr := (0, 0)) ?_ hl.symm, ?_⟩
  · exact heap_alloc_new W _
  · exact h.kt.low ((Below.refl _ W).alloc (Nat.le_refl _) _)
/-- Field j of the row. -/
def KS (g0 : Nat) (w' : World) : Prop := w'.heap[g0]? = some (.cells #[.int .i64 35, .string ⟨#[49]⟩, .int .i64 49, .string ⟨#[65]⟩, .int .i64 56, .string ⟨#[66]⟩, .int .i64 34, .string ⟨#[55]⟩, .int .i64 52, .string ⟨#[50, 48, 50, 52, 48, 50, 50, 57, 45, 49, 50, 58, 51, 52, 58, 53, 54]⟩] 51 (0, 0))
theorem kw_new {w w1 : World} (h : Below w.heap.size w w1) : KW w (((((w1.alloc (Obj.cells #[.int .i64 35, .string ⟨#[49]⟩, .int .i64 49, .string ⟨#[65]⟩, .int .i64 56, .string ⟨#[66]⟩, .int .i64 34, .string ⟨#[55]⟩, .int .i64 52, .string ⟨#[50, 48, 50, 52, 48, 50, 50, 57, 45, 49, 50, 58, 51, 52, 58, 53, 54]⟩] 51)).alloc (Obj.cells #[.int .i64 1, .int .i64 2, .int .i64 0, .int .i64 5, .int .i64 11] 3)).alloc (Obj.cells #[.int .i64 112, .int .i64 44, .int .i64 9000, .int .i64 34, .int .i64 35] 3)).alloc (Obj.cells #[.int .i64 5, .int .i64 1, .int .i64 1, .int .i64 3, .int .i64 0] 3)).alloc (Obj.cells #[.int .i64 50, .int .i64 53, .int .i64 52, .int .i64 31, .int .i64 30] 30)) w1.heap.size (w1.heap.size + 1) (w1.heap.size + 1 + 1) (w1.heap.size + 1 + 1 + 1) (w1.heap.size + 1 + 1 + 1 + 1) := by
  have hs := h.size
  refine ⟨((((h.alloc hs _).alloc (by simp; omega) _).alloc (by simp; omega) _).alloc (by simp; omega) _).alloc (by simp; omega) _, ?_, ?_, ?_, ?_, ?_, by omega⟩
  · iterate 4 rw [alloc_get (by first | (simp; done) | (simp; omega))]
    exact heap_alloc_new w1 _
  · iterate 3 rw [alloc_get (by first | (simp; done) | (simp; omega))]
    exact alloc_top _ _ (by simp)
  · iterate 2 rw [alloc_get (by first | (simp; done) | (simp; omega))]
    exact alloc_top _ _ (by simp)
  · rw [alloc_get (by first | (simp; done) | (simp; omega))]
    exact alloc_top _ _ (by simp)
  · exact alloc_top _ _ (by simp)
set_option maxRecDepth 100000 in
set_option maxHeartbeats 16000000 in
theorem FixKnown_law (c : Int) (w : World) (c0 : -9223372036854775808 ≤ c) (c1 : c ≤ 9223372036854775807) (he : Env w) :
    Calls Tryz.prog 8 #[.int .i64 c] w fun e w' => e = .returned (.bool true) ∧ Below w.heap.size w w' := by
  have HE : Hid (Env w) := he
  have hsh := shown_any w he.mon he.pow he.ety
  clear he
  have hk := pickN_lt c (n := 5) (by decide)
  obtain ⟨k, hkk⟩ : ∃ k, k = pickN c 5 := ⟨_, rfl⟩
  have HPK : Hid (∀ W, Calls Tryz.prog 15 #[.int .i64 c, .int .i64 5] W fun e w' => e = .returned (.int .i64 (k : Int)) ∧ w' = W) := fun W => by rw [hkk]; exact pick_any c _ 5 rfl W (by decide) (by decide) c0 c1
  rw [← hkk] at hk
  clear hkk c0 c1
  go_enter Tryz.func8, Tryz.ntmps8
  go_wp2_with (go_at_call 9; fail)
  refine hsh.mono ?_
  clear hsh
  rintro e w1 ⟨rfl, hb1⟩
  go_upto_region 7 with fail
  have HKW : Hid (KW w _ _ _ _ _ _) := kw_new hb1
  generalize ((((w1.alloc (Obj.cells #[.int .i64 35, .string ⟨#[49]⟩, .int .i64 49, .string ⟨#[65]⟩, .int .i64 56, .string ⟨#[66]⟩, .int .i64 34, .string ⟨#[55]⟩, .int .i64 52, .string ⟨#[50, 48, 50, 52, 48, 50, 50, 57, 45, 49, 50, 58, 51, 52, 58, 53, 54]⟩] 51)).alloc (Obj.cells #[.int .i64 1, .int .i64 2, .int .i64 0, .int .i64 5, .int .i64 11] 3)).alloc (Obj.cells #[.int .i64 112, .int .i64 44, .int .i64 9000, .int .i64 34, .int .i64 35] 3)).alloc (Obj.cells #[.int .i64 5, .int .i64 1, .int .i64 1, .int .i64 3, .int .i64 0] 3)).alloc (Obj.cells #[.int .i64 50, .int .i64 53, .int .i64 52, .int .i64 31, .int .i64 30] 30) = W at *
  generalize w1.heap.size + 1 + 1 + 1 + 1 = g8 at *
  generalize w1.heap.size + 1 + 1 + 1 = g7 at *
  generalize w1.heap.size + 1 + 1 = g6 at *
  generalize w1.heap.size + 1 = g5 at *
  generalize w1.heap.size = g0 at *
  clear hb1
  go_upto_block 0 with (go_at_call 15; refine (HPK.out _).mono ?_; rintro e w2 ⟨rfl, ew⟩; replace ew := ew.symm; subst ew)
  clear HPK
  go_cut [10] (fun v wx => ∃ g n, v = .slice (some ⟨g, 0, none⟩) n n ∧ SrcF wx (.slice (some ⟨g, 0, none⟩) n n) (knF k) ∧ KT w wx g5 g6 g7 g8)
  case first =>
    have HF0 : Hid (∀ i, W.cell? ⟨g0, i, none⟩ = (#[.int .i64 35, .string ⟨#[49]⟩, .int .i64 49, .string ⟨#[65]⟩, .int .i64 56, .string ⟨#[66]⟩, .int .i64 34, .string ⟨#[55]⟩, .int .i64 52, .string ⟨#[50, 48, 50, 52, 48, 50, 50, 57, 45, 49, 50, 58, 51, 52, 58, 53, 54]⟩] : Array Value)[i]?) := fun i => cell_of_row _ _ _ _ _ _ HKW.out.f0
    rcases (by omega : k = 0 ∨ k = 1 ∨ k = 2 ∨ k = 3 ∨ k = 4) with rfl | rfl | rfl | rfl | rfl
    · skip
      have HS : Hid _ := (⟨HKW.out.src, HKW.out.kt⟩ : _ ∧ _)
      clear HF0 HKW
      go_wp2_with fail
      go_meet
      exact ⟨_, _, rfl, HS.out⟩
    · skip
      go_upto_region 11 with fail
      rename_i Kc hKc
      refine wp_region_held (S := KS g0) (by kernel_rfl) ?_
      change wpAnyH _ _ _ _ _ _ _ _ (World.drew _)
      have HK2 : Hid (KW w W.drew g0 g5 g6 g7 g8) := HKW.out.low (below_drewN (Below.refl _ _) 1)
      have hS : KS g0 W.drew := HK2.out.f0
      clear HKW HF0
      generalize W.drew = w2 at *
      refine takeR (i := 0) (v := .slice (some ⟨g0, 0, none⟩) 5 5) (some 40) rfl rfl (by kernel_rfl) (by kernel_rfl) (by kernel_rfl) (fun _ _ _ h => h) (Or.inl ⟨by kernel_rfl, fun w' hSw => by kernel_rfl⟩) hS ?_
      simp only [Act.put, List.setIfInBounds_toArray, List.set_cons_zero, List.set_cons_succ]
      refine takeR (i := 1) (v := .pointer (some ⟨g0, 0, none⟩)) (some 41) rfl rfl (by kernel_rfl) (by kernel_rfl) (by kernel_rfl) (fun _ _ _ h => h) (Or.inl ⟨by kernel_rfl, fun w' hSw => by kernel_rfl⟩) hS ?_
      simp only [Act.put, List.setIfInBounds_toArray, List.set_cons_zero, List.set_cons_succ]
      refine takeR (i := 2) (v := .agg #[.int .i64 35, .string ⟨#[49]⟩]) (some 42) rfl rfl (by kernel_rfl) (by kernel_rfl) (by kernel_rfl) (fun _ _ _ h => h) (Or.inl ⟨by kernel_rfl, fun w' hSw => by have q0 : w'.cell? ⟨g0, 0, none⟩ = some (.int .i64 35) := cell_of_row _ _ _ _ _ _ hSw; have q1 : w'.cell? ⟨g0, 1, none⟩ = some (.string ⟨#[49]⟩) := cell_of_row _ _ _ _ _ _ hSw; clear hSw; go_simp⟩) hS ?_
      simp only [Act.put, List.setIfInBounds_toArray, List.set_cons_zero, List.set_cons_succ]
      refine takeR (i := 3) (v := .agg #[.int .i64 44, .string ⟨#[49]⟩]) (some 43) rfl rfl (by kernel_rfl) (by kernel_rfl) (by kernel_rfl) (fun _ _ _ h => h) (Or.inl ⟨by kernel_rfl, fun w' hSw => by kernel_rfl⟩) hS ?_
      simp only [Act.put, List.setIfInBounds_toArray, List.set_cons_zero, List.set_cons_succ]
      refine takeR (i := 4) (v := .slice (some ⟨g0, 0, none⟩) 5 5) (some 44) rfl rfl (by kernel_rfl) (by kernel_rfl) (by kernel_rfl) (fun _ _ _ h => h) (Or.inl ⟨by kernel_rfl, fun w' hSw => by kernel_rfl⟩) hS ?_
      simp only [Act.put, List.setIfInBounds_toArray, List.set_cons_zero, List.set_cons_succ]
      refine takeR (i := 5) (v := .pointer (some ⟨g0, 2, none⟩)) (some 45) rfl rfl (by kernel_rfl) (by kernel_rfl) (by kernel_rfl) (fun _ _ _ h => h) (Or.inl ⟨by kernel_rfl, fun w' hSw => by kernel_rfl⟩) hS ?_
      simp only [Act.put, List.setIfInBounds_toArray, List.set_cons_zero, List.set_cons_succ]
      refine takeR (i := 6) (v := .agg #[.int .i64 49, .string ⟨#[65]⟩]) (some 46) rfl rfl (by kernel_rfl) (by kernel_rfl) (by kernel_rfl) (fun _ _ _ h => h) (Or.inl ⟨by kernel_rfl, fun w' hSw => by have q0 : w'.cell? ⟨g0, 2, none⟩ = some (.int .i64 49) := cell_of_row _ _ _ _ _ _ hSw; have q1 : w'.cell? ⟨g0, 3, none⟩ = some (.string ⟨#[65]⟩) := cell_of_row _ _ _ _ _ _ hSw; clear hSw; go_simp⟩) hS ?_
      simp only [Act.put, List.setIfInBounds_toArray, List.set_cons_zero, List.set_cons_succ]
      refine takeR (i := 7) (v := .slice (some ⟨g0, 0, none⟩) 5 5) (some 47) rfl rfl (by kernel_rfl) (by kernel_rfl) (by kernel_rfl) (fun _ _ _ h => h) (Or.inl ⟨by kernel_rfl, fun w' hSw => by kernel_rfl⟩) hS ?_
      simp only [Act.put, List.setIfInBounds_toArray, List.set_cons_zero, List.set_cons_succ]
      refine takeR (i := 8) (v := .pointer (some ⟨g0, 4, none⟩)) (some 48) rfl rfl (by kernel_rfl) (by kernel_rfl) (by kernel_rfl) (fun _ _ _ h => h) (Or.inl ⟨by kernel_rfl, fun w' hSw => by kernel_rfl⟩) hS ?_
      simp only [Act.put, List.setIfInBounds_toArray, List.set_cons_zero, List.set_cons_succ]
      refine takeR (i := 9) (v := .agg #[.int .i64 56, .string ⟨#[66]⟩]) (some 49) rfl rfl (by kernel_rfl) (by kernel_rfl) (by kernel_rfl) (fun _ _ _ h => h) (Or.inl ⟨by kernel_rfl, fun w' hSw => by have q0 : w'.cell? ⟨g0, 4, none⟩ = some (.int .i64 56) := cell_of_row _ _ _ _ _ _ hSw; have q1 : w'.cell? ⟨g0, 5, none⟩ = some (.string ⟨#[66]⟩) := cell_of_row _ _ _ _ _ _ hSw; clear hSw; go_simp⟩) hS ?_
      simp only [Act.put, List.setIfInBounds_toArray, List.set_cons_zero, List.set_cons_succ]
      refine takeR (i := 10) (v := .slice (some ⟨g0, 0, none⟩) 5 5) (some 50) rfl rfl (by kernel_rfl) (by kernel_rfl) (by kernel_rfl) (fun _ _ _ h => h) (Or.inl ⟨by kernel_rfl, fun w' hSw => by kernel_rfl⟩) hS ?_
      simp only [Act.put, List.setIfInBounds_toArray, List.set_cons_zero, List.set_cons_succ]
      refine takeR (i := 11) (v := .pointer (some ⟨g0, 6, none⟩)) (some 51) rfl rfl (by kernel_rfl) (by kernel_rfl) (by kernel_rfl) (fun _ _ _ h => h) (Or.inl ⟨by kernel_rfl, fun w' hSw => by kernel_rfl⟩) hS ?_
      simp only [Act.put, List.setIfInBounds_toArray, List.set_cons_zero, List.set_cons_succ]
      refine takeR (i := 12) (v := .agg #[.int .i64 34, .string ⟨#[55]⟩]) (some 52) rfl rfl (by kernel_rfl) (by kernel_rfl) (by kernel_rfl) (fun _ _ _ h => h) (Or.inl ⟨by kernel_rfl, fun w' hSw => by have q0 : w'.cell? ⟨g0, 6, none⟩ = some (.int .i64 34) := cell_of_row _ _ _ _ _ _ hSw; have q1 : w'.cell? ⟨g0, 7, none⟩ = some (.string ⟨#[55]⟩) := cell_of_row _ _ _ _ _ _ hSw; clear hSw; go_simp⟩) hS ?_
      simp only [Act.put, List.setIfInBounds_toArray, List.set_cons_zero, List.set_cons_succ]
      refine takeR (i := 13) (v := .slice (some ⟨g0, 0, none⟩) 5 5) (some 53) rfl rfl (by kernel_rfl) (by kernel_rfl) (by kernel_rfl) (fun _ _ _ h => h) (Or.inl ⟨by kernel_rfl, fun w' hSw => by kernel_rfl⟩) hS ?_
      simp only [Act.put, List.setIfInBounds_toArray, List.set_cons_zero, List.set_cons_succ]
      refine takeR (i := 14) (v := .pointer (some ⟨g0, 8, none⟩)) (some 54) rfl rfl (by kernel_rfl) (by kernel_rfl) (by kernel_rfl) (fun _ _ _ h => h) (Or.inl ⟨by kernel_rfl, fun w' hSw => by kernel_rfl⟩) hS ?_
      simp only [Act.put, List.setIfInBounds_toArray, List.set_cons_zero, List.set_cons_succ]
      refine takeR (i := 15) (v := .agg #[.int .i64 52, .string ⟨#[50, 48, 50, 52, 48, 50, 50, 57, 45, 49, 50, 58, 51, 52, 58, 53, 54]⟩]) (some 55) rfl rfl (by kernel_rfl) (by kernel_rfl) (by kernel_rfl) (fun _ _ _ h => h) (Or.inl ⟨by kernel_rfl, fun w' hSw => by have q0 : w'.cell? ⟨g0, 8, none⟩ = some (.int .i64 52) := cell_of_row _ _ _ _ _ _ hSw; have q1 : w'.cell? ⟨g0, 9, none⟩ = some (.string ⟨#[50, 48, 50, 52, 48, 50, 50, 57, 45, 49, 50, 58, 51, 52, 58, 53, 54]⟩) := cell_of_row _ _ _ _ _ _ hSw; clear hSw; go_simp⟩) hS ?_
      simp only [Act.put, List.setIfInBounds_toArray, List.set_cons_zero, List.set_cons_succ]
      refine wpAnyH_ready (rs := [16]) (by kernel_rfl) (by simp) ?_
      refine AllReadyH.cons rfl (fun K1 hK1 => ?_) AllReadyH.nil
      rw [if_pos (by kernel_rfl)]
      refine valR (w' := w2.alloc (.cells #[.int .i64 35, .string ⟨#[49]⟩, .int .i64 44, .string ⟨#[49]⟩, .int .i64 49, .string ⟨#[65]⟩, .int .i64 56, .string ⟨#[66]⟩, .int .i64 34, .string ⟨#[55]⟩, .int .i64 52, .string ⟨#[50, 48, 50, 52, 48, 50, 50, 57, 45, 49, 50, 58, 51, 52, 58, 53, 54]⟩] 51)) (d := some 56) rfl (.slice (some ⟨w2.heap.size, 0, none⟩) 6 6) (by kernel_rfl) ?_
      have hS2 : KS g0 (w2.alloc (.cells #[.int .i64 35, .string ⟨#[49]⟩, .int .i64 44, .string ⟨#[49]⟩, .int .i64 49, .string ⟨#[65]⟩, .int .i64 56, .string ⟨#[66]⟩, .int .i64 34, .string ⟨#[55]⟩, .int .i64 52, .string ⟨#[50, 48, 50, 52, 48, 50, 50, 57, 45, 49, 50, 58, 51, 52, 58, 53, 54]⟩] 51)) := (alloc_get (Array.getElem?_eq_some_iff.1 hS).1).trans hS
      refine hK1.out _ _ hS2 (fun _ => ?_)
      clear hK1
      simp only [Act.put, List.setIfInBounds_toArray, List.set_cons_zero, List.set_cons_succ]
      refine takeR (i := 17) (v := .slice (some ⟨w2.heap.size, 0, none⟩) 6 6) (some 10) rfl rfl (by kernel_rfl) (by kernel_rfl) (by kernel_rfl) (fun _ _ _ h => h) (Or.inl ⟨by kernel_rfl, fun w' hSw => by kernel_rfl⟩) hS2 ?_
      simp only [Act.put, List.setIfInBounds_toArray, List.set_cons_zero, List.set_cons_succ]
      refine wpAnyH_done (by kernel_rfl) ?_ _
      have HS : Hid _ := HK2.out.new 1 #[.int .i64 35, .string ⟨#[49]⟩, .int .i64 44, .string ⟨#[49]⟩, .int .i64 49, .string ⟨#[65]⟩, .int .i64 56, .string ⟨#[66]⟩, .int .i64 34, .string ⟨#[55]⟩, .int .i64 52, .string ⟨#[50, 48, 50, 52, 48, 50, 50, 57, 45, 49, 50, 58, 51, 52, 58, 53, 54]⟩] (by kernel_rfl) rfl
      clear hS hS2 HK2
      unfold Exit.inBlock Exit.then
      dsimp only
      refine Kc _ _ ?_
      go_meet
      exact ⟨_, _, rfl, HS.out⟩
    · skip
      go_upto_region 13 with fail
      rename_i Kc hKc
      refine wp_region_held (S := KS g0) (by kernel_rfl) ?_
      change wpAnyH _ _ _ _ _ _ _ _ (World.drew _)
      have HK2 : Hid (KW w W.drew g0 g5 g6 g7 g8) := HKW.out.low (below_drewN (Below.refl _ _) 1)
      have hS : KS g0 W.drew := HK2.out.f0
      clear HKW HF0
      generalize W.drew = w2 at *
      refine takeR (i := 0) (v := .slice (some ⟨g0, 0, none⟩) 5 5) (some 59) rfl rfl (by kernel_rfl) (by kernel_rfl) (by kernel_rfl) (fun _ _ _ h => h) (Or.inl ⟨by kernel_rfl, fun w' hSw => by kernel_rfl⟩) hS ?_
      simp only [Act.put, List.setIfInBounds_toArray, List.set_cons_zero, List.set_cons_succ]
      refine takeR (i := 1) (v := .pointer (some ⟨g0, 0, none⟩)) (some 60) rfl rfl (by kernel_rfl) (by kernel_rfl) (by kernel_rfl) (fun _ _ _ h => h) (Or.inl ⟨by kernel_rfl, fun w' hSw => by kernel_rfl⟩) hS ?_
      simp only [Act.put, List.setIfInBounds_toArray, List.set_cons_zero, List.set_cons_succ]
      refine takeR (i := 2) (v := .agg #[.int .i64 35, .string ⟨#[49]⟩]) (some 61) rfl rfl (by kernel_rfl) (by kernel_rfl) (by kernel_rfl) (fun _ _ _ h => h) (Or.inl ⟨by kernel_rfl, fun w' hSw => by have q0 : w'.cell? ⟨g0, 0, none⟩ = some (.int .i64 35) := cell_of_row _ _ _ _ _ _ hSw; have q1 : w'.cell? ⟨g0, 1, none⟩ = some (.string ⟨#[49]⟩) := cell_of_row _ _ _ _ _ _ hSw; clear hSw; go_simp⟩) hS ?_
      simp only [Act.put, List.setIfInBounds_toArray, List.set_cons_zero, List.set_cons_succ]
      refine takeR (i := 3) (v := .agg #[.int .i64 9000, .string ⟨#[49]⟩]) (some 62) rfl rfl (by kernel_rfl) (by kernel_rfl) (by kernel_rfl) (fun _ _ _ h => h) (Or.inl ⟨by kernel_rfl, fun w' hSw => by kernel_rfl⟩) hS ?_
      simp only [Act.put, List.setIfInBounds_toArray, List.set_cons_zero, List.set_cons_succ]
      refine takeR (i := 4) (v := .slice (some ⟨g0, 0, none⟩) 5 5) (some 63) rfl rfl (by kernel_rfl) (by kernel_rfl) (by kernel_rfl) (fun _ _ _ h => h) (Or.inl ⟨by kernel_rfl, fun w' hSw => by kernel_rfl⟩) hS ?_
      simp only [Act.put, List.setIfInBounds_toArray, List.set_cons_zero, List.set_cons_succ]
      refine takeR (i := 5) (v := .pointer (some ⟨g0, 2, none⟩)) (some 64) rfl rfl (by kernel_rfl) (by kernel_rfl) (by kernel_rfl) (fun _ _ _ h => h) (Or.inl ⟨by kernel_rfl, fun w' hSw => by kernel_rfl⟩) hS ?_
      simp only [Act.put, List.setIfInBounds_toArray, List.set_cons_zero, List.set_cons_succ]
      refine takeR (i := 6) (v := .agg #[.int .i64 49, .string ⟨#[65]⟩]) (some 65) rfl rfl (by kernel_rfl) (by kernel_rfl) (by kernel_rfl) (fun _ _ _ h => h) (Or.inl ⟨by kernel_rfl, fun w' hSw => by have q0 : w'.cell? ⟨g0, 2, none⟩ = some (.int .i64 49) := cell_of_row _ _ _ _ _ _ hSw; have q1 : w'.cell? ⟨g0, 3, none⟩ = some (.string ⟨#[65]⟩) := cell_of_row _ _ _ _ _ _ hSw; clear hSw; go_simp⟩) hS ?_
      simp only [Act.put, List.setIfInBounds_toArray, List.set_cons_zero, List.set_cons_succ]
      refine takeR (i := 7) (v := .slice (some ⟨g0, 0, none⟩) 5 5) (some 66) rfl rfl (by kernel_rfl) (by kernel_rfl) (by kernel_rfl) (fun _ _ _ h => h) (Or.inl ⟨by kernel_rfl, fun w' hSw => by kernel_rfl⟩) hS ?_
      simp only [Act.put, List.setIfInBounds_toArray, List.set_cons_zero, List.set_cons_succ]
      refine takeR (i := 8) (v := .pointer (some ⟨g0, 4, none⟩)) (some 67) rfl rfl (by kernel_rfl) (by kernel_rfl) (by kernel_rfl) (fun _ _ _ h => h) (Or.inl ⟨by kernel_rfl, fun w' hSw => by kernel_rfl⟩) hS ?_
      simp only [Act.put, List.setIfInBounds_toArray, List.set_cons_zero, List.set_cons_succ]
      refine takeR (i := 9) (v := .agg #[.int .i64 56, .string ⟨#[66]⟩]) (some 68) rfl rfl (by kernel_rfl) (by kernel_rfl) (by kernel_rfl) (fun _ _ _ h => h) (Or.inl ⟨by kernel_rfl, fun w' hSw => by have q0 : w'.cell? ⟨g0, 4, none⟩ = some (.int .i64 56) := cell_of_row _ _ _ _ _ _ hSw; have q1 : w'.cell? ⟨g0, 5, none⟩ = some (.string ⟨#[66]⟩) := cell_of_row _ _ _ _ _ _ hSw; clear hSw; go_simp⟩) hS ?_
      simp only [Act.put, List.setIfInBounds_toArray, List.set_cons_zero, List.set_cons_succ]
      refine takeR (i := 10) (v := .slice (some ⟨g0, 0, none⟩) 5 5) (some 69) rfl rfl (by kernel_rfl) (by kernel_rfl) (by kernel_rfl) (fun _ _ _ h => h) (Or.inl ⟨by kernel_rfl, fun w' hSw => by kernel_rfl⟩) hS ?_
      simp only [Act.put, List.setIfInBounds_toArray, List.set_cons_zero, List.set_cons_succ]
      refine takeR (i := 11) (v := .pointer (some ⟨g0, 6, none⟩)) (some 70) rfl rfl (by kernel_rfl) (by kernel_rfl) (by kernel_rfl) (fun _ _ _ h => h) (Or.inl ⟨by kernel_rfl, fun w' hSw => by kernel_rfl⟩) hS ?_
      simp only [Act.put, List.setIfInBounds_toArray, List.set_cons_zero, List.set_cons_succ]
      refine takeR (i := 12) (v := .agg #[.int .i64 34, .string ⟨#[55]⟩]) (some 71) rfl rfl (by kernel_rfl) (by kernel_rfl) (by kernel_rfl) (fun _ _ _ h => h) (Or.inl ⟨by kernel_rfl, fun w' hSw => by have q0 : w'.cell? ⟨g0, 6, none⟩ = some (.int .i64 34) := cell_of_row _ _ _ _ _ _ hSw; have q1 : w'.cell? ⟨g0, 7, none⟩ = some (.string ⟨#[55]⟩) := cell_of_row _ _ _ _ _ _ hSw; clear hSw; go_simp⟩) hS ?_
      simp only [Act.put, List.setIfInBounds_toArray, List.set_cons_zero, List.set_cons_succ]
      refine takeR (i := 13) (v := .slice (some ⟨g0, 0, none⟩) 5 5) (some 72) rfl rfl (by kernel_rfl) (by kernel_rfl) (by kernel_rfl) (fun _ _ _ h => h) (Or.inl ⟨by kernel_rfl, fun w' hSw => by kernel_rfl⟩) hS ?_
      simp only [Act.put, List.setIfInBounds_toArray, List.set_cons_zero, List.set_cons_succ]
      refine takeR (i := 14) (v := .pointer (some ⟨g0, 8, none⟩)) (some 73) rfl rfl (by kernel_rfl) (by kernel_rfl) (by kernel_rfl) (fun _ _ _ h => h) (Or.inl ⟨by kernel_rfl, fun w' hSw => by kernel_rfl⟩) hS ?_
      simp only [Act.put, List.setIfInBounds_toArray, List.set_cons_zero, List.set_cons_succ]
      refine takeR (i := 15) (v := .agg #[.int .i64 52, .string ⟨#[50, 48, 50, 52, 48, 50, 50, 57, 45, 49, 50, 58, 51, 52, 58, 53, 54]⟩]) (some 74) rfl rfl (by kernel_rfl) (by kernel_rfl) (by kernel_rfl) (fun _ _ _ h => h) (Or.inl ⟨by kernel_rfl, fun w' hSw => by have q0 : w'.cell? ⟨g0, 8, none⟩ = some (.int .i64 52) := cell_of_row _ _ _ _ _ _ hSw; have q1 : w'.cell? ⟨g0, 9, none⟩ = some (.string ⟨#[50, 48, 50, 52, 48, 50, 50, 57, 45, 49, 50, 58, 51, 52, 58, 53, 54]⟩) := cell_of_row _ _ _ _ _ _ hSw; clear hSw; go_simp⟩) hS ?_
      simp only [Act.put, List.setIfInBounds_toArray, List.set_cons_zero, List.set_cons_succ]
      refine wpAnyH_ready (rs := [16]) (by kernel_rfl) (by simp) ?_
      refine AllReadyH.cons rfl (fun K1 hK1 => ?_) AllReadyH.nil
      rw [if_pos (by kernel_rfl)]
      refine valR (w' := w2.alloc (.cells #[.int .i64 35, .string ⟨#[49]⟩, .int .i64 9000, .string ⟨#[49]⟩, .int .i64 49, .string ⟨#[65]⟩, .int .i64 56, .string ⟨#[66]⟩, .int .i64 34, .string ⟨#[55]⟩, .int .i64 52, .string ⟨#[50, 48, 50, 52, 48, 50, 50, 57, 45, 49, 50, 58, 51, 52, 58, 53, 54]⟩] 51)) (d := some 75) rfl (.slice (some ⟨w2.heap.size, 0, none⟩) 6 6) (by kernel_rfl) ?_
      have hS2 : KS g0 (w2.alloc (.cells #[.int .i64 35, .string ⟨#[49]⟩, .int .i64 9000, .string ⟨#[49]⟩, .int .i64 49, .string ⟨#[65]⟩, .int .i64 56, .string ⟨#[66]⟩, .int .i64 34, .string ⟨#[55]⟩, .int .i64 52, .string ⟨#[50, 48, 50, 52, 48, 50, 50, 57, 45, 49, 50, 58, 51, 52, 58, 53, 54]⟩] 51)) := (alloc_get (Array.getElem?_eq_some_iff.1 hS).1).trans hS
      refine hK1.out _ _ hS2 (fun _ => ?_)
      clear hK1
      simp only [Act.put, List.setIfInBounds_toArray, List.set_cons_zero, List.set_cons_succ]
      refine takeR (i := 17) (v := .slice (some ⟨w2.heap.size, 0, none⟩) 6 6) (some 10) rfl rfl (by kernel_rfl) (by kernel_rfl) (by kernel_rfl) (fun _ _ _ h => h) (Or.inl ⟨by kernel_rfl, fun w' hSw => by kernel_rfl⟩) hS2 ?_
      simp only [Act.put, List.setIfInBounds_toArray, List.set_cons_zero, List.set_cons_succ]
      refine wpAnyH_done (by kernel_rfl) ?_ _
      have HS : Hid _ := HK2.out.new 2 #[.int .i64 35, .string ⟨#[49]⟩, .int .i64 9000, .string ⟨#[49]⟩, .int .i64 49, .string ⟨#[65]⟩, .int .i64 56, .string ⟨#[66]⟩, .int .i64 34, .string ⟨#[55]⟩, .int .i64 52, .string ⟨#[50, 48, 50, 52, 48, 50, 50, 57, 45, 49, 50, 58, 51, 52, 58, 53, 54]⟩] (by kernel_rfl) rfl
      clear hS hS2 HK2
      unfold Exit.inBlock Exit.then
      dsimp only
      refine Kc _ _ ?_
      go_meet
      exact ⟨_, _, rfl, HS.out⟩
    · skip
      have d0 : W.cell? ⟨g0, 7, none⟩ = some (.string ⟨#[55]⟩) := HF0.out 7
      have z0 : W.frozen? ⟨g0, 7, none⟩ = false := frozen_of_row W g0 _ _ _ HKW.out.f0
      have HS : Hid _ := (⟨HKW.out.src3, HKW.out.put 7 (.string ⟨#[48, 55]⟩)⟩ : _ ∧ _)
      clear HF0 HKW
      go_wp2_with fail
      go_meet
      exact ⟨_, _, rfl, HS.out⟩
    · skip
      have d0 : W.cell? ⟨g0, 1, none⟩ = some (.string ⟨#[49]⟩) := HF0.out 1
      have z0 : W.frozen? ⟨g0, 1, none⟩ = false := frozen_of_row W g0 _ _ _ HKW.out.f0
      have HS : Hid _ := (⟨HKW.out.src4, HKW.out.put 1 (.string ⟨#[90]⟩)⟩ : _ ∧ _)
      clear HF0 HKW
      go_wp2_with fail
      go_meet
      exact ⟨_, _, rfl, HS.out⟩
  case rest =>
    obtain ⟨g, n, rfl, hs, hkt⟩ := hcut
    clear HKW
    obtain ⟨b, hj, hl, hd, hr, ht, hm⟩ := kn_all k hk
    have HJ := Join_any (.slice (some ⟨g, 0, none⟩) n n) (knF k) wc hs (HE.out.below hkt.below).pow (kn_okT k hk) (kn_sz k hk).1 (kn_sz k hk).2
    rw [hj] at HJ
    have HT : Hid (KT w wc g5 g6 g7 g8) := hkt
    clear hs hkt
    go_wp2_with (go_at_call 17; fail)
    refine HJ.mono ?_
    clear HJ
    rintro e w3 ⟨hb3, v, rfl, ho⟩
    obtain ⟨av, cv, rfl⟩ : ∃ a c, v = .slice a b.length c := by obtain ⟨a, c, h, -⟩ := ho.src; exact ⟨a, c, h⟩
    have HT3 : Hid (KT w w3 g5 g6 g7 g8 ∧ SrcB w3 (.slice av b.length cv) b) := ⟨HT.out.low hb3, ho.src⟩
    clear hb3 ho HT
    have HE3 := HE.out.below HT3.out.1.below
    have HD := Decode_any (.slice av b.length cv) b w3 (by omega) HT3.out.2 HE3.mon HE3.pow HE3.ety
    rw [hd] at HD
    have HW : Hid (∀ W', Below w3.heap.size w3 W' → Calls Tryz.prog 18 #[.slice av b.length cv] W' fun x w' => x = .returned (.tuple #[.int .i64 (knR k), .int .i64 (knT k), .agg (rdM (knF k)).cs]) ∧ Below W'.heap.size W' w') := fun W' hb => by
      have HEW := HE3.below hb
      have h := Why_any (.slice av b.length cv) b W' (by omega) (HT3.out.2.below hb) HEW.mon HEW.pow HEW.ety
      rw [hr, ht, hm] at h
      exact h
    have HM : Hid (_) := kn_m k hk
    have Hne : Hid (knE k ≠ 0) := kn_ne k hk
    generalize rdM (knF k) = A at *
    obtain ⟨R, hR⟩ : ∃ R, R = knR k := ⟨_, rfl⟩
    obtain ⟨T, hT⟩ : ∃ T, T = knT k := ⟨_, rfl⟩
    obtain ⟨E, hE⟩ : ∃ E, E = knE k := ⟨_, rfl⟩
    obtain ⟨P, hP⟩ : ∃ P, P = knP k := ⟨_, rfl⟩
    rw [← hR, ← hT] at HW
    rw [← hE, ← hP] at HD
    rw [← hE] at Hne
    have HQ : Hid (R = knR k ∧ T = knT k ∧ E = knE k ∧ P = knP k) := ⟨hR, hT, hE, hP⟩
    generalize b.length = m at *
    clear hj hd hr ht hm HE3 hl hR hT hE hP
    go_upto_region 19 with fail
    rename_i K19 hK19
    refine wp_region_lit ?_
    refine wpList_runTo rfl (some 92) rfl (.slice av m cv) w3 (by kernel_rfl) ?_
    refine wpList_callF rfl (some 93) rfl 10 #[.slice av m cv] (by kernel_rfl) HD ?_
    rintro e w4 ⟨hb4, gf, -, rfl, hf⟩
    refine ⟨_, rfl, ?_⟩
    refine wpList_runTo rfl (some 91) rfl (.tuple #[.agg zeroM.cs, .iface 56 (.pointer (some ⟨gf, 0, none⟩))]) w4 (by kernel_rfl) ?_
    refine wpList_runTo rfl (some 94) rfl (.agg zeroM.cs) w4 (by kernel_rfl) ?_
    refine wpList_runTo rfl (some 95) rfl (.iface 56 (.pointer (some ⟨gf, 0, none⟩))) w4 (by kernel_rfl) ?_
    refine wpList_runTo rfl (some 13) rfl (.pointer (some ⟨w4.heap.size, 0, none⟩)) (w4.alloc (.cells zeroM.cs 25)) (by kernel_rfl) ?_
    simp only [Act.put, List.setIfInBounds_toArray, List.set_cons_zero, List.set_cons_succ]
    refine wpList_store_row rfl 25 (.tmp 13) (.tmp 94) rfl w4.heap.size zeroM.cs (by rfl) (by rfl) 25 _ (heap_alloc_new w4 _) (by rw [Msg.cs_size]; kernel_rfl) (by simp only [Msg.cs_size]) (Msg.cs_one _) ?_
    refine wpList_runTo rfl (some 14) rfl (.iface 56 (.pointer (some ⟨gf, 0, none⟩))) ((w4.alloc (.cells zeroM.cs 25)).setRow w4.heap.size zeroM.cs) (by kernel_rfl) ?_
    refine wpList_nil ?_
    refine hK19 _ _ ?_
    clear hK19
    simp only [Act.put, List.setIfInBounds_toArray, List.set_cons_zero, List.set_cons_succ]
    have HO5 : Hid (KT w ((w4.alloc (.cells zeroM.cs 25)).setRow w4.heap.size zeroM.cs) g5 g6 g7 g8 ∧ Below w3.heap.size w3 ((w4.alloc (.cells zeroM.cs 25)).setRow w4.heap.size zeroM.cs)) := ⟨(HT3.out.1.low hb4).low put_below, hb4.trans (put_below.mono hb4.size)⟩
    have HFa := lawFault_at gf E P ((w4.alloc (.cells zeroM.cs 25)).setRow w4.heap.size zeroM.cs) (hf.below put_below hf.lt) Hne.out
    clear hb4 hf HD HT3 Hne
    generalize (w4.alloc (.cells zeroM.cs 25)).setRow w4.heap.size zeroM.cs = w5 at *
    generalize w4.heap.size = g4 at *
    go_wp2_with (go_at_call 11; fail)
    refine HFa.mono ?_
    clear HFa
    rintro x w6 ⟨rfl, q, rfl⟩
    have hd6 : Below w5.heap.size w5 (w5.drewN q) := below_drewN (Below.refl _ w5) q
    have HO6 : Hid (KT w (w5.drewN q) g5 g6 g7 g8 ∧ Below w3.heap.size w3 (w5.drewN q)) := ⟨HO5.out.1.low hd6, HO5.out.2.trans (hd6.mono HO5.out.2.size)⟩
    clear hd6 HO5
    generalize w5.drewN q = w6 at *
    have HWy := HW.out w6 HO6.out.2
    clear HW
    go_upto_region 21 with fail
    rename_i K21 hK21
    refine wp_region_lit ?_
    refine wpList_runTo rfl (some 103) rfl (.slice av m cv) w6 (by kernel_rfl) ?_
    refine wpList_callF rfl (some 104) rfl 18 #[.slice av m cv] (by kernel_rfl) HWy ?_
    rintro e w7 ⟨rfl, hb7⟩
    refine ⟨_, rfl, ?_⟩
    refine wpList_runTo rfl (some 102) rfl (.tuple #[.int .i64 R, .int .i64 T, .agg A.cs]) w7 (by kernel_rfl) ?_
    refine wpList_runTo rfl (some 105) rfl (.int .i64 R) w7 (by kernel_rfl) ?_
    refine wpList_runTo rfl (some 106) rfl (.int .i64 T) w7 (by kernel_rfl) ?_
    refine wpList_runTo rfl (some 107) rfl (.agg A.cs) w7 (by kernel_rfl) ?_
    refine wpList_runTo rfl (some 20) rfl (.pointer (some ⟨w7.heap.size, 0, none⟩)) (w7.alloc (.cells zeroM.cs 25)) (by kernel_rfl) ?_
    refine wpList_runTo rfl (some 18) rfl (.int .i64 R) (w7.alloc (.cells zeroM.cs 25)) (by kernel_rfl) ?_
    refine wpList_runTo rfl (some 19) rfl (.int .i64 T) (w7.alloc (.cells zeroM.cs 25)) (by kernel_rfl) ?_
    simp only [Act.put, List.setIfInBounds_toArray, List.set_cons_zero, List.set_cons_succ]
    refine wpList_store_row rfl 25 (.tmp 20) (.tmp 107) rfl w7.heap.size A.cs (by rfl) (by rfl) 25 _ (heap_alloc_new w7 _) (by rw [Msg.cs_size]; kernel_rfl) (by simp only [Msg.cs_size]) (Msg.cs_one _) ?_
    refine wpList_nil ?_
    refine hK21 _ _ ?_
    clear hK21
    simp only [Act.put, List.setIfInBounds_toArray, List.set_cons_zero, List.set_cons_succ]
    have HO8 : Hid (KT w ((w7.alloc (.cells zeroM.cs 25)).setRow w7.heap.size A.cs) g5 g6 g7 g8 ∧ OwnM ((w7.alloc (.cells zeroM.cs 25)).setRow w7.heap.size A.cs) w7.heap.size A) := ⟨(HO6.out.1.low hb7).low put_below, put_own⟩
    clear hb7 HWy HO6
    generalize (w7.alloc (.cells zeroM.cs 25)).setRow w7.heap.size A.cs = w8 at *
    generalize w7.heap.size = g20 at *
    have HB8 : Hid (Below w.heap.size w w8) := HO8.out.1.below
    have e5 := fun i => cell_of_row w8 g5 i _ _ _ HO8.out.1.f5
    have e6 := fun i => cell_of_row w8 g6 i _ _ _ HO8.out.1.f6
    have e7 := fun i => cell_of_row w8 g7 i _ _ _ HO8.out.1.f7
    have e8 := fun i => cell_of_row w8 g8 i _ _ _ HO8.out.1.f8
    have e0 := fun i => cell_of_row w8 g20 i _ _ _ HO8.out.2
    obtain ⟨m0, m1, m2, m3, m5, m9⟩ := HM.out
    obtain ⟨q1, q2, q3, q4⟩ := HQ.out
    clear HO8 HM HQ HE
    have c0 : w8.cell? ⟨g20, 0, none⟩ = some (.int .i64 (knZ k)) := (e0 0).trans (by rw [← m0]; rfl)
    have c1 : w8.cell? ⟨g20, 1, none⟩ = some (.string ⟨#[65]⟩) := (e0 1).trans (by rw [← m1]; rfl)
    have c2 : w8.cell? ⟨g20, 2, none⟩ = some (.string ⟨#[66]⟩) := (e0 2).trans (by rw [← m2]; rfl)
    have c3 : w8.cell? ⟨g20, 3, none⟩ = some (.int .i64 (knQ k)) := (e0 3).trans (by rw [← m3]; rfl)
    have c5 : w8.cell? ⟨g20, 5, none⟩ = some (.int .i64 1709210096000) := (e0 5).trans (by rw [← m5]; rfl)
    have c9 : w8.cell? ⟨g20, 9, none⟩ = some (.string ⟨#[]⟩) := (e0 9).trans (by rw [← m9]; rfl)
    clear e0 m0 m1 m2 m3 m5 m9
    rcases (by omega : k = 0 ∨ k = 1 ∨ k = 2 ∨ k = 3 ∨ k = 4) with rfl | rfl | rfl | rfl | rfl
    · have t5 : w8.cell? ⟨g5, 0, none⟩ = some (.int .i64 1) := e5 0
      have t6 : w8.cell? ⟨g6, 0, none⟩ = some (.int .i64 112) := e6 0
      have t7 : w8.cell? ⟨g7, 0, none⟩ = some (.int .i64 5) := e7 0
      have t8 : w8.cell? ⟨g8, 0, none⟩ = some (.int .i64 50) := e8 0
      obtain rfl : R = 1 := q1
      obtain rfl : T = 112 := q2
      obtain rfl : E = 50 := q3
      obtain rfl : P = 5 := q4
      have c0' : w8.cell? ⟨g20, 0, none⟩ = some (.int .i64 2) := c0
      have c3' : w8.cell? ⟨g20, 3, none⟩ = some (.int .i64 7) := c3
      clear e5 e6 e7 e8 c0 c3
      try clear q1
      try clear q2
      try clear q3
      try clear q4
      go_wp2
      go_ret
      exact ⟨rfl, HB8.out⟩
    · have t5 : w8.cell? ⟨g5, 1, none⟩ = some (.int .i64 2) := e5 1
      have t6 : w8.cell? ⟨g6, 1, none⟩ = some (.int .i64 44) := e6 1
      have t7 : w8.cell? ⟨g7, 1, none⟩ = some (.int .i64 1) := e7 1
      have t8 : w8.cell? ⟨g8, 1, none⟩ = some (.int .i64 53) := e8 1
      obtain rfl : R = 2 := q1
      obtain rfl : T = 44 := q2
      obtain rfl : E = 53 := q3
      obtain rfl : P = 1 := q4
      have c0' : w8.cell? ⟨g20, 0, none⟩ = some (.int .i64 2) := c0
      have c3' : w8.cell? ⟨g20, 3, none⟩ = some (.int .i64 7) := c3
      clear e5 e6 e7 e8 c0 c3
      try clear q1
      try clear q2
      try clear q3
      try clear q4
      go_wp2
      go_ret
      exact ⟨rfl, HB8.out⟩
    · have t5 : w8.cell? ⟨g5, 2, none⟩ = some (.int .i64 0) := e5 2
      have t6 : w8.cell? ⟨g6, 2, none⟩ = some (.int .i64 9000) := e6 2
      have t7 : w8.cell? ⟨g7, 2, none⟩ = some (.int .i64 1) := e7 2
      have t8 : w8.cell? ⟨g8, 2, none⟩ = some (.int .i64 52) := e8 2
      obtain rfl : R = 0 := q1
      obtain rfl : T = 9000 := q2
      obtain rfl : E = 52 := q3
      obtain rfl : P = 1 := q4
      have c0' : w8.cell? ⟨g20, 0, none⟩ = some (.int .i64 2) := c0
      have c3' : w8.cell? ⟨g20, 3, none⟩ = some (.int .i64 7) := c3
      clear e5 e6 e7 e8 c0 c3
      try clear q1
      try clear q2
      try clear q3
      try clear q4
      go_wp2
      go_ret
      exact ⟨rfl, HB8.out⟩
    · have t5 : w8.cell? ⟨g5, 3, none⟩ = some (.int .i64 5) := e5 3
      have t6 : w8.cell? ⟨g6, 3, none⟩ = some (.int .i64 34) := e6 3
      have t7 : w8.cell? ⟨g7, 3, none⟩ = some (.int .i64 3) := e7 3
      have t8 : w8.cell? ⟨g8, 3, none⟩ = some (.int .i64 31) := e8 3
      obtain rfl : R = 5 := q1
      obtain rfl : T = 34 := q2
      obtain rfl : E = 31 := q3
      obtain rfl : P = 3 := q4
      have c0' : w8.cell? ⟨g20, 0, none⟩ = some (.int .i64 2) := c0
      have c3' : w8.cell? ⟨g20, 3, none⟩ = some (.int .i64 0) := c3
      clear e5 e6 e7 e8 c0 c3
      try clear q1
      try clear q2
      try clear q3
      try clear q4
      go_wp2
      go_ret
      exact ⟨rfl, HB8.out⟩
    · have t5 : w8.cell? ⟨g5, 4, none⟩ = some (.int .i64 11) := e5 4
      have t6 : w8.cell? ⟨g6, 4, none⟩ = some (.int .i64 35) := e6 4
      have t7 : w8.cell? ⟨g7, 4, none⟩ = some (.int .i64 0) := e7 4
      have t8 : w8.cell? ⟨g8, 4, none⟩ = some (.int .i64 30) := e8 4
      obtain rfl : R = 11 := q1
      obtain rfl : T = 35 := q2
      obtain rfl : E = 30 := q3
      obtain rfl : P = 0 := q4
      have c0' : w8.cell? ⟨g20, 0, none⟩ = some (.int .i64 0) := c0
      have c3' : w8.cell? ⟨g20, 3, none⟩ = some (.int .i64 7) := c3
      clear e5 e6 e7 e8 c0 c3
      try clear q1
      try clear q2
      try clear q3
      try clear q4
      go_wp2
      go_ret
      exact ⟨rfl, HB8.out⟩
end Go.Proofs.YtchkpggdndnpjaaGreatDoor
