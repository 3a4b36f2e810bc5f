/-
  risk: Open, whatever comes of it.
-/
import Derived.Test.YtgioknkfppaaaaaGLaw0
namespace Go.Proofs.Ytgioknkfppaaaaa
set_option linter.unusedVariables false
set_option linter.unusedSimpArgs false
open Go.RowKit Go.Great Go.Maps

set_option maxRecDepth 100000 in
set_option maxHeartbeats 1000000 in
theorem Open_bad (G : Gd) (o : Ord) (mark : Int) (w : World) (h : GdAt w G) (hb : isoB o mark = false ∨ o.id < 1) :
    Calls Try.prog 12 #[.pointer (some ⟨G.g, 0, none⟩), .agg o.cs, .int .i64 mark] w fun e w' => e = .returned (.int .i64 1) ∧ Below w.heap.size w w' := by
  have HW0 : Hid (Below w.heap.size w (w.alloc (.cells o.cs 35)) ∧ Blk (w.alloc (.cells o.cs 35)) w.heap.size 35 o.cs ∧ GdAt (w.alloc (.cells o.cs 35)) G) := ⟨(Below.refl _ w).alloc (Nat.le_refl _) _, Blk.new _ _ _, h.below ((Below.refl _ w).alloc (Nat.le_refl _) _)⟩
  have HIO : Hid (∀ w, Calls Try.prog 21 #[.agg o.cs, .int .i64 mark] w fun e w' => e = .returned (.bool (isoB o mark)) ∧ Below w.heap.size w w') := fun w => isOrder_any o mark w
  have HOC : Hid (o.cs = #[.int .i64 o.id, .string o.nm, .string o.ac, .string o.sy, .int .i64 o.sd, .int .i64 o.ty, .int .i64 o.lf, .int .i64 o.pr, .int .i64 o.sp, .int .i64 o.q, .int .i64 o.sh, .int .i64 o.dn, .int .i64 o.le, .int .i64 o.un, .int .i64 o.ow]) := rfl
  rw [HOC.out] at HW0 HIO ⊢
  clear h
  cases hi : isoB o mark
  · rw [hi] at HIO
    clear hb hi
    go_enter Try.func12, Try.ntmps12
    go_upto_region 1 with fail
    generalize hW : (w.alloc (.cells #[.int .i64 o.id, .string o.nm, .string o.ac, .string o.sy, .int .i64 o.sd, .int .i64 o.ty, .int .i64 o.lf, .int .i64 o.pr, .int .i64 o.sp, .int .i64 o.q, .int .i64 o.sh, .int .i64 o.dn, .int .i64 o.le, .int .i64 o.un, .int .i64 o.ow] 35)) = W at *
    clear hW
    have HS : Hid (∀ w', Below W.heap.size W w' → w'.cell? ⟨w.heap.size, 0, none⟩ = some (.int .i64 o.id) ∧ w'.cell? ⟨w.heap.size, 1, none⟩ = some (.string o.nm) ∧ w'.cell? ⟨w.heap.size, 2, none⟩ = some (.string o.ac) ∧ w'.cell? ⟨w.heap.size, 3, none⟩ = some (.string o.sy) ∧ w'.cell? ⟨w.heap.size, 4, none⟩ = some (.int .i64 o.sd) ∧ w'.cell? ⟨w.heap.size, 5, none⟩ = some (.int .i64 o.ty) ∧ w'.cell? ⟨w.heap.size, 6, none⟩ = some (.int .i64 o.lf) ∧ w'.cell? ⟨w.heap.size, 7, none⟩ = some (.int .i64 o.pr) ∧ w'.cell? ⟨w.heap.size, 8, none⟩ = some (.int .i64 o.sp) ∧ w'.cell? ⟨w.heap.size, 9, none⟩ = some (.int .i64 o.q) ∧ w'.cell? ⟨w.heap.size, 10, none⟩ = some (.int .i64 o.sh) ∧ w'.cell? ⟨w.heap.size, 11, none⟩ = some (.int .i64 o.dn) ∧ w'.cell? ⟨w.heap.size, 12, none⟩ = some (.int .i64 o.le) ∧ w'.cell? ⟨w.heap.size, 13, none⟩ = some (.int .i64 o.un) ∧ w'.cell? ⟨w.heap.size, 14, none⟩ = some (.int .i64 o.ow)) := fun w' hb => by
      have b1 := HW0.out.2.1.below hb HW0.out.2.1.lt
      exact ⟨b1.cell 0, b1.cell 1, b1.cell 2, b1.cell 3, b1.cell 4, b1.cell 5, b1.cell 6, b1.cell 7, b1.cell 8, b1.cell 9, b1.cell 10, b1.cell 11, b1.cell 12, b1.cell 13, b1.cell 14⟩
    obtain ⟨e0, e1, e2, e3, e4, e5, e6, e7, e8, e9, e10, e11, e12, e13, e14⟩ := HS.out W (Below.refl _ _)
    go_wp2_with (go_at_call 21; fail)
    refine (HIO.out _).mono ?_
    rintro e W1 ⟨rfl, hb1⟩
    have HB1 : Hid (Below W.heap.size W W1) := hb1
    have HG1 : Hid (GdAt W1 G) := HW0.out.2.2.below hb1
    have HBw : Hid (Below w.heap.size w W1) := below_step HW0.out.1 hb1
    clear hb1 e0 e1 e2 e3 e4 e5 e6 e7 e8 e9 e10 e11 e12 e13 e14
    obtain ⟨e0, e1, e2, e3, e4, e5, e6, e7, e8, e9, e10, e11, e12, e13, e14⟩ := HS.out W1 HB1.out
    have d0 := HG1.out.blk.cell 0
    simp only [List.getElem?_toArray, List.getElem?_cons_succ, List.getElem?_cons_zero] at d0
    go_wp2
    go_ret
    exact ⟨rfl, HBw.out⟩
  · have hid : o.id < 1 := hb.resolve_left (by rw [hi]; simp)
    rw [hi] at HIO
    clear hb hi
    go_enter Try.func12, Try.ntmps12
    go_upto_region 1 with fail
    generalize hW : (w.alloc (.cells #[.int .i64 o.id, .string o.nm, .string o.ac, .string o.sy, .int .i64 o.sd, .int .i64 o.ty, .int .i64 o.lf, .int .i64 o.pr, .int .i64 o.sp, .int .i64 o.q, .int .i64 o.sh, .int .i64 o.dn, .int .i64 o.le, .int .i64 o.un, .int .i64 o.ow] 35)) = W at *
    clear hW
    have HS : Hid (∀ w', Below W.heap.size W w' → w'.cell? ⟨w.heap.size, 0, none⟩ = some (.int .i64 o.id) ∧ w'.cell? ⟨w.heap.size, 1, none⟩ = some (.string o.nm) ∧ w'.cell? ⟨w.heap.size, 2, none⟩ = some (.string o.ac) ∧ w'.cell? ⟨w.heap.size, 3, none⟩ = some (.string o.sy) ∧ w'.cell? ⟨w.heap.size, 4, none⟩ = some (.int .i64 o.sd) ∧ w'.cell? ⟨w.heap.size, 5, none⟩ = some (.int .i64 o.ty) ∧ w'.cell? ⟨w.heap.size, 6, none⟩ = some (.int .i64 o.lf) ∧ w'.cell? ⟨w.heap.size, 7, none⟩ = some (.int .i64 o.pr) ∧ w'.cell? ⟨w.heap.size, 8, none⟩ = some (.int .i64 o.sp) ∧ w'.cell? ⟨w.heap.size, 9, none⟩ = some (.int .i64 o.q) ∧ w'.cell? ⟨w.heap.size, 10, none⟩ = some (.int .i64 o.sh) ∧ w'.cell? ⟨w.heap.size, 11, none⟩ = some (.int .i64 o.dn) ∧ w'.cell? ⟨w.heap.size, 12, none⟩ = some (.int .i64 o.le) ∧ w'.cell? ⟨w.heap.size, 13, none⟩ = some (.int .i64 o.un) ∧ w'.cell? ⟨w.heap.size, 14, none⟩ = some (.int .i64 o.ow)) := fun w' hb => by
      have b1 := HW0.out.2.1.below hb HW0.out.2.1.lt
      exact ⟨b1.cell 0, b1.cell 1, b1.cell 2, b1.cell 3, b1.cell 4, b1.cell 5, b1.cell 6, b1.cell 7, b1.cell 8, b1.cell 9, b1.cell 10, b1.cell 11, b1.cell 12, b1.cell 13, b1.cell 14⟩
    obtain ⟨e0, e1, e2, e3, e4, e5, e6, e7, e8, e9, e10, e11, e12, e13, e14⟩ := HS.out W (Below.refl _ _)
    go_wp2_with (go_at_call 21; fail)
    refine (HIO.out _).mono ?_
    rintro e W1 ⟨rfl, hb1⟩
    have HB1 : Hid (Below W.heap.size W W1) := hb1
    have HG1 : Hid (GdAt W1 G) := HW0.out.2.2.below hb1
    have HBw : Hid (Below w.heap.size w W1) := below_step HW0.out.1 hb1
    clear hb1 e0 e1 e2 e3 e4 e5 e6 e7 e8 e9 e10 e11 e12 e13 e14
    obtain ⟨e0, e1, e2, e3, e4, e5, e6, e7, e8, e9, e10, e11, e12, e13, e14⟩ := HS.out W1 HB1.out
    have d0 := HG1.out.blk.cell 0
    simp only [List.getElem?_toArray, List.getElem?_cons_succ, List.getElem?_cons_zero] at d0
    go_wp2
    go_ret
    exact ⟨rfl, HBw.out⟩
set_option maxRecDepth 100000 in
set_option maxHeartbeats 1000000 in
theorem Open_none (G : Gd) (o : Ord) (mark : Int) (w : World) (h : GdAt w G) (hac : o.ac.size ≤ maxLen) (hi : isoB o mark = true) (i0 : 1 ≤ o.id) (hn : G.acc o.ac = none) :
    Calls Try.prog 12 #[.pointer (some ⟨G.g, 0, none⟩), .agg o.cs, .int .i64 mark] w fun e w' => e = .returned (.int .i64 161) ∧ Below w.heap.size w w' := by
  have HW0 : Hid (Below w.heap.size w (w.alloc (.cells o.cs 35)) ∧ Blk (w.alloc (.cells o.cs 35)) w.heap.size 35 o.cs ∧ GdAt (w.alloc (.cells o.cs 35)) G) := ⟨(Below.refl _ w).alloc (Nat.le_refl _) _, Blk.new _ _ _, h.below ((Below.refl _ w).alloc (Nat.le_refl _) _)⟩
  have HIO : Hid (∀ w, Calls Try.prog 21 #[.agg o.cs, .int .i64 mark] w fun e w' => e = .returned (.bool (isoB o mark)) ∧ Below w.heap.size w w') := fun w => isOrder_any o mark w
  have HOC : Hid (o.cs = #[.int .i64 o.id, .string o.nm, .string o.ac, .string o.sy, .int .i64 o.sd, .int .i64 o.ty, .int .i64 o.lf, .int .i64 o.pr, .int .i64 o.sp, .int .i64 o.q, .int .i64 o.sh, .int .i64 o.dn, .int .i64 o.le, .int .i64 o.un, .int .i64 o.ow]) := rfl
  rw [HOC.out] at HW0 HIO ⊢
  rw [hi] at HIO
  clear h hi
  go_enter Try.func12, Try.ntmps12
  go_upto_region 1 with fail
  generalize hW : (w.alloc (.cells #[.int .i64 o.id, .string o.nm, .string o.ac, .string o.sy, .int .i64 o.sd, .int .i64 o.ty, .int .i64 o.lf, .int .i64 o.pr, .int .i64 o.sp, .int .i64 o.q, .int .i64 o.sh, .int .i64 o.dn, .int .i64 o.le, .int .i64 o.un, .int .i64 o.ow] 35)) = W at *
  clear hW
  have HS : Hid (∀ w', Below W.heap.size W w' → w'.cell? ⟨w.heap.size, 0, none⟩ = some (.int .i64 o.id) ∧ w'.cell? ⟨w.heap.size, 1, none⟩ = some (.string o.nm) ∧ w'.cell? ⟨w.heap.size, 2, none⟩ = some (.string o.ac) ∧ w'.cell? ⟨w.heap.size, 3, none⟩ = some (.string o.sy) ∧ w'.cell? ⟨w.heap.size, 4, none⟩ = some (.int .i64 o.sd) ∧ w'.cell? ⟨w.heap.size, 5, none⟩ = some (.int .i64 o.ty) ∧ w'.cell? ⟨w.heap.size, 6, none⟩ = some (.int .i64 o.lf) ∧ w'.cell? ⟨w.heap.size, 7, none⟩ = some (.int .i64 o.pr) ∧ w'.cell? ⟨w.heap.size, 8, none⟩ = some (.int .i64 o.sp) ∧ w'.cell? ⟨w.heap.size, 9, none⟩ = some (.int .i64 o.q) ∧ w'.cell? ⟨w.heap.size, 10, none⟩ = some (.int .i64 o.sh) ∧ w'.cell? ⟨w.heap.size, 11, none⟩ = some (.int .i64 o.dn) ∧ w'.cell? ⟨w.heap.size, 12, none⟩ = some (.int .i64 o.le) ∧ w'.cell? ⟨w.heap.size, 13, none⟩ = some (.int .i64 o.un) ∧ w'.cell? ⟨w.heap.size, 14, none⟩ = some (.int .i64 o.ow)) := fun w' hb => by
    have b1 := HW0.out.2.1.below hb HW0.out.2.1.lt
    exact ⟨b1.cell 0, b1.cell 1, b1.cell 2, b1.cell 3, b1.cell 4, b1.cell 5, b1.cell 6, b1.cell 7, b1.cell 8, b1.cell 9, b1.cell 10, b1.cell 11, b1.cell 12, b1.cell 13, b1.cell 14⟩
  obtain ⟨e0, e1, e2, e3, e4, e5, e6, e7, e8, e9, e10, e11, e12, e13, e14⟩ := HS.out W (Below.refl _ _)
  go_wp2_with (go_at_call 21; fail)
  refine (HIO.out _).mono ?_
  rintro e W1 ⟨rfl, hb1⟩
  have HB1 : Hid (Below W.heap.size W W1) := hb1
  have HG1 : Hid (GdAt W1 G) := HW0.out.2.2.below hb1
  have HBw : Hid (Below w.heap.size w W1) := below_step HW0.out.1 hb1
  clear hb1 e0 e1 e2 e3 e4 e5 e6 e7 e8 e9 e10 e11 e12 e13 e14
  obtain ⟨e0, e1, e2, e3, e4, e5, e6, e7, e8, e9, e10, e11, e12, e13, e14⟩ := HS.out W1 HB1.out
  have d0 := HG1.out.blk.cell 0
  simp only [List.getElem?_toArray, List.getElem?_cons_succ, List.getElem?_cons_zero] at d0
  have hi1 : ¬ o.id < 1 := by omega
  have hlk := fun n => look_none (w := W1.drewN n) (HG1.out.below (below_drewN (Below.refl _ _) n)) hac hn
  go_upto_region 3 with fail
  go_quiet (fail)
  go_wp2
  go_ret
  exact ⟨rfl, below_drewN HBw.out _⟩
set_option maxRecDepth 100000 in
set_option maxHeartbeats 1000000 in
theorem Open_known (G : Gd) (o : Ord) (mark : Int) (w : World) (h : GdAt w G) (hac : o.ac.size ≤ maxLen) (hi : isoB o mark = true) (i0 : 1 ≤ o.id) (i1 : o.id ≤ 9223372036854775807) {a : Ac} (hn : G.acc o.ac = some a) {x : Oo} (hat : G.at o.id = some x) (hne : (x.ac.toList == o.ac.toList) = false) :
    Calls Try.prog 12 #[.pointer (some ⟨G.g, 0, none⟩), .agg o.cs, .int .i64 mark] w fun e w' => e = .returned (.int .i64 120) ∧ Below w.heap.size w w' := by
  have hidr : -9223372036854775808 ≤ o.id ∧ o.id ≤ 9223372036854775807 := by omega
  have HLA : Hid (∀ w', GdAt w' G → Sem.run Try.prog (Instr.lookup 60 (.map (some G.ma)) (.string o.ac) true) w' = .ok (.tuple #[.pointer (some ⟨a.blk, 0, none⟩), .bool true]) w') := fun w' hg => look_some hg hac hn
  have HLO : Hid (∀ w', GdAt w' G → Sem.run Try.prog (Instr.lookup 61 (.map (some G.mo)) (.int .i64 o.id) true) w' = .ok (.tuple #[.agg #[.string x.ac, .string x.sy, .int .i64 x.sd, .int .i64 x.q, .int .i64 x.v], .bool true]) w') := fun w' hg => by rw [look_open hg hidr, hat]; rfl
  have HW0 : Hid (Below w.heap.size w (w.alloc (.cells o.cs 35)) ∧ Blk (w.alloc (.cells o.cs 35)) w.heap.size 35 o.cs ∧ GdAt (w.alloc (.cells o.cs 35)) G) := ⟨(Below.refl _ w).alloc (Nat.le_refl _) _, Blk.new _ _ _, h.below ((Below.refl _ w).alloc (Nat.le_refl _) _)⟩
  have HIO : Hid (∀ w, Calls Try.prog 21 #[.agg o.cs, .int .i64 mark] w fun e w' => e = .returned (.bool (isoB o mark)) ∧ Below w.heap.size w w') := fun w => isOrder_any o mark w
  have HOC : Hid (o.cs = #[.int .i64 o.id, .string o.nm, .string o.ac, .string o.sy, .int .i64 o.sd, .int .i64 o.ty, .int .i64 o.lf, .int .i64 o.pr, .int .i64 o.sp, .int .i64 o.q, .int .i64 o.sh, .int .i64 o.dn, .int .i64 o.le, .int .i64 o.un, .int .i64 o.ow]) := rfl
  rw [HOC.out] at HW0 HIO ⊢
  rw [hi] at HIO
  clear h hi hn hat hac hidr
  obtain ⟨xid, xac, xsy, xsd, xq, xv⟩ := x
  simp only at HLO hne
  go_enter Try.func12, Try.ntmps12
  go_upto_region 1 with fail
  generalize hW : (w.alloc (.cells #[.int .i64 o.id, .string o.nm, .string o.ac, .string o.sy, .int .i64 o.sd, .int .i64 o.ty, .int .i64 o.lf, .int .i64 o.pr, .int .i64 o.sp, .int .i64 o.q, .int .i64 o.sh, .int .i64 o.dn, .int .i64 o.le, .int .i64 o.un, .int .i64 o.ow] 35)) = W at *
  clear hW
  have HS : Hid (∀ w', Below W.heap.size W w' → w'.cell? ⟨w.heap.size, 0, none⟩ = some (.int .i64 o.id) ∧ w'.cell? ⟨w.heap.size, 1, none⟩ = some (.string o.nm) ∧ w'.cell? ⟨w.heap.size, 2, none⟩ = some (.string o.ac) ∧ w'.cell? ⟨w.heap.size, 3, none⟩ = some (.string o.sy) ∧ w'.cell? ⟨w.heap.size, 4, none⟩ = some (.int .i64 o.sd) ∧ w'.cell? ⟨w.heap.size, 5, none⟩ = some (.int .i64 o.ty) ∧ w'.cell? ⟨w.heap.size, 6, none⟩ = some (.int .i64 o.lf) ∧ w'.cell? ⟨w.heap.size, 7, none⟩ = some (.int .i64 o.pr) ∧ w'.cell? ⟨w.heap.size, 8, none⟩ = some (.int .i64 o.sp) ∧ w'.cell? ⟨w.heap.size, 9, none⟩ = some (.int .i64 o.q) ∧ w'.cell? ⟨w.heap.size, 10, none⟩ = some (.int .i64 o.sh) ∧ w'.cell? ⟨w.heap.size, 11, none⟩ = some (.int .i64 o.dn) ∧ w'.cell? ⟨w.heap.size, 12, none⟩ = some (.int .i64 o.le) ∧ w'.cell? ⟨w.heap.size, 13, none⟩ = some (.int .i64 o.un) ∧ w'.cell? ⟨w.heap.size, 14, none⟩ = some (.int .i64 o.ow)) := fun w' hb => by
    have b1 := HW0.out.2.1.below hb HW0.out.2.1.lt
    exact ⟨b1.cell 0, b1.cell 1, b1.cell 2, b1.cell 3, b1.cell 4, b1.cell 5, b1.cell 6, b1.cell 7, b1.cell 8, b1.cell 9, b1.cell 10, b1.cell 11, b1.cell 12, b1.cell 13, b1.cell 14⟩
  obtain ⟨e0, e1, e2, e3, e4, e5, e6, e7, e8, e9, e10, e11, e12, e13, e14⟩ := HS.out W (Below.refl _ _)
  go_wp2_with (go_at_call 21; fail)
  refine (HIO.out _).mono ?_
  rintro e W1 ⟨rfl, hb1⟩
  have HB1 : Hid (Below W.heap.size W W1) := hb1
  have HG1 : Hid (GdAt W1 G) := HW0.out.2.2.below hb1
  have HBw : Hid (Below w.heap.size w W1) := below_step HW0.out.1 hb1
  clear hb1 e0 e1 e2 e3 e4 e5 e6 e7 e8 e9 e10 e11 e12 e13 e14
  obtain ⟨e0, e1, e2, e3, e4, e5, e6, e7, e8, e9, e10, e11, e12, e13, e14⟩ := HS.out W1 HB1.out
  have d0 := HG1.out.blk.cell 0
  simp only [List.getElem?_toArray, List.getElem?_cons_succ, List.getElem?_cons_zero] at d0
  have hi1 : ¬ o.id < 1 := by omega
  have hlk := fun n => HLA.out (W1.drewN n) (HG1.out.below (below_drewN (Below.refl _ _) n))
  go_upto_region 3 with fail
  go_quiet (fail)
  have HB2 : Hid (Below W.heap.size W (W1.drewN nq)) := below_drewN HB1.out nq
  have HG2 : Hid (GdAt (W1.drewN nq) G) := HG1.out.below (below_drewN (Below.refl _ _) nq)
  clear hlk d0 e0 e1 e2 e3 e4 e5 e6 e7 e8 e9 e10 e11 e12 e13 e14
  generalize W1.drewN nq = W2 at *
  go_upto_region 6 with fail
  have HK6 : Hid (∀ w', Below W2.heap.size W2 w' → w'.cell? ⟨G.g, 1, none⟩ = some (.map (some G.mo)) ∧ w'.cell? ⟨w.heap.size, 0, none⟩ = some (.int .i64 o.id) ∧ Sem.run Try.prog (Instr.lookup 61 (.map (some G.mo)) (.int .i64 o.id) true) w' = .ok (.tuple #[.agg #[.string xac, .string xsy, .int .i64 xsd, .int .i64 xq, .int .i64 xv], .bool true]) w') := fun w' hb => ⟨(HG2.out.below hb).blk.cell 1, (HS.out _ (below_step HB2.out hb)).1, HLO.out _ (HG2.out.below hb)⟩
  have hBx : Below W2.heap.size W2 W2.drew := ⟨rfl, rfl, rfl, Nat.le_refl _, fun _ _ => rfl⟩
  have hBy : ∀ o : Obj, Below W2.heap.size W2 (W2.drew.alloc o) := fun o => hBx.alloc hBx.size _
  go_region_held (fun w' => w'.cell? ⟨G.g, 1, none⟩ = some (.map (some G.mo)) ∧ w'.cell? ⟨w.heap.size, 0, none⟩ = some (.int .i64 o.id) ∧ Sem.run Try.prog (Instr.lookup 61 (.map (some G.mo)) (.int .i64 o.id) true) w' = .ok (.tuple #[.agg #[.string xac, .string xsy, .int .i64 xsd, .int .i64 xq, .int .i64 xv], .bool true]) w') (first | exact HK6.out _ hBx | exact HK6.out _ (hBy _)) (fail)
  all_goals (
    have HB3 : Hid (Below W2.heap.size W2 ((W2.alloc (.cells #[.string xac, .string xsy, .int .i64 xsd, .int .i64 xq, .int .i64 xv] 77)).drew)) := below_drewN ((Below.refl _ W2).alloc (Nat.le_refl _) _) 1
    have HBk : Hid (Blk ((W2.alloc (.cells #[.string xac, .string xsy, .int .i64 xsd, .int .i64 xq, .int .i64 xv] 77)).drew) W2.heap.size 77 #[.string xac, .string xsy, .int .i64 xsd, .int .i64 xq, .int .i64 xv]) := Blk.new W2 _ _
    have d7 := HBk.out.cell 0
    simp only [List.getElem?_toArray, List.getElem?_cons_succ, List.getElem?_cons_zero] at d7
    clear HBk hBy hBx
    generalize ((W2.alloc (.cells #[.string xac, .string xsy, .int .i64 xsd, .int .i64 xq, .int .i64 xv] 77)).drew) = W3 at *
    have HB4 : Hid (Below W.heap.size W W3) := below_step HB2.out HB3.out
    have HB5 : Hid (Below w.heap.size w W3) := below_step HW0.out.1 HB4.out
    obtain ⟨e0, e1, e2, e3, e4, e5, e6, e7, e8, e9, e10, e11, e12, e13, e14⟩ := HS.out W3 HB4.out
    have hneq : (!(xac.toList == o.ac.toList)) = true := by rw [hne]; rfl)
  all_goals go_wp2
  all_goals go_ret
  all_goals exact ⟨rfl, HB5.out⟩
/-- What Open answers. -/
def opE (G : Gd) (o : Ord) (mark : Int) : Int :=
  if isoB o mark = false ∨ o.id < 1 then 1 else
  match G.acc o.ac with
  | none => 161
  | some _ => match G.at o.id with
    | none => 0
    | some x => if (x.ac.toList == o.ac.toList) = true then 0 else 120
def opO (G : Gd) (o : Ord) (mark : Int) : List Oo := if opE G o mark = 0 then o.oo mark :: doO G.O o.id else G.O
theorem Open_any (G : Gd) (o : Ord) (mark : Int) (w : World) (h : GdAt w G) (hac : o.ac.size ≤ maxLen) (i1 : o.id ≤ 9223372036854775807) (hl : G.O.length < maxLen) :
    Calls Try.prog 12 #[.pointer (some ⟨G.g, 0, none⟩), .agg o.cs, .int .i64 mark] w fun e w' => e = .returned (.int .i64 (opE G o mark)) ∧ GdAt w' { G with O := opO G o mark } ∧ Fr w w' G.own := by
  by_cases hb : isoB o mark = false ∨ o.id < 1
  · have e1 : opE G o mark = 1 := if_pos hb
    have e2 : opO G o mark = G.O := by unfold opO; rw [e1]; rfl
    rw [e1, e2]
    exact (Open_bad G o mark w h hb).mono fun e w' ⟨h1, h2⟩ => ⟨h1, h.below h2, Fr.of_below h2 _⟩
  have hi : isoB o mark = true := by
    cases hh : isoB o mark
    · exact absurd (.inl hh) hb
    · rfl
  have hid : 1 ≤ o.id := by
    rcases Int.lt_or_le o.id 1 with hh | hh
    · exact absurd (.inr hh) hb
    · exact hh
  cases hn : G.acc o.ac with
  | none =>
    have e1 : opE G o mark = 161 := by unfold opE; rw [if_neg hb, hn]
    have e2 : opO G o mark = G.O := by unfold opO; rw [e1]; rfl
    rw [e1, e2]
    exact (Open_none G o mark w h hac hi hid hn).mono fun e w' ⟨h1, h2⟩ => ⟨h1, h.below h2, Fr.of_below h2 _⟩
  | some a =>
    cases hat : G.at o.id with
    | none =>
      have e1 : opE G o mark = 0 := by unfold opE; rw [if_neg hb, hn]; simp only; rw [hat]
      have e2 : opO G o mark = o.oo mark :: doO G.O o.id := by unfold opO; rw [e1]; rfl
      rw [e1, e2]
      exact Open_yes G o mark w h hac hi hid i1 hn (fun x hx => by rw [hat] at hx; cases hx) hl
    | some x =>
      cases hq : (x.ac.toList == o.ac.toList) with
      | true =>
        have e1 : opE G o mark = 0 := by unfold opE; rw [if_neg hb, hn]; simp only; rw [hat]; simp only; rw [if_pos hq]
        have e2 : opO G o mark = o.oo mark :: doO G.O o.id := by unfold opO; rw [e1]; rfl
        rw [e1, e2]
        exact Open_yes G o mark w h hac hi hid i1 hn (fun y hy => by rw [hat] at hy; injection hy with hy; rw [← hy]; exact str_eq hq) hl
      | false =>
        have e1 : opE G o mark = 120 := by unfold opE; rw [if_neg hb, hn]; simp only; rw [hat]; simp only; rw [if_neg (by rw [hq]; simp)]
        have e2 : opO G o mark = G.O := by unfold opO; rw [e1]; rfl
        rw [e1, e2]
        exact (Open_known G o mark w h hac hi hid i1 hn hat hq).mono fun e w' ⟨h1, h2⟩ => ⟨h1, h.below h2, Fr.of_below h2 _⟩
end Go.Proofs.Ytgioknkfppaaaaa
