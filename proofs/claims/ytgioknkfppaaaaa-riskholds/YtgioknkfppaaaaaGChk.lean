/-
  risk: Check.
-/
import Derived.Test.YtgioknkfppaaaaaGAbove
namespace Go.Proofs.Ytgioknkfppaaaaa
set_option linter.unusedVariables false
set_option linter.unusedSimpArgs false
open Go.RowKit Go.Great Go.Maps

/-- The account of a name. -/
def Gd.acc (G : Gd) (nm : ByteArray) : Option Ac := G.A.find? fun a => a.nm.toList == nm.toList
def ckE (G : Gd) (o : Ord) (mark now : Int) : Int :=
  if (isoB o mark && wiB now 0 253402300799999) = false then 1 else
  match G.acc o.ac with
  | none => 161
  | some a => if a.st = true then 152 else if tkB a now = false then 151 else if abB a G.O o (valI o mark) = true then 150 else 0
def ckG (G : Gd) (o : Ord) (mark now : Int) : Gd :=
  if (isoB o mark && wiB now 0 253402300799999) = false then G else
  match G.acc o.ac with
  | none => G
  | some a => if a.st = true then G else { G with A := setA G.A { a with due := tkD a now } }
theorem Gd.acc_mem {G : Gd} {nm : ByteArray} {a : Ac} (h : G.acc nm = some a) : a ∈ G.A ∧ a.nm = nm := ⟨List.mem_of_find?_eq_some h, str_eq (by simpa using List.find?_some h)⟩
theorem look_acc {G : Gd} {w : World} (h : GdAt w G) {nm : ByteArray} (hs : nm.size ≤ maxLen) :
    Sem.run Try.prog (Instr.lookup 60 (.map (some G.ma)) (.string nm) true) w = .ok (.tuple #[((G.acc nm).map fun a => (.pointer (some ⟨a.blk, 0, none⟩) : Value)).getD (.pointer none), .bool (G.acc nm).isSome]) w := by
  have := (h.accs.look law9 Try.underlying60 (zeroP w) (keyS Try.underlying9 hs)).1
  rw [atL_acc] at this
  rw [this]
  unfold Gd.acc
  cases G.A.find? (fun a => a.nm.toList == nm.toList) <;> rfl
theorem look_none {G : Gd} {w : World} (h : GdAt w G) {nm : ByteArray} (hs : nm.size ≤ maxLen) (hn : G.acc nm = none) :
    Sem.run Try.prog (Instr.lookup 60 (.map (some G.ma)) (.string nm) true) w = .ok (.tuple #[.pointer none, .bool false]) w := by
  rw [look_acc h hs, hn]; rfl
theorem look_some {G : Gd} {w : World} (h : GdAt w G) {nm : ByteArray} (hs : nm.size ≤ maxLen) {a : Ac} (hn : G.acc nm = some a) :
    Sem.run Try.prog (Instr.lookup 60 (.map (some G.ma)) (.string nm) true) w = .ok (.tuple #[.pointer (some ⟨a.blk, 0, none⟩), .bool true]) w := by
  rw [look_acc h hs, hn]; rfl
set_option maxRecDepth 100000 in
set_option maxHeartbeats 1000000 in
theorem Check_bad (G : Gd) (o : Ord) (mark now : Int) (w : World) (h : GdAt w G) (hb : (isoB o mark && wiB now 0 253402300799999) = false) :
    Calls Try.prog 10 #[.pointer (some ⟨G.g, 0, none⟩), .agg o.cs, .int .i64 mark, .int .i64 now] w fun e w' => e = .returned (.int .i64 1) ∧ Below w.heap.size w w' := by
  have HW0 : Hid (Below w.heap.size w (w.alloc (.cells o.cs 35)) ∧ Blk (w.alloc (.cells o.cs 35)) w.heap.size 35 o.cs ∧ GdAt (w.alloc (.cells o.cs 35)) G) := ⟨(Below.refl _ w).alloc (Nat.le_refl _) _, Blk.new _ _ _, h.below ((Below.refl _ w).alloc (Nat.le_refl _) _)⟩
  have HIO : Hid (∀ w, Calls Try.prog 21 #[.agg o.cs, .int .i64 mark] w fun e w' => e = .returned (.bool (isoB o mark)) ∧ Below w.heap.size w w') := fun w => isOrder_any o mark w
  have HOC : Hid (o.cs = #[.int .i64 o.id, .string o.nm, .string o.ac, .string o.sy, .int .i64 o.sd, .int .i64 o.ty, .int .i64 o.lf, .int .i64 o.pr, .int .i64 o.sp, .int .i64 o.q, .int .i64 o.sh, .int .i64 o.dn, .int .i64 o.le, .int .i64 o.un, .int .i64 o.ow]) := rfl
  rw [HOC.out] at HW0 HIO ⊢
  have hwi := fun w => within_any now 0 253402300799999 w
  clear h
  cases hi : isoB o mark
  · rw [hi] at HIO
    clear hb hi
    go_enter Try.func10, Try.ntmps10
    go_upto_region 1 with fail
    generalize hW : (w.alloc (.cells #[.int .i64 o.id, .string o.nm, .string o.ac, .string o.sy, .int .i64 o.sd, .int .i64 o.ty, .int .i64 o.lf, .int .i64 o.pr, .int .i64 o.sp, .int .i64 o.q, .int .i64 o.sh, .int .i64 o.dn, .int .i64 o.le, .int .i64 o.un, .int .i64 o.ow] 35)) = W at *
    clear hW
    have HS : Hid (∀ w', Below W.heap.size W w' → w'.cell? ⟨w.heap.size, 0, none⟩ = some (.int .i64 o.id) ∧ w'.cell? ⟨w.heap.size, 1, none⟩ = some (.string o.nm) ∧ w'.cell? ⟨w.heap.size, 2, none⟩ = some (.string o.ac) ∧ w'.cell? ⟨w.heap.size, 3, none⟩ = some (.string o.sy) ∧ w'.cell? ⟨w.heap.size, 4, none⟩ = some (.int .i64 o.sd) ∧ w'.cell? ⟨w.heap.size, 5, none⟩ = some (.int .i64 o.ty) ∧ w'.cell? ⟨w.heap.size, 6, none⟩ = some (.int .i64 o.lf) ∧ w'.cell? ⟨w.heap.size, 7, none⟩ = some (.int .i64 o.pr) ∧ w'.cell? ⟨w.heap.size, 8, none⟩ = some (.int .i64 o.sp) ∧ w'.cell? ⟨w.heap.size, 9, none⟩ = some (.int .i64 o.q) ∧ w'.cell? ⟨w.heap.size, 10, none⟩ = some (.int .i64 o.sh) ∧ w'.cell? ⟨w.heap.size, 11, none⟩ = some (.int .i64 o.dn) ∧ w'.cell? ⟨w.heap.size, 12, none⟩ = some (.int .i64 o.le) ∧ w'.cell? ⟨w.heap.size, 13, none⟩ = some (.int .i64 o.un) ∧ w'.cell? ⟨w.heap.size, 14, none⟩ = some (.int .i64 o.ow)) := fun w' hb => by
      have b1 := HW0.out.2.1.below hb HW0.out.2.1.lt
      exact ⟨b1.cell 0, b1.cell 1, b1.cell 2, b1.cell 3, b1.cell 4, b1.cell 5, b1.cell 6, b1.cell 7, b1.cell 8, b1.cell 9, b1.cell 10, b1.cell 11, b1.cell 12, b1.cell 13, b1.cell 14⟩
    obtain ⟨e0, e1, e2, e3, e4, e5, e6, e7, e8, e9, e10, e11, e12, e13, e14⟩ := HS.out W (Below.refl _ _)
    go_wp2_with (go_at_call 21; fail)
    refine (HIO.out _).mono ?_
    rintro e W1 ⟨rfl, hb1⟩
    have HB1 : Hid (Below w.heap.size w W1) := below_step HW0.out.1 hb1
    go_wp2
    go_ret
    exact ⟨rfl, HB1.out⟩
  · rw [hi, Bool.true_and] at hb
    rw [hi] at HIO
    rw [hb] at hwi
    clear hb hi
    go_enter Try.func10, Try.ntmps10
    go_upto_region 1 with fail
    generalize hW : (w.alloc (.cells #[.int .i64 o.id, .string o.nm, .string o.ac, .string o.sy, .int .i64 o.sd, .int .i64 o.ty, .int .i64 o.lf, .int .i64 o.pr, .int .i64 o.sp, .int .i64 o.q, .int .i64 o.sh, .int .i64 o.dn, .int .i64 o.le, .int .i64 o.un, .int .i64 o.ow] 35)) = W at *
    clear hW
    have HS : Hid (∀ w', Below W.heap.size W w' → w'.cell? ⟨w.heap.size, 0, none⟩ = some (.int .i64 o.id) ∧ w'.cell? ⟨w.heap.size, 1, none⟩ = some (.string o.nm) ∧ w'.cell? ⟨w.heap.size, 2, none⟩ = some (.string o.ac) ∧ w'.cell? ⟨w.heap.size, 3, none⟩ = some (.string o.sy) ∧ w'.cell? ⟨w.heap.size, 4, none⟩ = some (.int .i64 o.sd) ∧ w'.cell? ⟨w.heap.size, 5, none⟩ = some (.int .i64 o.ty) ∧ w'.cell? ⟨w.heap.size, 6, none⟩ = some (.int .i64 o.lf) ∧ w'.cell? ⟨w.heap.size, 7, none⟩ = some (.int .i64 o.pr) ∧ w'.cell? ⟨w.heap.size, 8, none⟩ = some (.int .i64 o.sp) ∧ w'.cell? ⟨w.heap.size, 9, none⟩ = some (.int .i64 o.q) ∧ w'.cell? ⟨w.heap.size, 10, none⟩ = some (.int .i64 o.sh) ∧ w'.cell? ⟨w.heap.size, 11, none⟩ = some (.int .i64 o.dn) ∧ w'.cell? ⟨w.heap.size, 12, none⟩ = some (.int .i64 o.le) ∧ w'.cell? ⟨w.heap.size, 13, none⟩ = some (.int .i64 o.un) ∧ w'.cell? ⟨w.heap.size, 14, none⟩ = some (.int .i64 o.ow)) := fun w' hb => by
      have b1 := HW0.out.2.1.below hb HW0.out.2.1.lt
      exact ⟨b1.cell 0, b1.cell 1, b1.cell 2, b1.cell 3, b1.cell 4, b1.cell 5, b1.cell 6, b1.cell 7, b1.cell 8, b1.cell 9, b1.cell 10, b1.cell 11, b1.cell 12, b1.cell 13, b1.cell 14⟩
    obtain ⟨e0, e1, e2, e3, e4, e5, e6, e7, e8, e9, e10, e11, e12, e13, e14⟩ := HS.out W (Below.refl _ _)
    go_wp2_with (go_at_call 21; fail)
    refine (HIO.out _).mono ?_
    rintro e W1 ⟨rfl, hb1⟩
    have HB1 : Hid (Below w.heap.size w W1) := below_step HW0.out.1 hb1
    go_wp2_with (go_at_call 22; fail)
    refine (hwi _).mono ?_
    rintro e W2 ⟨rfl, rfl⟩
    go_wp2
    go_ret
    exact ⟨rfl, HB1.out⟩
set_option maxRecDepth 100000 in
set_option maxHeartbeats 1000000 in
theorem Check_none (G : Gd) (o : Ord) (mark now : Int) (w : World) (h : GdAt w G) (hac : o.ac.size ≤ maxLen) (hi : (isoB o mark && wiB now 0 253402300799999) = true) (hn : G.acc o.ac = none) :
    Calls Try.prog 10 #[.pointer (some ⟨G.g, 0, none⟩), .agg o.cs, .int .i64 mark, .int .i64 now] w fun e w' => e = .returned (.int .i64 161) ∧ Below w.heap.size w w' := by
  have hwi := fun w => within_any now 0 253402300799999 w
  obtain ⟨hi1, hi2⟩ := Bool.and_eq_true_iff.1 hi
  clear hi
  have HW0 : Hid (Below w.heap.size w (w.alloc (.cells o.cs 35)) ∧ Blk (w.alloc (.cells o.cs 35)) w.heap.size 35 o.cs ∧ GdAt (w.alloc (.cells o.cs 35)) G) := ⟨(Below.refl _ w).alloc (Nat.le_refl _) _, Blk.new _ _ _, h.below ((Below.refl _ w).alloc (Nat.le_refl _) _)⟩
  have HIO : Hid (∀ w, Calls Try.prog 21 #[.agg o.cs, .int .i64 mark] w fun e w' => e = .returned (.bool (isoB o mark)) ∧ Below w.heap.size w w') := fun w => isOrder_any o mark w
  have HOC : Hid (o.cs = #[.int .i64 o.id, .string o.nm, .string o.ac, .string o.sy, .int .i64 o.sd, .int .i64 o.ty, .int .i64 o.lf, .int .i64 o.pr, .int .i64 o.sp, .int .i64 o.q, .int .i64 o.sh, .int .i64 o.dn, .int .i64 o.le, .int .i64 o.un, .int .i64 o.ow]) := rfl
  rw [HOC.out] at HW0 HIO ⊢
  clear h
  rw [hi1] at HIO
  rw [hi2] at hwi
  clear hi1 hi2
  go_enter Try.func10, Try.ntmps10
  go_upto_region 1 with fail
  generalize hW : (w.alloc (.cells #[.int .i64 o.id, .string o.nm, .string o.ac, .string o.sy, .int .i64 o.sd, .int .i64 o.ty, .int .i64 o.lf, .int .i64 o.pr, .int .i64 o.sp, .int .i64 o.q, .int .i64 o.sh, .int .i64 o.dn, .int .i64 o.le, .int .i64 o.un, .int .i64 o.ow] 35)) = W at *
  clear hW
  have HS : Hid (∀ w', Below W.heap.size W w' → w'.cell? ⟨w.heap.size, 0, none⟩ = some (.int .i64 o.id) ∧ w'.cell? ⟨w.heap.size, 1, none⟩ = some (.string o.nm) ∧ w'.cell? ⟨w.heap.size, 2, none⟩ = some (.string o.ac) ∧ w'.cell? ⟨w.heap.size, 3, none⟩ = some (.string o.sy) ∧ w'.cell? ⟨w.heap.size, 4, none⟩ = some (.int .i64 o.sd) ∧ w'.cell? ⟨w.heap.size, 5, none⟩ = some (.int .i64 o.ty) ∧ w'.cell? ⟨w.heap.size, 6, none⟩ = some (.int .i64 o.lf) ∧ w'.cell? ⟨w.heap.size, 7, none⟩ = some (.int .i64 o.pr) ∧ w'.cell? ⟨w.heap.size, 8, none⟩ = some (.int .i64 o.sp) ∧ w'.cell? ⟨w.heap.size, 9, none⟩ = some (.int .i64 o.q) ∧ w'.cell? ⟨w.heap.size, 10, none⟩ = some (.int .i64 o.sh) ∧ w'.cell? ⟨w.heap.size, 11, none⟩ = some (.int .i64 o.dn) ∧ w'.cell? ⟨w.heap.size, 12, none⟩ = some (.int .i64 o.le) ∧ w'.cell? ⟨w.heap.size, 13, none⟩ = some (.int .i64 o.un) ∧ w'.cell? ⟨w.heap.size, 14, none⟩ = some (.int .i64 o.ow)) := fun w' hb => by
    have b1 := HW0.out.2.1.below hb HW0.out.2.1.lt
    exact ⟨b1.cell 0, b1.cell 1, b1.cell 2, b1.cell 3, b1.cell 4, b1.cell 5, b1.cell 6, b1.cell 7, b1.cell 8, b1.cell 9, b1.cell 10, b1.cell 11, b1.cell 12, b1.cell 13, b1.cell 14⟩
  obtain ⟨e0, e1, e2, e3, e4, e5, e6, e7, e8, e9, e10, e11, e12, e13, e14⟩ := HS.out W (Below.refl _ _)
  go_wp2_with (go_at_call 21; fail)
  refine (HIO.out _).mono ?_
  rintro e W1 ⟨rfl, hb1⟩
  have HB1 : Hid (Below W.heap.size W W1) := hb1
  clear hb1
  go_wp2_with (go_at_call 22; fail)
  refine (hwi _).mono ?_
  rintro e W2 ⟨rfl, rfl⟩
  have HG1 : Hid (GdAt W2 G) := HW0.out.2.2.below HB1.out
  have HBw : Hid (Below w.heap.size w W2) := below_step HW0.out.1 HB1.out
  have d0 := HG1.out.blk.cell 0
  simp only [List.getElem?_toArray, List.getElem?_cons_succ, List.getElem?_cons_zero] at d0
  clear e0 e1 e2 e3 e4 e5 e6 e7 e8 e9 e10 e11 e12 e13 e14
  obtain ⟨e0, e1, e2, e3, e4, e5, e6, e7, e8, e9, e10, e11, e12, e13, e14⟩ := HS.out W2 HB1.out
  have hlk := fun n => look_none (w := W2.drewN n) (HG1.out.below (below_drewN (Below.refl _ _) n)) hac hn
  go_upto_region 3 with fail
  go_quiet (fail)
  go_wp2
  go_ret
  exact ⟨rfl, below_drewN HBw.out _⟩
set_option maxRecDepth 100000 in
set_option maxHeartbeats 1000000 in
theorem Check_kill (G : Gd) (o : Ord) (mark now : Int) (w : World) (h : GdAt w G) (hac : o.ac.size ≤ maxLen) (hi : (isoB o mark && wiB now 0 253402300799999) = true) {a : Ac} (hn : G.acc o.ac = some a) (hst : a.st = true) :
    Calls Try.prog 10 #[.pointer (some ⟨G.g, 0, none⟩), .agg o.cs, .int .i64 mark, .int .i64 now] w fun e w' => e = .returned (.int .i64 152) ∧ Below w.heap.size w w' := by
  have hwi := fun w => within_any now 0 253402300799999 w
  obtain ⟨hi1, hi2⟩ := Bool.and_eq_true_iff.1 hi
  clear hi
  have HW0 : Hid (Below w.heap.size w (w.alloc (.cells o.cs 35)) ∧ Blk (w.alloc (.cells o.cs 35)) w.heap.size 35 o.cs ∧ GdAt (w.alloc (.cells o.cs 35)) G) := ⟨(Below.refl _ w).alloc (Nat.le_refl _) _, Blk.new _ _ _, h.below ((Below.refl _ w).alloc (Nat.le_refl _) _)⟩
  have HIO : Hid (∀ w, Calls Try.prog 21 #[.agg o.cs, .int .i64 mark] w fun e w' => e = .returned (.bool (isoB o mark)) ∧ Below w.heap.size w w') := fun w => isOrder_any o mark w
  have HOC : Hid (o.cs = #[.int .i64 o.id, .string o.nm, .string o.ac, .string o.sy, .int .i64 o.sd, .int .i64 o.ty, .int .i64 o.lf, .int .i64 o.pr, .int .i64 o.sp, .int .i64 o.q, .int .i64 o.sh, .int .i64 o.dn, .int .i64 o.le, .int .i64 o.un, .int .i64 o.ow]) := rfl
  rw [HOC.out] at HW0 HIO ⊢
  clear h
  rw [hi1] at HIO
  rw [hi2] at hwi
  clear hi1 hi2
  go_enter Try.func10, Try.ntmps10
  go_upto_region 1 with fail
  generalize hW : (w.alloc (.cells #[.int .i64 o.id, .string o.nm, .string o.ac, .string o.sy, .int .i64 o.sd, .int .i64 o.ty, .int .i64 o.lf, .int .i64 o.pr, .int .i64 o.sp, .int .i64 o.q, .int .i64 o.sh, .int .i64 o.dn, .int .i64 o.le, .int .i64 o.un, .int .i64 o.ow] 35)) = W at *
  clear hW
  have HS : Hid (∀ w', Below W.heap.size W w' → w'.cell? ⟨w.heap.size, 0, none⟩ = some (.int .i64 o.id) ∧ w'.cell? ⟨w.heap.size, 1, none⟩ = some (.string o.nm) ∧ w'.cell? ⟨w.heap.size, 2, none⟩ = some (.string o.ac) ∧ w'.cell? ⟨w.heap.size, 3, none⟩ = some (.string o.sy) ∧ w'.cell? ⟨w.heap.size, 4, none⟩ = some (.int .i64 o.sd) ∧ w'.cell? ⟨w.heap.size, 5, none⟩ = some (.int .i64 o.ty) ∧ w'.cell? ⟨w.heap.size, 6, none⟩ = some (.int .i64 o.lf) ∧ w'.cell? ⟨w.heap.size, 7, none⟩ = some (.int .i64 o.pr) ∧ w'.cell? ⟨w.heap.size, 8, none⟩ = some (.int .i64 o.sp) ∧ w'.cell? ⟨w.heap.size, 9, none⟩ = some (.int .i64 o.q) ∧ w'.cell? ⟨w.heap.size, 10, none⟩ = some (.int .i64 o.sh) ∧ w'.cell? ⟨w.heap.size, 11, none⟩ = some (.int .i64 o.dn) ∧ w'.cell? ⟨w.heap.size, 12, none⟩ = some (.int .i64 o.le) ∧ w'.cell? ⟨w.heap.size, 13, none⟩ = some (.int .i64 o.un) ∧ w'.cell? ⟨w.heap.size, 14, none⟩ = some (.int .i64 o.ow)) := fun w' hb => by
    have b1 := HW0.out.2.1.below hb HW0.out.2.1.lt
    exact ⟨b1.cell 0, b1.cell 1, b1.cell 2, b1.cell 3, b1.cell 4, b1.cell 5, b1.cell 6, b1.cell 7, b1.cell 8, b1.cell 9, b1.cell 10, b1.cell 11, b1.cell 12, b1.cell 13, b1.cell 14⟩
  obtain ⟨e0, e1, e2, e3, e4, e5, e6, e7, e8, e9, e10, e11, e12, e13, e14⟩ := HS.out W (Below.refl _ _)
  go_wp2_with (go_at_call 21; fail)
  refine (HIO.out _).mono ?_
  rintro e W1 ⟨rfl, hb1⟩
  have HB1 : Hid (Below W.heap.size W W1) := hb1
  clear hb1
  go_wp2_with (go_at_call 22; fail)
  refine (hwi _).mono ?_
  rintro e W2 ⟨rfl, rfl⟩
  have HG1 : Hid (GdAt W2 G) := HW0.out.2.2.below HB1.out
  have HBw : Hid (Below w.heap.size w W2) := below_step HW0.out.1 HB1.out
  have d0 := HG1.out.blk.cell 0
  simp only [List.getElem?_toArray, List.getElem?_cons_succ, List.getElem?_cons_zero] at d0
  clear e0 e1 e2 e3 e4 e5 e6 e7 e8 e9 e10 e11 e12 e13 e14
  obtain ⟨e0, e1, e2, e3, e4, e5, e6, e7, e8, e9, e10, e11, e12, e13, e14⟩ := HS.out W2 HB1.out
  have HA : Hid (AcAt W2 a) := HG1.out.acc a (Gd.acc_mem hn).1
  have d6 := HA.out.blk.cell 6
  simp only [Ac.cs, List.getElem?_toArray, List.getElem?_cons_succ, List.getElem?_cons_zero] at d6
  have hlk := fun n => look_some (w := W2.drewN n) (HG1.out.below (below_drewN (Below.refl _ _) n)) hac hn
  have HN : Hid (G.acc o.ac = some a) := hn
  clear hn
  go_upto_region 3 with fail
  go_quiet (fail)
  rw [hst] at d6
  go_wp2
  go_ret
  exact ⟨rfl, below_drewN HBw.out _⟩
set_option maxRecDepth 100000 in
set_option maxHeartbeats 1000000 in
theorem Check_rate (G : Gd) (o : Ord) (mark now : Int) (w : World) (h : GdAt w G) (hac : o.ac.size ≤ maxLen) (hi : (isoB o mark && wiB now 0 253402300799999) = true) {a : Ac} (hn : G.acc o.ac = some a) (hst : a.st = false) (htk : tkB a now = false) :
    Calls Try.prog 10 #[.pointer (some ⟨G.g, 0, none⟩), .agg o.cs, .int .i64 mark, .int .i64 now] w fun e w' => e = .returned (.int .i64 151) ∧ GdAt w' { G with A := setA G.A { a with due := tkD a now } } ∧ Fr w w' G.own ∧ ∀ b, Gd.own { G with A := setA G.A { a with due := tkD a now } } b ↔ G.own b := by
  have hwi := fun w => within_any now 0 253402300799999 w
  obtain ⟨hi1, hi2⟩ := Bool.and_eq_true_iff.1 hi
  clear hi
  have HW0 : Hid (Below w.heap.size w (w.alloc (.cells o.cs 35)) ∧ Blk (w.alloc (.cells o.cs 35)) w.heap.size 35 o.cs ∧ GdAt (w.alloc (.cells o.cs 35)) G) := ⟨(Below.refl _ w).alloc (Nat.le_refl _) _, Blk.new _ _ _, h.below ((Below.refl _ w).alloc (Nat.le_refl _) _)⟩
  have HIO : Hid (∀ w, Calls Try.prog 21 #[.agg o.cs, .int .i64 mark] w fun e w' => e = .returned (.bool (isoB o mark)) ∧ Below w.heap.size w w') := fun w => isOrder_any o mark w
  have HOC : Hid (o.cs = #[.int .i64 o.id, .string o.nm, .string o.ac, .string o.sy, .int .i64 o.sd, .int .i64 o.ty, .int .i64 o.lf, .int .i64 o.pr, .int .i64 o.sp, .int .i64 o.q, .int .i64 o.sh, .int .i64 o.dn, .int .i64 o.le, .int .i64 o.un, .int .i64 o.ow]) := rfl
  rw [HOC.out] at HW0 HIO ⊢
  have HNow : Hid (0 ≤ now ∧ now ≤ 253402300799999) := wiB_iff.1 hi2
  clear h
  rw [hi1] at HIO
  rw [hi2] at hwi
  clear hi1 hi2
  go_enter Try.func10, Try.ntmps10
  go_upto_region 1 with fail
  generalize hW : (w.alloc (.cells #[.int .i64 o.id, .string o.nm, .string o.ac, .string o.sy, .int .i64 o.sd, .int .i64 o.ty, .int .i64 o.lf, .int .i64 o.pr, .int .i64 o.sp, .int .i64 o.q, .int .i64 o.sh, .int .i64 o.dn, .int .i64 o.le, .int .i64 o.un, .int .i64 o.ow] 35)) = W at *
  clear hW
  have HS : Hid (∀ w', Below W.heap.size W w' → w'.cell? ⟨w.heap.size, 0, none⟩ = some (.int .i64 o.id) ∧ w'.cell? ⟨w.heap.size, 1, none⟩ = some (.string o.nm) ∧ w'.cell? ⟨w.heap.size, 2, none⟩ = some (.string o.ac) ∧ w'.cell? ⟨w.heap.size, 3, none⟩ = some (.string o.sy) ∧ w'.cell? ⟨w.heap.size, 4, none⟩ = some (.int .i64 o.sd) ∧ w'.cell? ⟨w.heap.size, 5, none⟩ = some (.int .i64 o.ty) ∧ w'.cell? ⟨w.heap.size, 6, none⟩ = some (.int .i64 o.lf) ∧ w'.cell? ⟨w.heap.size, 7, none⟩ = some (.int .i64 o.pr) ∧ w'.cell? ⟨w.heap.size, 8, none⟩ = some (.int .i64 o.sp) ∧ w'.cell? ⟨w.heap.size, 9, none⟩ = some (.int .i64 o.q) ∧ w'.cell? ⟨w.heap.size, 10, none⟩ = some (.int .i64 o.sh) ∧ w'.cell? ⟨w.heap.size, 11, none⟩ = some (.int .i64 o.dn) ∧ w'.cell? ⟨w.heap.size, 12, none⟩ = some (.int .i64 o.le) ∧ w'.cell? ⟨w.heap.size, 13, none⟩ = some (.int .i64 o.un) ∧ w'.cell? ⟨w.heap.size, 14, none⟩ = some (.int .i64 o.ow)) := fun w' hb => by
    have b1 := HW0.out.2.1.below hb HW0.out.2.1.lt
    exact ⟨b1.cell 0, b1.cell 1, b1.cell 2, b1.cell 3, b1.cell 4, b1.cell 5, b1.cell 6, b1.cell 7, b1.cell 8, b1.cell 9, b1.cell 10, b1.cell 11, b1.cell 12, b1.cell 13, b1.cell 14⟩
  obtain ⟨e0, e1, e2, e3, e4, e5, e6, e7, e8, e9, e10, e11, e12, e13, e14⟩ := HS.out W (Below.refl _ _)
  go_wp2_with (go_at_call 21; fail)
  refine (HIO.out _).mono ?_
  rintro e W1 ⟨rfl, hb1⟩
  have HB1 : Hid (Below W.heap.size W W1) := hb1
  clear hb1
  go_wp2_with (go_at_call 22; fail)
  refine (hwi _).mono ?_
  rintro e W2 ⟨rfl, rfl⟩
  have HG1 : Hid (GdAt W2 G) := HW0.out.2.2.below HB1.out
  have HBw : Hid (Below w.heap.size w W2) := below_step HW0.out.1 HB1.out
  have d0 := HG1.out.blk.cell 0
  simp only [List.getElem?_toArray, List.getElem?_cons_succ, List.getElem?_cons_zero] at d0
  clear e0 e1 e2 e3 e4 e5 e6 e7 e8 e9 e10 e11 e12 e13 e14
  obtain ⟨e0, e1, e2, e3, e4, e5, e6, e7, e8, e9, e10, e11, e12, e13, e14⟩ := HS.out W2 HB1.out
  have HA : Hid (AcAt W2 a) := HG1.out.acc a (Gd.acc_mem hn).1
  have d6 := HA.out.blk.cell 6
  simp only [Ac.cs, List.getElem?_toArray, List.getElem?_cons_succ, List.getElem?_cons_zero] at d6
  have hlk := fun n => look_some (w := W2.drewN n) (HG1.out.below (below_drewN (Below.refl _ _) n)) hac hn
  have HN : Hid (G.acc o.ac = some a) := hn
  clear hn
  go_upto_region 3 with fail
  go_quiet (fail)
  rw [hst] at d6
  clear hst
  have HK2 := below_drewN (Below.refl W2.heap.size W2) nq
  have HA2 : Hid (AcAt (W2.drewN nq) a) := HA.out.fr (Fr.of_below HK2 (fun _ => False)) id id
  have HG2 : Hid (GdAt (W2.drewN nq) G) := HG1.out.below HK2
  have HB2 : Hid (Below W.heap.size W (W2.drewN nq)) := below_drewN HB1.out nq
  have hT := takes_any a now (W2.drewN nq) HA2.out HNow.out.1 HNow.out.2
  rw [htk] at hT
  have f6 : (W2.drewN nq).cell? ⟨a.blk, 6, none⟩ = some (.bool false) := d6
  clear e0 e1 e2 e3 e4 e5 e6 e7 e8 e9 e10 e11 e12 e13 e14 d0 d6 HK2
  generalize W2.drewN nq = X at *
  go_wp2_with (go_at_call 23; fail)
  refine hT.mono ?_
  rintro e X1 ⟨rfl, hA3, hF3⟩
  obtain ⟨hG4, hF4, hO4⟩ := HG2.out.upd (a' := { a with due := tkD a now }) (Gd.acc_mem HN.out).1 rfl rfl rfl (hF3.mono fun b _ hb => .inl hb) hA3
  have HF5 : Hid (Fr w X1 G.own) := (Fr.of_below (below_step HW0.out.1 HB2.out) (fun _ => False)).trans hF4 fun i _ hh => hh.elim False.elim id
  have HG4 : Hid (GdAt X1 { G with A := setA G.A { a with due := tkD a now } }) := hG4
  have HA3 : Hid (AcAt X1 { a with due := tkD a now }) := hA3
  have HO4 : Hid (∀ b, Gd.own { G with A := setA G.A { a with due := tkD a now } } b ↔ G.own b) := hO4
  have HS4 : Hid (∀ w', Below X1.heap.size X1 w' → w'.cell? ⟨w.heap.size, 0, none⟩ = some (.int .i64 o.id) ∧ w'.cell? ⟨w.heap.size, 1, none⟩ = some (.string o.nm) ∧ w'.cell? ⟨w.heap.size, 2, none⟩ = some (.string o.ac) ∧ w'.cell? ⟨w.heap.size, 3, none⟩ = some (.string o.sy) ∧ w'.cell? ⟨w.heap.size, 4, none⟩ = some (.int .i64 o.sd) ∧ w'.cell? ⟨w.heap.size, 5, none⟩ = some (.int .i64 o.ty) ∧ w'.cell? ⟨w.heap.size, 6, none⟩ = some (.int .i64 o.lf) ∧ w'.cell? ⟨w.heap.size, 7, none⟩ = some (.int .i64 o.pr) ∧ w'.cell? ⟨w.heap.size, 8, none⟩ = some (.int .i64 o.sp) ∧ w'.cell? ⟨w.heap.size, 9, none⟩ = some (.int .i64 o.q) ∧ w'.cell? ⟨w.heap.size, 10, none⟩ = some (.int .i64 o.sh) ∧ w'.cell? ⟨w.heap.size, 11, none⟩ = some (.int .i64 o.dn) ∧ w'.cell? ⟨w.heap.size, 12, none⟩ = some (.int .i64 o.le) ∧ w'.cell? ⟨w.heap.size, 13, none⟩ = some (.int .i64 o.un) ∧ w'.cell? ⟨w.heap.size, 14, none⟩ = some (.int .i64 o.ow)) := fun w' hb => by
    have b0 : Blk X w.heap.size 35 _ := HW0.out.2.1.below HB2.out HW0.out.2.1.lt
    have b1 : Blk X1 w.heap.size 35 _ := b0.fr hF3 (fun e => Blk.ne_type b0 HA2.out.blk (by decide) e)
    have b2 := b1.below hb b1.lt
    exact ⟨b2.cell 0, b2.cell 1, b2.cell 2, b2.cell 3, b2.cell 4, b2.cell 5, b2.cell 6, b2.cell 7, b2.cell 8, b2.cell 9, b2.cell 10, b2.cell 11, b2.cell 12, b2.cell 13, b2.cell 14⟩
  clear hG4 hF4 hO4 hA3 hF3 hT f6
  go_wp2
  go_ret
  exact ⟨rfl, HG4.out, HF5.out, HO4.out⟩
set_option maxRecDepth 100000 in
set_option maxHeartbeats 1000000 in
theorem Check_let (G : Gd) (o : Ord) (mark now : Int) (w : World) (h : GdAt w G) (hac : o.ac.size ≤ maxLen) (hi : (isoB o mark && wiB now 0 253402300799999) = true) (hsy : o.sy.size ≤ maxLen) {a : Ac} (hn : G.acc o.ac = some a) (hst : a.st = false) (htk : tkB a now = true) :
    Calls Try.prog 10 #[.pointer (some ⟨G.g, 0, none⟩), .agg o.cs, .int .i64 mark, .int .i64 now] w fun e w' => e = .returned (.int .i64 (if abB a G.O o (valI o mark) = true then 150 else 0)) ∧ GdAt w' { G with A := setA G.A { a with due := tkD a now } } ∧ Fr w w' G.own ∧ ∀ b, Gd.own { G with A := setA G.A { a with due := tkD a now } } b ↔ G.own b := by
  have hwi := fun w => within_any now 0 253402300799999 w
  obtain ⟨hi1, hi2⟩ := Bool.and_eq_true_iff.1 hi
  clear hi
  have HW0 : Hid (Below w.heap.size w (w.alloc (.cells o.cs 35)) ∧ Blk (w.alloc (.cells o.cs 35)) w.heap.size 35 o.cs ∧ GdAt (w.alloc (.cells o.cs 35)) G) := ⟨(Below.refl _ w).alloc (Nat.le_refl _) _, Blk.new _ _ _, h.below ((Below.refl _ w).alloc (Nat.le_refl _) _)⟩
  have HIO : Hid (∀ w, Calls Try.prog 21 #[.agg o.cs, .int .i64 mark] w fun e w' => e = .returned (.bool (isoB o mark)) ∧ Below w.heap.size w w') := fun w => isOrder_any o mark w
  have HOC : Hid (o.cs = #[.int .i64 o.id, .string o.nm, .string o.ac, .string o.sy, .int .i64 o.sd, .int .i64 o.ty, .int .i64 o.lf, .int .i64 o.pr, .int .i64 o.sp, .int .i64 o.q, .int .i64 o.sh, .int .i64 o.dn, .int .i64 o.le, .int .i64 o.un, .int .i64 o.ow]) := rfl
  rw [HOC.out] at HW0 HIO ⊢
  have HNow : Hid (0 ≤ now ∧ now ≤ 253402300799999) := wiB_iff.1 hi2
  have hvb := valI_bd hi1
  have HQ : Hid (1 ≤ o.q ∧ o.q ≤ 1000000) := by
    unfold isoB at hi1
    simp only [Bool.and_eq_true] at hi1
    exact wiB_iff.1 hi1.1.1.1
  have HVO : Hid (∀ w, Calls Try.prog 25 #[.agg #[.int .i64 o.id, .string o.nm, .string o.ac, .string o.sy, .int .i64 o.sd, .int .i64 o.ty, .int .i64 o.lf, .int .i64 o.pr, .int .i64 o.sp, .int .i64 o.q, .int .i64 o.sh, .int .i64 o.dn, .int .i64 o.le, .int .i64 o.un, .int .i64 o.ow], .int .i64 mark] w fun e w' => e = .returned (.int .i64 (valI o mark)) ∧ Below w.heap.size w w') := fun w => valueOf_any o mark w hi1
  have HIA : Hid (∀ w, GdAt w { G with A := setA G.A { a with due := tkD a now } } → AcAt w { a with due := tkD a now } → Calls Try.prog 24 #[.pointer (some ⟨G.g, 0, none⟩), .pointer (some ⟨a.blk, 0, none⟩), .agg #[.int .i64 o.id, .string o.nm, .string o.ac, .string o.sy, .int .i64 o.sd, .int .i64 o.ty, .int .i64 o.lf, .int .i64 o.pr, .int .i64 o.sp, .int .i64 o.q, .int .i64 o.sh, .int .i64 o.dn, .int .i64 o.le, .int .i64 o.un, .int .i64 o.ow], .int .i64 (valI o mark)] w fun e w' => e = .returned (.bool (abB a G.O o (valI o mark))) ∧ Below w.heap.size w w') := fun w hg ha => isAbove_any { G with A := setA G.A { a with due := tkD a now } } { a with due := tkD a now } o (valI o mark) w hg ha hsy hvb.1 hvb.2 HQ.out.1 HQ.out.2
  clear h hvb
  have HR : Hid (∃ R, R = abB a G.O o (valI o mark)) := ⟨_, rfl⟩
  generalize valI o mark = V at *
  generalize abB a G.O o V = R at *
  rw [hi1] at HIO
  rw [hi2] at hwi
  clear hi1 hi2
  go_enter Try.func10, Try.ntmps10
  go_upto_region 1 with fail
  generalize hW : (w.alloc (.cells #[.int .i64 o.id, .string o.nm, .string o.ac, .string o.sy, .int .i64 o.sd, .int .i64 o.ty, .int .i64 o.lf, .int .i64 o.pr, .int .i64 o.sp, .int .i64 o.q, .int .i64 o.sh, .int .i64 o.dn, .int .i64 o.le, .int .i64 o.un, .int .i64 o.ow] 35)) = W at *
  clear hW
  have HS : Hid (∀ w', Below W.heap.size W w' → w'.cell? ⟨w.heap.size, 0, none⟩ = some (.int .i64 o.id) ∧ w'.cell? ⟨w.heap.size, 1, none⟩ = some (.string o.nm) ∧ w'.cell? ⟨w.heap.size, 2, none⟩ = some (.string o.ac) ∧ w'.cell? ⟨w.heap.size, 3, none⟩ = some (.string o.sy) ∧ w'.cell? ⟨w.heap.size, 4, none⟩ = some (.int .i64 o.sd) ∧ w'.cell? ⟨w.heap.size, 5, none⟩ = some (.int .i64 o.ty) ∧ w'.cell? ⟨w.heap.size, 6, none⟩ = some (.int .i64 o.lf) ∧ w'.cell? ⟨w.heap.size, 7, none⟩ = some (.int .i64 o.pr) ∧ w'.cell? ⟨w.heap.size, 8, none⟩ = some (.int .i64 o.sp) ∧ w'.cell? ⟨w.heap.size, 9, none⟩ = some (.int .i64 o.q) ∧ w'.cell? ⟨w.heap.size, 10, none⟩ = some (.int .i64 o.sh) ∧ w'.cell? ⟨w.heap.size, 11, none⟩ = some (.int .i64 o.dn) ∧ w'.cell? ⟨w.heap.size, 12, none⟩ = some (.int .i64 o.le) ∧ w'.cell? ⟨w.heap.size, 13, none⟩ = some (.int .i64 o.un) ∧ w'.cell? ⟨w.heap.size, 14, none⟩ = some (.int .i64 o.ow)) := fun w' hb => by
    have b1 := HW0.out.2.1.below hb HW0.out.2.1.lt
    exact ⟨b1.cell 0, b1.cell 1, b1.cell 2, b1.cell 3, b1.cell 4, b1.cell 5, b1.cell 6, b1.cell 7, b1.cell 8, b1.cell 9, b1.cell 10, b1.cell 11, b1.cell 12, b1.cell 13, b1.cell 14⟩
  obtain ⟨e0, e1, e2, e3, e4, e5, e6, e7, e8, e9, e10, e11, e12, e13, e14⟩ := HS.out W (Below.refl _ _)
  go_wp2_with (go_at_call 21; fail)
  refine (HIO.out _).mono ?_
  rintro e W1 ⟨rfl, hb1⟩
  have HB1 : Hid (Below W.heap.size W W1) := hb1
  clear hb1
  go_wp2_with (go_at_call 22; fail)
  refine (hwi _).mono ?_
  rintro e W2 ⟨rfl, rfl⟩
  have HG1 : Hid (GdAt W2 G) := HW0.out.2.2.below HB1.out
  have HBw : Hid (Below w.heap.size w W2) := below_step HW0.out.1 HB1.out
  have d0 := HG1.out.blk.cell 0
  simp only [List.getElem?_toArray, List.getElem?_cons_succ, List.getElem?_cons_zero] at d0
  clear e0 e1 e2 e3 e4 e5 e6 e7 e8 e9 e10 e11 e12 e13 e14
  obtain ⟨e0, e1, e2, e3, e4, e5, e6, e7, e8, e9, e10, e11, e12, e13, e14⟩ := HS.out W2 HB1.out
  have HA : Hid (AcAt W2 a) := HG1.out.acc a (Gd.acc_mem hn).1
  have d6 := HA.out.blk.cell 6
  simp only [Ac.cs, List.getElem?_toArray, List.getElem?_cons_succ, List.getElem?_cons_zero] at d6
  have hlk := fun n => look_some (w := W2.drewN n) (HG1.out.below (below_drewN (Below.refl _ _) n)) hac hn
  have HN : Hid (G.acc o.ac = some a) := hn
  clear hn
  go_upto_region 3 with fail
  go_quiet (fail)
  rw [hst] at d6
  clear hst
  have HK2 := below_drewN (Below.refl W2.heap.size W2) nq
  have HA2 : Hid (AcAt (W2.drewN nq) a) := HA.out.fr (Fr.of_below HK2 (fun _ => False)) id id
  have HG2 : Hid (GdAt (W2.drewN nq) G) := HG1.out.below HK2
  have HB2 : Hid (Below W.heap.size W (W2.drewN nq)) := below_drewN HB1.out nq
  have hT := takes_any a now (W2.drewN nq) HA2.out HNow.out.1 HNow.out.2
  rw [htk] at hT
  have f6 : (W2.drewN nq).cell? ⟨a.blk, 6, none⟩ = some (.bool false) := d6
  clear e0 e1 e2 e3 e4 e5 e6 e7 e8 e9 e10 e11 e12 e13 e14 d0 d6 HK2
  generalize W2.drewN nq = X at *
  go_wp2_with (go_at_call 23; fail)
  refine hT.mono ?_
  rintro e X1 ⟨rfl, hA3, hF3⟩
  obtain ⟨hG4, hF4, hO4⟩ := HG2.out.upd (a' := { a with due := tkD a now }) (Gd.acc_mem HN.out).1 rfl rfl rfl (hF3.mono fun b _ hb => .inl hb) hA3
  have HF5 : Hid (Fr w X1 G.own) := (Fr.of_below (below_step HW0.out.1 HB2.out) (fun _ => False)).trans hF4 fun i _ hh => hh.elim False.elim id
  have HG4 : Hid (GdAt X1 { G with A := setA G.A { a with due := tkD a now } }) := hG4
  have HA3 : Hid (AcAt X1 { a with due := tkD a now }) := hA3
  have HO4 : Hid (∀ b, Gd.own { G with A := setA G.A { a with due := tkD a now } } b ↔ G.own b) := hO4
  have HS4 : Hid (∀ w', Below X1.heap.size X1 w' → w'.cell? ⟨w.heap.size, 0, none⟩ = some (.int .i64 o.id) ∧ w'.cell? ⟨w.heap.size, 1, none⟩ = some (.string o.nm) ∧ w'.cell? ⟨w.heap.size, 2, none⟩ = some (.string o.ac) ∧ w'.cell? ⟨w.heap.size, 3, none⟩ = some (.string o.sy) ∧ w'.cell? ⟨w.heap.size, 4, none⟩ = some (.int .i64 o.sd) ∧ w'.cell? ⟨w.heap.size, 5, none⟩ = some (.int .i64 o.ty) ∧ w'.cell? ⟨w.heap.size, 6, none⟩ = some (.int .i64 o.lf) ∧ w'.cell? ⟨w.heap.size, 7, none⟩ = some (.int .i64 o.pr) ∧ w'.cell? ⟨w.heap.size, 8, none⟩ = some (.int .i64 o.sp) ∧ w'.cell? ⟨w.heap.size, 9, none⟩ = some (.int .i64 o.q) ∧ w'.cell? ⟨w.heap.size, 10, none⟩ = some (.int .i64 o.sh) ∧ w'.cell? ⟨w.heap.size, 11, none⟩ = some (.int .i64 o.dn) ∧ w'.cell? ⟨w.heap.size, 12, none⟩ = some (.int .i64 o.le) ∧ w'.cell? ⟨w.heap.size, 13, none⟩ = some (.int .i64 o.un) ∧ w'.cell? ⟨w.heap.size, 14, none⟩ = some (.int .i64 o.ow)) := fun w' hb => by
    have b0 : Blk X w.heap.size 35 _ := HW0.out.2.1.below HB2.out HW0.out.2.1.lt
    have b1 : Blk X1 w.heap.size 35 _ := b0.fr hF3 (fun e => Blk.ne_type b0 HA2.out.blk (by decide) e)
    have b2 := b1.below hb b1.lt
    exact ⟨b2.cell 0, b2.cell 1, b2.cell 2, b2.cell 3, b2.cell 4, b2.cell 5, b2.cell 6, b2.cell 7, b2.cell 8, b2.cell 9, b2.cell 10, b2.cell 11, b2.cell 12, b2.cell 13, b2.cell 14⟩
  clear hG4 hF4 hO4 hA3 hF3 hT f6
  have hBx : Below X1.heap.size X1 X1.drew := ⟨rfl, rfl, rfl, Nat.le_refl _, fun _ _ => rfl⟩
  go_upto_region 10 with fail
  go_region_held (fun w' => w'.cell? ⟨w.heap.size, 0, none⟩ = some (.int .i64 o.id) ∧ w'.cell? ⟨w.heap.size, 1, none⟩ = some (.string o.nm) ∧ w'.cell? ⟨w.heap.size, 2, none⟩ = some (.string o.ac) ∧ w'.cell? ⟨w.heap.size, 3, none⟩ = some (.string o.sy) ∧ w'.cell? ⟨w.heap.size, 4, none⟩ = some (.int .i64 o.sd) ∧ w'.cell? ⟨w.heap.size, 5, none⟩ = some (.int .i64 o.ty) ∧ w'.cell? ⟨w.heap.size, 6, none⟩ = some (.int .i64 o.lf) ∧ w'.cell? ⟨w.heap.size, 7, none⟩ = some (.int .i64 o.pr) ∧ w'.cell? ⟨w.heap.size, 8, none⟩ = some (.int .i64 o.sp) ∧ w'.cell? ⟨w.heap.size, 9, none⟩ = some (.int .i64 o.q) ∧ w'.cell? ⟨w.heap.size, 10, none⟩ = some (.int .i64 o.sh) ∧ w'.cell? ⟨w.heap.size, 11, none⟩ = some (.int .i64 o.dn) ∧ w'.cell? ⟨w.heap.size, 12, none⟩ = some (.int .i64 o.le) ∧ w'.cell? ⟨w.heap.size, 13, none⟩ = some (.int .i64 o.un) ∧ w'.cell? ⟨w.heap.size, 14, none⟩ = some (.int .i64 o.ow)) (first | exact HS4.out _ hB8 | exact HS4.out _ hB7 | exact HS4.out _ hBx) (first | (go_at_call 25; refine (HVO.out _).mono ?_; rintro e w7 ⟨rfl, hb7⟩; have hB7 : Below X1.heap.size X1 w7 := below_step hBx hb7) | (go_at_call 24; refine (HIA.out _ (HG4.out.below hB7) (HA3.out.fr (Fr.of_below hB7 (fun _ => False)) id id)).mono ?_; rintro e w8 ⟨rfl, hb8⟩; have hB8 : Below X1.heap.size X1 w8 := below_step hB7 hb8))
  have HB8 : Hid (Below X1.heap.size X1 w8) := hB8
  clear hB8 hb8 hB7 hb7
  cases R
  all_goals go_wp2
  all_goals go_ret
  all_goals exact ⟨rfl, HG4.out.below HB8.out, HF5.out.trans (Fr.of_below HB8.out (fun _ => False)) fun i _ hh => hh.elim id False.elim, HO4.out⟩
end Go.Proofs.Ytgioknkfppaaaaa
