/-
  The reference's Add, Mul, MulDiv.
-/
import Derived.Test.YtochdjdkfmdgeabDoorProg
import Derived.Test.YtochdjdkfmdgeabDoorPlain
import Derived.WalkLawsBesides
import Derived.Deep.QuietTactic
import Derived.BigQuiet
import Derived.Laws.ResultCell
namespace Go.Proofs.YtochdjdkfmdgeabDoor
set_option linter.unusedVariables false
open Go.RowKit

/-- A size with a sign: what 'same' tells. -/
def smN (n : Int) (below : Bool) : Int := if below = true then (if n ≤ 9223372036854775808 then -n else 0) else (if n < 9223372036854775808 then n else 0)
def smB (n : Int) (below : Bool) : Bool := if below = true then decide (n ≤ 9223372036854775808) else decide (n < 9223372036854775808)
set_option maxRecDepth 100000 in
set_option maxHeartbeats 400000 in
theorem same_any (n : Int) (below : Bool) (w : World) (h0 : 0 ≤ n) (h1 : n < 18446744073709551616) :
    Calls Tryd.prog 39 #[.int .u64 n, .bool below] w fun e w' => e = .returned (.tuple #[.int .i64 (smN n below), .bool (smB n below)]) ∧ w' = w := by
  by_cases hz : n = 0
  · subst hz
    have HR : Hid (smN 0 below = 0 ∧ smB 0 below = true) := by cases below <;> exact ⟨by decide, by decide⟩
    go_enter Tryd.func39, Tryd.ntmps39
    go_wp2
    go_ret2
    exact ⟨ret2 (vint HR.out.1.symm) (vbool HR.out.2.symm), rfl⟩
  have hz' : (n == 0) = false := by simpa using hz
  cases below with
  | true =>
    by_cases hg : n ≤ 9223372036854775808
    · have HR : Hid (smN n true = -n ∧ smB n true = true) := ⟨by unfold smN; rw [if_pos rfl, if_pos hg], by unfold smB; rw [if_pos rfl, decide_eq_true hg]⟩
      go_enter Tryd.func39, Tryd.ntmps39
      go_wp2
      go_ret2
      refine ⟨ret2 (vint ?_) (vbool HR.out.2.symm), rfl⟩
      rw [HR.out.1]; omega
    · have HR : Hid (smN n true = 0 ∧ smB n true = false) := ⟨by unfold smN; rw [if_pos rfl, if_neg hg], by unfold smB; rw [if_pos rfl, decide_eq_false hg]⟩
      go_enter Tryd.func39, Tryd.ntmps39
      go_wp2
      go_ret2
      exact ⟨ret2 (vint HR.out.1.symm) (vbool HR.out.2.symm), rfl⟩
  | false =>
    by_cases hg : n < 9223372036854775808
    · have HR : Hid (smN n false = n ∧ smB n false = true) := ⟨by unfold smN; rw [if_neg (by decide), if_pos hg], by unfold smB; rw [if_neg (by decide), decide_eq_true hg]⟩
      go_enter Tryd.func39, Tryd.ntmps39
      go_wp2
      go_ret2
      exact ⟨ret2 (vint HR.out.1.symm) (vbool HR.out.2.symm), rfl⟩
    · have HR : Hid (smN n false = 0 ∧ smB n false = false) := ⟨by unfold smN; rw [if_neg (by decide), if_neg hg], by unfold smB; rw [if_neg (by decide), decide_eq_false hg]⟩
      go_enter Tryd.func39, Tryd.ntmps39
      go_wp2
      go_ret2
      exact ⟨ret2 (vint HR.out.1.symm) (vbool HR.out.2.symm), rfl⟩

theorem gen_world {P : Program} {c : Code} {Q : Exit → Act → World → Prop} {n : Nat} {a : Act} {W : World} (F : World → Prop) (h : F W) (k : ∀ W', F W' → Code.rounds P c Q n a W') : Code.rounds P c Q n a W := k W h
theorem times_sum {P00 P01 P10 P11 v01 v10 t2 v11 : Int} (c00 : 0 ≤ P00) (d00 : P00 ≤ 18446744065119617025) (c01 : 0 ≤ P01) (d01 : P01 ≤ 18446744065119617025) (c10 : 0 ≤ P10) (d10 : P10 ≤ 18446744065119617025) (c11 : 0 ≤ P11) (d11 : P11 ≤ 18446744065119617025)
    (f01 : v01 = P01 + P00 / 4294967296) (f10 : v10 = v01 % 4294967296 + P10) (f2 : t2 = v01 / 4294967296 + P11) (f11 : v11 = t2 + v10 / 4294967296) :
    P00 % 4294967296 + v10 % 4294967296 * 4294967296 + v11 % 4294967296 * 18446744073709551616 + v11 / 4294967296 * 79228162514264337593543950336 = P00 + (P01 + P10) * 4294967296 + P11 * 18446744073709551616 := by
  have q0 := Int.mul_ediv_add_emod P00 4294967296
  have q1 := Int.mul_ediv_add_emod v01 4294967296
  have q2 := Int.mul_ediv_add_emod v10 4294967296
  have q3 := Int.mul_ediv_add_emod v11 4294967296
  generalize P00 / 4294967296 = a1 at *
  generalize P00 % 4294967296 = b1 at *
  generalize v01 / 4294967296 = a2 at *
  generalize v01 % 4294967296 = b2 at *
  generalize v10 / 4294967296 = a3 at *
  generalize v10 % 4294967296 = b3 at *
  generalize v11 / 4294967296 = a4 at *
  generalize v11 % 4294967296 = b4 at *
  omega
theorem times_bd {P00 P01 P10 P11 v01 v10 t2 v11 : Int} (c00 : 0 ≤ P00) (d00 : P00 ≤ 18446744065119617025) (c01 : 0 ≤ P01) (d01 : P01 ≤ 18446744065119617025) (c10 : 0 ≤ P10) (d10 : P10 ≤ 18446744065119617025) (c11 : 0 ≤ P11) (d11 : P11 ≤ 18446744065119617025)
    (f01 : v01 = P01 + P00 / 4294967296) (f10 : v10 = v01 % 4294967296 + P10) (f2 : t2 = v01 / 4294967296 + P11) (f11 : v11 = t2 + v10 / 4294967296) :
    (0 ≤ v01 ∧ v01 < 18446744073709551616) ∧ (0 ≤ v10 ∧ v10 < 18446744073709551616) ∧ (0 ≤ t2 ∧ t2 < 18446744073709551616) ∧ (0 ≤ v11 ∧ v11 < 18446744073709551616) := by
  have a1 : P00 / 4294967296 ≤ 4294967294 := by omega
  have a2 : 0 ≤ P00 / 4294967296 := by omega
  have h1 : 0 ≤ v01 ∧ v01 < 18446744073709551616 := by omega
  have h2 : 0 ≤ v10 ∧ v10 < 18446744073709551616 := by omega
  have b1 : v01 / 4294967296 ≤ 4294967295 := by omega
  have b2 : 0 ≤ v01 / 4294967296 := by omega
  have h3 : 0 ≤ t2 ∧ t2 ≤ 18446744069414584320 := by omega
  have b3 : v10 / 4294967296 ≤ 4294967295 := by omega
  have b4 : 0 ≤ v10 / 4294967296 := by omega
  exact ⟨h1, h2, by omega, by omega⟩
set_option maxRecDepth 100000 in
set_option maxHeartbeats 400000 in
theorem times_any (a b : Int) (w : World) (a0 : 0 ≤ a) (a1 : a < 18446744073709551616) (b0 : 0 ≤ b) (b1 : b < 18446744073709551616) :
    Calls Tryd.prog 40 #[.int .u64 a, .int .u64 b] w fun e w' => (∃ p0 p1 p2 p3 : Int, e = .returned (.agg #[.int .u64 p0, .int .u64 p1, .int .u64 p2, .int .u64 p3]) ∧ 0 ≤ p0 ∧ p0 < 4294967296 ∧ 0 ≤ p1 ∧ p1 < 4294967296 ∧ 0 ≤ p2 ∧ p2 < 4294967296 ∧ 0 ≤ p3 ∧ p3 < 4294967296 ∧ p0 + p1 * 4294967296 + p2 * 18446744073709551616 + p3 * 79228162514264337593543950336 = a * b) ∧ Below w.heap.size w w' := by
  obtain ⟨P00, e00⟩ : ∃ P, P = a % 4294967296 * (b % 4294967296) := ⟨_, rfl⟩
  obtain ⟨P01, e01⟩ : ∃ P, P = a % 4294967296 * (b / 4294967296) := ⟨_, rfl⟩
  obtain ⟨P10, e10⟩ : ∃ P, P = a / 4294967296 * (b % 4294967296) := ⟨_, rfl⟩
  obtain ⟨P11, e11⟩ : ∃ P, P = a / 4294967296 * (b / 4294967296) := ⟨_, rfl⟩
  have bd : ∀ x y : Int, 0 ≤ x → x < 4294967296 → 0 ≤ y → y < 4294967296 → 0 ≤ x * y ∧ x * y ≤ 18446744065119617025 := fun x y h1 h2 h3 h4 => by
    refine ⟨Int.mul_nonneg h1 h3, ?_⟩
    have h5 := Int.mul_le_mul (show x ≤ 4294967295 by omega) (show y ≤ 4294967295 by omega) h3 (by decide)
    omega
  have b00 := bd (a % 4294967296) (b % 4294967296) (by omega) (by omega) (by omega) (by omega)
  have b01 := bd (a % 4294967296) (b / 4294967296) (by omega) (by omega) (by omega) (by omega)
  have b10 := bd (a / 4294967296) (b % 4294967296) (by omega) (by omega) (by omega) (by omega)
  have b11 := bd (a / 4294967296) (b / 4294967296) (by omega) (by omega) (by omega) (by omega)
  have HP : Hid (a * b = P00 + (P01 + P10) * 4294967296 + P11 * 18446744073709551616) := by
    have ea : a = a / 4294967296 * 4294967296 + a % 4294967296 := by omega
    have eb : b = b / 4294967296 * 4294967296 + b % 4294967296 := by omega
    show a * b = _
    rw [e00, e01, e10, e11]
    generalize a / 4294967296 = x1 at *
    generalize a % 4294967296 = x0 at *
    generalize b / 4294967296 = y1 at *
    generalize b % 4294967296 = y0 at *
    rw [ea, eb]; grind
  rw [← e00] at b00
  rw [← e01] at b01
  rw [← e10] at b10
  rw [← e11] at b11
  obtain ⟨c00, d00⟩ := b00
  obtain ⟨c01, d01⟩ := b01
  obtain ⟨c10, d10⟩ := b10
  obtain ⟨c11, d11⟩ := b11
  have w00 : IntKind.u64.wrap (a % 4294967296 * (b % 4294967296)) = P00 := by rw [← e00, IntKind.wrap_u64]; omega
  have w01 : IntKind.u64.wrap (a % 4294967296 * (b / 4294967296)) = P01 := by rw [← e01, IntKind.wrap_u64]; omega
  have w10 : IntKind.u64.wrap (a / 4294967296 * (b % 4294967296)) = P10 := by rw [← e10, IntKind.wrap_u64]; omega
  have w11 : IntKind.u64.wrap (a / 4294967296 * (b / 4294967296)) = P11 := by rw [← e11, IntKind.wrap_u64]; omega
  obtain ⟨v01, f01⟩ : ∃ v, v = P01 + P00 / 4294967296 := ⟨_, rfl⟩
  obtain ⟨v10, f10⟩ : ∃ v, v = v01 % 4294967296 + P10 := ⟨_, rfl⟩
  obtain ⟨t2, f2⟩ : ∃ v, v = v01 / 4294967296 + P11 := ⟨_, rfl⟩
  obtain ⟨v11, f11⟩ : ∃ v, v = t2 + v10 / 4294967296 := ⟨_, rfl⟩
  have hsum := times_sum c00 d00 c01 d01 c10 d10 c11 d11 f01 f10 f2 f11
  obtain ⟨⟨g5, g6⟩, ⟨g3, g4⟩, ⟨g7, g8⟩, g1, g2⟩ := times_bd c00 d00 c01 d01 c10 d10 c11 d11 f01 f10 f2 f11
  have wid : ∀ x : Int, 0 ≤ x → x < 18446744073709551616 → IntKind.u64.wrap x = x := fun x h1 h2 => by rw [IntKind.wrap_u64]; omega
  have rA : IntKind.u64.wrap P00 = P00 := wid _ c00 (by omega)
  have rB : IntKind.u64.wrap P01 = P01 := wid _ c01 (by omega)
  have rC : IntKind.u64.wrap (P01 + P00 / 4294967296) = v01 := by rw [← f01]; exact wid _ g5 g6
  have rD : IntKind.u64.wrap (v01 % 4294967296 + P10) = v10 := by rw [← f10]; exact wid _ g3 g4
  have rD' : IntKind.u64.wrap v10 = v10 := wid _ g3 g4
  have rE : IntKind.u64.wrap (v01 / 4294967296 + P11) = t2 := by rw [← f2]; exact wid _ g7 g8
  have rF : IntKind.u64.wrap (t2 + v10 / 4294967296) = v11 := by rw [← f11]; exact wid _ g1 g2
  have HF : Hid (P00 % 4294967296 + v10 % 4294967296 * 4294967296 + v11 % 4294967296 * 18446744073709551616 + v11 / 4294967296 * 79228162514264337593543950336 = a * b) := hsum.trans HP.out.symm
  clear e00 e01 e10 e11 bd f01 f10 f2 f11 HP hsum wid c01 d01 c10 d10 c11 d11 g7 g8
  go_enter Tryd.func40, Tryd.ntmps40
  go_wp2
  refine wp_loop_rounds 3 ?_
  rw [rounds_succ]
  go_wp2
  refine wp_loop_rounds 3 ?_
  rw [rounds_succ]
  go_wp2
  go_quiet (fail)
  go_wp2
  rw [rounds_succ]
  go_wp2
  go_quiet (fail)
  go_wp2
  rw [rounds_succ]
  go_wp2
  refine gen_world (fun W => W.cell? ⟨w.heap.size + 1, 1, none⟩ = some (.int .u64 (a / 4294967296)) ∧ W.cell? ⟨w.heap.size + 1 + 1, 0, none⟩ = some (.int .u64 (b % 4294967296)) ∧ W.cell? ⟨w.heap.size + 1 + 1, 1, none⟩ = some (.int .u64 (b / 4294967296))
    ∧ W.cell? ⟨w.heap.size + 1 + 1 + 1, 0, none⟩ = some (.int .u64 (P00 % 4294967296)) ∧ W.cell? ⟨w.heap.size + 1 + 1 + 1, 1, none⟩ = some (.int .u64 (v01 % 4294967296)) ∧ W.cell? ⟨w.heap.size + 1 + 1 + 1, 2, none⟩ = some (.int .u64 (v01 / 4294967296)) ∧ W.cell? ⟨w.heap.size + 1 + 1 + 1, 3, none⟩ = some (.int .u64 0)
    ∧ (∀ m, W.frozen? ⟨w.heap.size + 1 + 1 + 1, m, none⟩ = false) ∧ (∀ m, W.frozen? ⟨w.heap.size, m, none⟩ = false) ∧ (∀ m, m < 4 → W.cell? ⟨w.heap.size, m, none⟩ = some (.int .u64 0)) ∧ Below w.heap.size w W) ?_ ?_
  · refine ⟨?_, ?_, ?_, ?_, ?_, ?_, ?_, ?_, ?_, ?_, ?_⟩
    · go_simp
    · go_simp
    · go_simp
    · go_simp
    · go_simp
    · go_simp
    · go_simp
    · intro m; go_simp
    · intro m; go_simp
    · intro m hm
      have : m = 0 ∨ m = 1 ∨ m = 2 ∨ m = 3 := by omega
      rcases this with rfl | rfl | rfl | rfl <;> go_simp
    · have b4 := ((((Below.refl w.heap.size w).alloc (Nat.le_refl _) (Obj.cells #[Value.int IntKind.u64 0, Value.int IntKind.u64 0, Value.int IntKind.u64 0, Value.int IntKind.u64 0] 61)).alloc (by simp) (Obj.cells #[Value.int IntKind.u64 (a % 4294967296), Value.int IntKind.u64 (a / 4294967296)] 84)).alloc (by simp; omega) (Obj.cells #[Value.int IntKind.u64 (b % 4294967296), Value.int IntKind.u64 (b / 4294967296)] 84)).alloc (by simp; omega) (Obj.cells #[Value.int IntKind.u64 0, Value.int IntKind.u64 0, Value.int IntKind.u64 0, Value.int IntKind.u64 0] 61)
      exact ((below_drewN ((below_drewN b4 _).setCell (by show _ ≤ w.heap.size + 1 + 1 + 1; omega) _) _).setCell (by show _ ≤ w.heap.size + 1 + 1 + 1; omega) _).setCell (by show _ ≤ w.heap.size + 1 + 1 + 1; omega) _
  rintro W1 ⟨x1, y0, y1, z0, z1, z2, z3, fz, fr, zr, hbl⟩
  have HBL : Hid (Below w.heap.size w W1) := hbl
  have HZR : Hid (∀ m, m < 4 → W1.cell? ⟨w.heap.size, m, none⟩ = some (.int .u64 0)) := zr
  clear hbl zr
  rw [rounds_succ]
  go_wp2
  refine wp_loop_rounds 3 ?_
  rw [rounds_succ]
  go_wp2
  go_quiet (fail)
  go_wp2
  rw [rounds_succ]
  go_wp2
  go_quiet (fail)
  go_wp2
  rw [rounds_succ]
  go_wp2
  refine gen_world (fun W => W.cell? ⟨w.heap.size + 1 + 1 + 1, 0, none⟩ = some (.int .u64 (P00 % 4294967296)) ∧ W.cell? ⟨w.heap.size + 1 + 1 + 1, 1, none⟩ = some (.int .u64 (v10 % 4294967296)) ∧ W.cell? ⟨w.heap.size + 1 + 1 + 1, 2, none⟩ = some (.int .u64 (v11 % 4294967296)) ∧ W.cell? ⟨w.heap.size + 1 + 1 + 1, 3, none⟩ = some (.int .u64 (v11 / 4294967296))
    ∧ (∀ m, W.frozen? ⟨w.heap.size, m, none⟩ = false) ∧ W.cell? ⟨w.heap.size, 0, none⟩ = some (.int .u64 0) ∧ W.cell? ⟨w.heap.size, 1, none⟩ = some (.int .u64 0) ∧ W.cell? ⟨w.heap.size, 2, none⟩ = some (.int .u64 0) ∧ W.cell? ⟨w.heap.size, 3, none⟩ = some (.int .u64 0) ∧ Below w.heap.size w W) ?_ ?_
  · have r0 := HZR.out 0 (by decide)
    have r1 := HZR.out 1 (by decide)
    have r2 := HZR.out 2 (by decide)
    have r3 := HZR.out 3 (by decide)
    refine ⟨?_, ?_, ?_, ?_, ?_, ?_, ?_, ?_, ?_, ?_⟩
    · go_simp
    · go_simp
    · go_simp
    · go_simp
    · intro m; go_simp
    · go_simp
    · go_simp
    · go_simp
    · go_simp
    · exact ((below_drewN ((below_drewN HBL.out _).setCell (by show _ ≤ w.heap.size + 1 + 1 + 1; omega) _) _).setCell (by show _ ≤ w.heap.size + 1 + 1 + 1; omega) _).setCell (by show _ ≤ w.heap.size + 1 + 1 + 1; omega) _
  clear x1 y0 y1 z0 z1 z2 z3 fz fr HBL HZR
  rintro W2 ⟨z0, z1, z2, z3, fr, o0, o1, o2, o3, hbl⟩
  have HBL : Hid (Below w.heap.size w W2) := hbl
  clear hbl rA rB rC rD rD' rE rF w00 w01 w10 w11
  rw [rounds_succ]
  go_wp2
  refine bodyPost_ret (v := .agg #[.int .u64 (P00 % 4294967296), .int .u64 (v10 % 4294967296), .int .u64 (v11 % 4294967296), .int .u64 (v11 / 4294967296)]) (by simp [results, Tryd.results40, go_sem, o0, o1, o2, o3]) rfl ⟨⟨_, _, _, _, rfl, by omega, by omega, by omega, by omega, by omega, by omega, by omega, by omega, HF.out⟩, ?_⟩
  exact (((HBL.out.setCell (Nat.le_refl _) _).setCell (Nat.le_refl _) _).setCell (Nat.le_refl _) _).setCell (Nat.le_refl _) _
#print axioms times_any
end Go.Proofs.YtochdjdkfmdgeabDoor
