/-
  tape: bits of the mask.
-/
import Derived.Test.YtjnnecoikcmaeaaTP4
namespace Go.Proofs.Ytjnnecoikcmaeaa
set_option linter.unusedVariables false
set_option linter.unusedSimpArgs false
open Go.RowKit Go.Great

theorem i64_or_nat (a b : Nat) (ha : a < 4611686018427387904) (hb : b < 4611686018427387904) : bits .or .i64 (a : Int) (b : Int) = ((a ||| b : Nat) : Int) := by
  have hx : a ||| b < 2 ^ 62 := Nat.or_lt_two_pow (by omega) (by omega)
  have h1 : (BitVec.ofInt 64 (a : Int)).toNat = a := by
    rw [BitVec.ofInt_natCast, BitVec.toNat_ofNat]; exact Nat.mod_eq_of_lt (by omega)
  have h2 : (BitVec.ofInt 64 (b : Int)).toNat = b := by
    rw [BitVec.ofInt_natCast, BitVec.toNat_ofNat]; exact Nat.mod_eq_of_lt (by omega)
  show IntKind.i64.wrap ((BitVec.ofInt 64 (a : Int) ||| BitVec.ofInt 64 (b : Int)).toNat : Int) = _
  rw [BitVec.toNat_or, h1, h2, IntKind.wrap_i64]
  omega
theorem i64_and_nat (a b : Nat) (ha : a < 4611686018427387904) (hb : b < 4611686018427387904) : bits .and .i64 (a : Int) (b : Int) = ((a &&& b : Nat) : Int) := by
  have hx : a &&& b < 2 ^ 62 := Nat.and_lt_two_pow _ (by omega)
  have h1 : (BitVec.ofInt 64 (a : Int)).toNat = a := by
    rw [BitVec.ofInt_natCast, BitVec.toNat_ofNat]; exact Nat.mod_eq_of_lt (by omega)
  have h2 : (BitVec.ofInt 64 (b : Int)).toNat = b := by
    rw [BitVec.ofInt_natCast, BitVec.toNat_ofNat]; exact Nat.mod_eq_of_lt (by omega)
  show IntKind.i64.wrap ((BitVec.ofInt 64 (a : Int) &&& BitVec.ofInt 64 (b : Int)).toNat : Int) = _
  rw [BitVec.toNat_and, h1, h2, IntKind.wrap_i64]
  omega
set_option maxRecDepth 100000 in
theorem shl_run {op : Oper} {a : Act} {i : Nat} (x y : Operand) (ho : op.op = .binOp .shl 2 x y 3) (hx : a.eval x = .int .i64 1) (hy : a.eval y = .int .i64 (i : Int)) (h : i < 24) (w : World) : (execOp a.eval op).run Try.prog w = .ok (.value (.int .i64 ((2 ^ i : Nat) : Int))) w := by
  unfold execOp
  simp only [ho, hx, hy]
  rcases cases24 h with rfl | rfl | rfl | rfl | rfl | rfl | rfl | rfl | rfl | rfl | rfl | rfl | rfl | rfl | rfl | rfl | rfl | rfl | rfl | rfl | rfl | rfl | rfl | rfl <;> kernel_rfl
set_option maxRecDepth 100000 in
theorem shr_run {op : Oper} {a : Act} {m i : Nat} (x y : Operand) (ho : op.op = .binOp .shr 2 x y 3) (hx : a.eval x = .int .i64 (m : Int)) (hy : a.eval y = .int .i64 (i : Int)) (h : i < 24) (hm : m < 16777216) (w : World) : (execOp a.eval op).run Try.prog w = .ok (.value (.int .i64 ((m / 2 ^ i : Nat) : Int))) w := by
  unfold execOp
  simp only [ho, hx, hy]
  have hi' : (i : Int) < 64 := by omega
  go_simp
/-- What a command's parts may be in memory. -/
structure Cm.ok (c : Cm) : Prop where
  k0 : -9223372036854775808 ≤ c.k
  k1 : c.k ≤ 9223372036854775807
  n0 : ∀ i, i < 24 → -9223372036854775808 ≤ c.n i
  n1 : ∀ i, i < 24 → c.n i ≤ 9223372036854775807
  s1 : ∀ i, i < 24 → (c.s i).size ≤ maxLen
section
variable {w : World} {B : Nat} {c : Cm}
theorem part_cell (hb : Blk w B 27 c.cs) {i : Nat} (h : i < 24) : w.cell? ⟨B, cOf i, none⟩ = some (c.v i) := (hb.cell _).trans (c.at_ h)
theorem may_at (hb : Blk w B 27 c.cs) (hc : c.ok) {i : Nat} (h : i < 24) : Calls Try.prog (fMay i) #[fVal i B] w fun e w' => e = .returned (.bool (pMay c i)) ∧ Below w.heap.size w w' := by
  have hp := part_cell hb h
  have hs := hc.s1 i h
  rcases cases24 h with rfl | rfl | rfl | rfl | rfl | rfl | rfl | rfl | rfl | rfl | rfl | rfl | rfl | rfl | rfl | rfl | rfl | rfl | rfl | rfl | rfl | rfl | rfl | rfl <;>
    first | exact tx_may B _ _ w hp hs | exact nl_may B _ _ w hp | exact ni_may B _ _ w hp
theorem zer_at (hb : Blk w B 27 c.cs) {i : Nat} (h : i < 24) : Calls Try.prog (fZer i) #[fVal i B] w fun e w' => e = .returned (.bool (pZer c i)) ∧ Below w.heap.size w w' := by
  have hp := part_cell hb h
  rcases cases24 h with rfl | rfl | rfl | rfl | rfl | rfl | rfl | rfl | rfl | rfl | rfl | rfl | rfl | rfl | rfl | rfl | rfl | rfl | rfl | rfl | rfl | rfl | rfl | rfl <;>
    first | exact tx_zer B _ _ w hp | exact nl_zer B _ _ w hp | exact ni_zer B _ _ w hp
theorem wri_at (hb : Blk w B 27 c.cs) (hc : c.ok) {i : Nat} (h : i < 24) {v : Value} {l : List Nat} (hv : By w v l) (hl : l.length ≤ 1000000) (hm : pMay c i = true) : Calls Try.prog (fWri i) #[fVal i B, v] w fun e w' => ∃ v', e = .returned v' ∧ Hid (OwnB w w' v' (l ++ pBy c i)) := by
  have hp := part_cell hb h
  have h0 := hc.n0 i h
  have h1 := hc.n1 i h
  have hs : isT i = true → (c.s i).size ≤ 1000000 := fun e => by
    unfold pMay at hm
    rw [if_pos e] at hm
    have := of_decide_eq_true hm
    omega
  rcases cases24 h with rfl | rfl | rfl | rfl | rfl | rfl | rfl | rfl | rfl | rfl | rfl | rfl | rfl | rfl | rfl | rfl | rfl | rfl | rfl | rfl | rfl | rfl | rfl | rfl <;>
    first | exact tx_wri B _ _ w v l hp hv hl (hs rfl) | exact nl_wri B _ _ w v l hp hv hl h0 h1 | exact ni_wri B _ _ w v l hp hv hl h0 h1
end
/-- What is written of the first parts. -/
def mkU (c : Cm) : Nat → Nat
  | 0 => 0
  | i + 1 => mkU c i + if pZer c i then 0 else 2 ^ i
def vlU (c : Cm) : Nat → List Nat
  | 0 => []
  | i + 1 => vlU c i ++ if pZer c i then [] else pBy c i
def allM (c : Cm) : Nat → Bool
  | 0 => true
  | i + 1 => allM c i && pMay c i
theorem allM_lt {c : Cm} : ∀ {n : Nat}, allM c n = true → ∀ i, i < n → pMay c i = true
  | 0, _, i, hi => by omega
  | n + 1, h, i, hi => by
    unfold allM at h
    rw [Bool.and_eq_true] at h
    by_cases e : i = n
    · subst e; exact h.2
    · exact allM_lt h.1 i (by omega)
theorem allM_no {c : Cm} {i n : Nat} (hi : i < n) (h : pMay c i = false) : allM c n = false := by
  rw [← Bool.not_eq_true]
  intro e
  rw [allM_lt e i hi] at h
  cases h
theorem mkU_lt (c : Cm) : ∀ i, mkU c i < 2 ^ i
  | 0 => by simp [mkU]
  | i + 1 => by
    have := mkU_lt c i
    simp only [mkU]
    rw [Nat.pow_succ]
    split <;> omega
theorem pBy_len {c : Cm} {i : Nat} (h : pMay c i = true) : (pBy c i).length ≤ 70 := by
  unfold pBy
  unfold pMay at h
  split
  · rename_i e
    rw [if_pos e] at h
    have h1 := of_decide_eq_true h
    have := varL_length10 (foldN_lt (n := ((c.s i).size : Int)) (by omega) (by omega))
    rw [List.length_append, sB_len]
    omega
  · rename_i e
    rw [if_neg e] at h
    have h1 := of_decide_eq_true h
    have := varL_length10 (foldN_lt (n := c.n i) (by omega) (by omega))
    omega
theorem vlU_len {c : Cm} : ∀ {n : Nat}, allM c n = true → (vlU c n).length ≤ 70 * n
  | 0, _ => by simp [vlU]
  | n + 1, h => by
    have h' := h
    unfold allM at h
    rw [Bool.and_eq_true] at h
    have h1 := vlU_len h.1
    have h2 := pBy_len h.2
    simp only [vlU]
    rw [List.length_append]
    split <;> simp <;> omega
/-- What Encode answers. -/
def encL (c : Cm) : List Nat := varL (foldN c.k) ++ varL (foldN (mkU c 24 : Int)) ++ vlU c 24
def encE (c : Cm) : Int := if 1 ≤ c.k ∧ c.k ≤ 9 then (if allM c 24 then 0 else 1) else 30
end Go.Proofs.Ytjnnecoikcmaeaa
