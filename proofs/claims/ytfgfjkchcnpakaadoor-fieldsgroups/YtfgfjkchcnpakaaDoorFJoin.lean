/-
  fields: bodySize, appendField.
-/
import Derived.Test.YtfgfjkchcnpakaaDoorFAll
import Derived.Lib.AppendStr
namespace Go.Proofs.YtfgfjkchcnpakaaDoor
set_option linter.unusedVariables false
open Go.RowKit

/-- The cells of bytes; bytes that the call has made. -/
def bcs (l : List UInt8) : List Value := l.map fun c => .int .u8 (c.toNat : Int)
theorem bcs_length (l : List UInt8) : (bcs l).length = l.length := by simp [bcs]
theorem bcs_app (a b : List UInt8) : bcs (a ++ b) = bcs a ++ bcs b := by simp [bcs]
theorem bcs_one (l : List UInt8) : ∀ u ∈ bcs l, u.oneCell' = true := by
  intro u hu
  unfold bcs at hu
  simp only [List.mem_map] at hu
  obtain ⟨c, _, rfl⟩ := hu
  rfl
theorem strCells_bs (l : List UInt8) : Lib.strCells (bs l) = bcs l := by
  unfold Lib.strCells bcs
  rfl
def OwnB (w : World) (B : Nat) (v : Value) (l : List UInt8) : Prop := w.ownsRow B 5 1 v l.length (bcs l)
theorem OwnB.below {w w' : World} {B : Nat} {v : Value} {l : List UInt8} (h : OwnB w B v l) (hb : Below w.heap.size w w') : OwnB w' B v l := ownsRow_below h hb
theorem OwnB.mono {w : World} {B B' : Nat} {v : Value} {l : List UInt8} (h : OwnB w B v l) (hb : B' ≤ B) : OwnB w B' v l := ownsRow_mono h hb
theorem OwnB.src {w : World} {B : Nat} {v : Value} {l : List UInt8} (h : OwnB w B v l) : SrcB w v l := by
  obtain ⟨h1, h2⟩ := h
  rcases h2 with ⟨rfl, h0⟩ | ⟨g, cap, cur, rfl, r1, r2, r3, r4, r5, r6⟩
  · have : l = [] := List.length_eq_zero_iff.1 h0
    subst this
    exact ⟨none, 0, rfl, Nat.le_refl _, .inl rfl⟩
  · refine ⟨_, cap, rfl, r3, .inr ⟨g, 0, rfl, fun j c hj => ?_⟩⟩
    have hjl : j < l.length := (List.getElem?_eq_some_iff.1 hj).1
    have e1 : (bcs l)[j]? = some (.int .u8 (c.toNat : Int)) := by unfold bcs; rw [List.getElem?_map, hj]; rfl
    rw [← r6, List.getElem?_take, if_pos (by omega)] at e1
    rw [Nat.zero_add, cell_of_row w g _ cur _ _ r2]; simpa using e1
/-- One step of append: the row and the frame. -/
theorem grow_ok {B : Nat} {w0 w w' : World} {v : Value} {n : Nat} {xs : List Value} (hown : w.ownsRow B 5 1 v n xs) (hg : w.grownBy w' v.ownBlock) (hb : Below B w0 w) (hB : B ≤ w0.heap.size) : Below B w0 w' :=
  hb.grown hg (Nat.le_trans hB hb.size) (fun k hk => (hown.lt k hk).1)
theorem one_new (w : World) (c : Int) : ∀ j u, ([.int .u8 c] : List Value)[j]? = some u → (w.alloc (.cells #[.int .u8 c] 5)).cell? ((⟨w.heap.size, 0, none⟩ : Addr).add j) = some u :=
  World.news_of_block (heap_alloc_new w (.cells #[.int .u8 c] 5))
theorem fldL_length (f : Fld) : (fldL f).length = (Lib.itoa f.1).length + f.2.length + 2 := by simp [fldL]; omega
theorem itoa_le (n : Int) (h0 : -9223372036854775808 ≤ n) (h1 : n ≤ 9223372036854775807) : (Lib.itoa n).length ≤ 21 := by
  have h : ∀ u : Nat, u < 18446744073709551616 → (Lib.decDigits u).length ≤ 20 := fun u hu => by
    by_cases h : 1 ≤ u
    · rw [Lib.decDigits_length]
      have := Lib.numDigits_eq u h hu; split at this <;> omega
    · rw [Lib.decDigits_one (by omega)]; simp
  unfold Lib.itoa
  split
  · have := h n.natAbs (by omega); simp; omega
  · have := h n.toNat (by omega); omega
theorem OwnB.ne_fld {w : World} {B g : Nat} {v : Value} {l : List UInt8} {t : Int} {V : ByteArray} (h : OwnB w B v l) (hf : FldAt w g t V) : v.ownBlock ≠ some g := by
  intro hk
  rcases h.2 with ⟨e, _⟩ | ⟨g', cap, cur, e, _, hg, _⟩
  · rw [e] at hk; cases hk
  · rw [e] at hk
    have e2 : g' = g := by simpa [Value.ownBlock] using hk
    subst e2
    unfold FldAt at hf
    rw [hf] at hg
    simp at hg
theorem FldAt.grown {w w' : World} {g : Nat} {t : Int} {V : ByteArray} {row : Option Nat} (h : FldAt w g t V) (hg : w.grownBy w' row) (hne : row ≠ some g) : FldAt w' g t V :=
  (hg.block g h.lt (fun e => hne e.symm)).trans h
set_option maxRecDepth 100000 in
set_option maxHeartbeats 400000 in
theorem appendField_any (B : Nat) (v : Value) (l : List UInt8) (f : Fld) (w0 w : World) (hown : OwnB w B v l) (hb : Below B w0 w) (hB : B ≤ w0.heap.size) (hp : Pow w) (h0 : -9223372036854775808 ≤ f.1) (h1 : f.1 ≤ 9223372036854775807) (hl : l.length ≤ 1048576) (hf : f.2.length ≤ 1048576) :
    Calls Tryd.prog 32 #[v, .agg #[.int .i64 f.1, .string (bs f.2)]] w fun e w' => ∃ v', e = .returned v' ∧ OwnB w' B v' (l ++ fldL f) ∧ Below B w0 w' := by
  obtain ⟨t, V⟩ := f
  obtain ⟨i0, hi, hz0, hz1, hz2⟩ := info_parts info5
  have hil := itoa_le t h0 h1
  have hb1 : Below w.heap.size w (w.alloc (.cells #[.int .i64 t, .string (bs V)] 36)) := (Below.refl _ w).alloc (Nat.le_refl _) _
  have hP := Print_any t h0 h1 (w.alloc (.cells #[.int .i64 t, .string (bs V)] 36)) (hp.below hb1)
  have hbs : (⟨(Lib.itoa t).toArray⟩ : ByteArray) = bs (Lib.itoa t) := rfl
  rw [hbs] at hP
  have hfa : FldAt (w.alloc (.cells #[.int .i64 t, .string (bs V)] 36)) w.heap.size t (bs V) := heap_alloc_new w _
  have HS : Hid (OwnB w B v l ∧ Below B w0 w) := ⟨hown, hb⟩
  have hwB : B ≤ w.heap.size := Nat.le_trans hB hb.size
  clear hown hb hp
  show Calls Tryd.prog 32 #[v, .agg #[.int .i64 t, .string (bs V)]] w fun e w' => ∃ v', e = .returned v' ∧ OwnB w' B v' (l ++ fldL (t, V)) ∧ Below B w0 w'
  have HFL : Hid (fldL (t, V) = Lib.itoa t ++ ([61] : List UInt8) ++ V ++ ([1] : List UInt8)) := rfl
  generalize fldL (t, V) = FL at *
  have hV : V.length ≤ 1048576 := hf
  have hsV := bs_size V
  have hsI := bs_size (Lib.itoa t)
  have HcV := strCells_bs V
  have HcI := strCells_bs (Lib.itoa t)
  generalize Lib.itoa t = I at *
  have HVC : Hid (Lib.strCells (bs V) = bcs V ∧ Lib.strCells (bs I) = bcs I) := ⟨HcV, HcI⟩
  clear HcV HcI hf
  go_enter Tryd.func32, Tryd.ntmps32
  go_wp2_with (go_at_call 31; fail)
  refine hP.mono ?_
  rintro e w1 ⟨rfl, hb2⟩
  have HA1 : Hid (OwnB w1 B v l ∧ Below B w0 w1 ∧ FldAt w1 w.heap.size t (bs V)) := ⟨ownsRow_below (World.ownsRow.alloc HS.out.1 _) hb2, HS.out.2.trans ((hb1.trans (hb2.mono hb1.size)).mono hwB), hfa.below hb2 (by simp)⟩
  have hwB1 : B ≤ w1.heap.size := Nat.le_trans hB HA1.out.2.1.size
  clear hb2 hb1 hfa HS hP
  go_upto_region 2 with (at_builtin; refine Lib.wpList_append_own_string _ rfl _ _ 23 9 rfl B 5 i0 Tryd.underlying23 Tryd.underlying9 hi hz0 hz1 hz2 _ l.length (bcs l) rfl HA1.out.1 (bs I) rfl (by unfold maxLen; omega) (by omega) hwB1 ?_; intro v2 w2 ho2 hg2 hn2)
  have HA2 : Hid (OwnB w2 B v2 (l ++ I) ∧ Below B w0 w2 ∧ FldAt w2 w.heap.size t (bs V)) := by
    refine ⟨?_, grow_ok HA1.out.1 hg2 HA1.out.2.1 hB, HA1.out.2.2.grown hg2 (HA1.out.1.ne_fld HA1.out.2.2)⟩
    rw [HVC.out.2, hsI] at ho2
    unfold OwnB; rw [bcs_app, List.length_append]; exact ho2
  clear ho2 hg2 hn2 HA1 hwB1
  have hwB2 : B ≤ (w2.alloc (.cells #[.int .u8 61] 5)).heap.size := by have := HA2.out.2.1.size; simp; omega
  have hl2 : (l ++ I).length ≤ 1048600 := by simp; omega
  have hn2 := one_new w2 61
  go_upto_region 3 with (at_builtin; refine wpList_append_own _ rfl _ _ 23 rfl B 5 i0 (.int .u8 0) 1 1 Tryd.underlying23 hi hz0 hz1 hz2 rfl (by decide) _ (l ++ I).length (bcs (l ++ I)) rfl (World.ownsRow.alloc HA2.out.1 _) ⟨w2.heap.size, 0, none⟩ 1 1 [.int .u8 61] rfl rfl hn2 (fun x hx => by simp at hx; subst hx; rfl) (by unfold maxLen; omega) (by omega) hwB2 ?_; intro v3 w3 ho3 hg3 hn3)
  have HA3 : Hid (OwnB w3 B v3 (l ++ I ++ ([61] : List UInt8)) ∧ Below B w0 w3 ∧ FldAt w3 w.heap.size t (bs V)) := by
    have hb' : Below B w0 (w2.alloc (.cells #[.int .u8 61] 5)) := HA2.out.2.1.alloc (Nat.le_trans hB HA2.out.2.1.size) _
    have ho' : OwnB (w2.alloc (.cells #[.int .u8 61] 5)) B v2 (l ++ I) := World.ownsRow.alloc HA2.out.1 _
    have hf' : FldAt (w2.alloc (.cells #[.int .u8 61] 5)) w.heap.size t (bs V) := HA2.out.2.2.below ((Below.refl _ w2).alloc (Nat.le_refl _) _) HA2.out.2.2.lt
    refine ⟨?_, grow_ok ho' hg3 hb' hB, hf'.grown hg3 (ho'.ne_fld hf')⟩
    unfold OwnB; rw [bcs_app, List.length_append]; exact ho3
  clear ho3 hg3 hn3 hn2 HA2 hwB2 hl2
  have hwB3 : B ≤ w3.heap.size := Nat.le_trans hB HA3.out.2.1.size
  have hl3 : (l ++ I ++ ([61] : List UInt8)).length ≤ 1048601 := by simp; omega
  have c1 := HA3.out.2.2.cell1
  go_upto_region 4 with (at_builtin; refine Lib.wpList_append_own_string _ rfl _ _ 23 9 rfl B 5 i0 Tryd.underlying23 Tryd.underlying9 hi hz0 hz1 hz2 _ (l ++ I ++ ([61] : List UInt8)).length (bcs (l ++ I ++ ([61] : List UInt8))) rfl HA3.out.1 (bs V) rfl (by unfold maxLen; omega) (by omega) hwB3 ?_; intro v4 w4 ho4 hg4 hn4)
  have HA4 : Hid (OwnB w4 B v4 (l ++ I ++ ([61] : List UInt8) ++ V) ∧ Below B w0 w4) := by
    refine ⟨?_, grow_ok HA3.out.1 hg4 HA3.out.2.1 hB⟩
    rw [HVC.out.1, hsV] at ho4
    unfold OwnB; rw [bcs_app, List.length_append]; exact ho4
  clear ho4 hg4 hn4 HA3 hwB3 hl3 c1
  have hwB4 : B ≤ (w4.alloc (.cells #[.int .u8 1] 5)).heap.size := by have := HA4.out.2.size; simp; omega
  have hl4 : (l ++ I ++ ([61] : List UInt8) ++ V).length ≤ 2097300 := by simp; omega
  have hn4 := one_new w4 1
  go_wp2_with (at_builtin; refine wpList_append_own _ rfl _ _ 23 rfl B 5 i0 (.int .u8 0) 1 1 Tryd.underlying23 hi hz0 hz1 hz2 rfl (by decide) _ (l ++ I ++ ([61] : List UInt8) ++ V).length (bcs (l ++ I ++ ([61] : List UInt8) ++ V)) rfl (World.ownsRow.alloc HA4.out.1 _) ⟨w4.heap.size, 0, none⟩ 1 1 [.int .u8 1] rfl rfl hn4 (fun x hx => by simp at hx; subst hx; rfl) (by unfold maxLen; omega) (by omega) hwB4 ?_; intro v5 w5 ho5 hg5 hn5)
  have HA5 : Hid (OwnB w5 B v5 (l ++ FL) ∧ Below B w0 w5) := by
    have hb' : Below B w0 (w4.alloc (.cells #[.int .u8 1] 5)) := HA4.out.2.alloc (Nat.le_trans hB HA4.out.2.size) _
    refine ⟨?_, grow_ok (World.ownsRow.alloc HA4.out.1 _) hg5 hb' hB⟩
    rw [HFL.out, show l ++ (I ++ ([61] : List UInt8) ++ V ++ ([1] : List UInt8)) = (l ++ I ++ ([61] : List UInt8) ++ V) ++ ([1] : List UInt8) by simp]
    unfold OwnB; rw [bcs_app, List.length_append]; exact ho5
  clear ho5 hg5 hn5
  go_ret
  exact ⟨v5, rfl, HA5.out.1, HA5.out.2⟩
end Go.Proofs.YtfgfjkchcnpakaaDoor
