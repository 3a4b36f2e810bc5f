import Derived.Test.YtchkpggdndnpjabGreatDoorG19
import Derived.Lib.AppendStr
import Derived.OwnWalk
import Derived.Test.YtchkpggdndnpjabGreatDoorG12
import Derived.Test.YtchkpggdndnpjabGreatDoorG13
import Derived.Test.YtchkpggdndnpjabGreatDoorG15

namespace Go.Proofs.YtchkpggdndnpjabGreatDoor
set_option linter.unusedVariables false
open Go.RowKit

/-- The cells of bytes; bytes that the call has made. -/
def bcs (l : List UInt8) : List Value := l.map fun c => .int .u8 (c.toNat : Int)
theorem bcs_length (l : List UInt8) : (bcs l).length = l.length := by simp [bcs]
theorem bcs_app (a b : List UInt8) : bcs (a ++ b) = bcs a ++ bcs b := by simp [bcs]
theorem bcs_one (l : List UInt8) : ∀ u ∈ bcs l, u.oneCell' = true := by
  intro u hu
  unfold bcs at hu
  simp only [List.mem_map] at hu
  obtain ⟨c, _, rfl⟩ := hu
  rfl
theorem strCells_bs (l : List UInt8) : Lib.strCells (bs l) = bcs l := by
  unfold Lib.strCells bcs
  rfl
def OwnB (w : World) (B : Nat) (v : Value) (l : List UInt8) : Prop := w.ownsRow B 5 1 v l.length (bcs l)
theorem OwnB.below {w w' : World} {B : Nat} {v : Value} {l : List UInt8} (h : OwnB w B v l) (hb : Below w.heap.size w w') : OwnB w' B v l := ownsRow_below h hb
theorem OwnB.mono {w : World} {B B' : Nat} {v : Value} {l : List UInt8} (h : OwnB w B v l) (hb : B' ≤ B) : OwnB w B' v l := ownsRow_mono h hb
theorem OwnB.src {w : World} {B : Nat} {v : Value} {l : List UInt8} (h : OwnB w B v l) : SrcB w v l := by
  obtain ⟨h1, h2⟩ := h
  rcases h2 with ⟨rfl, h0⟩ | ⟨g, cap, cur, rfl, r1, r2, r3, r4, r5, r6⟩
  · have : l = [] := List.length_eq_zero_iff.1 h0
    subst this
    exact ⟨none, 0, rfl, Nat.le_refl _, .inl rfl⟩
  · refine ⟨_, cap, rfl, r3, .inr ⟨g, 0, rfl, fun j c hj => ?_⟩⟩
    have hjl : j < l.length := (List.getElem?_eq_some_iff.1 hj).1
    have e1 : (bcs l)[j]? = some (.int .u8 (c.toNat : Int)) := by unfold bcs; rw [List.getElem?_map, hj]; rfl
    rw [← r6, List.getElem?_take, if_pos (by omega)] at e1
    rw [Nat.zero_add, cell_of_row w g _ cur _ _ r2]; simpa using e1
/-- One step of append: the row and the frame. -/
theorem grow_ok {B : Nat} {w0 w w' : World} {v : Value} {n : Nat} {xs : List Value} (hown : w.ownsRow B 5 1 v n xs) (hg : w.grownBy w' v.ownBlock) (hb : Below B w0 w) (hB : B ≤ w0.heap.size) : Below B w0 w' :=
  hb.grown hg (Nat.le_trans hB hb.size) (fun k hk => (hown.lt k hk).1)
theorem one_new (w : World) (c : Int) : ∀ j u, ([.int .u8 c] : List Value)[j]? = some u → (w.alloc (.cells #[.int .u8 c] 5)).cell? ((⟨w.heap.size, 0, none⟩ : Addr).add j) = some u :=
  World.news_of_block (heap_alloc_new w (.cells #[.int .u8 c] 5))
theorem fldL_length (f : Fld) : (fldL f).length = (Lib.itoa f.1).length + f.2.length + 2 := by simp [fldL]; omega
theorem itoa_le (n : Int) (h0 : -9223372036854775808 ≤ n) (h1 : n ≤ 9223372036854775807) : (Lib.itoa n).length ≤ 21 := by
  have h : ∀ u : Nat, u < 18446744073709551616 → (Lib.decDigits u).length ≤ 20 := fun u hu => by
    by_cases h : 1 ≤ u
    · rw [Lib.decDigits_length]
      have := Lib.numDigits_eq u h hu; split at this <;> omega
    · rw [Lib.decDigits_one (by omega)]; simp
  unfold Lib.itoa
  split
  · have := h n.natAbs (by omega); simp; omega
  · have := h n.toNat (by omega); omega
theorem OwnB.ne_fld {w : World} {B g : Nat} {v : Value} {l : List UInt8} {t : Int} {V : ByteArray} (h : OwnB w B v l) (hf : FldAt w g t V) : v.ownBlock ≠ some g := by
  intro hk
  rcases h.2 with ⟨e, _⟩ | ⟨g', cap, cur, e, _, hg, _⟩
  · rw [e] at hk; cases hk
  · rw [e] at hk
    have e2 : g' = g := by simpa [Value.ownBlock] using hk
    subst e2
    unfold FldAt at hf
    rw [hf] at hg
    simp at hg
theorem FldAt.grown {w w' : World} {g : Nat} {t : Int} {V : ByteArray} {row : Option Nat} (h : FldAt w g t V) (hg : w.grownBy w' row) (hne : row ≠ some g) : FldAt w' g t V :=
  (hg.block g h.lt (fun e => hne e.symm)).trans h
set_option maxRecDepth 100000 in
set_option maxHeartbeats 400000 in
theorem appendField_any (B : Nat) (v : Value) (l : List UInt8) (f : Fld) (w0 w : World) (hown : OwnB w B v l) (hb : Below B w0 w) (hB : B ≤ w0.heap.size) (hp : Pow w) (h0 : -9223372036854775808 ≤ f.1) (h1 : f.1 ≤ 9223372036854775807) (hl : l.length ≤ 1048576) (hf : f.2.length ≤ 1048576) :
    Calls Tryz.prog 43 #[v, .agg #[.int .i64 f.1, .string (bs f.2)]] w fun e w' => ∃ v', e = .returned v' ∧ OwnB w' B v' (l ++ fldL f) ∧ Below B w0 w' := by
  obtain ⟨t, V⟩ := f
  obtain ⟨i0, hi, hz0, hz1, hz2⟩ := info_parts info5
  have hil := itoa_le t h0 h1
  have hb1 : Below w.heap.size w (w.alloc (.cells #[.int .i64 t, .string (bs V)] 52)) := (Below.refl _ w).alloc (Nat.le_refl _) _
  have hP := Print_any t h0 h1 (w.alloc (.cells #[.int .i64 t, .string (bs V)] 52)) (hp.below hb1)
  have hbs : (⟨(Lib.itoa t).toArray⟩ : ByteArray) = bs (Lib.itoa t) := rfl
  rw [hbs] at hP
  have hfa : FldAt (w.alloc (.cells #[.int .i64 t, .string (bs V)] 52)) w.heap.size t (bs V) := heap_alloc_new w _
  have HS : Hid (OwnB w B v l ∧ Below B w0 w) := ⟨hown, hb⟩
  have hwB : B ≤ w.heap.size := Nat.le_trans hB hb.size
  clear hown hb hp
  show Calls Tryz.prog 43 #[v, .agg #[.int .i64 t, .string (bs V)]] w fun e w' => ∃ v', e = .returned v' ∧ OwnB w' B v' (l ++ fldL (t, V)) ∧ Below B w0 w'
  have HFL : Hid (fldL (t, V) = Lib.itoa t ++ ([61] : List UInt8) ++ V ++ ([1] : List UInt8)) := rfl
  generalize fldL (t, V) = FL at *
  have hV : V.length ≤ 1048576 := hf
  have hsV := bs_size V
  have hsI := bs_size (Lib.itoa t)
  have HcV := strCells_bs V
  have HcI := strCells_bs (Lib.itoa t)
  generalize Lib.itoa t = I at *
  have HVC : Hid (Lib.strCells (bs V) = bcs V ∧ Lib.strCells (bs I) = bcs I) := ⟨HcV, HcI⟩
  clear HcV HcI hf
  go_enter Tryz.func43, Tryz.ntmps43
  go_wp2_with (go_at_call 42; fail)
  refine hP.mono ?_
  rintro e w1 ⟨rfl, hb2⟩
  have HA1 : Hid (OwnB w1 B v l ∧ Below B w0 w1 ∧ FldAt w1 w.heap.size t (bs V)) := ⟨ownsRow_below (World.ownsRow.alloc HS.out.1 _) hb2, HS.out.2.trans ((hb1.trans (hb2.mono hb1.size)).mono hwB), hfa.below hb2 (by simp)⟩
  have hwB1 : B ≤ w1.heap.size := Nat.le_trans hB HA1.out.2.1.size
  clear hb2 hb1 hfa HS hP
  go_upto_region 2 with (at_builtin; refine Lib.wpList_append_own_string _ rfl _ _ 25 9 rfl B 5 i0 Tryz.underlying25 Tryz.underlying9 hi hz0 hz1 hz2 _ l.length (bcs l) rfl HA1.out.1 (bs I) rfl (by unfold maxLen; omega) (by omega) hwB1 ?_; intro v2 w2 ho2 hg2 hn2)
  have HA2 : Hid (OwnB w2 B v2 (l ++ I) ∧ Below B w0 w2 ∧ FldAt w2 w.heap.size t (bs V)) := by
    refine ⟨?_, grow_ok HA1.out.1 hg2 HA1.out.2.1 hB, HA1.out.2.2.grown hg2 (HA1.out.1.ne_fld HA1.out.2.2)⟩
    rw [HVC.out.2, hsI] at ho2
    unfold OwnB; rw [bcs_app, List.length_append]; exact ho2
  clear ho2 hg2 hn2 HA1 hwB1
  have hwB2 : B ≤ (w2.alloc (.cells #[.int .u8 61] 5)).heap.size := by have := HA2.out.2.1.size; simp; omega
  have hl2 : (l ++ I).length ≤ 1048600 := by simp; omega
  have hn2 := one_new w2 61
  go_upto_region 3 with (at_builtin; refine wpList_append_own _ rfl _ _ 25 rfl B 5 i0 (.int .u8 0) 1 1 Tryz.underlying25 hi hz0 hz1 hz2 rfl (by decide) _ (l ++ I).length (bcs (l ++ I)) rfl (World.ownsRow.alloc HA2.out.1 _) ⟨w2.heap.size, 0, none⟩ 1 1 [.int .u8 61] rfl rfl hn2 (fun x hx => by simp at hx; subst hx; rfl) (by unfold maxLen; omega) (by omega) hwB2 ?_; intro v3 w3 ho3 hg3 hn3)
  have HA3 : Hid (OwnB w3 B v3 (l ++ I ++ ([61] : List UInt8)) ∧ Below B w0 w3 ∧ FldAt w3 w.heap.size t (bs V)) := by
    have hb' : Below B w0 (w2.alloc (.cells #[.int .u8 61] 5)) := HA2.out.2.1.alloc (Nat.le_trans hB HA2.out.2.1.size) _
    have ho' : OwnB (w2.alloc (.cells #[.int .u8 61] 5)) B v2 (l ++ I) := World.ownsRow.alloc HA2.out.1 _
    have hf' : FldAt (w2.alloc (.cells #[.int .u8 61] 5)) w.heap.size t (bs V) := HA2.out.2.2.below ((Below.refl _ w2).alloc (Nat.le_refl _) _) HA2.out.2.2.lt
    refine ⟨?_, grow_ok ho' hg3 hb' hB, hf'.grown hg3 (ho'.ne_fld hf')⟩
    unfold OwnB; rw [bcs_app, List.length_append]; exact ho3
  clear ho3 hg3 hn3 hn2 HA2 hwB2 hl2
  have hwB3 : B ≤ w3.heap.size := Nat.le_trans hB HA3.out.2.1.size
  have hl3 : (l ++ I ++ ([61] : List UInt8)).length ≤ 1048601 := by simp; omega
  have c1 := HA3.out.2.2.cell1
  go_upto_region 4 with (at_builtin; refine Lib.wpList_append_own_string _ rfl _ _ 25 9 rfl B 5 i0 Tryz.underlying25 Tryz.underlying9 hi hz0 hz1 hz2 _ (l ++ I ++ ([61] : List UInt8)).length (bcs (l ++ I ++ ([61] : List UInt8))) rfl HA3.out.1 (bs V) rfl (by unfold maxLen; omega) (by omega) hwB3 ?_; intro v4 w4 ho4 hg4 hn4)
  have HA4 : Hid (OwnB w4 B v4 (l ++ I ++ ([61] : List UInt8) ++ V) ∧ Below B w0 w4) := by
    refine ⟨?_, grow_ok HA3.out.1 hg4 HA3.out.2.1 hB⟩
    rw [HVC.out.1, hsV] at ho4
    unfold OwnB; rw [bcs_app, List.length_append]; exact ho4
  clear ho4 hg4 hn4 HA3 hwB3 hl3 c1
  have hwB4 : B ≤ (w4.alloc (.cells #[.int .u8 1] 5)).heap.size := by have := HA4.out.2.size; simp; omega
  have hl4 : (l ++ I ++ ([61] : List UInt8) ++ V).length ≤ 2097300 := by simp; omega
  have hn4 := one_new w4 1
  go_wp2_with (at_builtin; refine wpList_append_own _ rfl _ _ 25 rfl B 5 i0 (.int .u8 0) 1 1 Tryz.underlying25 hi hz0 hz1 hz2 rfl (by decide) _ (l ++ I ++ ([61] : List UInt8) ++ V).length (bcs (l ++ I ++ ([61] : List UInt8) ++ V)) rfl (World.ownsRow.alloc HA4.out.1 _) ⟨w4.heap.size, 0, none⟩ 1 1 [.int .u8 1] rfl rfl hn4 (fun x hx => by simp at hx; subst hx; rfl) (by unfold maxLen; omega) (by omega) hwB4 ?_; intro v5 w5 ho5 hg5 hn5)
  have HA5 : Hid (OwnB w5 B v5 (l ++ FL) ∧ Below B w0 w5) := by
    have hb' : Below B w0 (w4.alloc (.cells #[.int .u8 1] 5)) := HA4.out.2.alloc (Nat.le_trans hB HA4.out.2.size) _
    refine ⟨?_, grow_ok (World.ownsRow.alloc HA4.out.1 _) hg5 hb' hB⟩
    rw [HFL.out, show l ++ (I ++ ([61] : List UInt8) ++ V ++ ([1] : List UInt8)) = (l ++ I ++ ([61] : List UInt8) ++ V) ++ ([1] : List UInt8) by simp]
    unfold OwnB; rw [bcs_app, List.length_append]; exact ho5
  clear ho5 hg5 hn5
  go_ret
  exact ⟨v5, rfl, HA5.out.1, HA5.out.2⟩
end Go.Proofs.YtchkpggdndnpjabGreatDoor

namespace Go.Proofs.YtchkpggdndnpjabGreatDoor
set_option linter.unusedVariables false
open Go.RowKit

theorem bodyB_snoc (fs : List Fld) (k : Nat) (h : k < fs.length) : bodyB (fs.take (k + 1)) = bodyB (fs.take k) ++ fldL fs[k] := by
  rw [List.take_succ_eq_append_getElem h]
  unfold bodyB
  rw [List.flatMap_append]
  simp only [List.flatMap_cons, List.flatMap_nil, List.append_nil]
theorem bodyB_le (fs : List Fld) (k : Nat) : (bodyB (fs.take k)).length ≤ (bodyB fs).length := by
  conv => rhs; rw [← List.take_append_drop k fs]
  unfold bodyB
  rw [List.flatMap_append, List.length_append]; omega
/-- Tags that a number of 64 bits can be. -/
def okT (fs : List Fld) : Prop := ∀ f ∈ fs, -9223372036854775808 ≤ f.1 ∧ f.1 ≤ 9223372036854775807
set_option maxRecDepth 100000 in
set_option maxHeartbeats 400000 in
theorem bodySize_any (v : Value) (fs : List Fld) (w : World) (hs : SrcF w v fs) (hp : Pow w) (ht : okT fs) (hsz : (bodyB fs).length ≤ 1099511627776) (hn : fs.length ≤ 1099511627776) :
    Calls Tryz.prog 41 #[v] w fun e w' => e = .returned (.int .i64 ((bodyB fs).length : Int)) ∧ Below w.heap.size w w' := by
  have HS : Hid (SrcF w v fs ∧ Pow w ∧ okT fs) := ⟨hs, hp, ht⟩
  obtain ⟨ao, cap, rfl, hc, _⟩ := hs
  clear hp ht
  go_enter Tryz.func41, Tryz.ntmps41
  go_wp2
  go_loopw [3, 5, 8] (fun z _ i wr => ∃ k : Nat, k ≤ fs.length ∧ i = .int .i64 k ∧ z = .int .i64 ((bodyB (fs.take k)).length : Int) ∧ Below w.heap.size w wr) (fun _ _ i _ => fs.length - (intOf i).toNat)
  case atStart => exact ⟨0, Nat.zero_le _, rfl, rfl, Below.refl _ _⟩
  case round =>
    obtain ⟨k, hk, rfl, rfl, hb⟩ := hrel
    have HA : Hid (Below w.heap.size w wr) := hb
    clear hb
    by_cases hlt : k < fs.length
    · have hlt' : (k : Int) < (fs.length : Int) := by omega
      have hfk : fs[k]? = some fs[k] := List.getElem?_eq_getElem hlt
      obtain ⟨ao', cap', e1, _, h0 | ⟨b, off, e2, hcell⟩⟩ := HS.out.1.below HA.out
      · rw [h0] at hlt; simp at hlt
      injection e1 with e1 _ e3
      subst e1 e2 e3
      obtain ⟨c0, c1⟩ := hcell k _ hfk
      have htk := HS.out.2.2 fs[k] (List.getElem_mem hlt)
      have hle := bodyB_le fs (k + 1)
      have HX : Hid ((bodyB (fs.take (k + 1))).length = (bodyB (fs.take k)).length + (fldL fs[k]).length) := by
        show List.length _ = _
        rw [bodyB_snoc fs k hlt, List.length_append]
      have hfl := fldL_length fs[k]
      have hle2 : (bodyB (fs.take k)).length + (fldL fs[k]).length ≤ 1099511627776 := by rw [← HX.out]; omega
      clear hle hcell hfk
      generalize fs[k] = g at *
      obtain ⟨t, V⟩ := g
      simp only at hfl htk
      have hP := fun w' hw' => Print_any t htk.1 htk.2 w' hw'
      have hbs : (⟨(Lib.itoa t).toArray⟩ : ByteArray) = bs (Lib.itoa t) := rfl
      have hbz := bs_size (Lib.itoa t)
      have hvz := bs_size V
      generalize (bodyB (fs.take k)).length = n at *
      generalize (fldL (t, V)).length = m at *
      rw [hbs] at hP
      generalize Lib.itoa t = I at *
      clear hbs
      go_upto_region 5 with fail
      have HF : Hid (FldAt (wr.alloc (.cells #[.int .i64 t, .string (bs V)] 52)) wr.heap.size t (bs V) ∧ Below w.heap.size w (wr.alloc (.cells #[.int .i64 t, .string (bs V)] 52))) := ⟨heap_alloc_new wr _, HA.out.alloc HA.out.size _⟩
      clear c0 c1
      generalize wr.heap.size = G at *
      generalize wr.alloc (.cells #[.int .i64 t, .string (bs V)] 52) = w1 at *
      have HK : Hid (∀ w', Below w1.heap.size w1 w' → w'.cell? ⟨G, 0, none⟩ = some (.int .i64 t) ∧ w'.cell? ⟨G, 1, none⟩ = some (.string (bs V))) := fun w' hb => by
        have := HF.out.1.below hb HF.out.1.lt
        exact ⟨this.cell0, this.cell1⟩
      have HPw : Hid (∀ w', Below w1.heap.size w1 w' → Calls Tryz.prog 42 #[.int .i64 t] w' fun e w2 => e = .returned (.string (bs I)) ∧ Below w'.heap.size w' w2) := fun w' hb => hP w' ((HS.out.2.1.below HF.out.2).below hb)
      clear hP
      have hB1 : Below w1.heap.size w1 w1.drew := (Below.refl _ w1).drew
      go_region_held (fun w' => Below w1.heap.size w1 w' ∧ w'.cell? ⟨G, 0, none⟩ = some (.int .i64 t) ∧ w'.cell? ⟨G, 1, none⟩ = some (.string (bs V))) (first | exact ⟨hB2, HK.out _ hB2⟩ | exact ⟨hB1, HK.out _ hB1⟩) (first | (go_at_call 42; refine (HPw.out _ hB1).mono ?_; rintro e w2 ⟨rfl, hb2⟩; have hB2 : Below w1.heap.size w1 w2 := hB1.trans (hb2.mono hB1.size); clear hb2))
      have hw1 : IntKind.i64.wrap ((I.length : Int) + (V.length : Int)) = (I.length : Int) + (V.length : Int) := by rw [IntKind.wrap_i64]; omega
      have hw2 : IntKind.i64.wrap ((I.length : Int) + (V.length : Int) + 2) = (I.length : Int) + (V.length : Int) + 2 := by rw [IntKind.wrap_i64]; omega
      have hw3 : IntKind.i64.wrap ((n : Int) + ((I.length : Int) + (V.length : Int) + 2)) = (n : Int) + ((I.length : Int) + (V.length : Int) + 2) := by rw [IntKind.wrap_i64]; omega
      simp only [hw1, hw2, hw3]
      clear hw1 hw2 hw3
      have HB2 : Hid (Below w.heap.size w w2) := HF.out.2.trans (hB2.mono HF.out.2.size)
      go_wp2
      refine ⟨⟨k + 1, by omega, by go_num, vint ?_, HB2.out⟩, by simp [intOf]; omega⟩
      rw [HX.out]; omega
    · have e : k = fs.length := by omega
      subst e
      rw [List.take_length]
      go_wp2
      go_ret
      exact ⟨rfl, HA.out⟩
end Go.Proofs.YtchkpggdndnpjabGreatDoor

namespace Go.Proofs.YtchkpggdndnpjabGreatDoor
set_option linter.unusedVariables false
open Go.RowKit

/-- What Join tells. -/
def JoinRet (r : Except Int (List UInt8)) (w : World) (x : Ending) (w' : World) : Prop :=
  Below w.heap.size w w' ∧ match r with
  | .ok l => ∃ v, x = .returned (.tuple #[v, .int .i64 0]) ∧ OwnB w' w.heap.size v l
  | .error e => x = .returned (.tuple #[.slice none 0 0, .int .i64 e])
theorem JoinRet.good {r : Except Int (List UInt8)} {w w' : World} {x : Ending} {l : List UInt8} {v : Value} (h : r = .ok l) (hb : Below w.heap.size w w') (hx : x = .returned (.tuple #[v, .int .i64 0])) (ho : OwnB w' w.heap.size v l) : JoinRet r w x w' := by
  refine ⟨hb, ?_⟩; rw [h]; exact ⟨v, hx, ho⟩
theorem JoinRet.fail {r : Except Int (List UInt8)} {w w' : World} {x : Ending} {e : Int} (h : r = .error e) (hb : Below w.heap.size w w') (hx : x = .returned (.tuple #[.slice none 0 0, .int .i64 e])) : JoinRet r w x w' := by
  refine ⟨hb, ?_⟩; rw [h]; exact hx
theorem OwnB.form {w : World} {B : Nat} {v : Value} {l : List UInt8} (h : OwnB w B v l) : ∃ ao cv, v = .slice ao l.length cv := by
  rcases h.2 with ⟨e, h0⟩ | ⟨g, cap, cur, e, _⟩
  · exact ⟨none, 0, by rw [e, h0]⟩
  · exact ⟨_, cap, e⟩
theorem val_le_body : ∀ (fs : List Fld) (f : Fld), f ∈ fs → f.2.length ≤ (bodyB fs).length
  | g :: fs, f, h => by
    have e : bodyB (g :: fs) = fldL g ++ bodyB fs := by simp [bodyB]
    rw [e, List.length_append]
    rcases List.mem_cons.1 h with rfl | h
    · rw [fldL_length]; omega
    · have := val_le_body fs f h; omega
theorem head_length (b : List UInt8) : (aheadL b).length = 12 + (Lib.itoa (b.length : Int)).length + 1 + b.length := by
  unfold aheadL headL; simp; omega
set_option maxRecDepth 100000 in
set_option maxHeartbeats 800000 in
theorem Join_any (v : Value) (fs : List Fld) (w : World) (hs : SrcF w v fs) (hp : Pow w) (ht : okT fs) (hsz : (bodyB fs).length ≤ 1099511627776) (hn : fs.length ≤ 1099511627776) :
    Calls Tryz.prog 15 #[v] w fun x w' => JoinRet (joinL fs) w x w' := by
  obtain ⟨i0, hi, hz0, hz1, hz2⟩ := info_parts info5
  have h1 := all_any 39 (fun f => isTg f.1) v fs w (fun x w' => cfTag x w') (fun g hg w' => rightTag_any g w') (by omega) hs
  by_cases hT : (fs.all fun f => isTg f.1) = false
  · have HJ : Hid (joinL fs = .error 41) := by show joinL _ = _; unfold joinL; rw [if_pos hT]
    generalize joinL fs = R at *
    rw [hT] at h1
    clear hT hs hp ht hsz
    go_enter Tryz.func15, Tryz.ntmps15
    go_wp2_with (go_at_call 38; fail)
    refine h1.mono ?_
    rintro e w1 ⟨rfl, hb1⟩
    have HB1 : Hid (Below w.heap.size w w1) := hb1
    clear hb1 h1
    go_wp2
    go_ret2
    exact .fail HJ.out HB1.out rfl
  have hT' : (fs.all fun f => isTg f.1) = true := by simpa using hT
  rw [hT'] at h1
  have h2 := fun w' (hb : Below w.heap.size w w') => all_any 40 (fun f => okV f.2) v fs w' (fun x w' => cfVal x w') (fun g hg w2 => rightValue_any g w2 (by have := val_le_body fs g hg; unfold maxLen; omega)) (by omega) (hs.below hb)
  by_cases hV : (fs.all fun f => okV f.2) = false
  · have HJ : Hid (joinL fs = .error 42) := by show joinL _ = _; unfold joinL; rw [if_neg hT, if_pos hV]
    generalize joinL fs = R at *
    simp only [hV] at h2
    clear hT hT' hV hs hp ht hsz
    go_enter Tryz.func15, Tryz.ntmps15
    go_wp2_with (go_at_call 38; fail)
    refine h1.mono ?_
    rintro e w1 ⟨rfl, hb1⟩
    have HB1 : Hid (Below w.heap.size w w1) := hb1
    clear hb1 h1
    go_wp2_with (go_at_call 38; fail)
    refine (h2 w1 HB1.out).mono ?_
    rintro e w2 ⟨rfl, hb2⟩
    have HB2 : Hid (Below w.heap.size w w2) := HB1.out.trans (hb2.mono HB1.out.size)
    clear hb2 h2
    go_wp2
    go_ret2
    exact .fail HJ.out HB2.out rfl
  have hV' : (fs.all fun f => okV f.2) = true := by simpa using hV
  simp only [hV'] at h2
  have h3 := fun w' (hb : Below w.heap.size w w') => bodySize_any v fs w' (hs.below hb) (hp.below hb) ht hsz hn
  have h4 := fun w' (hb : Below w.heap.size w w') => Print_any ((bodyB fs).length : Int) (by omega) (by omega) w' (hp.below hb)
  have hbs : (⟨(Lib.itoa ((bodyB fs).length : Int)).toArray⟩ : ByteArray) = bs (Lib.itoa ((bodyB fs).length : Int)) := rfl
  simp only [hbs] at h4
  have hiz := bs_size (Lib.itoa ((bodyB fs).length : Int))
  have hil := itoa_le ((bodyB fs).length : Int) (by omega) (by omega)
  have hcl : (closeL (aheadL (bodyB fs))).length = 12 + (Lib.itoa ((bodyB fs).length : Int)).length + 1 + (bodyB fs).length + 7 := by rw [close_length, head_length]
  by_cases hL : 1024 < (closeL (aheadL (bodyB fs))).length
  · have HJ : Hid (joinL fs = .error 43) := by show joinL _ = _; unfold joinL; rw [if_neg hT, if_neg hV, if_pos hL]
    generalize joinL fs = R at *
    rw [hcl] at hL
    clear hT hT' hV hV' hs hp ht hcl hbs
    generalize (bodyB fs).length = n at *
    generalize Lib.itoa (n : Int) = I at *
    have hL' : (1024 : Int) < 12 + (I.length : Int) + 1 + (n : Int) + 7 := by omega
    go_enter Tryz.func15, Tryz.ntmps15
    go_wp2_with (go_at_call 38; fail)
    refine h1.mono ?_
    rintro e w1 ⟨rfl, hb1⟩
    have HB1 : Hid (Below w.heap.size w w1) := hb1
    clear hb1 h1
    go_wp2_with (go_at_call 38; fail)
    refine (h2 w1 HB1.out).mono ?_
    rintro e w2 ⟨rfl, hb2⟩
    have HB2 : Hid (Below w.heap.size w w2) := HB1.out.trans (hb2.mono HB1.out.size)
    clear hb2 h2 HB1
    go_wp2_with (go_at_call 41; fail)
    refine (h3 w2 HB2.out).mono ?_
    rintro e w3 ⟨rfl, hb3⟩
    have HB3 : Hid (Below w.heap.size w w3) := HB2.out.trans (hb3.mono HB2.out.size)
    clear hb3 h3 HB2
    go_wp2_with (go_at_call 42; fail)
    refine (h4 w3 HB3.out).mono ?_
    rintro e w4 ⟨rfl, hb4⟩
    have HB4 : Hid (Below w.heap.size w w4) := HB3.out.trans (hb4.mono HB3.out.size)
    clear hb4 h4 HB3
    go_wp2
    go_ret2
    exact .fail HJ.out HB4.out rfl
  have HJ : Hid (joinL fs = .ok (closeL (aheadL (bodyB fs)))) := by show joinL _ = _; unfold joinL; rw [if_neg hT, if_neg hV, if_neg hL]
  generalize joinL fs = R at *
  rw [hcl] at hL
  have HS : Hid (SrcF w v fs ∧ Pow w ∧ okT fs ∧ (bodyB fs).length ≤ 1024 ∧ (∀ f ∈ fs, f.2.length ≤ 1024)) := ⟨hs, hp, ht, by omega, fun f hf => by have := val_le_body fs f hf; omega⟩
  have HD : Hid (aheadL (bodyB fs) = headL ++ Lib.itoa ((bodyB fs).length : Int) ++ [1] ++ bodyB fs) := rfl
  have HC : Hid (closeL (aheadL (bodyB fs)) = aheadL (bodyB fs) ++ tenL ++ three (sumL (aheadL (bodyB fs))) ++ [1]) := rfl
  have HN : Hid ((bodyB fs).length + (Lib.itoa ((bodyB fs).length : Int)).length ≤ 1004) := by show _ ≤ _; omega
  have HIc := strCells_bs (Lib.itoa ((bodyB fs).length : Int))
  generalize closeL (aheadL (bodyB fs)) = CL at *
  generalize aheadL (bodyB fs) = AL at *
  clear hT hT' hV hV' hp ht hcl hbs
  obtain ⟨n, hbn⟩ : ∃ n, (bodyB fs).length = n := ⟨_, rfl⟩
  rw [hbn] at h3 h4 hiz hil hL HIc hsz HD HN
  have HBN : Hid ((bodyB fs).length = n) := hbn
  clear hbn
  generalize Lib.itoa (n : Int) = I at *
  have hL' : decide ((1024 : Int) < 12 + (I.length : Int) + 1 + (n : Int) + 7) = false := decide_eq_false (by omega)
  have hI0 : I.length ≤ 21 := hil
  obtain ⟨ao, cap, rfl, hc, _⟩ := hs
  go_enter Tryz.func15, Tryz.ntmps15
  go_wp2_with (go_at_call 38; fail)
  refine h1.mono ?_
  rintro e w1 ⟨rfl, hb1⟩
  have HB1 : Hid (Below w.heap.size w w1) := hb1
  clear hb1 h1
  go_wp2_with (go_at_call 38; fail)
  refine (h2 w1 HB1.out).mono ?_
  rintro e w2 ⟨rfl, hb2⟩
  have HB2 : Hid (Below w.heap.size w w2) := HB1.out.trans (hb2.mono HB1.out.size)
  clear hb2 h2 HB1
  go_wp2_with (go_at_call 41; fail)
  refine (h3 w2 HB2.out).mono ?_
  rintro e w3 ⟨rfl, hb3⟩
  have HB3 : Hid (Below w.heap.size w w3) := HB2.out.trans (hb3.mono HB2.out.size)
  clear hb3 h3 HB2
  go_wp2_with (go_at_call 42; fail)
  refine (h4 w3 HB3.out).mono ?_
  rintro e w4 ⟨rfl, hb4⟩
  have HB4 : Hid (Below w.heap.size w w4) := HB3.out.trans (hb4.mono HB3.out.size)
  clear hb4 h4 HB3
  go_upto_region 11 with (at_make; refine wpList_make_own _ rfl _ _ 25 rfl w.heap.size 5 i0 (.int .u8 0) 1 Tryz.underlying25 hi hz0 hz1 _ _ _ (12 + I.length + 1 + n + 7) rfl rfl (by omega) (by rw [hz2]; omega) (by unfold maxLen; omega) HB4.out.size ?_; intro w5 hown5 hgrow5)
  have HA5 : Hid (w5.ownsRow w.heap.size 5 1 (.slice (some ⟨w4.heap.size, 0, none⟩) 0 (12 + I.length + 1 + n + 7)) 0 [] ∧ Below w.heap.size w w5) := ⟨hown5, HB4.out.grown hgrow5 HB4.out.size (fun k hk => by cases hk)⟩
  have hB5 : w.heap.size ≤ w5.heap.size := HA5.out.2.size
  clear hown5 hgrow5
  have hhz := bs_size headL
  have hhc := strCells_bs headL
  have htz := bs_size tenL
  have htc := strCells_bs tenL
  have HSC : Hid (Lib.strCells (bs headL) = bcs headL ∧ Lib.strCells (bs tenL) = bcs tenL ∧ Lib.strCells (bs I) = bcs I) := ⟨hhc, htc, HIc⟩
  clear hhc htc HIc
  have hh12 : (bs headL).size = 12 := hhz
  go_upto_region 12 with (at_builtin; refine Lib.wpList_append_own_string _ rfl _ _ 25 9 rfl w.heap.size 5 i0 Tryz.underlying25 Tryz.underlying9 hi hz0 hz1 hz2 _ 0 [] rfl HA5.out.1 (bs headL) rfl (by unfold maxLen; omega) (by omega) hB5 ?_; intro v6 w6 ho6 hg6 hn6)
  have HA6 : Hid (OwnB w6 w.heap.size v6 headL ∧ Below w.heap.size w w6) := by
    refine ⟨?_, grow_ok HA5.out.1 hg6 HA5.out.2 (Nat.le_refl _)⟩
    rw [HSC.out.1, hhz] at ho6
    unfold OwnB
    simpa using ho6
  clear ho6 hg6 hn6 HA5 hB5
  have hB6 : w.heap.size ≤ w6.heap.size := HA6.out.2.size
  have hl6 : headL.length = 12 := rfl
  go_upto_region 13 with (at_builtin; refine Lib.wpList_append_own_string _ rfl _ _ 25 9 rfl w.heap.size 5 i0 Tryz.underlying25 Tryz.underlying9 hi hz0 hz1 hz2 _ headL.length (bcs headL) rfl HA6.out.1 (bs I) rfl (by unfold maxLen; omega) (by omega) hB6 ?_; intro v7 w7 ho7 hg7 hn7)
  have HA7 : Hid (OwnB w7 w.heap.size v7 (headL ++ I) ∧ Below w.heap.size w w7) := by
    refine ⟨?_, grow_ok HA6.out.1 hg7 HA6.out.2 (Nat.le_refl _)⟩
    rw [HSC.out.2.2, hiz] at ho7
    unfold OwnB; rw [bcs_app, List.length_append]; exact ho7
  clear ho7 hg7 hn7 HA6 hB6
  have hB7 : w.heap.size ≤ (w7.alloc (.cells #[.int .u8 1] 5)).heap.size := by have := HA7.out.2.size; simp; omega
  have hl7 : (headL ++ I).length ≤ 33 := by simp; omega
  have hn7 := one_new w7 1
  go_upto_region 14 with (at_builtin; refine wpList_append_own _ rfl _ _ 25 rfl w.heap.size 5 i0 (.int .u8 0) 1 1 Tryz.underlying25 hi hz0 hz1 hz2 rfl (by decide) _ (headL ++ I).length (bcs (headL ++ I)) rfl (World.ownsRow.alloc HA7.out.1 _) ⟨w7.heap.size, 0, none⟩ 1 1 [.int .u8 1] rfl rfl hn7 (fun x hx => by simp at hx; subst hx; rfl) (by unfold maxLen; omega) (by omega) hB7 ?_; intro v8 w8 ho8 hg8 hn8)
  have HA8 : Hid (OwnB w8 w.heap.size v8 (headL ++ I ++ ([1] : List UInt8)) ∧ Below w.heap.size w w8) := by
    have hb' : Below w.heap.size w (w7.alloc (.cells #[.int .u8 1] 5)) := HA7.out.2.alloc HA7.out.2.size _
    refine ⟨?_, grow_ok (World.ownsRow.alloc HA7.out.1 _) hg8 hb' (Nat.le_refl _)⟩
    unfold OwnB; rw [bcs_app, List.length_append]; exact ho8
  clear ho8 hg8 hn8 hn7 HA7 hB7 hl7
  have hl8 : (headL ++ I ++ ([1] : List UInt8)).length = 13 + I.length := by simp; omega
  have HL8 : Hid ((headL ++ I ++ ([1] : List UInt8)).length = 13 + I.length) := hl8
  have HD8 : Hid (AL = headL ++ I ++ ([1] : List UInt8) ++ bodyB fs) := HD.out
  clear hl8 hl6 hh12
  generalize headL ++ I ++ ([1] : List UInt8) = H8 at *
  obtain ⟨a8, c8, hv8⟩ := HA8.out.1.form
  subst hv8
  go_wp2
  go_loopw [7, 9, 42] (fun z _ i wr => ∃ (k : Nat) (ao' : Option Addr) (cv : Nat), k ≤ fs.length ∧ i = .int .i64 k ∧ z = .slice ao' (H8 ++ bodyB (fs.take k)).length cv ∧ OwnB wr w.heap.size (.slice ao' (H8 ++ bodyB (fs.take k)).length cv) (H8 ++ bodyB (fs.take k)) ∧ Below w.heap.size w wr) (fun _ _ i _ => fs.length - (intOf i).toNat)
  case atStart => exact ⟨0, a8, c8, Nat.zero_le _, rfl, by simp [bodyB], by simpa [bodyB] using HA8.out.1, HA8.out.2⟩
  case round =>
    obtain ⟨k, ao', cv, hk, rfl, rfl, ho, hb⟩ := hrel
    have HA : Hid (OwnB wr w.heap.size (.slice ao' (H8 ++ bodyB (fs.take k)).length cv) (H8 ++ bodyB (fs.take k)) ∧ Below w.heap.size w wr) := ⟨ho, hb⟩
    clear ho hb
    have hlb : (H8 ++ bodyB (fs.take k)).length ≤ 2048 := by
      have h1 := bodyB_le fs k
      have h2 := HS.out.2.2.2.1
      have h3 := HL8.out
      rw [List.length_append]; omega
    by_cases hlt : k < fs.length
    · have hlt' : (k : Int) < (fs.length : Int) := by omega
      have hfk : fs[k]? = some fs[k] := List.getElem?_eq_getElem hlt
      obtain ⟨ao2, cap2, e1, _, h0 | ⟨b, off, e2, hcell⟩⟩ := HS.out.1.below HA.out.2
      · rw [h0] at hlt; simp at hlt
      injection e1 with e1 _ e3
      subst e1 e2 e3
      obtain ⟨c0, c1⟩ := hcell k _ hfk
      have htk := HS.out.2.2.1 fs[k] (List.getElem_mem hlt)
      have hvk := HS.out.2.2.2.2 fs[k] (List.getElem_mem hlt)
      have HX : Hid (H8 ++ bodyB (fs.take (k + 1)) = H8 ++ bodyB (fs.take k) ++ fldL fs[k]) := by
        show _ = _
        rw [bodyB_snoc fs k hlt, List.append_assoc]
      have hP := fun w' ho hb hp => appendField_any w.heap.size (.slice ao' (H8 ++ bodyB (fs.take k)).length cv) (H8 ++ bodyB (fs.take k)) fs[k] w w' ho hb (Nat.le_refl _) hp htk.1 htk.2 (by omega) (by omega)
      clear hcell hfk
      generalize fs[k] = g at *
      generalize H8 ++ bodyB (fs.take k) = L at *
      obtain ⟨t, V⟩ := g
      go_wp2_with (go_at_call 43; fail)
      have hbb : Below w.heap.size w (wr.alloc (.cells #[.int .i64 t, .string (bs V)] 52)) := HA.out.2.alloc HA.out.2.size _
      refine (hP _ (World.ownsRow.alloc HA.out.1 _) hbb (HS.out.2.1.below hbb)).mono ?_
      rintro e w9 ⟨v9, rfl, ho9, hb9⟩
      obtain ⟨a9, c9, hv9⟩ := ho9.form
      subst hv9
      have HA9 : Hid (OwnB w9 w.heap.size (.slice a9 (L ++ fldL (t, V)).length c9) (L ++ fldL (t, V)) ∧ Below w.heap.size w w9) := ⟨ho9, hb9⟩
      clear ho9 hb9 hP hbb
      go_wp2
      refine ⟨⟨k + 1, a9, c9, by omega, by go_num, ?_, ?_, HA9.out.2⟩, by simp [intOf]; omega⟩
      · rw [HX.out, List.length_append]
      · rw [HX.out]; exact HA9.out.1
    · have e : k = fs.length := by omega
      subst e
      have HE : Hid (H8 ++ bodyB (fs.take fs.length) = AL) := by
        show _ = _
        rw [List.take_length, HD8.out]
      have h12 : 12 < (H8 ++ bodyB (fs.take fs.length)).length := by
        have h3 := HL8.out
        rw [List.length_append]; omega
      rw [HE.out] at h12 hlb HA
      simp only [HE.out]
      rcases HA.out.1.2 with ⟨_, h0⟩ | ⟨g, cg, cur, hv, hg1, hg2, hg3⟩
      · omega
      injection hv with hv1 _ hv2
      subst hv1 hv2
      clear hg1 hg2 hg3
      have hsrc := HA.out.1.src
      have hsr2 : ∃ b off, (some ⟨g, 0, none⟩ : Option Addr) = some ⟨b, off, none⟩ ∧ ∀ j c, AL[j]? = some c → wr.cell? ⟨b, off + j, none⟩ = some (.int .u8 (c.toNat : Int)) := by
        obtain ⟨ao3, c3, e1, _, h0 | ⟨b', off', e2, hcl⟩⟩ := hsrc
        · rw [h0] at h12; simp at h12
        · injection e1 with e1 _ e5
          exact ⟨b', off', by rw [e1, e2], hcl⟩
      obtain ⟨b', off', e2, hcl⟩ := hsr2
      clear hsrc
      injection e2 with e2
      injection e2 with e3 e4
      subst e3 e4
      have HCL : Hid (∀ j c, AL[j]? = some c → wr.cell? ⟨g, 0 + j, none⟩ = some (.int .u8 (c.toNat : Int))) := hcl
      clear hcl
      go_wp2_with (go_at_call 44; fail)
      have hba : Below wr.heap.size wr (wr.alloc (.cells #[.slice (some ⟨g, 0, none⟩) AL.length cv] 25)) := (Below.refl _ wr).alloc (Nat.le_refl _) _
      refine (Sum_one wr.heap.size g 0 AL.length cv AL (wr.alloc (.cells #[.slice (some ⟨g, 0, none⟩) AL.length cv] 25)) (Nat.le_refl _) (by omega) (cell_of_row _ _ 0 _ _ _ (heap_alloc_new wr _)) (fun j c hj => by
        have h := HCL.out j c hj
        rw [hba.cell (p := ⟨g, _, none⟩) (World.block_lt_of_cell? _ _ h)]; exact h)).mono ?_
      rw [List.take_length]
      rintro e w9 ⟨rfl, rfl⟩
      have HA9 : Hid (OwnB (wr.alloc (.cells #[.slice (some ⟨g, 0, none⟩) AL.length cv] 25)) w.heap.size (.slice (some ⟨g, 0, none⟩) AL.length cv) AL ∧ Below w.heap.size w (wr.alloc (.cells #[.slice (some ⟨g, 0, none⟩) AL.length cv] 25))) := ⟨World.ownsRow.alloc HA.out.1 _, HA.out.2.alloc HA.out.2.size _⟩
      clear hba HCL HA
      generalize wr.alloc (.cells #[.slice (some ⟨g, 0, none⟩) AL.length cv] 25) = w9 at *
      have hsm := sumL_lt AL
      have hP := fun w' hw' => printSum_any (sumL AL) hsm w' hw'
      have hpz := bs_size (three (sumL AL))
      have hpl : (three (sumL AL)).length = 3 := rfl
      have hpc := strCells_bs (three (sumL AL))
      generalize sumL AL = SM at *
      generalize three SM = T3 at *
      have HPC : Hid (Lib.strCells (bs T3) = bcs T3) := hpc
      clear hpc
      have hB9 : w.heap.size ≤ w9.heap.size := HA9.out.2.size
      have ht3 : (bs tenL).size = 3 := htz
      go_upto_region 21 with (at_builtin; refine Lib.wpList_append_own_string _ rfl _ _ 25 9 rfl w.heap.size 5 i0 Tryz.underlying25 Tryz.underlying9 hi hz0 hz1 hz2 _ AL.length (bcs AL) rfl HA9.out.1 (bs tenL) rfl (by unfold maxLen; omega) (by omega) hB9 ?_; intro v10 w10 ho10 hg10 hn10)
      have HA10 : Hid (OwnB w10 w.heap.size v10 (AL ++ tenL) ∧ Below w.heap.size w w10) := by
        refine ⟨?_, grow_ok HA9.out.1 hg10 HA9.out.2 (Nat.le_refl _)⟩
        rw [HSC.out.2.1, htz] at ho10
        unfold OwnB; rw [bcs_app, List.length_append]; exact ho10
      clear ho10 hg10 hn10 HA9 hB9
      go_wp2_with (go_at_call 45; fail)
      refine (hP w10 (HS.out.2.1.below HA10.out.2)).mono ?_
      rintro e w11 ⟨rfl, hb11⟩
      have HA11 : Hid (OwnB w11 w.heap.size v10 (AL ++ tenL) ∧ Below w.heap.size w w11) := ⟨HA10.out.1.below hb11, HA10.out.2.trans (hb11.mono HA10.out.2.size)⟩
      clear hb11 HA10 hP
      have hB11 : w.heap.size ≤ w11.heap.size := HA11.out.2.size
      have hl11 : (AL ++ tenL).length ≤ 2051 := by rw [List.length_append]; have : tenL.length = 3 := rfl; omega
      go_upto_region 22 with (at_builtin; refine Lib.wpList_append_own_string _ rfl _ _ 25 9 rfl w.heap.size 5 i0 Tryz.underlying25 Tryz.underlying9 hi hz0 hz1 hz2 _ (AL ++ tenL).length (bcs (AL ++ tenL)) rfl HA11.out.1 (bs T3) rfl (by unfold maxLen; omega) (by omega) hB11 ?_; intro v12 w12 ho12 hg12 hn12)
      have HA12 : Hid (OwnB w12 w.heap.size v12 (AL ++ tenL ++ T3) ∧ Below w.heap.size w w12) := by
        refine ⟨?_, grow_ok HA11.out.1 hg12 HA11.out.2 (Nat.le_refl _)⟩
        rw [HPC.out, hpz] at ho12
        unfold OwnB; rw [bcs_app, List.length_append]; exact ho12
      clear ho12 hg12 hn12 HA11 hB11
      have hB12 : w.heap.size ≤ (w12.alloc (.cells #[.int .u8 1] 5)).heap.size := by have := HA12.out.2.size; simp; omega
      have hl12 : (AL ++ tenL ++ T3).length ≤ 2054 := by rw [List.length_append]; omega
      have hn12 := one_new w12 1
      go_wp2_with (at_builtin; refine wpList_append_own _ rfl _ _ 25 rfl w.heap.size 5 i0 (.int .u8 0) 1 1 Tryz.underlying25 hi hz0 hz1 hz2 rfl (by decide) _ (AL ++ tenL ++ T3).length (bcs (AL ++ tenL ++ T3)) rfl (World.ownsRow.alloc HA12.out.1 _) ⟨w12.heap.size, 0, none⟩ 1 1 [.int .u8 1] rfl rfl hn12 (fun x hx => by simp at hx; subst hx; rfl) (by unfold maxLen; omega) (by omega) hB12 ?_; intro v13 w13 ho13 hg13 hn13)
      have HA13 : Hid (OwnB w13 w.heap.size v13 CL ∧ Below w.heap.size w w13) := by
        have hb' : Below w.heap.size w (w12.alloc (.cells #[.int .u8 1] 5)) := HA12.out.2.alloc HA12.out.2.size _
        refine ⟨?_, grow_ok (World.ownsRow.alloc HA12.out.1 _) hg13 hb' (Nat.le_refl _)⟩
        rw [HC.out]
        unfold OwnB; rw [bcs_app, List.length_append]; exact ho13
      clear ho13 hg13 hn13
      go_ret2
      exact .good HJ.out HA13.out.2 rfl HA13.out.1
end Go.Proofs.YtchkpggdndnpjabGreatDoor

namespace Go.Proofs.YtchkpggdndnpjabGreatDoor
set_option linter.unusedVariables false
open Go.Shelf Go.RowKit Go.Sort Go.Lib

set_option maxRecDepth 100000 in
theorem numI_write (a : Addr) (x y : Int) (z : Int) (h0 : -9223372036854775808 ≤ z) (h1 : z ≤ 9223372036854775807) (w : World) (hc : w.cell? a = some (.int .i64 z)) (hp : Pow w) :
    Calls Tryz.prog 313 #[.agg #[.pointer (some a), .int .i64 x, .int .i64 y]] w fun e w' => e = .returned (.string ⟨(itoa z).toArray⟩) ∧ Below w.heap.size w w' := by
  have HB : Hid (Below w.heap.size w (w.alloc (.cells #[.pointer (some a), .int .i64 x, .int .i64 y] 150))) := (Below.refl _ w).alloc (Nat.le_refl _) _
  have hcl := cell_alloc hc (.cells #[.pointer (some a), .int .i64 x, .int .i64 y] 150)
  have hl := Print_any z h0 h1 _ (hp.below HB.out)
  clear hc hp
  go_enter Tryz.func313, Tryz.ntmps313
  go_wp2_with (go_at_call 42; fail)
  refine hl.mono ?_
  rintro e w2 ⟨rfl, hb2⟩
  have HB2 : Hid (Below w.heap.size w w2) := HB.out.trans (hb2.mono HB.out.size)
  clear hb2 hl
  go_wp2
  go_ret
  exact ⟨rfl, HB2.out⟩
set_option maxRecDepth 100000 in
theorem numL_write (a : Addr) (x y : Int) (z : Int) (h0 : -9223372036854775808 ≤ z) (h1 : z ≤ 9223372036854775807) (w : World) (hc : w.cell? a = some (.int .i64 z)) (hp : Pow w) :
    Calls Tryz.prog 371 #[.agg #[.pointer (some a), .int .i64 x, .int .i64 y]] w fun e w' => e = .returned (.string ⟨(itoa z).toArray⟩) ∧ Below w.heap.size w w' := by
  have HB : Hid (Below w.heap.size w (w.alloc (.cells #[.pointer (some a), .int .i64 x, .int .i64 y] 164))) := (Below.refl _ w).alloc (Nat.le_refl _) _
  have hcl := cell_alloc hc (.cells #[.pointer (some a), .int .i64 x, .int .i64 y] 164)
  have hl := Print_any z h0 h1 _ (hp.below HB.out)
  clear hc hp
  go_enter Tryz.func371, Tryz.ntmps371
  go_wp2_with (go_at_call 42; fail)
  refine hl.mono ?_
  rintro e w2 ⟨rfl, hb2⟩
  have HB2 : Hid (Below w.heap.size w w2) := HB.out.trans (hb2.mono HB.out.size)
  clear hb2 hl
  go_wp2
  go_ret
  exact ⟨rfl, HB2.out⟩
set_option maxRecDepth 100000 in
theorem date_write (a : Addr)  (z : Int) (h0 : -9223372036854775808 ≤ z) (h1 : z ≤ 9223372036854775807) (w : World) (hc : w.cell? a = some (.int .i64 z)) (hp : Pow w) :
    Calls Tryz.prog 374 #[.agg #[.pointer (some a)]] w fun e w' => e = .returned (.string ⟨(itoa z).toArray⟩) ∧ Below w.heap.size w w' := by
  have HB : Hid (Below w.heap.size w (w.alloc (.cells #[.pointer (some a)] 166))) := (Below.refl _ w).alloc (Nat.le_refl _) _
  have hcl := cell_alloc hc (.cells #[.pointer (some a)] 166)
  have hl := Print_any z h0 h1 _ (hp.below HB.out)
  clear hc hp
  go_enter Tryz.func374, Tryz.ntmps374
  go_wp2_with (go_at_call 42; fail)
  refine hl.mono ?_
  rintro e w2 ⟨rfl, hb2⟩
  have HB2 : Hid (Below w.heap.size w w2) := HB.out.trans (hb2.mono HB.out.size)
  clear hb2 hl
  go_wp2
  go_ret
  exact ⟨rfl, HB2.out⟩
set_option maxRecDepth 100000 in
theorem price_write (a : Addr)  (z : Int) (h0 : -9223372036854775808 ≤ z) (h1 : z ≤ 9223372036854775807) (w : World) (hc : w.cell? a = some (.int .i64 z)) (hp : Pow w) :
    Calls Tryz.prog 338 #[.agg #[.pointer (some a)]] w fun e w' => e = .returned (.string (ppB z)) ∧ Below w.heap.size w w' := by
  have HB : Hid (Below w.heap.size w (w.alloc (.cells #[.pointer (some a)] 162))) := (Below.refl _ w).alloc (Nat.le_refl _) _
  have hcl := cell_alloc hc (.cells #[.pointer (some a)] 162)
  have hl := PrintPrice_any z h0 h1 _ (hp.below HB.out)
  clear hc hp
  go_enter Tryz.func338, Tryz.ntmps338
  go_wp2_with (go_at_call 340; fail)
  refine hl.mono ?_
  rintro e w2 ⟨rfl, hb2⟩
  have HB2 : Hid (Below w.heap.size w w2) := HB.out.trans (hb2.mono HB.out.size)
  clear hb2 hl
  go_wp2
  go_ret
  exact ⟨rfl, HB2.out⟩
def stmB (s : ByteArray) (x : Int) : Bool := decide (psE s = 0) && decide (x ≤ psV s)
set_option maxRecDepth 100000 in
theorem stamp_read (a : Addr) (x z : Int) (s : ByteArray) (w : World) (hc : w.cell? a = some (.int .i64 z)) (hf : w.frozen? a = false) (hM : Mon w) :
    Calls Tryz.prog 317 #[.agg #[.pointer (some a), .int .i64 x], .string s] w fun e w' => e = .returned (.bool (stmB s x)) ∧ Wr (stmB s x) a (.int .i64 (psV s)) w w' := by
  have HB : Hid (Below w.heap.size w (w.alloc (.cells #[.pointer (some a), .int .i64 x] 156))) := (Below.refl _ w).alloc (Nat.le_refl _) _
  have h1 := ParseStamp_any s _ (hM.below HB.out hM.lt)
  have hcl := cell_alloc hc (.cells #[.pointer (some a), .int .i64 x] 156)
  have hfl := frozen_alloc hc hf (.cells #[.pointer (some a), .int .i64 x] 156)
  obtain ⟨R, hR⟩ : ∃ R, R = stmB s x := ⟨_, rfl⟩
  rw [← hR]
  unfold stmB at hR
  generalize psV s = N at *
  generalize psE s = E at *
  clear hc hf hM
  by_cases hE : E = 0
  · subst hE
    by_cases hx : N < x
    · have hd : decide (N < x) = true := decide_eq_true hx
      have HR : Hid (R = false) := by show _ = _; rw [hR]; simp; omega
      clear hR
      go_enter Tryz.func317, Tryz.ntmps317
      go_wp2_with (go_at_call 320; refine h1.mono ?_; rintro e w2 ⟨rfl, q, rfl⟩)
      go_ret
      exact ⟨ret_bool HR.out.symm, _, below_drewN HB.out _, by rw [HR.out]; rfl⟩
    · have hd : decide (N < x) = false := decide_eq_false hx
      have HR : Hid (R = true) := by show _ = _; rw [hR]; simp; omega
      clear hR
      go_enter Tryz.func317, Tryz.ntmps317
      go_wp2_with (go_at_call 320; refine h1.mono ?_; rintro e w2 ⟨rfl, q, rfl⟩)
      go_ret
      exact ⟨ret_bool HR.out.symm, _, below_drewN HB.out _, by rw [HR.out]; rfl⟩
  · have hd : (E != 0) = true := by simpa using hE
    have HR : Hid (R = false) := by show _ = _; rw [hR]; simp [hE]
    clear hE hR
    go_enter Tryz.func317, Tryz.ntmps317
    go_wp2_with (go_at_call 320; refine h1.mono ?_; rintro e w2 ⟨rfl, q, rfl⟩)
    go_ret
    exact ⟨ret_bool HR.out.symm, _, below_drewN HB.out _, by rw [HR.out]; rfl⟩
end Go.Proofs.YtchkpggdndnpjabGreatDoor
