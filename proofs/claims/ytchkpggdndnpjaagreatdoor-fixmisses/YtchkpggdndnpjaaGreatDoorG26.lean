import Derived.Test.YtchkpggdndnpjaaGreatDoorG25
import Derived.Lib.AppendStr

namespace Go.Proofs.YtchkpggdndnpjaaGreatDoor
set_option linter.unusedVariables false
open Go.RowKit

/-- The cells of bytes; bytes that the call has made. -/
def bcs (l : List UInt8) : List Value := l.map fun c => .int .u8 (c.toNat : Int)
theorem bcs_length (l : List UInt8) : (bcs l).length = l.length := by simp [bcs]
theorem bcs_app (a b : List UInt8) : bcs (a ++ b) = bcs a ++ bcs b := by simp [bcs]
theorem bcs_one (l : List UInt8) : ∀ u ∈ bcs l, u.oneCell' = true := by
  intro u hu
  unfold bcs at hu
  simp only [List.mem_map] at hu
  obtain ⟨c, _, rfl⟩ := hu
  rfl
theorem strCells_bs (l : List UInt8) : Lib.strCells (bs l) = bcs l := by
  unfold Lib.strCells bcs
  rfl
def OwnB (w : World) (B : Nat) (v : Value) (l : List UInt8) : Prop := w.ownsRow B 5 1 v l.length (bcs l)
theorem OwnB.below {w w' : World} {B : Nat} {v : Value} {l : List UInt8} (h : OwnB w B v l) (hb : Below w.heap.size w w') : OwnB w' B v l := ownsRow_below h hb
theorem OwnB.mono {w : World} {B B' : Nat} {v : Value} {l : List UInt8} (h : OwnB w B v l) (hb : B' ≤ B) : OwnB w B' v l := ownsRow_mono h hb
theorem OwnB.src {w : World} {B : Nat} {v : Value} {l : List UInt8} (h : OwnB w B v l) : SrcB w v l := by
  obtain ⟨h1, h2⟩ := h
  rcases h2 with ⟨rfl, h0⟩ | ⟨g, cap, cur, rfl, r1, r2, r3, r4, r5, r6⟩
  · have : l = [] := List.length_eq_zero_iff.1 h0
    subst this
    exact ⟨none, 0, rfl, Nat.le_refl _, .inl rfl⟩
  · refine ⟨_, cap, rfl, r3, .inr ⟨g, 0, rfl, fun j c hj => ?_⟩⟩
    have hjl : j < l.length := (List.getElem?_eq_some_iff.1 hj).1
    have e1 : (bcs l)[j]? = some (.int .u8 (c.toNat : Int)) := by unfold bcs; rw [List.getElem?_map, hj]; rfl
    rw [← r6, List.getElem?_take, if_pos (by omega)] at e1
    rw [Nat.zero_add, cell_of_row w g _ cur _ _ r2]; simpa using e1
/-- One step of append: the row and the frame. -/
theorem grow_ok {B : Nat} {w0 w w' : World} {v : Value} {n : Nat} {xs : List Value} (hown : w.ownsRow B 5 1 v n xs) (hg : w.grownBy w' v.ownBlock) (hb : Below B w0 w) (hB : B ≤ w0.heap.size) : Below B w0 w' :=
  hb.grown hg (Nat.le_trans hB hb.size) (fun k hk => (hown.lt k hk).1)
theorem one_new (w : World) (c : Int) : ∀ j u, ([.int .u8 c] : List Value)[j]? = some u → (w.alloc (.cells #[.int .u8 c] 5)).cell? ((⟨w.heap.size, 0, none⟩ : Addr).add j) = some u :=
  World.news_of_block (heap_alloc_new w (.cells #[.int .u8 c] 5))
theorem fldL_length (f : Fld) : (fldL f).length = (Lib.itoa f.1).length + f.2.length + 2 := by simp [fldL]; omega
theorem itoa_le (n : Int) (h0 : -9223372036854775808 ≤ n) (h1 : n ≤ 9223372036854775807) : (Lib.itoa n).length ≤ 21 := by
  have h : ∀ u : Nat, u < 18446744073709551616 → (Lib.decDigits u).length ≤ 20 := fun u hu => by
    by_cases h : 1 ≤ u
    · rw [Lib.decDigits_length]
      have := Lib.numDigits_eq u h hu; split at this <;> omega
    · rw [Lib.decDigits_one (by omega)]; simp
  unfold Lib.itoa
  split
  · have := h n.natAbs (by omega); simp; omega
  · have := h n.toNat (by omega); omega
theorem OwnB.ne_fld {w : World} {B g : Nat} {v : Value} {l : List UInt8} {t : Int} {V : ByteArray} (h : OwnB w B v l) (hf : FldAt w g t V) : v.ownBlock ≠ some g := by
  intro hk
  rcases h.2 with ⟨e, _⟩ | ⟨g', cap, cur, e, _, hg, _⟩
  · rw [e] at hk; cases hk
  · rw [e] at hk
    have e2 : g' = g := by simpa [Value.ownBlock] using hk
    subst e2
    unfold FldAt at hf
    rw [hf] at hg
    simp at hg
theorem FldAt.grown {w w' : World} {g : Nat} {t : Int} {V : ByteArray} {row : Option Nat} (h : FldAt w g t V) (hg : w.grownBy w' row) (hne : row ≠ some g) : FldAt w' g t V :=
  (hg.block g h.lt (fun e => hne e.symm)).trans h
set_option maxRecDepth 100000 in
set_option maxHeartbeats 400000 in
theorem appendField_any (B : Nat) (v : Value) (l : List UInt8) (f : Fld) (w0 w : World) (hown : OwnB w B v l) (hb : Below B w0 w) (hB : B ≤ w0.heap.size) (hp : Pow w) (h0 : -9223372036854775808 ≤ f.1) (h1 : f.1 ≤ 9223372036854775807) (hl : l.length ≤ 1048576) (hf : f.2.length ≤ 1048576) :
    Calls Tryz.prog 38 #[v, .agg #[.int .i64 f.1, .string (bs f.2)]] w fun e w' => ∃ v', e = .returned v' ∧ OwnB w' B v' (l ++ fldL f) ∧ Below B w0 w' := by
  obtain ⟨t, V⟩ := f
  obtain ⟨i0, hi, hz0, hz1, hz2⟩ := info_parts info5
  have hil := itoa_le t h0 h1
  have hb1 : Below w.heap.size w (w.alloc (.cells #[.int .i64 t, .string (bs V)] 51)) := (Below.refl _ w).alloc (Nat.le_refl _) _
  have hP := Print_any t h0 h1 (w.alloc (.cells #[.int .i64 t, .string (bs V)] 51)) (hp.below hb1)
  have hbs : (⟨(Lib.itoa t).toArray⟩ : ByteArray) = bs (Lib.itoa t) := rfl
  rw [hbs] at hP
  have hfa : FldAt (w.alloc (.cells #[.int .i64 t, .string (bs V)] 51)) w.heap.size t (bs V) := heap_alloc_new w _
  have HS : Hid (OwnB w B v l ∧ Below B w0 w) := ⟨hown, hb⟩
  have hwB : B ≤ w.heap.size := Nat.le_trans hB hb.size
  clear hown hb hp
  show Calls Tryz.prog 38 #[v, .agg #[.int .i64 t, .string (bs V)]] w fun e w' => ∃ v', e = .returned v' ∧ OwnB w' B v' (l ++ fldL (t, V)) ∧ Below B w0 w'
  have HFL : Hid (fldL (t, V) = Lib.itoa t ++ ([61] : List UInt8) ++ V ++ ([1] : List UInt8)) := rfl
  generalize fldL (t, V) = FL at *
  have hV : V.length ≤ 1048576 := hf
  have hsV := bs_size V
  have hsI := bs_size (Lib.itoa t)
  have HcV := strCells_bs V
  have HcI := strCells_bs (Lib.itoa t)
  generalize Lib.itoa t = I at *
  have HVC : Hid (Lib.strCells (bs V) = bcs V ∧ Lib.strCells (bs I) = bcs I) := ⟨HcV, HcI⟩
  clear HcV HcI hf
  go_enter Tryz.func38, Tryz.ntmps38
  go_wp2_with (go_at_call 37; fail)
  refine hP.mono ?_
  rintro e w1 ⟨rfl, hb2⟩
  have HA1 : Hid (OwnB w1 B v l ∧ Below B w0 w1 ∧ FldAt w1 w.heap.size t (bs V)) := ⟨ownsRow_below (World.ownsRow.alloc HS.out.1 _) hb2, HS.out.2.trans ((hb1.trans (hb2.mono hb1.size)).mono hwB), hfa.below hb2 (by simp)⟩
  have hwB1 : B ≤ w1.heap.size := Nat.le_trans hB HA1.out.2.1.size
  clear hb2 hb1 hfa HS hP
  go_upto_region 2 with (at_builtin; refine Lib.wpList_append_own_string _ rfl _ _ 22 9 rfl B 5 i0 Tryz.underlying22 Tryz.underlying9 hi hz0 hz1 hz2 _ l.length (bcs l) rfl HA1.out.1 (bs I) rfl (by unfold maxLen; omega) (by omega) hwB1 ?_; intro v2 w2 ho2 hg2 hn2)
  have HA2 : Hid (OwnB w2 B v2 (l ++ I) ∧ Below B w0 w2 ∧ FldAt w2 w.heap.size t (bs V)) := by
    refine ⟨?_, grow_ok HA1.out.1 hg2 HA1.out.2.1 hB, HA1.out.2.2.grown hg2 (HA1.out.1.ne_fld HA1.out.2.2)⟩
    rw [HVC.out.2, hsI] at ho2
    unfold OwnB; rw [bcs_app, List.length_append]; exact ho2
  clear ho2 hg2 hn2 HA1 hwB1
  have hwB2 : B ≤ (w2.alloc (.cells #[.int .u8 61] 5)).heap.size := by have := HA2.out.2.1.size; simp; omega
  have hl2 : (l ++ I).length ≤ 1048600 := by simp; omega
  have hn2 := one_new w2 61
  go_upto_region 3 with (at_builtin; refine wpList_append_own _ rfl _ _ 22 rfl B 5 i0 (.int .u8 0) 1 1 Tryz.underlying22 hi hz0 hz1 hz2 rfl (by decide) _ (l ++ I).length (bcs (l ++ I)) rfl (World.ownsRow.alloc HA2.out.1 _) ⟨w2.heap.size, 0, none⟩ 1 1 [.int .u8 61] rfl rfl hn2 (fun x hx => by simp at hx; subst hx; rfl) (by unfold maxLen; omega) (by omega) hwB2 ?_; intro v3 w3 ho3 hg3 hn3)
  have HA3 : Hid (OwnB w3 B v3 (l ++ I ++ ([61] : List UInt8)) ∧ Below B w0 w3 ∧ FldAt w3 w.heap.size t (bs V)) := by
    have hb' : Below B w0 (w2.alloc (.cells #[.int .u8 61] 5)) := HA2.out.2.1.alloc (Nat.le_trans hB HA2.out.2.1.size) _
    have ho' : OwnB (w2.alloc (.cells #[.int .u8 61] 5)) B v2 (l ++ I) := World.ownsRow.alloc HA2.out.1 _
    have hf' : FldAt (w2.alloc (.cells #[.int .u8 61] 5)) w.heap.size t (bs V) := HA2.out.2.2.below ((Below.refl _ w2).alloc (Nat.le_refl _) _) HA2.out.2.2.lt
    refine ⟨?_, grow_ok ho' hg3 hb' hB, hf'.grown hg3 (ho'.ne_fld hf')⟩
    unfold OwnB; rw [bcs_app, List.length_append]; exact ho3
  clear ho3 hg3 hn3 hn2 HA2 hwB2 hl2
  have hwB3 : B ≤ w3.heap.size := Nat.le_trans hB HA3.out.2.1.size
  have hl3 : (l ++ I ++ ([61] : List UInt8)).length ≤ 1048601 := by simp; omega
  have c1 := HA3.out.2.2.cell1
  go_upto_region 4 with (at_builtin; refine Lib.wpList_append_own_string _ rfl _ _ 22 9 rfl B 5 i0 Tryz.underlying22 Tryz.underlying9 hi hz0 hz1 hz2 _ (l ++ I ++ ([61] : List UInt8)).length (bcs (l ++ I ++ ([61] : List UInt8))) rfl HA3.out.1 (bs V) rfl (by unfold maxLen; omega) (by omega) hwB3 ?_; intro v4 w4 ho4 hg4 hn4)
  have HA4 : Hid (OwnB w4 B v4 (l ++ I ++ ([61] : List UInt8) ++ V) ∧ Below B w0 w4) := by
    refine ⟨?_, grow_ok HA3.out.1 hg4 HA3.out.2.1 hB⟩
    rw [HVC.out.1, hsV] at ho4
    unfold OwnB; rw [bcs_app, List.length_append]; exact ho4
  clear ho4 hg4 hn4 HA3 hwB3 hl3 c1
  have hwB4 : B ≤ (w4.alloc (.cells #[.int .u8 1] 5)).heap.size := by have := HA4.out.2.size; simp; omega
  have hl4 : (l ++ I ++ ([61] : List UInt8) ++ V).length ≤ 2097300 := by simp; omega
  have hn4 := one_new w4 1
  go_wp2_with (at_builtin; refine wpList_append_own _ rfl _ _ 22 rfl B 5 i0 (.int .u8 0) 1 1 Tryz.underlying22 hi hz0 hz1 hz2 rfl (by decide) _ (l ++ I ++ ([61] : List UInt8) ++ V).length (bcs (l ++ I ++ ([61] : List UInt8) ++ V)) rfl (World.ownsRow.alloc HA4.out.1 _) ⟨w4.heap.size, 0, none⟩ 1 1 [.int .u8 1] rfl rfl hn4 (fun x hx => by simp at hx; subst hx; rfl) (by unfold maxLen; omega) (by omega) hwB4 ?_; intro v5 w5 ho5 hg5 hn5)
  have HA5 : Hid (OwnB w5 B v5 (l ++ FL) ∧ Below B w0 w5) := by
    have hb' : Below B w0 (w4.alloc (.cells #[.int .u8 1] 5)) := HA4.out.2.alloc (Nat.le_trans hB HA4.out.2.size) _
    refine ⟨?_, grow_ok (World.ownsRow.alloc HA4.out.1 _) hg5 hb' hB⟩
    rw [HFL.out, show l ++ (I ++ ([61] : List UInt8) ++ V ++ ([1] : List UInt8)) = (l ++ I ++ ([61] : List UInt8) ++ V) ++ ([1] : List UInt8) by simp]
    unfold OwnB; rw [bcs_app, List.length_append]; exact ho5
  clear ho5 hg5 hn5
  go_ret
  exact ⟨v5, rfl, HA5.out.1, HA5.out.2⟩
end Go.Proofs.YtchkpggdndnpjaaGreatDoor

namespace Go.Proofs.YtchkpggdndnpjaaGreatDoor
set_option linter.unusedVariables false
open Go.RowKit

theorem bodyB_snoc (fs : List Fld) (k : Nat) (h : k < fs.length) : bodyB (fs.take (k + 1)) = bodyB (fs.take k) ++ fldL fs[k] := by
  rw [List.take_succ_eq_append_getElem h]
  unfold bodyB
  rw [List.flatMap_append]
  simp only [List.flatMap_cons, List.flatMap_nil, List.append_nil]
theorem bodyB_le (fs : List Fld) (k : Nat) : (bodyB (fs.take k)).length ≤ (bodyB fs).length := by
  conv => rhs; rw [← List.take_append_drop k fs]
  unfold bodyB
  rw [List.flatMap_append, List.length_append]; omega
/-- Tags that a number of 64 bits can be. -/
def okT (fs : List Fld) : Prop := ∀ f ∈ fs, -9223372036854775808 ≤ f.1 ∧ f.1 ≤ 9223372036854775807
set_option maxRecDepth 100000 in
set_option maxHeartbeats 400000 in
theorem bodySize_any (v : Value) (fs : List Fld) (w : World) (hs : SrcF w v fs) (hp : Pow w) (ht : okT fs) (hsz : (bodyB fs).length ≤ 1099511627776) (hn : fs.length ≤ 1099511627776) :
    Calls Tryz.prog 36 #[v] w fun e w' => e = .returned (.int .i64 ((bodyB fs).length : Int)) ∧ Below w.heap.size w w' := by
  have HS : Hid (SrcF w v fs ∧ Pow w ∧ okT fs) := ⟨hs, hp, ht⟩
  obtain ⟨ao, cap, rfl, hc, _⟩ := hs
  clear hp ht
  go_enter Tryz.func36, Tryz.ntmps36
  go_wp2
  go_loopw [3, 5, 8] (fun z _ i wr => ∃ k : Nat, k ≤ fs.length ∧ i = .int .i64 k ∧ z = .int .i64 ((bodyB (fs.take k)).length : Int) ∧ Below w.heap.size w wr) (fun _ _ i _ => fs.length - (intOf i).toNat)
  case atStart => exact ⟨0, Nat.zero_le _, rfl, rfl, Below.refl _ _⟩
  case round =>
    obtain ⟨k, hk, rfl, rfl, hb⟩ := hrel
    have HA : Hid (Below w.heap.size w wr) := hb
    clear hb
    by_cases hlt : k < fs.length
    · have hlt' : (k : Int) < (fs.length : Int) := by omega
      have hfk : fs[k]? = some fs[k] := List.getElem?_eq_getElem hlt
      obtain ⟨ao', cap', e1, _, h0 | ⟨b, off, e2, hcell⟩⟩ := HS.out.1.below HA.out
      · rw [h0] at hlt; simp at hlt
      injection e1 with e1 _ e3
      subst e1 e2 e3
      obtain ⟨c0, c1⟩ := hcell k _ hfk
      have htk := HS.out.2.2 fs[k] (List.getElem_mem hlt)
      have hle := bodyB_le fs (k + 1)
      have HX : Hid ((bodyB (fs.take (k + 1))).length = (bodyB (fs.take k)).length + (fldL fs[k]).length) := by
        show List.length _ = _
        rw [bodyB_snoc fs k hlt, List.length_append]
      have hfl := fldL_length fs[k]
      have hle2 : (bodyB (fs.take k)).length + (fldL fs[k]).length ≤ 1099511627776 := by rw [← HX.out]; omega
      clear hle hcell hfk
      generalize fs[k] = g at *
      obtain ⟨t, V⟩ := g
      simp only at hfl htk
      have hP := fun w' hw' => Print_any t htk.1 htk.2 w' hw'
      have hbs : (⟨(Lib.itoa t).toArray⟩ : ByteArray) = bs (Lib.itoa t) := rfl
      have hbz := bs_size (Lib.itoa t)
      have hvz := bs_size V
      generalize (bodyB (fs.take k)).length = n at *
      generalize (fldL (t, V)).length = m at *
      rw [hbs] at hP
      generalize Lib.itoa t = I at *
      clear hbs
      go_upto_region 5 with fail
      have HF : Hid (FldAt (wr.alloc (.cells #[.int .i64 t, .string (bs V)] 51)) wr.heap.size t (bs V) ∧ Below w.heap.size w (wr.alloc (.cells #[.int .i64 t, .string (bs V)] 51))) := ⟨heap_alloc_new wr _, HA.out.alloc HA.out.size _⟩
      clear c0 c1
      generalize wr.heap.size = G at *
      generalize wr.alloc (.cells #[.int .i64 t, .string (bs V)] 51) = w1 at *
      have HK : Hid (∀ w', Below w1.heap.size w1 w' → w'.cell? ⟨G, 0, none⟩ = some (.int .i64 t) ∧ w'.cell? ⟨G, 1, none⟩ = some (.string (bs V))) := fun w' hb => by
        have := HF.out.1.below hb HF.out.1.lt
        exact ⟨this.cell0, this.cell1⟩
      have HPw : Hid (∀ w', Below w1.heap.size w1 w' → Calls Tryz.prog 37 #[.int .i64 t] w' fun e w2 => e = .returned (.string (bs I)) ∧ Below w'.heap.size w' w2) := fun w' hb => hP w' ((HS.out.2.1.below HF.out.2).below hb)
      clear hP
      have hB1 : Below w1.heap.size w1 w1.drew := (Below.refl _ w1).drew
      go_region_held (fun w' => Below w1.heap.size w1 w' ∧ w'.cell? ⟨G, 0, none⟩ = some (.int .i64 t) ∧ w'.cell? ⟨G, 1, none⟩ = some (.string (bs V))) (first | exact ⟨hB2, HK.out _ hB2⟩ | exact ⟨hB1, HK.out _ hB1⟩) (first | (go_at_call 37; refine (HPw.out _ hB1).mono ?_; rintro e w2 ⟨rfl, hb2⟩; have hB2 : Below w1.heap.size w1 w2 := hB1.trans (hb2.mono hB1.size); clear hb2))
      have hw1 : IntKind.i64.wrap ((I.length : Int) + (V.length : Int)) = (I.length : Int) + (V.length : Int) := by rw [IntKind.wrap_i64]; omega
      have hw2 : IntKind.i64.wrap ((I.length : Int) + (V.length : Int) + 2) = (I.length : Int) + (V.length : Int) + 2 := by rw [IntKind.wrap_i64]; omega
      have hw3 : IntKind.i64.wrap ((n : Int) + ((I.length : Int) + (V.length : Int) + 2)) = (n : Int) + ((I.length : Int) + (V.length : Int) + 2) := by rw [IntKind.wrap_i64]; omega
      simp only [hw1, hw2, hw3]
      clear hw1 hw2 hw3
      have HB2 : Hid (Below w.heap.size w w2) := HF.out.2.trans (hB2.mono HF.out.2.size)
      go_wp2
      refine ⟨⟨k + 1, by omega, by go_num, vint ?_, HB2.out⟩, by simp [intOf]; omega⟩
      rw [HX.out]; omega
    · have e : k = fs.length := by omega
      subst e
      rw [List.take_length]
      go_wp2
      go_ret
      exact ⟨rfl, HA.out⟩
end Go.Proofs.YtchkpggdndnpjaaGreatDoor
