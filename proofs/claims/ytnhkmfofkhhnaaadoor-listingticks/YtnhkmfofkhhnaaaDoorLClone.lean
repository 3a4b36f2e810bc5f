/-
  listing: slices.Clone over steps and turns; copied.
-/
import Derived.Test.YtnhkmfofkhhnaaaDoorLStep
import Derived.Deep.RegionWith
import Derived.Deep.RegionHeld
import Derived.Deep.DeepCutAuto
namespace Go.Proofs.YtnhkmfofkhhnaaaDoor
set_option linter.unusedVariables false
open Go.Shelf Go.RowKit Go.Sort Go.Lib

theorem eql_nilS (a : Option Addr) (l c : Nat) (W : World) : (binOp .eql 28 (.slice a l c) (.slice none 0 0)).run Tryd.prog W = .ok (.bool a.isNone) W := by
  simp [binOp, run_equal_slice_nil (P := Tryd.prog) W 28 55 a l c Tryd.underlying28]
theorem eql_nilT (a : Option Addr) (l c : Nat) (W : World) : (binOp .eql 29 (.slice a l c) (.slice none 0 0)).run Tryd.prog W = .ok (.bool a.isNone) W := by
  simp [binOp, run_equal_slice_nil (P := Tryd.prog) W 29 35 a l c Tryd.underlying29]
theorem SrcT.news {w : World} {ad : Addr} {n cap : Nat} {l : List (Int × Int)} (h : SrcT w (.slice (some ad) n cap) l) : ∀ W, Below w.heap.size w W → ∀ j u, (tcs l)[j]? = some u → W.cell? (ad.add j) = some u := fun W hb j u e => by
  obtain ⟨ao, cap', ev, hc, hcl⟩ := h
  injection ev with ev e2 e3
  rcases hcl with h | ⟨b, off, ea, hr⟩
  · subst h; simp [tcs] at e
  · rw [← ev] at ea
    injection ea with ea
    subst ea
    rw [addr_add]
    have hjl : j < l.length * 2 := by rw [← tcs_length]; exact (List.getElem?_eq_some_iff.1 e).1
    have hj2 : j / 2 < l.length := by omega
    obtain ⟨c1, c2⟩ := hr (j / 2) hj2
    obtain ⟨d1, d2⟩ := tcs_at l (j / 2) hj2
    have hlt : b < w.heap.size := World.block_lt_of_cell? _ _ c1
    rw [hb.cell (p := ⟨b, _, none⟩) hlt]
    by_cases hm : j % 2 = 0
    · have ej : j / 2 * 2 = j := by omega
      rw [ej] at c1 d1
      rw [c1, ← e, d1]
    · have ej : j / 2 * 2 + 1 = j := by omega
      rw [ej] at d2
      rw [show off + j / 2 * 2 + 1 = off + j by omega] at c2
      rw [c2, ← e, d2]
set_option maxRecDepth 100000 in
set_option maxHeartbeats 400000 in
theorem CloneS_any (v : Value) (l : List (Int × Int)) (w : World) (hs : SrcT w v l) (hn : l.length ≤ 8796093022208) :
    Calls Tryd.prog 51 #[v] w fun e w' => ∃ u, e = .returned u ∧ OwnT 55 w' w.heap.size u l ∧ Below w.heap.size w w' := by
  obtain ⟨i0, hi, hz0, hz1, hz2⟩ := info_parts infoS
  have HS : Hid (SrcT w v l) := hs
  obtain ⟨ao, cap, rfl, hc, hcl⟩ := hs
  cases ao with
  | none =>
    have h0 : l = [] := by
      rcases hcl with h | ⟨b, off, e, _⟩
      · exact h
      · cases e
    subst h0
    clear hcl
    have hen := eql_nilS none 0 cap
    simp only [Option.isNone_none] at hen
    go_enter Tryd.func51, Tryd.ntmps51
    go_wp2
    go_ret
    exact ⟨.slice none 0 0, rfl, OwnT.nil _ _ _, Below.refl _ _⟩
  | some ad =>
    have HNW : Hid (∀ W, Below w.heap.size w W → ∀ j u, (tcs l)[j]? = some u → W.cell? (ad.add j) = some u) := HS.out.news
    clear hcl
    have hb0 : Below w.heap.size w (w.alloc (.cells #[] 55)) := (Below.refl _ w).alloc (Nat.le_refl _) _
    have HB0 : Hid (Below w.heap.size w (w.alloc (.cells #[] 55))) := hb0
    have hfl := tcs_length l
    clear hb0
    have hen := eql_nilS (some ad) l.length cap
    simp only [Option.isNone_some] at hen
    go_enter Tryd.func51, Tryd.ntmps51
    go_wp2_with (at_builtin; refine wpList_append_own _ rfl _ _ 28 rfl w.heap.size 55 i0 (.agg #[.int .i64 0, .int .i64 0]) 2 16 Tryd.underlying28 hi hz0 hz1 hz2 rfl (by decide) _ 0 [] rfl (World.ownsRow_lit w #[] 0 (Nat.le_refl _) (Nat.zero_le _) rfl) ad l.length cap (tcs l) rfl hfl (HNW.out _ HB0.out) (tcs_one _) (by unfold maxLen; omega) (by omega) (by simp) ?_; intro v2 w2 ho2 hg2 hn2)
    have ho3 : OwnT 55 w2 w.heap.size v2 l := by
      unfold OwnT
      rw [Nat.zero_add, List.nil_append] at ho2
      exact ho2
    have hg3 : (w.alloc (.cells #[] 55)).grownBy w2 (some w.heap.size) := hg2
    have hb3 : Below w.heap.size w w2 := Below.grown HB0.out hg3 (by simp) (fun q hq => by injection hq with hq; omega)
    have HF : Hid (OwnT 55 w2 w.heap.size v2 l ∧ Below w.heap.size w w2) := ⟨ho3, hb3⟩
    go_ret
    exact ⟨v2, rfl, HF.out.1, HF.out.2⟩
set_option maxRecDepth 100000 in
set_option maxHeartbeats 400000 in
theorem CloneT_any (v : Value) (l : List (Int × Int)) (w : World) (hs : SrcT w v l) (hn : l.length ≤ 8796093022208) :
    Calls Tryd.prog 52 #[v] w fun e w' => ∃ u, e = .returned u ∧ OwnT 35 w' w.heap.size u l ∧ Below w.heap.size w w' := by
  obtain ⟨i0, hi, hz0, hz1, hz2⟩ := info_parts infoT
  have HS : Hid (SrcT w v l) := hs
  obtain ⟨ao, cap, rfl, hc, hcl⟩ := hs
  cases ao with
  | none =>
    have h0 : l = [] := by
      rcases hcl with h | ⟨b, off, e, _⟩
      · exact h
      · cases e
    subst h0
    clear hcl
    have hen := eql_nilT none 0 cap
    simp only [Option.isNone_none] at hen
    go_enter Tryd.func52, Tryd.ntmps52
    go_wp2
    go_ret
    exact ⟨.slice none 0 0, rfl, OwnT.nil _ _ _, Below.refl _ _⟩
  | some ad =>
    have HNW : Hid (∀ W, Below w.heap.size w W → ∀ j u, (tcs l)[j]? = some u → W.cell? (ad.add j) = some u) := HS.out.news
    clear hcl
    have hb0 : Below w.heap.size w (w.alloc (.cells #[] 35)) := (Below.refl _ w).alloc (Nat.le_refl _) _
    have HB0 : Hid (Below w.heap.size w (w.alloc (.cells #[] 35))) := hb0
    have hfl := tcs_length l
    clear hb0
    have hen := eql_nilT (some ad) l.length cap
    simp only [Option.isNone_some] at hen
    go_enter Tryd.func52, Tryd.ntmps52
    go_wp2_with (at_builtin; refine wpList_append_own _ rfl _ _ 29 rfl w.heap.size 35 i0 (.agg #[.int .i64 0, .int .i64 0]) 2 16 Tryd.underlying29 hi hz0 hz1 hz2 rfl (by decide) _ 0 [] rfl (World.ownsRow_lit w #[] 0 (Nat.le_refl _) (Nat.zero_le _) rfl) ad l.length cap (tcs l) rfl hfl (HNW.out _ HB0.out) (tcs_one _) (by unfold maxLen; omega) (by omega) (by simp) ?_; intro v2 w2 ho2 hg2 hn2)
    have ho3 : OwnT 35 w2 w.heap.size v2 l := by
      unfold OwnT
      rw [Nat.zero_add, List.nil_append] at ho2
      exact ho2
    have hg3 : (w.alloc (.cells #[] 35)).grownBy w2 (some w.heap.size) := hg2
    have hb3 : Below w.heap.size w w2 := Below.grown HB0.out hg3 (by simp) (fun q hq => by injection hq with hq; omega)
    have HF : Hid (OwnT 35 w2 w.heap.size v2 l ∧ Below w.heap.size w w2) := ⟨ho3, hb3⟩
    go_ret
    exact ⟨v2, rfl, HF.out.1, HF.out.2⟩
/-- An instrument. -/
structure Ins where
  sym : ByteArray
  lot : Int
  most : Int
  steps : List (Int × Int)
  band : Int
  ref : Int
  turns : List (Int × Int)
  maker : Int
  taker : Int
/-- Its cells, its lists lying there and there. -/
def Ins.cs (I : Ins) (vS vT : Value) : Array Value := #[.string I.sym, .int .i64 I.lot, .int .i64 I.most, vS, .int .i64 I.band, .int .i64 I.ref, vT, .int .i64 I.maker, .int .i64 I.taker]
set_option maxRecDepth 100000 in
set_option maxHeartbeats 1000000 in
theorem copied_any (I : Ins) (vS vT : Value) (w : World) (hS : SrcT w vS I.steps) (hT : SrcT w vT I.turns) (hn : I.steps.length ≤ 8796093022208) (hm : I.turns.length ≤ 8796093022208) :
    Calls Tryd.prog 24 #[.agg (I.cs vS vT)] w fun e w' => ∃ uS uT, e = .returned (.agg (I.cs uS uT)) ∧ OwnT 55 w' w.heap.size uS I.steps ∧ OwnT 35 w' w.heap.size uT I.turns ∧ Below w.heap.size w w' := by
  have HS : Hid (SrcT w vS I.steps ∧ SrcT w vT I.turns) := ⟨hS, hT⟩
  clear hS hT
  obtain ⟨sym, lot, most, steps, band, ref, turns, maker, taker⟩ := I
  simp only [Ins.cs] at *
  have hc1 : ∀ w', Below w.heap.size w w' → Calls Tryd.prog 51 #[vS] w' fun e w2 => ∃ u, e = .returned u ∧ OwnT 55 w2 w'.heap.size u steps ∧ Below w'.heap.size w' w2 := fun w' hb => CloneS_any _ _ _ (HS.out.1.below hb) hn
  have hc2 : ∀ w', Below w.heap.size w w' → Calls Tryd.prog 52 #[vT] w' fun e w2 => ∃ u, e = .returned u ∧ OwnT 35 w2 w'.heap.size u turns ∧ Below w'.heap.size w' w2 := fun w' hb => CloneT_any _ _ _ (HS.out.2.below hb) hm
  have HC : Hid ((∀ w', Below w.heap.size w w' → Calls Tryd.prog 51 #[vS] w' fun e w2 => ∃ u, e = .returned u ∧ OwnT 55 w2 w'.heap.size u steps ∧ Below w'.heap.size w' w2) ∧ (∀ w', Below w.heap.size w w' → Calls Tryd.prog 52 #[vT] w' fun e w2 => ∃ u, e = .returned u ∧ OwnT 35 w2 w'.heap.size u turns ∧ Below w'.heap.size w' w2)) := ⟨hc1, hc2⟩
  clear hc1 hc2
  go_enter Tryd.func24, Tryd.ntmps24
  go_wp2_with fail
  have hw0 : Blk ((w.alloc (.cells #[.string sym, .int .i64 lot, .int .i64 most, vS, .int .i64 band, .int .i64 ref, vT, .int .i64 maker, .int .i64 taker] 31)).alloc (.cells #[.string ⟨#[]⟩, .int .i64 0, .int .i64 0, .slice none 0 0, .int .i64 0, .int .i64 0, .slice none 0 0, .int .i64 0, .int .i64 0] 31)) w.heap.size 31 #[.string sym, .int .i64 lot, .int .i64 most, vS, .int .i64 band, .int .i64 ref, vT, .int .i64 maker, .int .i64 taker] ∧ Blk ((w.alloc (.cells #[.string sym, .int .i64 lot, .int .i64 most, vS, .int .i64 band, .int .i64 ref, vT, .int .i64 maker, .int .i64 taker] 31)).alloc (.cells #[.string ⟨#[]⟩, .int .i64 0, .int .i64 0, .slice none 0 0, .int .i64 0, .int .i64 0, .slice none 0 0, .int .i64 0, .int .i64 0] 31)) (w.heap.size + 1) 31 #[.string ⟨#[]⟩, .int .i64 0, .int .i64 0, .slice none 0 0, .int .i64 0, .int .i64 0, .slice none 0 0, .int .i64 0, .int .i64 0] ∧ Below w.heap.size w ((w.alloc (.cells #[.string sym, .int .i64 lot, .int .i64 most, vS, .int .i64 band, .int .i64 ref, vT, .int .i64 maker, .int .i64 taker] 31)).alloc (.cells #[.string ⟨#[]⟩, .int .i64 0, .int .i64 0, .slice none 0 0, .int .i64 0, .int .i64 0, .slice none 0 0, .int .i64 0, .int .i64 0] 31)) := ⟨(Blk.new _ _ _).alloc _, Blk.new' _ _ _ (by simp), ((Below.refl _ w).alloc (Nat.le_refl _) _).alloc (by simp) _⟩
  generalize ((w.alloc (.cells #[.string sym, .int .i64 lot, .int .i64 most, vS, .int .i64 band, .int .i64 ref, vT, .int .i64 maker, .int .i64 taker] 31)).alloc (.cells #[.string ⟨#[]⟩, .int .i64 0, .int .i64 0, .slice none 0 0, .int .i64 0, .int .i64 0, .slice none 0 0, .int .i64 0, .int .i64 0] 31)) = W0 at *
  have H0 : Hid (Blk W0 w.heap.size 31 #[.string sym, .int .i64 lot, .int .i64 most, vS, .int .i64 band, .int .i64 ref, vT, .int .i64 maker, .int .i64 taker] ∧ Blk W0 (w.heap.size + 1) 31 #[.string ⟨#[]⟩, .int .i64 0, .int .i64 0, .slice none 0 0, .int .i64 0, .int .i64 0, .slice none 0 0, .int .i64 0, .int .i64 0] ∧ Below w.heap.size w W0) := hw0
  have q3 : W0.cell? ⟨w.heap.size, 3, none⟩ = some vS := hw0.1.cell 3
  have q6 : W0.cell? ⟨w.heap.size, 6, none⟩ = some vT := hw0.1.cell 6
  have HD : Hid (Below W0.heap.size W0 W0.drew) := below_drewN (Below.refl _ W0) 1
  clear hw0
  go_region_with (first
    | (go_at_call 51; refine (HC.out.1 _ (H0.out.2.2.trans (HD.out.mono H0.out.2.2.size))).mono ?_; rintro e w2 ⟨u2, rfl, ho2, hb2'⟩; obtain ⟨a2, c2, rfl⟩ := ho2.form; have hb2 : Below W0.heap.size W0 w2 := HD.out.trans hb2'; clear hb2'; have H2 : Hid (OwnT 55 w2 (w.heap.size + 2) (.slice a2 steps.length c2) steps ∧ Blk w2 w.heap.size 31 #[.string sym, .int .i64 lot, .int .i64 most, vS, .int .i64 band, .int .i64 ref, vT, .int .i64 maker, .int .i64 taker] ∧ Blk w2 (w.heap.size + 1) 31 #[.string ⟨#[]⟩, .int .i64 0, .int .i64 0, .slice none 0 0, .int .i64 0, .int .i64 0, .slice none 0 0, .int .i64 0, .int .i64 0] ∧ Below w.heap.size w w2 ∧ Below W0.heap.size W0 w2) := ⟨ho2.mono H0.out.2.1.lt, H0.out.1.below hb2 H0.out.1.lt, H0.out.2.1.below hb2 H0.out.2.1.lt, H0.out.2.2.trans (hb2.mono H0.out.2.2.size), hb2⟩; clear ho2 hb2; have r6 : w2.cell? ⟨w.heap.size, 6, none⟩ = some vT := H2.out.2.1.cell 6)
    | (go_at_call 52; refine (HC.out.2 _ H2.out.2.2.2.1).mono ?_; rintro e w3 ⟨u3, rfl, ho3, hb3⟩; obtain ⟨a3, c3, rfl⟩ := ho3.form; have H3 : Hid (OwnT 55 w3 (w.heap.size + 2) (.slice a2 steps.length c2) steps ∧ OwnT 35 w3 (w.heap.size + 2) (.slice a3 turns.length c3) turns ∧ Blk w3 w.heap.size 31 #[.string sym, .int .i64 lot, .int .i64 most, vS, .int .i64 band, .int .i64 ref, vT, .int .i64 maker, .int .i64 taker] ∧ Blk w3 (w.heap.size + 1) 31 #[.string ⟨#[]⟩, .int .i64 0, .int .i64 0, .slice none 0 0, .int .i64 0, .int .i64 0, .slice none 0 0, .int .i64 0, .int .i64 0] ∧ Below w.heap.size w w3) := ⟨H2.out.1.below hb3, ho3.mono H2.out.2.2.1.lt, H2.out.2.1.below hb3 H2.out.2.1.lt, H2.out.2.2.1.below hb3 H2.out.2.2.1.lt, H2.out.2.2.2.1.trans (hb3.mono H2.out.2.2.2.1.size)⟩; clear ho3 hb3; have s3 : w3.cell? ⟨w.heap.size, 3, none⟩ = some vS := H3.out.2.2.1.cell 3; have s6 : w3.cell? ⟨w.heap.size, 6, none⟩ = some vT := H3.out.2.2.1.cell 6; have z3 : w3.frozen? ⟨w.heap.size, 3, none⟩ = false := H3.out.2.2.1.frozen 3; have z6 : w3.frozen? ⟨w.heap.size, 6, none⟩ = false := H3.out.2.2.1.frozen 6))
  all_goals
    have hw4 : OwnT 55 ((w3.setCell ⟨w.heap.size, 3, none⟩ (.slice a2 steps.length c2)).setCell ⟨w.heap.size, 6, none⟩ (.slice a3 turns.length c3)) (w.heap.size + 2) (.slice a2 steps.length c2) steps ∧ OwnT 35 ((w3.setCell ⟨w.heap.size, 3, none⟩ (.slice a2 steps.length c2)).setCell ⟨w.heap.size, 6, none⟩ (.slice a3 turns.length c3)) (w.heap.size + 2) (.slice a3 turns.length c3) turns ∧ Blk ((w3.setCell ⟨w.heap.size, 3, none⟩ (.slice a2 steps.length c2)).setCell ⟨w.heap.size, 6, none⟩ (.slice a3 turns.length c3)) w.heap.size 31 #[.string sym, .int .i64 lot, .int .i64 most, .slice a2 steps.length c2, .int .i64 band, .int .i64 ref, .slice a3 turns.length c3, .int .i64 maker, .int .i64 taker] ∧ Blk ((w3.setCell ⟨w.heap.size, 3, none⟩ (.slice a2 steps.length c2)).setCell ⟨w.heap.size, 6, none⟩ (.slice a3 turns.length c3)) (w.heap.size + 1) 31 #[.string ⟨#[]⟩, .int .i64 0, .int .i64 0, .slice none 0 0, .int .i64 0, .int .i64 0, .slice none 0 0, .int .i64 0, .int .i64 0] ∧ Below w.heap.size w ((w3.setCell ⟨w.heap.size, 3, none⟩ (.slice a2 steps.length c2)).setCell ⟨w.heap.size, 6, none⟩ (.slice a3 turns.length c3)) :=
      ⟨(H3.out.1.set (by omega) _ _).set (by omega) _ _, (H3.out.2.1.set (by omega) _ _).set (by omega) _ _, (H3.out.2.2.1.set 3 _).set 6 _, (H3.out.2.2.2.1.other (by omega) _ _).other (by omega) _ _, below_set (below_set H3.out.2.2.2.2 (Nat.le_refl _) _ _) (Nat.le_refl _) _ _⟩
    generalize ((w3.setCell ⟨w.heap.size, 3, none⟩ (.slice a2 steps.length c2)).setCell ⟨w.heap.size, 6, none⟩ (.slice a3 turns.length c3)) = W4 at *
    have H4 : Hid (OwnT 55 W4 (w.heap.size + 2) (.slice a2 steps.length c2) steps ∧ OwnT 35 W4 (w.heap.size + 2) (.slice a3 turns.length c3) turns ∧ Blk W4 w.heap.size 31 #[.string sym, .int .i64 lot, .int .i64 most, .slice a2 steps.length c2, .int .i64 band, .int .i64 ref, .slice a3 turns.length c3, .int .i64 maker, .int .i64 taker] ∧ Blk W4 (w.heap.size + 1) 31 #[.string ⟨#[]⟩, .int .i64 0, .int .i64 0, .slice none 0 0, .int .i64 0, .int .i64 0, .slice none 0 0, .int .i64 0, .int .i64 0] ∧ Below w.heap.size w W4) := hw4
    clear hw4
    go_upto_region 2 with fail
    rename_i K hK
    refine wp_region_lit ?_
    refine wpList_load_row rfl 31 (.tmp 1) rfl w.heap.size (by rfl) 31 #[.string sym, .int .i64 lot, .int .i64 most, .slice a2 steps.length c2, .int .i64 band, .int .i64 ref, .slice a3 turns.length c3, .int .i64 maker, .int .i64 taker] (0, 0) _ H4.out.2.2.1 Tryd.underlying31 rfl (by kernel_rfl) ?_
    simp only [Act.put, List.setIfInBounds_toArray, List.set_cons_zero, List.set_cons_succ]
    refine wpList_store_row rfl 31 (.tmp 2) (.tmp 11) rfl (w.heap.size + 1) #[.string sym, .int .i64 lot, .int .i64 most, .slice a2 steps.length c2, .int .i64 band, .int .i64 ref, .slice a3 turns.length c3, .int .i64 maker, .int .i64 taker] (by rfl) (by rfl) 31 _ H4.out.2.2.2.1 (by kernel_rfl) rfl (by kernel_rfl) ?_
    refine wpList_nil ?_
    refine hK _ _ ?_
    have HR : Hid (Blk (W4.setRow (w.heap.size + 1) #[.string sym, .int .i64 lot, .int .i64 most, .slice a2 steps.length c2, .int .i64 band, .int .i64 ref, .slice a3 turns.length c3, .int .i64 maker, .int .i64 taker]) (w.heap.size + 1) 31 #[.string sym, .int .i64 lot, .int .i64 most, .slice a2 steps.length c2, .int .i64 band, .int .i64 ref, .slice a3 turns.length c3, .int .i64 maker, .int .i64 taker] ∧ OwnT 55 (W4.setRow (w.heap.size + 1) #[.string sym, .int .i64 lot, .int .i64 most, .slice a2 steps.length c2, .int .i64 band, .int .i64 ref, .slice a3 turns.length c3, .int .i64 maker, .int .i64 taker]) (w.heap.size + 2) (.slice a2 steps.length c2) steps ∧ OwnT 35 (W4.setRow (w.heap.size + 1) #[.string sym, .int .i64 lot, .int .i64 most, .slice a2 steps.length c2, .int .i64 band, .int .i64 ref, .slice a3 turns.length c3, .int .i64 maker, .int .i64 taker]) (w.heap.size + 2) (.slice a3 turns.length c3) turns ∧ Below w.heap.size w (W4.setRow (w.heap.size + 1) #[.string sym, .int .i64 lot, .int .i64 most, .slice a2 steps.length c2, .int .i64 band, .int .i64 ref, .slice a3 turns.length c3, .int .i64 maker, .int .i64 taker])) := ⟨setRow_heap _ _ _ _ _ _ H4.out.2.2.2.1, H4.out.1.setRow (by omega) _, H4.out.2.1.setRow (by omega) _, below_setRow H4.out.2.2.2.2 (by omega) _⟩
    go_wp2
    refine bodyPost_ret (results_cell_row (fn := Tryd.f24) (p := 2) (ty := 31) rfl _ _ (w.heap.size + 1) 31 #[.string sym, .int .i64 lot, .int .i64 most, .slice a2 steps.length c2, .int .i64 band, .int .i64 ref, .slice a3 turns.length c3, .int .i64 maker, .int .i64 taker] (0, 0) _ (by rfl) HR.out.1 Tryd.underlying31 rfl (by kernel_rfl)) (by rfl) ?_
    exact ⟨_, _, rfl, HR.out.2.1.mono (by omega), HR.out.2.2.1.mono (by omega), HR.out.2.2.2⟩
end Go.Proofs.YtnhkmfofkhhnaaaDoor
