/-
  FieldsBack: the walk.
-/
import Derived.Test.YtfgfjkchcnpakaaDoorFSame
import Derived.Test.YtfgfjkchcnpakaaDoorFMath2
import Derived.Deep.DeepCutAuto
namespace Go.Proofs.YtfgfjkchcnpakaaDoor
set_option linter.unusedVariables false
open Go.RowKit

theorem join_ne {fs : List Fld} {e : Int} (h : joinL fs = .error e) : e = 41 ∨ e = 42 ∨ e = 43 := by
  unfold joinL at h
  split at h
  · injection h with h; exact .inl h.symm
  · split at h
    · injection h with h; exact .inr (.inl h.symm)
    · split at h
      · injection h with h; exact .inr (.inr h.symm)
      · cases h
theorem body_of_split {s : List UInt8} {fs : List Fld} (h : splitL s = .ok fs) : (bodyB fs).length ≤ 1024 ∧ okT fs ∧ fs.length ≤ 1024 := by
  obtain ⟨h1, m, h2, h3, h4, h5⟩ := split_parts h
  have hl : (s.take m).length ≤ 1024 := by simp; omega
  rw [h4] at hl
  have hA : (aheadL (bodyB fs)).length = 12 + (Lib.itoa ((bodyB fs).length : Int)).length + 1 + (bodyB fs).length := head_length _
  have hf := length_flds fs
  refine ⟨by omega, fun f hf => ?_, by omega⟩
  have := (isTg_iff f.1).1 (h5 f hf).1
  omega
theorem OwnB.set {w : World} {B g c : Nat} {l : List UInt8} (h : OwnB w B (.slice (some ⟨g, 0, none⟩) l.length c) l) (i : Nat) (x : UInt8) :
    OwnB (w.setCell ⟨g, i, none⟩ (.int .u8 (x.toNat : Int))) B (.slice (some ⟨g, 0, none⟩) (l.set i x).length c) (l.set i x) := by
  obtain ⟨h1, h2⟩ := h
  refine ⟨by rw [bcs_length]; simp, ?_⟩
  rcases h2 with ⟨e, _⟩ | ⟨g', cap, cur, e, r1, r2, r3, r4, r5, r6⟩
  · cases e
  · injection e with e1 _ e3
    injection e1 with e1
    injection e1 with e1
    subst e1 e3
    refine .inr ⟨g, c, cur.setIfInBounds i (.int .u8 (x.toNat : Int)), by rw [List.length_set], r1, ?_, by rw [List.length_set]; exact r3, r4, by simpa using r5, ?_⟩
    · rw [setCell_eq_setRow w g i cur 5 (0, 0) _ r2]
      exact setRow_heap w g cur _ 5 (0, 0) r2
    · rw [Array.toList_setIfInBounds, List.length_set, List.take_set, r6]
      unfold bcs
      rw [List.map_set]
theorem OwnB.cell {w : World} {B g c : Nat} {l : List UInt8} (h : OwnB w B (.slice (some ⟨g, 0, none⟩) l.length c) l) (i : Nat) (hi : i < l.length) :
    w.cell? ⟨g, i, none⟩ = some (.int .u8 (l[i].toNat : Int)) ∧ w.frozen? ⟨g, i, none⟩ = false := by
  obtain ⟨h1, h2⟩ := h
  rcases h2 with ⟨e, _⟩ | ⟨g', cap, cur, e, r1, r2, r3, r4, r5, r6⟩
  · cases e
  · injection e with e1 _ e3
    injection e1 with e1
    injection e1 with e1
    subst e1 e3
    have e1 : (bcs l)[i]? = some (.int .u8 (l[i].toNat : Int)) := by unfold bcs; rw [List.getElem?_map, List.getElem?_eq_getElem hi]; rfl
    rw [← r6, List.getElem?_take, if_pos (by omega)] at e1
    refine ⟨?_, ?_⟩
    · rw [cell_of_row w g _ cur _ _ r2]; simpa using e1
    · simp [World.frozen?, r2]
set_option maxRecDepth 100000 in
set_option maxHeartbeats 1600000 in
theorem FieldsBack_law (v : Value) (fs : List Fld) (u : Value) (s : List UInt8) (z x : Int) (w : World) (hv : SrcF w v fs) (ht : okT fs) (hsz : (bodyB fs).length ≤ 1099511627776) (hn : fs.length ≤ 1099511627776)
    (hu : SrcB w u s) (hs : s.length ≤ 9223372036854775807) (hz0 : -9223372036854775808 ≤ z) (hz1 : z ≤ 9223372036854775807) (hx0 : 0 ≤ x) (hx1 : x ≤ 255) (hp : Pow w) :
    Calls Tryd.prog 3 #[v, u, .int .i64 z, .int .u8 x] w fun e w' => e = .returned (.bool true) ∧ Below w.heap.size w w' := by
  have HI : Hid (SrcF w v fs ∧ SrcB w u s ∧ Pow w) := ⟨hv, hu, hp⟩
  obtain ⟨i0, hi, hz0', hz1', hz2'⟩ := info_parts info5
  have h1 := shown_any w hp
  have hJ := fun w' (hb : Below w.heap.size w w') => Join_any v fs w' (hv.below hb) (hp.below hb) ht hsz hn
  have hS := fun w' (hb : Below w.heap.size w w') => Split_any u s w' hs (hu.below hb) (hp.below hb)
  have HJ : Hid (∀ w', Below w.heap.size w w' → Calls Tryd.prog 9 #[v] w' fun x w2 => JoinRet (joinL fs) w' x w2) := hJ
  have HS : Hid (∀ w', Below w.heap.size w w' → Calls Tryd.prog 10 #[u] w' fun x w2 => SplitRet (splitL s) w' x w2) := hS
  clear hv hu hp hJ hS
  go_enter Tryd.func3, Tryd.ntmps3
  go_wp2_with (go_at_call 8; fail)
  refine h1.mono ?_
  rintro e w1 ⟨rfl, hb1⟩
  have HB1 : Hid (Below w.heap.size w w1) := hb1
  clear hb1 h1
  go_wp2_with (go_at_call 9; fail)
  refine (HJ.out w1 HB1.out).mono ?_
  intro y w2 hR
  have HR : Hid (JoinRet (joinL fs) w1 y w2) := hR
  clear hR
  obtain ⟨vb, eb, hy⟩ : ∃ (vb : Value) (eb : Int), y = .returned (.tuple #[vb, .int .i64 eb]) := by
    have h := HR.out.2
    cases hj : joinL fs with
    | ok l => rw [hj] at h; obtain ⟨v', h, _⟩ := h; exact ⟨v', 0, h⟩
    | error e => rw [hj] at h; exact ⟨_, e, h⟩
  subst hy
  go_upto_if 31 with fail
  go_cut [2] (fun _ wx => Below w.heap.size w wx)
  case first => as_aux_lemma =>
    cases hj : joinL fs with
    | error e =>
      have hr := HR.out
      rw [hj] at hr
      obtain ⟨hb2, hr⟩ := hr
      injection hr with hr
      injection hr with hr
      have he : eb = e := by simpa using (by simpa using hr : vb = _ ∧ eb = e).2
      have hne : ¬ eb = 0 := by
        rcases join_ne hj with h | h | h <;> omega
      have hneb : (eb == 0) = false := by simpa using hne
      have HB2 : Hid (Below w.heap.size w w2) := HB1.out.trans (hb2.mono HB1.out.size)
      clear hr hj HR hb2 he
      go_wp2_with fail
      all_goals go_meet
      all_goals exact HB2.out
    | ok b =>
      have hr := HR.out
      rw [hj] at hr
      obtain ⟨hb2, v', hr, ho⟩ := hr
      injection hr with hr
      injection hr with hr
      obtain ⟨rfl, rfl⟩ : vb = v' ∧ eb = 0 := by simpa using hr
      have HB2 : Hid (Below w.heap.size w w2 ∧ OwnB w2 w1.heap.size vb b) := ⟨HB1.out.trans (hb2.mono HB1.out.size), ho⟩
      have hlen := join_len hj
      have hsp := join_split hj
      clear hr HR hb2 ho
      rcases HB2.out.2.2 with ⟨_, h0⟩ | ⟨g, cg, cur, rfl, hg1, hg2, hg3⟩
      · omega
      clear hg1 hg2
      have h2 := Split_any _ b w2 (by omega) HB2.out.2.src (HI.out.2.2.below HB2.out.1)
      rw [hsp] at h2
      go_wp2_with (go_at_call 10; fail)
      refine h2.mono ?_
      rintro x3 w3 ⟨hb3, vm, rfl, ho3⟩
      have HB3 : Hid (Below w.heap.size w w3 ∧ OwnB w3 w1.heap.size (.slice (some ⟨g, 0, none⟩) b.length cg) b ∧ OwnF w3 w2.heap.size vm fs) := ⟨HB2.out.1.trans (hb3.mono HB2.out.1.size), HB2.out.2.below hb3, ho3⟩
      clear h2 hb3 ho3 HB2
      go_wp2_with (go_at_call 11; fail)
      refine (same_yes v vm fs w3 (by omega) (HI.out.1.below HB3.out.1) HB3.out.2.2.src).mono ?_
      rintro x4 w4 ⟨rfl, q, rfl⟩
      have hb4 : Below w3.heap.size w3 (w3.drewN q) := below_drewN (Below.refl _ w3) q
      have HB4 : Hid (Below w.heap.size w (w3.drewN q) ∧ OwnB (w3.drewN q) w1.heap.size (.slice (some ⟨g, 0, none⟩) b.length cg) b) := ⟨below_drewN HB3.out.1 q, HB3.out.2.1.below hb4⟩
      clear hb4 HB3
      generalize w3.drewN q = w4 at *
      have hl1 : decide ((1024 : Int) < (b.length : Int)) = false := decide_eq_false (by omega)
      have hl2 : decide ((b.length : Int) < 21) = false := decide_eq_false (by omega)
      have hl1' : decide (1024 < b.length) = false := decide_eq_false (by omega)
      have hl2' : decide (b.length < 21) = false := decide_eq_false (by omega)
      go_upto_if 57 with fail
      go_cut [2] (fun c wx => ∃ A : Nat, c = .int .i64 (A : Int) ∧ A ≤ 9223372036854775807 ∧ wx = w4)
      case first => as_aux_lemma =>
        by_cases hneg : z < 0
        · go_wp2_with fail
          all_goals go_meet
          all_goals exact ⟨(-(z + 1)).toNat, by rw [Int.toNat_of_nonneg (by omega)], by omega, rfl⟩
        · have hneg' : 0 ≤ z := by omega
          go_wp2_with fail
          all_goals go_meet
          all_goals exact ⟨z.toNat, by rw [Int.toNat_of_nonneg (by omega)], by omega, rfl⟩
      case rest => as_aux_lemma =>
        obtain ⟨A, rfl, hA, rfl⟩ := hcut
        have hb0 : ¬ (b.length : Int) = 0 := by omega
        have hrem : (A : Int).tmod (b.length : Int) = ((A % b.length : Nat) : Int) := by
          rw [Int.tmod_eq_emod_of_nonneg (by omega)]; rfl
        go_upto_region 13 with fail
        obtain ⟨K, hK, hKe⟩ : ∃ K : Nat, K < b.length ∧ (A : Int) % (b.length : Int) = (K : Int) := ⟨A % b.length, Nat.mod_lt _ (by omega), rfl⟩
        simp only [hKe]
        clear hKe hrem hA
        by_cases hx : x = 0
        · subst hx
          go_wp2_with fail
          all_goals go_meet
          all_goals exact HB4.out.1
        · obtain ⟨X, rfl⟩ : ∃ X : UInt8, x = (X.toNat : Int) := ⟨UInt8.ofNat x.toNat, by
            have : (UInt8.ofNat x.toNat).toNat = x.toNat := by simp; omega
            rw [this]; omega⟩
          have hxb : ((X.toNat : Int) != 0) = true := by simpa using hx
          have HX0 : Hid (b[K] ^^^ X ≠ b[K]) := fun e => hx (by
            have e2 : X = 0 := by
              have := congrArg (b[K] ^^^ ·) e
              simpa [← UInt8.xor_assoc] using this
            rw [e2]; rfl)
          have hxor : bits .xor .u8 (b[K].toNat : Int) (X.toNat : Int) = ((b[K] ^^^ X).toNat : Int) := by
            rw [UInt8.toNat_xor]; exact u8_xor_nat _ _ b[K].toNat_lt X.toNat_lt
          have hKl : (K : Int) < (b.length : Int) := by omega
          have hbb := bcs_length b
          have hb1 : 0 < b.length := by omega
          clear hx
          go_upto_region 15 with (at_builtin; refine wpList_append_lies _ rfl _ _ 23 rfl wc.heap.size 5 i0 (.int .u8 0) 1 1 Tryd.underlying23 hi hz0' hz1' hz2' rfl (by decide) _ 0 [] rfl (World.ownsRow_lit wc #[] 0 (Nat.le_refl _) (Nat.zero_le _) rfl) ⟨g, 0, none⟩ b.length cg (bcs b) rfl (by omega) ((World.ownsRow.alloc HB4.out.2 _).cells rfl) (bcs_one _) hb1 (by unfold maxLen; omega) (by omega) (by simp) _ rfl ?_; intro g5 c5 w5 ho5 hg5 hat5 hlt5; simp only [Nat.zero_add, List.nil_append] at ho5)
          have hbc : Below wc.heap.size wc (wc.alloc (.cells #[] 5)) := (Below.refl _ wc).alloc (Nat.le_refl _) _
          have HB5 : Hid (Below w.heap.size w w5 ∧ OwnB w5 wc.heap.size (.slice (some ⟨g5, 0, none⟩) b.length c5) b) := by
            refine ⟨?_, ho5⟩
            refine HB4.out.1.trans ?_
            have hg5' : (wc.alloc (.cells #[] 5)).grownBy w5 (some wc.heap.size) := hg5
            refine Below.mono (B := wc.heap.size) (Below.grown hbc hg5' (by simp) (fun k hk => ?_)) HB4.out.1.size
            injection hk with hk
            omega
          clear ho5 hg5 hat5 hlt5 hbc
          obtain ⟨k1, k2⟩ := HB5.out.2.cell K hK
          have hc5 : b.length ≤ c5 := by
            rcases HB5.out.2.2 with ⟨e, _⟩ | ⟨_, _, _, e, _, _, r3, _⟩
            · cases e
            · injection e with _ _ e3; omega
          go_upto_region 16 with fail
          have hbt := turned_bad hsp K (b[K] ^^^ X) hK HX0.out
          have HB6 : Hid (Below w.heap.size w (w5.setCell ⟨g5, K, none⟩ (.int .u8 ((b[K] ^^^ X).toNat : Int))) ∧ OwnB (w5.setCell ⟨g5, K, none⟩ (.int .u8 ((b[K] ^^^ X).toNat : Int))) wc.heap.size (.slice (some ⟨g5, 0, none⟩) (b.set K (b[K] ^^^ X)).length c5) (b.set K (b[K] ^^^ X))) := by
            refine ⟨HB5.out.1.setCell ?_ _, HB5.out.2.set K _⟩
            have h := (HB5.out.2.lt g5 rfl).1
            exact Nat.le_trans HB4.out.1.size h
          clear k1 k2 hxor HX0
          rw [UInt8.toNat_xor] at HB6
          generalize w5.setCell ⟨g5, K, none⟩ (.int .u8 ((b[K].toNat ^^^ X.toNat : Nat) : Int)) = w6 at *
          have hbl : (b.set K (b[K] ^^^ X)).length = b.length := List.length_set
          rw [hbl] at HB6
          have h6 := Split_any (.slice (some ⟨g5, 0, none⟩) b.length c5) (b.set K (b[K] ^^^ X)) w6 (by omega) HB6.out.2.src (HI.out.2.2.below HB6.out.1)
          obtain ⟨⟨e6, a6⟩, hbt⟩ := hbt
          rw [hbt] at h6
          clear hbt hbl
          go_wp2_with (go_at_call 10; fail)
          refine h6.mono ?_
          rintro x7 w7 ⟨hb7, g7, hg7, rfl, hf7⟩
          have HB7 : Hid (Below w.heap.size w w7) := HB6.out.1.trans (hb7.mono HB6.out.1.size)
          clear hb7 hg7 hf7 h6
          go_wp2_with fail
          all_goals go_meet
          all_goals exact HB7.out
  case rest => as_aux_lemma =>
    have HBc : Hid (Below w.heap.size w wc) := hcut
    clear hcut HB1 HR HJ
    go_wp2_with (go_at_call 10; fail)
    refine (HS.out wc HBc.out).mono ?_
    intro y3 w3 hR3
    unfold SplitRet at hR3
    cases hsp : splitL s with
    | error y =>
      rw [hsp] at hR3
      obtain ⟨e, a⟩ := y
      obtain ⟨hb3, g, hg, rfl, hf⟩ := hR3
      have HX : Hid (Below w.heap.size w w3) := HBc.out.trans (hb3.mono HBc.out.size)
      clear hb3 hg hf hsp
      go_wp2
      go_ret
      exact ⟨rfl, HX.out⟩
    | ok gs =>
      rw [hsp] at hR3
      obtain ⟨hb3, vm, rfl, ho3⟩ := hR3
      obtain ⟨hg1, hg2, hg3⟩ := body_of_split hsp
      have hjs := split_join hsp
      have HX : Hid (Below w.heap.size w w3 ∧ OwnF w3 wc.heap.size vm gs) := ⟨HBc.out.trans (hb3.mono HBc.out.size), ho3⟩
      have h4 := Join_any vm gs w3 HX.out.2.src (HI.out.2.2.below HX.out.1) hg2 (by omega) (by omega)
      rw [hjs] at h4
      clear hb3 ho3 hsp hg1 hg2 hg3 hjs
      go_wp2_with (go_at_call 9; fail)
      refine h4.mono ?_
      rintro x4 w4 ⟨hb4, vc, rfl, ho4⟩
      have HY : Hid (Below w.heap.size w w4) := HX.out.1.trans (hb4.mono HX.out.1.size)
      have hc1 := ho4.src.conv
      have hc2 := (HI.out.2.1.below HY.out).conv
      clear hb4 ho4 h4
      generalize bs s = S at *
      go_wp2
      go_ret
      exact ⟨rfl, HY.out⟩
end Go.Proofs.YtfgfjkchcnpakaaDoor
