/-
  FieldsGroups: the walk.
-/
import Derived.Test.YtfgfjkchcnpakaaDoorFGrp3
import Derived.Test.YtfgfjkchcnpakaaDoorFShown
import Derived.Test.YtfgfjkchcnpakaaDoorFSame
import Derived.Deep.DeepCutAuto
import Derived.Deep.RegionHeld3
namespace Go.Proofs.YtfgfjkchcnpakaaDoor
set_option linter.unusedVariables false
open Go.RowKit

theorem info55 : (Tryd.prog.info? 55).map (fun i => (i.zero, i.size, i.bytes)) = some (some (.slice none 0 0), 1, 24) := by kernel_rfl
theorem info37 : (Tryd.prog.info? 37).map (fun i => (i.zero, i.size, i.bytes)) = some (some (.slice none 0 0), 1, 24) := by kernel_rfl
theorem OwnPW.below {w w' : World} {B : Nat} {v : Value} {gss : List (List Fld)} {u : Value} (h : OwnPW w B v gss u) (hb : Below w.heap.size w w') : OwnPW w' B v gss u := by
  obtain ⟨vs, h1, h2, h3, h4⟩ := h
  refine ⟨vs, ownsRow_below h1 hb, fun i gs hi => ?_, h3, h4⟩
  obtain ⟨u, e, ho⟩ := h2 i gs hi
  exact ⟨u, e, ho.below hb⟩
/-- All that stands behind some turns. -/
structure GW (w wr : World) (po qo gm : Nat) (fs : List Fld) (T : List TT) (va vl : Value) (F : List Nat) (P : List (List Fld)) (A : List Fld) : Prop where
  gs : GS w.heap.size wr T va vl F P A
  bel : Below w.heap.size w wr
  po : wr.heap[po]? = some (.cells #[.slice none 0 0] 48 (0, 0))
  qo : wr.heap[qo]? = some (.cells #[.slice none 0 0] 52 (0, 0))
  gm : BlkF wr gm (lentL fs 8)
theorem GW.below {w wr w' : World} {po qo gm : Nat} {fs : List Fld} {T : List TT} {va vl : Value} {F : List Nat} {P : List (List Fld)} {A : List Fld} (h : GW w wr po qo gm fs T va vl F P A) (hb : Below wr.heap.size wr w') : GW w w' po qo gm fs T va vl F P A :=
  ⟨h.gs.below hb, h.bel.trans (hb.mono h.bel.size), (hb.block _ (lt_of_heap h.po)).trans h.po, (hb.block _ (lt_of_heap h.qo)).trans h.qo, h.gm.below hb (lt_of_heap h.gm)⟩
theorem GW.rl2 {w wr w1 w2 : World} {po qo gm : Nat} {fs : List Fld} {T : List TT} {va vl pv : Value} {F : List Nat} {P : List (List Fld)} {A : List Fld} (h : GW w wr po qo gm fs T va vl F P A) (hb : Below wr.heap.size wr w1) (hg2 : (w1.alloc (.cells #[pv] 55)).grownBy w2 va.ownBlock) : w2.ownsRow w.heap.size 37 1 vl (2 * T.length) (T.flatMap fun t : TT => [t.lv, sv t]) := by
  have g1 := h.gs.below hb
  have ba : Below w1.heap.size w1 (w1.alloc (.cells #[pv] 55)) := (Below.refl _ w1).alloc (Nat.le_refl _) _
  exact ownsRow_of_block g1.rl fun k e => by
    obtain ⟨_, k2, c1, t1⟩ := row_typed g1.rl e
    rw [hg2.block k (by simp; omega) (fun e2 => by obtain ⟨_, _, c2, t2⟩ := row_typed g1.ra e2.symm; exact typed_ne t1 t2 (by decide)), ba.block k k2]
theorem GW.snoc {w wr w1 w2 w3 : World} {po qo gm : Nat} {fs : List Fld} {T : List TT} {va vl va' vl' pv lv uu : Value} {F : List Nat} {P : List (List Fld)} {A : List Fld} (h : GW w wr po qo gm fs T va vl F P A) (hb : Below wr.heap.size wr w1)
    (hp : OwnN w1 wr.heap.size pv F) (hq : OwnPW w1 wr.heap.size lv P uu) (hu : OwnF w1 wr.heap.size uu A)
    (hg2 : (w1.alloc (.cells #[pv] 55)).grownBy w2 va.ownBlock) (ho2 : w2.ownsRow w.heap.size 55 1 va' (T.length + 1) (T.map TT.pv ++ [pv]))
    (hg3 : ((w2.alloc (.cells #[uu] 22)).alloc (.cells #[lv, .slice (some ⟨w2.heap.size, 0, none⟩) 1 1] 37)).grownBy w3 vl.ownBlock) (ho3 : w3.ownsRow w.heap.size 37 1 vl' (2 * T.length + 2) ((T.flatMap fun t : TT => [t.lv, sv t]) ++ [lv, .slice (some ⟨w2.heap.size, 0, none⟩) 1 1])) :
    ∃ t, GW w w3 po qo gm fs (T ++ [t]) va' vl' F P A := by
  obtain ⟨⟨t, ht⟩, hk, hb3⟩ := h.gs.snoc h.bel.size hb hp hq hu hg2 ho2 hg3 ho3
  have h1 := h.below hb
  exact ⟨t, ht, h.bel.trans hb3, (hk _ _ _ h1.po (by decide) (by decide)).trans h1.po, (hk _ _ _ h1.qo (by decide) (by decide)).trans h1.qo, (hk _ _ _ h1.gm (by decide) (by decide)).trans h1.gm⟩
set_option maxRecDepth 100000 in
set_option maxHeartbeats 4000000 in
theorem FieldsGroups_law (v : Value) (fs : List Fld) (tag count first : Int) (w : World) (hv : SrcF w v fs) (hn : fs.length ≤ 5864062014634) (hz : ∀ n c, v = .slice none n c → c = 0) (hvl : ∀ f ∈ fs, f.2.length ≤ maxLen) (hp : Pow w) :
    Calls Tryd.prog 6 #[v, .int .i64 tag, .int .i64 count, .int .i64 first] w fun e w' => e = .returned (.bool true) ∧ Below w.heap.size w w' := by
  obtain ⟨i1, hi1, hx0, hx1, hx2⟩ := info_parts info55
  obtain ⟨i2, hi2, hy0, hy1, hy2⟩ := info_parts info37
  have h1 := shown_any w hp
  obtain ⟨F, hF⟩ : ∃ F, F = findL tag fs := ⟨_, rfl⟩
  obtain ⟨R, hR⟩ : ∃ R, R = grpL fs count first := ⟨_, rfl⟩
  obtain ⟨P, hP⟩ : ∃ P, P = gP R := ⟨_, rfl⟩
  obtain ⟨A, hA⟩ : ∃ A, A = gA R := ⟨_, rfl⟩
  obtain ⟨ER, hER⟩ : ∃ ER, ER = gE R := ⟨_, rfl⟩
  have hPb : P.length ≤ 99 ∧ (∀ gs ∈ P, gs.length ≤ fs.length) ∧ A.length ≤ fs.length := by
    rw [hP, hA, hR]; exact grp_bound fs count first
  have hFl : F.length ≤ fs.length := by rw [hF]; exact findI_len tag fs 0
  have HI : Hid (SrcF w v fs ∧ Pow w ∧ (∀ gs ∈ P, gs.length ≤ fs.length)) := ⟨hv, hp, hPb.2.1⟩
  have HFind : Hid (∀ u wx, SrcF wx u fs → Calls Tryd.prog 16 #[u, .int .i64 tag] wx fun e w' => ∃ u, e = .returned u ∧ OwnN w' wx.heap.size u F ∧ Below wx.heap.size wx w') := fun u wx h => by rw [hF]; exact Find_any u fs tag wx h hn
  have HRFind : Hid (∀ u wx, SrcF wx u fs → Calls Tryd.prog 17 #[u, .int .i64 tag] wx fun e w' => ∃ u, e = .returned u ∧ OwnN w' wx.heap.size u F ∧ Below wx.heap.size wx w') := fun u wx h => by rw [hF]; exact refFind_any u fs tag wx h hn
  have HGrp : Hid (∀ u wx, SrcF wx u fs → Calls Tryd.prog 12 #[u, .int .i64 count, .int .i64 first] wx fun x w' => ∃ p u, x = .returned (.tuple #[p, u, .int .i64 ER]) ∧ OwnPW w' wx.heap.size p P u ∧ OwnF w' wx.heap.size u A ∧ Below wx.heap.size wx w') := fun u wx h => by rw [hER, hP, hA, hR]; exact (Groups_any u fs count first wx h hn hvl).mono fun x w' h => h.uni
  have HRGrp : Hid (∀ wx, Below w.heap.size w wx → Calls Tryd.prog 18 #[v, .int .i64 count, .int .i64 first] wx fun x w' => ∃ p u, x = .returned (.tuple #[p, u, .int .i64 ER]) ∧ OwnP w' wx.heap.size p P ∧ OwnF w' wx.heap.size u A ∧ Below wx.heap.size wx w') := fun wx hb => by rw [hER, hP, hA, hR]; exact (refGroups_any v fs count first wx (hv.below hb) hn hz hvl).mono fun x w' h => h.uni
  have hP99 := hPb.1
  have hAl := hPb.2.2
  obtain ⟨a0, c0, rfl, hc0, _⟩ := hv
  clear hF hR hP hA hER hPb hz hvl hp
  have hn4 : (fs.length : Int) ≤ ((fs.length + 8 : Nat) : Int) := by omega
  go_enter Tryd.func6, Tryd.ntmps6
  go_wp2_with (go_at_call 8; fail)
  refine h1.mono ?_
  rintro e wa ⟨rfl, hba⟩
  have HA : Hid (Below w.heap.size w wa) := hba
  clear hba h1
  have hX : Below wa.heap.size wa ((wa.alloc (.cells #[.slice none 0 0] 48)).alloc (.cells #[.slice none 0 0] 52)) := ((Below.refl _ wa).alloc (Nat.le_refl _) _).alloc (by simp) _
  have hXp : ((wa.alloc (.cells #[.slice none 0 0] 48)).alloc (.cells #[.slice none 0 0] 52)).heap[wa.heap.size]? = some (.cells #[.slice none 0 0] 48 (0, 0)) := by
    rw [((Below.refl _ (wa.alloc (.cells #[.slice none 0 0] 48))).alloc (Nat.le_refl _) (.cells #[.slice none 0 0] 52)).block wa.heap.size (by simp)]
    exact heap_alloc_new wa _
  have hXq : ((wa.alloc (.cells #[.slice none 0 0] 48)).alloc (.cells #[.slice none 0 0] 52)).heap[wa.heap.size + 1]? = some (.cells #[.slice none 0 0] 52 (0, 0)) := by
    have h := heap_alloc_new (wa.alloc (.cells #[.slice none 0 0] 48)) (.cells #[.slice none 0 0] 52)
    simpa using h
  have HX : Hid (Below wa.heap.size wa ((wa.alloc (.cells #[.slice none 0 0] 48)).alloc (.cells #[.slice none 0 0] 52)) ∧ ((wa.alloc (.cells #[.slice none 0 0] 48)).alloc (.cells #[.slice none 0 0] 52)).heap[wa.heap.size]? = some (.cells #[.slice none 0 0] 48 (0, 0)) ∧ ((wa.alloc (.cells #[.slice none 0 0] 48)).alloc (.cells #[.slice none 0 0] 52)).heap[wa.heap.size + 1]? = some (.cells #[.slice none 0 0] 52 (0, 0))) := ⟨hX, hXp, hXq⟩
  clear hX hXp hXq
  go_wp2_with (go_at_call 13; fail)
  generalize hwx : (wa.alloc (.cells #[.slice none 0 0] 48)).alloc (.cells #[.slice none 0 0] 52) = wx at *
  refine (lent_any _ fs wx hn (HI.out.1.below (HA.out.trans (HX.out.1.mono HA.out.size)))).mono ?_
  rintro e wb ⟨rfl, hk2, hb2⟩
  have HW0 : Hid (GW w wb wa.heap.size (wa.heap.size + 1) wx.heap.size fs [] (.slice none 0 0) (.slice none 0 0) F P A) :=
    ⟨GS.zero _ _ _ _ _, (HA.out.trans (HX.out.1.mono HA.out.size)).trans (hb2.mono (Nat.le_trans HA.out.size HX.out.1.size)), (hb2.block _ (lt_of_heap HX.out.2.1)).trans HX.out.2.1, (hb2.block _ (lt_of_heap HX.out.2.2)).trans HX.out.2.2, hk2⟩
  have HPQ : Hid (w.heap.size ≤ wa.heap.size ∧ w.heap.size ≤ wa.heap.size + 1) := ⟨HA.out.size, Nat.le_succ_of_le HA.out.size⟩
  clear hb2 hk2 HA HX hwx
  generalize wx.heap.size = gm at *
  generalize wa.heap.size + 1 = qo at *
  generalize wa.heap.size = po at *
  have hcap : (fs.length : Int) ≤ ((fs.length : Int) + 8) := by omega
  go_wp2
  go_loopw [13, 14, 15] (fun l a i wr => ∃ (k : Nat) (T : List TT) (a1 a2 : Option Addr) (c1 c2 : Nat), k ≤ 3 ∧ T.length = k ∧ i = .int .i64 (k : Int) ∧ a = .slice a1 k c1 ∧ l = .slice a2 (2 * k) c2 ∧ GW w wr po qo gm fs T (.slice a1 k c1) (.slice a2 (2 * k) c2) F P A) (fun _ _ i _ => 3 - (intOf i).toNat)
  case atStart => exact ⟨0, [], none, none, 0, 0, by omega, rfl, rfl, rfl, rfl, HW0.out⟩
  case round =>
    rename World => wo
    obtain ⟨k, T, a1, a2, c1, c2, hk3, hT, rfl, rfl, rfl, hW⟩ := hrel
    have HW : Hid (GW w wo po qo gm fs T (.slice a1 k c1) (.slice a2 (2 * k) c2) F P A) := hW
    have HT : Hid (T.length = k) := hT
    clear hW hT
    by_cases hlt : k < 3
    · have hlt' : (k : Int) < (3 : Int) := by omega
      clear HW0
      go_wp2_with (go_at_call 16; fail)
      refine (HFind.out _ wo (HW.out.gm.src ⟨List.replicate 8 (mk 999) ++ List.replicate 0 z0, by simp [lentL]⟩ (by omega))).mono ?_
      rintro e w1 ⟨u1, rfl, ho1, hb1⟩
      obtain ⟨ap, cp, hu1, hcp, _⟩ := ho1.form
      subst hu1
      have H1 : Hid (Below wo.heap.size wo w1 ∧ OwnN w1 wo.heap.size (.slice ap F.length cp) F) := ⟨hb1, ho1⟩
      clear hb1 ho1
      go_wp2_with (go_at_call 17; fail)
      refine (HRFind.out _ w1 (HI.out.1.below (HW.out.below H1.out.1).bel)).mono ?_
      rintro e w2 ⟨u2, rfl, ho2, hb2⟩
      obtain ⟨aq, cq, hu2, hcq, _⟩ := ho2.form
      subst hu2
      have H2 : Hid (Below wo.heap.size wo w2 ∧ OwnN w2 wo.heap.size (.slice ap F.length cp) F ∧ OwnN w2 w1.heap.size (.slice aq F.length cq) F) := ⟨H1.out.1.trans (hb2.mono H1.out.1.size), H1.out.2.below hb2, ho2⟩
      clear hb2 ho2 H1
      go_wp2
      go_loopw [18] (fun i wr => ∃ j q : Nat, j ≤ F.length ∧ i = .int .i64 (j : Int) ∧ wr = w2.drewN q) (fun i _ => F.length - (intOf i).toNat)
      case atStart => exact ⟨0, 0, Nat.zero_le _, rfl, rfl⟩
      case round =>
        obtain ⟨j, q, hj, rfl, hw⟩ := hrel
        have HB : Hid (Below w2.heap.size w2 wr) := by show Below _ _ _; rw [hw]; exact below_drewN (Below.refl _ w2) q
        have HWQ : Hid (wr = w2.drewN q) := hw
        clear hw
        by_cases hlt2 : j < F.length
        · have hlt2' : (j : Int) < (F.length : Int) := by omega
          have hFj : F[j]? = some F[j] := List.getElem?_eq_getElem hlt2
          obtain ⟨x1, x2, e1, _, hx⟩ := (H2.out.2.1.below HB.out).form
          obtain ⟨g1, eg1, hcj1⟩ := hx j _ hFj
          injection e1 with e1 _ e9
          rw [eg1] at e1
          subst e1 e9
          obtain ⟨y1, y2, e1, _, hy⟩ := (H2.out.2.2.below HB.out).form
          obtain ⟨g2, eg2, hcj2⟩ := hy j _ hFj
          injection e1 with e1 _ e9
          rw [eg2] at e1
          subst e1 e9
          clear hx hy hFj eg1 eg2
          generalize F[j] = fj at *
          go_wp2
          go_quiet (fail)
          go_wp2
          go_roundw
          case rel => exact ⟨j + 1, _, by omega, by go_num, by rw [HWQ.out, World.drewN_drewN]⟩
          case measure => simp [intOf]; omega
        · have H3 : Hid (Below wo.heap.size wo wr ∧ OwnN wr wo.heap.size (.slice ap F.length cp) F) := ⟨H2.out.1.trans (HB.out.mono H2.out.1.size), H2.out.2.1.below HB.out⟩
          clear H2 HB HWQ
          rename World => w3
          go_wp2_with (go_at_call 12; fail)
          refine (HGrp.out _ w3 ((HW.out.below H3.out.1).gm.src ⟨List.replicate 8 (mk 999) ++ List.replicate 0 z0, by simp [lentL]⟩ (by omega))).mono ?_
          rintro e w4 ⟨p1, u1, rfl, hp1, hu1, hb4⟩
          obtain ⟨av, cv, hv1, _⟩ := hp1.own.form
          obtain ⟨au, cu, hv2, _⟩ := hu1.src
          subst hv1 hv2
          have H4 : Hid (Below wo.heap.size wo w4 ∧ OwnN w4 wo.heap.size (.slice ap F.length cp) F ∧ OwnPW w4 wo.heap.size (.slice av P.length cv) P (.slice au A.length cu) ∧ OwnF w4 wo.heap.size (.slice au A.length cu) A) := ⟨H3.out.1.trans (hb4.mono H3.out.1.size), H3.out.2.below hb4, hp1.mono H3.out.1.size, hu1.mono H3.out.1.size⟩
          clear hp1 hu1 hb4 H3
          go_wp2_with (go_at_call 18; fail)
          refine (HRGrp.out w4 (HW.out.below H4.out.1).bel).mono ?_
          rintro e w5 ⟨p2, u2, rfl, hp2, hu2, hb5⟩
          obtain ⟨av2, cv2, hv1, _⟩ := hp2.form
          obtain ⟨au2, cu2, hv2, _⟩ := hu2.src
          subst hv1 hv2
          have H5 : Hid (Below wo.heap.size wo w5 ∧ OwnN w5 wo.heap.size (.slice ap F.length cp) F ∧ OwnPW w5 wo.heap.size (.slice av P.length cv) P (.slice au A.length cu) ∧ OwnF w5 wo.heap.size (.slice au A.length cu) A ∧ OwnP w5 w4.heap.size (.slice av2 P.length cv2) P ∧ OwnF w5 w4.heap.size (.slice au2 A.length cu2) A) := ⟨H4.out.1.trans (hb5.mono H4.out.1.size), H4.out.2.1.below hb5, H4.out.2.2.1.below hb5, H4.out.2.2.2.below hb5, hp2, hu2⟩
          clear hp2 hu2 hb5 H4
          go_wp2_with (go_at_call 11; fail)
          refine (same_yes _ _ A w5 (by omega) H5.out.2.2.2.1.src H5.out.2.2.2.2.2.src).mono ?_
          rintro e w6 ⟨rfl, q6, hw6⟩
          have hb6 : Below w5.heap.size w5 w6 := by rw [hw6]; exact below_drewN (Below.refl _ w5) q6
          have H6 : Hid (Below wo.heap.size wo w6 ∧ OwnN w6 wo.heap.size (.slice ap F.length cp) F ∧ OwnPW w6 wo.heap.size (.slice av P.length cv) P (.slice au A.length cu) ∧ OwnF w6 wo.heap.size (.slice au A.length cu) A ∧ OwnP w6 w4.heap.size (.slice av2 P.length cv2) P) := ⟨H5.out.1.trans (hb6.mono H5.out.1.size), H5.out.2.1.below hb6, H5.out.2.2.1.below hb6, H5.out.2.2.2.1.below hb6, H5.out.2.2.2.2.1.below hb6⟩
          clear hw6 hb6 H5
          go_wp2
          go_loopw [25, 26] (fun o i wr => ∃ k q : Nat, k ≤ P.length ∧ i = .int .i64 (k : Int) ∧ o = .bool true ∧ wr = w6.drewN q) (fun _ i _ => P.length - (intOf i).toNat)
          case atStart => exact ⟨0, 0, Nat.zero_le _, rfl, rfl, rfl⟩
          case round =>
            obtain ⟨j3, q3, hj3, rfl, rfl, hw⟩ := hrel
            have HWQ : Hid (wr = w6.drewN q3) := hw
            have HB : Hid (Below w6.heap.size w6 wr) := by show Below _ _ _; rw [hw]; exact below_drewN (Below.refl _ w6) q3
            clear hw
            by_cases hlt3 : j3 < P.length
            · have hlt3' : (j3 : Int) < (P.length : Int) := by omega
              have hPj : P[j3]? = some P[j3] := List.getElem?_eq_getElem hlt3
              have hgl : P[j3].length ≤ fs.length := HI.out.2.2 _ (List.getElem_mem hlt3)
              generalize P[j3] = gk at *
              obtain ⟨x1, x2, e1, hx⟩ := (H6.out.2.2.1.own.below HB.out).form
              obtain ⟨g1, s1, eg1, hcj1, hs1⟩ := hx j3 _ hPj
              injection e1 with e1 _ e9
              rw [eg1] at e1
              subst e1 e9
              obtain ⟨y1, y2, e1, hy⟩ := (H6.out.2.2.2.2.below HB.out).form
              obtain ⟨g2, s2, eg2, hcj2, hs2⟩ := hy j3 _ hPj
              injection e1 with e1 _ e9
              rw [eg2] at e1
              subst e1 e9
              have HSM : Hid (∀ q', Calls Tryd.prog 11 #[s1, s2] (wr.drewN q') fun e w' => e = .returned (.bool true) ∧ ∃ m, w' = (wr.drewN q').drewN m) := fun q' => by
                have hb : Below wr.heap.size wr (wr.drewN q') := below_drewN (Below.refl _ wr) q'
                exact same_yes s1 s2 gk _ (by omega) ((hs1.below hb).src) ((hs2.below hb).src)
              obtain ⟨a11, c11, hu11, _⟩ := hs1.src
              obtain ⟨a12, c12, hu12, _⟩ := hs2.src
              subst hu11 hu12
              clear hx hy hs1 hs2 hPj hgl eg1 eg2
              go_wp2
              go_quiet ((go_at_call 11; refine Calls.quiet_of (HSM.out _)))
              go_wp2
              go_roundw
              case rel => exact ⟨j3 + 1, _, by omega, by go_num, rfl, by rw [HWQ.out, World.drewN_drewN]⟩
              case measure => simp [intOf]; omega
            · rename World => w7
              have H7 : Hid (Below wo.heap.size wo w7 ∧ OwnN w7 wo.heap.size (.slice ap F.length cp) F ∧ OwnPW w7 wo.heap.size (.slice av P.length cv) P (.slice au A.length cu) ∧ OwnF w7 wo.heap.size (.slice au A.length cu) A) := ⟨H6.out.1.trans (HB.out.mono H6.out.1.size), H6.out.2.1.below HB.out, H6.out.2.2.1.below HB.out, H6.out.2.2.2.1.below HB.out⟩
              clear H6 HB HWQ
              obtain ⟨pv, hpv⟩ : ∃ pv, pv = Value.slice ap F.length cp := ⟨_, rfl⟩
              obtain ⟨lv, hlv⟩ : ∃ lv, lv = Value.slice av P.length cv := ⟨_, rfl⟩
              obtain ⟨uu, huu⟩ : ∃ uu, uu = Value.slice au A.length cu := ⟨_, rfl⟩
              have HO1 : Hid ((w7.alloc (.cells #[.slice ap F.length cp] 55)).ownsRow w.heap.size 55 1 (.slice a1 k c1) k (T.map TT.pv)) := by have h := World.ownsRow.alloc (HW.out.below H7.out.1).gs.ra (.cells #[.slice ap F.length cp] 55); rw [HT.out] at h; exact h
              have HNW1 : Hid (∀ j u, ([.slice ap F.length cp] : List Value)[j]? = some u → (w7.alloc (.cells #[.slice ap F.length cp] 55)).cell? ((⟨w7.heap.size, 0, none⟩ : Addr).add j) = some u) := World.news_of_block (heap_alloc_new w7 (.cells #[.slice ap F.length cp] 55))
              have HSZ : Hid (w.heap.size ≤ w7.heap.size) := (HW.out.below H7.out.1).bel.size
              clear hpv hlv huu
              go_upto_region 31 with (at_builtin; refine wpList_append_lies _ rfl _ _ 54 rfl w.heap.size 55 i1 (.slice none 0 0) 1 24 Tryd.underlying54 hi1 hx0 hx1 hx2 rfl (by decide) _ k (T.map TT.pv) rfl HO1.out ⟨w7.heap.size, 0, none⟩ 1 1 [.slice ap F.length cp] rfl rfl HNW1.out (fun x hx => by simp at hx; subst hx; rfl) (by decide) (by unfold maxLen; omega) (by omega) (by have := HSZ.out; simp; omega) _ rfl ?_; intro g3 c3 w8 ho3 hg3 hat3 hlt3; have H8 : Hid ((w7.alloc (.cells #[.slice ap F.length cp] 55)).grownBy w8 (Value.slice a1 k c1).ownBlock ∧ w8.ownsRow w.heap.size 55 1 (.slice (some ⟨g3, 0, none⟩) (k + 1) c3) (k + 1) (T.map TT.pv ++ [.slice ap F.length cp])) := ⟨hg3, ho3⟩; clear ho3 hg3 hat3 hlt3)
              have HO2 : Hid (((w8.alloc (.cells #[.slice au A.length cu] 22)).alloc (.cells #[.slice av P.length cv, .slice (some ⟨w8.heap.size, 0, none⟩) 1 1] 37)).ownsRow w.heap.size 37 1 (.slice a2 (2 * k) c2) (2 * k) (T.flatMap fun t : TT => [t.lv, sv t])) := by have h := World.ownsRow.alloc (World.ownsRow.alloc (HW.out.rl2 H7.out.1 H8.out.1) (.cells #[.slice au A.length cu] 22)) (.cells #[.slice av P.length cv, .slice (some ⟨w8.heap.size, 0, none⟩) 1 1] 37); rw [HT.out] at h; exact h
              have HNW2 : Hid (∀ j u, ([.slice av P.length cv, .slice (some ⟨w8.heap.size, 0, none⟩) 1 1] : List Value)[j]? = some u → ((w8.alloc (.cells #[.slice au A.length cu] 22)).alloc (.cells #[.slice av P.length cv, .slice (some ⟨w8.heap.size, 0, none⟩) 1 1] 37)).cell? ((⟨w8.heap.size + 1, 0, none⟩ : Addr).add j) = some u) := by
                have h := heap_alloc_new (w8.alloc (.cells #[.slice au A.length cu] 22)) (.cells #[.slice av P.length cv, .slice (some ⟨w8.heap.size, 0, none⟩) 1 1] 37)
                have e : (w8.alloc (.cells #[.slice au A.length cu] 22)).heap.size = w8.heap.size + 1 := by simp
                rw [e] at h
                exact World.news_of_block h
              have HS8 : Hid (w.heap.size ≤ w8.heap.size) := by have := H8.out.1.size; have := HSZ.out; simp at *; show _ ≤ _; omega
              have HON : Hid (∀ x ∈ ([.slice av P.length cv, .slice (some ⟨w8.heap.size, 0, none⟩) 1 1] : List Value), x.oneCell' = true) := fun x hx => by simp at hx; rcases hx with hx | hx <;> subst hx <;> rfl
              clear HO1 HNW1
              go_upto_region 32 with (at_builtin; refine wpList_append_lies _ rfl _ _ 53 rfl w.heap.size 37 i2 (.slice none 0 0) 1 24 Tryd.underlying53 hi2 hy0 hy1 hy2 rfl (by decide) (.slice a2 (2 * k) c2) (2 * k) (T.flatMap fun t : TT => [t.lv, sv t]) rfl HO2.out ⟨w8.heap.size + 1, 0, none⟩ 2 2 [.slice av P.length cv, .slice (some ⟨w8.heap.size, 0, none⟩) 1 1] rfl rfl HNW2.out HON.out (by decide) (by unfold maxLen; omega) (by omega) (by have := HS8.out; simp; omega) _ rfl ?_; intro g4 c4 w9 ho4 hg4 hat4 hlt4; have H9 : Hid (((w8.alloc (.cells #[.slice au A.length cu] 22)).alloc (.cells #[.slice av P.length cv, .slice (some ⟨w8.heap.size, 0, none⟩) 1 1] 37)).grownBy w9 (Value.slice a2 (2 * k) c2).ownBlock ∧ w9.ownsRow w.heap.size 37 1 (.slice (some ⟨g4, 0, none⟩) (2 * k + 2) c4) (2 * k + 2) ((T.flatMap fun t : TT => [t.lv, sv t]) ++ [.slice av P.length cv, .slice (some ⟨w8.heap.size, 0, none⟩) 1 1])) := ⟨hg4, ho4⟩; clear ho4 hg4 hat4 hlt4)
              have hN : ∃ t, GW w w9 po qo gm fs (T ++ [t]) (.slice (some ⟨g3, 0, none⟩) (k + 1) c3) (.slice (some ⟨g4, 0, none⟩) (2 * k + 2) c4) F P A := by
                have h := HT.out
                refine HW.out.snoc H7.out.1 H7.out.2.1 H7.out.2.2.1 H7.out.2.2.2 H8.out.1 ?_ H9.out.1 ?_
                · rw [h]; exact H8.out.2
                · rw [h]; exact H9.out.2
              obtain ⟨t, hN⟩ := hN
              have HN : Hid (GW w w9 po qo gm fs (T ++ [t]) (.slice (some ⟨g3, 0, none⟩) (k + 1) c3) (.slice (some ⟨g4, 0, none⟩) (2 * k + 2) c4) F P A) := hN
              clear hN H7 H8 H9 HO2 HNW2 HSZ HS8 HW
              go_wp2_with (go_at_call 14; fail)
              refine (still_any gm (fs.length + 8) _ fs w9 hn (Nat.le_refl _) HN.out.gm (HI.out.1.below HN.out.bel)).mono ?_
              rintro e w10 ⟨rfl, hb10⟩
              have HN2 : Hid (GW w w10 po qo gm fs (T ++ [t]) (.slice (some ⟨g3, 0, none⟩) (k + 1) c3) (.slice (some ⟨g4, 0, none⟩) (2 * (k + 1)) c4) F P A) := HN.out.below hb10
              clear HN hb10
              go_wp2
              go_roundw
              case rel => exact ⟨k + 1, T ++ [t], some ⟨g3, 0, none⟩, some ⟨g4, 0, none⟩, c3, c4, by omega, by rw [List.length_append, HT.out]; rfl, by go_num, rfl, rfl, HN2.out⟩
              case measure => simp [intOf]; omega
    · obtain rfl : k = 3 := by omega
      clear HW0
      go_wp2_with (go_at_call 18; fail)
      refine (HRGrp.out wo HW.out.bel).mono ?_
      rintro e w5 ⟨p2, u2, rfl, hp2, hu2, hb5⟩
      obtain ⟨av2, cv2, hv1, _⟩ := hp2.form
      obtain ⟨au2, cu2, hv2, _⟩ := hu2.src
      subst hv1 hv2
      have H5 : Hid (GW w w5 po qo gm fs T (.slice a1 3 c1) (.slice a2 6 c2) F P A ∧ OwnP w5 wo.heap.size (.slice av2 P.length cv2) P ∧ OwnF w5 wo.heap.size (.slice au2 A.length cu2) A) := ⟨HW.out.below hb5, hp2, hu2⟩
      clear hp2 hu2 hb5 HW
      go_wp2_with (go_at_call 17; fail)
      refine (HRFind.out _ w5 (HI.out.1.below H5.out.1.bel)).mono ?_
      rintro e w6 ⟨u2, rfl, ho2, hb2⟩
      obtain ⟨aq, cq, hu2, hcq, _⟩ := ho2.form
      subst hu2
      have H6 : Hid (GW w w6 po qo gm fs T (.slice a1 3 c1) (.slice a2 6 c2) F P A ∧ OwnP w6 wo.heap.size (.slice av2 P.length cv2) P ∧ OwnF w6 wo.heap.size (.slice au2 A.length cu2) A ∧ OwnN w6 w5.heap.size (.slice aq F.length cq) F) := ⟨H5.out.1.below hb2, H5.out.2.1.below hb2, H5.out.2.2.below hb2, ho2⟩
      clear hb2 ho2 H5
      obtain ⟨t0, t1, t2, hT3⟩ : ∃ t0 t1 t2, T = [t0, t1, t2] := by
        have h := HT.out
        match T, h with
        | [t0, t1, t2], _ => exact ⟨t0, t1, t2, rfl⟩
      have HCl : Hid (∀ wr, Below w6.heap.size w6 wr → ∀ (i : Nat) t, T[i]? = some t → ∃ ga gl b1 d1 b2 d2 b3 d3, a1 = some ⟨ga, 0, none⟩ ∧ a2 = some ⟨gl, 0, none⟩ ∧ t.pv = .slice b1 F.length d1 ∧ t.lv = .slice b2 P.length d2 ∧ t.uu = .slice b3 A.length d3 ∧ wr.cell? ⟨ga, i, none⟩ = some (.slice b1 F.length d1) ∧ wr.cell? ⟨gl, 2 * i, none⟩ = some (.slice b2 P.length d2) ∧ wr.cell? ⟨gl, 2 * i + 1, none⟩ = some (.slice (some ⟨t.h, 0, none⟩) 1 1) ∧ wr.cell? ⟨t.h, 0, none⟩ = some (.slice b3 A.length d3)) := fun wr hb i t hi => by
        have hg := (H6.out.1.below hb).gs
        have ht := (hg.tn t (List.mem_of_getElem? hi)).1
        obtain ⟨ga, ca, gl, cl, e1, e2, q1, q2, q3, q4⟩ := hg.hs.cells hi
        injection e1 with e1 _ _
        injection e2 with e2 _ _
        obtain ⟨b1, d1, f1, _⟩ := row_form ht.pl
        obtain ⟨b2, d2, f2, _⟩ := row_form ht.pr
        obtain ⟨b3, d3, f3, _⟩ := ht.ou.src
        rw [f1] at q1
        rw [f2] at q2
        rw [f3] at q4
        exact ⟨ga, gl, b1, d1, b2, d2, b3, d3, e1, e2, f1, f2, f3, q1, q2, q3, q4⟩
      go_wp2
      go_loopw [32] (fun i wr => ∃ j q : Nat, j ≤ 3 ∧ i = .int .i64 (j : Int) ∧ wr = w6.drewN q) (fun i _ => 3 - (intOf i).toNat)
      case atStart => exact ⟨0, 0, Nat.zero_le _, rfl, rfl⟩
      case round =>
        obtain ⟨j, q, hj, rfl, hw⟩ := hrel
        have HB : Hid (Below w6.heap.size w6 wr) := by show Below _ _ _; rw [hw]; exact below_drewN (Below.refl _ w6) q
        have HWQ : Hid (wr = w6.drewN q) := hw
        clear hw
        rename World => w7
        by_cases hlt2 : j < 3
        · have hlt2' : (j : Int) < (3 : Int) := by omega
          obtain ⟨t, ht⟩ : ∃ t, T[j]? = some t := ⟨_, List.getElem?_eq_getElem (by have := HT.out; omega)⟩
          obtain ⟨ga, gl, b1, d1, b2, d2, b3, d3, e1, e2, f1, f2, f3, q1, q2, q3, q4⟩ := HCl.out w7 HB.out j t ht
          subst e1 e2
          have HTn : Hid (∀ wr, Below w6.heap.size w6 wr → OwnN wr t.b (.slice b1 F.length d1) F ∧ OwnP wr t.b (.slice b2 P.length d2) P ∧ OwnF wr t.b (.slice b3 A.length d3) A ∧ OwnP wr wo.heap.size (.slice av2 P.length cv2) P ∧ OwnF wr wo.heap.size (.slice au2 A.length cu2) A ∧ OwnN wr w5.heap.size (.slice aq F.length cq) F) := fun wr hb => by
            have hg := (H6.out.1.below hb).gs
            have h := (hg.tn t (List.mem_of_getElem? ht)).1
            have r1 := h.pl
            have r2 := h.pr
            have r3 := h.ou
            rw [f1] at r1
            rw [f2] at r2
            rw [f3] at r3
            exact ⟨r1, ⟨t.vs, r2, h.pt, h.ap⟩, r3, H6.out.2.1.below hb, H6.out.2.2.1.below hb, H6.out.2.2.2.below hb⟩
          have HQ : Hid (∀ wr, Below w6.heap.size w6 wr → wr.cell? ⟨ga, j, none⟩ = some (.slice b1 F.length d1) ∧ wr.cell? ⟨gl, 2 * j, none⟩ = some (.slice b2 P.length d2)) := fun wr hb => by
            obtain ⟨ga', gl', b1', d1', b2', d2', b3', d3', e1, e2, g1, g2, g3, p1, p2, p3, p4⟩ := HCl.out wr hb j t ht
            injection e1 with e1
            injection e1 with e1
            injection e2 with e2
            injection e2 with e2
            subst e1 e2
            rw [g1] at f1
            rw [g2] at f2
            rw [f1] at p1
            rw [f2] at p2
            exact ⟨p1, p2⟩
          clear f1 f2 f3 ht HCl
          generalize t.h = th at *
          generalize t.b = tb at *
          go_wp2_with (go_at_call 11; fail)
          refine (same_yes _ _ A w7 (by omega) (HTn.out w7 HB.out).2.2.1.src (HTn.out w7 HB.out).2.2.2.2.1.src).mono ?_
          rintro e w8 ⟨rfl, q8, hw8⟩
          have HW8 : Hid (∃ q, w8 = w6.drewN q) := ⟨_, by rw [hw8, HWQ.out, World.drewN_drewN]⟩
          have HB8 : Hid (Below w6.heap.size w6 w8) := by obtain ⟨q, e⟩ := HW8.out; show Below _ _ _; rw [e]; exact below_drewN (Below.refl _ w6) q
          obtain ⟨x1, x2⟩ := HQ.out w8 HB8.out
          clear hw8 HWQ HB q1 q2 q3 q4
          go_wp2
          clear x1 x2
          go_loopw [33, 34] (fun o i wr => ∃ k : Nat, k ≤ P.length ∧ i = .int .i64 (k : Int) ∧ o = .bool true ∧ ∃ q, wr = w6.drewN q) (fun _ i _ => P.length - (intOf i).toNat)
          case atStart => exact ⟨0, Nat.zero_le _, rfl, rfl, HW8.out⟩
          case round =>
            obtain ⟨j3, hj3, rfl, rfl, q3, hw⟩ := hrel
            have HWQ : Hid (wr = w6.drewN q3) := hw
            have HB : Hid (Below w6.heap.size w6 wr) := by show Below _ _ _; rw [hw]; exact below_drewN (Below.refl _ w6) q3
            clear hw
            by_cases hlt3 : j3 < P.length
            · have hlt3' : (j3 : Int) < (P.length : Int) := by omega
              have hPj : P[j3]? = some P[j3] := List.getElem?_eq_getElem hlt3
              have hgl : P[j3].length ≤ fs.length := HI.out.2.2 _ (List.getElem_mem hlt3)
              generalize P[j3] = gk at *
              obtain ⟨x1, x2, e1, hx⟩ := (HTn.out wr HB.out).2.1.form
              obtain ⟨g1, s1, eg1, hcj1, hs1⟩ := hx j3 _ hPj
              injection e1 with e1 _ e9
              rw [eg1] at e1
              subst e1 e9
              obtain ⟨y1, y2, e1, hy⟩ := (HTn.out wr HB.out).2.2.2.1.form
              obtain ⟨g2, s2, eg2, hcj2, hs2⟩ := hy j3 _ hPj
              injection e1 with e1 _ e9
              rw [eg2] at e1
              subst e1 e9
              have HSM : Hid (∀ q', Calls Tryd.prog 11 #[s1, s2] (wr.drewN q') fun e w' => e = .returned (.bool true) ∧ ∃ m, w' = (wr.drewN q').drewN m) := fun q' => by
                have hb : Below wr.heap.size wr (wr.drewN q') := below_drewN (Below.refl _ wr) q'
                exact same_yes s1 s2 gk _ (by omega) ((hs1.below hb).src) ((hs2.below hb).src)
              obtain ⟨a11, c11, hu11, _⟩ := hs1.src
              obtain ⟨a12, c12, hu12, _⟩ := hs2.src
              subst hu11 hu12
              have q2 := (HQ.out wr HB.out).2
              clear hx hy hs1 hs2 hPj hgl eg1 eg2
              go_wp2
              go_quiet ((go_at_call 11; refine Calls.quiet_of (HSM.out _)))
              go_wp2
              go_roundw
              case rel => exact ⟨j3 + 1, by omega, by go_num, rfl, _, by rw [HWQ.out, World.drewN_drewN]⟩
              case measure => simp [intOf]; omega
            · rename World => w9
              have HW9 : Hid (∃ q, w9 = w6.drewN q) := ⟨_, HWQ.out⟩
              clear HWQ HB
              go_wp2
              go_loopw [33, 35] (fun o i wr => ∃ k : Nat, k ≤ F.length ∧ i = .int .i64 (k : Int) ∧ o = .bool true ∧ ∃ q, wr = w6.drewN q) (fun _ i _ => F.length - (intOf i).toNat)
              case atStart => exact ⟨0, Nat.zero_le _, rfl, rfl, HW9.out⟩
              case round =>
                obtain ⟨j4, hj4, rfl, rfl, q4, hw⟩ := hrel
                have HWQ : Hid (wr = w6.drewN q4) := hw
                have HB : Hid (Below w6.heap.size w6 wr) := by show Below _ _ _; rw [hw]; exact below_drewN (Below.refl _ w6) q4
                clear hw
                by_cases hlt4 : j4 < F.length
                · have hlt4' : (j4 : Int) < (F.length : Int) := by omega
                  have hFj : F[j4]? = some F[j4] := List.getElem?_eq_getElem hlt4
                  obtain ⟨x1, x2, e1, _, hx⟩ := (HTn.out wr HB.out).1.form
                  obtain ⟨g1, eg1, hcj1⟩ := hx j4 _ hFj
                  injection e1 with e1 _ e9
                  rw [eg1] at e1
                  subst e1 e9
                  obtain ⟨y1, y2, e1, _, hy⟩ := (HTn.out wr HB.out).2.2.2.2.2.form
                  obtain ⟨g2, eg2, hcj2⟩ := hy j4 _ hFj
                  injection e1 with e1 _ e9
                  rw [eg2] at e1
                  subst e1 e9
                  have q1 := (HQ.out wr HB.out).1
                  clear hx hy hFj eg1 eg2
                  generalize F[j4] = fj at *
                  go_wp2
                  go_quiet (fail)
                  go_wp2
                  go_roundw
                  case rel => exact ⟨j4 + 1, by omega, by go_num, rfl, _, by rw [HWQ.out, World.drewN_drewN]⟩
                  case measure => simp [intOf]; omega
                · go_wp2
                  go_roundw
                  case rel => exact ⟨j + 1, _, by omega, by go_num, HWQ.out⟩
                  case measure => simp [intOf]; omega
        · obtain ⟨ga, gl, b1, d1, b2, d2, b3, d3, e1, e2, f1, f2, f3, q1, q2, q3, q4⟩ := HCl.out w7 HB.out 0 t0 (by rw [hT3]; rfl)
          subst e1 e2
          have hG := H6.out.1.below HB.out
          have H7 : Hid (L7 w.heap.size w w7 po qo T (.slice (some ⟨ga, 0, none⟩) 3 c1) (.slice (some ⟨gl, 0, none⟩) 6 c2) F P (usOf P A (T.drop 0)) 0) := ⟨⟨_, [], hG.gs.fs po hG.po HPQ.out.1 hG.bel.size, by simp⟩, hG.gs.hs, hG.qo, hG.bel⟩
          have HD3 : Hid (usOf P A (T.drop 3) = []) := by show _ = _; rw [hT3]; rfl
          have HPl : Hid (∀ gs ∈ P, gs.length ≤ 5864062014634) := fun gs hg => Nat.le_trans (HI.out.2.2 gs hg) hn
          clear hG H6 HB HWQ HCl f1 f2 f3 q1 q2 q3 q4 hT3
          go_wp2
          go_loopw [36] (fun i wr => ∃ k : Nat, k ≤ 3 ∧ i = .int .i64 (k : Int) ∧ L7 w.heap.size w wr po qo T (.slice (some ⟨ga, 0, none⟩) 3 c1) (.slice (some ⟨gl, 0, none⟩) 6 c2) F P (usOf P A (T.drop k)) (200 * k)) (fun i _ => 3 - (intOf i).toNat)
          case atStart => exact ⟨0, Nat.zero_le _, rfl, H7.out⟩
          case round =>
            obtain ⟨k, hk7, rfl, hL⟩ := hrel
            rename World => w8
            clear H7
            by_cases hlt7 : k < 3
            · have hlt7' : (k : Int) < (3 : Int) := by omega
              obtain ⟨t, ht⟩ : ∃ t, T[k]? = some t := ⟨_, List.getElem?_eq_getElem (by have := HT.out; omega)⟩
              obtain ⟨b2, d2, e2, _⟩ := row_form (hL.hs.pl t (List.mem_of_getElem? ht)).2.1
              have q2 : w8.cell? ⟨gl, 2 * k, none⟩ = some (.slice b2 P.length d2) := by
                obtain ⟨ga', ca', gl', cl', e3, e4, p1, p2, p3, p4⟩ := hL.hs.cells ht
                injection e4 with e4 _ _
                injection e4 with e4
                injection e4 with e4
                subst e4
                rw [e2] at p2
                exact p2
              have HC7 : Hid (Calls Tryd.prog 19 #[.pointer (some ⟨po, 0, none⟩), .slice b2 P.length d2] w8 fun e w' => e = .returned (.tuple #[]) ∧ L7 w.heap.size w w' po qo T (.slice (some ⟨ga, 0, none⟩) 3 c1) (.slice (some ⟨gl, 0, none⟩) 6 c2) F P ((t.uu, A) :: usOf P A (T.drop (k + 1))) (200 * k + 198)) := fill7a hL ht e2 hP99 (by omega) HPl.out (by omega)
              have HT7 : Hid (T[k]? = some t) := ht
              clear hL e2 ht
              go_wp2_with (go_at_call 19; fail)
              refine HC7.out.mono ?_
              rintro e w9 ⟨rfl, hL9⟩
              have q3 : w9.cell? ⟨gl, 2 * k + 1, none⟩ = some (.slice (some ⟨t.h, 0, none⟩) 1 1) := by
                obtain ⟨ga', ca', gl', cl', e3, e4, p1, p2, p3, p4⟩ := hL9.hs.cells HT7.out
                injection e4 with e4 _ _
                injection e4 with e4
                injection e4 with e4
                subst e4
                exact p3
              have HC8 : Hid (Calls Tryd.prog 19 #[.pointer (some ⟨po, 0, none⟩), .slice (some ⟨t.h, 0, none⟩) 1 1] w9 fun e w' => e = .returned (.tuple #[]) ∧ L7 w.heap.size w w' po qo T (.slice (some ⟨ga, 0, none⟩) 3 c1) (.slice (some ⟨gl, 0, none⟩) 6 c2) F P (usOf P A (T.drop (k + 1))) (200 * k + 198 + 2)) := fill7b hL9 HT7.out (by omega) HPl.out (by omega)
              clear hL9 HC7 q2 HT7
              generalize t.h = th at *
              go_wp2_with (go_at_call 19; fail)
              refine HC8.out.mono ?_
              rintro e w10 ⟨rfl, hL10⟩
              have HL10 : Hid (L7 w.heap.size w w10 po qo T (.slice (some ⟨ga, 0, none⟩) 3 c1) (.slice (some ⟨gl, 0, none⟩) 6 c2) F P (usOf P A (T.drop (k + 1))) (200 * (k + 1))) := hL10
              clear hL10 HC8 q3
              go_wp2
              go_roundw
              case rel => exact ⟨k + 1, by omega, by go_num, HL10.out⟩
              case measure => simp [intOf]; omega
            · have HK3 : Hid (k = 3) := by show k = 3; omega
              have hge : ¬ ((k : Int) < 3) := by omega
              rw [HK3.out, HD3.out] at hL
              have H8 : Hid (L8 w.heap.size w w8 po qo T (.slice (some ⟨ga, 0, none⟩) 3 c1) (.slice (some ⟨gl, 0, none⟩) 6 c2) F P 0) := hL.l8 (by omega) HPQ.out.2
              clear hL HD3
              go_wp2
              go_loopw [37] (fun i wr => ∃ k : Nat, k ≤ 3 ∧ i = .int .i64 (k : Int) ∧ L8 w.heap.size w wr po qo T (.slice (some ⟨ga, 0, none⟩) 3 c1) (.slice (some ⟨gl, 0, none⟩) 6 c2) F P k) (fun i _ => 3 - (intOf i).toNat)
              case atStart => exact ⟨0, Nat.zero_le _, rfl, H8.out⟩
              case round =>
                obtain ⟨k, hk8, rfl, hL⟩ := hrel
                clear H8
                by_cases hlt8 : k < 3
                · have hlt8' : (k : Int) < (3 : Int) := by omega
                  obtain ⟨t, ht⟩ : ∃ t, T[k]? = some t := ⟨_, List.getElem?_eq_getElem (by have := HT.out; omega)⟩
                  obtain ⟨b1, d1, b2, d2, f1, f2⟩ := hL.form ht
                  have hcl : ∀ m w', L8 w.heap.size w w' po qo T (.slice (some ⟨ga, 0, none⟩) 3 c1) (.slice (some ⟨gl, 0, none⟩) 6 c2) F P m → w'.cell? ⟨ga, k, none⟩ = some (.slice b1 F.length d1) ∧ w'.cell? ⟨gl, 2 * k, none⟩ = some (.slice b2 P.length d2) := fun m w' h => by
                    have h2 := RR.cells (T := T) (ga := ga) (ca := c1) (gl := gl) (cl := c2) (by rw [HT.out]; exact h.rr) ht
                    rw [f1, f2] at h2
                    exact h2
                  have HKP : Hid (∀ w', Below wr.heap.size wr w' → w'.cell? ⟨ga, k, none⟩ = some (.slice b1 F.length d1) ∧ w'.cell? ⟨gl, 2 * k, none⟩ = some (.slice b2 P.length d2)) := fun w' hb => hcl k w' (hL.below hb)
                  have h1 : ∀ w', Below wr.heap.size wr w' → Calls Tryd.prog 20 #[.pointer (some ⟨qo, 0, none⟩), .slice b1 F.length d1, .slice b2 P.length d2] w' fun e w'' => e = .returned (.tuple #[]) ∧ L8 w.heap.size w w'' po qo T (.slice (some ⟨ga, 0, none⟩) 3 c1) (.slice (some ⟨gl, 0, none⟩) 6 c2) F P (k + 1) ∧ (w''.cell? ⟨ga, k, none⟩ = some (.slice b1 F.length d1) ∧ w''.cell? ⟨gl, 2 * k, none⟩ = some (.slice b2 P.length d2)) := fun w' hb => by
                    have h := fill8 (hL.below hb) ht hlt8 hP99 (by omega)
                    rw [f1, f2] at h
                    exact h.mono fun e w'' ⟨a, b⟩ => ⟨a, b, hcl (k + 1) w'' b⟩
                  obtain ⟨q1, q2⟩ := HKP.out wr (Below.refl _ _)
                  have hB1 : Below wr.heap.size wr wr.drew := (Below.refl _ wr).drew
                  clear hcl hL f1 f2 ht
                  have hk0 : (0 : Int) ≤ 2 * (k : Int) := by omega
                  have hk1 : 2 * (k : Int) < 6 := by omega
                  have hkw : IntKind.i64.wrap (2 * (k : Int)) = 2 * (k : Int) := by rw [IntKind.wrap_i64]; omega
                  have hkt : (2 * (k : Int)).toNat = 2 * k := by omega
                  go_upto_region 59 with fail
                  go_region_held3 (fun w' => w'.cell? ⟨ga, k, none⟩ = some (.slice b1 F.length d1) ∧ w'.cell? ⟨gl, 2 * k, none⟩ = some (.slice b2 P.length d2)) (first | exact hS3 | exact HKP.out _ hB1) (first | (go_at_call 20; refine (h1 _ hB1).mono ?_; rintro e w3 ⟨rfl, hI3, hS3⟩; have H3 : Hid (L8 w.heap.size w w3 po qo T (.slice (some ⟨ga, 0, none⟩) 3 c1) (.slice (some ⟨gl, 0, none⟩) 6 c2) F P (k + 1)) := hI3; clear hI3))
                  all_goals clear hS3 hB1 h1 HKP q1 q2
                  all_goals go_wp2
                  all_goals go_roundw
                  case rel => exact ⟨k + 1, by omega, by go_num, H3.out⟩
                  case measure => simp [intOf]; omega
                · obtain rfl : k = 3 := by omega
                  obtain ⟨⟨vo, E, vu, Eu, hf, hE, hu, hEu⟩, _, hbl⟩ := hL
                  have h1 := looks_any po E wr hf.ownr (by omega)
                  have HU : Hid (US w.heap.size wr qo vu Eu (T.drop 3) F P ∧ Eu.length = 2 * 3 ∧ Below w.heap.size w wr) := ⟨hu, hEu, hbl⟩
                  clear hf hE hu hEu hbl
                  go_wp2_with (go_at_call 21; fail)
                  refine h1.mono ?_
                  rintro e w9 ⟨rfl, hb9⟩
                  have h2 := olooks_any qo Eu w9 (HU.out.1.below hb9).out (by have := HU.out.2.1; omega)
                  have H9 : Hid (Below w.heap.size w w9) := HU.out.2.2.trans (hb9.mono HU.out.2.2.size)
                  clear h1 hb9 HU
                  go_wp2_with (go_at_call 22; fail)
                  refine h2.mono ?_
                  rintro e w10 ⟨rfl, hb10⟩
                  have H10 : Hid (Below w.heap.size w w10) := H9.out.trans (hb10.mono H9.out.size)
                  clear h2 hb10 H9
                  go_wp2
                  go_ret
                  exact ⟨rfl, H10.out⟩
end Go.Proofs.YtfgfjkchcnpakaaDoor
