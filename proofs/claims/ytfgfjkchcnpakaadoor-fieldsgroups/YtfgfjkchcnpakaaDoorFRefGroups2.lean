/-
  The reference of fields: Groups, where parts are counted.
-/
import Derived.Test.YtfgfjkchcnpakaaDoorFRefGroups
namespace Go.Proofs.YtfgfjkchcnpakaaDoor
set_option linter.unusedVariables false
open Go.RowKit

theorem own_formN {w : World} {B n : Nat} {v : Value} {fs : List Fld} (hn : fs.length = n) (h : w.ownsRow B 36 2 v (0 + n) ([] ++ fcs fs)) : ∃ a c, v = .slice a n c ∧ OwnF w B (.slice a n c) fs := by
  subst hn
  exact own_form h
set_option maxRecDepth 100000 in
set_option maxHeartbeats 4000000 in
theorem refGroups_some (b off cap : Nat) (fs : List Fld) (count first : Int) (w : World) (hs : SrcF w (.slice (some ⟨b, off, none⟩) fs.length cap) fs) (hn : fs.length ≤ 5864062014634) (hvl : ∀ f ∈ fs, f.2.length ≤ maxLen) (a : Nat) (hix : ix (isT count) fs = some a) (V : List UInt8) (hV : fs[a]?.map (·.2) = some V) (hcell : w.cell? ⟨b, off + a * 2 + 1, none⟩ = some (.string (bs V))) (hcp : fs.length ≤ cap) :
    Calls Tryd.prog 18 #[.slice (some ⟨b, off, none⟩) fs.length cap, .int .i64 count, .int .i64 first] w fun x w' => RGR (grpAt fs a V first) w x w' := by
  obtain ⟨i0, hi, hz0, hz1, hz2⟩ := info_parts infoF
  obtain ⟨i1, hi1, hx0, hx1, hx2⟩ := info_parts info22
  have h1 := refFind_any _ fs count w hs hn
  obtain ⟨r, hfe⟩ := ix_some_find count fs 0 a hix
  have hfe' : findL count fs = a :: r := by unfold findL; rw [hfe, Nat.zero_add]
  rw [hfe'] at h1
  have halt := ix_lt _ _ _ hix
  have halt' : (a : Int) < (fs.length : Int) := by omega
  have hVl : V.length ≤ maxLen := by
    cases hq : fs[a]? with
    | none => rw [hq] at hV; cases hV
    | some f => rw [hq] at hV; injection hV with hV; rw [← hV]; exact hvl f (List.mem_of_getElem? hq)
  have h2 := fun w' => refParseUint_any (bs V) 99 w' (by rw [bs_size]; exact hVl) (by decide)
  simp only [bs_list] at h2
  have hp0 := pu_bd V 99 (by decide)
  have hp1 := puN_le V 99 (by decide)
  have HS : Hid (SrcF w (.slice (some ⟨b, off, none⟩) fs.length cap) fs) := hs
  have HCA : Hid (∀ w', Below w.heap.size w w' → w'.cell? ⟨b, off + a * 2 + 1, none⟩ = some (.string (bs V))) := fun w' hb => by
    rw [hb.cell (p := ⟨b, off + a * 2 + 1, none⟩) (World.block_lt_of_cell? _ _ hcell)]; exact hcell
  generalize hR : grpAt fs a V first = R at *
  unfold grpAt at hR
  clear hfe hfe' hix hV hVl hvl hs hcell
  generalize puE V 99 = PE at *
  generalize puN V 99 = PN at *
  generalize bs V = SV at *
  have ha1 : (a : Int) + 1 ≤ (fs.length : Int) := by omega
  have hrl : ∀ n : Nat, n = r.length + 1 → ¬ (n : Int) = 0 ∧ (0 : Int) < (n : Int) := fun n e => by omega
  by_cases hE : PE = 0
  · subst hE
    rw [if_pos rfl] at hR
    obtain ⟨bh, hbh⟩ : ∃ bh, fs.drop (a + 1) = bh := ⟨_, rfl⟩
    rw [hbh] at hR
    have HBL : Hid (bh.length = fs.length - (a + 1)) := by show _ = _; rw [← hbh]; simp
    have hbl : bh.length ≤ fs.length := by have := HBL.out; omega
    have hfb := findI_bound first bh 0
    have hfs := findI_sorted first bh 0
    have hfl := findI_len first bh 0
    have HFB : Hid ((∀ x ∈ findL first bh, x < bh.length) ∧ (findL first bh).Pairwise (· < ·)) := ⟨fun x hx => by have := hfb x hx; omega, hfs⟩
    have hfl2 : (findL first bh).length ≤ bh.length := hfl
    clear hfb hfs hfl
    have hF := fun (vv : Value) (w' : World) (hv : SrcF w' vv bh) => refFind_any vv bh first w' hv (by omega)
    generalize findL first bh = bg at *
    have HBH : Hid (fs.drop (a + 1) = bh) := hbh
    clear hbh
    go_enter Tryd.func18, Tryd.ntmps18
    go_wp2_with (go_at_call 17; fail)
    refine h1.mono ?_
    rintro e w2 ⟨u2, rfl, ho2, hb2⟩
    obtain ⟨au, cu, rfl, hcu, hcl2⟩ := ho2.form
    obtain ⟨ga, hga, hc0⟩ := hcl2 0 a rfl
    subst hga
    have hca := HCA.out _ hb2
    have HB2 : Hid (Below w.heap.size w w2 ∧ OwnN w2 w.heap.size (.slice (some ⟨ga, 0, none⟩) (a :: r).length cu) (a :: r)) := ⟨hb2, ho2⟩
    clear hb2 h1 ho2 hcl2
    obtain ⟨q9, q10⟩ := hrl (a :: r).length (by simp)
    clear hrl
    generalize (a :: r).length = ln at *
    have hl1 : (1 : Int) ≤ (ln : Int) := by omega
    go_wp2_with (go_at_call 51; fail)
    refine (h2 _).mono ?_
    rintro e w3 ⟨rfl, hw3⟩
    have hw3' := hw3.symm
    subst hw3'
    clear hw3 hca h2
    go_upto_region 8 with fail
    go_cut [13] (fun v wx => ∃ rb cb, v = .slice rb bh.length cb ∧ SrcF wx (.slice rb bh.length cb) bh ∧ wx = w2)
    case first =>
      by_cases hcap : cap = a + 1
      · subst hcap
        go_wp2
        go_meet
        have hb0 : bh = [] := List.length_eq_zero_iff.1 (by have := HBL.out; omega)
        subst hb0
        exact ⟨some ⟨b, off, none⟩, 0, by first | rfl | simp_all, ⟨_, 0, rfl, Nat.le_refl _, .inl rfl⟩, rfl⟩
      · have hcap0 : ¬ cap - (a + 1) = 0 := by omega
        have HX : Hid (SrcF w2 (.slice (some ⟨b, off + (a + 1) * 2, none⟩) (fs.length - (a + 1)) (cap - (a + 1))) bh) := by
          have h := (HS.out.below HB2.out.1).cut (a + 1) fs.length (by omega) (Nat.le_refl _) (cap - (a + 1)) (by omega)
          rw [List.take_length, HBH.out] at h
          exact h
        go_wp2
        go_meet
        exact ⟨_, _, by rw [HBL.out], by rw [HBL.out]; exact HX.out, rfl⟩
    case rest =>
      obtain ⟨rb, cb, rfl, hsr, hw⟩ := hcut
      subst hw
      have HSR : Hid (SrcF wc (.slice rb bh.length cb) bh) := hsr
      clear hsr
      go_wp2_with (go_at_call 17; fail)
      refine (hF _ _ HSR.out).mono ?_
      rintro e w4 ⟨u4, rfl, ho4, hb4⟩
      obtain ⟨ab, cb4, rfl, hcb4, hcl4⟩ := ho4.form
      have HB4 : Hid (Below w.heap.size w w4 ∧ OwnN w4 wc.heap.size (.slice ab bg.length cb4) bg ∧ SrcF w4 (.slice rb bh.length cb) bh ∧ w.heap.size ≤ wc.heap.size) := ⟨HB2.out.1.trans (hb4.mono HB2.out.1.size), ho4, HSR.out.below hb4, HB2.out.1.size⟩
      have hc04 : w4.cell? ⟨ga, 0, none⟩ = some (.int .i64 (a : Int)) := by
        rw [hb4.cell (p := ⟨ga, 0, none⟩) (World.block_lt_of_cell? _ _ hc0)]; exact hc0
      have HSL : Hid (SrcF w4 (.slice (some ⟨b, off, none⟩) fs.length cap) fs) := HS.out.below HB4.out.1
      clear hb4 hF ho4 HSR hc0
      generalize hnb : bg.length = nb at *
      generalize hnh : bh.length = nh at *
      have HNN : Hid (bg.length = nb ∧ bh.length = nh) := ⟨hnb, hnh⟩
      clear hnb hnh
      go_upto_region 10 with fail
      go_cut [69] (fun v wx => v = .bool (!(decide ((nb : Int) = PN) && !stray bh bg)) ∧ wx = w4)
      case first =>
        by_cases hL : (nb : Int) = PN
        · have hLb : ((nb : Int) != PN) = false := by simp [hL]
          have hd : decide ((nb : Int) = PN) = true := decide_eq_true hL
          by_cases hnz : nb = 0
          · have hbg : bg = [] := List.length_eq_zero_iff.1 (by rw [HNN.out.1]; exact hnz)
            have hP0 : (PN == 0) = true := by rw [← hL, hnz]; rfl
            by_cases hb0 : nh = 0
            · have HV : Hid ((!(decide ((nb : Int) = PN) && !stray bh bg)) = false) := by
                show _ = false
                rw [hd, hbg]
                have hst : stray bh [] = false := decide_eq_false (by rw [HNN.out.2, hb0]; omega)
                rw [hst]; rfl
              have hgt : decide ((0 : Int) < (nh : Int)) = false := decide_eq_false (by omega)
              have hgt2 : decide (0 < nh) = false := decide_eq_false (by omega)
              clear hL hd hcl4 hnz hb0 hbg
              go_wp2
              go_meet
              exact ⟨by rw [HV.out], rfl⟩
            · have HV : Hid ((!(decide ((nb : Int) = PN) && !stray bh bg)) = true) := by
                show _ = true
                rw [hd, hbg]
                have hst : stray bh [] = true := decide_eq_true (by rw [HNN.out.2]; omega)
                rw [hst]; rfl
              have hgt : (0 : Int) < (nh : Int) := by omega
              clear hL hd hcl4 hnz hb0 hbg
              go_wp2
              go_meet
              exact ⟨by rw [HV.out], rfl⟩
          · obtain ⟨x, r2, hbg⟩ : ∃ x r2, bg = x :: r2 := by
              cases hq : bg with
              | nil => have := HNN.out.1; rw [hq] at this; exact absurd this.symm hnz
              | cons x r2 => exact ⟨x, r2, rfl⟩
            obtain ⟨gb, hgb, hcx⟩ := hcl4 0 x (by rw [hbg]; rfl)
            subst hgb
            have hxb := HFB.out.1 x (by rw [hbg]; simp)
            have hgt : (0 : Int) < (nh : Int) := by omega
            have hP0 : (PN == 0) = false := by
              rw [← hL]; simp; omega
            have hll : (0 : Int) < (nb : Int) := by omega
            by_cases hx : x = 0
            · have HV : Hid ((!(decide ((nb : Int) = PN) && !stray bh bg)) = false) := by
                show _ = false
                rw [hd, hbg]
                have hst : stray bh (x :: r2) = false := by show decide (0 < x) = false; exact decide_eq_false (by omega)
                rw [hst]; rfl
              subst hx
              clear hL hd hcl4 hnz hbg
              go_wp2
              go_meet
              exact ⟨by rw [HV.out], rfl⟩
            · have HV : Hid ((!(decide ((nb : Int) = PN) && !stray bh bg)) = true) := by
                show _ = true
                rw [hd, hbg]
                have hst : stray bh (x :: r2) = true := by show decide (0 < x) = true; exact decide_eq_true (by omega)
                rw [hst]; rfl
              have hxn : ((x : Int) != 0) = true := by simp; omega
              clear hL hd hcl4 hnz hbg hx
              go_wp2
              go_meet
              exact ⟨by rw [HV.out], rfl⟩
        · have hLb : ((nb : Int) != PN) = true := by simpa using hL
          have HV : Hid ((!(decide ((nb : Int) = PN) && !stray bh bg)) = true) := by show _ = true; rw [decide_eq_false hL]; rfl
          clear hL hcl4
          go_wp2
          go_meet
          exact ⟨by rw [HV.out], rfl⟩
      case rest =>
        obtain ⟨rfl, hw⟩ := hcut
        subst hw
        clear hcl4
        by_cases hok : (nb : Int) = PN ∧ stray bh bg = false
        · have HR : Hid (R = .ok (cutL bh bg, fs.take a)) := by rw [if_pos hok] at hR; exact hR.symm
          have hV : (!(decide ((nb : Int) = PN) && !stray bh bg)) = false := by rw [decide_eq_true hok.1, hok.2]; rfl
          have hn99 : nb ≤ 99 := by have := hok.1; omega
          rw [hV]
          clear hV hok hR
          go_wp2
          go_loopw [15, 16] (fun z i wr => ∃ (k : Nat) (a' : Option Addr) (c' : Nat), k ≤ nb ∧ i = .int .i64 (k : Int) ∧ z = .slice a' k c' ∧ OwnP wr wc.heap.size (.slice a' k c') ((cutL bh bg).take k) ∧ Below wc.heap.size wc wr) (fun _ i _ => nb - (intOf i).toNat)
          case atStart => exact ⟨0, none, 0, Nat.zero_le _, rfl, rfl, OwnP.nil _ _, Below.refl _ _⟩
          case round =>
            obtain ⟨k, a', c', hk, rfl, rfl, ho, hb⟩ := hrel
            have HA : Hid (OwnP wr wc.heap.size (.slice a' k c') ((cutL bh bg).take k) ∧ Below wc.heap.size wc wr) := ⟨ho, hb⟩
            clear ho
            by_cases hlt : k < nb
            · have hlt' : (k : Int) < (nb : Int) := by omega
              obtain ⟨x, hx⟩ : ∃ x, bg[k]? = some x := ⟨_, List.getElem?_eq_getElem (by rw [HNN.out.1]; exact hlt)⟩
              have hxb : x < nh := HFB.out.1 x (List.mem_of_getElem? hx)
              obtain ⟨a2, c2, e2, _, hcl⟩ := (HB4.out.2.1.below hb).form
              rw [HNN.out.1] at e2
              obtain ⟨gu, ea, hcx⟩ := hcl k x hx
              injection e2 with e2 _ e4
              rw [ea] at e2
              subst e2 e4
              have hun := HB4.out.2.1.below hb
              have hsr := HB4.out.2.2.1.below hb
              obtain ⟨ao', cap', e1, hcp2, h0 | ⟨bb, off2, e2, _⟩⟩ := HB4.out.2.2.1.below hb
              · exact absurd (congrArg List.length h0) (by rw [HNN.out.2]; simp; omega)
              injection e1 with e1 e5 e3
              subst e1 e2 e3
              clear e5
              rw [HNN.out.2] at hcp2
              have HSW : Hid (SrcF wr (.slice (some ⟨bb, off2, none⟩) nh cb) bh) := hsr
              have hcat := cutL_at bh bg k x hx
              have HT : Hid ((cutL bh bg).take (k + 1) = (cutL bh bg).take k ++ [(bh.take (bg[k + 1]?.getD bh.length)).drop x]) := by
                show _ = _
                obtain ⟨q1, q2⟩ := List.getElem?_eq_some_iff.1 hcat
                rw [List.take_succ_eq_append_getElem q1, q2]
              clear hcat hcl hsr
              by_cases hlast : k + 1 < nb
              · have hlast' : (k : Int) + 1 < (nb : Int) := by omega
                obtain ⟨y, hy⟩ : ∃ y, bg[k + 1]? = some y := ⟨_, List.getElem?_eq_getElem (by rw [HNN.out.1]; exact hlast)⟩
                have hcy := hun.get (k + 1) y hy
                have hxe : x ≤ y ∧ y ≤ nh := ⟨Nat.le_of_lt (sorted_next HFB.out.2 hx hy), Nat.le_of_lt (HFB.out.1 y (List.mem_of_getElem? hy))⟩
                rw [hy] at HT
                simp only [Option.getD_some] at HT
                have hxe1 : (x : Int) ≤ (y : Int) := by omega
                have hxe2 : (y : Int) ≤ (nh : Int) := by omega
                have hxc : (y : Int) ≤ (cb : Int) := by omega
                clear hx hy hun hb
                have hcutx := (HSW.out).cut x y hxe.1 (by rw [HNN.out.2]; exact hxe.2) (cb - x) (by omega)
                have HNW : Hid (∀ j u, (fcs ((bh.take y).drop x))[j]? = some u → wr.cell? ((⟨bb, off2 + x * 2, none⟩ : Addr).add j) = some u) := srcf_news hcutx
                have hgl : ((bh.take y).drop x).length = y - x := by rw [List.length_drop, List.length_take, HNN.out.2]; omega
                have HFL : Hid ((fcs ((bh.take y).drop x)).length = (y - x) * 2) := by show _ = _; rw [fcs_length, hgl]
                have HBF : Hid (∀ v5 w5, w5.ownsRow wr.heap.size 36 2 v5 (0 + (y - x)) ([] ++ fcs ((bh.take y).drop x)) → wr.grownBy w5 (Value.ownBlock (.slice none 0 0)) → ∃ a3 c3 vs, v5 = .slice a3 (y - x) c3 ∧ Hid (w5.ownsRow wc.heap.size 22 1 (.slice a' k c') k vs ∧ (∀ (i : Nat) (gs : List Fld), ((cutL bh bg).take k)[i]? = some gs → ∃ u, vs[i]? = some u ∧ OwnF w5 wc.heap.size u gs) ∧ ApL vs ∧ (∀ (i : Nat) x', vs[i]? = some x' → ∀ q, x'.ownBlock = some q → (Value.slice a3 (y - x) c3).ownBlock ≠ some q) ∧ ((cutL bh bg).take k).length = k ∧ OwnF w5 wc.heap.size (.slice a3 (y - x) c3) ((bh.take y).drop x) ∧ Below wc.heap.size wc w5)) := fun v5 w5 ho5 hg5 => by
                  have hb5 : Below wr.heap.size wr w5 := (Below.refl _ wr).grown hg5 (Nat.le_refl _) (fun q hq => by cases hq)
                  rw [← hgl] at ho5
                  obtain ⟨a3, c3, e5, hof⟩ := own_form ho5
                  rw [hgl] at e5 hof
                  obtain ⟨vs, h1, h2, h3, h4⟩ := HA.out.1.belowF hb5 hof
                  have hkk : ((cutL bh bg).take k).length = k := by rw [List.length_take, cutL_len, HNN.out.1]; omega
                  rw [hkk] at h1
                  exact ⟨a3, c3, vs, e5, h1, h2, h3, h4, hkk, hof.mono HA.out.2.size, HA.out.2.trans (hb5.mono HA.out.2.size)⟩
                clear hcutx hgl HSW
                go_wp2_with (first
                  | (at_builtin; refine wpList_append_own _ rfl _ _ 22 rfl wr.heap.size 36 i0 (.agg #[.int .i64 0, .string ⟨#[]⟩]) 2 24 Tryd.underlying22 hi hz0 hz1 hz2 rfl (by decide) _ 0 [] rfl (World.ownsRow_nil _ _ _ _) ⟨bb, off2 + x * 2, none⟩ (y - x) (cb - x) (fcs ((bh.take y).drop x)) rfl HFL.out HNW.out (fcs_one _) (by unfold maxLen; omega) (by omega) (Nat.le_refl _) ?_; intro v5 w5 ho5 hg5 hn5; obtain ⟨a3, c3, vs, rfl, HA2⟩ := HBF.out v5 w5 ho5 hg5; clear ho5 hg5 hn5)
                  | (at_builtin; refine wpList_append_lies _ rfl _ _ 37 rfl wc.heap.size 22 i1 (.slice none 0 0) 1 24 Tryd.underlying37 hi1 hx0 hx1 hx2 rfl (by decide) _ k vs rfl (World.ownsRow.alloc HA2.out.1 _) ⟨w5.heap.size, 0, none⟩ 1 1 [.slice a3 (y - x) c3] rfl rfl (World.news_of_block (cs := #[.slice a3 (y - x) c3]) (t := 22) (fr := (0, 0)) (heap_alloc_new w5 _)) (fun x hx => by simp at hx; subst hx; rfl) (by decide) (by unfold maxLen; omega) (by omega) (by have := HA2.out.2.2.2.2.2.2.size; simp at this ⊢; omega) _ rfl ?_; intro g4 c4 w6 ho6 hg6 hat6 hlt6))
                have HF : Hid (OwnP w6 wc.heap.size (.slice (some ⟨g4, 0, none⟩) (k + 1) c4) ((cutL bh bg).take k ++ [(bh.take y).drop x]) ∧ Below wc.heap.size wc w6) := ⟨OwnP.snoc HA2.out.1 HA2.out.2.1 HA2.out.2.2.1 HA2.out.2.2.2.1 HA2.out.2.2.2.2.1 HA2.out.2.2.2.2.2.1 hg6 ho6, Below.grown (HA2.out.2.2.2.2.2.2.alloc HA2.out.2.2.2.2.2.2.size _) hg6 (by have := HA2.out.2.2.2.2.2.2.size; simp; omega) (fun q hq => (HA2.out.1.lt q hq).1)⟩
                clear ho6 hg6 hat6 hlt6
                go_roundw
                case rel => exact ⟨k + 1, some ⟨g4, 0, none⟩, c4, by omega, by go_num, rfl, by rw [HT.out]; exact HF.out.1, HF.out.2⟩
                case measure => simp [intOf]; omega
              · have hlast' : decide ((k : Int) + 1 < (nb : Int)) = false := decide_eq_false (by omega)
                have hlast2 : decide (k + 1 < nb) = false := decide_eq_false (by omega)
                have hxe : x ≤ nh ∧ nh ≤ nh := ⟨by omega, Nat.le_refl _⟩
                rw [List.getElem?_eq_none (by rw [HNN.out.1]; omega)] at HT
                simp only [Option.getD_none] at HT
                rw [HNN.out.2] at HT
                have hxe1 : (x : Int) ≤ (nh : Int) := by omega
                have hxc : (nh : Int) ≤ (cb : Int) := by omega
                clear hx hun hb
                have hcutx := (HSW.out).cut x nh hxe.1 (by rw [HNN.out.2]; exact hxe.2) (cb - x) (by omega)
                have HNW : Hid (∀ j u, (fcs ((bh.take nh).drop x))[j]? = some u → wr.cell? ((⟨bb, off2 + x * 2, none⟩ : Addr).add j) = some u) := srcf_news hcutx
                have hgl : ((bh.take nh).drop x).length = nh - x := by rw [List.length_drop, List.length_take, HNN.out.2]; omega
                have HFL : Hid ((fcs ((bh.take nh).drop x)).length = (nh - x) * 2) := by show _ = _; rw [fcs_length, hgl]
                have HBF : Hid (∀ v5 w5, w5.ownsRow wr.heap.size 36 2 v5 (0 + (nh - x)) ([] ++ fcs ((bh.take nh).drop x)) → wr.grownBy w5 (Value.ownBlock (.slice none 0 0)) → ∃ a3 c3 vs, v5 = .slice a3 (nh - x) c3 ∧ Hid (w5.ownsRow wc.heap.size 22 1 (.slice a' k c') k vs ∧ (∀ (i : Nat) (gs : List Fld), ((cutL bh bg).take k)[i]? = some gs → ∃ u, vs[i]? = some u ∧ OwnF w5 wc.heap.size u gs) ∧ ApL vs ∧ (∀ (i : Nat) x', vs[i]? = some x' → ∀ q, x'.ownBlock = some q → (Value.slice a3 (nh - x) c3).ownBlock ≠ some q) ∧ ((cutL bh bg).take k).length = k ∧ OwnF w5 wc.heap.size (.slice a3 (nh - x) c3) ((bh.take nh).drop x) ∧ Below wc.heap.size wc w5)) := fun v5 w5 ho5 hg5 => by
                  have hb5 : Below wr.heap.size wr w5 := (Below.refl _ wr).grown hg5 (Nat.le_refl _) (fun q hq => by cases hq)
                  rw [← hgl] at ho5
                  obtain ⟨a3, c3, e5, hof⟩ := own_form ho5
                  rw [hgl] at e5 hof
                  obtain ⟨vs, h1, h2, h3, h4⟩ := HA.out.1.belowF hb5 hof
                  have hkk : ((cutL bh bg).take k).length = k := by rw [List.length_take, cutL_len, HNN.out.1]; omega
                  rw [hkk] at h1
                  exact ⟨a3, c3, vs, e5, h1, h2, h3, h4, hkk, hof.mono HA.out.2.size, HA.out.2.trans (hb5.mono HA.out.2.size)⟩
                clear hcutx hgl HSW
                go_wp2_with (first
                  | (at_builtin; refine wpList_append_own _ rfl _ _ 22 rfl wr.heap.size 36 i0 (.agg #[.int .i64 0, .string ⟨#[]⟩]) 2 24 Tryd.underlying22 hi hz0 hz1 hz2 rfl (by decide) _ 0 [] rfl (World.ownsRow_nil _ _ _ _) ⟨bb, off2 + x * 2, none⟩ (nh - x) (cb - x) (fcs ((bh.take nh).drop x)) rfl HFL.out HNW.out (fcs_one _) (by unfold maxLen; omega) (by omega) (Nat.le_refl _) ?_; intro v5 w5 ho5 hg5 hn5; obtain ⟨a3, c3, vs, rfl, HA2⟩ := HBF.out v5 w5 ho5 hg5; clear ho5 hg5 hn5)
                  | (at_builtin; refine wpList_append_lies _ rfl _ _ 37 rfl wc.heap.size 22 i1 (.slice none 0 0) 1 24 Tryd.underlying37 hi1 hx0 hx1 hx2 rfl (by decide) _ k vs rfl (World.ownsRow.alloc HA2.out.1 _) ⟨w5.heap.size, 0, none⟩ 1 1 [.slice a3 (nh - x) c3] rfl rfl (World.news_of_block (cs := #[.slice a3 (nh - x) c3]) (t := 22) (fr := (0, 0)) (heap_alloc_new w5 _)) (fun x hx => by simp at hx; subst hx; rfl) (by decide) (by unfold maxLen; omega) (by omega) (by have := HA2.out.2.2.2.2.2.2.size; simp at this ⊢; omega) _ rfl ?_; intro g4 c4 w6 ho6 hg6 hat6 hlt6))
                have HF : Hid (OwnP w6 wc.heap.size (.slice (some ⟨g4, 0, none⟩) (k + 1) c4) ((cutL bh bg).take k ++ [(bh.take nh).drop x]) ∧ Below wc.heap.size wc w6) := ⟨OwnP.snoc HA2.out.1 HA2.out.2.1 HA2.out.2.2.1 HA2.out.2.2.2.1 HA2.out.2.2.2.2.1 HA2.out.2.2.2.2.2.1 hg6 ho6, Below.grown (HA2.out.2.2.2.2.2.2.alloc HA2.out.2.2.2.2.2.2.size _) hg6 (by have := HA2.out.2.2.2.2.2.2.size; simp; omega) (fun q hq => (HA2.out.1.lt q hq).1)⟩
                clear ho6 hg6 hat6 hlt6
                go_roundw
                case rel => exact ⟨k + 1, some ⟨g4, 0, none⟩, c4, by omega, by go_num, rfl, by rw [HT.out]; exact HF.out.1, HF.out.2⟩
                case measure => simp [intOf]; omega
            · have hkn : nb = k := by omega
              subst hkn
              have hck : (cutL bh bg).take nb = cutL bh bg := List.take_of_length_le (by rw [cutL_len, HNN.out.1]; exact Nat.le_refl _)
              have HP : Hid (OwnP wr wc.heap.size (.slice a' nb c') (cutL bh bg) ∧ Below wc.heap.size wc wr) := by rw [← hck]; exact HA.out
              have hc0w : wr.cell? ⟨ga, 0, none⟩ = some (.int .i64 (a : Int)) := by
                rw [hb.cell (p := ⟨ga, 0, none⟩) (World.block_lt_of_cell? _ _ hc04)]; exact hc04
              have hcuta := (HSL.out.below hb).cut 0 a (by omega) (by omega) cap (by omega)
              rw [Nat.zero_mul, Nat.add_zero, Nat.sub_zero, List.drop_zero] at hcuta
              have HNW : Hid (∀ j u, (fcs (fs.take a))[j]? = some u → wr.cell? ((⟨b, off, none⟩ : Addr).add j) = some u) := srcf_news hcuta
              have hgl : (fs.take a).length = a := by rw [List.length_take]; omega
              have HFL : Hid ((fcs (fs.take a)).length = a * 2) := by show _ = _; rw [fcs_length, hgl]
              have HOF : Hid (∀ v5 w5, w5.ownsRow wc.heap.size 36 2 v5 (0 + a) ([] ++ fcs (fs.take a)) → ∃ a3 c3, v5 = .slice a3 a c3 ∧ OwnF w5 wc.heap.size (.slice a3 a c3) (fs.take a)) := fun v5 w5 ho5 => own_formN hgl ho5
              have hszw : wc.heap.size ≤ wr.heap.size := hb.size
              have hal : (a : Int) ≤ (cap : Int) := by omega
              clear hck HA hb hcuta hgl hc04
              go_wp2_with (at_builtin; refine wpList_append_own _ rfl _ _ 22 rfl wc.heap.size 36 i0 (.agg #[.int .i64 0, .string ⟨#[]⟩]) 2 24 Tryd.underlying22 hi hz0 hz1 hz2 rfl (by decide) _ 0 [] rfl (World.ownsRow_nil _ _ _ _) ⟨b, off, none⟩ a cap (fcs (fs.take a)) rfl HFL.out HNW.out (fcs_one _) (by unfold maxLen; omega) (by omega) hszw ?_; intro v5 w5 ho5 hg5 hn5; obtain ⟨a3, c3, rfl, hof5⟩ := HOF.out v5 w5 ho5)
              have hb5 : Below wr.heap.size wr w5 := (Below.refl _ wr).grown hg5 (Nat.le_refl _) (fun q hq => by cases hq)
              have HZ : Hid (Below w.heap.size w w5 ∧ OwnP w5 w.heap.size (.slice a' nb c') (cutL bh bg) ∧ OwnF w5 w.heap.size (.slice a3 a c3) (fs.take a)) := ⟨HB4.out.1.trans ((HP.out.2.trans (hb5.mono HP.out.2.size)).mono HB4.out.1.size), (HP.out.1.below hb5).mono HB4.out.1.size, hof5.mono HB4.out.1.size⟩
              clear ho5 hg5 hn5 hof5 hb5
              go_ret3
              exact .good HR.out HZ.out.1 rfl HZ.out.2.1 HZ.out.2.2
        · have HR : Hid (R = .error 41) := by rw [if_neg hok] at hR; exact hR.symm
          have hV : (!(decide ((nb : Int) = PN) && !stray bh bg)) = true := by
            cases hd : decide ((nb : Int) = PN) with
            | false => rfl
            | true =>
              cases hst : stray bh bg with
              | true => rfl
              | false => exact absurd ⟨of_decide_eq_true hd, hst⟩ hok
          rw [hV]
          clear hV hok hR
          go_wp2
          go_ret3
          exact .fail HR.out HB4.out.1 rfl
  · rw [if_neg hE] at hR
    have HR : Hid (R = .error 42) := hR.symm
    have hEb : (PE != 0) = true := by simpa using hE
    clear hE hR
    go_enter Tryd.func18, Tryd.ntmps18
    go_wp2_with (go_at_call 17; fail)
    refine h1.mono ?_
    rintro e w2 ⟨u2, rfl, ho2, hb2⟩
    obtain ⟨au, cu, rfl, hcu, hcl2⟩ := ho2.form
    obtain ⟨ga, hga, hc0⟩ := hcl2 0 a rfl
    subst hga
    have hca := HCA.out _ hb2
    have HB2 : Hid (Below w.heap.size w w2) := hb2
    clear hb2 h1 ho2 hcl2
    obtain ⟨q9, q10⟩ := hrl (a :: r).length (by simp)
    clear hrl
    generalize (a :: r).length = ln at *
    have hl1 : (1 : Int) ≤ (ln : Int) := by omega
    go_wp2_with (go_at_call 51; fail)
    refine (h2 _).mono ?_
    rintro e w3 ⟨rfl, hw3⟩
    have hw3' := hw3.symm
    subst hw3'
    clear hw3 hca h2
    go_wp2
    go_ret3
    exact .fail HR.out HB2.out rfl
theorem refGroups_any (v : Value) (fs : List Fld) (count first : Int) (w : World) (hs : SrcF w v fs) (hn : fs.length ≤ 5864062014634) (hz : ∀ n c, v = .slice none n c → c = 0) (hvl : ∀ f ∈ fs, f.2.length ≤ maxLen) :
    Calls Tryd.prog 18 #[v, .int .i64 count, .int .i64 first] w fun x w' => RGR (grpL fs count first) w x w' := by
  cases hix : ix (isT count) fs with
  | none =>
    have e : grpL fs count first = .ok ([], fs) := by unfold grpL; rw [hix]
    rw [e]
    exact refGroups_none v fs count first w hs hn hz hix
  | some a =>
    have halt := ix_lt _ _ _ hix
    have hfa : fs[a]? = some fs[a] := List.getElem?_eq_getElem halt
    have e : grpL fs count first = grpAt fs a fs[a].2 first := by unfold grpL; rw [hix]; show grpAt fs a ((fs[a]?.map (·.2)).getD []) first = _; rw [hfa]; rfl
    rw [e]
    have hs2 := hs
    obtain ⟨ao, cap, rfl, hc, h0 | ⟨b, off, rfl, hcell⟩⟩ := hs2
    · rw [h0] at halt; simp at halt
    · exact refGroups_some b off cap fs count first w hs hn hvl a hix fs[a].2 (by rw [hfa]; rfl) (hcell a _ hfa).2 hc
end Go.Proofs.YtfgfjkchcnpakaaDoor
