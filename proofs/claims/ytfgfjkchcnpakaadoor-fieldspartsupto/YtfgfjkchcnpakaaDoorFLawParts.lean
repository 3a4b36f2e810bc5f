/-
  FieldsParts: the walk.
-/
import Derived.Test.YtfgfjkchcnpakaaDoorFParts1
namespace Go.Proofs.YtfgfjkchcnpakaaDoor
set_option linter.unusedVariables false
open Go.RowKit

theorem part_len (p : List Fld) : (partOf p).length ≤ p.length + 1 := by
  unfold partOf
  have := List.length_filter_le not269 p
  simp; omega
theorem flat_len : ∀ (ps : List (List Fld)) (k : Nat), ((ps.take k).map partOf).flatten.length ≤ (ps.map fun p => p.length + 1).sum
  | [], k => by simp
  | p :: ps, 0 => by simp
  | p :: ps, k + 1 => by
    have ih := flat_len ps k
    have h := part_len p
    rw [List.take_succ_cons, List.map_cons, List.flatten_cons, List.length_append, List.map_cons, List.sum_cons]
    omega
theorem one_len : ∀ (ps : List (List Fld)) (p : List Fld), p ∈ ps → p.length + 1 ≤ (ps.map fun p => p.length + 1).sum
  | q :: ps, p, h => by
    rw [List.map_cons, List.sum_cons]
    rcases List.mem_cons.1 h with rfl | h
    · omega
    · have := one_len ps p h; omega
theorem conv_one (W : World) (B : Nat) (z : Int) (c : UInt8) (hB : W.heap.size = B) (hz : z = (c.toNat : Int)) : (convert 23 9 (.slice (some ⟨B, 0, none⟩) 1 1)).run Tryd.prog (W.alloc (.cells #[.int .u8 z] 5)) = .ok (.string (bs [c])) (W.alloc (.cells #[.int .u8 z] 5)) := by
  subst hB hz
  refine SrcB.conv (l := [c]) ⟨_, _, rfl, Nat.le_refl _, .inr ⟨W.heap.size, 0, rfl, fun j x hj => ?_⟩⟩
  cases j with
  | zero =>
    simp at hj; subst hj
    rw [cell_of_row _ _ _ _ _ _ (heap_alloc_new W _)]; rfl
  | succ j => simp at hj
theorem bs_two (a b : UInt8) : bs [a] ++ bs [b] = bs [a, b] := rfl
theorem part_snoc (p : List Fld) (k : Nat) (h : k < p.length) : partOf (p.take (k + 1)) = partOf (p.take k) ++ (if not269 p[k] then [p[k]] else []) := by
  unfold partOf
  rw [filter_snoc not269 p k h]; rfl
theorem OwnF.addr {w : World} {B n c : Nat} {a : Option Addr} {l : List Fld} (h : OwnF w B (.slice a n c) l) (h0 : 0 < l.length) : ∃ g, a = some ⟨g, 0, none⟩ ∧ n = l.length ∧ l.length ≤ c ∧ ∀ j u, (fcs l)[j]? = some u → w.cell? ((⟨g, 0, none⟩ : Addr).add j) = some u := by
  rcases h.2 with ⟨e, h1⟩ | ⟨g, cap, cur, e, r1, r2, r3, r4, r5, r6⟩
  · omega
  · injection e with e1 e2 e3
    subst e1 e2 e3
    refine ⟨g, rfl, rfl, r3, fun j u hj => ?_⟩
    have hjl : j < l.length * 2 := by rw [← fcs_length]; exact (List.getElem?_eq_some_iff.1 hj).1
    rw [← r6, List.getElem?_take, if_pos (by omega)] at hj
    rw [addr_add, cell_of_row w g _ cur _ _ r2]
    simpa using hj
theorem u8_of (n : Nat) (h : n < 256) : (n : Int) = ((UInt8.ofNat n).toNat : Int) := by
  have : (UInt8.ofNat n).toNat = n := by simp; omega
  rw [this]
set_option maxRecDepth 100000 in
set_option maxHeartbeats 4000000 in
theorem FieldsParts_law (v : Value) (fs : List Fld) (vp : Value) (ps : List (List Fld)) (w : World) (hv : SrcF w v fs) (hps : SrcP w vp ps) (hvl : ∀ f ∈ fs, f.2.length ≤ maxLen) (hvl2 : ∀ p ∈ ps, ∀ f ∈ p, f.2.length ≤ maxLen) (hn : fs.length + (ps.map fun p => p.length + 1).sum ≤ 1000000000) (hp : Pow w) :
    Calls Tryd.prog 4 #[v, vp] w fun e w' => e = .returned (.bool true) ∧ Below w.heap.size w w' := by
  obtain ⟨i0, hi, hz0, hz1, hz2⟩ := info_parts infoF
  obtain ⟨i1, hj, hy0, hy1, hy2⟩ := info_parts info22
  have HI : Hid (SrcF w v fs ∧ SrcP w vp ps ∧ (∀ f ∈ fs, f.2.length ≤ maxLen) ∧ (∀ p ∈ ps, ∀ f ∈ p, f.2.length ≤ maxLen)) := ⟨hv, hps, hvl, hvl2⟩
  have HN : Hid (fs.length + (ps.map fun p => p.length + 1).sum ≤ 1000000000) := hn
  have hfl : fs.length ≤ 1000000000 := by omega
  have h1 := shown_any w hp
  obtain ⟨ao, cap, rfl, hc, _⟩ := hv
  obtain ⟨ap, cp, rfl, hcp, _⟩ := hps
  clear hp hvl hvl2 hn
  by_cases hbig : 99 < ps.length
  · have hbig' : (99 : Int) < (ps.length : Int) := by omega
    have hbd : decide ((99 : Int) < (ps.length : Int)) = true := decide_eq_true hbig'
    have hbd2 : decide (99 < ps.length) = true := decide_eq_true hbig
    go_enter Tryd.func4, Tryd.ntmps4
    go_wp2_with (go_at_call 8; fail)
    refine h1.mono ?_
    rintro e w1 ⟨rfl, hb1⟩
    have HB1 : Hid (Below w.heap.size w w1) := hb1
    clear hb1 h1
    go_wp2
    go_ret
    exact ⟨rfl, HB1.out⟩
  · have hsm : ps.length ≤ 99 := by omega
    have hbig' : ¬ (99 : Int) < (ps.length : Int) := by omega
    have hbd : decide ((99 : Int) < (ps.length : Int)) = false := decide_eq_false hbig'
    have hbd2 : decide (99 < ps.length) = false := decide_eq_false hbig
    go_enter Tryd.func4, Tryd.ntmps4
    go_wp2_with (go_at_call 8; fail)
    refine h1.mono ?_
    rintro e w1 ⟨rfl, hb1⟩
    have HB1 : Hid (Below w.heap.size w w1) := hb1
    clear hb1 h1
    go_wp2
    go_loopw [6, 7] (fun z i wr => ∃ (k : Nat) (a' : Option Addr) (c' : Nat), k ≤ fs.length ∧ i = .int .i64 (k : Int) ∧ z = .slice a' ((fs.take k).filter not268).length c' ∧ PS w wr (.slice a' ((fs.take k).filter not268).length c') ((fs.take k).filter not268) (.slice none 0 0) [] []) (fun _ i _ => fs.length - (intOf i).toNat)
    case atStart => exact ⟨0, none, 0, Nat.zero_le _, rfl, rfl, PS.zero _ _ HB1.out⟩
    case round =>
      obtain ⟨k, a', c', hk, rfl, rfl, hS⟩ := hrel
      have HA : Hid (PS w wr (.slice a' ((fs.take k).filter not268).length c') ((fs.take k).filter not268) (.slice none 0 0) [] []) := hS
      clear hS HB1
      by_cases hlt : k < fs.length
      · have hlt' : (k : Int) < (fs.length : Int) := by omega
        have hfk : fs[k]? = some fs[k] := List.getElem?_eq_getElem hlt
        obtain ⟨ao', cap', e1, _, h0 | ⟨b, off, e2, hcell⟩⟩ := HI.out.1.below HA.out.bel
        · rw [h0] at hlt; simp at hlt
        injection e1 with e1 _ e3
        subst e1 e2 e3
        obtain ⟨c0, c1⟩ := hcell k _ hfk
        have HX := filter_snoc not268 fs k hlt
        have hll : ((fs.take k).filter not268).length ≤ 1000000000 := by
          have h1 := List.length_filter_le not268 (fs.take k)
          rw [List.length_take] at h1; omega
        clear hcell hfk
        generalize fs[k] = f at *
        generalize (fs.take k).filter not268 = L at *
        by_cases hft : f.1 = 268
        · have hnb : (f.1 != 268) = false := by simp [hft]
          have hxx : not268 f = false := by unfold not268; simp [hft]
          rw [hxx] at HX
          have HX2 : Hid ((fs.take (k + 1)).filter not268 = L) := by show _ = _; rw [HX]; simp
          clear HX hxx
          obtain ⟨ft, V⟩ := f
          go_wp2
          go_roundw
          case rel => exact ⟨k + 1, a', c', by omega, by go_num, by rw [HX2.out], by rw [HX2.out]; exact HA.out⟩
          case measure => simp [intOf]; omega
        · have hnb : (f.1 != 268) = true := by simpa using hft
          have hxx : not268 f = true := by unfold not268; simpa using hft
          rw [hxx] at HX
          have HX2 : Hid ((fs.take (k + 1)).filter not268 = L ++ [f]) := by show _ = _; rw [HX]; rfl
          clear HX hxx
          have HNW : Hid (∀ j u, (fcs [f])[j]? = some u → (wr.alloc (.cells #[.int .i64 f.1, .string (bs f.2)] 36)).cell? ((⟨wr.heap.size, 0, none⟩ : Addr).add j) = some u) := fnew wr f
          obtain ⟨ft, V⟩ := f
          go_wp2_with (at_builtin; refine wpList_append_lies _ rfl _ _ 22 rfl w.heap.size 36 i0 (.agg #[.int .i64 0, .string ⟨#[]⟩]) 2 24 Tryd.underlying22 hi hz0 hz1 hz2 rfl (by decide) _ L.length (fcs L) rfl (World.ownsRow.alloc HA.out.ol _) ⟨wr.heap.size, 0, none⟩ 1 1 (fcs [(ft, V)]) rfl rfl HNW.out (fcs_one _) (by decide) (by unfold maxLen; omega) (by omega) (by have := HA.out.bel.size; simp; omega) _ rfl ?_; intro g2 c2 w2 ho2 hg2 hat2 hlt2; have HF : Hid (PS w w2 (.slice (some ⟨g2, 0, none⟩) (L.length + 1) c2) (L ++ [(ft, V)]) (.slice none 0 0) [] []) := HA.out.grow ((Below.refl _ wr).alloc (Nat.le_refl _) _) (by simp) ho2 hg2 hat2; clear ho2 hg2 hat2 hlt2)
          go_roundw
          case rel => exact ⟨k + 1, some ⟨g2, 0, none⟩, c2, by omega, by go_num, by rw [HX2.out, List.length_append]; rfl, by rw [HX2.out, List.length_append]; exact HF.out⟩
          case measure => simp [intOf]; omega
      · obtain rfl : k = fs.length := by omega
        rw [List.take_length] at HA
        rw [List.take_length]
        have HAn : Hid (∀ f ∈ fs.filter not268, f.1 ≠ 268) := fun f hf => by have := (List.mem_filter.1 hf).2; simpa [not268] using this
        have HAl : Hid ((fs.filter not268).length ≤ fs.length) := List.length_filter_le not268 fs
        have hAl : (fs.filter not268).length ≤ 1000000000 := by have := HAl.out; omega
        have HAv : Hid (∀ f ∈ fs.filter not268, f.2.length ≤ maxLen) := fun f hf => HI.out.2.2.1 f (List.mem_filter.1 hf).1
        generalize fs.filter not268 = A at *
        obtain ⟨d0, hd0⟩ : ∃ c, c = UInt8.ofNat (48 + ps.length % 10) := ⟨_, rfl⟩
        obtain ⟨d1, hd1⟩ : ∃ c, c = UInt8.ofNat (48 + ps.length / 10) := ⟨_, rfl⟩
        have HD0 : Hid (d0 = UInt8.ofNat (48 + ps.length % 10) ∧ d1 = UInt8.ofNat (48 + ps.length / 10)) := ⟨hd0, hd1⟩
        have hcv := conv_one wr wr.heap.size (48 + (ps.length : Int) % 10) d0 rfl (by rw [hd0, ← u8_of _ (by omega)]; omega)
        have HB5 : Hid (Below wr.heap.size wr (wr.alloc (.cells #[.int .u8 (48 + (ps.length : Int) % 10)] 5))) := (Below.refl _ wr).alloc (Nat.le_refl _) _
        have hcv2 := conv_one (wr.alloc (.cells #[.int .u8 (48 + (ps.length : Int) % 10)] 5)) (wr.heap.size + 1) (48 + (ps.length : Int) / 10) d1 (by simp) (by rw [hd1, ← u8_of _ (by omega)]; omega)
        clear hd0 hd1
        have HB6 : Hid (Below wr.heap.size wr ((wr.alloc (.cells #[.int .u8 (48 + (ps.length : Int) % 10)] 5)).alloc (.cells #[.int .u8 (48 + (ps.length : Int) / 10)] 5))) := HB5.out.alloc HB5.out.size _
        go_upto_if 58 with fail
        go_cut [9] (fun s wx => s = .string (bs (dgt ps.length)) ∧ PS w wx (.slice a' A.length c') A (.slice none 0 0) [] [])
        case first =>
          by_cases h9 : 9 < ps.length
          · have h9' : (9 : Int) < (ps.length : Int) := by omega
            have HD : Hid (dgt ps.length = [d1, d0]) := by show dgt _ = _; unfold dgt; rw [if_pos h9, HD0.out.1, HD0.out.2]
            go_wp2_with fail
            go_meet
            exact ⟨by rw [HD.out, bs_two], HA.out.below HB6.out⟩
          · have h9' : ¬ (9 : Int) < (ps.length : Int) := by omega
            have HD : Hid (dgt ps.length = [d0]) := by show dgt _ = _; unfold dgt; rw [if_neg h9, HD0.out.1]
            go_wp2_with fail
            go_meet
            exact ⟨by rw [HD.out], HA.out.below HB5.out⟩
        case rest =>
          obtain ⟨rfl, hS⟩ := hcut
          have HA2 : Hid (PS w wc (.slice a' A.length c') A (.slice none 0 0) [] []) := hS
          clear hS HA HB5 HB6 hcv hcv2 HD0
          obtain ⟨D, hD⟩ : ∃ D, dgt ps.length = D := ⟨_, rfl⟩
          rw [hD]
          have HD : Hid (dgt ps.length = D) := hD
          clear hD
          have HNW : Hid (∀ j u, (fcs [((268 : Int), D)])[j]? = some u → (wc.alloc (.cells #[.int .i64 268, .string (bs D)] 36)).cell? ((⟨wc.heap.size, 0, none⟩ : Addr).add j) = some u) := fnew wc (268, D)
          go_wp2_with (at_builtin; refine wpList_append_lies _ rfl _ _ 22 rfl w.heap.size 36 i0 (.agg #[.int .i64 0, .string ⟨#[]⟩]) 2 24 Tryd.underlying22 hi hz0 hz1 hz2 rfl (by decide) _ A.length (fcs A) rfl (World.ownsRow.alloc HA2.out.ol _) ⟨wc.heap.size, 0, none⟩ 1 1 (fcs [(268, D)]) rfl rfl HNW.out (fcs_one _) (by decide) (by unfold maxLen; omega) (by omega) (by have := HA2.out.bel.size; simp; omega) _ rfl ?_; intro g2 c2 w2 ho2 hg2 hat2 hlt2; have HF : Hid (PS w w2 (.slice (some ⟨g2, 0, none⟩) (A.length + 1) c2) (A ++ [(268, D)]) (.slice none 0 0) [] []) := HA2.out.grow ((Below.refl _ wc).alloc (Nat.le_refl _) _) (by simp) ho2 hg2 hat2; clear ho2 hg2 hat2 hlt2)
          clear HA2 HNW
          go_loopw [6, 10, 11, 12, 13] (fun zl zw i _ _ wr => ∃ (k n : Nat) (al : Option Addr) (cl : Nat) (aw : Option Addr) (cw : Nat) (vs : List Value), k ≤ ps.length ∧ i = .int .i64 (k : Int) ∧ n = (A ++ [(268, D)] ++ ((ps.take k).map partOf).flatten).length ∧ zl = .slice al n cl ∧ zw = .slice aw k cw ∧ PS w wr (.slice al n cl) (A ++ [(268, D)] ++ ((ps.take k).map partOf).flatten) (.slice aw k cw) vs ((ps.take k).map partOf)) (fun _ _ i _ _ _ => ps.length - (intOf i).toNat)
          case atStart => exact ⟨0, A.length + 1, _, _, none, 0, [], Nat.zero_le _, rfl, by simp, rfl, rfl, by simpa using HF.out⟩
          case round =>
            obtain ⟨k, n, al, cl, aw, cw, vs, hk, rfl, hn, rfl, rfl, hS⟩ := hrel
            clear HF
            have hfk := flat_len ps k
            have hn2 : n ≤ 1000000001 + 1000000000 := by
              rw [hn, List.length_append, List.length_append]
              have := HN.out
              simp only [List.length_cons, List.length_nil]
              omega
            have hgl : ((ps.take k).map partOf).length = k := by simp; omega
            clear hfk
            by_cases hlt : k < ps.length
            · have hlt' : (k : Int) < (ps.length : Int) := by omega
              have hpk : ps[k]? = some ps[k] := List.getElem?_eq_getElem hlt
              obtain ⟨ao', cap', e1, _, h0 | ⟨bp, offp, e2, hcell⟩⟩ := HI.out.2.1
              · rw [h0] at hlt; simp at hlt
              injection e1 with e1 _ e3
              subst e1 e2 e3
              obtain ⟨u, hu1, hu2⟩ := hcell k _ hpk
              have HU : Hid (w.cell? ⟨bp, offp + k, none⟩ = some u ∧ SrcF w u ps[k]) := ⟨hu1, hu2⟩
              have HT : Hid ((ps.take (k + 1)).map partOf = (ps.take k).map partOf ++ [partOf ps[k]]) := by show _ = _; rw [List.take_succ_eq_append_getElem hlt, List.map_append]; rfl
              have HPL : Hid (ps[k].length + 1 ≤ 1000000000) := by
                show ps[k].length + 1 ≤ 1000000000
                have := one_len ps ps[k] (List.getElem_mem hlt)
                have := HN.out
                omega
              clear hcell hpk hu1 hu2
              generalize ps[k] = p at *
              generalize (ps.take k).map partOf = gss at *
              obtain ⟨L, hL⟩ : ∃ L, A ++ [((268 : Int), D)] ++ gss.flatten = L := ⟨_, rfl⟩
              rw [hL] at hS hn
              have HL : Hid (A ++ [((268 : Int), D)] ++ (gss ++ [partOf p]).flatten = L ++ partOf p) := by show _ = _; rw [← hL]; simp
              have HN0 : Hid (n = L.length) := hn
              clear hL hn
              have hpl : p.length ≤ 1000000000 := by have := HPL.out; omega
              have HQ : Hid _ := PQ.start hS
              clear hS
              obtain ⟨au, cu, hue, hcu, _⟩ := HU.out.2
              subst hue
              go_wp2
              go_loopw [12, 13] (fun z j wr => ∃ (m n2 : Nat) (a2 : Option Addr) (c2 : Nat), m ≤ p.length ∧ j = .int .i64 (m : Int) ∧ n2 = (partOf (p.take m)).length ∧ z = .slice a2 n2 c2 ∧ PQ w wr (.slice al n cl) L (.slice aw k cw) vs gss (.slice a2 n2 c2) (partOf (p.take m))) (fun _ j _ => p.length - (intOf j).toNat)
              case atStart => exact ⟨0, 1, _, _, Nat.zero_le _, rfl, rfl, rfl, HQ.out⟩
              case round =>
                obtain ⟨m, n2, a2, c2, hm, rfl, hn3, rfl, hQ⟩ := hrel
                clear HQ
                have HBW : Hid (Below w.heap.size w wr) := hQ.ps.bel
                have hcu1 : wr.cell? ⟨bp, offp + k, none⟩ = some (.slice au p.length cu) := by rw [HBW.out.cell (p := ⟨bp, offp + k, none⟩) (World.block_lt_of_cell? _ _ HU.out.1)]; exact HU.out.1
                have HQ : Hid (PQ w wr (.slice al n cl) L (.slice aw k cw) vs gss (.slice a2 n2 c2) (partOf (p.take m))) := hQ
                clear hQ
                have hn4 : n2 ≤ 1000000000 + 1 := by
                  rw [hn3]
                  have h1 := part_len (p.take m)
                  rw [List.length_take] at h1; omega
                by_cases hmt : m < p.length
                · have hmt' : (m : Int) < (p.length : Int) := by omega
                  have hfk : p[m]? = some p[m] := List.getElem?_eq_getElem hmt
                  obtain ⟨ao', cap', e1, _, h0 | ⟨b, off, e2, hcell⟩⟩ := HU.out.2.below HBW.out
                  · rw [h0] at hmt; simp at hmt
                  injection e1 with e1 _ e3
                  subst e1 e2 e3
                  obtain ⟨c0, c1⟩ := hcell m _ hfk
                  have HX := part_snoc p m hmt
                  clear hcell hfk
                  generalize p[m] = f at *
                  generalize partOf (p.take m) = P at *
                  by_cases hft : f.1 = 269
                  · have hnb : (f.1 != 269) = false := by simp [hft]
                    have hxx : not269 f = false := by unfold not269; simp [hft]
                    rw [hxx] at HX
                    have HX2 : Hid (partOf (p.take (m + 1)) = P) := by show _ = _; rw [HX]; simp
                    have HN3 : Hid (n2 = P.length) := hn3
                    clear HX hxx hn3
                    obtain ⟨ft, V⟩ := f
                    go_wp2
                    go_roundw
                    case rel => exact ⟨m + 1, n2, a2, c2, by omega, by go_num, by rw [HX2.out]; exact HN3.out, rfl, by rw [HX2.out]; exact HQ.out⟩
                    case measure => simp [intOf]; omega
                  · have hnb : (f.1 != 269) = true := by simpa using hft
                    have hxx : not269 f = true := by unfold not269; simpa using hft
                    rw [hxx] at HX
                    have HX2 : Hid (partOf (p.take (m + 1)) = P ++ [f]) := by show _ = _; rw [HX]; rfl
                    clear HX hxx
                    have HNW : Hid (∀ j u, (fcs [f])[j]? = some u → (wr.alloc (.cells #[.int .i64 f.1, .string (bs f.2)] 36)).cell? ((⟨wr.heap.size, 0, none⟩ : Addr).add j) = some u) := fnew wr f
                    have HO : Hid ((wr.alloc (.cells #[.int .i64 f.1, .string (bs f.2)] 36)).ownsRow w.heap.size 36 2 (.slice a2 n2 c2) n2 (fcs P)) := by have h := World.ownsRow.alloc HQ.out.oq (.cells #[.int .i64 f.1, .string (bs f.2)] 36); rw [← hn3] at h; exact h
                    have HN3 : Hid (n2 = P.length) := hn3
                    clear hn3
                    obtain ⟨ft, V⟩ := f
                    go_wp2_with (at_builtin; refine wpList_append_lies _ rfl _ _ 22 rfl w.heap.size 36 i0 (.agg #[.int .i64 0, .string ⟨#[]⟩]) 2 24 Tryd.underlying22 hi hz0 hz1 hz2 rfl (by decide) _ n2 (fcs P) rfl HO.out ⟨wr.heap.size, 0, none⟩ 1 1 (fcs [(ft, V)]) rfl rfl HNW.out (fcs_one _) (by decide) (by unfold maxLen; omega) (by omega) (by have := HBW.out.size; simp; omega) _ rfl ?_; intro g3 c3 w3 ho3 hg3 hat3 hlt3; have HF : Hid (PQ w w3 (.slice al n cl) L (.slice aw k cw) vs gss (.slice (some ⟨g3, 0, none⟩) (n2 + 1) c3) (P ++ [(ft, V)])) := HQ.out.grow ((Below.refl _ wr).alloc (Nat.le_refl _) _) (by rw [HN3.out]; simp) ho3 hg3 hat3; clear ho3 hg3 hat3 hlt3)
                    go_roundw
                    case rel => exact ⟨m + 1, n2 + 1, some ⟨g3, 0, none⟩, c3, by omega, by go_num, by rw [HX2.out, HN3.out]; simp, rfl, by rw [HX2.out]; exact HF.out⟩
                    case measure => simp [intOf]; omega
                · obtain rfl : m = p.length := by omega
                  rw [List.take_length] at HQ hn3
                  obtain ⟨gp, ea, hq1, hlc, hq2⟩ := HQ.out.oq.addr (by unfold partOf; simp)
                  subst ea
                  clear hq1 hq2
                  have HN3 : Hid (n2 = (partOf p).length ∧ n = L.length ∧ gss.length = k) := ⟨hn3, HN0.out, hgl⟩
                  have HO : Hid ((wr.alloc (.cells #[.slice (some ⟨gp, 0, none⟩) n2 c2] 22)).ownsRow w.heap.size 22 1 (.slice aw k cw) k vs) := by have h := World.ownsRow.alloc HQ.out.ps.ow (.cells #[.slice (some ⟨gp, 0, none⟩) n2 c2] 22); rw [HN3.out.2.2] at h; exact h
                  have hnew : ∀ j u, ([.slice (some ⟨gp, 0, none⟩) n2 c2] : List Value)[j]? = some u → (wr.alloc (.cells #[.slice (some ⟨gp, 0, none⟩) n2 c2] 22)).cell? ((⟨wr.heap.size, 0, none⟩ : Addr).add j) = some u := World.news_of_block (heap_alloc_new wr (.cells #[.slice (some ⟨gp, 0, none⟩) n2 c2] 22))
                  have HNW : Hid (∀ j u, ([.slice (some ⟨gp, 0, none⟩) n2 c2] : List Value)[j]? = some u → (wr.alloc (.cells #[.slice (some ⟨gp, 0, none⟩) n2 c2] 22)).cell? ((⟨wr.heap.size, 0, none⟩ : Addr).add j) = some u) := hnew
                  clear hnew hn3 hgl hlc
                  go_upto_region 26 with (at_builtin; refine wpList_append_lies _ rfl _ _ 37 rfl w.heap.size 22 i1 (.slice none 0 0) 1 24 Tryd.underlying37 hj hy0 hy1 hy2 rfl (by decide) _ k vs rfl HO.out ⟨wr.heap.size, 0, none⟩ 1 1 [.slice (some ⟨gp, 0, none⟩) n2 c2] rfl rfl HNW.out (fun x hx => by simp at hx; subst hx; rfl) (by decide) (by unfold maxLen; omega) (by omega) (by have := HBW.out.size; simp; omega) _ rfl ?_; intro g4 c4 w4 ho4 hg4 hat4 hlt4; have HF : Hid (PS w w4 (.slice al n cl) L (.slice (some ⟨g4, 0, none⟩) (k + 1) c4) (vs ++ [.slice (some ⟨gp, 0, none⟩) n2 c2]) (gss ++ [partOf p])) := HQ.out.snoc ((Below.refl _ wr).alloc (Nat.le_refl _) _) (by simp [HN3.out.2.2]) ho4 hg4; clear ho4 hg4 hat4 hlt4)
                  have HOP : Hid (OwnF w4 w.heap.size (.slice (some ⟨gp, 0, none⟩) n2 c2) (partOf p)) := by
                    obtain ⟨u, e, ho⟩ := HF.out.op k (partOf p) (by rw [List.getElem?_append_right (by have := HN3.out.2.2; omega), HN3.out.2.2]; simp)
                    rw [List.getElem?_append_right (by rw [HQ.out.ps.len, HN3.out.2.2]; exact Nat.le_refl _), HQ.out.ps.len, HN3.out.2.2, Nat.sub_self] at e
                    simp at e
                    subst e
                    exact ho
                  have HNW2 : Hid (∀ j u, (fcs (partOf p))[j]? = some u → w4.cell? ((⟨gp, 0, none⟩ : Addr).add j) = some u) := by
                    obtain ⟨g, e, _, _, h⟩ := HOP.out.addr (by unfold partOf; simp)
                    injection e with e
                    injection e with e
                    subst e
                    exact h
                  have HOL : Hid (w4.ownsRow w.heap.size 36 2 (.slice al n cl) n (fcs L)) := by have h := HF.out.ol; unfold OwnF at h; rw [← HN3.out.2.1] at h; exact h
                  have hn20 : 0 < n2 := by rw [HN3.out.1]; unfold partOf; simp
                  clear HQ HBW HNW HO
                  go_wp2_with (at_builtin; refine wpList_append_lies _ rfl _ _ 22 rfl w.heap.size 36 i0 (.agg #[.int .i64 0, .string ⟨#[]⟩]) 2 24 Tryd.underlying22 hi hz0 hz1 hz2 rfl (by decide) _ n (fcs L) rfl HOL.out ⟨gp, 0, none⟩ n2 c2 (fcs (partOf p)) rfl (by rw [fcs_length, ← HN3.out.1]) HNW2.out (fcs_one _) hn20 (by unfold maxLen; omega) (by omega) HF.out.bel.size _ rfl ?_; intro g5 c5 w5 ho5 hg5 hat5 hlt5; have HG : Hid (PS w w5 (.slice (some ⟨g5, 0, none⟩) (n + n2) c5) (L ++ partOf p) (.slice (some ⟨g4, 0, none⟩) (k + 1) c4) (vs ++ [.slice (some ⟨gp, 0, none⟩) n2 c2]) (gss ++ [partOf p])) := HF.out.grow (Below.refl _ w4) (by rw [HN3.out.1, HN3.out.2.1]; simp) ho5 hg5 hat5; clear ho5 hg5 hat5 hlt5)
                  go_roundw
                  case rel => exact ⟨k + 1, n + n2, some ⟨g5, 0, none⟩, c5, some ⟨g4, 0, none⟩, c4, _, by omega, by go_num, by rw [HT.out, HL.out, HN3.out.1, HN3.out.2.1]; simp, rfl, rfl, by rw [HT.out, HL.out]; exact HG.out⟩
                  case measure => simp [intOf]; omega
            · obtain rfl : k = ps.length := by omega
              rw [List.take_length] at hS hgl hn
              have HVL : Hid (∀ f ∈ A ++ [((268 : Int), D)] ++ (ps.map partOf).flatten, f.2.length ≤ maxLen) := fun f hf => by
                rcases List.mem_append.1 hf with hf | hf
                · rcases List.mem_append.1 hf with hf | hf
                  · exact HAv.out f hf
                  · have e : f = (268, D) := by simpa using hf
                    rw [e]
                    show D.length ≤ maxLen
                    rw [← HD.out]
                    unfold dgt maxLen
                    split <;> simp
                · obtain ⟨q, hq, hfq⟩ := List.mem_flatten.1 hf
                  obtain ⟨p, hp, rfl⟩ := List.mem_map.1 hq
                  rcases List.mem_cons.1 hfq with rfl | hfq
                  · show ([120] : List UInt8).length ≤ maxLen
                    unfold maxLen; simp
                  · exact HI.out.2.2.2 p hp f (List.mem_filter.1 hfq).1
              have HG : Hid (Calls Tryd.prog 12 #[.slice al n cl, .int .i64 268, .int .i64 269] wr fun x w' => GrpRet (.ok (ps.map partOf, A)) wr x w') := by
                have h := Groups_any (.slice al n cl) _ 268 269 wr hS.ol.src (by rw [← hn]; omega) HVL.out
                have h2 := grp_parts A HAn.out ps hsm
                rw [HD.out] at h2
                rw [h2] at h
                exact h
              obtain ⟨gl, ea, hq1, hq2, hq3⟩ := hS.ol.addr (by simp; omega)
              subst ea
              clear hq3 hq1
              have hAn : A.length + 1 ≤ n := by rw [hn]; simp
              rw [← hn] at hq2
              have HSA : Hid (∀ w', Below wr.heap.size wr w' → SrcF w' (.slice (some ⟨gl, 0, none⟩) A.length cl) A) := fun w' hb => by
                have h := (hS.ol.src.below hb).cut 0 A.length (by omega) (by simp) cl (by omega)
                rw [Nat.zero_mul, Nat.add_zero, Nat.sub_zero, List.drop_zero, List.append_assoc, List.take_left' rfl] at h
                exact h
              have HS : Hid (Below w.heap.size w wr ∧ wr.ownsRow w.heap.size 22 1 (.slice aw ps.length cw) ps.length vs ∧ ∀ (i : Nat) (gs : List Fld), (ps.map partOf)[i]? = some gs → ∃ u, vs[i]? = some u ∧ OwnF wr w.heap.size u gs) := ⟨hS.bel, by have h := hS.ow; rw [hgl] at h; exact h, hS.op⟩
              have hgb : ∀ (i : Nat) (gs : List Fld), (ps.map partOf)[i]? = some gs → gs.length ≤ 1000000000 := fun i gs hi => by
                obtain ⟨p, hp, rfl⟩ := List.mem_map.1 (List.mem_of_getElem? hi)
                have h1 := one_len ps p hp
                have h2 := part_len p
                have := HN.out
                omega
              have HGB : Hid (∀ (i : Nat) (gs : List Fld), (ps.map partOf)[i]? = some gs → gs.length ≤ 1000000000) := hgb
              have HGL : Hid ((ps.map partOf).length = ps.length) := hgl
              clear hS hn HVL hgb hgl
              generalize ps.map partOf = P at *
              generalize ps.length = N at *
              have hA1 : (A.length : Int) ≤ (cl : Int) := by omega
              go_wp2_with (go_at_call 12; fail)
              refine HG.out.mono ?_
              rintro x w5 ⟨hb5, vg, vr, rfl, hog, hor⟩
              obtain ⟨ag, cg, hvg, _⟩ := hog.form
              rw [HGL.out] at hvg
              subst hvg
              have H5 : Hid (Below wr.heap.size wr w5 ∧ OwnP w5 wr.heap.size (.slice ag N cg) P ∧ OwnF w5 wr.heap.size vr A) := ⟨hb5, hog, hor⟩
              obtain ⟨ar, cr, hvr, _⟩ := hor.src
              subst hvr
              clear hb5 hog hor HG
              go_wp2_with (go_at_call 11; fail)
              refine (same_yes _ _ A w5 (by omega) H5.out.2.2.src (HSA.out w5 H5.out.1)).mono ?_
              rintro e w6 ⟨rfl, q6, hw6⟩
              have hb6 : Below w5.heap.size w5 w6 := by rw [hw6]; exact below_drewN (Below.refl _ w5) q6
              clear hw6
              have H6 : Hid (Below w.heap.size w w6 ∧ OwnP w6 wr.heap.size (.slice ag N cg) P ∧ w6.ownsRow w.heap.size 22 1 (.slice aw N cw) N vs ∧ ∀ (i : Nat) (gs : List Fld), P[i]? = some gs → ∃ u, vs[i]? = some u ∧ SrcF w6 u gs) :=
                ⟨(HS.out.1.trans (H5.out.1.mono HS.out.1.size)).trans (hb6.mono (HS.out.1.trans (H5.out.1.mono HS.out.1.size)).size), H5.out.2.1.below hb6, ownsRow_below (ownsRow_below HS.out.2.1 H5.out.1) hb6, fun i gs hi => by obtain ⟨u, e, ho⟩ := HS.out.2.2 i gs hi; exact ⟨u, e, ((ho.below H5.out.1).below hb6).src⟩⟩
              clear hb6 H5 HSA HS
              go_wp2
              go_loopw [17, 18] (fun o i wr => ∃ k q : Nat, k ≤ N ∧ i = .int .i64 (k : Int) ∧ o = .bool true ∧ wr = w6.drewN q) (fun _ i _ => N - (intOf i).toNat)
              case atStart => exact ⟨0, 0, Nat.zero_le _, rfl, rfl, rfl⟩
              case round =>
                obtain ⟨k, q, hk, rfl, rfl, hw⟩ := hrel
                have HW : Hid (wr = w6.drewN q) := hw
                have HB : Hid (Below w6.heap.size w6 wr) := by show Below _ _ _; rw [hw]; exact below_drewN (Below.refl _ w6) q
                clear hw
                by_cases hlt : k < N
                · have hlt' : (k : Int) < (N : Int) := by omega
                  obtain ⟨gk, hpk⟩ : ∃ gk, P[k]? = some gk := ⟨_, List.getElem?_eq_getElem (by have := HGL.out; omega)⟩
                  obtain ⟨a9, c9, e9, hc9⟩ := (H6.out.2.1.below HB.out).form
                  obtain ⟨gg, u, ea, hcg, hou⟩ := hc9 k _ hpk
                  injection e9 with e9 _ e10
                  rw [ea] at e9
                  subst e9 e10
                  obtain ⟨u2, eu, hu2⟩ := H6.out.2.2.2 k _ hpk
                  have how := ownsRow_below H6.out.2.2.1 HB.out
                  obtain ⟨gw, ew⟩ : ∃ gw, aw = some ⟨gw, 0, none⟩ := by
                    rcases how.2 with ⟨e, h1⟩ | ⟨g, cap, cur, e, _⟩
                    · omega
                    · injection e with e; exact ⟨g, e⟩
                  subst ew
                  have hcw : wr.cell? ⟨gw, k, none⟩ = some u2 := by rw [how.cellAt k (by omega)]; exact eu
                  have hgk := HGB.out k _ hpk
                  have HSM : Hid (∀ q', Calls Tryd.prog 11 #[u, u2] (wr.drewN q') fun e w' => e = .returned (.bool true) ∧ ∃ m, w' = (wr.drewN q').drewN m) := fun q' => by
                    have hb : Below wr.heap.size wr (wr.drewN q') := below_drewN (Below.refl _ wr) q'
                    exact same_yes u u2 gk _ (by omega) ((hou.below hb).src) ((hu2.below HB.out).below hb)
                  obtain ⟨a11, c11, hu11, _⟩ := hou.src
                  obtain ⟨a12, c12, hu12, _⟩ := hu2
                  subst hu11 hu12
                  clear hc9 hou how eu hpk hgk
                  go_wp2
                  go_quiet ((go_at_call 11; refine Calls.quiet_of (HSM.out _)))
                  go_wp2
                  exact ⟨⟨k + 1, _, by omega, by go_num, rfl, by rw [HW.out, World.drewN_drewN]⟩, by simp [intOf]; omega⟩
                · have hBB : Hid (Below w.heap.size w wr) := H6.out.1.trans (HB.out.mono H6.out.1.size)
                  go_wp2
                  go_ret
                  exact ⟨rfl, hBB.out⟩
end Go.Proofs.YtfgfjkchcnpakaaDoor
