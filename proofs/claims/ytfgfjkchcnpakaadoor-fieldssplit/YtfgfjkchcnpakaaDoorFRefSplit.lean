/-
  The reference of fields: Split.
-/
import Derived.Test.YtfgfjkchcnpakaaDoorFRefField
import Derived.Deep.DeepCutAuto
namespace Go.Proofs.YtfgfjkchcnpakaaDoor
set_option linter.unusedVariables false
open Go.RowKit

/-- What the reference's Split tells. -/
def RefSplitRet (r : Except (Int × Nat) (List Fld)) (w : World) (x : Ending) (w' : World) : Prop :=
  Below w.heap.size w w' ∧ match r with
  | .ok fs => ∃ v, x = .returned (.tuple #[v, .int .i64 0, .int .i64 0]) ∧ OwnF w' w.heap.size v fs
  | .error (e, a) => x = .returned (.tuple #[.slice none 0 0, .int .i64 (a : Int), .int .i64 e])
theorem RefSplitRet.good {r : Except (Int × Nat) (List Fld)} {w w' : World} {x : Ending} {fs : List Fld} {v : Value} (h : r = .ok fs) (hb : Below w.heap.size w w') (hx : x = .returned (.tuple #[v, .int .i64 0, .int .i64 0])) (ho : OwnF w' w.heap.size v fs) : RefSplitRet r w x w' := by
  refine ⟨hb, ?_⟩; rw [h]; exact ⟨v, hx, ho⟩
theorem RefSplitRet.fail {r : Except (Int × Nat) (List Fld)} {w w' : World} {x : Ending} {e : Int} {a : Nat} (h : r = .error (e, a)) (hb : Below w.heap.size w w') (hx : x = .returned (.tuple #[.slice none 0 0, .int .i64 (a : Int), .int .i64 e])) : RefSplitRet r w x w' := by
  refine ⟨hb, ?_⟩; rw [h]; exact hx
theorem split_big {l : List UInt8} (h : 1024 < l.length) : splitL l = .error (43, 1024) := by unfold splitL; rw [if_pos h]
theorem split_b1 {l : List UInt8} (h : ¬ 1024 < l.length) (h1 : pre l headL < 12) : splitL l = .error (40, pre l headL) := by unfold splitL bodyL; rw [if_neg h, if_pos h1]
theorem split_b2 {l : List UInt8} (h : ¬ 1024 < l.length) (h1 : ¬ pre l headL < 12) (h2 : numEnd l 12 = 12 ∨ l[numEnd l 12]? ≠ some 1) : splitL l = .error (40, numEnd l 12) := by unfold splitL bodyL; rw [if_neg h, if_neg h1, if_pos h2]
theorem val_pu {l : List UInt8} (h2 : numEnd l 12 ≠ 12) : puN ((l.drop 12).take (numEnd l 12 - 12)) 9999 = val ((l.drop 12).take (numEnd l 12 - 12)) ∧ 0 ≤ val ((l.drop 12).take (numEnd l 12 - 12)) ∧ val ((l.drop 12).take (numEnd l 12 - 12)) ≤ 9999 := by
  have h := numEnd_num l h2
  have h3 := dec_pu h
  have e : puN ((l.drop 12).take (numEnd l 12 - 12)) 9999 = val ((l.drop 12).take (numEnd l 12 - 12)) := by
    unfold puE at h
    unfold puN
    split at h
    · rename_i hn
      split at h
      · rename_i hv; rw [if_pos ⟨hn, hv⟩]
      · cases h
    · cases h
  rw [e] at h3
  exact ⟨e, h3.1, h3.2.1⟩
theorem split_b3 {l : List UInt8} (h : ¬ 1024 < l.length) (h1 : ¬ pre l headL < 12) (h2 : numEnd l 12 ≠ 12) (h3 : l[numEnd l 12]? = some 1) (h4 : ¬ (l.length : Int) - ((numEnd l 12 : Int) + 1) = val ((l.drop 12).take (numEnd l 12 - 12)) + 7) : splitL l = .error (43, 12) := by
  rw [← (val_pu h2).1] at h4
  unfold splitL bodyL
  rw [if_neg h, if_neg h1, if_neg (fun h => h.elim h2 (fun h => h h3)), if_neg h4]
theorem split_go {l : List UInt8} (h : ¬ 1024 < l.length) (h1 : ¬ pre l headL < 12) (h2 : numEnd l 12 ≠ 12) (h3 : l[numEnd l 12]? = some 1) (h4 : (l.length : Int) - ((numEnd l 12 : Int) + 1) = val ((l.drop 12).take (numEnd l 12 - 12)) + 7) :
    splitL l = match lastL l (l.length - 7) (sumL (l.take (l.length - 7))) with | some x => .error x | none => rdAll (l.take (l.length - 7)) l.length (numEnd l 12 + 1) := by
  rw [← (val_pu h2).1] at h4
  unfold splitL bodyL
  rw [if_neg h, if_neg h1, if_neg (fun h => h.elim h2 (fun h => h h3)), if_pos h4]
  rfl
theorem rdF_err {l : List UInt8} {e : Int} {k : Nat} (h : rdF l = .error (e, k)) : e ≠ 0 := by
  unfold rdF at h
  split at h
  · unfold rdV at h
    split at h
    · cases h
    · injection h with h
      obtain ⟨h, _⟩ := Prod.mk.inj h
      omega
  · injection h with h
    obtain ⟨h, _⟩ := Prod.mk.inj h
    omega
theorem last_dig (T : ByteArray) (l : List UInt8) (m : Nat) (hT : T.data.toList = l.drop m) (h7 : T.size = 7) :
    (∀ k (h : k < T.size), 3 ≤ k → k < 3 + cnt dig ((l.drop (m + 3)).take 3) → dig T[k] = true) ∧ (∀ k (h : k < T.size), k = 3 + cnt dig ((l.drop (m + 3)).take 3) → k < 6 → dig T[k] = false) ∧ cnt dig ((l.drop (m + 3)).take 3) ≤ 3 := by
  have hq : (l.drop (m + 3)).take 3 = (T.data.toList.take 6).drop 3 := by
    rw [hT, List.drop_take, List.drop_drop]
  have hle : cnt dig ((l.drop (m + 3)).take 3) ≤ 3 := by have := cnt_le dig ((l.drop (m + 3)).take 3); simp at this; omega
  refine ⟨fun k h h3 hk => ?_, fun k h hk h6 => ?_, hle⟩
  · rw [hq] at hk
    obtain ⟨c, hc, hd⟩ := cnt_in dig (T.data.toList.take 6) 3 k h3 hk
    rw [← hq] at hk
    rw [List.getElem?_take, if_pos (by omega), get_at T k h] at hc
    injection hc with hc
    rw [hc]; exact hd
  · rw [hq] at hk
    have := cnt_out dig (T.data.toList.take 6) 3 T[k]
    rw [← hk, List.getElem?_take, if_pos h6, get_at T k h] at this
    exact this rfl
set_option maxRecDepth 100000 in
set_option maxHeartbeats 8000000 in
theorem refSplit_any (v : Value) (l : List UInt8) (w : World) (hv : SrcB w v l) (hl : l.length ≤ maxLen) :
    Calls Tryd.prog 24 #[v] w fun x w' => RefSplitRet (splitL l) w x w' := by
  obtain ⟨i0, hi, hz0, hz1, hz2⟩ := info_parts infoF
  have hcv := hv.conv
  have HS : Hid (SrcB w v l) := hv
  obtain ⟨ao, cap, rfl, hc, _⟩ := hv
  have hsz := bs_size l
  have HBL : Hid ((bs l).data.toList = l) := bs_list l
  unfold maxLen at hl
  by_cases hbig : 1024 < l.length
  · have hbig' : (1024 : Int) < (l.length : Int) := by omega
    have HR : Hid (splitL l = .error (43, 1024)) := split_big hbig
    generalize splitL l = R at *
    generalize bs l = S at *
    go_enter Tryd.func24, Tryd.ntmps24
    go_wp2
    go_ret3
    exact .fail HR.out (Below.refl _ _) rfl
  · have hbig' : ¬ (1024 : Int) < (l.length : Int) := by omega
    have h1 := refBody_any (bs l) w (by rw [hsz]; omega)
    rw [HBL.out] at h1
    generalize bs l = S at *
    have h24 : l.length ≤ 1024 := by omega
    go_enter Tryd.func24, Tryd.ntmps24
    go_wp2_with (go_at_call 54; fail)
    refine h1.mono ?_
    rintro x w1 ⟨hx, hq1⟩
    have HB1 : Hid (Below w.heap.size w w1) := by obtain ⟨q, hq⟩ := hq1; rw [hq]; exact below_drewN (Below.refl _ w) q
    clear hq1 h1
    rcases hx with ⟨hp, rfl⟩ | ⟨hp, hZ, rfl⟩ | ⟨hp, hZ, hZ1, rfl⟩
    · have HR : Hid (splitL l = .error (40, pre l headL)) := split_b1 hbig hp
      go_wp2
      go_ret3
      exact .fail HR.out HB1.out rfl
    · have HR : Hid (splitL l = .error (40, numEnd l 12)) := split_b2 hbig hp hZ
      clear hZ
      go_wp2
      go_ret3
      exact .fail HR.out HB1.out rfl
    · obtain ⟨hvp, hv0, hv9⟩ := val_pu hZ
      clear hvp
      have hZl : numEnd l 12 < l.length := (List.getElem?_eq_some_iff.1 hZ1).1
      have hZ0 := numEnd_ge l 12
      by_cases hlen : (l.length : Int) - ((numEnd l 12 : Int) + 1) = val ((l.drop 12).take (numEnd l 12 - 12)) + 7
      · have HR : Hid _ := split_go hbig hp hZ hZ1 hlen
        generalize hVV : val ((l.drop 12).take (numEnd l 12 - 12)) = n at *
        clear hVV hp hZ hZ1
        generalize numEnd l 12 = Z at *
        obtain ⟨m, hm⟩ : ∃ m : Nat, l.length = m + 7 := ⟨l.length - 7, by omega⟩
        have hZm : (Z : Int) + 1 + n = (m : Int) := by omega
        have hlb : ((l.length : Int) - ((Z : Int) + 1) != n + 7) = false := by simpa using hlen
        have HM : Hid (l.length = m + 7) := hm
        have hmS : (m : Int) ≤ (l.length : Int) := by omega
        have hmS2 : m ≤ l.length := by omega
        rw [show l.length - 7 = m by omega] at HR
        clear hm hlen
        have hTL : (S.extract m S.size).data.toList = l.drop m := by rw [drop_data, HBL.out]
        have hTs : (S.extract m S.size).size = 7 := by rw [← size_data, hTL, List.length_drop, HM.out]; omega
        rw [hsz] at hTL hTs
        have h2 : ∀ W, Calls Tryd.prog 55 #[.string (S.extract m l.length), .string ⟨#[49, 48, 61]⟩] W fun e w' => e = .returned (.tuple #[.int .i64 (pre (l.drop m) tenL : Int), .bool (decide (3 ≤ pre (l.drop m) tenL))]) ∧ ∃ q, w' = W.drewN q := fun W => by
          have h := refBegins_any (S.extract m l.length) ⟨#[49, 48, 61]⟩ W (by unfold maxLen; omega) (by decide)
          rw [hTL] at h
          exact h
        have HTL : Hid ((S.extract m l.length).data.toList = l.drop m) := hTL
        clear hTL
        have hLD := last_dig _ l m HTL.out hTs
        have hT3 : (S.extract m l.length).extract 3 6 = bs ((l.drop (m + 3)).take 3) := by
          rw [← bs_data ((S.extract m l.length).extract 3 6), Lib.extract_data, HTL.out, List.drop_drop]
        have h6 : l[m + 6]? = (S.extract m l.length).data.toList[6]? := by
          rw [HTL.out, List.getElem?_drop]
        have hSE : (S.extract 0 m).data.toList = l.take m := by rw [Lib.extract_data, HBL.out, List.drop_zero, Nat.sub_zero]
        have hSEs : (S.extract 0 m).size = m := by rw [← size_data, hSE, List.length_take]; omega
        have HF : Hid (∀ k, k ≤ m → ∀ w', Calls Tryd.prog 57 #[.string (S.extract 0 m), .int .i64 (k : Int)] w' fun x w2 => RefFieldRet (rdF ((l.take m).drop k)) k w' x w2) := fun k hk w' => by
          have h := refField_any (S.extract 0 m) k w' (by omega) (by omega)
          rw [hSE] at h
          exact h
        have HT3 : Hid ((S.extract m l.length).extract 3 6 = bs ((l.drop (m + 3)).take 3)) := hT3
        have H6 : Hid (l[m + 6]? = (S.extract m l.length).data.toList[6]?) := h6
        clear hSE hSEs hT3 h6
        have HR1 : Hid (pre (l.drop m) tenL < 3 → splitL l = .error (40, m + pre (l.drop m) tenL)) := fun hA => by rw [HR.out]; unfold lastL; rw [if_pos hA]
        have HR2 : Hid (¬ pre (l.drop m) tenL < 3 → cnt dig ((l.drop (m + 3)).take 3) < 3 → splitL l = .error (40, m + 3 + cnt dig ((l.drop (m + 3)).take 3))) := fun hA h => by rw [HR.out]; unfold lastL; rw [if_neg hA, if_pos h]
        have HR3 : Hid (¬ pre (l.drop m) tenL < 3 → ¬ cnt dig ((l.drop (m + 3)).take 3) < 3 → splitL l = match (if l[m + 6]? ≠ some 1 then some (40, m + 6) else if (l.drop (m + 3)).take 3 = three (sumL (l.take m)) then none else some (44, m + 3) : Option (Int × Nat)) with | some x => .error x | none => rdAll (l.take m) l.length (Z + 1)) := fun hA h => by rw [HR.out]; unfold lastL; rw [if_neg hA, if_neg h]
        have hpl : pre (l.drop m) tenL ≤ 3 := pre_le _ _
        generalize pre (l.drop m) tenL = pp at *
        generalize hdd : decide (3 ≤ pp) = dd at *
        clear HR
        go_wp2_with (go_at_call 55; fail)
        generalize S.extract m l.length = T at *
        refine (h2 w1).mono ?_
        rintro e w2 ⟨rfl, hq2⟩
        have HB2 : Hid (Below w.heap.size w w2) := by obtain ⟨q, hq⟩ := hq2; rw [hq]; exact below_drewN HB1.out q
        clear hq2 h2 HB1
        by_cases hA : pp < 3
        · have HB : Hid (splitL l = .error (40, m + pp)) := HR1.out hA
          obtain rfl : dd = false := by rw [← hdd]; exact decide_eq_false (by omega)
          clear hdd
          go_wp2
          go_ret3
          exact .fail HB.out HB2.out (ret3 rfl (vint (by omega)) rfl)
        · obtain rfl : dd = true := by rw [← hdd]; exact decide_eq_true (by omega)
          clear hdd
          obtain ⟨hin, hout, hc3⟩ := hLD
          have HLD : Hid ((∀ k (h : k < T.size), 3 ≤ k → k < 3 + cnt dig ((l.drop (m + 3)).take 3) → dig T[k] = true) ∧ (∀ k (h : k < T.size), k = 3 + cnt dig ((l.drop (m + 3)).take 3) → k < 6 → dig T[k] = false)) := ⟨hin, hout⟩
          have HA : Hid (¬ pp < 3) := hA
          clear hin hout hA HR1
          generalize cnt dig ((l.drop (m + 3)).take 3) = cc at *
          go_wp2
          go_loopw [15] (fun i wr => ∃ k : Nat, 3 ≤ k ∧ k ≤ 3 + cc ∧ i = .int .i64 (k : Int) ∧ wr = w2) (fun i _ => 3 + cc - (intOf i).toNat)
          case atStart => exact ⟨3, by omega, by omega, rfl, rfl⟩
          case round =>
            obtain ⟨k, hk3, hkc, rfl, hw⟩ := hrel
            have hw' := hw.symm
            subst hw'
            clear hw
            by_cases hlt : k < 3 + cc
            · have hk6 : (k : Int) < 6 := by omega
              have hk7 : (k : Int) < 7 := by omega
              have hkT : k < T.size := by omega
              have hD := fun w => refDigit_any T[k] w
              rw [HLD.out.1 k hkT hk3 hlt] at hD
              have HD : Hid _ := hD
              clear hD
              go_wp2_with (go_at_call 56; refine (HD.out _).mono ?_; rintro e w' ⟨rfl, rfl⟩)
              exact ⟨⟨k + 1, by omega, by omega, by go_num, by first | rfl | trivial⟩, by simp [intOf]; omega⟩
            · obtain rfl : k = 3 + cc := by omega
              by_cases hc : cc < 3
              · have HB : Hid (splitL l = .error (40, m + 3 + cc)) := HR2.out HA.out hc
                have hk6 : (3 : Int) + (cc : Int) < 6 := by omega
                have hk7 : (3 : Int) + (cc : Int) < 7 := by omega
                have hkT : 3 + cc < T.size := by omega
                have hD := fun w => refDigit_any T[3 + cc] w
                rw [HLD.out.2 (3 + cc) hkT rfl (by omega)] at hD
                have HD : Hid _ := hD
                clear hD
                go_wp2_with (go_at_call 56; refine (HD.out _).mono ?_; rintro e w' ⟨rfl, rfl⟩)
                go_ret3
                exact .fail HB.out HB2.out (ret3 rfl (vint (by omega)) rfl)
              · obtain rfl : cc = 3 := by omega
                have hR4 := HR3.out HA.out hc
                clear HR2 HR3 HLD hc
                rw [show ((3 + 3 : Nat) : Int) = 6 from rfl]
                have hg6 : l[m + 6]? = some T[6] := by rw [H6.out]; exact get_at T 6 (by omega)
                rw [hg6] at hR4
                clear hg6 H6
                by_cases h1 : T[6] = 1
                · have h1' : (T[6].toNat : Int) = 1 := by rw [h1]; rfl
                  have h1b : ((T[6].toNat : Int) != 1) = false := by simpa using h1'
                  rw [h1, if_neg (by simp)] at hR4
                  have HR5 : Hid _ := hR4
                  clear hR4 h1
                  have hlpos : 0 < l.length := by omega
                  obtain ⟨b, off, eao, hcell⟩ : ∃ b off, ao = some ⟨b, off, none⟩ ∧ ∀ j c, l[j]? = some c → w.cell? ⟨b, off + j, none⟩ = some (.int .u8 (c.toNat : Int)) := by
                    obtain ⟨ao', cap', e1, _, h0 | ⟨b, off, e2, hr⟩⟩ := HS.out
                    · rw [h0] at hlpos; simp at hlpos
                    · injection e1 with e1; exact ⟨b, off, e1.trans e2, hr⟩
                  subst eao
                  have HC : Hid (∀ j c, l[j]? = some c → w.cell? ⟨b, off + j, none⟩ = some (.int .u8 (c.toNat : Int))) := hcell
                  clear hcell
                  have hmc : (m : Int) ≤ (cap : Int) := by omega
                  have hsm := sumL_lt (l.take m)
                  have H3 : Hid (∀ w', Calls Tryd.prog 49 #[.int .i64 (sumL (l.take m) : Int)] w' fun e w2 => e = .returned (.string (bs (three (sumL (l.take m))))) ∧ Below w'.heap.size w' w2) := fun w' => refThree_any _ hsm w'
                  have hx := neq_str ((l.drop (m + 3)).take 3) (three (sumL (l.take m)))
                  rw [← HT3.out] at hx
                  have HSU : Hid (Calls Tryd.prog 50 #[.slice (some ⟨w2.heap.size, 0, none⟩) 1 1] (w2.alloc (.cells #[.slice (some ⟨b, off, none⟩) m cap] 23)) fun e w' => e = .returned (.int .i64 (sumL (l.take m) : Int)) ∧ w' = w2.alloc (.cells #[.slice (some ⟨b, off, none⟩) m cap] 23)) :=
                    refSum_one w2.heap.size b off m cap l _ hmS2 (by omega) (cell_of_row _ _ 0 _ _ _ (heap_alloc_new w2 _)) (fun j c hj => by
                      have h := HC.out j c hj
                      have hb := HB2.out.alloc HB2.out.size (.cells #[.slice (some ⟨b, off, none⟩) m cap] 23)
                      rw [hb.cell (p := ⟨b, _, none⟩) (World.block_lt_of_cell? _ _ h)]; exact h)
                  have HB3 : Hid (Below w.heap.size w (w2.alloc (.cells #[.slice (some ⟨b, off, none⟩) m cap] 23))) := HB2.out.alloc HB2.out.size _
                  go_wp2_with (go_at_call 50; fail)
                  refine HSU.out.mono ?_
                  rintro e w3 ⟨rfl, hw3⟩
                  rw [← hw3] at HB3
                  clear hw3 HSU HB2
                  by_cases hE : (l.drop (m + 3)).take 3 = three (sumL (l.take m))
                  · rw [decide_eq_true hE] at hx
                    have hR6 : splitL l = rdAll (l.take m) l.length (Z + 1) := by rw [HR5.out, if_pos hE]
                    clear hE HR5 HT3
                    generalize bs (three (sumL (l.take m))) = B3 at *
                    generalize sumL (l.take m) = sm at *
                    go_upto_region 22 with fail
                    go_cut [90] (fun c wx => c = .bool false ∧ Below w.heap.size w wx)
                    case first =>
                      have hB3 : Below w.heap.size w w3.drew := HB3.out.drew
                      go_region_with (go_at_call 49; refine (H3.out _).mono ?_; rintro e w4 ⟨rfl, hb4⟩; have HB4 : Hid (Below w.heap.size w w4) := hB3.trans (hb4.mono hB3.size); clear hb4)
                      all_goals (go_wp2_with fail; go_meet; exact ⟨rfl, HB4.out⟩)
                    case rest =>
                      obtain ⟨rfl, hbc⟩ := hcut
                      have HBC : Hid (Below w.heap.size w wc) := hbc
                      have HR6 : Hid (splitL l = rdAll (l.take m) l.length (Z + 1)) := hR6
                      clear hbc hR6 HB3 H3 hx
                      have htk : (l.take m).length = m := by rw [List.length_take]; omega
                      have HTK : Hid ((l.take m).length = m) := htk
                      generalize l.take m = lm at *
                      generalize l.length = F at *
                      obtain ⟨R, hRR⟩ : ∃ R, splitL l = R := ⟨_, rfl⟩
                      rw [hRR] at HR6
                      have HRR : Hid (splitL l = R) := hRR
                      clear htk hRR
                      go_wp2
                      go_loopw [17, 18, 19, 20, 21, 22] (fun lst z _ _ _ _ wr => ∃ (k : Nat) (fs : List Fld) (ao : Option Addr) (cv : Nat), k ≤ m ∧ Z + 1 + fs.length ≤ k ∧ z = .int .i64 k ∧ lst = .slice ao fs.length cv ∧ OwnF wr w.heap.size (.slice ao fs.length cv) fs ∧ Below w.heap.size w wr ∧ R = addFs fs (rdAll lm (F - fs.length) k)) (fun _ z _ _ _ _ _ => m - (intOf z).toNat)
                      case atStart => exact ⟨Z + 1, [], none, 0, by omega, Nat.le_refl _, by go_num, rfl, OwnF.nil _ _, HBC.out, HR6.out⟩
                      case round =>
                        obtain ⟨k, fs, ao, cv, hk, hlk, rfl, rfl, ho, hbl, hr⟩ := hrel
                        have HA : Hid (OwnF wr w.heap.size (.slice ao fs.length cv) fs ∧ Below w.heap.size w wr ∧ R = addFs fs (rdAll lm (F - fs.length) k)) := ⟨ho, hbl, hr⟩
                        clear ho hbl hr HBC HR6
                        by_cases hlt : k < m
                        · have hlt' : (k : Int) < (m : Int) := by omega
                          have h1 := HF.out k hk wr
                          have HL : Hid (∀ f n, rdF (lm.drop k) = .ok (f, n) → 1 ≤ n ∧ k + n ≤ m) := fun f n h => by
                            have h := rdF_bound _ h
                            rw [List.length_drop, HTK.out] at h
                            omega
                          have HN : Hid (rdAll lm (F - fs.length) k = match rdF (lm.drop k) with | .ok (f, n) => addF f (rdAll lm (F - (fs.length + 1)) (k + n)) | .error (e, n) => .error (e, k + n)) := by
                            show rdAll _ _ _ = _
                            rw [show F - fs.length = (F - (fs.length + 1)) + 1 by omega]
                            have hlt2 : k < lm.length := by rw [HTK.out]; exact hlt
                            simp only [rdAll, hlt2, if_true]
                            cases rdF (lm.drop k) <;> rfl
                          have HNE : Hid (∀ e n, rdF (lm.drop k) = .error (e, n) → e ≠ 0) := fun e n h => rdF_err h
                          generalize rdF (lm.drop k) = r at *
                          cases r with
                          | error y =>
                            obtain ⟨e, n⟩ := y
                            go_wp2_with (go_at_call 57; fail)
                            refine h1.mono ?_
                            rintro x w2 ⟨hb2, rfl⟩
                            have hnn : ((k + n : Nat) : Int) = (k : Int) + (n : Int) := by omega
                            have HX : Hid (Below w.heap.size w w2) := HA.out.2.1.trans (hb2.mono HA.out.2.1.size)
                            have HEE : Hid (R = .error (e, k + n)) := by show R = _; rw [HA.out.2.2, HN.out, addFs_err]
                            clear hb2 h1 HL HN hnn
                            have he0 := HNE.out e n rfl
                            have heb : (e != 0) = true := by simpa using he0
                            clear he0
                            go_wp2
                            go_ret3
                            exact .fail (by rw [HRR.out, HEE.out]) (HX.out.alloc HX.out.size _) (ret3 rfl (vint (by omega)) rfl)
                          | ok y =>
                            obtain ⟨f, n⟩ := y
                            obtain ⟨hn1, hn2⟩ := HL.out f n rfl
                            have hfl : fs.length ≤ 1024 := by omega
                            go_wp2_with (go_at_call 57; fail)
                            refine h1.mono ?_
                            rintro x w2 ⟨hb2, rfl⟩
                            obtain ⟨t, V⟩ := f
                            have HX : Hid (Below w.heap.size w w2 ∧ OwnF w2 w.heap.size (.slice ao fs.length cv) fs) := ⟨HA.out.2.1.trans (hb2.mono HA.out.2.1.size), HA.out.1.below hb2⟩
                            clear hb2 h1
                            have hnew0 : ∀ j u, (fcs [(t, V)])[j]? = some u → ((w2.alloc (.cells #[.int .i64 t, .string (bs V)] 36)).alloc (.cells #[.int .i64 t, .string (bs V)] 36)).cell? ((⟨w2.heap.size + 1, 0, none⟩ : Addr).add j) = some u := by
                              have h := World.news_of_block (heap_alloc_new (w2.alloc (.cells #[.int .i64 t, .string (bs V)] 36)) (.cells #[.int .i64 t, .string (bs V)] 36))
                              simpa [fcs] using h
                            have hnew : Hid (∀ j u, (fcs [(t, V)])[j]? = some u → ((w2.alloc (.cells #[.int .i64 t, .string (bs V)] 36)).alloc (.cells #[.int .i64 t, .string (bs V)] 36)).cell? ((⟨w2.heap.size + 1, 0, none⟩ : Addr).add j) = some u) := hnew0
                            clear hnew0
                            go_wp2_with (at_builtin; refine wpList_append_own _ rfl _ _ 22 rfl w.heap.size 36 i0 (.agg #[.int .i64 0, .string ⟨#[]⟩]) 2 24 Tryd.underlying22 hi hz0 hz1 hz2 rfl (by decide) _ fs.length (fcs fs) rfl ((HX.out.2.alloc _).alloc _) ⟨w2.heap.size + 1, 0, none⟩ 1 1 (fcs [(t, V)]) rfl rfl hnew.out (fcs_one _) (by unfold maxLen; omega) (by omega) (by have := HX.out.1.size; simp; omega) ?_; intro v' w3 hown' hgrow3 hnil3)
                            have hb3 : Below w.heap.size w w3 := by
                              refine Below.grown (w := (w2.alloc (.cells #[.int .i64 t, .string (bs V)] 36)).alloc (.cells #[.int .i64 t, .string (bs V)] 36)) ?_ hgrow3 ?_ (fun q hq => (HX.out.2.lt q hq).1)
                              · exact (HX.out.1.alloc HX.out.1.size _).alloc (by have := HX.out.1.size; simp; omega) _
                              · have := HX.out.1.size; simp; omega
                            have ho3 : OwnF w3 w.heap.size v' (fs ++ [(t, V)]) := by
                              unfold OwnF
                              rw [fcs_app, List.length_append]
                              exact hown'
                            obtain ⟨g, c, rfl, _, _⟩ := hown'.form (by omega)
                            have HY : Hid (Below w.heap.size w w3 ∧ OwnF w3 w.heap.size (.slice (some ⟨g, 0, none⟩) (fs.length + 1) c) (fs ++ [(t, V)])) := ⟨hb3, ho3⟩
                            clear hb3 ho3 hown' hgrow3 hnil3 HX hnew
                            go_wp2
                            refine ⟨⟨k + n, fs ++ [(t, V)], some ⟨g, 0, none⟩, c, hn2, by simp; omega, by go_num, by simp, ?_, HY.out.1, ?_⟩, by simp [intOf]; omega⟩
                            · have h := HY.out.2
                              simpa using h
                            · rw [HA.out.2.2, HN.out, addFs_snoc, List.length_append]
                              rfl
                        · have HN : Hid (rdAll lm (F - fs.length) k = .ok []) := by
                            show rdAll _ _ _ = _
                            cases hq : F - fs.length with
                            | zero => rfl
                            | succ j =>
                              have hlt2 : ¬ k < lm.length := by rw [HTK.out]; exact hlt
                              simp only [rdAll, hlt2, if_false]
                          go_wp2
                          go_ret3
                          exact .good (by rw [HRR.out, HA.out.2.2, HN.out, addFs_ok, List.append_nil]) HA.out.2.1 rfl HA.out.1
                  · rw [decide_eq_false hE] at hx
                    have HB : Hid (splitL l = .error (44, m + 3)) := by show splitL l = _; rw [HR5.out, if_neg hE]
                    clear hE HR5 HT3
                    generalize bs (three (sumL (l.take m))) = B3 at *
                    generalize sumL (l.take m) = sm at *
                    go_upto_region 22 with fail
                    have hB3 : Below w.heap.size w w3.drew := HB3.out.drew
                    go_region_with (go_at_call 49; refine (H3.out _).mono ?_; rintro e w4 ⟨rfl, hb4⟩; have HB4 : Hid (Below w.heap.size w w4) := hB3.trans (hb4.mono hB3.size); clear hb4)
                    all_goals go_wp2
                    all_goals go_ret3
                    all_goals exact .fail HB.out HB4.out (ret3 rfl (vint (by omega)) rfl)
                · have h1' : ¬ (T[6].toNat : Int) = 1 := fun h => h1 (u8_of_nat (b := 1) h)
                  have h1b : ((T[6].toNat : Int) != 1) = true := by simpa using h1'
                  have HB : Hid (splitL l = .error (40, m + 6)) := by show splitL l = _; rw [hR4, if_pos (by simpa using h1)]
                  clear hR4 h1
                  go_wp2
                  go_ret3
                  exact .fail HB.out HB2.out (ret3 rfl (vint (by omega)) rfl)
      · have HR : Hid (splitL l = .error (43, 12)) := split_b3 hbig hp hZ hZ1 hlen
        have hlb : ((l.length : Int) - ((numEnd l 12 : Int) + 1) != val ((l.drop 12).take (numEnd l 12 - 12)) + 7) = true := by simpa using hlen
        clear hZ1
        go_wp2
        go_ret3
        exact .fail HR.out HB1.out rfl
end Go.Proofs.YtfgfjkchcnpakaaDoor
