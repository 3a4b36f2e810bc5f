/-
  The reference's Join.
-/
import Derived.Test.YtfgfjkchcnpakaaDoorFRef
import Derived.Test.YtfgfjkchcnpakaaDoorFShown
namespace Go.Proofs.YtfgfjkchcnpakaaDoor
set_option linter.unusedVariables false
open Go.RowKit

theorem bs_append (a b : List UInt8) : bs a ++ bs b = bs (a ++ b) := by
  apply ByteArray.ext
  rw [ByteArray.data_append]
  simp [bs]
/-- What the reference's Join tells. -/
def RefJoinRet (r : Except Int (List UInt8)) (w : World) (x : Ending) (w' : World) : Prop :=
  Below w.heap.size w w' ∧ match r with
  | .ok l => ∃ v, x = .returned (.tuple #[v, .int .i64 0]) ∧ SrcB w' v l ∧ ∀ k, v.ownBlock = some k → w.heap.size ≤ k ∧ k < w'.heap.size
  | .error e => x = .returned (.tuple #[.slice none 0 0, .int .i64 e])
theorem RefJoinRet.good {r : Except Int (List UInt8)} {w w' : World} {x : Ending} {l : List UInt8} {v : Value} (h : r = .ok l) (hb : Below w.heap.size w w') (hx : x = .returned (.tuple #[v, .int .i64 0])) (ho : SrcB w' v l) (hk : ∀ k, v.ownBlock = some k → w.heap.size ≤ k ∧ k < w'.heap.size) : RefJoinRet r w x w' := by
  refine ⟨hb, ?_⟩; rw [h]; exact ⟨v, hx, ho, hk⟩
theorem RefJoinRet.fail {r : Except Int (List UInt8)} {w w' : World} {x : Ending} {e : Int} (h : r = .error e) (hb : Below w.heap.size w w') (hx : x = .returned (.tuple #[.slice none 0 0, .int .i64 e])) : RefJoinRet r w x w' := by
  refine ⟨hb, ?_⟩; rw [h]; exact hx
theorem all_no {p : Fld → Bool} {fs : List Fld} {k : Nat} (h : k < fs.length) (hp : p fs[k] = false) : fs.all p = false := by
  rw [List.all_eq_false]
  exact ⟨fs[k], List.getElem_mem h, by simp [hp]⟩
theorem all_yes {p : Fld → Bool} {fs : List Fld} {k : Nat} (h : ¬ k < fs.length) (hp : ∀ j g, j < k → fs[j]? = some g → p g = true) : fs.all p = true := by
  rw [List.all_eq_true]
  intro g hg
  obtain ⟨j, hj, e⟩ := List.getElem_of_mem hg
  exact hp j g (by omega) (by rw [List.getElem?_eq_getElem hj, e])
theorem upto_succ {p : Fld → Bool} {fs : List Fld} {k : Nat} (h : k < fs.length) (hp : ∀ j g, j < k → fs[j]? = some g → p g = true) (hk : p fs[k] = true) : ∀ j g, j < k + 1 → fs[j]? = some g → p g = true := fun j g hj hg => by
  by_cases e : j < k
  · exact hp j g e hg
  · obtain rfl : j = k := by omega
    rw [List.getElem?_eq_getElem h] at hg; injection hg with hg; rw [← hg]; exact hk
set_option maxRecDepth 100000 in
set_option maxHeartbeats 1600000 in
theorem refJoin_any (v : Value) (fs : List Fld) (w : World) (hs : SrcF w v fs) (ht : okT fs) (hsz : (bodyB fs).length ≤ 104857600) (hn : fs.length ≤ 1099511627776) :
    Calls Tryd.prog 15 #[v] w fun x w' => RefJoinRet (joinL fs) w x w' := by
  have HS : Hid (SrcF w v fs ∧ okT fs) := ⟨hs, ht⟩
  have HV : Hid (∀ f ∈ fs, f.2.length ≤ 104857600) := fun f hf => by have := val_le_body fs f hf; omega
  have HJ1 : Hid ((fs.all fun f => isTg f.1) = false → joinL fs = .error 41) := fun h => by unfold joinL; rw [if_pos h]
  have HJ2 : Hid ((fs.all fun f => isTg f.1) = true → (fs.all fun f => okV f.2) = false → joinL fs = .error 42) := fun h1 h2 => by unfold joinL; rw [if_neg (by simp [h1]), if_pos h2]
  have HJ3 : Hid ((fs.all fun f => isTg f.1) = true → (fs.all fun f => okV f.2) = true → joinL fs = if 1024 < (closeL (aheadL (bodyB fs))).length then .error 43 else .ok (closeL (aheadL (bodyB fs)))) := fun h1 h2 => by
    unfold joinL; rw [if_neg (by simp [h1]), if_neg (by simp [h2])]
  obtain ⟨ao, cap, rfl, hc, _⟩ := hs
  clear ht
  generalize joinL fs = R at *
  go_enter Tryd.func15, Tryd.ntmps15
  go_wp2
  go_loopw [4, 5] (fun i _ wr => ∃ k : Nat, k ≤ fs.length ∧ i = .int .i64 k ∧ (∀ j g, j < k → fs[j]? = some g → (fun f : Fld => isTg f.1) g = true) ∧ wr = w) (fun i _ _ => fs.length - (intOf i).toNat)
  case atStart => exact ⟨0, Nat.zero_le _, rfl, fun j g hj => by omega, rfl⟩
  case round =>
    obtain ⟨k, hk, rfl, hp, hw0⟩ := hrel
    have hw1 := hw0.symm
    subst hw1
    have HP : Hid (∀ j g, j < k → fs[j]? = some g → (fun f : Fld => isTg f.1) g = true) := hp
    clear hp
    by_cases hlt : k < fs.length
    · have hlt' : (k : Int) < (fs.length : Int) := by omega
      have hfk : fs[k]? = some fs[k] := List.getElem?_eq_getElem hlt
      obtain ⟨ao', cap', e1, _, h0 | ⟨b, off, e2, hcell⟩⟩ := HS.out.1
      · rw [h0] at hlt; simp at hlt
      injection e1 with e1 _ e3
      subst e1 e2 e3
      obtain ⟨c0, c1⟩ := hcell k _ hfk
      have h1 := refIsTag_any fs[k].1
      clear hcell
      by_cases hpk : isTg fs[k].1 = true
      · have HX : Hid (∀ j g, j < k + 1 → fs[j]? = some g → (fun f : Fld => isTg f.1) g = true) := upto_succ hlt HP.out hpk
        rw [hpk] at h1
        clear hpk hfk
        generalize fs[k] = g at *
        obtain ⟨t, V⟩ := g
        go_wp2_with (go_at_call 46; refine (h1 _).mono ?_; rintro e w' ⟨rfl, rfl⟩)
        exact ⟨⟨k + 1, by omega, by go_num, HX.out, by first | rfl | trivial⟩, by simp [intOf]; omega⟩
      · have hpk' : isTg fs[k].1 = false := by simpa using hpk
        have HX : Hid (R = .error 41) := HJ1.out (all_no hlt hpk')
        rw [hpk'] at h1
        clear hpk hpk' hfk
        generalize fs[k] = g at *
        obtain ⟨t, V⟩ := g
        go_wp2_with (go_at_call 46; refine (h1 _).mono ?_; rintro e w' ⟨rfl, rfl⟩)
        go_ret2
        exact .fail HX.out (Below.refl _ _) rfl
    · have HT : Hid ((fs.all fun f => isTg f.1) = true) := all_yes hlt HP.out
      clear HP
      go_wp2
      go_loopw [6, 7, 8] (fun z i _ wr => ∃ (m q : Nat), m ≤ fs.length ∧ i = .int .i64 m ∧ z = .string (bs (bodyB (fs.take m))) ∧ (∀ j g, j < m → fs[j]? = some g → (fun f : Fld => okV f.2) g = true) ∧ wr = w.drewN q) (fun _ i _ _ => fs.length - (intOf i).toNat)
      case atStart => exact ⟨0, 0, Nat.zero_le _, rfl, rfl, fun j g hj => by omega, rfl⟩
      case round =>
        obtain ⟨m, q, hm, rfl, rfl, hp, hw⟩ := hrel
        have HP : Hid ((∀ j g, j < m → fs[j]? = some g → (fun f : Fld => okV f.2) g = true) ∧ wr = w.drewN q) := ⟨hp, hw⟩
        clear hp
        by_cases hlm : m < fs.length
        · have hlm' : (m : Int) < (fs.length : Int) := by omega
          have hfk : fs[m]? = some fs[m] := List.getElem?_eq_getElem hlm
          have hbw : Below w.heap.size w wr := by rw [hw]; exact below_drewN (Below.refl _ w) q
          obtain ⟨ao', cap', e1, _, h0 | ⟨b, off, e2, hcell⟩⟩ := HS.out.1.below hbw
          · rw [h0] at hlm; simp at hlm
          injection e1 with e1 _ e3
          subst e1 e2 e3
          obtain ⟨c0, c1⟩ := hcell m _ hfk
          have htk := HS.out.2 fs[m] (List.getElem_mem hlm)
          have hvl := HV.out fs[m] (List.getElem_mem hlm)
          have h1 := fun w => refIsValue_any (bs fs[m].2) w (by rw [bs_size]; unfold maxLen; omega)
          simp only [bs_list] at h1
          clear hcell hw
          by_cases hpk : okV fs[m].2 = true
          · have HX : Hid (∀ j g, j < m + 1 → fs[j]? = some g → (fun f : Fld => okV f.2) g = true) := upto_succ hlm HP.out.1 hpk
            simp only [hpk] at h1
            have hle := bodyB_le fs m
            have HE : Hid (bodyB (fs.take (m + 1)) = bodyB (fs.take m) ++ fldL fs[m]) := bodyB_snoc fs m hlm
            have h2 := fun w => refPrint_any fs[m].1 htk.1 htk.2 w
            have hil := itoa_le fs[m].1 htk.1 htk.2
            clear hpk hfk
            generalize fs[m] = g at *
            obtain ⟨t, V⟩ := g
            simp only at h1 h2 hil hvl
            have hpb : prB t = bs (Lib.itoa t) := rfl
            simp only [hpb] at h2
            have HF : Hid (bs (bodyB (fs.take m)) ++ bs (Lib.itoa t) ++ ⟨#[61]⟩ ++ bs V ++ ⟨#[1]⟩ = bs (bodyB (fs.take m) ++ fldL (t, V))) := by
              show _ = _
              rw [show (⟨#[61]⟩ : ByteArray) = bs [61] from rfl, show (⟨#[1]⟩ : ByteArray) = bs [1] from rfl, bs_append, bs_append, bs_append, bs_append]
              congr 1
              simp [fldL]
            have s1 := bs_size (bodyB (fs.take m))
            have s2 := bs_size (Lib.itoa t)
            have s3 := bs_size V
            generalize hSS : bs (bodyB (fs.take m)) = S at *
            generalize bs (Lib.itoa t) = I at *
            generalize bs V = VV at *
            have z1 : ¬ 9223372036854775807 < S.size + I.size := by omega
            have z2 : ¬ 9223372036854775807 < S.size + I.size + 1 := by omega
            have z3 : ¬ 9223372036854775807 < S.size + I.size + 1 + VV.size := by omega
            have z4 : ¬ 9223372036854775807 < S.size + I.size + 1 + VV.size + 1 := by omega
            clear s1 s2 s3 hSS hle hil hvl
            go_wp2_with (go_at_call 47; refine (h1 _).mono ?_; rintro e w' ⟨rfl, rfl⟩)
            go_quiet ((go_at_call 48; refine Calls.quiet_of_same (h2 _)))
            go_wp2
            refine ⟨⟨m + 1, _, by omega, by go_num, ?_, HX.out, by rw [HP.out.2, World.drewN_drewN]⟩, by simp [intOf]; omega⟩
            rw [HE.out, ← HF.out]
          · have hpk' : okV fs[m].2 = false := by simpa using hpk
            have HX : Hid (R = .error 42) := HJ2.out HT.out (all_no hlm hpk')
            simp only [hpk'] at h1
            clear hpk hpk' hfk
            generalize fs[m] = g at *
            obtain ⟨t, V⟩ := g
            simp only at h1
            go_wp2_with (go_at_call 47; refine (h1 _).mono ?_; rintro e w' ⟨rfl, rfl⟩)
            go_ret2
            exact .fail HX.out (by rw [HP.out.2]; exact below_drewN (Below.refl _ _) _) rfl
        · have HA : Hid ((fs.all fun f => okV f.2) = true) := all_yes hlm HP.out.1
          have HW : Hid (Below w.heap.size w wr) := by rw [hw]; exact below_drewN (Below.refl _ w) q
          clear hw
          obtain rfl : m = fs.length := by omega
          rw [List.take_length]
          have HJ := HJ3.out HT.out HA.out
          have hcl := close_length (aheadL (bodyB fs))
          have hhl := head_length (bodyB fs)
          have hC : closeL (aheadL (bodyB fs)) = aheadL (bodyB fs) ++ tenL ++ three (sumL (aheadL (bodyB fs))) ++ [1] := rfl
          have h2 := fun w => refPrint_any ((bodyB fs).length : Int) (by omega) (by omega) w
          have hpb : prB ((bodyB fs).length : Int) = bs (Lib.itoa ((bodyB fs).length : Int)) := rfl
          simp only [hpb] at h2
          have hil := itoa_le ((bodyB fs).length : Int) (by omega) (by omega)
          have HE1 : Hid (⟨#[56, 61, 70, 73, 88, 46, 52, 46, 52, 1, 57, 61]⟩ ++ bs (Lib.itoa ((bodyB fs).length : Int)) ++ ⟨#[1]⟩ ++ bs (bodyB fs) = bs (aheadL (bodyB fs))) := by
            show _ = _
            rw [show (⟨#[56, 61, 70, 73, 88, 46, 52, 46, 52, 1, 57, 61]⟩ : ByteArray) = bs headL from rfl, show (⟨#[1]⟩ : ByteArray) = bs [1] from rfl, bs_append, bs_append, bs_append]
            rfl
          have HE2 : Hid (bs (aheadL (bodyB fs)) ++ ⟨#[49, 48, 61]⟩ ++ bs (three (sumL (aheadL (bodyB fs)))) ++ ⟨#[1]⟩ = bs (closeL (aheadL (bodyB fs)))) := by
            show _ = _
            rw [show (⟨#[49, 48, 61]⟩ : ByteArray) = bs tenL from rfl, show (⟨#[1]⟩ : ByteArray) = bs [1] from rfl, bs_append, bs_append, bs_append, hC]
          have h3 := fun w => refThree_any (sumL (aheadL (bodyB fs))) (sumL_lt _) w
          have z0 := bs_size (bodyB fs)
          have z1 := bs_size (Lib.itoa ((bodyB fs).length : Int))
          have z2 := bs_size (aheadL (bodyB fs))
          have z3 := bs_size (three (sumL (aheadL (bodyB fs))))
          have z4 := bs_size (closeL (aheadL (bodyB fs)))
          have z5 : (three (sumL (aheadL (bodyB fs)))).length = 3 := rfl
          have hcvA : ∀ W, (convert 9 23 (.string (bs (aheadL (bodyB fs))))).run Tryd.prog W = .ok (.slice (some ⟨W.heap.size, 0, none⟩) (bs (aheadL (bodyB fs))).size (grownCap W (bs (aheadL (bodyB fs))).size 0 5)) (Lib.bytesWorld W 5 (bs (aheadL (bodyB fs)))) := fun W =>
            Lib.run_convert_string_bytes W 9 23 5 _ Tryd.underlying9 Tryd.underlying23 Tryd.underlying5
          have hcvC : ∀ W, (convert 9 23 (.string (bs (closeL (aheadL (bodyB fs)))))).run Tryd.prog W = .ok (.slice (some ⟨W.heap.size, 0, none⟩) (bs (closeL (aheadL (bodyB fs)))).size (grownCap W (bs (closeL (aheadL (bodyB fs)))).size 0 5)) (Lib.bytesWorld W 5 (bs (closeL (aheadL (bodyB fs))))) := fun W =>
            Lib.run_convert_string_bytes W 9 23 5 _ Tryd.underlying9 Tryd.underlying23 Tryd.underlying5
          have HSA : Hid (∀ W, SrcB (Lib.bytesWorld W 5 (bs (aheadL (bodyB fs)))) (.slice (some ⟨W.heap.size, 0, none⟩) (bs (aheadL (bodyB fs))).size (grownCap W (bs (aheadL (bodyB fs))).size 0 5)) (aheadL (bodyB fs)) ∧ Below W.heap.size W (Lib.bytesWorld W 5 (bs (aheadL (bodyB fs))))) := fun W => conv_src (bs (aheadL (bodyB fs))) W
          have HSC : Hid (∀ W, SrcB (Lib.bytesWorld W 5 (bs (closeL (aheadL (bodyB fs))))) (.slice (some ⟨W.heap.size, 0, none⟩) (bs (closeL (aheadL (bodyB fs)))).size (grownCap W (bs (closeL (aheadL (bodyB fs)))).size 0 5)) (closeL (aheadL (bodyB fs))) ∧ Below W.heap.size W (Lib.bytesWorld W 5 (bs (closeL (aheadL (bodyB fs)))))) := fun W => conv_src (bs (closeL (aheadL (bodyB fs)))) W
          have HLA : Hid ((bs (aheadL (bodyB fs))).size = (aheadL (bodyB fs)).length ∧ (aheadL (bodyB fs)).length ≤ 1048576000 ∧ 0 < (aheadL (bodyB fs)).length) := by
            refine ⟨z2, ?_, ?_⟩
            · rw [hhl]; omega
            · rw [hhl]; omega
          clear hC hpb HJ3 HJ1 HJ2
          generalize bodyB fs = Bd at *
          generalize closeL (aheadL Bd) = CL at *
          generalize aheadL Bd = AL at *
          generalize hSM : sumL AL = SM at *
          have HSM : Hid (sumL AL = SM) := hSM
          clear hSM
          generalize three SM = T3 at *
          generalize Lib.itoa (Bd.length : Int) = IL at *
          generalize bs Bd = S at *
          generalize bs IL = I at *
          generalize bs AL = A at *
          generalize bs T3 = T at *
          generalize bs CL = C at *
          have y1 : ¬ 9223372036854775807 < 12 + I.size := by omega
          have y2 : ¬ 9223372036854775807 < 12 + I.size + 1 := by omega
          have y3 : ¬ 9223372036854775807 < 12 + I.size + 1 + S.size := by omega
          have y4 : ¬ 9223372036854775807 < A.size + 3 := by omega
          have y5 : ¬ 9223372036854775807 < A.size + 3 + T.size := by omega
          have y6 : ¬ 9223372036854775807 < A.size + 3 + T.size + 1 := by omega
          have hSz : (S.size : Int) = (Bd.length : Int) := by omega
          have e1 := HE1.out
          have e2 := HE2.out
          have hCz : Hid (C.size = CL.length) := z4
          clear hhl hil z1 z2 z3 z4 z5 hcl HE1 HE2 HA HT
          go_upto_region 16 with (go_at_call 48; refine (h2 _).mono ?_; rintro e w9 ⟨rfl, hw9⟩; have hw8 := hw9.symm; subst hw8; clear hw9)
          have hsa := HSA.out wr
          have HB1 : Hid (Below w.heap.size w (Lib.bytesWorld wr 5 A)) := HW.out.trans (hsa.2.mono HW.out.size)
          obtain ⟨b1, off1, eb1, hcl1⟩ : ∃ b off, (some ⟨wr.heap.size, 0, none⟩ : Option Addr) = some ⟨b, off, none⟩ ∧ ∀ j c, AL[j]? = some c → (Lib.bytesWorld wr 5 A).cell? ⟨b, off + j, none⟩ = some (.int .u8 (c.toNat : Int)) := by
            obtain ⟨ao3, c3, e3, _, h0 | ⟨b', off', e4, hcl⟩⟩ := hsa.1
            · have := HLA.out.2.2; rw [h0] at this; simp at this
            · injection e3 with e3 _ e5
              exact ⟨b', off', by rw [e3, e4], hcl⟩
          injection eb1 with eb1
          injection eb1 with eb2 eb3
          subst eb2 eb3
          have HCL : Hid (∀ j c, AL[j]? = some c → (Lib.bytesWorld wr 5 A).cell? ⟨wr.heap.size, 0 + j, none⟩ = some (.int .u8 (c.toNat : Int))) := hcl1
          clear hcl1 hsa HSA
          go_wp2_with (go_at_call 50; fail)
          have hal := HLA.out.1
          rw [hal]
          generalize hgc : grownCap wr AL.length 0 5 = gc at *
          generalize Lib.bytesWorld wr 5 A = w1 at *
          have hba : Below w1.heap.size w1 (w1.alloc (.cells #[.slice (some ⟨wr.heap.size, 0, none⟩) AL.length gc] 23)) := (Below.refl _ w1).alloc (Nat.le_refl _) _
          refine (refSum_one w1.heap.size wr.heap.size 0 AL.length gc AL (w1.alloc (.cells #[.slice (some ⟨wr.heap.size, 0, none⟩) AL.length gc] 23)) (Nat.le_refl _) HLA.out.2.1 (cell_of_row _ _ 0 _ _ _ (heap_alloc_new w1 _)) (fun j c hj => by
            have h := HCL.out j c hj
            rw [hba.cell (p := ⟨wr.heap.size, _, none⟩) (World.block_lt_of_cell? _ _ h)]; exact h)).mono ?_
          rw [List.take_length, HSM.out]
          rintro e w2 ⟨rfl, rfl⟩
          have HB2 : Hid (Below w.heap.size w (w1.alloc (.cells #[.slice (some ⟨wr.heap.size, 0, none⟩) AL.length gc] 23))) := HB1.out.alloc HB1.out.size _
          clear hba HCL
          generalize w1.alloc (.cells #[.slice (some ⟨wr.heap.size, 0, none⟩) AL.length gc] 23) = w2 at *
          go_wp2_with (go_at_call 49; fail)
          refine (h3 w2).mono ?_
          rintro e w3 ⟨rfl, hb3⟩
          have HB3 : Hid (Below w.heap.size w w3) := HB2.out.trans (hb3.mono HB2.out.size)
          clear hb3 HB2 h3
          by_cases hlong : 1024 < CL.length
          · have HJJ : Hid (R = .error 43) := by show R = _; rw [HJ, if_pos hlong]
            have hlong' : (1024 : Int) < (C.size : Int) := by have := hCz.out; omega
            clear HJ
            go_wp2
            go_ret2
            exact .fail HJJ.out HB3.out rfl
          · have HJJ : Hid (R = .ok CL) := by show R = _; rw [HJ, if_neg hlong]
            have hlong' : decide ((1024 : Int) < (C.size : Int)) = false := decide_eq_false (by have := hCz.out; omega)
            have hlong2 : decide (1024 < C.size) = false := decide_eq_false (by have := hCz.out; omega)
            have hsc := HSC.out w3
            have HB4 : Hid (Below w.heap.size w (Lib.bytesWorld w3 5 C) ∧ SrcB (Lib.bytesWorld w3 5 C) (.slice (some ⟨w3.heap.size, 0, none⟩) C.size (grownCap w3 C.size 0 5)) CL) := ⟨HB3.out.trans (hsc.2.mono HB3.out.size), hsc.1⟩
            clear HJ hsc
            go_wp2
            go_ret2
            exact .good HJJ.out HB4.out.1 rfl HB4.out.2 (fun k hk => by
              have e : w3.heap.size = k := by simpa [Value.ownBlock] using hk
              rw [Lib.bytesWorld_size]
              have := HB3.out.size
              omega)
end Go.Proofs.YtfgfjkchcnpakaaDoor
