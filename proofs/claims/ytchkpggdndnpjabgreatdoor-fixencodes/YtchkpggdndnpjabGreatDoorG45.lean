import Derived.Test.YtchkpggdndnpjabGreatDoorG40
import Derived.Test.YtchkpggdndnpjabGreatDoorG33
import Derived.Lib.ConvBytes
import Derived.Lib.SlBytesConst
import Derived.Test.YtchkpggdndnpjabGreatDoorG44
import Derived.Test.YtchkpggdndnpjabGreatDoorG43
import Derived.Test.YtchkpggdndnpjabGreatDoorG07
import Derived.ProofKit
import Derived.OpenShut
import Derived.WideShapes
import Derived.Below
import Derived.Carry

namespace Go.Proofs.YtchkpggdndnpjabGreatDoor
set_option linter.unusedVariables false
open Go.RowKit

theorem conv_src (s : ByteArray) (W : World) : SrcB (Lib.bytesWorld W 5 s) (.slice (some ⟨W.heap.size, 0, none⟩) s.size (grownCap W s.size 0 5)) s.data.toList ∧ Below W.heap.size W (Lib.bytesWorld W 5 s) := by
  refine ⟨⟨_, grownCap W s.size 0 5, by rw [size_data], by rw [size_data]; exact grownCap_ge _ _ _ _, .inr ⟨W.heap.size, 0, rfl, fun j c hj => ?_⟩⟩, rfl, rfl, rfl, ?_, fun b hb => Lib.bytesWorld_at_old W 5 s b hb⟩
  · have hjl : j < s.size := by have := (List.getElem?_eq_some_iff.1 hj).1; simpa using this
    rw [Nat.zero_add, Lib.bytesWorld_cell W 5 s j hjl, List.getD_eq_getElem?_getD, hj]; rfl
  · rw [Lib.bytesWorld_size]; omega
theorem bs_append (a b : List UInt8) : bs a ++ bs b = bs (a ++ b) := by
  apply ByteArray.ext
  rw [ByteArray.data_append]
  simp [bs]
/-- What the reference's Join tells. -/
def RefJoinRet (r : Except Int (List UInt8)) (w : World) (x : Ending) (w' : World) : Prop :=
  Below w.heap.size w w' ∧ match r with
  | .ok l => ∃ v, x = .returned (.tuple #[v, .int .i64 0]) ∧ SrcB w' v l ∧ ∀ k, v.ownBlock = some k → w.heap.size ≤ k ∧ k < w'.heap.size
  | .error e => x = .returned (.tuple #[.slice none 0 0, .int .i64 e])
theorem RefJoinRet.good {r : Except Int (List UInt8)} {w w' : World} {x : Ending} {l : List UInt8} {v : Value} (h : r = .ok l) (hb : Below w.heap.size w w') (hx : x = .returned (.tuple #[v, .int .i64 0])) (ho : SrcB w' v l) (hk : ∀ k, v.ownBlock = some k → w.heap.size ≤ k ∧ k < w'.heap.size) : RefJoinRet r w x w' := by
  refine ⟨hb, ?_⟩; rw [h]; exact ⟨v, hx, ho, hk⟩
theorem RefJoinRet.fail {r : Except Int (List UInt8)} {w w' : World} {x : Ending} {e : Int} (h : r = .error e) (hb : Below w.heap.size w w') (hx : x = .returned (.tuple #[.slice none 0 0, .int .i64 e])) : RefJoinRet r w x w' := by
  refine ⟨hb, ?_⟩; rw [h]; exact hx
theorem all_no {p : Fld → Bool} {fs : List Fld} {k : Nat} (h : k < fs.length) (hp : p fs[k] = false) : fs.all p = false := by
  rw [List.all_eq_false]
  exact ⟨fs[k], List.getElem_mem h, by simp [hp]⟩
theorem all_yes {p : Fld → Bool} {fs : List Fld} {k : Nat} (h : ¬ k < fs.length) (hp : ∀ j g, j < k → fs[j]? = some g → p g = true) : fs.all p = true := by
  rw [List.all_eq_true]
  intro g hg
  obtain ⟨j, hj, e⟩ := List.getElem_of_mem hg
  exact hp j g (by omega) (by rw [List.getElem?_eq_getElem hj, e])
theorem upto_succ {p : Fld → Bool} {fs : List Fld} {k : Nat} (h : k < fs.length) (hp : ∀ j g, j < k → fs[j]? = some g → p g = true) (hk : p fs[k] = true) : ∀ j g, j < k + 1 → fs[j]? = some g → p g = true := fun j g hj hg => by
  by_cases e : j < k
  · exact hp j g e hg
  · obtain rfl : j = k := by omega
    rw [List.getElem?_eq_getElem h] at hg; injection hg with hg; rw [← hg]; exact hk
set_option maxRecDepth 100000 in
set_option maxHeartbeats 1600000 in
theorem refJoin_any (v : Value) (fs : List Fld) (w : World) (hs : SrcF w v fs) (ht : okT fs) (hsz : (bodyB fs).length ≤ 104857600) (hn : fs.length ≤ 1099511627776) :
    Calls Tryz.prog 10 #[v] w fun x w' => RefJoinRet (joinL fs) w x w' := by
  have HS : Hid (SrcF w v fs ∧ okT fs) := ⟨hs, ht⟩
  have HV : Hid (∀ f ∈ fs, f.2.length ≤ 104857600) := fun f hf => by have := val_le_body fs f hf; omega
  have HJ1 : Hid ((fs.all fun f => isTg f.1) = false → joinL fs = .error 41) := fun h => by unfold joinL; rw [if_pos h]
  have HJ2 : Hid ((fs.all fun f => isTg f.1) = true → (fs.all fun f => okV f.2) = false → joinL fs = .error 42) := fun h1 h2 => by unfold joinL; rw [if_neg (by simp [h1]), if_pos h2]
  have HJ3 : Hid ((fs.all fun f => isTg f.1) = true → (fs.all fun f => okV f.2) = true → joinL fs = if 1024 < (closeL (aheadL (bodyB fs))).length then .error 43 else .ok (closeL (aheadL (bodyB fs)))) := fun h1 h2 => by
    unfold joinL; rw [if_neg (by simp [h1]), if_neg (by simp [h2])]
  obtain ⟨ao, cap, rfl, hc, _⟩ := hs
  clear ht
  generalize joinL fs = R at *
  go_enter Tryz.func10, Tryz.ntmps10
  go_wp2
  go_loopw [4, 5] (fun i _ wr => ∃ k : Nat, k ≤ fs.length ∧ i = .int .i64 k ∧ (∀ j g, j < k → fs[j]? = some g → (fun f : Fld => isTg f.1) g = true) ∧ wr = w) (fun i _ _ => fs.length - (intOf i).toNat)
  case atStart => exact ⟨0, Nat.zero_le _, rfl, fun j g hj => by omega, rfl⟩
  case round =>
    obtain ⟨k, hk, rfl, hp, hw0⟩ := hrel
    have hw1 := hw0.symm
    subst hw1
    have HP : Hid (∀ j g, j < k → fs[j]? = some g → (fun f : Fld => isTg f.1) g = true) := hp
    clear hp
    by_cases hlt : k < fs.length
    · have hlt' : (k : Int) < (fs.length : Int) := by omega
      have hfk : fs[k]? = some fs[k] := List.getElem?_eq_getElem hlt
      obtain ⟨ao', cap', e1, _, h0 | ⟨b, off, e2, hcell⟩⟩ := HS.out.1
      · rw [h0] at hlt; simp at hlt
      injection e1 with e1 _ e3
      subst e1 e2 e3
      obtain ⟨c0, c1⟩ := hcell k _ hfk
      have h1 := refIsTag_any fs[k].1
      clear hcell
      by_cases hpk : isTg fs[k].1 = true
      · have HX : Hid (∀ j g, j < k + 1 → fs[j]? = some g → (fun f : Fld => isTg f.1) g = true) := upto_succ hlt HP.out hpk
        rw [hpk] at h1
        clear hpk hfk
        generalize fs[k] = g at *
        obtain ⟨t, V⟩ := g
        go_wp2_with (go_at_call 24; refine (h1 _).mono ?_; rintro e w' ⟨rfl, rfl⟩)
        exact ⟨⟨k + 1, by omega, by go_num, HX.out, by first | rfl | trivial⟩, by simp [intOf]; omega⟩
      · have hpk' : isTg fs[k].1 = false := by simpa using hpk
        have HX : Hid (R = .error 41) := HJ1.out (all_no hlt hpk')
        rw [hpk'] at h1
        clear hpk hpk' hfk
        generalize fs[k] = g at *
        obtain ⟨t, V⟩ := g
        go_wp2_with (go_at_call 24; refine (h1 _).mono ?_; rintro e w' ⟨rfl, rfl⟩)
        go_ret2
        exact .fail HX.out (Below.refl _ _) rfl
    · have HT : Hid ((fs.all fun f => isTg f.1) = true) := all_yes hlt HP.out
      clear HP
      go_wp2
      go_loopw [6, 7, 8] (fun z i _ wr => ∃ (m q : Nat), m ≤ fs.length ∧ i = .int .i64 m ∧ z = .string (bs (bodyB (fs.take m))) ∧ (∀ j g, j < m → fs[j]? = some g → (fun f : Fld => okV f.2) g = true) ∧ wr = w.drewN q) (fun _ i _ _ => fs.length - (intOf i).toNat)
      case atStart => exact ⟨0, 0, Nat.zero_le _, rfl, rfl, fun j g hj => by omega, rfl⟩
      case round =>
        obtain ⟨m, q, hm, rfl, rfl, hp, hw⟩ := hrel
        have HP : Hid ((∀ j g, j < m → fs[j]? = some g → (fun f : Fld => okV f.2) g = true) ∧ wr = w.drewN q) := ⟨hp, hw⟩
        clear hp
        by_cases hlm : m < fs.length
        · have hlm' : (m : Int) < (fs.length : Int) := by omega
          have hfk : fs[m]? = some fs[m] := List.getElem?_eq_getElem hlm
          have hbw : Below w.heap.size w wr := by rw [hw]; exact below_drewN (Below.refl _ w) q
          obtain ⟨ao', cap', e1, _, h0 | ⟨b, off, e2, hcell⟩⟩ := HS.out.1.below hbw
          · rw [h0] at hlm; simp at hlm
          injection e1 with e1 _ e3
          subst e1 e2 e3
          obtain ⟨c0, c1⟩ := hcell m _ hfk
          have htk := HS.out.2 fs[m] (List.getElem_mem hlm)
          have hvl := HV.out fs[m] (List.getElem_mem hlm)
          have h1 := fun w => refIsValue_any (bs fs[m].2) w (by rw [bs_size]; unfold maxLen; omega)
          simp only [bs_list] at h1
          clear hcell hw
          by_cases hpk : okV fs[m].2 = true
          · have HX : Hid (∀ j g, j < m + 1 → fs[j]? = some g → (fun f : Fld => okV f.2) g = true) := upto_succ hlm HP.out.1 hpk
            simp only [hpk] at h1
            have hle := bodyB_le fs m
            have HE : Hid (bodyB (fs.take (m + 1)) = bodyB (fs.take m) ++ fldL fs[m]) := bodyB_snoc fs m hlm
            have h2 := fun w => refPrint_any fs[m].1 htk.1 htk.2 w
            have hil := itoa_le fs[m].1 htk.1 htk.2
            clear hpk hfk
            generalize fs[m] = g at *
            obtain ⟨t, V⟩ := g
            simp only at h1 h2 hil hvl
            have hpb : prRB t = bs (Lib.itoa t) := rfl
            simp only [hpb] at h2
            have HF : Hid (bs (bodyB (fs.take m)) ++ bs (Lib.itoa t) ++ ⟨#[61]⟩ ++ bs V ++ ⟨#[1]⟩ = bs (bodyB (fs.take m) ++ fldL (t, V))) := by
              show _ = _
              rw [show (⟨#[61]⟩ : ByteArray) = bs [61] from rfl, show (⟨#[1]⟩ : ByteArray) = bs [1] from rfl, bs_append, bs_append, bs_append, bs_append]
              congr 1
              simp [fldL]
            have s1 := bs_size (bodyB (fs.take m))
            have s2 := bs_size (Lib.itoa t)
            have s3 := bs_size V
            generalize hSS : bs (bodyB (fs.take m)) = S at *
            generalize bs (Lib.itoa t) = I at *
            generalize bs V = VV at *
            have z1 : ¬ 9223372036854775807 < S.size + I.size := by omega
            have z2 : ¬ 9223372036854775807 < S.size + I.size + 1 := by omega
            have z3 : ¬ 9223372036854775807 < S.size + I.size + 1 + VV.size := by omega
            have z4 : ¬ 9223372036854775807 < S.size + I.size + 1 + VV.size + 1 := by omega
            clear s1 s2 s3 hSS hle hil hvl
            go_wp2_with (go_at_call 25; refine (h1 _).mono ?_; rintro e w' ⟨rfl, rfl⟩)
            go_quiet ((go_at_call 26; refine Calls.quiet_of_same (h2 _)))
            go_wp2
            refine ⟨⟨m + 1, _, by omega, by go_num, ?_, HX.out, by rw [HP.out.2, World.drewN_drewN]⟩, by simp [intOf]; omega⟩
            rw [HE.out, ← HF.out]
          · have hpk' : okV fs[m].2 = false := by simpa using hpk
            have HX : Hid (R = .error 42) := HJ2.out HT.out (all_no hlm hpk')
            simp only [hpk'] at h1
            clear hpk hpk' hfk
            generalize fs[m] = g at *
            obtain ⟨t, V⟩ := g
            simp only at h1
            go_wp2_with (go_at_call 25; refine (h1 _).mono ?_; rintro e w' ⟨rfl, rfl⟩)
            go_ret2
            exact .fail HX.out (by rw [HP.out.2]; exact below_drewN (Below.refl _ _) _) rfl
        · have HA : Hid ((fs.all fun f => okV f.2) = true) := all_yes hlm HP.out.1
          have HW : Hid (Below w.heap.size w wr) := by rw [hw]; exact below_drewN (Below.refl _ w) q
          clear hw
          obtain rfl : m = fs.length := by omega
          rw [List.take_length]
          have HJ := HJ3.out HT.out HA.out
          have hcl := close_length (aheadL (bodyB fs))
          have hhl := head_length (bodyB fs)
          have hC : closeL (aheadL (bodyB fs)) = aheadL (bodyB fs) ++ tenL ++ three (sumL (aheadL (bodyB fs))) ++ [1] := rfl
          have h2 := fun w => refPrint_any ((bodyB fs).length : Int) (by omega) (by omega) w
          have hpb : prRB ((bodyB fs).length : Int) = bs (Lib.itoa ((bodyB fs).length : Int)) := rfl
          simp only [hpb] at h2
          have hil := itoa_le ((bodyB fs).length : Int) (by omega) (by omega)
          have HE1 : Hid (⟨#[56, 61, 70, 73, 88, 46, 52, 46, 52, 1, 57, 61]⟩ ++ bs (Lib.itoa ((bodyB fs).length : Int)) ++ ⟨#[1]⟩ ++ bs (bodyB fs) = bs (aheadL (bodyB fs))) := by
            show _ = _
            rw [show (⟨#[56, 61, 70, 73, 88, 46, 52, 46, 52, 1, 57, 61]⟩ : ByteArray) = bs headL from rfl, show (⟨#[1]⟩ : ByteArray) = bs [1] from rfl, bs_append, bs_append, bs_append]
            rfl
          have HE2 : Hid (bs (aheadL (bodyB fs)) ++ ⟨#[49, 48, 61]⟩ ++ bs (three (sumL (aheadL (bodyB fs)))) ++ ⟨#[1]⟩ = bs (closeL (aheadL (bodyB fs)))) := by
            show _ = _
            rw [show (⟨#[49, 48, 61]⟩ : ByteArray) = bs tenL from rfl, show (⟨#[1]⟩ : ByteArray) = bs [1] from rfl, bs_append, bs_append, bs_append, hC]
          have h3 := fun w => refThree_any (sumL (aheadL (bodyB fs))) (sumL_lt _) w
          have z0 := bs_size (bodyB fs)
          have z1 := bs_size (Lib.itoa ((bodyB fs).length : Int))
          have z2 := bs_size (aheadL (bodyB fs))
          have z3 := bs_size (three (sumL (aheadL (bodyB fs))))
          have z4 := bs_size (closeL (aheadL (bodyB fs)))
          have z5 : (three (sumL (aheadL (bodyB fs)))).length = 3 := rfl
          have hcvA : ∀ W, (convert 9 25 (.string (bs (aheadL (bodyB fs))))).run Tryz.prog W = .ok (.slice (some ⟨W.heap.size, 0, none⟩) (bs (aheadL (bodyB fs))).size (grownCap W (bs (aheadL (bodyB fs))).size 0 5)) (Lib.bytesWorld W 5 (bs (aheadL (bodyB fs)))) := fun W =>
            Lib.run_convert_string_bytes W 9 25 5 _ Tryz.underlying9 Tryz.underlying25 Tryz.underlying5
          have hcvC : ∀ W, (convert 9 25 (.string (bs (closeL (aheadL (bodyB fs)))))).run Tryz.prog W = .ok (.slice (some ⟨W.heap.size, 0, none⟩) (bs (closeL (aheadL (bodyB fs)))).size (grownCap W (bs (closeL (aheadL (bodyB fs)))).size 0 5)) (Lib.bytesWorld W 5 (bs (closeL (aheadL (bodyB fs))))) := fun W =>
            Lib.run_convert_string_bytes W 9 25 5 _ Tryz.underlying9 Tryz.underlying25 Tryz.underlying5
          have HSA : Hid (∀ W, SrcB (Lib.bytesWorld W 5 (bs (aheadL (bodyB fs)))) (.slice (some ⟨W.heap.size, 0, none⟩) (bs (aheadL (bodyB fs))).size (grownCap W (bs (aheadL (bodyB fs))).size 0 5)) (aheadL (bodyB fs)) ∧ Below W.heap.size W (Lib.bytesWorld W 5 (bs (aheadL (bodyB fs))))) := fun W => conv_src (bs (aheadL (bodyB fs))) W
          have HSC : Hid (∀ W, SrcB (Lib.bytesWorld W 5 (bs (closeL (aheadL (bodyB fs))))) (.slice (some ⟨W.heap.size, 0, none⟩) (bs (closeL (aheadL (bodyB fs)))).size (grownCap W (bs (closeL (aheadL (bodyB fs)))).size 0 5)) (closeL (aheadL (bodyB fs))) ∧ Below W.heap.size W (Lib.bytesWorld W 5 (bs (closeL (aheadL (bodyB fs)))))) := fun W => conv_src (bs (closeL (aheadL (bodyB fs)))) W
          have HLA : Hid ((bs (aheadL (bodyB fs))).size = (aheadL (bodyB fs)).length ∧ (aheadL (bodyB fs)).length ≤ 1048576000 ∧ 0 < (aheadL (bodyB fs)).length) := by
            refine ⟨z2, ?_, ?_⟩
            · rw [hhl]; omega
            · rw [hhl]; omega
          clear hC hpb HJ3 HJ1 HJ2
          generalize bodyB fs = Bd at *
          generalize closeL (aheadL Bd) = CL at *
          generalize aheadL Bd = AL at *
          generalize hSM : sumL AL = SM at *
          have HSM : Hid (sumL AL = SM) := hSM
          clear hSM
          generalize three SM = T3 at *
          generalize Lib.itoa (Bd.length : Int) = IL at *
          generalize bs Bd = S at *
          generalize bs IL = I at *
          generalize bs AL = A at *
          generalize bs T3 = T at *
          generalize bs CL = C at *
          have y1 : ¬ 9223372036854775807 < 12 + I.size := by omega
          have y2 : ¬ 9223372036854775807 < 12 + I.size + 1 := by omega
          have y3 : ¬ 9223372036854775807 < 12 + I.size + 1 + S.size := by omega
          have y4 : ¬ 9223372036854775807 < A.size + 3 := by omega
          have y5 : ¬ 9223372036854775807 < A.size + 3 + T.size := by omega
          have y6 : ¬ 9223372036854775807 < A.size + 3 + T.size + 1 := by omega
          have hSz : (S.size : Int) = (Bd.length : Int) := by omega
          have e1 := HE1.out
          have e2 := HE2.out
          have hCz : Hid (C.size = CL.length) := z4
          clear hhl hil z1 z2 z3 z4 z5 hcl HE1 HE2 HA HT
          go_upto_region 16 with (go_at_call 26; refine (h2 _).mono ?_; rintro e w9 ⟨rfl, hw9⟩; have hw8 := hw9.symm; subst hw8; clear hw9)
          have hsa := HSA.out wr
          have HB1 : Hid (Below w.heap.size w (Lib.bytesWorld wr 5 A)) := HW.out.trans (hsa.2.mono HW.out.size)
          obtain ⟨b1, off1, eb1, hcl1⟩ : ∃ b off, (some ⟨wr.heap.size, 0, none⟩ : Option Addr) = some ⟨b, off, none⟩ ∧ ∀ j c, AL[j]? = some c → (Lib.bytesWorld wr 5 A).cell? ⟨b, off + j, none⟩ = some (.int .u8 (c.toNat : Int)) := by
            obtain ⟨ao3, c3, e3, _, h0 | ⟨b', off', e4, hcl⟩⟩ := hsa.1
            · have := HLA.out.2.2; rw [h0] at this; simp at this
            · injection e3 with e3 _ e5
              exact ⟨b', off', by rw [e3, e4], hcl⟩
          injection eb1 with eb1
          injection eb1 with eb2 eb3
          subst eb2 eb3
          have HCL : Hid (∀ j c, AL[j]? = some c → (Lib.bytesWorld wr 5 A).cell? ⟨wr.heap.size, 0 + j, none⟩ = some (.int .u8 (c.toNat : Int))) := hcl1
          clear hcl1 hsa HSA
          go_wp2_with (go_at_call 28; fail)
          have hal := HLA.out.1
          rw [hal]
          generalize hgc : grownCap wr AL.length 0 5 = gc at *
          generalize Lib.bytesWorld wr 5 A = w1 at *
          have hba : Below w1.heap.size w1 (w1.alloc (.cells #[.slice (some ⟨wr.heap.size, 0, none⟩) AL.length gc] 25)) := (Below.refl _ w1).alloc (Nat.le_refl _) _
          refine (refSum_one w1.heap.size wr.heap.size 0 AL.length gc AL (w1.alloc (.cells #[.slice (some ⟨wr.heap.size, 0, none⟩) AL.length gc] 25)) (Nat.le_refl _) HLA.out.2.1 (cell_of_row _ _ 0 _ _ _ (heap_alloc_new w1 _)) (fun j c hj => by
            have h := HCL.out j c hj
            rw [hba.cell (p := ⟨wr.heap.size, _, none⟩) (World.block_lt_of_cell? _ _ h)]; exact h)).mono ?_
          rw [List.take_length, HSM.out]
          rintro e w2 ⟨rfl, rfl⟩
          have HB2 : Hid (Below w.heap.size w (w1.alloc (.cells #[.slice (some ⟨wr.heap.size, 0, none⟩) AL.length gc] 25))) := HB1.out.alloc HB1.out.size _
          clear hba HCL
          generalize w1.alloc (.cells #[.slice (some ⟨wr.heap.size, 0, none⟩) AL.length gc] 25) = w2 at *
          go_wp2_with (go_at_call 27; fail)
          refine (h3 w2).mono ?_
          rintro e w3 ⟨rfl, hb3⟩
          have HB3 : Hid (Below w.heap.size w w3) := HB2.out.trans (hb3.mono HB2.out.size)
          clear hb3 HB2 h3
          by_cases hlong : 1024 < CL.length
          · have HJJ : Hid (R = .error 43) := by show R = _; rw [HJ, if_pos hlong]
            have hlong' : (1024 : Int) < (C.size : Int) := by have := hCz.out; omega
            clear HJ
            go_wp2
            go_ret2
            exact .fail HJJ.out HB3.out rfl
          · have HJJ : Hid (R = .ok CL) := by show R = _; rw [HJ, if_neg hlong]
            have hlong' : decide ((1024 : Int) < (C.size : Int)) = false := decide_eq_false (by have := hCz.out; omega)
            have hlong2 : decide (1024 < C.size) = false := decide_eq_false (by have := hCz.out; omega)
            have hsc := HSC.out w3
            have HB4 : Hid (Below w.heap.size w (Lib.bytesWorld w3 5 C) ∧ SrcB (Lib.bytesWorld w3 5 C) (.slice (some ⟨w3.heap.size, 0, none⟩) C.size (grownCap w3 C.size 0 5)) CL) := ⟨HB3.out.trans (hsc.2.mono HB3.out.size), hsc.1⟩
            clear HJ hsc
            go_wp2
            go_ret2
            exact .good HJJ.out HB4.out.1 rfl HB4.out.2 (fun k hk => by
              have e : w3.heap.size = k := by simpa [Value.ownBlock] using hk
              rw [Lib.bytesWorld_size]
              have := HB3.out.size
              omega)
end Go.Proofs.YtchkpggdndnpjabGreatDoor

namespace Go.Proofs.YtchkpggdndnpjabGreatDoor
set_option linter.unusedVariables false
open Go.RowKit

theorem OwnB.set {w : World} {B g c : Nat} {l : List UInt8} (h : OwnB w B (.slice (some ⟨g, 0, none⟩) l.length c) l) (i : Nat) (x : UInt8) :
    OwnB (w.setCell ⟨g, i, none⟩ (.int .u8 (x.toNat : Int))) B (.slice (some ⟨g, 0, none⟩) (l.set i x).length c) (l.set i x) := by
  obtain ⟨h1, h2⟩ := h
  refine ⟨by rw [bcs_length]; simp, ?_⟩
  rcases h2 with ⟨e, _⟩ | ⟨g', cap, cur, e, r1, r2, r3, r4, r5, r6⟩
  · cases e
  · injection e with e1 _ e3
    injection e1 with e1
    injection e1 with e1
    subst e1 e3
    refine .inr ⟨g, c, cur.setIfInBounds i (.int .u8 (x.toNat : Int)), by rw [List.length_set], r1, ?_, by rw [List.length_set]; exact r3, r4, by simpa using r5, ?_⟩
    · rw [setCell_eq_setRow w g i cur 5 (0, 0) _ r2]
      exact setRow_heap w g cur _ 5 (0, 0) r2
    · rw [Array.toList_setIfInBounds, List.length_set, List.take_set, r6]
      unfold bcs
      rw [List.map_set]
theorem OwnB.cell {w : World} {B g c : Nat} {l : List UInt8} (h : OwnB w B (.slice (some ⟨g, 0, none⟩) l.length c) l) (i : Nat) (hi : i < l.length) :
    w.cell? ⟨g, i, none⟩ = some (.int .u8 (l[i].toNat : Int)) ∧ w.frozen? ⟨g, i, none⟩ = false := by
  obtain ⟨h1, h2⟩ := h
  rcases h2 with ⟨e, _⟩ | ⟨g', cap, cur, e, r1, r2, r3, r4, r5, r6⟩
  · cases e
  · injection e with e1 _ e3
    injection e1 with e1
    injection e1 with e1
    subst e1 e3
    have e1 : (bcs l)[i]? = some (.int .u8 (l[i].toNat : Int)) := by unfold bcs; rw [List.getElem?_map, List.getElem?_eq_getElem hi]; rfl
    rw [← r6, List.getElem?_take, if_pos (by omega)] at e1
    refine ⟨?_, ?_⟩
    · rw [cell_of_row w g _ cur _ _ r2]; simpa using e1
    · simp [World.frozen?, r2]
/-- The byte that a spoilt one becomes. -/
def Ap (a b : Value) : Prop := ∀ k, a.ownBlock = some k → b.ownBlock ≠ some k
theorem Ap.symm {a b : Value} (h : Ap a b) : Ap b a := fun k hk e => h k e hk
theorem SrcB.of_block {w w' : World} {v : Value} {l : List UInt8} (h : SrcB w v l) (hk : ∀ k, v.ownBlock = some k → w'.heap[k]? = w.heap[k]?) : SrcB w' v l := by
  obtain ⟨ao, cap, rfl, hc, h⟩ := h
  refine ⟨ao, cap, rfl, hc, ?_⟩
  rcases h with h | ⟨b, off, rfl, h⟩
  · exact .inl h
  · exact .inr ⟨b, off, rfl, fun j c hj => by rw [World.cell?_of_block (w := w) (hk b rfl)]; exact h j c hj⟩
structure T4 (w0 wr : World) (v1 : Value) (l1 : List UInt8) (v2 : Value) (l2 : List UInt8) (v3 : Value) (l3 : List UInt8) (vc : Value) (lc : List UInt8) : Prop where
  bel : Below w0.heap.size w0 wr
  o1 : OwnB wr w0.heap.size v1 l1
  o2 : OwnB wr w0.heap.size v2 l2
  o3 : OwnB wr w0.heap.size v3 l3
  oc : SrcB wr vc lc
  a12 : Ap v1 v2
  a13 : Ap v1 v3
  a23 : Ap v2 v3
  a1c : Ap v1 vc
  a2c : Ap v2 vc
  a3c : Ap v3 vc
  ltc : ∀ k, vc.ownBlock = some k → k < wr.heap.size
theorem T4.rot {w0 wr : World} {v1 : Value} {l1 : List UInt8} {v2 : Value} {l2 : List UInt8} {v3 : Value} {l3 : List UInt8} {vc : Value} {lc : List UInt8} (h : T4 w0 wr v1 l1 v2 l2 v3 l3 vc lc) : T4 w0 wr v2 l2 v3 l3 v1 l1 vc lc :=
  ⟨h.bel, h.o2, h.o3, h.o1, h.oc, h.a23, h.a12.symm, h.a13.symm, h.a2c, h.a3c, h.a1c, h.ltc⟩
theorem T4.drew {w0 wr : World} {v1 : Value} {l1 : List UInt8} {v2 : Value} {l2 : List UInt8} {v3 : Value} {l3 : List UInt8} {vc : Value} {lc : List UInt8} (h : T4 w0 wr v1 l1 v2 l2 v3 l3 vc lc) (q : Nat) : T4 w0 (wr.drewN q) v1 l1 v2 l2 v3 l3 vc lc := by
  have hb : Below wr.heap.size wr (wr.drewN q) := below_drewN (Below.refl _ wr) q
  exact ⟨below_drewN h.bel q, h.o1.below hb, h.o2.below hb, h.o3.below hb, h.oc.below hb, h.a12, h.a13, h.a23, h.a1c, h.a2c, h.a3c, h.ltc⟩
theorem T4.set {w0 wr : World} {g c : Nat} {l1 : List UInt8} {v2 : Value} {l2 : List UInt8} {v3 : Value} {l3 : List UInt8} {vc : Value} {lc : List UInt8} (h : T4 w0 wr (.slice (some ⟨g, 0, none⟩) l1.length c) l1 v2 l2 v3 l3 vc lc) (i : Nat) (x : UInt8) :
    T4 w0 (wr.setCell ⟨g, i, none⟩ (.int .u8 (x.toNat : Int))) (.slice (some ⟨g, 0, none⟩) (l1.set i x).length c) (l1.set i x) v2 l2 v3 l3 vc lc := by
  have hk : ∀ v : Value, Ap (.slice (some ⟨g, 0, none⟩) l1.length c) v → ∀ k, v.ownBlock = some k → (wr.setCell ⟨g, i, none⟩ (.int .u8 (x.toNat : Int))).heap[k]? = wr.heap[k]? := fun v ha k hk => by
    rw [Below.heap_setCell]
    intro e
    have e' : k = g := e
    subst e'
    exact ha k rfl hk
  refine ⟨h.bel.setCell ?_ _, h.o1.set i x, ownsRow_of_block h.o2 (hk _ h.a12), ownsRow_of_block h.o3 (hk _ h.a13), h.oc.of_block (hk _ h.a1c), h.a12, h.a13, h.a23, h.a1c, h.a2c, h.a3c, fun k hk => by simpa using h.ltc k hk⟩
  exact (h.o1.lt g rfl).1
theorem T4.app {w0 wr w' : World} {v1 : Value} {l1 : List UInt8} {v2 : Value} {l2 : List UInt8} {v3 : Value} {l3 : List UInt8} {vc : Value} {lc : List UInt8} (h : T4 w0 wr v1 l1 v2 l2 v3 l3 vc lc) (x : UInt8) (g cap : Nat)
    (ho : w'.ownsRow w0.heap.size 5 1 (.slice (some ⟨g, 0, none⟩) (l1.length + 1) cap) (l1.length + 1) (bcs l1 ++ [.int .u8 (x.toNat : Int)])) (hg : (wr.alloc (.cells #[.int .u8 (x.toNat : Int)] 5)).grownBy w' v1.ownBlock) (hat : v1.ownBlock = some g ∨ g = (wr.alloc (.cells #[.int .u8 (x.toNat : Int)] 5)).heap.size) :
    T4 w0 w' (.slice (some ⟨g, 0, none⟩) (l1 ++ [x]).length cap) (l1 ++ [x]) v2 l2 v3 l3 vc lc := by
  have hsz : (wr.alloc (.cells #[.int .u8 (x.toNat : Int)] 5)).heap.size = wr.heap.size + 1 := by simp
  have hb0 : Below wr.heap.size wr (wr.alloc (.cells #[.int .u8 (x.toNat : Int)] 5)) := (Below.refl _ wr).alloc (Nat.le_refl _) _
  have hk : ∀ v : Value, Ap v1 v → (∀ k, v.ownBlock = some k → k < wr.heap.size) → ∀ k, v.ownBlock = some k → w'.heap[k]? = wr.heap[k]? := fun v ha hl k hk => by
    have h1 := hl k hk
    rw [hg.block k (by omega) (fun e => ha k e.symm hk), hb0.block k h1]
  have ha : ∀ v : Value, Ap v1 v → (∀ k, v.ownBlock = some k → k < wr.heap.size) → Ap (.slice (some ⟨g, 0, none⟩) (l1 ++ [x]).length cap) v := fun v ha hl k hk e => by
    have e1 : g = k := by simpa [Value.ownBlock] using hk
    subst e1
    rcases hat with hat | hat
    · exact ha g hat e
    · have := hl g e; omega
  have l2' := fun k hk => (h.o2.lt k hk).2
  have l3' := fun k hk => (h.o3.lt k hk).2
  refine ⟨?_, ?_, ownsRow_of_block h.o2 (hk _ h.a12 l2'), ownsRow_of_block h.o3 (hk _ h.a13 l3'), h.oc.of_block (hk _ h.a1c h.ltc), ha _ h.a12 l2', ha _ h.a13 l3', h.a23, ha _ h.a1c h.ltc, h.a2c, h.a3c, fun k hk => ?_⟩
  · exact grow_ok (World.ownsRow.alloc h.o1 _) hg (h.bel.alloc h.bel.size _) (Nat.le_refl _)
  · unfold OwnB
    rw [bcs_app, List.length_append]
    exact ho
  · have := h.ltc k hk
    have h2 := hg.size
    omega
/-- So many at the head written over. -/
def fillL (l : List UInt8) (c : UInt8) (k : Nat) : List UInt8 := List.replicate k c ++ l.drop k
theorem fillL_length (l : List UInt8) (c : UInt8) (k : Nat) (h : k ≤ l.length) : (fillL l c k).length = l.length := by simp [fillL]; omega
theorem fillL_zero (l : List UInt8) (c : UInt8) : fillL l c 0 = l := by simp [fillL]
theorem fillL_set (l : List UInt8) (c : UInt8) (k : Nat) (h : k < l.length) : (fillL l c k).set k c = fillL l c (k + 1) := by
  unfold fillL
  rw [List.set_append, if_neg (by simp), List.drop_eq_getElem_cons h, List.length_replicate, Nat.sub_self, List.set_cons_zero, List.replicate_succ']
  simp
theorem fillL_all (l : List UInt8) (c : UInt8) : fillL l c l.length = List.replicate l.length c := by simp [fillL]
def joinB (fs : List Fld) : List UInt8 := match joinL fs with | .ok l => l | .error _ => []
def joinE (fs : List Fld) : Int := match joinL fs with | .ok _ => 0 | .error e => e
theorem JoinRet.one {fs : List Fld} {w w' : World} {x : Ending} (h : JoinRet (joinL fs) w x w') : ∃ v, x = .returned (.tuple #[v, .int .i64 (joinE fs)]) ∧ OwnB w' w.heap.size v (joinB fs) ∧ Below w.heap.size w w' := by
  obtain ⟨hb, h⟩ := h
  unfold joinB joinE
  cases hj : joinL fs with
  | ok l => rw [hj] at h; obtain ⟨v, h1, h2⟩ := h; exact ⟨v, h1, h2, hb⟩
  | error e => rw [hj] at h; exact ⟨_, h, World.ownsRow_nil _ _ _ _, hb⟩
theorem RefJoinRet.one {fs : List Fld} {w w' : World} {x : Ending} (h : RefJoinRet (joinL fs) w x w') : ∃ v, x = .returned (.tuple #[v, .int .i64 (joinE fs)]) ∧ SrcB w' v (joinB fs) ∧ (∀ k, v.ownBlock = some k → w.heap.size ≤ k ∧ k < w'.heap.size) ∧ Below w.heap.size w w' := by
  obtain ⟨hb, h⟩ := h
  unfold joinB joinE
  cases hj : joinL fs with
  | ok l => rw [hj] at h; obtain ⟨v, h1, h2, h3⟩ := h; exact ⟨v, h1, h2, h3, hb⟩
  | error e => rw [hj] at h; exact ⟨_, h, ⟨none, 0, rfl, Nat.le_refl _, .inl rfl⟩, (fun k hk => by cases hk), hb⟩
theorem joinB_len (fs : List Fld) : (joinB fs).length ≤ 1024 := by
  unfold joinB
  cases hj : joinL fs with
  | ok l => exact (join_len hj).2
  | error e => exact Nat.zero_le _

theorem T4.fill {w0 wr : World} {g c n k : Nat} {x : UInt8} {l : List UInt8} {v2 : Value} {l2 : List UInt8} {v3 : Value} {l3 : List UInt8} {vc : Value} {lc : List UInt8} (h : T4 w0 wr (.slice (some ⟨g, 0, none⟩) n c) (fillL l x k) v2 l2 v3 l3 vc lc) (hn : n = l.length) (hk : k < n) :
    T4 w0 (wr.setCell ⟨g, k, none⟩ (.int .u8 (x.toNat : Int))) (.slice (some ⟨g, 0, none⟩) n c) (fillL l x (k + 1)) v2 l2 v3 l3 vc lc := by
  subst hn
  have e1 := fillL_length l x k (by omega)
  have e2 := fillL_length l x (k + 1) (by omega)
  rw [← e1] at h
  have h2 := h.set k x
  rw [fillL_set l x k hk, e2] at h2
  exact h2
theorem T4.cell {w0 wr : World} {g c n : Nat} {l : List UInt8} {v2 : Value} {l2 : List UInt8} {v3 : Value} {l3 : List UInt8} {vc : Value} {lc : List UInt8} (h : T4 w0 wr (.slice (some ⟨g, 0, none⟩) n c) l v2 l2 v3 l3 vc lc) (hn : n = l.length) (k : Nat) (hk : k < n) :
    ∃ y : UInt8, l[k]? = some y ∧ wr.cell? ⟨g, k, none⟩ = some (.int .u8 (y.toNat : Int)) ∧ wr.frozen? ⟨g, k, none⟩ = false := by
  subst hn
  obtain ⟨a, b⟩ := h.o1.cell k hk
  exact ⟨l[k], List.getElem?_eq_getElem hk, a, b⟩
theorem T4.grow {w0 wr w' : World} {n g cap : Nat} {x : UInt8} {v1 v2 : Value} {l2 : List UInt8} {v3 : Value} {l3 : List UInt8} {vc : Value} {lc : List UInt8} (h : T4 w0 wr v1 (List.replicate n x) v2 l2 v3 l3 vc lc)
    (ho : w'.ownsRow w0.heap.size 5 1 (.slice (some ⟨g, 0, none⟩) (n + 1) cap) (n + 1) (bcs (List.replicate n x) ++ [.int .u8 (x.toNat : Int)])) (hg : (wr.alloc (.cells #[.int .u8 (x.toNat : Int)] 5)).grownBy w' v1.ownBlock) (hat : v1.ownBlock = some g ∨ g = (wr.alloc (.cells #[.int .u8 (x.toNat : Int)] 5)).heap.size) :
    T4 w0 w' (.slice (some ⟨g, 0, none⟩) (n + 1) cap) (List.replicate (n + 1) x) v2 l2 v3 l3 vc lc := by
  have e : (List.replicate n x).length = n := List.length_replicate
  have h2 := h.app x g cap (by rw [e]; exact ho) hg hat
  rw [List.length_append, e, ← List.replicate_succ'] at h2
  exact h2
theorem T4.addr {w0 wr : World} {ao : Option Addr} {c n : Nat} {l : List UInt8} {v2 : Value} {l2 : List UInt8} {v3 : Value} {l3 : List UInt8} {vc : Value} {lc : List UInt8} (h : T4 w0 wr (.slice ao n c) l v2 l2 v3 l3 vc lc) (hn : 0 < n) : ∃ g, ao = some ⟨g, 0, none⟩ ∧ n ≤ c := by
  rcases h.o1.2 with ⟨e, h0⟩ | ⟨g, cap, cur, e, _, _, r3, _⟩
  · injection e with _ e2 _; omega
  · injection e with e1 e2 e3; exact ⟨g, e1, by omega⟩
end Go.Proofs.YtchkpggdndnpjabGreatDoor

namespace Go.Proofs.YtchkpggdndnpjabGreatDoor
set_option linter.unusedVariables false
set_option linter.unusedSimpArgs false
open Go.RowKit Go.Great

/-- What Encode writes. -/
def enB (M : Msg) : List UInt8 := if valE M = 0 then joinB (encF M) else []
theorem enB_len (M : Msg) : (enB M).length ≤ 1024 := by
  unfold enB
  split
  · exact joinB_len _
  · exact Nat.zero_le _
theorem Encode_one (M : Msg) (w : World) (he : Env w) (hz : M.ok) : Calls Tryz.prog 7 #[.agg M.cs] w fun e w' => ∃ v, e = .returned (.tuple #[v, .int .i64 (valE M)]) ∧ OwnB w' w.heap.size v (enB M) ∧ Below w.heap.size w w' := by
  by_cases hv : valE M = 0
  · obtain ⟨b, hj, -, hE⟩ := Encode_ok M w he.mon he.pow hz hv
    refine hE.mono ?_
    rintro e w' ⟨v, rfl, ho, hb⟩
    refine ⟨v, by rw [hv], ?_, hb⟩
    unfold enB joinB
    rw [if_pos hv, hj]
    exact ho
  · refine (Encode_no M w he.mon hz hv).mono ?_
    rintro e w' ⟨rfl, hb⟩
    refine ⟨_, rfl, ?_, hb⟩
    unfold enB
    rw [if_neg hv]
    exact World.ownsRow_nil _ _ _ _
set_option maxRecDepth 100000 in
set_option maxHeartbeats 1000000 in
theorem EncX_any (M : Msg) (w : World) (hz : M.ok) (hS : M.okS) :
    Calls Tryz.prog 8 #[.agg M.cs] w fun e w' => ∃ v, e = .returned (.tuple #[v, .int .i64 (valE M)]) ∧ SrcB w' v (enB M) ∧ (∀ k, v.ownBlock = some k → w.heap.size ≤ k ∧ k < w'.heap.size) ∧ Below w.heap.size w w' := by
  have HO := box_own M w
  have HZ : Hid (M.ok ∧ M.okS) := ⟨hz, hS⟩
  clear hz hS
  go_enter Tryz.func8, Tryz.ntmps8
  go_upto_region 1 with fail
  generalize w.alloc (.cells M.cs 23) = w1 at *
  generalize hcs : M.cs = CS at *
  have Hcs : Hid (M.cs = CS) := hcs
  clear hcs
  refine wp_region_lit ?_
  refine wpList_loadM HO.out.1 (.tmp 1) rfl rfl rfl ?_
  simp only [Act.put, List.setIfInBounds_toArray, List.set_cons_zero, List.set_cons_succ]
  rw [Hcs.out]
  have hva := refValid_any M HZ.out.1 HZ.out.2 w1
  rw [Hcs.out] at hva
  go_wp2_with (go_at_call 16; fail)
  refine hva.mono ?_
  clear hva
  rintro e w2 ⟨rfl, hb2⟩
  have HO2 : Hid (OwnM w2 w.heap.size M ∧ Below w.heap.size w w2) := ⟨HO.out.1.low hb2, HO.out.2.trans (hb2.mono HO.out.2.size)⟩
  clear hb2 HO
  generalize valN M = N at *
  by_cases hv : valE M = 0
  · have HV : Hid (Vld M ∧ enB M = joinB (encF M)) := ⟨vld_of hv, by unfold enB; rw [if_pos hv]⟩
    have HV0 : Hid (valE M = 0) := hv
    rw [hv]
    clear hv
    go_upto_region 4 with fail
    refine wp_region_lit ?_
    refine wpList_loadM HO2.out.1 (.tmp 1) rfl rfl rfl ?_
    simp only [Act.put, List.setIfInBounds_toArray, List.set_cons_zero, List.set_cons_succ]
    rw [Hcs.out]
    have hf := FieldsX_any HV.out.1 HZ.out.1 w2
    rw [Hcs.out] at hf
    go_wp2_with (go_at_call 17; fail)
    refine hf.mono ?_
    clear hf
    rintro e w3 ⟨u, rfl, ho3, hb3⟩
    have HB3 : Hid (Below w.heap.size w w3) := HO2.out.2.trans (hb3.mono HO2.out.2.size)
    have HJ := refJoin_any u (encF M) w3 ho3.src (enc_okT HV.out.1) (by have := (enc_fit HV.out.1).1; omega) (by have := encX_len M 45; rw [encX_all] at this; omega)
    clear ho3 hb3 HO2
    go_wp2_with (go_at_call 10; fail)
    refine HJ.mono ?_
    clear HJ
    intro y w4 hR
    obtain ⟨v, rfl, hs, hk, hb4⟩ := hR.one
    have hjE : joinE (encF M) = 0 := by
      obtain ⟨b, hj, -⟩ := enc_join HV.out.1
      unfold joinE
      rw [hj]
    have HF : Hid (SrcB w4 v (enB M) ∧ (∀ k, v.ownBlock = some k → w.heap.size ≤ k ∧ k < w4.heap.size) ∧ Below w.heap.size w w4) := ⟨by rw [HV.out.2]; exact hs, fun k q => ⟨Nat.le_trans HB3.out.size (hk k q).1, (hk k q).2⟩, HB3.out.trans (hb4.mono HB3.out.size)⟩
    rw [hjE]
    clear hs hk hb4 hR HB3 hjE
    go_wp2
    go_ret2
    exact ⟨v, by rw [HV0.out]; rfl, HF.out⟩
  · have hv' : (valE M != 0) = true := by simpa using hv
    have HV : Hid (enB M = []) := by show enB M = []; unfold enB; rw [if_neg hv]
    obtain ⟨E, hE⟩ : ∃ E, valE M = E := ⟨_, rfl⟩
    have HVE : Hid (valE M = E) := hE
    rw [hE] at hv' ⊢
    clear hv hE
    go_wp2
    go_ret2
    refine ⟨.slice none 0 0, by rw [HVE.out]; rfl, ?_, (fun k q => by cases q), HO2.out.2⟩
    rw [HV.out]
    exact ⟨none, 0, rfl, Nat.le_refl _, .inl rfl⟩
end Go.Proofs.YtchkpggdndnpjabGreatDoor

namespace Go.Proofs.YtchkpggdndnpjabGreatDoor
set_option linter.unusedVariables false
open Go.ChangeShapes Go.WideShapes Go.ChangeAt Go.RowKit

def cellZ (v : Option Value) : Int := match v with | some (.int _ z) => z | _ => 0
def cellS (v : Option Value) : ByteArray := match v with | some (.string s) => s | _ => ⟨#[]⟩
def cellB (v : Option Value) : Bool := match v with | some (.bool b) => b | _ => false
def msgOf (cs : Array Value) : Msg := ⟨fun i => cellZ cs[i]?, fun i => cellS cs[i]?, fun i => cellB cs[i]?⟩
def inR (z : Int) : Prop := -9223372036854775808 ≤ z ∧ z ≤ 9223372036854775807
theorem wf_in {z : Int} (h : (Lit.int .i64 z).wf = true) : inR z := by
  exact bounds_i64 h
section
variable {H : Type} {enc : TypeId × Value → H} {W : World} {base : Nat} {sp : Nat → Bool} {held : Bool}
theorem one_at {l : List Value} {i : Nat} {v : Value} (h : (l.drop i).take 1 = [v]) : l[i]? = some v := by
  have := congrArg (·[0]?) h
  simpa [List.getElem?_take, List.getElem?_drop] using this
theorem f_int3 {n i : Nat} {l : List Value} {x : DataW H × List MemPlace} (h : DataW.trod enc Tryz.prog W base sp held n 3 ((l.drop i).take (Tryz.prog.cellsOf 3)) = some x) : ∃ z, l[i]? = some (.int .i64 z) ∧ inR z := by
  rw [show Tryz.prog.cellsOf 3 = 1 by kernel_rfl] at h
  obtain ⟨z, hc, _, hw⟩ := DataW.trod_int Tryz.underlying3 h
  exact ⟨z, one_at hc, wf_in hw⟩
theorem f_int2 {n i : Nat} {l : List Value} {x : DataW H × List MemPlace} (h : DataW.trod enc Tryz.prog W base sp held n 2 ((l.drop i).take (Tryz.prog.cellsOf 2)) = some x) : ∃ z, l[i]? = some (.int .i64 z) ∧ inR z := by
  rw [show Tryz.prog.cellsOf 2 = 1 by kernel_rfl] at h
  obtain ⟨z, hc, _, hw⟩ := DataW.trod_int Tryz.underlying2 h
  exact ⟨z, one_at hc, wf_in hw⟩
theorem f_str {n i : Nat} {l : List Value} {x : DataW H × List MemPlace} (h : DataW.trod enc Tryz.prog W base sp held n 9 ((l.drop i).take (Tryz.prog.cellsOf 9)) = some x) : ∃ s : ByteArray, l[i]? = some (.string s) ∧ s.size ≤ maxLen := by
  rw [show Tryz.prog.cellsOf 9 = 1 by kernel_rfl] at h
  obtain ⟨s, hc, _, hw⟩ := DataW.trod_string Tryz.underlying9 h
  exact ⟨s, one_at hc, hw⟩
theorem f_boo {n i : Nat} {l : List Value} {x : DataW H × List MemPlace} (h : DataW.trod enc Tryz.prog W base sp held n 4 ((l.drop i).take (Tryz.prog.cellsOf 4)) = some x) : ∃ b, l[i]? = some (.bool b) := by
  rw [show Tryz.prog.cellsOf 4 = 1 by kernel_rfl] at h
  obtain ⟨b, hc, _⟩ := DataW.trod_bool Tryz.underlying4 h
  exact ⟨b, one_at hc⟩
theorem mk_int {cs : Array Value} {i : Nat} (hs : isStr i = false) (hb : isBoo i = false) (h : ∃ z, cs.toList[i]? = some (.int .i64 z) ∧ inR z) : cs[i]? = some ((msgOf cs).cell i) ∧ inR ((msgOf cs).z i) ∧ ((msgOf cs).s i).size ≤ maxLen := by
  obtain ⟨z, h1, h2⟩ := h
  have h1' : cs[i]? = some (.int .i64 z) := by simpa using h1
  refine ⟨?_, ?_, ?_⟩
  · simp [msgOf, Msg.cell, hs, hb, h1', cellZ]
  · simpa [msgOf, h1', cellZ] using h2
  · simp only [msgOf, h1', cellS]; exact Nat.zero_le _
theorem mk_str {cs : Array Value} {i : Nat} (hs : isStr i = true) (h : ∃ s : ByteArray, cs.toList[i]? = some (.string s) ∧ s.size ≤ maxLen) : cs[i]? = some ((msgOf cs).cell i) ∧ inR ((msgOf cs).z i) ∧ ((msgOf cs).s i).size ≤ maxLen := by
  obtain ⟨s, h1, h2⟩ := h
  have h1' : cs[i]? = some (.string s) := by simpa using h1
  refine ⟨?_, ?_, ?_⟩
  · simp [msgOf, Msg.cell, hs, h1', cellS]
  · simp [msgOf, h1', cellZ, inR]
  · simpa [msgOf, h1', cellS] using h2
theorem mk_boo {cs : Array Value} {i : Nat} (hs : isStr i = false) (hb : isBoo i = true) (h : ∃ b, cs.toList[i]? = some (.bool b)) : cs[i]? = some ((msgOf cs).cell i) ∧ inR ((msgOf cs).z i) ∧ ((msgOf cs).s i).size ≤ maxLen := by
  obtain ⟨b, h1⟩ := h
  have h1' : cs[i]? = some (.bool b) := by simpa using h1
  refine ⟨?_, ?_, ?_⟩
  · simp [msgOf, Msg.cell, hs, hb, h1', cellB]
  · simp [msgOf, h1', cellZ, inR]
  · simp only [msgOf, h1', cellS]; exact Nat.zero_le _
set_option maxRecDepth 100000 in
theorem open_msg {r : Reach} {b0 : Nat} {v : Value} {d : DataW H} {p : List MemPlace} (hv : Value.okWide Tryz.prog W r b0 23 v) (h : DataW.Trod enc Tryz.prog W base sp held 23 v d p) :
    ∃ M : Msg, v = .agg M.cs ∧ M.ok ∧ M.okS := by
  obtain ⟨cs, rfl, hsz⟩ := okWide_struct Tryz.underlying23 hv
  rw [show Tryz.prog.cellsOf 23 = 42 by kernel_rfl] at hsz
  obtain ⟨fuel, hf⟩ := h
  obtain ⟨xs, n, _, _, _, hlen, hfl⟩ := DataW.trod_struct Tryz.underlying23 hf
  have hlen' : xs.length = 42 := hlen
  have hx : ∀ i, i < 42 → ∃ x, xs[i]? = some x := fun i hi => ⟨xs[i], List.getElem?_eq_getElem (by omega)⟩
  have hfl' : ∀ (i : Nat) (f : Field), _ := hfl
  have key : ∀ i, i < 42 → cs[i]? = some ((msgOf cs).cell i) ∧ inR ((msgOf cs).z i) ∧ ((msgOf cs).s i).size ≤ maxLen := fun i hi => by
    obtain ⟨x, hx⟩ := hx i hi
    rcases cases42 hi with rfl | rfl | rfl | rfl | rfl | rfl | rfl | rfl | rfl | rfl | rfl | rfl | rfl | rfl | rfl | rfl | rfl | rfl | rfl | rfl | rfl | rfl | rfl | rfl | rfl | rfl | rfl | rfl | rfl | rfl | rfl | rfl | rfl | rfl | rfl | rfl | rfl | rfl | rfl | rfl | rfl | rfl
    · exact mk_int rfl rfl (f_int3 ((hfl 0 _ rfl).trans hx))
    · exact mk_str rfl (f_str ((hfl 1 _ rfl).trans hx))
    · exact mk_str rfl (f_str ((hfl 2 _ rfl).trans hx))
    · exact mk_int rfl rfl (f_int3 ((hfl 3 _ rfl).trans hx))
    · exact mk_boo rfl rfl (f_boo ((hfl 4 _ rfl).trans hx))
    · exact mk_int rfl rfl (f_int2 ((hfl 5 _ rfl).trans hx))
    · exact mk_int rfl rfl (f_int2 ((hfl 6 _ rfl).trans hx))
    · exact mk_int rfl rfl (f_int3 ((hfl 7 _ rfl).trans hx))
    · exact mk_boo rfl rfl (f_boo ((hfl 8 _ rfl).trans hx))
    · exact mk_str rfl (f_str ((hfl 9 _ rfl).trans hx))
    · exact mk_int rfl rfl (f_int3 ((hfl 10 _ rfl).trans hx))
    · exact mk_int rfl rfl (f_int3 ((hfl 11 _ rfl).trans hx))
    · exact mk_int rfl rfl (f_int3 ((hfl 12 _ rfl).trans hx))
    · exact mk_boo rfl rfl (f_boo ((hfl 13 _ rfl).trans hx))
    · exact mk_int rfl rfl (f_int3 ((hfl 14 _ rfl).trans hx))
    · exact mk_int rfl rfl (f_int3 ((hfl 15 _ rfl).trans hx))
    · exact mk_int rfl rfl (f_int3 ((hfl 16 _ rfl).trans hx))
    · exact mk_int rfl rfl (f_int3 ((hfl 17 _ rfl).trans hx))
    · exact mk_str rfl (f_str ((hfl 18 _ rfl).trans hx))
    · exact mk_str rfl (f_str ((hfl 19 _ rfl).trans hx))
    · exact mk_str rfl (f_str ((hfl 20 _ rfl).trans hx))
    · exact mk_str rfl (f_str ((hfl 21 _ rfl).trans hx))
    · exact mk_str rfl (f_str ((hfl 22 _ rfl).trans hx))
    · exact mk_int rfl rfl (f_int3 ((hfl 23 _ rfl).trans hx))
    · exact mk_int rfl rfl (f_int3 ((hfl 24 _ rfl).trans hx))
    · exact mk_int rfl rfl (f_int3 ((hfl 25 _ rfl).trans hx))
    · exact mk_int rfl rfl (f_int2 ((hfl 26 _ rfl).trans hx))
    · exact mk_int rfl rfl (f_int2 ((hfl 27 _ rfl).trans hx))
    · exact mk_int rfl rfl (f_int2 ((hfl 28 _ rfl).trans hx))
    · exact mk_int rfl rfl (f_int2 ((hfl 29 _ rfl).trans hx))
    · exact mk_int rfl rfl (f_int2 ((hfl 30 _ rfl).trans hx))
    · exact mk_int rfl rfl (f_int3 ((hfl 31 _ rfl).trans hx))
    · exact mk_int rfl rfl (f_int3 ((hfl 32 _ rfl).trans hx))
    · exact mk_int rfl rfl (f_int3 ((hfl 33 _ rfl).trans hx))
    · exact mk_int rfl rfl (f_int3 ((hfl 34 _ rfl).trans hx))
    · exact mk_int rfl rfl (f_int3 ((hfl 35 _ rfl).trans hx))
    · exact mk_int rfl rfl (f_int2 ((hfl 36 _ rfl).trans hx))
    · exact mk_int rfl rfl (f_int2 ((hfl 37 _ rfl).trans hx))
    · exact mk_int rfl rfl (f_int2 ((hfl 38 _ rfl).trans hx))
    · exact mk_int rfl rfl (f_int2 ((hfl 39 _ rfl).trans hx))
    · exact mk_int rfl rfl (f_int3 ((hfl 40 _ rfl).trans hx))
    · exact mk_int rfl rfl (f_int3 ((hfl 41 _ rfl).trans hx))
  have none_at : ∀ i, ¬ i < 42 → cs[i]? = none := fun i hi => Array.getElem?_eq_none (by omega)
  refine ⟨msgOf cs, ?_, fun i => ?_, fun i => ?_⟩
  · congr 1
    apply Array.ext_getElem?
    intro i
    by_cases hi : i < 42
    · rw [(key i hi).1, Msg.cs_get _ _ hi]
    · rw [none_at i hi, Array.getElem?_eq_none (by rw [Msg.cs_size]; omega)]
  · by_cases hi : i < 42
    · exact (key i hi).2.1
    · simp only [msgOf, none_at i hi, cellZ]; decide
  · by_cases hi : i < 42
    · exact (key i hi).2.2
    · simp only [msgOf, none_at i hi, cellS]; exact Nat.zero_le _
end

end Go.Proofs.YtchkpggdndnpjabGreatDoor
