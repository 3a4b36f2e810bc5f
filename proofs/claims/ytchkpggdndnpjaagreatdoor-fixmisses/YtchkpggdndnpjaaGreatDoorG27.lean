import Derived.Test.YtchkpggdndnpjaaGreatDoorG26
import Derived.OwnWalk
import Derived.Test.YtchkpggdndnpjaaGreatDoorG18
import Derived.Test.YtchkpggdndnpjaaGreatDoorG19
import Derived.Test.YtchkpggdndnpjaaGreatDoorG21

namespace Go.Proofs.YtchkpggdndnpjaaGreatDoor
set_option linter.unusedVariables false
open Go.RowKit

/-- What Join tells. -/
def JoinRet (r : Except Int (List UInt8)) (w : World) (x : Ending) (w' : World) : Prop :=
  Below w.heap.size w w' ∧ match r with
  | .ok l => ∃ v, x = .returned (.tuple #[v, .int .i64 0]) ∧ OwnB w' w.heap.size v l
  | .error e => x = .returned (.tuple #[.slice none 0 0, .int .i64 e])
theorem JoinRet.good {r : Except Int (List UInt8)} {w w' : World} {x : Ending} {l : List UInt8} {v : Value} (h : r = .ok l) (hb : Below w.heap.size w w') (hx : x = .returned (.tuple #[v, .int .i64 0])) (ho : OwnB w' w.heap.size v l) : JoinRet r w x w' := by
  refine ⟨hb, ?_⟩; rw [h]; exact ⟨v, hx, ho⟩
theorem JoinRet.fail {r : Except Int (List UInt8)} {w w' : World} {x : Ending} {e : Int} (h : r = .error e) (hb : Below w.heap.size w w') (hx : x = .returned (.tuple #[.slice none 0 0, .int .i64 e])) : JoinRet r w x w' := by
  refine ⟨hb, ?_⟩; rw [h]; exact hx
theorem OwnB.form {w : World} {B : Nat} {v : Value} {l : List UInt8} (h : OwnB w B v l) : ∃ ao cv, v = .slice ao l.length cv := by
  rcases h.2 with ⟨e, h0⟩ | ⟨g, cap, cur, e, _⟩
  · exact ⟨none, 0, by rw [e, h0]⟩
  · exact ⟨_, cap, e⟩
theorem val_le_body : ∀ (fs : List Fld) (f : Fld), f ∈ fs → f.2.length ≤ (bodyB fs).length
  | g :: fs, f, h => by
    have e : bodyB (g :: fs) = fldL g ++ bodyB fs := by simp [bodyB]
    rw [e, List.length_append]
    rcases List.mem_cons.1 h with rfl | h
    · rw [fldL_length]; omega
    · have := val_le_body fs f h; omega
theorem head_length (b : List UInt8) : (aheadL b).length = 12 + (Lib.itoa (b.length : Int)).length + 1 + b.length := by
  unfold aheadL headL; simp; omega
set_option maxRecDepth 100000 in
set_option maxHeartbeats 800000 in
theorem Join_any (v : Value) (fs : List Fld) (w : World) (hs : SrcF w v fs) (hp : Pow w) (ht : okT fs) (hsz : (bodyB fs).length ≤ 1099511627776) (hn : fs.length ≤ 1099511627776) :
    Calls Tryz.prog 17 #[v] w fun x w' => JoinRet (joinL fs) w x w' := by
  obtain ⟨i0, hi, hz0, hz1, hz2⟩ := info_parts info5
  have h1 := all_any 34 (fun f => isTg f.1) v fs w (fun x w' => cfTag x w') (fun g hg w' => rightTag_any g w') (by omega) hs
  by_cases hT : (fs.all fun f => isTg f.1) = false
  · have HJ : Hid (joinL fs = .error 41) := by show joinL _ = _; unfold joinL; rw [if_pos hT]
    generalize joinL fs = R at *
    rw [hT] at h1
    clear hT hs hp ht hsz
    go_enter Tryz.func17, Tryz.ntmps17
    go_wp2_with (go_at_call 33; fail)
    refine h1.mono ?_
    rintro e w1 ⟨rfl, hb1⟩
    have HB1 : Hid (Below w.heap.size w w1) := hb1
    clear hb1 h1
    go_wp2
    go_ret2
    exact .fail HJ.out HB1.out rfl
  have hT' : (fs.all fun f => isTg f.1) = true := by simpa using hT
  rw [hT'] at h1
  have h2 := fun w' (hb : Below w.heap.size w w') => all_any 35 (fun f => okV f.2) v fs w' (fun x w' => cfVal x w') (fun g hg w2 => rightValue_any g w2 (by have := val_le_body fs g hg; unfold maxLen; omega)) (by omega) (hs.below hb)
  by_cases hV : (fs.all fun f => okV f.2) = false
  · have HJ : Hid (joinL fs = .error 42) := by show joinL _ = _; unfold joinL; rw [if_neg hT, if_pos hV]
    generalize joinL fs = R at *
    simp only [hV] at h2
    clear hT hT' hV hs hp ht hsz
    go_enter Tryz.func17, Tryz.ntmps17
    go_wp2_with (go_at_call 33; fail)
    refine h1.mono ?_
    rintro e w1 ⟨rfl, hb1⟩
    have HB1 : Hid (Below w.heap.size w w1) := hb1
    clear hb1 h1
    go_wp2_with (go_at_call 33; fail)
    refine (h2 w1 HB1.out).mono ?_
    rintro e w2 ⟨rfl, hb2⟩
    have HB2 : Hid (Below w.heap.size w w2) := HB1.out.trans (hb2.mono HB1.out.size)
    clear hb2 h2
    go_wp2
    go_ret2
    exact .fail HJ.out HB2.out rfl
  have hV' : (fs.all fun f => okV f.2) = true := by simpa using hV
  simp only [hV'] at h2
  have h3 := fun w' (hb : Below w.heap.size w w') => bodySize_any v fs w' (hs.below hb) (hp.below hb) ht hsz hn
  have h4 := fun w' (hb : Below w.heap.size w w') => Print_any ((bodyB fs).length : Int) (by omega) (by omega) w' (hp.below hb)
  have hbs : (⟨(Lib.itoa ((bodyB fs).length : Int)).toArray⟩ : ByteArray) = bs (Lib.itoa ((bodyB fs).length : Int)) := rfl
  simp only [hbs] at h4
  have hiz := bs_size (Lib.itoa ((bodyB fs).length : Int))
  have hil := itoa_le ((bodyB fs).length : Int) (by omega) (by omega)
  have hcl : (closeL (aheadL (bodyB fs))).length = 12 + (Lib.itoa ((bodyB fs).length : Int)).length + 1 + (bodyB fs).length + 7 := by rw [close_length, head_length]
  by_cases hL : 1024 < (closeL (aheadL (bodyB fs))).length
  · have HJ : Hid (joinL fs = .error 43) := by show joinL _ = _; unfold joinL; rw [if_neg hT, if_neg hV, if_pos hL]
    generalize joinL fs = R at *
    rw [hcl] at hL
    clear hT hT' hV hV' hs hp ht hcl hbs
    generalize (bodyB fs).length = n at *
    generalize Lib.itoa (n : Int) = I at *
    have hL' : (1024 : Int) < 12 + (I.length : Int) + 1 + (n : Int) + 7 := by omega
    go_enter Tryz.func17, Tryz.ntmps17
    go_wp2_with (go_at_call 33; fail)
    refine h1.mono ?_
    rintro e w1 ⟨rfl, hb1⟩
    have HB1 : Hid (Below w.heap.size w w1) := hb1
    clear hb1 h1
    go_wp2_with (go_at_call 33; fail)
    refine (h2 w1 HB1.out).mono ?_
    rintro e w2 ⟨rfl, hb2⟩
    have HB2 : Hid (Below w.heap.size w w2) := HB1.out.trans (hb2.mono HB1.out.size)
    clear hb2 h2 HB1
    go_wp2_with (go_at_call 36; fail)
    refine (h3 w2 HB2.out).mono ?_
    rintro e w3 ⟨rfl, hb3⟩
    have HB3 : Hid (Below w.heap.size w w3) := HB2.out.trans (hb3.mono HB2.out.size)
    clear hb3 h3 HB2
    go_wp2_with (go_at_call 37; fail)
    refine (h4 w3 HB3.out).mono ?_
    rintro e w4 ⟨rfl, hb4⟩
    have HB4 : Hid (Below w.heap.size w w4) := HB3.out.trans (hb4.mono HB3.out.size)
    clear hb4 h4 HB3
    go_wp2
    go_ret2
    exact .fail HJ.out HB4.out rfl
  have HJ : Hid (joinL fs = .ok (closeL (aheadL (bodyB fs)))) := by show joinL _ = _; unfold joinL; rw [if_neg hT, if_neg hV, if_neg hL]
  generalize joinL fs = R at *
  rw [hcl] at hL
  have HS : Hid (SrcF w v fs ∧ Pow w ∧ okT fs ∧ (bodyB fs).length ≤ 1024 ∧ (∀ f ∈ fs, f.2.length ≤ 1024)) := ⟨hs, hp, ht, by omega, fun f hf => by have := val_le_body fs f hf; omega⟩
  have HD : Hid (aheadL (bodyB fs) = headL ++ Lib.itoa ((bodyB fs).length : Int) ++ [1] ++ bodyB fs) := rfl
  have HC : Hid (closeL (aheadL (bodyB fs)) = aheadL (bodyB fs) ++ tenL ++ three (sumL (aheadL (bodyB fs))) ++ [1]) := rfl
  have HN : Hid ((bodyB fs).length + (Lib.itoa ((bodyB fs).length : Int)).length ≤ 1004) := by show _ ≤ _; omega
  have HIc := strCells_bs (Lib.itoa ((bodyB fs).length : Int))
  generalize closeL (aheadL (bodyB fs)) = CL at *
  generalize aheadL (bodyB fs) = AL at *
  clear hT hT' hV hV' hp ht hcl hbs
  obtain ⟨n, hbn⟩ : ∃ n, (bodyB fs).length = n := ⟨_, rfl⟩
  rw [hbn] at h3 h4 hiz hil hL HIc hsz HD HN
  have HBN : Hid ((bodyB fs).length = n) := hbn
  clear hbn
  generalize Lib.itoa (n : Int) = I at *
  have hL' : decide ((1024 : Int) < 12 + (I.length : Int) + 1 + (n : Int) + 7) = false := decide_eq_false (by omega)
  have hI0 : I.length ≤ 21 := hil
  obtain ⟨ao, cap, rfl, hc, _⟩ := hs
  go_enter Tryz.func17, Tryz.ntmps17
  go_wp2_with (go_at_call 33; fail)
  refine h1.mono ?_
  rintro e w1 ⟨rfl, hb1⟩
  have HB1 : Hid (Below w.heap.size w w1) := hb1
  clear hb1 h1
  go_wp2_with (go_at_call 33; fail)
  refine (h2 w1 HB1.out).mono ?_
  rintro e w2 ⟨rfl, hb2⟩
  have HB2 : Hid (Below w.heap.size w w2) := HB1.out.trans (hb2.mono HB1.out.size)
  clear hb2 h2 HB1
  go_wp2_with (go_at_call 36; fail)
  refine (h3 w2 HB2.out).mono ?_
  rintro e w3 ⟨rfl, hb3⟩
  have HB3 : Hid (Below w.heap.size w w3) := HB2.out.trans (hb3.mono HB2.out.size)
  clear hb3 h3 HB2
  go_wp2_with (go_at_call 37; fail)
  refine (h4 w3 HB3.out).mono ?_
  rintro e w4 ⟨rfl, hb4⟩
  have HB4 : Hid (Below w.heap.size w w4) := HB3.out.trans (hb4.mono HB3.out.size)
  clear hb4 h4 HB3
  go_upto_region 11 with (at_make; refine wpList_make_own _ rfl _ _ 22 rfl w.heap.size 5 i0 (.int .u8 0) 1 Tryz.underlying22 hi hz0 hz1 _ _ _ (12 + I.length + 1 + n + 7) rfl rfl (by omega) (by rw [hz2]; omega) (by unfold maxLen; omega) HB4.out.size ?_; intro w5 hown5 hgrow5)
  have HA5 : Hid (w5.ownsRow w.heap.size 5 1 (.slice (some ⟨w4.heap.size, 0, none⟩) 0 (12 + I.length + 1 + n + 7)) 0 [] ∧ Below w.heap.size w w5) := ⟨hown5, HB4.out.grown hgrow5 HB4.out.size (fun k hk => by cases hk)⟩
  have hB5 : w.heap.size ≤ w5.heap.size := HA5.out.2.size
  clear hown5 hgrow5
  have hhz := bs_size headL
  have hhc := strCells_bs headL
  have htz := bs_size tenL
  have htc := strCells_bs tenL
  have HSC : Hid (Lib.strCells (bs headL) = bcs headL ∧ Lib.strCells (bs tenL) = bcs tenL ∧ Lib.strCells (bs I) = bcs I) := ⟨hhc, htc, HIc⟩
  clear hhc htc HIc
  have hh12 : (bs headL).size = 12 := hhz
  go_upto_region 12 with (at_builtin; refine Lib.wpList_append_own_string _ rfl _ _ 22 9 rfl w.heap.size 5 i0 Tryz.underlying22 Tryz.underlying9 hi hz0 hz1 hz2 _ 0 [] rfl HA5.out.1 (bs headL) rfl (by unfold maxLen; omega) (by omega) hB5 ?_; intro v6 w6 ho6 hg6 hn6)
  have HA6 : Hid (OwnB w6 w.heap.size v6 headL ∧ Below w.heap.size w w6) := by
    refine ⟨?_, grow_ok HA5.out.1 hg6 HA5.out.2 (Nat.le_refl _)⟩
    rw [HSC.out.1, hhz] at ho6
    unfold OwnB
    simpa using ho6
  clear ho6 hg6 hn6 HA5 hB5
  have hB6 : w.heap.size ≤ w6.heap.size := HA6.out.2.size
  have hl6 : headL.length = 12 := rfl
  go_upto_region 13 with (at_builtin; refine Lib.wpList_append_own_string _ rfl _ _ 22 9 rfl w.heap.size 5 i0 Tryz.underlying22 Tryz.underlying9 hi hz0 hz1 hz2 _ headL.length (bcs headL) rfl HA6.out.1 (bs I) rfl (by unfold maxLen; omega) (by omega) hB6 ?_; intro v7 w7 ho7 hg7 hn7)
  have HA7 : Hid (OwnB w7 w.heap.size v7 (headL ++ I) ∧ Below w.heap.size w w7) := by
    refine ⟨?_, grow_ok HA6.out.1 hg7 HA6.out.2 (Nat.le_refl _)⟩
    rw [HSC.out.2.2, hiz] at ho7
    unfold OwnB; rw [bcs_app, List.length_append]; exact ho7
  clear ho7 hg7 hn7 HA6 hB6
  have hB7 : w.heap.size ≤ (w7.alloc (.cells #[.int .u8 1] 5)).heap.size := by have := HA7.out.2.size; simp; omega
  have hl7 : (headL ++ I).length ≤ 33 := by simp; omega
  have hn7 := one_new w7 1
  go_upto_region 14 with (at_builtin; refine wpList_append_own _ rfl _ _ 22 rfl w.heap.size 5 i0 (.int .u8 0) 1 1 Tryz.underlying22 hi hz0 hz1 hz2 rfl (by decide) _ (headL ++ I).length (bcs (headL ++ I)) rfl (World.ownsRow.alloc HA7.out.1 _) ⟨w7.heap.size, 0, none⟩ 1 1 [.int .u8 1] rfl rfl hn7 (fun x hx => by simp at hx; subst hx; rfl) (by unfold maxLen; omega) (by omega) hB7 ?_; intro v8 w8 ho8 hg8 hn8)
  have HA8 : Hid (OwnB w8 w.heap.size v8 (headL ++ I ++ ([1] : List UInt8)) ∧ Below w.heap.size w w8) := by
    have hb' : Below w.heap.size w (w7.alloc (.cells #[.int .u8 1] 5)) := HA7.out.2.alloc HA7.out.2.size _
    refine ⟨?_, grow_ok (World.ownsRow.alloc HA7.out.1 _) hg8 hb' (Nat.le_refl _)⟩
    unfold OwnB; rw [bcs_app, List.length_append]; exact ho8
  clear ho8 hg8 hn8 hn7 HA7 hB7 hl7
  have hl8 : (headL ++ I ++ ([1] : List UInt8)).length = 13 + I.length := by simp; omega
  have HL8 : Hid ((headL ++ I ++ ([1] : List UInt8)).length = 13 + I.length) := hl8
  have HD8 : Hid (AL = headL ++ I ++ ([1] : List UInt8) ++ bodyB fs) := HD.out
  clear hl8 hl6 hh12
  generalize headL ++ I ++ ([1] : List UInt8) = H8 at *
  obtain ⟨a8, c8, hv8⟩ := HA8.out.1.form
  subst hv8
  go_wp2
  go_loopw [7, 9, 42] (fun z _ i wr => ∃ (k : Nat) (ao' : Option Addr) (cv : Nat), k ≤ fs.length ∧ i = .int .i64 k ∧ z = .slice ao' (H8 ++ bodyB (fs.take k)).length cv ∧ OwnB wr w.heap.size (.slice ao' (H8 ++ bodyB (fs.take k)).length cv) (H8 ++ bodyB (fs.take k)) ∧ Below w.heap.size w wr) (fun _ _ i _ => fs.length - (intOf i).toNat)
  case atStart => exact ⟨0, a8, c8, Nat.zero_le _, rfl, by simp [bodyB], by simpa [bodyB] using HA8.out.1, HA8.out.2⟩
  case round =>
    obtain ⟨k, ao', cv, hk, rfl, rfl, ho, hb⟩ := hrel
    have HA : Hid (OwnB wr w.heap.size (.slice ao' (H8 ++ bodyB (fs.take k)).length cv) (H8 ++ bodyB (fs.take k)) ∧ Below w.heap.size w wr) := ⟨ho, hb⟩
    clear ho hb
    have hlb : (H8 ++ bodyB (fs.take k)).length ≤ 2048 := by
      have h1 := bodyB_le fs k
      have h2 := HS.out.2.2.2.1
      have h3 := HL8.out
      rw [List.length_append]; omega
    by_cases hlt : k < fs.length
    · have hlt' : (k : Int) < (fs.length : Int) := by omega
      have hfk : fs[k]? = some fs[k] := List.getElem?_eq_getElem hlt
      obtain ⟨ao2, cap2, e1, _, h0 | ⟨b, off, e2, hcell⟩⟩ := HS.out.1.below HA.out.2
      · rw [h0] at hlt; simp at hlt
      injection e1 with e1 _ e3
      subst e1 e2 e3
      obtain ⟨c0, c1⟩ := hcell k _ hfk
      have htk := HS.out.2.2.1 fs[k] (List.getElem_mem hlt)
      have hvk := HS.out.2.2.2.2 fs[k] (List.getElem_mem hlt)
      have HX : Hid (H8 ++ bodyB (fs.take (k + 1)) = H8 ++ bodyB (fs.take k) ++ fldL fs[k]) := by
        show _ = _
        rw [bodyB_snoc fs k hlt, List.append_assoc]
      have hP := fun w' ho hb hp => appendField_any w.heap.size (.slice ao' (H8 ++ bodyB (fs.take k)).length cv) (H8 ++ bodyB (fs.take k)) fs[k] w w' ho hb (Nat.le_refl _) hp htk.1 htk.2 (by omega) (by omega)
      clear hcell hfk
      generalize fs[k] = g at *
      generalize H8 ++ bodyB (fs.take k) = L at *
      obtain ⟨t, V⟩ := g
      go_wp2_with (go_at_call 38; fail)
      have hbb : Below w.heap.size w (wr.alloc (.cells #[.int .i64 t, .string (bs V)] 51)) := HA.out.2.alloc HA.out.2.size _
      refine (hP _ (World.ownsRow.alloc HA.out.1 _) hbb (HS.out.2.1.below hbb)).mono ?_
      rintro e w9 ⟨v9, rfl, ho9, hb9⟩
      obtain ⟨a9, c9, hv9⟩ := ho9.form
      subst hv9
      have HA9 : Hid (OwnB w9 w.heap.size (.slice a9 (L ++ fldL (t, V)).length c9) (L ++ fldL (t, V)) ∧ Below w.heap.size w w9) := ⟨ho9, hb9⟩
      clear ho9 hb9 hP hbb
      go_wp2
      refine ⟨⟨k + 1, a9, c9, by omega, by go_num, ?_, ?_, HA9.out.2⟩, by simp [intOf]; omega⟩
      · rw [HX.out, List.length_append]
      · rw [HX.out]; exact HA9.out.1
    · have e : k = fs.length := by omega
      subst e
      have HE : Hid (H8 ++ bodyB (fs.take fs.length) = AL) := by
        show _ = _
        rw [List.take_length, HD8.out]
      have h12 : 12 < (H8 ++ bodyB (fs.take fs.length)).length := by
        have h3 := HL8.out
        rw [List.length_append]; omega
      rw [HE.out] at h12 hlb HA
      simp only [HE.out]
      rcases HA.out.1.2 with ⟨_, h0⟩ | ⟨g, cg, cur, hv, hg1, hg2, hg3⟩
      · omega
      injection hv with hv1 _ hv2
      subst hv1 hv2
      clear hg1 hg2 hg3
      have hsrc := HA.out.1.src
      have hsr2 : ∃ b off, (some ⟨g, 0, none⟩ : Option Addr) = some ⟨b, off, none⟩ ∧ ∀ j c, AL[j]? = some c → wr.cell? ⟨b, off + j, none⟩ = some (.int .u8 (c.toNat : Int)) := by
        obtain ⟨ao3, c3, e1, _, h0 | ⟨b', off', e2, hcl⟩⟩ := hsrc
        · rw [h0] at h12; simp at h12
        · injection e1 with e1 _ e5
          exact ⟨b', off', by rw [e1, e2], hcl⟩
      obtain ⟨b', off', e2, hcl⟩ := hsr2
      clear hsrc
      injection e2 with e2
      injection e2 with e3 e4
      subst e3 e4
      have HCL : Hid (∀ j c, AL[j]? = some c → wr.cell? ⟨g, 0 + j, none⟩ = some (.int .u8 (c.toNat : Int))) := hcl
      clear hcl
      go_wp2_with (go_at_call 31; fail)
      have hba : Below wr.heap.size wr (wr.alloc (.cells #[.slice (some ⟨g, 0, none⟩) AL.length cv] 22)) := (Below.refl _ wr).alloc (Nat.le_refl _) _
      refine (Sum_one wr.heap.size g 0 AL.length cv AL (wr.alloc (.cells #[.slice (some ⟨g, 0, none⟩) AL.length cv] 22)) (Nat.le_refl _) (by omega) (cell_of_row _ _ 0 _ _ _ (heap_alloc_new wr _)) (fun j c hj => by
        have h := HCL.out j c hj
        rw [hba.cell (p := ⟨g, _, none⟩) (World.block_lt_of_cell? _ _ h)]; exact h)).mono ?_
      rw [List.take_length]
      rintro e w9 ⟨rfl, rfl⟩
      have HA9 : Hid (OwnB (wr.alloc (.cells #[.slice (some ⟨g, 0, none⟩) AL.length cv] 22)) w.heap.size (.slice (some ⟨g, 0, none⟩) AL.length cv) AL ∧ Below w.heap.size w (wr.alloc (.cells #[.slice (some ⟨g, 0, none⟩) AL.length cv] 22))) := ⟨World.ownsRow.alloc HA.out.1 _, HA.out.2.alloc HA.out.2.size _⟩
      clear hba HCL HA
      generalize wr.alloc (.cells #[.slice (some ⟨g, 0, none⟩) AL.length cv] 22) = w9 at *
      have hsm := sumL_lt AL
      have hP := fun w' hw' => printSum_any (sumL AL) hsm w' hw'
      have hpz := bs_size (three (sumL AL))
      have hpl : (three (sumL AL)).length = 3 := rfl
      have hpc := strCells_bs (three (sumL AL))
      generalize sumL AL = SM at *
      generalize three SM = T3 at *
      have HPC : Hid (Lib.strCells (bs T3) = bcs T3) := hpc
      clear hpc
      have hB9 : w.heap.size ≤ w9.heap.size := HA9.out.2.size
      have ht3 : (bs tenL).size = 3 := htz
      go_upto_region 21 with (at_builtin; refine Lib.wpList_append_own_string _ rfl _ _ 22 9 rfl w.heap.size 5 i0 Tryz.underlying22 Tryz.underlying9 hi hz0 hz1 hz2 _ AL.length (bcs AL) rfl HA9.out.1 (bs tenL) rfl (by unfold maxLen; omega) (by omega) hB9 ?_; intro v10 w10 ho10 hg10 hn10)
      have HA10 : Hid (OwnB w10 w.heap.size v10 (AL ++ tenL) ∧ Below w.heap.size w w10) := by
        refine ⟨?_, grow_ok HA9.out.1 hg10 HA9.out.2 (Nat.le_refl _)⟩
        rw [HSC.out.2.1, htz] at ho10
        unfold OwnB; rw [bcs_app, List.length_append]; exact ho10
      clear ho10 hg10 hn10 HA9 hB9
      go_wp2_with (go_at_call 39; fail)
      refine (hP w10 (HS.out.2.1.below HA10.out.2)).mono ?_
      rintro e w11 ⟨rfl, hb11⟩
      have HA11 : Hid (OwnB w11 w.heap.size v10 (AL ++ tenL) ∧ Below w.heap.size w w11) := ⟨HA10.out.1.below hb11, HA10.out.2.trans (hb11.mono HA10.out.2.size)⟩
      clear hb11 HA10 hP
      have hB11 : w.heap.size ≤ w11.heap.size := HA11.out.2.size
      have hl11 : (AL ++ tenL).length ≤ 2051 := by rw [List.length_append]; have : tenL.length = 3 := rfl; omega
      go_upto_region 22 with (at_builtin; refine Lib.wpList_append_own_string _ rfl _ _ 22 9 rfl w.heap.size 5 i0 Tryz.underlying22 Tryz.underlying9 hi hz0 hz1 hz2 _ (AL ++ tenL).length (bcs (AL ++ tenL)) rfl HA11.out.1 (bs T3) rfl (by unfold maxLen; omega) (by omega) hB11 ?_; intro v12 w12 ho12 hg12 hn12)
      have HA12 : Hid (OwnB w12 w.heap.size v12 (AL ++ tenL ++ T3) ∧ Below w.heap.size w w12) := by
        refine ⟨?_, grow_ok HA11.out.1 hg12 HA11.out.2 (Nat.le_refl _)⟩
        rw [HPC.out, hpz] at ho12
        unfold OwnB; rw [bcs_app, List.length_append]; exact ho12
      clear ho12 hg12 hn12 HA11 hB11
      have hB12 : w.heap.size ≤ (w12.alloc (.cells #[.int .u8 1] 5)).heap.size := by have := HA12.out.2.size; simp; omega
      have hl12 : (AL ++ tenL ++ T3).length ≤ 2054 := by rw [List.length_append]; omega
      have hn12 := one_new w12 1
      go_wp2_with (at_builtin; refine wpList_append_own _ rfl _ _ 22 rfl w.heap.size 5 i0 (.int .u8 0) 1 1 Tryz.underlying22 hi hz0 hz1 hz2 rfl (by decide) _ (AL ++ tenL ++ T3).length (bcs (AL ++ tenL ++ T3)) rfl (World.ownsRow.alloc HA12.out.1 _) ⟨w12.heap.size, 0, none⟩ 1 1 [.int .u8 1] rfl rfl hn12 (fun x hx => by simp at hx; subst hx; rfl) (by unfold maxLen; omega) (by omega) hB12 ?_; intro v13 w13 ho13 hg13 hn13)
      have HA13 : Hid (OwnB w13 w.heap.size v13 CL ∧ Below w.heap.size w w13) := by
        have hb' : Below w.heap.size w (w12.alloc (.cells #[.int .u8 1] 5)) := HA12.out.2.alloc HA12.out.2.size _
        refine ⟨?_, grow_ok (World.ownsRow.alloc HA12.out.1 _) hg13 hb' (Nat.le_refl _)⟩
        rw [HC.out]
        unfold OwnB; rw [bcs_app, List.length_append]; exact ho13
      clear ho13 hg13 hn13
      go_ret2
      exact .good HJ.out HA13.out.2 rfl HA13.out.1
end Go.Proofs.YtchkpggdndnpjaaGreatDoor

namespace Go.Proofs.YtchkpggdndnpjaaGreatDoor
set_option linter.unusedVariables false
open Go.Shelf Go.RowKit Go.Sort Go.Lib

set_option maxRecDepth 100000 in
theorem numI_write (a : Addr) (x y : Int) (z : Int) (h0 : -9223372036854775808 ≤ z) (h1 : z ≤ 9223372036854775807) (w : World) (hc : w.cell? a = some (.int .i64 z)) (hp : Pow w) :
    Calls Tryz.prog 253 #[.agg #[.pointer (some a), .int .i64 x, .int .i64 y]] w fun e w' => e = .returned (.string ⟨(itoa z).toArray⟩) ∧ Below w.heap.size w w' := by
  have HB : Hid (Below w.heap.size w (w.alloc (.cells #[.pointer (some a), .int .i64 x, .int .i64 y] 166))) := (Below.refl _ w).alloc (Nat.le_refl _) _
  have hcl := cell_alloc hc (.cells #[.pointer (some a), .int .i64 x, .int .i64 y] 166)
  have hl := Print_any z h0 h1 _ (hp.below HB.out)
  clear hc hp
  go_enter Tryz.func253, Tryz.ntmps253
  go_wp2_with (go_at_call 37; fail)
  refine hl.mono ?_
  rintro e w2 ⟨rfl, hb2⟩
  have HB2 : Hid (Below w.heap.size w w2) := HB.out.trans (hb2.mono HB.out.size)
  clear hb2 hl
  go_wp2
  go_ret
  exact ⟨rfl, HB2.out⟩
set_option maxRecDepth 100000 in
theorem numL_write (a : Addr) (x y : Int) (z : Int) (h0 : -9223372036854775808 ≤ z) (h1 : z ≤ 9223372036854775807) (w : World) (hc : w.cell? a = some (.int .i64 z)) (hp : Pow w) :
    Calls Tryz.prog 311 #[.agg #[.pointer (some a), .int .i64 x, .int .i64 y]] w fun e w' => e = .returned (.string ⟨(itoa z).toArray⟩) ∧ Below w.heap.size w w' := by
  have HB : Hid (Below w.heap.size w (w.alloc (.cells #[.pointer (some a), .int .i64 x, .int .i64 y] 180))) := (Below.refl _ w).alloc (Nat.le_refl _) _
  have hcl := cell_alloc hc (.cells #[.pointer (some a), .int .i64 x, .int .i64 y] 180)
  have hl := Print_any z h0 h1 _ (hp.below HB.out)
  clear hc hp
  go_enter Tryz.func311, Tryz.ntmps311
  go_wp2_with (go_at_call 37; fail)
  refine hl.mono ?_
  rintro e w2 ⟨rfl, hb2⟩
  have HB2 : Hid (Below w.heap.size w w2) := HB.out.trans (hb2.mono HB.out.size)
  clear hb2 hl
  go_wp2
  go_ret
  exact ⟨rfl, HB2.out⟩
set_option maxRecDepth 100000 in
theorem date_write (a : Addr)  (z : Int) (h0 : -9223372036854775808 ≤ z) (h1 : z ≤ 9223372036854775807) (w : World) (hc : w.cell? a = some (.int .i64 z)) (hp : Pow w) :
    Calls Tryz.prog 314 #[.agg #[.pointer (some a)]] w fun e w' => e = .returned (.string ⟨(itoa z).toArray⟩) ∧ Below w.heap.size w w' := by
  have HB : Hid (Below w.heap.size w (w.alloc (.cells #[.pointer (some a)] 182))) := (Below.refl _ w).alloc (Nat.le_refl _) _
  have hcl := cell_alloc hc (.cells #[.pointer (some a)] 182)
  have hl := Print_any z h0 h1 _ (hp.below HB.out)
  clear hc hp
  go_enter Tryz.func314, Tryz.ntmps314
  go_wp2_with (go_at_call 37; fail)
  refine hl.mono ?_
  rintro e w2 ⟨rfl, hb2⟩
  have HB2 : Hid (Below w.heap.size w w2) := HB.out.trans (hb2.mono HB.out.size)
  clear hb2 hl
  go_wp2
  go_ret
  exact ⟨rfl, HB2.out⟩
set_option maxRecDepth 100000 in
theorem price_write (a : Addr)  (z : Int) (h0 : -9223372036854775808 ≤ z) (h1 : z ≤ 9223372036854775807) (w : World) (hc : w.cell? a = some (.int .i64 z)) (hp : Pow w) :
    Calls Tryz.prog 278 #[.agg #[.pointer (some a)]] w fun e w' => e = .returned (.string (ppB z)) ∧ Below w.heap.size w w' := by
  have HB : Hid (Below w.heap.size w (w.alloc (.cells #[.pointer (some a)] 178))) := (Below.refl _ w).alloc (Nat.le_refl _) _
  have hcl := cell_alloc hc (.cells #[.pointer (some a)] 178)
  have hl := PrintPrice_any z h0 h1 _ (hp.below HB.out)
  clear hc hp
  go_enter Tryz.func278, Tryz.ntmps278
  go_wp2_with (go_at_call 280; fail)
  refine hl.mono ?_
  rintro e w2 ⟨rfl, hb2⟩
  have HB2 : Hid (Below w.heap.size w w2) := HB.out.trans (hb2.mono HB.out.size)
  clear hb2 hl
  go_wp2
  go_ret
  exact ⟨rfl, HB2.out⟩
def stmB (s : ByteArray) (x : Int) : Bool := decide (psE s = 0) && decide (x ≤ psV s)
set_option maxRecDepth 100000 in
theorem stamp_read (a : Addr) (x z : Int) (s : ByteArray) (w : World) (hc : w.cell? a = some (.int .i64 z)) (hf : w.frozen? a = false) (hM : Mon w) :
    Calls Tryz.prog 257 #[.agg #[.pointer (some a), .int .i64 x], .string s] w fun e w' => e = .returned (.bool (stmB s x)) ∧ Wr (stmB s x) a (.int .i64 (psV s)) w w' := by
  have HB : Hid (Below w.heap.size w (w.alloc (.cells #[.pointer (some a), .int .i64 x] 172))) := (Below.refl _ w).alloc (Nat.le_refl _) _
  have h1 := ParseStamp_any s _ (hM.below HB.out hM.lt)
  have hcl := cell_alloc hc (.cells #[.pointer (some a), .int .i64 x] 172)
  have hfl := frozen_alloc hc hf (.cells #[.pointer (some a), .int .i64 x] 172)
  obtain ⟨R, hR⟩ : ∃ R, R = stmB s x := ⟨_, rfl⟩
  rw [← hR]
  unfold stmB at hR
  generalize psV s = N at *
  generalize psE s = E at *
  clear hc hf hM
  by_cases hE : E = 0
  · subst hE
    by_cases hx : N < x
    · have hd : decide (N < x) = true := decide_eq_true hx
      have HR : Hid (R = false) := by show _ = _; rw [hR]; simp; omega
      clear hR
      go_enter Tryz.func257, Tryz.ntmps257
      go_wp2_with (go_at_call 260; refine h1.mono ?_; rintro e w2 ⟨rfl, q, rfl⟩)
      go_ret
      exact ⟨ret_bool HR.out.symm, _, below_drewN HB.out _, by rw [HR.out]; rfl⟩
    · have hd : decide (N < x) = false := decide_eq_false hx
      have HR : Hid (R = true) := by show _ = _; rw [hR]; simp; omega
      clear hR
      go_enter Tryz.func257, Tryz.ntmps257
      go_wp2_with (go_at_call 260; refine h1.mono ?_; rintro e w2 ⟨rfl, q, rfl⟩)
      go_ret
      exact ⟨ret_bool HR.out.symm, _, below_drewN HB.out _, by rw [HR.out]; rfl⟩
  · have hd : (E != 0) = true := by simpa using hE
    have HR : Hid (R = false) := by show _ = _; rw [hR]; simp [hE]
    clear hE hR
    go_enter Tryz.func257, Tryz.ntmps257
    go_wp2_with (go_at_call 260; refine h1.mono ?_; rintro e w2 ⟨rfl, q, rfl⟩)
    go_ret
    exact ⟨ret_bool HR.out.symm, _, below_drewN HB.out _, by rw [HR.out]; rfl⟩
end Go.Proofs.YtchkpggdndnpjaaGreatDoor
