import Derived.Test.YtchkpggdndnpjaaGreatDoorG33

namespace Go.Proofs.YtchkpggdndnpjaaGreatDoor
set_option linter.unusedVariables false
open Go.RowKit Go.Great

set_option maxRecDepth 100000 in
set_option maxHeartbeats 1000000 in
theorem Encode_yes (M : Msg) (w : World) (hM : Mon w) (hp : Pow w) (hz : M.ok) (hv : valE M = 0) (hok : ∀ t ∈ slts (M.z 0), (t.2.1 || thB t.2.2 M) = true → wrOk t.2.2 M) (ht : okT (encF M)) (hsz : (bodyB (encF M)).length ≤ 1099511627776) :
    Calls Tryz.prog 13 #[.agg M.cs] w fun e w' => JoinRet (joinL (encF M)) w e w' := by
  obtain ⟨i0, hi, hz0, hz1, hz2⟩ := info_parts infoF
  have HM : Hid (2 < w.heap.size ∧ Mon w ∧ M.ok ∧ Pow w ∧ okT (encF M) ∧ (bodyB (encF M)).length ≤ 1099511627776) := ⟨hM.lt, hM, hz, hp, ht, hsz⟩
  have HO1 : Hid (OwnM (w.alloc (.cells M.cs 25)) w.heap.size M ∧ Below w.heap.size w (w.alloc (.cells M.cs 25))) := ⟨heap_alloc_new w _, (Below.refl _ w).alloc (Nat.le_refl _) _⟩
  have HOK : Hid (∀ t ∈ slts (M.z 0), (t.2.1 || thB t.2.2 M) = true → wrOk t.2.2 M) := hok
  clear hM hz hp ht hsz hok
  go_enter Tryz.func13, Tryz.ntmps13
  go_upto_region 1 with fail
  generalize w.alloc (.cells M.cs 25) = w1 at *
  generalize hcs : M.cs = CS at *
  refine wp_region_lit ?_
  refine wpList_loadM HO1.out.1 (.tmp 1) rfl rfl rfl ?_
  simp only [Act.put, List.setIfInBounds_toArray, List.set_cons_zero, List.set_cons_succ]
  rw [hcs]
  go_wp2_with (go_at_call 12; fail)
  have hvc := Valid_any M w1 (HM.out.2.1.below HO1.out.2 HM.out.1) HM.out.2.2.1
  rw [hcs, hv] at hvc
  refine hvc.mono ?_
  clear hvc
  rintro e w2 ⟨rfl, hb2⟩
  have HO2 : Hid (OwnM w2 w.heap.size M ∧ Below w.heap.size w w2) := ⟨HO1.out.1.low hb2, HO1.out.2.trans (hb2.mono HO1.out.2.size)⟩
  clear hb2 HO1
  generalize valN M = N at *
  have hc0 : w2.cell? ⟨w.heap.size, 0, none⟩ = some (.int .i64 (M.z 0)) := HO2.out.1.cell 0 (by decide)
  go_wp2_with (go_at_call 27; fail)
  refine (layout_any (M.z 0) w2).mono ?_
  rintro e w3 ⟨sv, rfl, hsl, hb3⟩
  have hsn : (slts (M.z 0)).length ≤ 45 := slU_len _ 45
  obtain ⟨sao, scap, rfl⟩ := ownsForm hsl
  have HE0 : Hid (EI w w3 w.heap.size M (.slice sao (slts (M.z 0)).length scap) (slts (M.z 0)) (.slice none 0 0) (encU M (slts (M.z 0)) 0)) := ⟨HO2.out.1.low hb3, by rw [show encU M (slts (M.z 0)) 0 = [] from rfl]; exact OwnF.nil _ _, ownsRow_mono hsl HO2.out.2.size, HO2.out.2.trans (hb3.mono HO2.out.2.size)⟩
  have HEF : Hid (encU M (slts (M.z 0)) (slts (M.z 0)).length = encF M) := by show _ = _; unfold encU encF; rw [List.take_length]
  have HRW : Hid (∀ t ∈ slts (M.z 0), t.2.2 < 45) := fun t h => slts_row h
  clear hsl hb3 HO2 hc0 hcs hv
  generalize slts (M.z 0) = sl at *
  obtain ⟨n, hn⟩ : ∃ n, n = sl.length := ⟨_, rfl⟩
  rw [← hn] at HE0 HEF hsn ⊢
  generalize hg : w.heap.size = g at *
  have hgi : Hid (w.heap.size = g) := hg
  have Hn : Hid (n = sl.length) := hn
  clear hg hn
  go_wp2
  go_loopw [6, 22] (fun v i wr => ∃ (k : Nat) (ao : Option Addr) (cv : Nat), k ≤ n ∧ i = .int .i64 k ∧ v = .slice ao (encU M sl k).length cv ∧ Hid (EI w wr g M (.slice sao n scap) sl (.slice ao (encU M sl k).length cv) (encU M sl k))) (fun _ i _ => n - (intOf i).toNat)
  case atStart => exact ⟨0, none, 0, by omega, rfl, rfl, HE0⟩
  case round =>
    obtain ⟨k, ao, cv, hk, rfl, rfl, HS⟩ := hrel
    clear HE0
    by_cases hlt : k < n
    · have hlt' : (k : Int) < (n : Int) := by omega
      have hk0 : (0 : Int) ≤ (k : Int) := by omega
      have hk3 : (k : Int).toNat = k := by omega
      obtain ⟨t, htk⟩ : ∃ t, sl[k]? = some t := ⟨_, List.getElem?_eq_getElem (by have := Hn.out; omega)⟩
      have htm : t ∈ sl := List.mem_of_getElem? htk
      have hr45 := HRW.out t htm
      obtain ⟨ax, cx, hxe, -, hcase⟩ := SltAt.of HS.out.slt
      rcases hcase with hnil | ⟨b, off, rfl, hcel⟩
      · have hn := Hn.out; rw [hnil] at hn; simp at hn; omega
      obtain ⟨rfl, -, rfl⟩ : sao = some ⟨b, off, none⟩ ∧ True ∧ scap = cx := by injection hxe with q1 q2 q3; exact ⟨q1, trivial, q3⟩
      obtain ⟨c1, c2, c3⟩ := hcel k t htk
      clear hcel hxe
      have hcf := xcf_at t.2.2 hr45
      have HF : Hid (∀ w', Calls Tryz.prog (xFn.getD t.2.2 0) #[.pointer (some ⟨g, 0, none⟩)] w' fun e w2 => ∃ b, e = .returned (.iface (xty t.2.2) (xVal t.2.2 g b)) ∧ Below w'.heap.size w' w2 ∧ WdAt w2 t.2.2 b) := fun w' => form_at t.2.2 hr45 g w'
      have hYes : Hid ((t.2.1 || thB t.2.2 M) = true → encU M sl (k + 1) = encU M sl k ++ [(t.1, (wrS t.2.2 M).data.toList)]) := encU_yes htk
      have hNo : Hid ((t.2.1 || thB t.2.2 M) = false → encU M sl (k + 1) = encU M sl k) := encU_no htk
      have hW : Hid ((t.2.1 || thB t.2.2 M) = true → wrOk t.2.2 M) := HOK.out t htm
      have hEl := encU_len M sl k
      obtain ⟨tg, mu, r⟩ := t
      dsimp only at c1 c2 c3 hcf HF hYes hNo hW hr45
      clear htk htm HRW HOK
      generalize hF : xFn.getD r 0 = F at *
      go_wp2
      generalize hW4 : wr.alloc _ = W4
      have hb4 : Below wr.heap.size wr W4 := by rw [← hW4]; exact (Below.refl _ wr).alloc (Nat.le_refl _) _
      have r0 : W4.cell? ⟨wr.heap.size, 0, none⟩ = some (.int .i64 tg) := by rw [← hW4]; exact World.cell?_alloc_new ..
      have r1 : W4.cell? ⟨wr.heap.size, 1, none⟩ = some (.bool mu) := by rw [← hW4]; exact World.cell?_alloc_new ..
      clear hW4
      refine (HF.out _).mono ?_
      rintro e w5 ⟨bw, rfl, hb5, hwd5⟩
      have hlt4 := World.block_lt_of_cell? _ _ r0
      have s0 : w5.cell? ⟨wr.heap.size, 0, none⟩ = some (.int .i64 tg) := by rw [hb5.cell (p := ⟨wr.heap.size, 0, none⟩) hlt4]; exact r0
      have s1 : w5.cell? ⟨wr.heap.size, 1, none⟩ = some (.bool mu) := by rw [hb5.cell (p := ⟨wr.heap.size, 1, none⟩) hlt4]; exact r1
      have HS5 : Hid (EI w w5 g M (.slice (some ⟨b, off, none⟩) n scap) sl (.slice ao (encU M sl k).length cv) (encU M sl k)) := (HS.out.low hb4).low hb5
      have hwl : Hid (WdAt w5 r bw) := hwd5
      have hwb : Hid (xkd r = 8 → bw < w5.heap.size) := fun hk8 => wd_lt hr45 hk8 hwd5
      clear hb4 hb5 r0 r1 HS HF hcf hwd5 hlt4 c1 c2 c3
      have HT : Hid (∀ w', OwnM w' g M → Calls Tryz.prog (thF r) #[xVal r g bw] w' fun e w2 => e = .returned (.bool (thB r M)) ∧ Below w'.heap.size w' w2) := fun w' h => there_at r hr45 g bw M w' h
      have HWr : Hid (∀ w', EI w w' g M (.slice (some ⟨b, off, none⟩) n scap) sl (.slice ao (encU M sl k).length cv) (encU M sl k) → WdAt w' r bw → (mu || thB r M) = true → Calls Tryz.prog (wrF r) #[xVal r g bw] w' fun e w2 => e = .returned (.string (wrS r M)) ∧ Below w'.heap.size w' w2) := fun w' h h2 h3 => write_at r hr45 g bw M w' h.msg HM.out.2.2.1 (HM.out.2.1.below h.below (by rw [hgi.out]; exact HM.out.1)) (HM.out.2.2.2.1.below h.below) h2 (hW.out h3)
      have hmt := mth_there r hr45 g bw
      have hcft := cf_there r hr45
      have HCM := cm_write r hr45 g bw
      generalize xVal r g bw = V at *
      generalize xty r = T at *
      generalize thF r = FT at *
      generalize wrF r = FW at *
      generalize thB r M = th at *
      generalize wrS r M = ws at *
      go_upto_region 9 with fail
      go_cut [34] (fun v wx => v = .bool (mu || th) ∧ Below w5.heap.size w5 wx)
      case first =>
        cases mu
        · go_wp2
          refine (HT.out _ HS5.out.msg).mono ?_
          rintro e w6 ⟨rfl, hb6⟩
          go_wp2_with fail
          go_meet
          exact ⟨rfl, hb6⟩
        · go_wp2_with fail
          go_meet
          exact ⟨rfl, Below.refl _ _⟩
      case rest =>
        obtain ⟨rfl, hb6⟩ := hcut
        have s06 : wc.cell? ⟨wr.heap.size, 0, none⟩ = some (.int .i64 tg) := by rw [hb6.cell (p := ⟨wr.heap.size, 0, none⟩) (World.block_lt_of_cell? _ _ s0)]; exact s0
        have HS6 : Hid (EI w wc g M (.slice (some ⟨b, off, none⟩) n scap) sl (.slice ao (encU M sl k).length cv) (encU M sl k)) := HS5.out.low hb6
        clear hmt hcft HT
        cases hB : (mu || th)
        · have HU : Hid (encU M sl (k + 1) = encU M sl k) := hNo.out hB
          clear hNo hYes hW
          go_wp2
          exact ⟨⟨k + 1, ao, cv, by omega, by go_num, by rw [HU.out], by have h := HS6.out; rw [HU.out]; exact h⟩, by simp [intOf]; omega⟩
        · have HU : Hid (encU M sl (k + 1) = encU M sl k ++ [(tg, ws.data.toList)]) := hYes.out hB
          clear hNo hYes hW
          have hB0 : Below wc.heap.size wc wc.drew := below_drewN (Below.refl _ _) 1
          have HKP : Hid (∀ w7, Below wc.heap.size wc w7 → w7.cell? ⟨wr.heap.size, 0, none⟩ = some (.int .i64 tg) ∧ EI w w7 g M (.slice (some ⟨b, off, none⟩) n scap) sl (.slice ao (encU M sl k).length cv) (encU M sl k) ∧ WdAt w7 r bw) := fun w7 hb => ⟨by rw [hb.cell (p := ⟨wr.heap.size, 0, none⟩) (World.block_lt_of_cell? _ _ s06)]; exact s06, HS6.out.low hb, fun j t hj => by have q := hwl.out j t hj; have hl := World.block_lt_of_cell? _ _ q; rw [hb.cell (p := ⟨bw, j, none⟩) (Nat.lt_of_lt_of_le hl hb6.size), hb6.cell (p := ⟨bw, j, none⟩) hl]; exact q⟩
          have HWR2 : Hid (∀ w', Below wc.heap.size wc w' → Calls Tryz.prog FW #[V] w' fun e w2 => e = .returned (.string ws) ∧ Below w'.heap.size w' w2) := fun w' hb => HWr.out w' (HKP.out w' hb).2.1 (HKP.out w' hb).2.2 hB
          have HROW : Hid (∀ w7, Below wc.heap.size wc w7 → (w7.alloc (.cells #[.int .i64 tg, .string ws] 51)).ownsRow w.heap.size 51 2 (.slice ao (encU M sl k).length cv) (encU M sl k).length (fcs (encU M sl k))) := fun w7 hb => (HKP.out w7 hb).2.1.own.alloc _
          have HNEW : Hid (∀ (w7 : World) j u, ([.int .i64 tg, .string ws] : List Value)[j]? = some u → (w7.alloc (.cells #[.int .i64 tg, .string ws] 51)).cell? ((⟨w7.heap.size, 0, none⟩ : Addr).add j) = some u) := fun w7 => by
            have h := World.news_of_block (heap_alloc_new w7 (.cells #[.int .i64 tg, .string ws] 51))
            intro j u hj
            have h2 := h j u (by simpa using hj)
            simpa using h2
          have HSZ : Hid (∀ w7 : World, Below wc.heap.size wc w7 → w.heap.size ≤ (w7.alloc (.cells #[.int .i64 tg, .string ws] 51)).heap.size) := fun w7 hb => by
            have := (HKP.out w7 hb).2.1.below.size
            simp; omega
          have HAPP : Hid (∀ w7 v w9, Below wc.heap.size wc w7 → w9.ownsRow w.heap.size 51 2 v ((encU M sl k).length + 1) (fcs (encU M sl k) ++ [.int .i64 tg, .string ws]) → (w7.alloc (.cells #[.int .i64 tg, .string ws] 51)).grownBy w9 (Value.slice ao (encU M sl k).length cv).ownBlock → EI w w9 g M (.slice (some ⟨b, off, none⟩) n scap) sl v (encU M sl (k + 1))) := fun w7 v w9 hb h1 h2 => by
            refine EI.app ((HKP.out w7 hb).2.1.low ((Below.refl _ w7).alloc (Nat.le_refl _) _)) h2 ?_
            unfold OwnF
            rw [HU.out, fcs_app, List.length_append]
            exact h1
          have HLE : Hid ((encU M sl (k + 1)).length = (encU M sl k).length + 1) := by show _ = _; rw [HU.out]; simp
          obtain ⟨p0, -, -⟩ := HKP.out _ hB0
          have hm63 : (encU M sl k).length ≤ 45 := by omega
          clear hB HWr HS5 HS6 hwl hwb s0 s1 s06 hb6
          generalize (encU M sl k).length = m at *
          generalize fcs (encU M sl k) = xs at *
          go_upto_region 10 with fail
          go_region_law (first
            | (refine step_append_lies _ (by rfl) _ _ _ (by rfl) w.heap.size 51 i0 _ 2 24 Tryz.underlying39 hi hz0 hz1 hz2 rfl (by omega) (.slice ao m cv) m xs (by rfl) (HROW.out _ hB7) ⟨w7.heap.size, 0, none⟩ 1 1 [.int .i64 tg, .string ws] (by rfl) (by rfl) (HNEW.out _) (by simp [Value.oneCell']) (by omega) (by unfold maxLen; omega) (by omega) (HSZ.out _ hB7) (w7.heap.size + 1) (by simp) ?_; intro g2 cap w9 hown1 hgrow hat hlt1; have x0 := HAPP.out _ _ _ hB7 hown1 hgrow)
            | (rw [if_pos (by kernel_rfl)]; refine callR (d := some 39) rfl FW #[V] (exec_inv (.tmp 38) rfl rfl HCM) (HWR2.out _ hB0) ?_; rintro e w7 ⟨rfl, hb7⟩; have hB7 : Below wc.heap.size wc w7 := hB0.trans (hb7.mono hB0.size); clear hb7; obtain ⟨q0, -, -⟩ := HKP.out _ hB7; refine ⟨_, rfl, ?_⟩))
          all_goals
            have HX : Hid (EI w w9 g M (.slice (some ⟨b, off, none⟩) n scap) sl (.slice (some ⟨g2, 0, none⟩) (m + 1) cap) (encU M sl (k + 1))) := x0
            clear x0 hown1 hgrow hat hlt1
            go_wp2
            exact ⟨⟨k + 1, some ⟨g2, 0, none⟩, cap, by omega, by go_num, by rw [HLE.out], by rw [HLE.out]; exact HX⟩, by simp [intOf]; omega⟩
    · obtain rfl : k = n := by omega
      have HJ : Hid (Calls Tryz.prog 17 #[.slice ao (encU M sl k).length cv] wr fun x w' => JoinRet (joinL (encF M)) wr x w') := by
        have ho := HS.out.own
        rw [HEF.out] at ho ⊢
        refine Join_any _ (encF M) wr ho.src (HM.out.2.2.2.1.below HS.out.below) HM.out.2.2.2.2.1 HM.out.2.2.2.2.2 ?_
        have := encU_len M sl k
        rw [HEF.out] at this
        omega
      have HB : Hid (Below w.heap.size w wr) := HS.out.below
      clear HS
      generalize (encU M sl k).length = m at *
      generalize hJJ : joinL (encF M) = J at *
      have HJJ : Hid (joinL (encF M) = J) := hJJ
      clear hJJ
      go_wp2_with (go_at_call 17; fail)
      refine HJ.out.mono ?_
      rintro e w9 hj
      cases J with
      | error e0 =>
        obtain ⟨hb9, rfl⟩ := hj
        have HB9 : Hid (Below w.heap.size w w9) := HB.out.trans (hb9.mono HB.out.size)
        go_wp2
        go_ret2
        exact JoinRet.fail HJJ.out HB9.out rfl
      | ok l0 =>
        obtain ⟨hb9, v, rfl, ho9⟩ := hj
        have HB9 : Hid (Below w.heap.size w w9 ∧ OwnB w9 w.heap.size v l0) := ⟨HB.out.trans (hb9.mono HB.out.size), ownsRow_mono ho9 HB.out.size⟩
        clear ho9 hb9
        go_wp2
        go_ret2
        exact JoinRet.good HJJ.out HB9.out.1 rfl HB9.out.2
end Go.Proofs.YtchkpggdndnpjaaGreatDoor
