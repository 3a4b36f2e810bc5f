import Derived.Test.YtchkpggdndnpjabGreatDoorG41
import Derived.Test.YtchkpggdndnpjabGreatDoorG43

namespace Go.Proofs.YtchkpggdndnpjabGreatDoor
set_option linter.unusedVariables false
set_option linter.unusedSimpArgs false
open Go.RowKit Go.Great

theorem one_cells (W : World) (t : Int) (s : ByteArray) (f : Fld) (h1 : f.1 = t) (h2 : bs f.2 = s) : ∀ k u, (fcs [f])[k]? = some u → (W.alloc (.cells #[.int .i64 t, .string s] 52)).cell? ((⟨W.heap.size, 0, none⟩ : Addr).add k) = some u := fun k u hk => by
  rw [addr_add, Nat.zero_add, cell_of_row _ _ _ _ _ _ (heap_alloc_new W _), ← h1, ← h2]
  have e : fcs [f] = [.int .i64 f.1, .string (bs f.2)] := rfl
  rw [e] at hk
  simpa using hk
theorem size0 {s : ByteArray} (h : s.size = 0) : s = ⟨#[]⟩ := by
  obtain ⟨⟨l⟩⟩ := s
  cases l with
  | nil => rfl
  | cons a l => exact absurd h (by show ¬ (a :: l).toArray.size = 0; simp)
theorem list_ne {s : ByteArray} (hs : ¬ s.size = 0) : (s.toList == []) = false := by
  rw [Lib.toList_data]
  obtain ⟨⟨l⟩⟩ := s
  cases l with
  | nil => exact absurd rfl hs
  | cons a l => rfl
set_option maxRecDepth 100000 in
theorem scopeX_any (M : Msg) (w : World) : Calls Tryz.prog 55 #[.agg M.cs] w fun e w' => e = .returned (.string (scS (M.s 22))) ∧ Below w.heap.size w w' := by
  have HO := box_own M w
  have c0 : (w.alloc (.cells M.cs 23)).cell? ⟨w.heap.size, 22, none⟩ = some (.string (M.s 22)) := HO.out.1.cell 22 (by decide)
  by_cases hs : (M.s 22).size = 0
  · rw [show scS (M.s 22) = ⟨#[55]⟩ by unfold scS; rw [hs]; rfl]
    rw [size0 hs] at c0
    clear hs
    go_enter Tryz.func55, Tryz.ntmps55
    go_upto_region 1 with fail
    generalize w.alloc (.cells M.cs 23) = w1 at *
    go_wp2
    go_ret
    exact ⟨rfl, HO.out.2⟩
  · rw [show scS (M.s 22) = ⟨#[49]⟩ by unfold scS; rw [show ((M.s 22).size == 0) = false by simpa using hs]; rfl]
    have h1 := list_ne hs
    have h3 : ((M.s 22).toList != []) = true := by rw [bne, h1]; rfl
    generalize M.s 22 = s at *
    clear hs
    go_enter Tryz.func55, Tryz.ntmps55
    go_upto_region 1 with fail
    generalize w.alloc (.cells M.cs 23) = w1 at *
    go_wp2
    go_ret
    exact ⟨rfl, HO.out.2⟩
/-- Where Fields stands. -/
structure FdR (w w2 wr : World) (g : Nat) (M : Msg) (v : Value) (L : List Fld) : Prop where
  own : OwnF wr w2.heap.size v L
  below : Below w2.heap.size w2 wr
  msg : OwnM wr g M
theorem FdR.low {w w2 wr w' : World} {g : Nat} {M : Msg} {v : Value} {L : List Fld} (h : FdR w w2 wr g M v L) (hb : Below wr.heap.size wr w') : FdR w w2 w' g M v L :=
  ⟨h.own.below hb, h.below.trans (hb.mono h.below.size), h.msg.low hb⟩
theorem FdR.app {w w2 wr w' : World} {g : Nat} {M : Msg} {v v' : Value} {L L' : List Fld} (h : FdR w w2 wr g M v L) (hg : g < w2.heap.size) (ho : OwnF w' w2.heap.size v' L') (hb : Below w2.heap.size wr w') : FdR w w2 w' g M v' L' :=
  ⟨ho, h.below.trans hb, h.msg.below hb hg⟩
theorem tab108 : ((List.range 42).all fun k => decide (k = 7 ∨ tNum.getD k 0 ≠ 108)) = true := by decide
theorem tab59 : ((List.range 42).all fun k => decide (k = 25 ∨ tNum.getD k 0 ≠ 59)) = true := by decide
set_option maxRecDepth 100000 in
set_option maxHeartbeats 4000000 in
theorem FieldsX_any {M : Msg} (h : Vld M) (hz : M.ok) (w : World) :
    Calls Tryz.prog 17 #[.agg M.cs] w fun e w' => ∃ u, e = .returned u ∧ OwnF w' w.heap.size u (encF M) ∧ Below w.heap.size w w' := by
  have HO := box_own M w
  have HZ : Hid (Vld M ∧ M.ok) := ⟨h, hz⟩
  clear h hz
  go_enter Tryz.func17, Tryz.ntmps17
  go_upto_region 1 with fail
  generalize w.alloc (.cells M.cs 23) = w1 at *
  generalize hcs : M.cs = CS at *
  have Hcs : Hid (M.cs = CS) := hcs
  clear hcs
  go_wp2_with (go_at_call 46; fail)
  refine (Rows_any w1).mono ?_
  rintro e w2 ⟨G, mu, ma, rfl, hG, hT, hb2⟩
  have HT : Hid (TabAt w2 G mu ma ∧ G < w2.heap.size ∧ OwnM w2 w.heap.size M ∧ Below w.heap.size w w2 ∧ w.heap.size < w2.heap.size) := ⟨hT, hG, HO.out.1.below hb2 HO.out.1.lt, HO.out.2.trans (hb2.mono HO.out.2.size), Nat.lt_of_lt_of_le HO.out.1.lt hb2.size⟩
  clear hT hG hb2 HO
  generalize hg : w.heap.size = g at HT ⊢
  have Hg : Hid (w.heap.size = g) := hg
  clear hg
  go_wp2
  go_loopw [3, 5, 6, 7, 8] (fun x3 x5 x6 x7 x8 wr => ∃ (k : Nat) (v : Value), k ≤ 42 ∧ x5 = .int .i64 k ∧ v = x3 ∧ Hid (FdR w w2 wr g M v (encX M (rho k)))) (fun _ x5 _ _ _ _ => 42 - (intOf x5).toNat)
  case atStart => exact ⟨0, _, by omega, rfl, rfl, ⟨OwnF.nil _ _, Below.refl _ _, HT.out.2.2.1⟩⟩
  case round =>
    obtain ⟨k, v, hk, rfl, ev, HI⟩ := hrel
    subst ev
    by_cases hlt : k < 42
    · have hlt' : (k : Int) < 42 := by omega
      have HTr : Hid (TabAt wr G mu ma) := HT.out.1.below HT.out.2.1 HI.out.below
      have c0 := HTr.out.cell k hlt 0 _ rfl
      rw [Nat.add_zero] at c0
      clear HTr
      have HVa : Hid (∀ w', _) := fun w' => val_at M k hlt w'
      have HHa : Hid (∀ w', _) := fun w' => refHas_any (M.z 0) (tNum.getD k 0) w'
      have HWr : Hid (prs M k = true → ∀ w', _) := fun hp w' => written_row HZ.out.1 HZ.out.2 k hlt hp w'
      have HEn : Hid (_ = _) := encX_round HZ.out.1 hlt
      have HLn : Hid ((encX M (rho k)).length ≤ 44) := Nat.le_trans (encX_len M _) (by unfold rho; split <;> (try split) <;> omega)
      have HPr : Hid (prs M k = ((hasN (M.z 0) (tNum.getD k 0) == 2) || (vN M k != 0 || (vS M k).size != 0))) := rfl
      have hHTg : k = 7 ∨ tNum.getD k 0 ≠ 108 := of_decide_eq_true (List.all_eq_true.1 tab108 k (List.mem_range.2 hlt))
      have HTg : Hid (k = 7 ∨ tNum.getD k 0 ≠ 108) := hHTg
      clear hHTg
      have hHT9 : k = 25 ∨ tNum.getD k 0 ≠ 59 := of_decide_eq_true (List.all_eq_true.1 tab59 k (List.mem_range.2 hlt))
      have HT9 : Hid (k = 25 ∨ tNum.getD k 0 ≠ 59) := hHT9
      clear hHT9
      have HT7 : Hid (k = 7 → tNum.getD k 0 = 108) := fun e => by rw [e]; rfl
      have HT5 : Hid (k = 25 → tNum.getD k 0 = 59 ∧ vN M k = M.z 25) := fun e => by rw [e]; exact ⟨rfl, rfl⟩
      generalize hL : encX M (rho k) = L at *
      generalize hL2 : encX M (rho (k + 1)) = L2 at *
      generalize wrS (jr k) M = S at *
      generalize vN M k = n at *
      generalize vS M k = s at *
      generalize tNum.getD k 0 = num at *
      generalize hasN (M.z 0) num = hh at *
      generalize prs M k = pp at *
      have HX : Hid (encX M (rho (k + 1)) = L2) := hL2
      clear hL hL2
      go_upto_region 7 with fail
      refine wp_region_lit ?_
      refine wpList_loadM HI.out.msg (.tmp 1) rfl rfl rfl ?_
      simp only [Act.put, List.setIfInBounds_toArray, List.set_cons_zero, List.set_cons_succ]
      rw [Hcs.out]
      have hva := HVa.out wr
      rw [Hcs.out] at hva
      go_wp2_with (go_at_call 47; fail)
      refine hva.mono ?_
      clear hva HVa c0
      rintro e w4 ⟨rfl, hb4⟩
      have HI4 : Hid (FdR w w2 w4 g M v L) := HI.out.low hb4
      clear hb4 HI
      by_cases h7 : k = 7
      · have HK : Hid (k = 7) := h7
        have h25 : ¬ k = 25 := by omega
        clear h7
        have hn108 : (num == 108) = true := by simp [HT7.out HK.out]
        have hn59 : (num == 59) = false := by simp [HT9.out.resolve_left h25]
        have hm4 : w4.cell? ⟨g, 0, none⟩ = some (.int .i64 (M.z 0)) := HI4.out.msg.cell 0 (by decide)
        by_cases hz7 : M.z 0 = 7
        · have hz7' : (M.z 0 == 7) = true := by simp [hz7]
          have HZ7 : Hid (M.z 0 = 7) := hz7
          clear hz7
          have hba : Below w4.heap.size w4 (w4.alloc (.cells #[.int .i64 98, .string ⟨#[48]⟩] 52)) := (Below.refl _ w4).alloc (Nat.le_refl _) _
          have HA : Hid (FdR w w2 (w4.alloc (.cells #[.int .i64 98, .string ⟨#[48]⟩] 52)) g M v L ∧ w2.heap.size ≤ (w4.alloc (.cells #[.int .i64 98, .string ⟨#[48]⟩] 52)).heap.size) := ⟨HI4.out.low hba, Nat.le_trans HI4.out.below.size hba.size⟩
          have HCl : Hid (∀ k u, (fcs [(98, [48])])[k]? = some u → (w4.alloc (.cells #[.int .i64 98, .string ⟨#[48]⟩] 52)).cell? ((⟨w4.heap.size, 0, none⟩ : Addr).add k) = some u) := one_cells w4 98 ⟨#[48]⟩ (98, [48]) rfl rfl
          go_upto_region 10 with (at_builtin; refine wpList_appF rfl _ _ rfl w2.heap.size _ L rfl HA.out.1.own ⟨w4.heap.size, 0, none⟩ 1 1 [(98, [48])] rfl rfl HCl.out (by have := HLn.out; simp only [List.length_append, List.length_cons, List.length_nil]; omega) HA.out.2 _ rfl (L.length + 1) rfl ?_; intro a5 a5c w5 ho hb)
          have H5 : Hid (FdR w w2 w5 g M (.slice a5 (L.length + 1) a5c) (L ++ [(98, [48])])) := HA.out.1.app (by have := HT.out.2.2.2.2; have := Hg.out; omega) ho hb
          clear ho hb hba HA HCl HI4
          clear hm4 hz7' hn108
          by_cases hn0 : n = 0
          · subst hn0
            by_cases hs0 : s.size = 0
            · obtain rfl : s = ⟨#[]⟩ := size0 hs0
              have hm0 : w5.cell? ⟨g, 0, none⟩ = some (.int .i64 (M.z 0)) := H5.out.msg.cell 0 (by decide)
              have hha := HHa.out w5
              by_cases h2 : hh = 2
              · have hp : pp = true := by rw [HPr.out, h2]; rfl
                subst h2
                go_wp2_with (go_at_call 51; fail)
                refine hha.mono ?_
                clear hha hm0
                rintro e w6 ⟨rfl, hb6⟩
                have H6 : Hid (FdR w w2 w6 g M (.slice a5 (L.length + 1) a5c) (L ++ [(98, [48])])) := H5.out.low hb6
                clear hb6 H5
                go_upto_region 11 with fail
                have hm0 : w6.cell? ⟨g, 0, none⟩ = some (.int .i64 (M.z 0)) := H6.out.msg.cell 0 (by decide)
                go_wp2_with (go_at_call 52; fail)
                refine (TagX_any (M.z 0) num _).mono ?_
                rintro e wt ⟨rfl, ew⟩
                replace ew := ew.symm
                subst ew
                have hwr := HWr.out hp w6
                go_wp2_with (go_at_call 53; fail)
                refine hwr.mono ?_
                clear hwr hm0
                rintro e w8 ⟨rfl, hb8⟩
                have H8 : Hid (FdR w w2 w8 g M (.slice a5 (L.length + 1) a5c) (L ++ [(98, [48])])) := H6.out.low hb8
                clear hb8 H6
                generalize htg : tagR (M.z 0) num = tg at *
                have hba : Below w8.heap.size w8 (w8.alloc (.cells #[.int .i64 tg, .string S] 52)) := (Below.refl _ w8).alloc (Nat.le_refl _) _
                have HA : Hid (FdR w w2 (w8.alloc (.cells #[.int .i64 tg, .string S] 52)) g M (.slice a5 (L.length + 1) a5c) (L ++ [(98, [48])]) ∧ w2.heap.size ≤ (w8.alloc (.cells #[.int .i64 tg, .string S] 52)).heap.size) := ⟨H8.out.low hba, Nat.le_trans H8.out.below.size hba.size⟩
                have HCl : Hid (∀ k u, (fcs [(tg, S.data.toList)])[k]? = some u → (w8.alloc (.cells #[.int .i64 tg, .string S] 52)).cell? ((⟨w8.heap.size, 0, none⟩ : Addr).add k) = some u) := one_cells w8 tg S (tg, S.data.toList) rfl (bs_data _)
                go_upto_region 12 with (at_builtin; refine wpList_appF rfl _ _ rfl w2.heap.size _ (L ++ [(98, [48])]) rfl HA.out.1.own ⟨w8.heap.size, 0, none⟩ 1 1 [(tg, S.data.toList)] rfl rfl HCl.out (by have := HLn.out; simp only [List.length_append, List.length_cons, List.length_nil]; omega) HA.out.2 _ rfl ((L ++ [(98, [48])]).length + 1) rfl ?_; intro a9 a9c w9 ho hb)
                have H9 : Hid (FdR w w2 w9 g M (.slice a9 ((L ++ [(98, [48])]).length + 1) a9c) ((L ++ [(98, [48])]) ++ [(tg, S.data.toList)])) := HA.out.1.app (by have := HT.out.2.2.2.2; have := Hg.out; omega) ho hb
                clear ho hb hba HA HCl H8
                go_wp2
                go_roundw
                case rel => exact ⟨k + 1, _, by omega, by go_num, rfl, by have q := H9.out; rw [HX.out, HEn.out, hp, if_pos ⟨HK.out, HZ7.out⟩, if_neg (fun q => h25 q.1)]; simp only [List.append_assoc, List.length_append, List.length_cons, List.length_nil, cond_true, cond_false, List.nil_append, List.append_nil, Nat.zero_add] at q ⊢; exact q⟩
                case measure => simp [intOf]; omega
              · have hp : pp = false := by rw [HPr.out, show (hh == 2) = false by simpa using h2]; rfl
                have h2' : (hh != 2) = true := by simpa using h2
                go_wp2_with (go_at_call 51; fail)
                refine hha.mono ?_
                clear hha hm0
                rintro e w6 ⟨rfl, hb6⟩
                have H6 : Hid (FdR w w2 w6 g M (.slice a5 (L.length + 1) a5c) (L ++ [(98, [48])])) := H5.out.low hb6
                clear hb6 H5
                go_wp2
                go_roundw
                case rel => exact ⟨k + 1, _, by omega, by go_num, rfl, by have q := H6.out; rw [HX.out, HEn.out, hp, if_pos ⟨HK.out, HZ7.out⟩, if_neg (fun q => h25 q.1)]; simp only [List.append_assoc, List.length_append, List.length_cons, List.length_nil, cond_true, cond_false, List.nil_append, List.append_nil, Nat.zero_add] at q ⊢; exact q⟩
                case measure => simp [intOf]; omega
            · have hp : pp = true := by rw [HPr.out, show (s.size != 0) = true by simpa using hs0]; simp
              have hs2 := list_ne hs0
              go_upto_region 11 with fail
              have hm0 : w5.cell? ⟨g, 0, none⟩ = some (.int .i64 (M.z 0)) := H5.out.msg.cell 0 (by decide)
              go_wp2_with (go_at_call 52; fail)
              refine (TagX_any (M.z 0) num _).mono ?_
              rintro e wt ⟨rfl, ew⟩
              replace ew := ew.symm
              subst ew
              have hwr := HWr.out hp w5
              go_wp2_with (go_at_call 53; fail)
              refine hwr.mono ?_
              clear hwr hm0
              rintro e w8 ⟨rfl, hb8⟩
              have H8 : Hid (FdR w w2 w8 g M (.slice a5 (L.length + 1) a5c) (L ++ [(98, [48])])) := H5.out.low hb8
              clear hb8 H5
              generalize htg : tagR (M.z 0) num = tg at *
              have hba : Below w8.heap.size w8 (w8.alloc (.cells #[.int .i64 tg, .string S] 52)) := (Below.refl _ w8).alloc (Nat.le_refl _) _
              have HA : Hid (FdR w w2 (w8.alloc (.cells #[.int .i64 tg, .string S] 52)) g M (.slice a5 (L.length + 1) a5c) (L ++ [(98, [48])]) ∧ w2.heap.size ≤ (w8.alloc (.cells #[.int .i64 tg, .string S] 52)).heap.size) := ⟨H8.out.low hba, Nat.le_trans H8.out.below.size hba.size⟩
              have HCl : Hid (∀ k u, (fcs [(tg, S.data.toList)])[k]? = some u → (w8.alloc (.cells #[.int .i64 tg, .string S] 52)).cell? ((⟨w8.heap.size, 0, none⟩ : Addr).add k) = some u) := one_cells w8 tg S (tg, S.data.toList) rfl (bs_data _)
              go_upto_region 12 with (at_builtin; refine wpList_appF rfl _ _ rfl w2.heap.size _ (L ++ [(98, [48])]) rfl HA.out.1.own ⟨w8.heap.size, 0, none⟩ 1 1 [(tg, S.data.toList)] rfl rfl HCl.out (by have := HLn.out; simp only [List.length_append, List.length_cons, List.length_nil]; omega) HA.out.2 _ rfl ((L ++ [(98, [48])]).length + 1) rfl ?_; intro a9 a9c w9 ho hb)
              have H9 : Hid (FdR w w2 w9 g M (.slice a9 ((L ++ [(98, [48])]).length + 1) a9c) ((L ++ [(98, [48])]) ++ [(tg, S.data.toList)])) := HA.out.1.app (by have := HT.out.2.2.2.2; have := Hg.out; omega) ho hb
              clear ho hb hba HA HCl H8
              go_wp2
              go_roundw
              case rel => exact ⟨k + 1, _, by omega, by go_num, rfl, by have q := H9.out; rw [HX.out, HEn.out, hp, if_pos ⟨HK.out, HZ7.out⟩, if_neg (fun q => h25 q.1)]; simp only [List.append_assoc, List.length_append, List.length_cons, List.length_nil, cond_true, cond_false, List.nil_append, List.append_nil, Nat.zero_add] at q ⊢; exact q⟩
              case measure => simp [intOf]; omega
          · have hp : pp = true := by rw [HPr.out, show (n != 0) = true by simpa using hn0]; simp
            have hn1 : (n == 0) = false := by simp [hn0]
            go_upto_region 11 with fail
            have hm0 : w5.cell? ⟨g, 0, none⟩ = some (.int .i64 (M.z 0)) := H5.out.msg.cell 0 (by decide)
            go_wp2_with (go_at_call 52; fail)
            refine (TagX_any (M.z 0) num _).mono ?_
            rintro e wt ⟨rfl, ew⟩
            replace ew := ew.symm
            subst ew
            have hwr := HWr.out hp w5
            go_wp2_with (go_at_call 53; fail)
            refine hwr.mono ?_
            clear hwr hm0
            rintro e w8 ⟨rfl, hb8⟩
            have H8 : Hid (FdR w w2 w8 g M (.slice a5 (L.length + 1) a5c) (L ++ [(98, [48])])) := H5.out.low hb8
            clear hb8 H5
            generalize htg : tagR (M.z 0) num = tg at *
            have hba : Below w8.heap.size w8 (w8.alloc (.cells #[.int .i64 tg, .string S] 52)) := (Below.refl _ w8).alloc (Nat.le_refl _) _
            have HA : Hid (FdR w w2 (w8.alloc (.cells #[.int .i64 tg, .string S] 52)) g M (.slice a5 (L.length + 1) a5c) (L ++ [(98, [48])]) ∧ w2.heap.size ≤ (w8.alloc (.cells #[.int .i64 tg, .string S] 52)).heap.size) := ⟨H8.out.low hba, Nat.le_trans H8.out.below.size hba.size⟩
            have HCl : Hid (∀ k u, (fcs [(tg, S.data.toList)])[k]? = some u → (w8.alloc (.cells #[.int .i64 tg, .string S] 52)).cell? ((⟨w8.heap.size, 0, none⟩ : Addr).add k) = some u) := one_cells w8 tg S (tg, S.data.toList) rfl (bs_data _)
            go_upto_region 12 with (at_builtin; refine wpList_appF rfl _ _ rfl w2.heap.size _ (L ++ [(98, [48])]) rfl HA.out.1.own ⟨w8.heap.size, 0, none⟩ 1 1 [(tg, S.data.toList)] rfl rfl HCl.out (by have := HLn.out; simp only [List.length_append, List.length_cons, List.length_nil]; omega) HA.out.2 _ rfl ((L ++ [(98, [48])]).length + 1) rfl ?_; intro a9 a9c w9 ho hb)
            have H9 : Hid (FdR w w2 w9 g M (.slice a9 ((L ++ [(98, [48])]).length + 1) a9c) ((L ++ [(98, [48])]) ++ [(tg, S.data.toList)])) := HA.out.1.app (by have := HT.out.2.2.2.2; have := Hg.out; omega) ho hb
            clear ho hb hba HA HCl H8
            go_wp2
            go_roundw
            case rel => exact ⟨k + 1, _, by omega, by go_num, rfl, by have q := H9.out; rw [HX.out, HEn.out, hp, if_pos ⟨HK.out, HZ7.out⟩, if_neg (fun q => h25 q.1)]; simp only [List.append_assoc, List.length_append, List.length_cons, List.length_nil, cond_true, cond_false, List.nil_append, List.append_nil, Nat.zero_add] at q ⊢; exact q⟩
            case measure => simp [intOf]; omega
        · have hz7' : (M.z 0 == 7) = false := by simp [hz7]
          go_upto_region 10 with fail
          clear hm4 hz7' hn108
          by_cases hn0 : n = 0
          · subst hn0
            by_cases hs0 : s.size = 0
            · obtain rfl : s = ⟨#[]⟩ := size0 hs0
              have hm0 : w4.cell? ⟨g, 0, none⟩ = some (.int .i64 (M.z 0)) := HI4.out.msg.cell 0 (by decide)
              have hha := HHa.out w4
              by_cases h2 : hh = 2
              · have hp : pp = true := by rw [HPr.out, h2]; rfl
                subst h2
                go_wp2_with (go_at_call 51; fail)
                refine hha.mono ?_
                clear hha hm0
                rintro e w6 ⟨rfl, hb6⟩
                have H6 : Hid (FdR w w2 w6 g M v L) := HI4.out.low hb6
                clear hb6 HI4
                go_upto_region 11 with fail
                have hm0 : w6.cell? ⟨g, 0, none⟩ = some (.int .i64 (M.z 0)) := H6.out.msg.cell 0 (by decide)
                go_wp2_with (go_at_call 52; fail)
                refine (TagX_any (M.z 0) num _).mono ?_
                rintro e wt ⟨rfl, ew⟩
                replace ew := ew.symm
                subst ew
                have hwr := HWr.out hp w6
                go_wp2_with (go_at_call 53; fail)
                refine hwr.mono ?_
                clear hwr hm0
                rintro e w8 ⟨rfl, hb8⟩
                have H8 : Hid (FdR w w2 w8 g M v L) := H6.out.low hb8
                clear hb8 H6
                generalize htg : tagR (M.z 0) num = tg at *
                have hba : Below w8.heap.size w8 (w8.alloc (.cells #[.int .i64 tg, .string S] 52)) := (Below.refl _ w8).alloc (Nat.le_refl _) _
                have HA : Hid (FdR w w2 (w8.alloc (.cells #[.int .i64 tg, .string S] 52)) g M v L ∧ w2.heap.size ≤ (w8.alloc (.cells #[.int .i64 tg, .string S] 52)).heap.size) := ⟨H8.out.low hba, Nat.le_trans H8.out.below.size hba.size⟩
                have HCl : Hid (∀ k u, (fcs [(tg, S.data.toList)])[k]? = some u → (w8.alloc (.cells #[.int .i64 tg, .string S] 52)).cell? ((⟨w8.heap.size, 0, none⟩ : Addr).add k) = some u) := one_cells w8 tg S (tg, S.data.toList) rfl (bs_data _)
                go_upto_region 12 with (at_builtin; refine wpList_appF rfl _ _ rfl w2.heap.size _ L rfl HA.out.1.own ⟨w8.heap.size, 0, none⟩ 1 1 [(tg, S.data.toList)] rfl rfl HCl.out (by have := HLn.out; simp only [List.length_append, List.length_cons, List.length_nil]; omega) HA.out.2 _ rfl (L.length + 1) rfl ?_; intro a9 a9c w9 ho hb)
                have H9 : Hid (FdR w w2 w9 g M (.slice a9 (L.length + 1) a9c) (L ++ [(tg, S.data.toList)])) := HA.out.1.app (by have := HT.out.2.2.2.2; have := Hg.out; omega) ho hb
                clear ho hb hba HA HCl H8
                go_wp2
                go_roundw
                case rel => exact ⟨k + 1, _, by omega, by go_num, rfl, by have q := H9.out; rw [HX.out, HEn.out, hp, if_neg (fun q => hz7 q.2), if_neg (fun q => h25 q.1)]; simp only [List.append_assoc, List.length_append, List.length_cons, List.length_nil, cond_true, cond_false, List.nil_append, List.append_nil, Nat.zero_add] at q ⊢; exact q⟩
                case measure => simp [intOf]; omega
              · have hp : pp = false := by rw [HPr.out, show (hh == 2) = false by simpa using h2]; rfl
                have h2' : (hh != 2) = true := by simpa using h2
                go_wp2_with (go_at_call 51; fail)
                refine hha.mono ?_
                clear hha hm0
                rintro e w6 ⟨rfl, hb6⟩
                have H6 : Hid (FdR w w2 w6 g M v L) := HI4.out.low hb6
                clear hb6 HI4
                go_wp2
                go_roundw
                case rel => exact ⟨k + 1, _, by omega, by go_num, rfl, by have q := H6.out; rw [HX.out, HEn.out, hp, if_neg (fun q => hz7 q.2), if_neg (fun q => h25 q.1)]; simp only [List.append_assoc, List.length_append, List.length_cons, List.length_nil, cond_true, cond_false, List.nil_append, List.append_nil, Nat.zero_add] at q ⊢; exact q⟩
                case measure => simp [intOf]; omega
            · have hp : pp = true := by rw [HPr.out, show (s.size != 0) = true by simpa using hs0]; simp
              have hs2 := list_ne hs0
              go_upto_region 11 with fail
              have hm0 : w4.cell? ⟨g, 0, none⟩ = some (.int .i64 (M.z 0)) := HI4.out.msg.cell 0 (by decide)
              go_wp2_with (go_at_call 52; fail)
              refine (TagX_any (M.z 0) num _).mono ?_
              rintro e wt ⟨rfl, ew⟩
              replace ew := ew.symm
              subst ew
              have hwr := HWr.out hp w4
              go_wp2_with (go_at_call 53; fail)
              refine hwr.mono ?_
              clear hwr hm0
              rintro e w8 ⟨rfl, hb8⟩
              have H8 : Hid (FdR w w2 w8 g M v L) := HI4.out.low hb8
              clear hb8 HI4
              generalize htg : tagR (M.z 0) num = tg at *
              have hba : Below w8.heap.size w8 (w8.alloc (.cells #[.int .i64 tg, .string S] 52)) := (Below.refl _ w8).alloc (Nat.le_refl _) _
              have HA : Hid (FdR w w2 (w8.alloc (.cells #[.int .i64 tg, .string S] 52)) g M v L ∧ w2.heap.size ≤ (w8.alloc (.cells #[.int .i64 tg, .string S] 52)).heap.size) := ⟨H8.out.low hba, Nat.le_trans H8.out.below.size hba.size⟩
              have HCl : Hid (∀ k u, (fcs [(tg, S.data.toList)])[k]? = some u → (w8.alloc (.cells #[.int .i64 tg, .string S] 52)).cell? ((⟨w8.heap.size, 0, none⟩ : Addr).add k) = some u) := one_cells w8 tg S (tg, S.data.toList) rfl (bs_data _)
              go_upto_region 12 with (at_builtin; refine wpList_appF rfl _ _ rfl w2.heap.size _ L rfl HA.out.1.own ⟨w8.heap.size, 0, none⟩ 1 1 [(tg, S.data.toList)] rfl rfl HCl.out (by have := HLn.out; simp only [List.length_append, List.length_cons, List.length_nil]; omega) HA.out.2 _ rfl (L.length + 1) rfl ?_; intro a9 a9c w9 ho hb)
              have H9 : Hid (FdR w w2 w9 g M (.slice a9 (L.length + 1) a9c) (L ++ [(tg, S.data.toList)])) := HA.out.1.app (by have := HT.out.2.2.2.2; have := Hg.out; omega) ho hb
              clear ho hb hba HA HCl H8
              go_wp2
              go_roundw
              case rel => exact ⟨k + 1, _, by omega, by go_num, rfl, by have q := H9.out; rw [HX.out, HEn.out, hp, if_neg (fun q => hz7 q.2), if_neg (fun q => h25 q.1)]; simp only [List.append_assoc, List.length_append, List.length_cons, List.length_nil, cond_true, cond_false, List.nil_append, List.append_nil, Nat.zero_add] at q ⊢; exact q⟩
              case measure => simp [intOf]; omega
          · have hp : pp = true := by rw [HPr.out, show (n != 0) = true by simpa using hn0]; simp
            have hn1 : (n == 0) = false := by simp [hn0]
            go_upto_region 11 with fail
            have hm0 : w4.cell? ⟨g, 0, none⟩ = some (.int .i64 (M.z 0)) := HI4.out.msg.cell 0 (by decide)
            go_wp2_with (go_at_call 52; fail)
            refine (TagX_any (M.z 0) num _).mono ?_
            rintro e wt ⟨rfl, ew⟩
            replace ew := ew.symm
            subst ew
            have hwr := HWr.out hp w4
            go_wp2_with (go_at_call 53; fail)
            refine hwr.mono ?_
            clear hwr hm0
            rintro e w8 ⟨rfl, hb8⟩
            have H8 : Hid (FdR w w2 w8 g M v L) := HI4.out.low hb8
            clear hb8 HI4
            generalize htg : tagR (M.z 0) num = tg at *
            have hba : Below w8.heap.size w8 (w8.alloc (.cells #[.int .i64 tg, .string S] 52)) := (Below.refl _ w8).alloc (Nat.le_refl _) _
            have HA : Hid (FdR w w2 (w8.alloc (.cells #[.int .i64 tg, .string S] 52)) g M v L ∧ w2.heap.size ≤ (w8.alloc (.cells #[.int .i64 tg, .string S] 52)).heap.size) := ⟨H8.out.low hba, Nat.le_trans H8.out.below.size hba.size⟩
            have HCl : Hid (∀ k u, (fcs [(tg, S.data.toList)])[k]? = some u → (w8.alloc (.cells #[.int .i64 tg, .string S] 52)).cell? ((⟨w8.heap.size, 0, none⟩ : Addr).add k) = some u) := one_cells w8 tg S (tg, S.data.toList) rfl (bs_data _)
            go_upto_region 12 with (at_builtin; refine wpList_appF rfl _ _ rfl w2.heap.size _ L rfl HA.out.1.own ⟨w8.heap.size, 0, none⟩ 1 1 [(tg, S.data.toList)] rfl rfl HCl.out (by have := HLn.out; simp only [List.length_append, List.length_cons, List.length_nil]; omega) HA.out.2 _ rfl (L.length + 1) rfl ?_; intro a9 a9c w9 ho hb)
            have H9 : Hid (FdR w w2 w9 g M (.slice a9 (L.length + 1) a9c) (L ++ [(tg, S.data.toList)])) := HA.out.1.app (by have := HT.out.2.2.2.2; have := Hg.out; omega) ho hb
            clear ho hb hba HA HCl H8
            go_wp2
            go_roundw
            case rel => exact ⟨k + 1, _, by omega, by go_num, rfl, by have q := H9.out; rw [HX.out, HEn.out, hp, if_neg (fun q => hz7 q.2), if_neg (fun q => h25 q.1)]; simp only [List.append_assoc, List.length_append, List.length_cons, List.length_nil, cond_true, cond_false, List.nil_append, List.append_nil, Nat.zero_add] at q ⊢; exact q⟩
            case measure => simp [intOf]; omega
      have hn108 : (num == 108) = false := by simp [HTg.out.resolve_left h7]
      by_cases h25 : k = 25
      · have HK : Hid (k = 25) := h25
        clear h25
        go_upto_region 10 with fail
        by_cases hn0 : n = 0
        · subst hn0
          by_cases hs0 : s.size = 0
          · obtain rfl : s = ⟨#[]⟩ := size0 hs0
            have hm0 : w4.cell? ⟨g, 0, none⟩ = some (.int .i64 (M.z 0)) := HI4.out.msg.cell 0 (by decide)
            have hha := HHa.out w4
            by_cases h2 : hh = 2
            · have hp : pp = true := by rw [HPr.out, h2]; rfl
              subst h2
              go_wp2_with (go_at_call 51; fail)
              refine hha.mono ?_
              clear hha hm0
              rintro e w6 ⟨rfl, hb6⟩
              have H6 : Hid (FdR w w2 w6 g M v L) := HI4.out.low hb6
              clear hb6 HI4
              go_upto_region 11 with fail
              have hm0 : w6.cell? ⟨g, 0, none⟩ = some (.int .i64 (M.z 0)) := H6.out.msg.cell 0 (by decide)
              go_wp2_with (go_at_call 52; fail)
              refine (TagX_any (M.z 0) num _).mono ?_
              rintro e wt ⟨rfl, ew⟩
              replace ew := ew.symm
              subst ew
              have hwr := HWr.out hp w6
              go_wp2_with (go_at_call 53; fail)
              refine hwr.mono ?_
              clear hwr hm0
              rintro e w8 ⟨rfl, hb8⟩
              have H8 : Hid (FdR w w2 w8 g M v L) := H6.out.low hb8
              clear hb8 H6
              generalize htg : tagR (M.z 0) num = tg at *
              have hba : Below w8.heap.size w8 (w8.alloc (.cells #[.int .i64 tg, .string S] 52)) := (Below.refl _ w8).alloc (Nat.le_refl _) _
              have HA : Hid (FdR w w2 (w8.alloc (.cells #[.int .i64 tg, .string S] 52)) g M v L ∧ w2.heap.size ≤ (w8.alloc (.cells #[.int .i64 tg, .string S] 52)).heap.size) := ⟨H8.out.low hba, Nat.le_trans H8.out.below.size hba.size⟩
              have HCl : Hid (∀ k u, (fcs [(tg, S.data.toList)])[k]? = some u → (w8.alloc (.cells #[.int .i64 tg, .string S] 52)).cell? ((⟨w8.heap.size, 0, none⟩ : Addr).add k) = some u) := one_cells w8 tg S (tg, S.data.toList) rfl (bs_data _)
              go_upto_region 12 with (at_builtin; refine wpList_appF rfl _ _ rfl w2.heap.size _ L rfl HA.out.1.own ⟨w8.heap.size, 0, none⟩ 1 1 [(tg, S.data.toList)] rfl rfl HCl.out (by have := HLn.out; simp only [List.length_append, List.length_cons, List.length_nil]; omega) HA.out.2 _ rfl (L.length + 1) rfl ?_; intro a9 a9c w9 ho hb)
              have H9 : Hid (FdR w w2 w9 g M (.slice a9 (L.length + 1) a9c) (L ++ [(tg, S.data.toList)])) := HA.out.1.app (by have := HT.out.2.2.2.2; have := Hg.out; omega) ho hb
              clear ho hb hba HA HCl H8
              have hn59 : (num == 59) = true := by simp [(HT5.out HK.out).1]
              have hzl : ¬ M.z 25 = 7 := by rw [← (HT5.out HK.out).2]; decide
              go_wp2
              go_roundw
              case rel => exact ⟨k + 1, _, by omega, by go_num, rfl, by have q := H9.out; rw [HX.out, HEn.out, hp, if_neg (fun q => h7 q.1), if_neg (fun q => hzl q.2)]; simp only [List.append_assoc, List.length_append, List.length_cons, List.length_nil, cond_true, cond_false, List.nil_append, List.append_nil, Nat.zero_add] at q ⊢; exact q⟩
              case measure => simp [intOf]; omega
            · have hp : pp = false := by rw [HPr.out, show (hh == 2) = false by simpa using h2]; rfl
              have h2' : (hh != 2) = true := by simpa using h2
              go_wp2_with (go_at_call 51; fail)
              refine hha.mono ?_
              clear hha hm0
              rintro e w6 ⟨rfl, hb6⟩
              have H6 : Hid (FdR w w2 w6 g M v L) := HI4.out.low hb6
              clear hb6 HI4
              go_wp2
              go_roundw
              case rel => exact ⟨k + 1, _, by omega, by go_num, rfl, by have q := H6.out; rw [HX.out, HEn.out, hp, if_neg (fun q => h7 q.1), if_neg (fun q => absurd q.2 (by rw [← (HT5.out HK.out).2]; decide))]; simp only [List.append_assoc, List.length_append, List.length_cons, List.length_nil, cond_true, cond_false, List.nil_append, List.append_nil, Nat.zero_add] at q ⊢; exact q⟩
              case measure => simp [intOf]; omega
          · have hp : pp = true := by rw [HPr.out, show (s.size != 0) = true by simpa using hs0]; simp
            have hs2 := list_ne hs0
            go_upto_region 11 with fail
            have hm0 : w4.cell? ⟨g, 0, none⟩ = some (.int .i64 (M.z 0)) := HI4.out.msg.cell 0 (by decide)
            go_wp2_with (go_at_call 52; fail)
            refine (TagX_any (M.z 0) num _).mono ?_
            rintro e wt ⟨rfl, ew⟩
            replace ew := ew.symm
            subst ew
            have hwr := HWr.out hp w4
            go_wp2_with (go_at_call 53; fail)
            refine hwr.mono ?_
            clear hwr hm0
            rintro e w8 ⟨rfl, hb8⟩
            have H8 : Hid (FdR w w2 w8 g M v L) := HI4.out.low hb8
            clear hb8 HI4
            generalize htg : tagR (M.z 0) num = tg at *
            have hba : Below w8.heap.size w8 (w8.alloc (.cells #[.int .i64 tg, .string S] 52)) := (Below.refl _ w8).alloc (Nat.le_refl _) _
            have HA : Hid (FdR w w2 (w8.alloc (.cells #[.int .i64 tg, .string S] 52)) g M v L ∧ w2.heap.size ≤ (w8.alloc (.cells #[.int .i64 tg, .string S] 52)).heap.size) := ⟨H8.out.low hba, Nat.le_trans H8.out.below.size hba.size⟩
            have HCl : Hid (∀ k u, (fcs [(tg, S.data.toList)])[k]? = some u → (w8.alloc (.cells #[.int .i64 tg, .string S] 52)).cell? ((⟨w8.heap.size, 0, none⟩ : Addr).add k) = some u) := one_cells w8 tg S (tg, S.data.toList) rfl (bs_data _)
            go_upto_region 12 with (at_builtin; refine wpList_appF rfl _ _ rfl w2.heap.size _ L rfl HA.out.1.own ⟨w8.heap.size, 0, none⟩ 1 1 [(tg, S.data.toList)] rfl rfl HCl.out (by have := HLn.out; simp only [List.length_append, List.length_cons, List.length_nil]; omega) HA.out.2 _ rfl (L.length + 1) rfl ?_; intro a9 a9c w9 ho hb)
            have H9 : Hid (FdR w w2 w9 g M (.slice a9 (L.length + 1) a9c) (L ++ [(tg, S.data.toList)])) := HA.out.1.app (by have := HT.out.2.2.2.2; have := Hg.out; omega) ho hb
            clear ho hb hba HA HCl H8
            have hn59 : (num == 59) = true := by simp [(HT5.out HK.out).1]
            have hzl : ¬ M.z 25 = 7 := by rw [← (HT5.out HK.out).2]; decide
            go_wp2
            go_roundw
            case rel => exact ⟨k + 1, _, by omega, by go_num, rfl, by have q := H9.out; rw [HX.out, HEn.out, hp, if_neg (fun q => h7 q.1), if_neg (fun q => hzl q.2)]; simp only [List.append_assoc, List.length_append, List.length_cons, List.length_nil, cond_true, cond_false, List.nil_append, List.append_nil, Nat.zero_add] at q ⊢; exact q⟩
            case measure => simp [intOf]; omega
        · have hp : pp = true := by rw [HPr.out, show (n != 0) = true by simpa using hn0]; simp
          have hn1 : (n == 0) = false := by simp [hn0]
          go_upto_region 11 with fail
          have hm0 : w4.cell? ⟨g, 0, none⟩ = some (.int .i64 (M.z 0)) := HI4.out.msg.cell 0 (by decide)
          go_wp2_with (go_at_call 52; fail)
          refine (TagX_any (M.z 0) num _).mono ?_
          rintro e wt ⟨rfl, ew⟩
          replace ew := ew.symm
          subst ew
          have hwr := HWr.out hp w4
          go_wp2_with (go_at_call 53; fail)
          refine hwr.mono ?_
          clear hwr hm0
          rintro e w8 ⟨rfl, hb8⟩
          have H8 : Hid (FdR w w2 w8 g M v L) := HI4.out.low hb8
          clear hb8 HI4
          generalize htg : tagR (M.z 0) num = tg at *
          have hba : Below w8.heap.size w8 (w8.alloc (.cells #[.int .i64 tg, .string S] 52)) := (Below.refl _ w8).alloc (Nat.le_refl _) _
          have HA : Hid (FdR w w2 (w8.alloc (.cells #[.int .i64 tg, .string S] 52)) g M v L ∧ w2.heap.size ≤ (w8.alloc (.cells #[.int .i64 tg, .string S] 52)).heap.size) := ⟨H8.out.low hba, Nat.le_trans H8.out.below.size hba.size⟩
          have HCl : Hid (∀ k u, (fcs [(tg, S.data.toList)])[k]? = some u → (w8.alloc (.cells #[.int .i64 tg, .string S] 52)).cell? ((⟨w8.heap.size, 0, none⟩ : Addr).add k) = some u) := one_cells w8 tg S (tg, S.data.toList) rfl (bs_data _)
          go_upto_region 12 with (at_builtin; refine wpList_appF rfl _ _ rfl w2.heap.size _ L rfl HA.out.1.own ⟨w8.heap.size, 0, none⟩ 1 1 [(tg, S.data.toList)] rfl rfl HCl.out (by have := HLn.out; simp only [List.length_append, List.length_cons, List.length_nil]; omega) HA.out.2 _ rfl (L.length + 1) rfl ?_; intro a9 a9c w9 ho hb)
          have H9 : Hid (FdR w w2 w9 g M (.slice a9 (L.length + 1) a9c) (L ++ [(tg, S.data.toList)])) := HA.out.1.app (by have := HT.out.2.2.2.2; have := Hg.out; omega) ho hb
          clear ho hb hba HA HCl H8
          have hn59 : (num == 59) = true := by simp [(HT5.out HK.out).1]
          by_cases hl7 : n = 7
          · have hzl : M.z 25 = 7 := by rw [← (HT5.out HK.out).2]; exact hl7
            subst hl7
            have hba : Below w9.heap.size w9 (w9.alloc (.cells #[.int .i64 18, .string ⟨#[54]⟩] 52)) := (Below.refl _ w9).alloc (Nat.le_refl _) _
            have HA : Hid (FdR w w2 (w9.alloc (.cells #[.int .i64 18, .string ⟨#[54]⟩] 52)) g M (.slice a9 (L.length + 1) a9c) (L ++ [(tg, S.data.toList)]) ∧ w2.heap.size ≤ (w9.alloc (.cells #[.int .i64 18, .string ⟨#[54]⟩] 52)).heap.size) := ⟨H9.out.low hba, Nat.le_trans H9.out.below.size hba.size⟩
            have HCl : Hid (∀ k u, (fcs [(18, [54])])[k]? = some u → (w9.alloc (.cells #[.int .i64 18, .string ⟨#[54]⟩] 52)).cell? ((⟨w9.heap.size, 0, none⟩ : Addr).add k) = some u) := one_cells w9 18 ⟨#[54]⟩ (18, [54]) rfl rfl
            go_upto_region 5 with (at_builtin; refine wpList_appF rfl _ _ rfl w2.heap.size _ (L ++ [(tg, S.data.toList)]) rfl HA.out.1.own ⟨w9.heap.size, 0, none⟩ 1 1 [(18, [54])] rfl rfl HCl.out (by have := HLn.out; simp only [List.length_append, List.length_cons, List.length_nil]; omega) HA.out.2 _ rfl ((L ++ [(tg, S.data.toList)]).length + 1) rfl ?_; intro a11 a11c w11 ho hb)
            have H11 : Hid (FdR w w2 w11 g M (.slice a11 ((L ++ [(tg, S.data.toList)]).length + 1) a11c) ((L ++ [(tg, S.data.toList)]) ++ [(18, [54])])) := HA.out.1.app (by have := HT.out.2.2.2.2; have := Hg.out; omega) ho hb
            clear ho hb hba HA HCl H9
            go_wp2
            go_roundw
            case rel => exact ⟨k + 1, _, by omega, by go_num, rfl, by have q := H11.out; rw [HX.out, HEn.out, hp, if_neg (fun q => h7 q.1), if_pos ⟨HK.out, hzl⟩]; simp only [List.append_assoc, List.length_append, List.length_cons, List.length_nil, cond_true, cond_false, List.nil_append, List.append_nil, Nat.zero_add] at q ⊢; exact q⟩
            case measure => simp [intOf]; omega
          · have hzl : ¬ M.z 25 = 7 := by rw [← (HT5.out HK.out).2]; exact hl7
            have hl7' : (n == 7) = false := by simp [hl7]
            go_wp2
            go_roundw
            case rel => exact ⟨k + 1, _, by omega, by go_num, rfl, by have q := H9.out; rw [HX.out, HEn.out, hp, if_neg (fun q => h7 q.1), if_neg (fun q => hzl q.2)]; simp only [List.append_assoc, List.length_append, List.length_cons, List.length_nil, cond_true, cond_false, List.nil_append, List.append_nil, Nat.zero_add] at q ⊢; exact q⟩
            case measure => simp [intOf]; omega
      have hn59 : (num == 59) = false := by simp [HT9.out.resolve_left h25]
      go_upto_region 10 with fail
      by_cases hn0 : n = 0
      · subst hn0
        by_cases hs0 : s.size = 0
        · obtain rfl : s = ⟨#[]⟩ := size0 hs0
          have hm0 : w4.cell? ⟨g, 0, none⟩ = some (.int .i64 (M.z 0)) := HI4.out.msg.cell 0 (by decide)
          have hha := HHa.out w4
          by_cases h2 : hh = 2
          · have hp : pp = true := by rw [HPr.out, h2]; rfl
            subst h2
            go_wp2_with (go_at_call 51; fail)
            refine hha.mono ?_
            clear hha hm0
            rintro e w6 ⟨rfl, hb6⟩
            have H6 : Hid (FdR w w2 w6 g M v L) := HI4.out.low hb6
            clear hb6 HI4
            go_upto_region 11 with fail
            have hm0 : w6.cell? ⟨g, 0, none⟩ = some (.int .i64 (M.z 0)) := H6.out.msg.cell 0 (by decide)
            go_wp2_with (go_at_call 52; fail)
            refine (TagX_any (M.z 0) num _).mono ?_
            rintro e wt ⟨rfl, ew⟩
            replace ew := ew.symm
            subst ew
            have hwr := HWr.out hp w6
            go_wp2_with (go_at_call 53; fail)
            refine hwr.mono ?_
            clear hwr hm0
            rintro e w8 ⟨rfl, hb8⟩
            have H8 : Hid (FdR w w2 w8 g M v L) := H6.out.low hb8
            clear hb8 H6
            generalize htg : tagR (M.z 0) num = tg at *
            have hba : Below w8.heap.size w8 (w8.alloc (.cells #[.int .i64 tg, .string S] 52)) := (Below.refl _ w8).alloc (Nat.le_refl _) _
            have HA : Hid (FdR w w2 (w8.alloc (.cells #[.int .i64 tg, .string S] 52)) g M v L ∧ w2.heap.size ≤ (w8.alloc (.cells #[.int .i64 tg, .string S] 52)).heap.size) := ⟨H8.out.low hba, Nat.le_trans H8.out.below.size hba.size⟩
            have HCl : Hid (∀ k u, (fcs [(tg, S.data.toList)])[k]? = some u → (w8.alloc (.cells #[.int .i64 tg, .string S] 52)).cell? ((⟨w8.heap.size, 0, none⟩ : Addr).add k) = some u) := one_cells w8 tg S (tg, S.data.toList) rfl (bs_data _)
            go_upto_region 12 with (at_builtin; refine wpList_appF rfl _ _ rfl w2.heap.size _ L rfl HA.out.1.own ⟨w8.heap.size, 0, none⟩ 1 1 [(tg, S.data.toList)] rfl rfl HCl.out (by have := HLn.out; simp only [List.length_append, List.length_cons, List.length_nil]; omega) HA.out.2 _ rfl (L.length + 1) rfl ?_; intro a9 a9c w9 ho hb)
            have H9 : Hid (FdR w w2 w9 g M (.slice a9 (L.length + 1) a9c) (L ++ [(tg, S.data.toList)])) := HA.out.1.app (by have := HT.out.2.2.2.2; have := Hg.out; omega) ho hb
            clear ho hb hba HA HCl H8
            go_wp2
            go_roundw
            case rel => exact ⟨k + 1, _, by omega, by go_num, rfl, by have q := H9.out; rw [HX.out, HEn.out, hp, if_neg (fun q => h7 q.1), if_neg (fun q => h25 q.1)]; simp only [List.append_assoc, List.length_append, List.length_cons, List.length_nil, cond_true, cond_false, List.nil_append, List.append_nil, Nat.zero_add] at q ⊢; exact q⟩
            case measure => simp [intOf]; omega
          · have hp : pp = false := by rw [HPr.out, show (hh == 2) = false by simpa using h2]; rfl
            have h2' : (hh != 2) = true := by simpa using h2
            go_wp2_with (go_at_call 51; fail)
            refine hha.mono ?_
            clear hha hm0
            rintro e w6 ⟨rfl, hb6⟩
            have H6 : Hid (FdR w w2 w6 g M v L) := HI4.out.low hb6
            clear hb6 HI4
            go_wp2
            go_roundw
            case rel => exact ⟨k + 1, _, by omega, by go_num, rfl, by have q := H6.out; rw [HX.out, HEn.out, hp, if_neg (fun q => h7 q.1), if_neg (fun q => h25 q.1)]; simp only [List.append_assoc, List.length_append, List.length_cons, List.length_nil, cond_true, cond_false, List.nil_append, List.append_nil, Nat.zero_add] at q ⊢; exact q⟩
            case measure => simp [intOf]; omega
        · have hp : pp = true := by rw [HPr.out, show (s.size != 0) = true by simpa using hs0]; simp
          have hs2 := list_ne hs0
          go_upto_region 11 with fail
          have hm0 : w4.cell? ⟨g, 0, none⟩ = some (.int .i64 (M.z 0)) := HI4.out.msg.cell 0 (by decide)
          go_wp2_with (go_at_call 52; fail)
          refine (TagX_any (M.z 0) num _).mono ?_
          rintro e wt ⟨rfl, ew⟩
          replace ew := ew.symm
          subst ew
          have hwr := HWr.out hp w4
          go_wp2_with (go_at_call 53; fail)
          refine hwr.mono ?_
          clear hwr hm0
          rintro e w8 ⟨rfl, hb8⟩
          have H8 : Hid (FdR w w2 w8 g M v L) := HI4.out.low hb8
          clear hb8 HI4
          generalize htg : tagR (M.z 0) num = tg at *
          have hba : Below w8.heap.size w8 (w8.alloc (.cells #[.int .i64 tg, .string S] 52)) := (Below.refl _ w8).alloc (Nat.le_refl _) _
          have HA : Hid (FdR w w2 (w8.alloc (.cells #[.int .i64 tg, .string S] 52)) g M v L ∧ w2.heap.size ≤ (w8.alloc (.cells #[.int .i64 tg, .string S] 52)).heap.size) := ⟨H8.out.low hba, Nat.le_trans H8.out.below.size hba.size⟩
          have HCl : Hid (∀ k u, (fcs [(tg, S.data.toList)])[k]? = some u → (w8.alloc (.cells #[.int .i64 tg, .string S] 52)).cell? ((⟨w8.heap.size, 0, none⟩ : Addr).add k) = some u) := one_cells w8 tg S (tg, S.data.toList) rfl (bs_data _)
          go_upto_region 12 with (at_builtin; refine wpList_appF rfl _ _ rfl w2.heap.size _ L rfl HA.out.1.own ⟨w8.heap.size, 0, none⟩ 1 1 [(tg, S.data.toList)] rfl rfl HCl.out (by have := HLn.out; simp only [List.length_append, List.length_cons, List.length_nil]; omega) HA.out.2 _ rfl (L.length + 1) rfl ?_; intro a9 a9c w9 ho hb)
          have H9 : Hid (FdR w w2 w9 g M (.slice a9 (L.length + 1) a9c) (L ++ [(tg, S.data.toList)])) := HA.out.1.app (by have := HT.out.2.2.2.2; have := Hg.out; omega) ho hb
          clear ho hb hba HA HCl H8
          go_wp2
          go_roundw
          case rel => exact ⟨k + 1, _, by omega, by go_num, rfl, by have q := H9.out; rw [HX.out, HEn.out, hp, if_neg (fun q => h7 q.1), if_neg (fun q => h25 q.1)]; simp only [List.append_assoc, List.length_append, List.length_cons, List.length_nil, cond_true, cond_false, List.nil_append, List.append_nil, Nat.zero_add] at q ⊢; exact q⟩
          case measure => simp [intOf]; omega
      · have hp : pp = true := by rw [HPr.out, show (n != 0) = true by simpa using hn0]; simp
        have hn1 : (n == 0) = false := by simp [hn0]
        go_upto_region 11 with fail
        have hm0 : w4.cell? ⟨g, 0, none⟩ = some (.int .i64 (M.z 0)) := HI4.out.msg.cell 0 (by decide)
        go_wp2_with (go_at_call 52; fail)
        refine (TagX_any (M.z 0) num _).mono ?_
        rintro e wt ⟨rfl, ew⟩
        replace ew := ew.symm
        subst ew
        have hwr := HWr.out hp w4
        go_wp2_with (go_at_call 53; fail)
        refine hwr.mono ?_
        clear hwr hm0
        rintro e w8 ⟨rfl, hb8⟩
        have H8 : Hid (FdR w w2 w8 g M v L) := HI4.out.low hb8
        clear hb8 HI4
        generalize htg : tagR (M.z 0) num = tg at *
        have hba : Below w8.heap.size w8 (w8.alloc (.cells #[.int .i64 tg, .string S] 52)) := (Below.refl _ w8).alloc (Nat.le_refl _) _
        have HA : Hid (FdR w w2 (w8.alloc (.cells #[.int .i64 tg, .string S] 52)) g M v L ∧ w2.heap.size ≤ (w8.alloc (.cells #[.int .i64 tg, .string S] 52)).heap.size) := ⟨H8.out.low hba, Nat.le_trans H8.out.below.size hba.size⟩
        have HCl : Hid (∀ k u, (fcs [(tg, S.data.toList)])[k]? = some u → (w8.alloc (.cells #[.int .i64 tg, .string S] 52)).cell? ((⟨w8.heap.size, 0, none⟩ : Addr).add k) = some u) := one_cells w8 tg S (tg, S.data.toList) rfl (bs_data _)
        go_upto_region 12 with (at_builtin; refine wpList_appF rfl _ _ rfl w2.heap.size _ L rfl HA.out.1.own ⟨w8.heap.size, 0, none⟩ 1 1 [(tg, S.data.toList)] rfl rfl HCl.out (by have := HLn.out; simp only [List.length_append, List.length_cons, List.length_nil]; omega) HA.out.2 _ rfl (L.length + 1) rfl ?_; intro a9 a9c w9 ho hb)
        have H9 : Hid (FdR w w2 w9 g M (.slice a9 (L.length + 1) a9c) (L ++ [(tg, S.data.toList)])) := HA.out.1.app (by have := HT.out.2.2.2.2; have := Hg.out; omega) ho hb
        clear ho hb hba HA HCl H8
        go_wp2
        go_roundw
        case rel => exact ⟨k + 1, _, by omega, by go_num, rfl, by have q := H9.out; rw [HX.out, HEn.out, hp, if_neg (fun q => h7 q.1), if_neg (fun q => h25 q.1)]; simp only [List.append_assoc, List.length_append, List.length_cons, List.length_nil, cond_true, cond_false, List.nil_append, List.append_nil, Nat.zero_add] at q ⊢; exact q⟩
        case measure => simp [intOf]; omega
    · obtain rfl : k = 42 := by omega
      have HE : Hid (_ = _) := encX_last HZ.out.1
      have HI2 : Hid (FdR w w2 wr g M v (encX M 44)) := HI.out
      have HLn : Hid ((encX M 44).length ≤ 44) := encX_len M 44
      clear HI hk hlt
      have hm0 : wr.cell? ⟨g, 0, none⟩ = some (.int .i64 (M.z 0)) := HI2.out.msg.cell 0 (by decide)
      generalize encX M 44 = L at *
      have HN := Number530_any (M.z 0) wr
      by_cases hb : (M.z 0 == 11 || M.z 0 == 15) = true
      · rw [if_pos hb] at HN
        go_wp2_with (go_at_call 54; fail)
        refine HN.mono ?_
        clear HN hm0
        rintro e w4 ⟨rfl, ew⟩
        replace ew := ew.symm
        subst ew
        go_upto_region 15 with fail
        refine wp_region_lit ?_
        refine wpList_runTo rfl (some 77) rfl v wr (by kernel_rfl) ?_
        refine wpList_loadM HI2.out.msg (.tmp 1) rfl rfl rfl ?_
        simp only [Act.put, List.setIfInBounds_toArray, List.set_cons_zero, List.set_cons_succ]
        rw [Hcs.out]
        have hsc := scopeX_any M wr
        rw [Hcs.out] at hsc
        go_wp2_with (go_at_call 55; fail)
        refine hsc.mono ?_
        clear hsc
        rintro e w5 ⟨rfl, hb5⟩
        have H5 : Hid (FdR w w2 w5 g M v L) := HI2.out.low hb5
        clear hb5 HI2
        generalize scS (M.s 22) = S at *
        have hba : Below w5.heap.size w5 (w5.alloc (.cells #[.int .i64 530, .string S] 52)) := (Below.refl _ w5).alloc (Nat.le_refl _) _
        have HA : Hid (FdR w w2 (w5.alloc (.cells #[.int .i64 530, .string S] 52)) g M v L ∧ w2.heap.size ≤ (w5.alloc (.cells #[.int .i64 530, .string S] 52)).heap.size) := ⟨H5.out.low hba, Nat.le_trans H5.out.below.size hba.size⟩
        have HCl : Hid (∀ k u, (fcs [(530, S.data.toList)])[k]? = some u → (w5.alloc (.cells #[.int .i64 530, .string S] 52)).cell? ((⟨w5.heap.size, 0, none⟩ : Addr).add k) = some u) := one_cells w5 530 S (530, S.data.toList) rfl (bs_data _)
        go_upto_region 16 with (at_builtin; refine wpList_appF rfl _ _ rfl w2.heap.size _ L rfl HA.out.1.own ⟨w5.heap.size, 0, none⟩ 1 1 [(530, S.data.toList)] rfl rfl HCl.out (by have := HLn.out; simp only [List.length_append, List.length_cons, List.length_nil]; omega) HA.out.2 _ rfl (L.length + 1) rfl ?_; intro a6 a6c w6 ho hb)
        have H6 : Hid (FdR w w2 w6 g M (.slice a6 (L.length + 1) a6c) (L ++ [(530, S.data.toList)])) := HA.out.1.app (by have := HT.out.2.2.2.2; have := Hg.out; omega) ho hb
        clear ho hb hba HA HCl H5
        go_wp2
        go_ret
        refine ⟨_, rfl, ?_, ?_⟩
        · rw [HE.out, if_pos hb]; exact H6.out.own.mono (Nat.le_of_lt (by have := HT.out.2.2.2.2; have := Hg.out; omega))
        · rw [Hg.out]
          have hq := HT.out.2.2.2.1
          exact hq.trans (H6.out.below.mono (by have := HT.out.2.2.2.2; have := Hg.out; omega))
      · rw [if_neg hb] at HN
        go_wp2_with (go_at_call 54; fail)
        refine HN.mono ?_
        clear HN hm0
        rintro e w4 ⟨rfl, ew⟩
        replace ew := ew.symm
        subst ew
        go_wp2
        go_ret
        refine ⟨_, rfl, ?_, ?_⟩
        · rw [HE.out, if_neg hb, List.append_nil]; exact HI2.out.own.mono (Nat.le_of_lt (by have := HT.out.2.2.2.2; have := Hg.out; omega))
        · rw [Hg.out]
          have hq := HT.out.2.2.2.1
          exact hq.trans (HI2.out.below.mono (by have := HT.out.2.2.2.2; have := Hg.out; omega))
end Go.Proofs.YtchkpggdndnpjabGreatDoor
