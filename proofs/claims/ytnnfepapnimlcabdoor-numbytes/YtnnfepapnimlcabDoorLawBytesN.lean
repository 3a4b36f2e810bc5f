/-
  NumBytes: the walk.
-/
import Derived.Test.YtnnfepapnimlcabDoorNbRows
namespace Go.Proofs.YtnnfepapnimlcabDoor
set_option linter.unusedVariables false
open Go.Shelf Go.RowKit Go.Sort Go.Lib

theorem size_of (z : Int) : ∃ s : Nat, s ≤ 8 ∧ ((z < 0 ∧ s = 0) ∨ z = s ∨ (8 < z ∧ s = 8)) := by
  by_cases h : z < 0
  · exact ⟨0, by omega, .inl ⟨h, rfl⟩⟩
  · by_cases h8 : 8 < z
    · exact ⟨8, by omega, .inr (.inr ⟨h8, rfl⟩)⟩
    · exact ⟨z.toNat, by omega, .inr (.inl (by omega))⟩
theorem u64_nat {x : Int} (h : (Lit.int .u64 x).wf = true) : ∃ k : Nat, x = k ∧ k < 18446744073709551616 := by
  simp [Lit.wf, IntKind.min, IntKind.max, IntKind.signed, IntKind.bits] at h
  exact ⟨x.toNat, by omega, by omega⟩
set_option maxRecDepth 100000 in
set_option maxHeartbeats 4000000 in
theorem NumBytes_law (a : Option Addr) (n cap : Nat) (d : Nat → Nat) (hn : n ≤ 140737488351232) (hmc : n ≤ cap) (hanil : a = none → n = 0 ∧ cap = 0) (u : Int) (hu : (Lit.int .u64 u).wf = true) (z : Int) (hz : (Lit.int .i64 z).wf = true) (m : Int) (hm : (Lit.int .i64 m).wf = true) (w : World) (hsrc : Src w a n d) (htab : TabIs Tryd.prog w "internal/strconv.uint64pow10" .u64 pow10Tab) :
    Calls Tryd.prog 5 #[.slice a n cap, .int .u64 u, .int .i64 z, .int .i64 m] w fun e w' => e = .returned (.bool true) ∧ Below w.heap.size w w' := by
  obtain ⟨m0, m1⟩ := bounds_i64 hm
  obtain ⟨u, rfl, hu64⟩ := u64_nat hu
  obtain ⟨s, hs8, hzs⟩ := size_of z
  have HZ : Hid (∀ (a : Option Addr) (n cap : Nat) (d : Nat → Nat) (w : World), n ≤ 140737488351232 → Src w a n d → (a = none → n = 0 ∧ cap = 0) → Calls Tryd.prog 24 #[.slice a n cap, .int .u64 (u : Int), .int .i64 z] w fun e w' => ∃ v, e = .returned v ∧ w'.ownsRow w.heap.size 5 1 v (n + s) (bvals (rowL d n ++ putTo u s s)) ∧ Below w.heap.size w w') := fun a n cap d w h1 h2 h3 => Put_z a n cap d u s hs8 z hzs w h1 hu64 h2 h3
  have HZR : Hid (∀ (a : Option Addr) (n cap : Nat) (d : Nat → Nat) (w : World), n ≤ 140737488351232 → Src w a n d → (a = none → n = 0 ∧ cap = 0) → Calls Tryd.prog 25 #[.slice a n cap, .int .u64 (u : Int), .int .i64 z] w fun e w' => ∃ v, e = .returned v ∧ w'.ownsRow w.heap.size 5 1 v (n + s) (bvals (rowL d n ++ putTo u s s)) ∧ Below w.heap.size w w') := fun a n cap d w h1 h2 h3 => refPut_z a n cap d u s hs8 z hzs w h1 hu64 h2 h3
  have HL10 : Hid ((varL (foldN m)).length ≤ 10) := varL_length10 (foldN_lt m0 m1)
  have HV : Hid (∀ (a : Option Addr) (n cap : Nat) (d : Nat → Nat) (w : World), n ≤ 140737488351232 → Src w a n d → (a = none → n = 0 ∧ cap = 0) → Calls Tryd.prog 19 #[.slice a n cap, .int .i64 m] w fun e w' => ∃ v, e = .returned v ∧ w'.ownsRow w.heap.size 5 1 v (n + (varL (foldN m)).length) (bvals (rowL d n ++ varL (foldN m))) ∧ Below w.heap.size w w') := fun a n cap d w h1 h2 h3 => PutVar_any a n cap d m w h1 m0 m1 h2 h3
  have HVR : Hid (∀ (a : Option Addr) (n cap : Nat) (d : Nat → Nat) (w : World), n ≤ 140737488351232 → Src w a n d → (a = none → n = 0 ∧ cap = 0) → Calls Tryd.prog 26 #[.slice a n cap, .int .i64 m] w fun e w' => ∃ v, e = .returned v ∧ w'.ownsRow w.heap.size 5 1 v (n + (varL (foldN m)).length) (bvals (rowL d n ++ varL (foldN m))) ∧ Below w.heap.size w w') := fun a n cap d w h1 h2 h3 => refPutVar_any a n cap d m w h1 m0 m1 h2 h3
  have HS8 : Hid (s ≤ 8) := hs8
  generalize varL (foldN m) = lv at HL10 HV HVR
  generalize putTo u s s = lp at HZ HZR
  have HT : Hid (TabIs Tryd.prog w "internal/strconv.uint64pow10" .u64 pow10Tab) := htab
  have HS : Hid (Src w a n d) := hsrc
  have HN : Hid (a = none → n = 0 ∧ cap = 0) := hanil
  clear htab hsrc hanil hu hz hm hzs hs8
  go_enter Tryd.func5, Tryd.ntmps5
  go_wp2_with (go_at_call 7; fail)
  refine (shown_any _ HT.out).mono ?_
  rintro e w1 ⟨rfl, hb1⟩
  have HB1 : Hid (Below w.heap.size w w1) := hb1
  clear hb1 HT
  go_wp2_with (go_at_call 20; fail)
  refine (lent_any a n cap d _ hn (HS.out.below HB1.out)).mono ?_
  rintro e w2 ⟨rfl, ho2, hb2⟩
  have HB2 : Hid (NB w w2 n (fun j => if j < n then d j else 201) w1.heap.size ∧ w1.heap.size < w2.heap.size) := ⟨⟨HB1.out.trans (hb2.mono HB1.out.size), ho2, HB1.out.size⟩, ho2.lt⟩
  clear hb2 ho2 HB1
  generalize w1.heap.size = G at *
  have HE : Hid (∀ j, j < n → (fun j => if j < n then d j else 201) j = d j) := fun j hj => if_pos hj
  generalize hfe : (fun j => if j < n then d j else 201) = f at *
  have HFE : Hid ((fun j => if j < n then d j else 201) = f) := hfe
  clear hfe
  go_wp2_with (go_at_call 24; fail)
  refine (HZ.out _ n _ d _ hn (HB2.out.1.sin HE.out) (fun h => by cases h)).mono ?_
  rintro e w3 ⟨vx, rfl, ho3, hb3⟩
  have HB3 : Hid (NB w w3 n f G ∧ RS w2.heap.size w3 [(vx, n + s, bvals (rowL d n ++ lp))] ∧ G < w2.heap.size) := ⟨HB2.out.1.keep hb3, (RS.nil w2).add hb3 ho3, HB2.out.2⟩
  clear hb3 ho3 HB2
  generalize w2.heap.size = B at *
  go_wp2_with (go_at_call 19; fail)
  refine (HV.out _ n _ d _ hn (HB3.out.1.sin HE.out) (fun h => by cases h)).mono ?_
  rintro e w4 ⟨vy, rfl, ho4, hb4⟩
  have HB4 : Hid (NB w w4 n f G ∧ RS B w4 [(vx, n + s, bvals (rowL d n ++ lp)), (vy, n + lv.length, bvals (rowL d n ++ lv))] ∧ G < B) := ⟨HB3.out.1.keep hb4, HB3.out.2.1.add hb4 ho4, HB3.out.2.2⟩
  clear hb4 ho4 HB3
  go_wp2_with (go_at_call 24; fail)
  refine (HZ.out _ n _ d _ hn (HB4.out.1.sin HE.out) (fun h => by cases h)).mono ?_
  rintro e w5 ⟨vz, rfl, ho5, hb5⟩
  have HB5 : Hid (NB w w5 n f G ∧ RS B w5 [(vx, n + s, bvals (rowL d n ++ lp)), (vy, n + lv.length, bvals (rowL d n ++ lv)), (vz, n + s, bvals (rowL d n ++ lp))] ∧ G < B) := ⟨HB4.out.1.keep hb5, HB4.out.2.1.add hb5 ho5, HB4.out.2.2⟩
  clear hb5 ho5 HB4
  go_wp2_with (go_at_call 19; fail)
  refine (HV.out _ n _ d _ hn (HB5.out.1.sin HE.out) (fun h => by cases h)).mono ?_
  rintro e w6 ⟨vw, rfl, ho6, hb6⟩
  have HB6 : Hid (NB w w6 n f G ∧ RS B w6 [(vx, n + s, bvals (rowL d n ++ lp)), (vy, n + lv.length, bvals (rowL d n ++ lv)), (vz, n + s, bvals (rowL d n ++ lp)), (vw, n + lv.length, bvals (rowL d n ++ lv))] ∧ G < B) := ⟨HB5.out.1.keep hb6, HB5.out.2.1.add hb6 ho6, HB5.out.2.2⟩
  clear hb6 ho6 HB5
  go_wp2_with (go_at_call 25; fail)
  refine (HZR.out _ n _ d _ hn (HS.out.below HB6.out.1.below) HN.out).mono ?_
  rintro e w7 ⟨vp, rfl, ho7, hb7⟩
  have hcp := own_strv ho7
  have HB7 : Hid (NB w w7 n f G ∧ RS B w7 [(vx, n + s, bvals (rowL d n ++ lp)), (vy, n + lv.length, bvals (rowL d n ++ lv)), (vz, n + s, bvals (rowL d n ++ lp)), (vw, n + lv.length, bvals (rowL d n ++ lv))] ∧ G < B) := ⟨HB6.out.1.keep hb7, HB6.out.2.1.keep hb7, HB6.out.2.2⟩
  clear hb7 ho7 HB6
  have HPS : Hid (strOfNums ((rowL d n ++ lp).map fun x : Nat => (x : Int)) = strOfNums ((rowL d n ++ lp).map fun x : Nat => (x : Int))) := rfl
  generalize hp : strOfNums ((rowL d n ++ lp).map fun x : Nat => (x : Int)) = sp at hcp
  have HP : Hid (strOfNums ((rowL d n ++ lp).map fun x : Nat => (x : Int)) = sp) := hp
  clear hp HPS
  go_wp2_with (go_at_call 26; fail)
  refine (HVR.out _ n _ d _ hn (HS.out.below HB7.out.1.below) HN.out).mono ?_
  rintro e w8 ⟨vq, rfl, ho8, hb8⟩
  clear hcp
  have hcq := own_strv ho8
  have HB8 : Hid (NB w w8 n f G ∧ RS B w8 [(vx, n + s, bvals (rowL d n ++ lp)), (vy, n + lv.length, bvals (rowL d n ++ lv)), (vz, n + s, bvals (rowL d n ++ lp)), (vw, n + lv.length, bvals (rowL d n ++ lv))] ∧ G < B) := ⟨HB7.out.1.keep hb8, HB7.out.2.1.keep hb8, HB7.out.2.2⟩
  clear hb8 ho8 HB7
  generalize hq : strOfNums ((rowL d n ++ lv).map fun x : Nat => (x : Int)) = sq at hcq
  have HQ : Hid (strOfNums ((rowL d n ++ lv).map fun x : Nat => (x : Int)) = sq) := hq
  clear hq
  have hcx := own_strv (HB8.out.2.1.own _ (List.mem_cons_self ..))
  have hcy := own_strv (HB8.out.2.1.own _ (List.mem_cons_of_mem _ (List.mem_cons_self ..)))
  have hcz := own_strv (HB8.out.2.1.own _ (List.mem_cons_of_mem _ (List.mem_cons_of_mem _ (List.mem_cons_self ..))))
  have hcw := own_strv (HB8.out.2.1.own _ (List.mem_cons_of_mem _ (List.mem_cons_of_mem _ (List.mem_cons_of_mem _ (List.mem_cons_self ..)))))
  rw [HP.out] at hcx hcz
  rw [HQ.out] at hcy hcw
  go_wp2_with (go_at_call 22; fail)
  refine (still_same G n _ a cap d _ hn (HS.out.below HB8.out.1.below) (by rw [HFE.out]; exact HB8.out.1.own)).mono ?_
  rintro e w9 ⟨rfl, q9, hw9⟩
  have HB9 : Hid (NB w w9 n f G ∧ RS B w9 [(vx, n + s, bvals (rowL d n ++ lp)), (vy, n + lv.length, bvals (rowL d n ++ lv)), (vz, n + s, bvals (rowL d n ++ lp)), (vw, n + lv.length, bvals (rowL d n ++ lv))] ∧ G < B) := by
    rw [hw9]
    exact ⟨HB8.out.1.drewN q9, HB8.out.2.1.keep (below_drewN (Below.refl _ _) q9), HB8.out.2.2⟩
  clear hw9 HB8 hcx hcy hcz hcw hcq
  have HN2 : Hid (n + s ≤ 140737488352000 ∧ n + lv.length ≤ 140737488352000) := ⟨by have := HS8.out; omega, by have := HL10.out; omega⟩
  go_wp2_with (go_at_call 27; fail)
  refine (full_v vx (n + s) _ B 1 _ rfl _ (by decide) HN2.out.1 HB9.out.2.1.hB (HB9.out.2.1.own _ (List.mem_cons_self ..))).mono ?_
  rintro e w10 ⟨vx', rfl, ho10, hg10, hv10⟩
  have HB10 : Hid (NB w w10 n f G ∧ RS B w10 [(vy, n + lv.length, bvals (rowL d n ++ lv)), (vz, n + s, bvals (rowL d n ++ lp)), (vw, n + lv.length, bvals (rowL d n ++ lv)), (vx', n + s + 70, List.replicate (n + s + 70) (.int .u8 ((1 : Nat) : Int)))] ∧ G < B) := ⟨HB9.out.1.full HB9.out.2.1 HB9.out.2.2 hg10, HB9.out.2.1.full hg10 ho10 hv10, HB9.out.2.2⟩
  clear ho10 hg10 hv10 HB9
  go_wp2_with (go_at_call 27; fail)
  refine (full_v vy (n + lv.length) _ B 2 _ rfl _ (by decide) HN2.out.2 HB10.out.2.1.hB (HB10.out.2.1.own _ (List.mem_cons_self ..))).mono ?_
  rintro e w11 ⟨vy', rfl, ho11, hg11, hv11⟩
  have HB11 : Hid (NB w w11 n f G ∧ RS B w11 [(vz, n + s, bvals (rowL d n ++ lp)), (vw, n + lv.length, bvals (rowL d n ++ lv)), (vx', n + s + 70, List.replicate (n + s + 70) (.int .u8 ((1 : Nat) : Int))), (vy', n + lv.length + 70, List.replicate (n + lv.length + 70) (.int .u8 ((2 : Nat) : Int)))] ∧ G < B) := ⟨HB10.out.1.full HB10.out.2.1 HB10.out.2.2 hg11, HB10.out.2.1.full hg11 ho11 hv11, HB10.out.2.2⟩
  clear ho11 hg11 hv11 HB10
  go_wp2_with (go_at_call 27; fail)
  refine (full_v vz (n + s) _ B 3 _ rfl _ (by decide) HN2.out.1 HB11.out.2.1.hB (HB11.out.2.1.own _ (List.mem_cons_self ..))).mono ?_
  rintro e w12 ⟨vz', rfl, ho12, hg12, hv12⟩
  have HB12 : Hid (NB w w12 n f G ∧ RS B w12 [(vw, n + lv.length, bvals (rowL d n ++ lv)), (vx', n + s + 70, List.replicate (n + s + 70) (.int .u8 ((1 : Nat) : Int))), (vy', n + lv.length + 70, List.replicate (n + lv.length + 70) (.int .u8 ((2 : Nat) : Int))), (vz', n + s + 70, List.replicate (n + s + 70) (.int .u8 ((3 : Nat) : Int)))] ∧ G < B) := ⟨HB11.out.1.full HB11.out.2.1 HB11.out.2.2 hg12, HB11.out.2.1.full hg12 ho12 hv12, HB11.out.2.2⟩
  clear ho12 hg12 hv12 HB11
  go_wp2_with (go_at_call 27; fail)
  refine (full_v vw (n + lv.length) _ B 4 _ rfl _ (by decide) HN2.out.2 HB12.out.2.1.hB (HB12.out.2.1.own _ (List.mem_cons_self ..))).mono ?_
  rintro e w13 ⟨vw', rfl, ho13, hg13, hv13⟩
  have HB13 : Hid (NB w w13 n f G ∧ RS B w13 [(vx', n + s + 70, List.replicate (n + s + 70) (.int .u8 ((1 : Nat) : Int))), (vy', n + lv.length + 70, List.replicate (n + lv.length + 70) (.int .u8 ((2 : Nat) : Int))), (vz', n + s + 70, List.replicate (n + s + 70) (.int .u8 ((3 : Nat) : Int))), (vw', n + lv.length + 70, List.replicate (n + lv.length + 70) (.int .u8 ((4 : Nat) : Int)))] ∧ G < B) := ⟨HB12.out.1.full HB12.out.2.1 HB12.out.2.2 hg13, HB12.out.2.1.full hg13 ho13 hv13, HB12.out.2.2⟩
  clear ho13 hg13 hv13 HB12
  have HA1 := fun M hM => all_v vx' (n + s + 70) 1 B M hM w13 (by decide) (by have := HN2.out.1; omega) (HB13.out.2.1.own _ (List.mem_cons_self ..))
  have HA2 := fun M hM => all_v vy' (n + lv.length + 70) 2 B M hM w13 (by decide) (by have := HN2.out.2; omega) (HB13.out.2.1.own _ (List.mem_cons_of_mem _ (List.mem_cons_self ..)))
  have HA3 := fun M hM => all_v vz' (n + s + 70) 3 B M hM w13 (by decide) (by have := HN2.out.1; omega) (HB13.out.2.1.own _ (List.mem_cons_of_mem _ (List.mem_cons_of_mem _ (List.mem_cons_self ..))))
  have HA4 := fun M hM => all_v vw' (n + lv.length + 70) 4 B M hM w13 (by decide) (by have := HN2.out.2; omega) (HB13.out.2.1.own _ (List.mem_cons_of_mem _ (List.mem_cons_of_mem _ (List.mem_cons_of_mem _ (List.mem_cons_self ..)))))
  go_wp2_with (go_at_call 28; fail)
  refine (HA1 _ rfl).mono ?_
  rintro e w13 ⟨rfl, rfl⟩
  go_wp2_with (go_at_call 28; fail)
  refine (HA2 _ rfl).mono ?_
  rintro e w13 ⟨rfl, rfl⟩
  go_wp2_with (go_at_call 28; fail)
  refine (HA3 _ rfl).mono ?_
  rintro e w13 ⟨rfl, rfl⟩
  go_wp2_with (go_at_call 28; fail)
  refine (HA4 _ rfl).mono ?_
  rintro e w13 ⟨rfl, rfl⟩
  have HC1 : Hid (NB w w13 n f G) := HB13.out.1
  clear HA1 HA2 HA3 HA4 HB13
  have hG := fun w' (h : Src w' (some ⟨G, 0, none⟩) n d) => Get_any _ n (n + 8) d z w' h (by omega) (by omega)
  have hRG := fun w' (h : Src w' a n d) => refGet_any a n cap d z w' h (by omega)
  have hGV := fun w' (h : Src w' (some ⟨G, 0, none⟩) n d) => GetVar_any _ n (n + 8) d w' h (by omega)
  have hRV := fun w' (h : Src w' a n d) => refGetVar_any a n cap d w' h (by omega)
  generalize gtV d n z = V1 at *
  generalize gtB n z = B1 at *
  generalize gvV (gvr d n) = V2 at *
  generalize (gvK (gvr d n) : Int) = K2 at *
  go_wp2_with (go_at_call 23; fail)
  refine (hG _ (HC1.out.sin HE.out)).mono ?_
  rintro e w13 ⟨rfl, rfl⟩
  clear hG
  go_wp2_with (go_at_call 29; fail)
  refine (hRG _ (HS.out.below HC1.out.below)).mono ?_
  rintro e w13 ⟨rfl, rfl⟩
  go_wp2_with (go_at_call 21; fail)
  refine (hGV _ (HC1.out.sin HE.out)).mono ?_
  rintro e w13 ⟨rfl, rfl⟩
  go_wp2_with (go_at_call 30; fail)
  refine (hRV _ (HS.out.below HC1.out.below)).mono ?_
  rintro e w13 ⟨rfl, rfl⟩
  go_wp2_with (go_at_call 22; fail)
  refine (still_same G n _ a cap d _ hn (HS.out.below HC1.out.below) (by rw [HFE.out]; exact HC1.out.own)).mono ?_
  rintro e w14 ⟨rfl, q14, hw14⟩
  have HC2 : Hid (NB w w14 n f G) := by
    rw [hw14]
    exact HC1.out.drewN q14
  clear hw14 HC1 hRG hGV hRV
  have e1 : (V1 != V1) = false := by simp
  have e2 : (B1 != B1) = false := by simp
  have e3 : (V2 != V2) = false := by simp
  have e4 : (K2 != K2) = false := by simp
  go_wp2_with (go_at_call 31; fail)
  refine (turned_any G n f _ hn HC2.out.own).mono ?_
  rintro e w15 ⟨vt, rfl, ho15, hO15, hA15⟩
  have hsz15 := hA15.size
  obtain ⟨at', ct, rfl⟩ := own_form ho15
  rw [bytesUp_eq] at ho15
  have HD : Hid (NB w w15 n (upD f n) G ∧ Src w15 at' n (fun j => (f j + 1) % 256) ∧ (at' = none → n = 0 ∧ ct = 0) ∧ ∀ j, j < n → upD f n j = (fun j => (f j + 1) % 256) j) := ⟨HC2.out.turned hO15 hA15, (src_own ho15 fun j => Nat.mod_lt _ (by decide)).1, (src_own ho15 fun j => Nat.mod_lt _ (by decide)).2, fun j hj => if_pos hj⟩
  have hct : n ≤ ct := by
    rcases ho15.2 with ⟨h1, h2⟩ | ⟨g, cap, cur, h1, h2, h3, h4, _⟩
    · omega
    · injection h1 with x1 x2 x3; omega
  clear ho15 hO15 hA15 HC2 hsz15 e1 e2 e3 e4
  generalize upD f n = f2 at *
  generalize (fun j => (f j + 1) % 256) = d2 at *
  have hG := fun w' (h : Src w' (some ⟨G, 0, none⟩) n d2) => Get_any _ n (n + 8) d2 z w' h (by omega) (by omega)
  have hRG := fun w' (h : Src w' at' n d2) => refGet_any at' n ct d2 z w' h (by omega)
  have hGV := fun w' (h : Src w' (some ⟨G, 0, none⟩) n d2) => GetVar_any _ n (n + 8) d2 w' h (by omega)
  have hRV := fun w' (h : Src w' at' n d2) => refGetVar_any at' n ct d2 w' h (by omega)
  generalize gtV d2 n z = V3 at *
  generalize gtB n z = B3 at *
  generalize gvV (gvr d2 n) = V4 at *
  generalize (gvK (gvr d2 n) : Int) = K4 at *
  go_wp2_with (go_at_call 23; fail)
  refine (hG _ (HD.out.1.sin HD.out.2.2.2)).mono ?_
  rintro e w15 ⟨rfl, rfl⟩
  go_wp2_with (go_at_call 29; fail)
  refine (hRG _ HD.out.2.1).mono ?_
  rintro e w15 ⟨rfl, rfl⟩
  go_wp2_with (go_at_call 21; fail)
  refine (hGV _ (HD.out.1.sin HD.out.2.2.2)).mono ?_
  rintro e w15 ⟨rfl, rfl⟩
  go_wp2_with (go_at_call 30; fail)
  refine (hRV _ HD.out.2.1).mono ?_
  rintro e w15 ⟨rfl, rfl⟩
  clear hG hRG hGV hRV
  go_upto_region 29 with fail
  have HW : Hid (∀ w', Below w15.heap.size w15 w' → NB w w' n f2 G ∧ Src w' at' n d2) := fun w' hb => ⟨HD.out.1.keep hb, HD.out.2.1.below hb⟩
  have HCV : Hid (∀ (w2 w3 : World) (B N : Nat) (v : Value) (l : List Nat), w2.ownsRow B 5 1 v N (bvals l) → Below w2.heap.size w2 w3 → (convert 29 9 v).run Tryd.prog w3 = .ok (.string (strOfNums (l.map fun x : Nat => (x : Int)))) w3) := fun w2 w3 B N v l h hb => own_strv (own_keep h fun k hk => hb.block k (h.lt k hk).2)
  have C1 : Hid (∀ w', Below w15.heap.size w15 w' → Calls Tryd.prog 24 #[.slice (some ⟨G, 0, none⟩) n (n + 8), .int .u64 (u : Int), .int .i64 z] w' fun e w2 => ∃ v, e = .returned v ∧ (∀ w3, Below w2.heap.size w2 w3 → (convert 29 9 v).run Tryd.prog w3 = .ok (.string (strOfNums ((rowL d2 n ++ lp).map fun x : Nat => (x : Int)))) w3) ∧ Below w'.heap.size w' w2) := fun w' hb => by
    refine (HZ.out _ n _ d2 w' hn ((HW.out w' hb).1.sin HD.out.2.2.2) (fun h => by cases h)).mono ?_
    rintro e w2 ⟨v, rfl, ho, hb2⟩
    exact ⟨v, rfl, fun w3 h3 => HCV.out _ _ _ _ _ _ ho h3, hb2⟩
  have C2 : Hid (∀ w', Below w15.heap.size w15 w' → Calls Tryd.prog 25 #[.slice at' n ct, .int .u64 (u : Int), .int .i64 z] w' fun e w2 => ∃ v, e = .returned v ∧ (∀ w3, Below w2.heap.size w2 w3 → (convert 29 9 v).run Tryd.prog w3 = .ok (.string (strOfNums ((rowL d2 n ++ lp).map fun x : Nat => (x : Int)))) w3) ∧ Below w'.heap.size w' w2) := fun w' hb => by
    refine (HZR.out _ n _ d2 w' hn (HW.out w' hb).2 HD.out.2.2.1).mono ?_
    rintro e w2 ⟨v, rfl, ho, hb2⟩
    exact ⟨v, rfl, fun w3 h3 => HCV.out _ _ _ _ _ _ ho h3, hb2⟩
  have C3 : Hid (∀ w', Below w15.heap.size w15 w' → Calls Tryd.prog 19 #[.slice (some ⟨G, 0, none⟩) n (n + 8), .int .i64 m] w' fun e w2 => ∃ v, e = .returned v ∧ (∀ w3, Below w2.heap.size w2 w3 → (convert 29 9 v).run Tryd.prog w3 = .ok (.string (strOfNums ((rowL d2 n ++ lv).map fun x : Nat => (x : Int)))) w3) ∧ Below w'.heap.size w' w2) := fun w' hb => by
    refine (HV.out _ n _ d2 w' hn ((HW.out w' hb).1.sin HD.out.2.2.2) (fun h => by cases h)).mono ?_
    rintro e w2 ⟨v, rfl, ho, hb2⟩
    exact ⟨v, rfl, fun w3 h3 => HCV.out _ _ _ _ _ _ ho h3, hb2⟩
  have C4 : Hid (∀ w', Below w15.heap.size w15 w' → Calls Tryd.prog 26 #[.slice at' n ct, .int .i64 m] w' fun e w2 => ∃ v, e = .returned v ∧ (∀ w3, Below w2.heap.size w2 w3 → (convert 29 9 v).run Tryd.prog w3 = .ok (.string (strOfNums ((rowL d2 n ++ lv).map fun x : Nat => (x : Int)))) w3) ∧ Below w'.heap.size w' w2) := fun w' hb => by
    refine (HVR.out _ n _ d2 w' hn (HW.out w' hb).2 HD.out.2.2.1).mono ?_
    rintro e w2 ⟨v, rfl, ho, hb2⟩
    exact ⟨v, rfl, fun w3 h3 => HCV.out _ _ _ _ _ _ ho h3, hb2⟩
  generalize strOfNums ((rowL d2 n ++ lp).map fun x : Nat => (x : Int)) = s1 at C1 C2
  generalize strOfNums ((rowL d2 n ++ lv).map fun x : Nat => (x : Int)) = s2 at C3 C4
  have HFin : Hid (Below w.heap.size w w15) := HD.out.1.below
  clear HZ HZR HV HVR HD HW HCV HS HN HP HQ HE HFE HS8 HL10 HN2
  have f1 : (V3 == V3) = true := by simp
  have f2' : (B3 == B3) = true := by simp
  have f3 : (V4 == V4) = true := by simp
  have f4 : (K4 == K4) = true := by simp
  have hB15 : Hid (Below w15.heap.size w15 w15.drew) := (Below.refl _ w15).drew
  go_region_held (fun w' => Below w15.heap.size w15 w') (first | exact hB19.out | exact hB18.out | exact hB17.out | exact hB16.out | exact hB15.out)
    (first
      | (go_at_call 24; refine (C1.out _ hB15.out).mono ?_; rintro e w16 ⟨v16, rfl, hk16, hb16⟩; have hB16 : Hid (Below w15.heap.size w15 w16) := hB15.out.trans (hb16.mono hB15.out.size); have hc16 := hk16 w16 (Below.refl _ _); have HK16 : Hid (∀ w3, Below w16.heap.size w16 w3 → (convert 29 9 v16).run Tryd.prog w3 = .ok (.string s1) w3) := hk16; clear hk16 hb16)
      | (go_at_call 25; refine (C2.out _ hB16.out).mono ?_; rintro e w17 ⟨v17, rfl, hk17, hb17⟩; have hB17 : Hid (Below w15.heap.size w15 w17) := hB16.out.trans (hb17.mono hB16.out.size); have hc17 := hk17 w17 (Below.refl _ _); have hd17 := HK16.out w17 hb17; clear hk17 hb17)
      | (go_at_call 19; refine (C3.out _ hB17.out).mono ?_; rintro e w18 ⟨v18, rfl, hk18, hb18⟩; have hB18 : Hid (Below w15.heap.size w15 w18) := hB17.out.trans (hb18.mono hB17.out.size); have hc18 := hk18 w18 (Below.refl _ _); have HK18 : Hid (∀ w3, Below w18.heap.size w18 w3 → (convert 29 9 v18).run Tryd.prog w3 = .ok (.string s2) w3) := hk18; clear hk18 hb18)
      | (go_at_call 26; refine (C4.out _ hB18.out).mono ?_; rintro e w19 ⟨v19, rfl, hk19, hb19⟩; have hB19 : Hid (Below w15.heap.size w15 w19) := hB18.out.trans (hb19.mono hB18.out.size); have hc19 := hk19 w19 (Below.refl _ _); have hd19 := HK18.out w19 hb19; clear hk19 hb19))
  all_goals go_wp2
  all_goals go_ret
  all_goals exact ⟨rfl, HFin.out.trans (hB19.out.mono HFin.out.size)⟩
end Go.Proofs.YtnnfepapnimlcabDoor
