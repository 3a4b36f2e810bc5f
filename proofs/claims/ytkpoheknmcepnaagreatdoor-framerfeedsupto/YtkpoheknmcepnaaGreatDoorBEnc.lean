/-
  bin: Encode.
-/
import Derived.Test.YtkpoheknmcepnaaGreatDoorBEnc0
import Derived.Test.YtkpoheknmcepnaaGreatDoorBSm
namespace Go.Proofs.YtkpoheknmcepnaaGreatDoor
set_option linter.unusedVariables false
open Go.RowKit Go.Great Go.Lib

/-- What Encode holds: the message and the places as they lay in w3, the layout, the frame so far. -/
structure ES (w3 W : World) (lay : Array Value) (l : List UInt8) : Prop where
  base : Below w3.heap.size w3 W
  lay : W.heap[w3.heap.size]? = some (.cells lay 75 (0, 0))
  own : OwnL W (w3.heap.size + 1) l
theorem ES.wrt {w3 W W' : World} {lay : Array Value} {l l' : List UInt8} (h : ES w3 W lay l) (hw : Wrt (w3.heap.size + 1) W W') (ho : OwnL W' (w3.heap.size + 1) l') : ES w3 W' lay l' :=
  ⟨h.base.trans (hw.below.mono (Nat.le_succ _)), (hw.other _ (Array.getElem?_eq_some_iff.1 h.lay).1 (by omega)).trans h.lay, ho⟩
theorem ES.low {w3 W W' : World} {lay : Array Value} {l : List UInt8} (h : ES w3 W lay l) (hb : Below W.heap.size W W') : ES w3 W' lay l :=
  ⟨h.base.trans (hb.mono h.base.size), (hb.block _ (Array.getElem?_eq_some_iff.1 h.lay).1).trans h.lay, h.own.below hb h.own.lt⟩
theorem ES.set {w3 W : World} {lay : Array Value} {l : List UInt8} (h : ES w3 W lay l) (k : Nat) (c : UInt8) : ES w3 (W.setCell ⟨w3.heap.size + 1, k, none⟩ (.int .u8 (c.toNat : Int))) lay (l.set k c) := by
  have hs := h.own.set k c
  exact h.wrt (Wrt.of h.own.lt (Below.refl _ _) hs.2 fun b hb => Below.heap_setCell _ _ _ _ hb) hs.1
theorem wd_pos {j : Nat} (hj : j < 42) : 1 ≤ wd j := by
  rcases cases42 hj with rfl | rfl | rfl | rfl | rfl | rfl | rfl | rfl | rfl | rfl | rfl | rfl | rfl | rfl | rfl | rfl | rfl | rfl | rfl | rfl | rfl | rfl | rfl | rfl | rfl | rfl | rfl | rfl | rfl | rfl | rfl | rfl | rfl | rfl | rfl | rfl | rfl | rfl | rfl | rfl | rfl | rfl <;> decide
theorem wS_pos {l : List Nat} (h : l ≠ []) (hl : ∀ j ∈ l, j < 42) : 1 ≤ wS l := by
  cases l with
  | nil => exact absurd rfl h
  | cons x t =>
    have := wd_pos (hl x (by simp))
    show 1 ≤ wd x + wS t
    omega
theorem u8_wrap (z : Int) : IntKind.u8.wrap z = (((UInt8.ofNat (u64N z % 256)).toNat : Nat) : Int) := by
  rw [IntKind.wrap_u8', u8_ofNat]; unfold u64N; omega
theorem OwnM.low {w w' : World} {g : Nat} {M : Msg} (h : OwnM w g M) (hb : Below w.heap.size w w') : OwnM w' g M := h.below hb h.lt
set_option maxRecDepth 100000 in
set_option maxHeartbeats 1000000 in
theorem Encode_no (M : Msg) (w : World) (hM : Mon w) (hz : M.ok) (hv : valE M ≠ 0) :
    Calls Tryz.prog 14 #[.agg M.cs] w fun e w' => e = .returned (.tuple #[.slice none 0 0, .int .i64 (valE M)]) ∧ Below w.heap.size w w' := by
  have HM : Hid (1 < w.heap.size ∧ Mon w ∧ M.ok) := ⟨hM.lt, hM, hz⟩
  have HO1 : Hid (OwnM (w.alloc (.cells M.cs 43)) w.heap.size M ∧ Below w.heap.size w (w.alloc (.cells M.cs 43))) := ⟨heap_alloc_new w _, (Below.refl _ w).alloc (Nat.le_refl _) _⟩
  clear hM hz
  generalize hE : valE M = E at *
  have HE : Hid (valE M = E) := hE
  clear hE
  go_enter Tryz.func14, Tryz.ntmps14
  go_upto_region 1 with fail
  generalize w.alloc (.cells M.cs 43) = w1 at *
  generalize hcs : M.cs = CS at *
  refine wp_region_lit ?_
  refine wpList_loadM HO1.out.1 (.tmp 1) rfl rfl rfl ?_
  simp only [Act.put, List.setIfInBounds_toArray, List.set_cons_zero, List.set_cons_succ]
  rw [hcs]
  go_wp2_with (go_at_call 23; fail)
  have hvc := Valid_any M w1 (HM.out.2.1.below HO1.out.2 HM.out.1) HM.out.2.2
  rw [hcs, HE.out] at hvc
  refine hvc.mono ?_
  clear hvc
  rintro e w2 ⟨rfl, hb2⟩
  have HB2 : Hid (Below w.heap.size w w2) := HO1.out.2.trans (hb2.mono HO1.out.2.size)
  clear hb2
  have hvb : (E != 0) = true := by simpa using hv
  generalize valN M = N at *
  go_wp2
  go_ret2
  exact ⟨rfl, HB2.out⟩
set_option maxRecDepth 100000 in
set_option maxHeartbeats 2000000 in
theorem Encode_yes (M : Msg) (w : World) (hM : Mon w) (hz : M.ok) (hv : valE M = 0) :
    Calls Tryz.prog 14 #[.agg M.cs] w fun e w' => ∃ g, e = .returned (.tuple #[.slice (some ⟨g, 0, none⟩) (frameL M).length (frameL M).length, .int .i64 0]) ∧ OwnL w' g (frameL M) ∧ w.heap.size ≤ g ∧ Below w.heap.size w w' := by
  have HL : Hid ((frameL M).length = sizeN (M.z 0)) := frame_length hv
  have hS1 := (size_eq (valid_fit hv).1).2.1
  have hS2 := (size_eq (valid_fit hv).1).2.2
  generalize hFr : frameL M = FR at *
  have HFr : Hid (frameL M = FR) := hFr
  clear hFr
  have HM : Hid (1 < w.heap.size ∧ Mon w ∧ M.ok) := ⟨hM.lt, hM, hz⟩
  have HO1 : Hid (OwnM (w.alloc (.cells M.cs 43)) w.heap.size M ∧ Below w.heap.size w (w.alloc (.cells M.cs 43))) := ⟨heap_alloc_new w _, (Below.refl _ w).alloc (Nat.le_refl _) _⟩
  clear hM hz
  go_enter Tryz.func14, Tryz.ntmps14
  go_upto_region 1 with fail
  generalize w.alloc (.cells M.cs 43) = w1 at *
  generalize hcs : M.cs = CS at *
  refine wp_region_lit ?_
  refine wpList_loadM HO1.out.1 (.tmp 1) rfl rfl rfl ?_
  simp only [Act.put, List.setIfInBounds_toArray, List.set_cons_zero, List.set_cons_succ]
  rw [hcs]
  go_wp2_with (go_at_call 23; fail)
  have hvc := Valid_any M w1 (HM.out.2.1.below HO1.out.2 HM.out.1) HM.out.2.2
  rw [hcs, hv] at hvc
  refine hvc.mono ?_
  clear hvc
  rintro e w2 ⟨rfl, hb2⟩
  have HO2 : Hid (OwnM w2 w.heap.size M ∧ Below w.heap.size w w2) := ⟨HO1.out.1.low hb2, HO1.out.2.trans (hb2.mono HO1.out.2.size)⟩
  clear hb2 HO1
  generalize valN M = N at *
  go_wp2_with (go_at_call 24; fail)
  refine (layoutOf_any (M.z 0) w.heap.size w2 (HO2.out.1.cell 0 (by decide))).mono ?_
  rintro e w3 ⟨v, rfl, hpl, hb3⟩
  obtain ⟨ao, cv, rfl, hcv, hcase⟩ := hpl
  rcases hcase with hnil | ⟨gp, rfl, hgp, hcel⟩
  · exact absurd hnil (js_yes (valid_fit hv).1).1
  have HO3 : Hid (OwnM w3 w.heap.size M ∧ Below w.heap.size w w3 ∧ (∀ m u, (plC w.heap.size (js (M.z 0)) 10)[m]? = some u → w3.cell? ⟨gp, m, none⟩ = some u) ∧ w2.heap.size ≤ w3.heap.size ∧ w.heap.size < w2.heap.size) := ⟨HO2.out.1.low hb3, HO2.out.2.trans (hb3.mono HO2.out.2.size), hcel, hb3.size, HO2.out.1.lt⟩
  clear hb3 hcel HO2
  generalize hn : sizeN (M.z 0) = n at *
  have Hn : Hid (sizeN (M.z 0) = n) := hn
  clear hn
  generalize layE (M.z 0) = E at *
  have hmk := make_any n (by omega) (w3.alloc (.cells #[.slice (some ⟨gp, 0, none⟩) (js (M.z 0)).length cv, .int .i64 (E : Int), .int .i64 (n : Int)] 75))
  have hcp := copy_str ⟨#[79, 67]⟩ n n (w3.heap.size + 1) 0 (zer n) ((w3.alloc (.cells #[.slice (some ⟨gp, 0, none⟩) (js (M.z 0)).length cv, .int .i64 (E : Int), .int .i64 (n : Int)] 75)).alloc (.cells (byteCells (zer n)).toArray 5)) (by have := heap_alloc_new (w3.alloc (.cells #[.slice (some ⟨gp, 0, none⟩) (js (M.z 0)).length cv, .int .i64 (E : Int), .int .i64 (n : Int)] 75)) (.cells (byteCells (zer n)).toArray 5); simpa [OwnL] using this) (by show 2 ≤ n; omega) (by rw [zer_length]; show 0 + 2 ≤ n; omega)
  have HE6 : Hid (ES w3 (((w3.alloc (.cells #[.slice (some ⟨gp, 0, none⟩) (js (M.z 0)).length cv, .int .i64 (E : Int), .int .i64 (n : Int)] 75)).alloc (.cells (byteCells (zer n)).toArray 5)).setRow (w3.heap.size + 1) (byteCells (putAt (zer n) 0 [79, 67])).toArray) #[.slice (some ⟨gp, 0, none⟩) (js (M.z 0)).length cv, .int .i64 (E : Int), .int .i64 (n : Int)] (putAt (zer n) 0 [79, 67])) := by
    have h4 : Below w3.heap.size w3 (w3.alloc (.cells #[.slice (some ⟨gp, 0, none⟩) (js (M.z 0)).length cv, .int .i64 (E : Int), .int .i64 (n : Int)] 75)) := (Below.refl _ w3).alloc (Nat.le_refl _) _
    have h5 : Below (w3.heap.size + 1) (w3.alloc (.cells #[.slice (some ⟨gp, 0, none⟩) (js (M.z 0)).length cv, .int .i64 (E : Int), .int .i64 (n : Int)] 75)) ((w3.alloc (.cells #[.slice (some ⟨gp, 0, none⟩) (js (M.z 0)).length cv, .int .i64 (E : Int), .int .i64 (n : Int)] 75)).alloc (.cells (byteCells (zer n)).toArray 5)) := (Below.refl _ _).alloc (by simp) _
    have ho : OwnL ((w3.alloc (.cells #[.slice (some ⟨gp, 0, none⟩) (js (M.z 0)).length cv, .int .i64 (E : Int), .int .i64 (n : Int)] 75)).alloc (.cells (byteCells (zer n)).toArray 5)) (w3.heap.size + 1) (zer n) := by
      have := heap_alloc_new (w3.alloc (.cells #[.slice (some ⟨gp, 0, none⟩) (js (M.z 0)).length cv, .int .i64 (E : Int), .int .i64 (n : Int)] 75)) (.cells (byteCells (zer n)).toArray 5)
      simpa [OwnL] using this
    refine ⟨below_setRow (h4.trans (h5.mono (Nat.le_succ _))) (Nat.le_succ _) _, ?_, ho.put _⟩
    rw [setRow_other _ _ _ _ (by omega), h5.block _ (Nat.lt_succ_self _)]
    exact heap_alloc_new w3 _
  have Hlen : Hid ((putAt (zer n) 0 [79, 67]).length = n) := by show _ = _; rw [putAt_length (by rw [zer_length]; show 0 + 2 ≤ n; omega), zer_length]
  go_upto_region 7 with fail
  generalize World.setRow _ _ _ = W6 at *
  clear hmk hcp
  generalize hl6 : putAt (zer n) 0 [79, 67] = l6 at *
  have HP : Hid (∀ w' x, x = (n : Int) → Calls Tryz.prog 25 #[.slice none 0 0, .int .u64 x, .int .i64 2] w' fun e w2 => ∃ b cap, e = .returned (.slice (some ⟨b, 0, none⟩) 2 cap) ∧ (∀ j c, (be 2 n)[j]? = some c → w2.cell? ⟨b, 0 + j, none⟩ = some (.int .u8 (c.toNat : Int))) ∧ w'.heap.size ≤ b ∧ Below w'.heap.size w' w2) := fun w' x hx => Put_nil n 2 x hx 2 rfl (by decide) (by decide) w' (by omega)
  have HK7 : Hid (∀ w', Below W6.heap.size W6 w' → w'.cell? ⟨w3.heap.size, 2, none⟩ = some (.int .i64 (n : Int))) := fun w' hb => lay_cell (k := 2) (HE6.out.low hb).lay rfl
  have HK7b : Hid (∀ w' X, Below W6.heap.size W6 w' → (w'.setRow (w3.heap.size + 1) X).cell? ⟨w3.heap.size, 2, none⟩ = some (.int .i64 (n : Int))) := fun w' X hb => by
    rw [cell_setRow_other _ _ _ _ (by show w3.heap.size ≠ w3.heap.size + 1; omega)]; exact HK7.out w' hb
  have HC7 : Hid (∀ w7 b3 cap3, Below W6.heap.size W6 w7 → (∀ j c, (be 2 n)[j]? = some c → w7.cell? ⟨b3, 0 + j, none⟩ = some (.int .u8 (c.toNat : Int))) → (Builtin.copy_ #[22, 22] 3 #[.slice (some ⟨w3.heap.size + 1, 2, none⟩) (n - 2) (n - 2), .slice (some ⟨b3, 0, none⟩) 2 cap3]).run Tryz.prog w7 = .ok (.int .i64 2) (w7.setRow (w3.heap.size + 1) (byteCells (putAt l6 2 (be 2 n))).toArray)) := fun w7 b3 cap3 hb hc =>
    copy_at b3 0 2 cap3 (n - 2) (n - 2) (w3.heap.size + 1) 2 l6 (be 2 n) w7 (be_length _ _).symm hc (HE6.out.low hb).own (by rw [be_length]; omega) (by rw [be_length, Hlen.out]; omega)
  have hB6 : Below W6.heap.size W6 W6.drew := below_drewN (Below.refl _ _) 1
  have hx1 : (2 : Int) ≤ (n : Int) := by omega
  have hx2 : ¬ n = 2 := by omega
  go_region_held3 (fun w' => w'.cell? ⟨w3.heap.size, 2, none⟩ = some (.int .i64 (n : Int))) (first | exact HK7b.out _ _ hB7 | exact HK7.out _ hB7 | exact HK7.out _ hB6) (first | (go_at_call 25; refine (HP.out _ _ (by first | rfl | (rw [IntKind.wrap_u64]; omega))).mono ?_; rintro e w7 ⟨b3, cap3, rfl, hc3, hb3, hbl3⟩; have hB7 : Below W6.heap.size W6 w7 := hB6.trans (hbl3.mono hB6.size); have hcp := HC7.out w7 b3 cap3 hB7 hc3))
  have HE8 : Hid (ES w3 (w7.setRow (w3.heap.size + 1) (byteCells (putAt l6 2 (be 2 n))).toArray) #[.slice (some ⟨gp, 0, none⟩) (js (M.z 0)).length cv, .int .i64 (E : Int), .int .i64 (n : Int)] (putAt l6 2 (be 2 n))) := HE6.out.wrt (Wrt.setRow HE6.out.own.lt hB7 _) ((HE6.out.low hB7).own.put _)
  have Hlen8 : Hid ((putAt l6 2 (be 2 n)).length = n) := by show _ = _; rw [putAt_length (by rw [be_length, Hlen.out]; omega), Hlen.out]
  clear HP HK7 HK7b HC7 hB6 hcp hc3 hb3 hbl3 hx1 hx2 HE6 Hlen
  generalize hl8 : putAt l6 2 (be 2 n) = l8 at *
  generalize w7.setRow _ _ = W8 at *
  clear hB7
  have c0 : W8.cell? ⟨w.heap.size, 0, none⟩ = some (.int .i64 (M.z 0)) := by
    rw [HE8.out.base.cell (p := ⟨w.heap.size, 0, none⟩) HO3.out.1.lt]; exact HO3.out.1.cell 0 (by decide)
  obtain ⟨x4, hx4, _⟩ := dL_at (show 4 < l8.length by rw [Hlen8.out]; omega)
  have i4 := HE8.out.own.cell hx4
  have f4 := HE8.out.own.froz 4
  have hcv8 := u8_wrap (M.z 0)
  have hx5 : (4 : Int) < (n : Int) := by omega
  have hx6 : 4 < n := by omega
  have HE9 : Hid (ES w3 _ _ _) := HE8.out.set 4 (UInt8.ofNat (u64N (M.z 0) % 256))
  have Hlen9 : Hid ((l8.set 4 (UInt8.ofNat (u64N (M.z 0) % 256))).length = n) := by show _ = _; rw [List.length_set, Hlen8.out]
  generalize hk8 : UInt8.ofNat (u64N (M.z 0) % 256) = k8 at *
  clear HE8 hx4
  go_upto_region 9 with fail
  generalize hl9 : l8.set 4 k8 = l9 at *
  generalize W8.setCell _ _ = W9 at *
  clear c0 i4 f4 hx5 hx6 Hlen8
  obtain ⟨x5, hx5, _⟩ := dL_at (show 5 < l9.length by rw [Hlen9.out]; omega)
  have i5 := HE9.out.own.cell hx5
  have f5 := HE9.out.own.froz 5
  have hy5 : (5 : Int) < (n : Int) := by omega
  have hy6 : 5 < n := by omega
  have HE10 : Hid (ES w3 (W9.setCell ⟨w3.heap.size + 1, 5, none⟩ (.int .u8 1)) _ _) := HE9.out.set 5 1
  clear HE9 hx5
  go_upto_region 10 with fail
  have he10 : l9.set 5 1 = hdL (M.z 0) ++ zer 4 ++ zer (n - 10) := by
    rw [← hl9, ← hl8, ← hl6, ← hk8]
    exact enc_head (M.z 0) n (by omega) Hn.out.symm
  rw [he10] at HE10
  clear he10 hl9 hl8 hl6 hk8 Hlen9 i5 f5 hy5 hy6
  generalize W9.setCell _ _ = W10 at *
  have c0 : W10.cell? ⟨w3.heap.size, 0, none⟩ = some (.slice (some ⟨gp, 0, none⟩) (js (M.z 0)).length cv) := lay_cell (k := 0) HE10.out.lay rfl
  go_wp2
  have HJF : Hid (∀ j ∈ js (M.z 0), j < 42 ∧ Fit1 M j) := js_fit hv
  have HSZ : Hid (n = 10 + (wS (js (M.z 0)) + 7) / 8 * 8) := by show _ = _; rw [← Hn.out]; exact (size_eq (valid_fit hv).1).1
  go_loopw [9, 41] (fun x9 i wr => ∃ k : Nat, k ≤ (js (M.z 0)).length ∧ i = .int .i64 k ∧ Hid (ES w3 wr #[.slice (some ⟨gp, 0, none⟩) (js (M.z 0)).length cv, .int .i64 (E : Int), .int .i64 (n : Int)] (hdL (M.z 0) ++ zer 4 ++ blkL M ((js (M.z 0)).take k) ++ zer (n - 10 - wS ((js (M.z 0)).take k))))) (fun _ i _ => (js (M.z 0)).length - (RowKit.intOf i).toNat)
  case atStart => exact ⟨0, Nat.zero_le _, rfl, by simpa [blkL, wS] using HE10⟩
  case round =>
    obtain ⟨k, hk, rfl, HS⟩ := hrel
    clear HE10 c0
    by_cases hlt : k < (js (M.z 0)).length
    · as_aux_lemma =>
      have hlt' : (k : Int) < ((js (M.z 0)).length : Int) := by omega
      obtain ⟨j, hj⟩ : ∃ j, (js (M.z 0))[k]? = some j := ⟨_, List.getElem?_eq_getElem hlt⟩
      obtain ⟨p0, p1, p2⟩ := plC_at w.heap.size (js (M.z 0)) 10 k j hj
      have hmem := List.mem_of_getElem? hj
      have hj1 : 1 ≤ j := (mem_js.1 hmem).1
      obtain ⟨hj42, hfit⟩ := HJF.out j hmem
      have hwS := wS_at hj
      have q0 := HO3.out.2.2.1 _ _ p0
      have q1 := HO3.out.2.2.1 _ _ p1
      have q2 := HO3.out.2.2.1 _ _ p2
      have hgl := World.block_lt_of_cell? _ _ q0
      rw [← HS.out.base.cell (p := ⟨gp, k * 3, none⟩) hgl] at q0
      rw [← HS.out.base.cell (p := ⟨gp, k * 3 + 1, none⟩) hgl] at q1
      rw [← HS.out.base.cell (p := ⟨gp, k * 3 + 2, none⟩) hgl] at q2
      have hwd1 : 1 ≤ wd j := wd_pos hj42
      have hbl := blkL_length ((js (M.z 0)).take k) fun i hi => HJF.out i (List.mem_of_mem_take hi)
      have HOf : Hid (∀ w', Calls Tryz.prog 26 #[.agg #[.int .i64 (tNum.getD j 0), fIf j w.heap.size, .int .i64 ((10 + wS ((js (M.z 0)).take k) : Nat) : Int)], .slice (some ⟨w3.heap.size + 1, 0, none⟩) n n] w' fun e w2 => e = .returned (.slice (some ⟨w3.heap.size + 1, 10 + wS ((js (M.z 0)).take k), none⟩) (wd j) (n - (10 + wS ((js (M.z 0)).take k)))) ∧ Below w'.heap.size w' w2) := fun w' => by
        have := of_any j hwd1 hj42 w.heap.size (tNum.getD j 0) (10 + wS ((js (M.z 0)).take k)) (w3.heap.size + 1) 0 n n w' (by have := HSZ.out; omega) (Nat.le_refl _) (by omega)
        rw [Nat.zero_add] at this; exact this
      have HWr : Hid (∀ w', Below wr.heap.size wr w' → Calls Tryz.prog (fWr j) #[fVal j w.heap.size, .slice (some ⟨w3.heap.size + 1, 10 + wS ((js (M.z 0)).take k), none⟩) (wd j) (n - (10 + wS ((js (M.z 0)).take k)))] w' fun e w2 => e = .returned (.tuple #[]) ∧ ES w3 w2 #[.slice (some ⟨gp, 0, none⟩) (js (M.z 0)).length cv, .int .i64 (E : Int), .int .i64 (n : Int)] (hdL (M.z 0) ++ zer 4 ++ blkL M ((js (M.z 0)).take (k + 1)) ++ zer (n - 10 - wS ((js (M.z 0)).take (k + 1)))) ∧ Wrt (w3.heap.size + 1) w' w2) := fun w' hb => by
        have he := HS.out.low hb
        have hm : w'.cell? ⟨w.heap.size, j, none⟩ = some (M.cell j) := by
          rw [he.base.cell (p := ⟨w.heap.size, j, none⟩) HO3.out.1.lt]; exact HO3.out.1.cell j hj42
        refine (write_any M j hj1 hj42 hfit w.heap.size (w3.heap.size + 1) _ _ _ w' hm (by have := HO3.out.1.lt; omega) he.own (by simp only [List.length_append, hdL_length, zer_length, hbl]; have := HSZ.out; omega)).mono ?_
        rintro e w2 ⟨rfl, ho2, hw2⟩
        refine ⟨rfl, he.wrt hw2 ?_, hw2⟩
        have := enc_step (n := n - 10) hj hj42 hfit (hdL (M.z 0) ++ zer 4) (by have := HSZ.out; omega) hbl
        rw [show (hdL (M.z 0) ++ zer 4).length = 10 by rw [List.length_append, hdL_length, zer_length]] at this
        rw [← this]; exact ho2
      have hcf := cfWr j hj42
      have hmt := mWr j hj42 w.heap.size
      have HKL : Hid (k + 1 ≤ (js (M.z 0)).length) := by show _ ≤ _; omega
      have hk41 : k ≤ 41 := by have : (js (M.z 0)).length ≤ 41 := jsU_len _ 41; omega
      have hgw : Hid (w3.heap.size + 1 < wr.heap.size) := HS.out.own.lt
      unfold fIf at q1 HOf
      generalize tNum.getD j 0 = Nm at *
      generalize fTy j = T at *
      generalize fVal j w.heap.size = V at *
      generalize fWr j = F at *
      generalize wd j = W at *
      generalize ha : 10 + wS ((js (M.z 0)).take k) = A at *
      clear hwS hwd1 hbl p0 p1 p2 hfit
      go_upto_region 13 with fail
      generalize hW : wr.alloc _ = W1
      have hb1 : Below wr.heap.size wr W1 := by rw [← hW]; exact (Below.refl _ wr).alloc (Nat.le_refl _) _
      have r0 : W1.cell? ⟨wr.heap.size, 0, none⟩ = some (.int .i64 Nm) := by rw [← hW]; exact World.cell?_alloc_new ..
      have r1 : W1.cell? ⟨wr.heap.size, 1, none⟩ = some (.iface T V) := by rw [← hW]; exact World.cell?_alloc_new ..
      have r2 : W1.cell? ⟨wr.heap.size, 2, none⟩ = some (.int .i64 (A : Int)) := by rw [← hW]; exact World.cell?_alloc_new ..
      have HK : Hid (∀ w', Below W1.heap.size W1 w' → w'.cell? ⟨wr.heap.size, 0, none⟩ = some (.int .i64 Nm) ∧ w'.cell? ⟨wr.heap.size, 1, none⟩ = some (.iface T V) ∧ w'.cell? ⟨wr.heap.size, 2, none⟩ = some (.int .i64 (A : Int))) := fun w' hb => by
        have hlt := World.block_lt_of_cell? _ _ r0
        rw [hb.cell (p := ⟨wr.heap.size, 0, none⟩) hlt, hb.cell (p := ⟨wr.heap.size, 1, none⟩) hlt, hb.cell (p := ⟨wr.heap.size, 2, none⟩) hlt]
        exact ⟨r0, r1, r2⟩
      have HKW : Hid (∀ w8 w9, Below W1.heap.size W1 w8 → Wrt (w3.heap.size + 1) w8 w9 → w9.cell? ⟨wr.heap.size, 0, none⟩ = some (.int .i64 Nm) ∧ w9.cell? ⟨wr.heap.size, 1, none⟩ = some (.iface T V) ∧ w9.cell? ⟨wr.heap.size, 2, none⟩ = some (.int .i64 (A : Int))) := fun w8 w9 hb hw => by
        obtain ⟨s0, s1, s2⟩ := HK.out w8 hb
        have hne : wr.heap.size ≠ w3.heap.size + 1 := by have := hgw.out; omega
        exact ⟨hw.cell s0 hne, hw.cell s1 hne, hw.cell s2 hne⟩
      have HB1 : Hid (Below wr.heap.size wr W1) := hb1
      have hB1 : Below W1.heap.size W1 W1.drew := below_drewN (Below.refl _ _) 1
      clear hW r0 r1 r2 hb1 q0 q1 q2
      go_region_held3 (fun w' => w'.cell? ⟨wr.heap.size, 0, none⟩ = some (.int .i64 Nm) ∧ w'.cell? ⟨wr.heap.size, 1, none⟩ = some (.iface T V) ∧ w'.cell? ⟨wr.heap.size, 2, none⟩ = some (.int .i64 (A : Int))) (first | exact HKW.out _ _ hB8 HW9.out | exact HK.out _ hB8 | exact HK.out _ hB1) (first
        | (go_at_call 26; refine (HOf.out _).mono ?_; rintro e w8 ⟨rfl, hb8⟩; have hB8 : Below W1.heap.size W1 w8 := hB1.trans (hb8.mono hB1.size); clear hb8)
        | (refine (HWr.out _ (HB1.out.trans (hB8.mono HB1.out.size))).mono ?_; rintro e w9 ⟨rfl, he9, hw9⟩; have HE9 : Hid (ES w3 w9 _ _) := he9; have HW9 : Hid (Wrt (w3.heap.size + 1) w8 w9) := hw9; clear he9 hw9))
      all_goals go_wp2
      all_goals exact ⟨⟨k + 1, HKL.out, by go_num, HE9⟩, by simp [RowKit.intOf]; have := HKL.out; omega⟩
    · as_aux_lemma =>
      have hkl : k = (js (M.z 0)).length := by omega
      rw [List.take_of_length_le (by omega)] at HS
      have hlt2 : ¬ (k : Int) < ((js (M.z 0)).length : Int) := by omega
      clear hkl
      have HD := enc_done hv n Hn.out.symm
      have hLn : (hdL (M.z 0) ++ zer 4 ++ blkL M (js (M.z 0)) ++ zer (n - 10 - wS (js (M.z 0)))).length = n := by
        simp only [List.length_append, hdL_length, zer_length, blkL_length _ HJF.out]; have := HSZ.out; omega
      rw [HFr.out] at HD
      generalize hL : hdL (M.z 0) ++ zer 4 ++ blkL M (js (M.z 0)) ++ zer (n - 10 - wS (js (M.z 0))) = L at *
      clear hL
      have hsz := size_eq (valid_fit hv).1
      have hjs := (js_yes (valid_fit hv).1).1
      have hn10 : 10 < n := by
        have := wS_pos hjs fun j hj => (HJF.out j hj).1
        have := HSZ.out
        omega
      have HSm : Hid (∀ w', Below wr.heap.size wr w' → Calls Tryz.prog 27 #[.slice (some ⟨w3.heap.size + 1, 0, none⟩) n n] w' fun e w2 => e = .returned (.int .u64 (crcL (L.take 6 ++ L.drop 10) : Int)) ∧ Below w'.heap.size w' w2) := fun w' hb => sumOf_any (w3.heap.size + 1) 0 n n L w' hLn.symm hn10 (Nat.le_refl _) (by omega) (HS.out.low hb).own.at_
      have hcr := crcL_lt (L.take 6 ++ L.drop 10)
      generalize hR : crcL (L.take 6 ++ L.drop 10) = R at *
      clear hR
      have HP : Hid (∀ w', Calls Tryz.prog 25 #[.slice none 0 0, .int .u64 (R : Int), .int .i64 4] w' fun e w2 => ∃ b cap, e = .returned (.slice (some ⟨b, 0, none⟩) 4 cap) ∧ (∀ j c, (be 4 R)[j]? = some c → w2.cell? ⟨b, 0 + j, none⟩ = some (.int .u8 (c.toNat : Int))) ∧ w'.heap.size ≤ b ∧ Below w'.heap.size w' w2) := fun w' => Put_nil R 4 _ rfl 4 rfl (by decide) (by decide) w' (by omega)
      have HC : Hid (∀ w7 b3 cap3, Below wr.heap.size wr w7 → (∀ j c, (be 4 R)[j]? = some c → w7.cell? ⟨b3, 0 + j, none⟩ = some (.int .u8 (c.toNat : Int))) → (Builtin.copy_ #[22, 22] 3 #[.slice (some ⟨w3.heap.size + 1, 6, none⟩) (n - 6) (n - 6), .slice (some ⟨b3, 0, none⟩) 4 cap3]).run Tryz.prog w7 = .ok (.int .i64 4) (w7.setRow (w3.heap.size + 1) (byteCells FR).toArray)) := fun w7 b3 cap3 hb hc => by
        have := copy_at b3 0 4 cap3 (n - 6) (n - 6) (w3.heap.size + 1) 6 L (be 4 R) w7 (be_length _ _).symm hc (HS.out.low hb).own (by rw [be_length]; omega) (by rw [be_length, hLn]; omega)
        rw [HD] at this
        exact this
      have HF : Hid (∀ w7, Below wr.heap.size wr w7 → OwnL (w7.setRow (w3.heap.size + 1) (byteCells FR).toArray) (w3.heap.size + 1) FR ∧ Below w.heap.size w (w7.setRow (w3.heap.size + 1) (byteCells FR).toArray)) := fun w7 hb =>
        ⟨(HS.out.low hb).own.put _, below_setRow (HO3.out.2.1.trans ((HS.out.low hb).base.mono HO3.out.2.1.size)) (by have := HO3.out.1.lt; omega) _⟩
      have HLF : Hid (FR.length = n) := by show _ = _; rw [HL.out]
      have HG : Hid (w.heap.size ≤ w3.heap.size + 1) := by have := HO3.out.1.lt; show _ ≤ _; omega
      have hx1 : (6 : Int) ≤ (n : Int) := by omega
      have hx2 : ¬ n = 6 := by omega
      have hB1 : Below wr.heap.size wr wr.drew := below_drewN (Below.refl _ _) 1
      clear HD hLn hsz hjs HSZ HJF
      go_upto_region 15 with fail
      go_region_held3 (fun w' => True) (first | trivial) (first
        | (go_at_call 27; refine (HSm.out _ hB1).mono ?_; rintro e w5 ⟨rfl, hb5⟩; have hB5 : Below wr.heap.size wr w5 := hB1.trans (hb5.mono hB1.size); clear hb5)
        | (go_at_call 25; refine (HP.out _).mono ?_; rintro e w7 ⟨b3, cap3, rfl, hc3, hb3, hbl3⟩; have hB7 : Below wr.heap.size wr w7 := hB5.trans (hbl3.mono hB5.size); have hcp := HC.out w7 b3 cap3 hB7 hc3))
      all_goals go_wp2
      all_goals go_ret2
      all_goals exact ⟨_, by rw [HLF.out]; rfl, (HF.out _ hB7).1, HG.out, (HF.out _ hB7).2⟩
end Go.Proofs.YtkpoheknmcepnaaGreatDoor
