/-
  auction, AuctionAll: the walk.
-/
import Derived.Test.YtbhddfcdnpidkaaMG
import Derived.Test.YtbhddfcdnpidkaaMC
import Derived.Test.YtbhddfcdnpidkaaMH
namespace Go.Proofs.Ytbhddfcdnpidkaa
set_option linter.unusedVariables false
set_option linter.unusedSimpArgs false
open Go.RowKit Go.Great
attribute [local irreducible] wpList

/-- A row that lay where the law began lies there still. -/
theorem LS.old {w W : World} {b s : List Od} {gb gs : Nat} (h : LS w W b s gb gs) {l : List Od} {v : Value} {n : Nat} (hr : RowIn w 42 15 v n (flatL (fun o => o.cs.toList) l)) : RowIn W 42 15 v n (flatL (fun o => o.cs.toList) l) := hr.fr (Fr.of_below h.bel (fun _ => False)) fun _ _ => id
theorem fillsF_len (p : Int) : ∀ (k : Nat) (left : Int) (B S : List Wn), (fillsF p k left B S).length ≤ k
  | 0, _, _, _ => Nat.le_refl _
  | _ + 1, _, [], _ => Nat.zero_le _
  | _ + 1, _, _ :: _, [] => Nat.zero_le _
  | k + 1, left, b :: B, s :: S => by
    unfold fillsF
    split
    · have := fillsF_len p k (left - mnF left b s) (lessL (mnF left b s) (b :: B)) (lessL (mnF left b s) (s :: S))
      simp only [List.length_cons]
      omega
    · exact Nat.zero_le _
theorem FV_len {b s : List Od} {r : Rs} {F : List Fl} (h : FV b s r F) : F.length ≤ b.length + s.length := by
  rcases h with ⟨_, rfl⟩ | ⟨_, _, B, S, hR, rfl⟩
  · exact Nat.zero_le _
  · refine Nat.le_trans (fillsF_len _ _ _ _ _) ?_
    have h1 := List.length_filterMap_le wnO b
    have h2 := List.length_filterMap_le wnO s
    have h3 := hR.pb.length_eq
    have h4 := hR.ps.length_eq
    have h5 := (List.takeWhile_prefix (l := B) (atB r.price)).length_le
    have h6 := (List.takeWhile_prefix (l := S) (atS r.price)).length_le
    unfold wns at h3 h4
    omega
theorem build3_run {op : Oper} {a : Act} {k : Int} (x y z : Operand) (ho : op.op = .buildSlice 36 3 #[(0, x), (1, y), (2, z)]) (hx : a.eval x = .agg (flL (mkF k)).toArray) (hy : a.eval y = .agg (flL (mkF k)).toArray) (hz : a.eval z = .agg (flL (mkF k)).toArray) (w : World) : (execOp a.eval op).run Try.prog w = .ok (.value (.slice (some ⟨w.heap.size, 0, none⟩) 3 3)) (w.alloc (.cells (flatL flL (List.replicate 3 (mkF k))).toArray 39)) := by
  unfold flL mkF at *
  dsimp only at *
  unfold execOp
  simp only [ho, List.map_toArray, List.map_cons, List.map_nil, hx, hy, hz]
  kernel_rfl
theorem rep3_one (k : Int) : ∀ u ∈ flatL flL (List.replicate 3 (mkF k)), u.oneCell' = true := fun u hu => by
  have h : (flatL flL (List.replicate 3 (mkF k))).all (fun u => u.oneCell') = true := rfl
  exact List.all_eq_true.1 h u hu
theorem rep_flat {n : Nat} {k : Int} : flatL flL (List.replicate n (mkF k)) ++ flatL flL (List.replicate 3 (mkF k)) = flatL flL (List.replicate (n + 3) (mkF k)) := by
  rw [← flatL_app, List.replicate_append_replicate]
set_option maxRecDepth 100000 in
set_option maxHeartbeats 8000000 in
theorem AuctionAll_walk {w : World} {b s : List Od} {a a' : Option Addr} {c c' : Nat} (hb : RowIn w 42 15 (.slice a b.length c) b.length (flatL (fun o => o.cs.toList) b)) (hbo : ∀ o ∈ b, OdT o) (hbl : b.length ≤ 977343669105) (hs : RowIn w 42 15 (.slice a' s.length c') s.length (flatL (fun o => o.cs.toList) s)) (hso : ∀ o ∈ s, OdT o) (hsl : s.length ≤ 977343669105) (ref price : Int) (raw : Rs) (hq : raw.qty ≤ 9223372036854775807) :
    Calls Try.prog 5 #[.slice a b.length c, .slice a' s.length c', .int .i64 ref, .int .i64 price, .agg raw.cs] w fun e w' => e = .returned (.bool true) ∧ Below w.heap.size w w' := by
  obtain ⟨lb, hlb⟩ : ∃ lb, lb = b.length := ⟨_, rfl⟩
  obtain ⟨ls, hls⟩ : ∃ ls, ls = s.length := ⟨_, rfl⟩
  have HR : Hid ((RowIn w 42 15 (.slice a b.length c) b.length (flatL (fun o => o.cs.toList) b) ∧ (∀ o ∈ b, OdT o) ∧ lb = b.length ∧ b.length ≤ 977343669105) ∧ RowIn w 42 15 (.slice a' s.length c') s.length (flatL (fun o => o.cs.toList) s) ∧ (∀ o ∈ s, OdT o) ∧ ls = s.length ∧ s.length ≤ 977343669105) := ⟨⟨hb, hbo, hlb, hbl⟩, hs, hso, hls, hsl⟩
  have HLN : Hid (lb = b.length ∧ ls = s.length) := ⟨hlb, hls⟩
  rw [← hlb, ← hls]
  clear hb hbo hbl hs hso hsl hlb hls
  have H0 : Hid (Below w.heap.size w (w.alloc (.cells raw.cs 28)) ∧ Blk (w.alloc (.cells raw.cs 28)) w.heap.size 28 raw.cs) := ⟨(Below.refl _ w).alloc (Nat.le_refl _) _, Blk.new _ _ _⟩
  go_enter Try.func5, Try.ntmps5
  go_upto_region 1 with fail
  generalize w.alloc (.cells raw.cs 28) = w1 at *
  obtain ⟨b9, hb9⟩ : ∃ b9, b9 = w.heap.size := ⟨_, rfl⟩
  have H1 : Hid (Below w.heap.size w w1 ∧ Blk w1 b9 28 raw.cs ∧ w.heap.size ≤ b9) := by rw [hb9]; exact ⟨H0.out.1, H0.out.2, Nat.le_refl _⟩
  rw [← hb9]
  clear H0 hb9
  go_upto_region 1 with fail
  rename_i K hK
  refine wp_region_lit ?_
  refine wpList_callW rfl (some 36) rfl 6 #[] (by kernel_rfl) (shown_any w1) ?_
  rintro e w2 ⟨rfl, HB2⟩
  refine ⟨_, rfl, ?_⟩
  simp only [Act.put, List.setIfInBounds_toArray, List.set_cons_zero, List.set_cons_succ]
  refine wpList_runTo rfl (some 11) rfl (.bool true) w2 (by kernel_rfl) ?_
  simp only [Act.put, List.setIfInBounds_toArray, List.set_cons_zero, List.set_cons_succ]
  refine wpList_nil ?_
  refine hK _ _ ?_
  clear hK
  have hc := lent_any (w := w2) (HR.out.1.1.fr (Fr.of_below (below_step H1.out.1 HB2.out) (fun _ => False)) fun _ _ => id) HR.out.1.2.1 HR.out.1.2.2.2
  rw [← HLN.out.1] at hc
  obtain ⟨gb, hgb⟩ : ∃ g, g = w2.heap.size := ⟨_, rfl⟩
  rw [← hgb] at hc
  go_upto_region 2 with fail
  rename_i K hK
  refine wp_region_lit ?_
  refine wpList_runTo rfl (some 37) rfl (.slice a lb c) w2 (by kernel_rfl) ?_
  simp only [Act.put, List.setIfInBounds_toArray, List.set_cons_zero, List.set_cons_succ]
  refine wpList_callW rfl (some 38) rfl 17 #[.slice a lb c] (by kernel_rfl) hc ?_
  rintro e w3 ⟨rfl, HLgb⟩
  refine ⟨_, rfl, ?_⟩
  simp only [Act.put, List.setIfInBounds_toArray, List.set_cons_zero, List.set_cons_succ]
  clear hc
  refine wpList_runTo rfl (some 12) rfl (.slice (some ⟨gb, 0, none⟩) (lb + 8) (lb + 8)) w3 (by kernel_rfl) ?_
  simp only [Act.put, List.setIfInBounds_toArray, List.set_cons_zero, List.set_cons_succ]
  refine wpList_nil ?_
  refine hK _ _ ?_
  clear hK
  have HB3 : Hid (Below w.heap.size w w3) := below_step (below_step H1.out.1 HB2.out) (by have := HLgb.out.2; rwa [hgb] at this)
  have hc := lent_any (w := w3) (HR.out.2.1.fr (Fr.of_below (HB3.out) (fun _ => False)) fun _ _ => id) HR.out.2.2.1 HR.out.2.2.2.2
  rw [← HLN.out.2] at hc
  obtain ⟨gs, hgs⟩ : ∃ g, g = w3.heap.size := ⟨_, rfl⟩
  rw [← hgs] at hc
  go_upto_region 3 with fail
  rename_i K hK
  refine wp_region_lit ?_
  refine wpList_runTo rfl (some 39) rfl (.slice a' ls c') w3 (by kernel_rfl) ?_
  simp only [Act.put, List.setIfInBounds_toArray, List.set_cons_zero, List.set_cons_succ]
  refine wpList_callW rfl (some 40) rfl 17 #[.slice a' ls c'] (by kernel_rfl) hc ?_
  rintro e w4 ⟨rfl, HLgs⟩
  refine ⟨_, rfl, ?_⟩
  simp only [Act.put, List.setIfInBounds_toArray, List.set_cons_zero, List.set_cons_succ]
  clear hc
  refine wpList_runTo rfl (some 13) rfl (.slice (some ⟨gs, 0, none⟩) (ls + 8) (ls + 8)) w4 (by kernel_rfl) ?_
  simp only [Act.put, List.setIfInBounds_toArray, List.set_cons_zero, List.set_cons_succ]
  refine wpList_nil ?_
  refine hK _ _ ?_
  clear hK
  have HLS : Hid (LS w w4 b s gb gs ∧ Blk w4 b9 28 raw.cs ∧ w.heap.size ≤ b9 ∧ gb ≠ gs ∧ b9 ≠ gb ∧ b9 ≠ gs ∧ b9 < gb ∧ gb < gs) := by
    have k1 := below_step H1.out.1 HB2.out
    have k4 : Below w3.heap.size w3 w4 := by have := HLgs.out.2; rwa [hgs] at this
    have q1 := Blk.lt HLgb.out.1
    have q2 := H1.out.2.1.lt
    have q3 := HB2.out.size
    have kb : Blk w2 b9 28 raw.cs := H1.out.2.1.below HB2.out q2
    have k3 : Below w2.heap.size w2 w3 := by have := HLgb.out.2; rwa [hgb] at this
    have kb3 := kb.below k3 kb.lt
    have s1 := k1.size
    have s3 := HB3.out.size
    refine ⟨⟨below_step HB3.out k4, Blk.below HLgb.out.1 k4 q1, HLgs.out.1, by omega, by omega⟩, kb3.below k4 kb3.lt, H1.out.2.2, by omega, by omega, by omega, by omega, by omega⟩
  clear HB3 HLgb HLgs HB2 H1 hgb hgs
  go_upto_region 4 with fail
  rename_i K hK
  refine wp_region_lit ?_
  refine wpList_runTo rfl (some 41) rfl (.slice (some ⟨gb, 0, none⟩) (lb + 8) (lb + 8)) w4 (by kernel_rfl) ?_
  simp only [Act.put, List.setIfInBounds_toArray, List.set_cons_zero, List.set_cons_succ]
  refine wpList_runTo rfl (some 42) rfl (.slice a lb c) w4 (by kernel_rfl) ?_
  simp only [Act.put, List.setIfInBounds_toArray, List.set_cons_zero, List.set_cons_succ]
  refine wpList_runTo rfl (some 43) rfl (.int .i64 (lb : Int)) w4 (by exact lenO_run (v := .slice a lb c) (ao := a) (n := lb) (c := c) rfl (.tmp 42) rfl (by kernel_rfl) _) ?_
  simp only [Act.put, List.setIfInBounds_toArray, List.set_cons_zero, List.set_cons_succ]
  refine wpList_runTo rfl (some 44) rfl (.slice (some ⟨gb, 0, none⟩) lb (lb + 8)) w4 (by exact cutO_run (lg := gb) (lo := 0) (n := lb + 8) (k := lb) (.tmp 41) (.tmp 43) rfl (by kernel_rfl) (by kernel_rfl) (by omega) _) ?_
  simp only [Act.put, List.setIfInBounds_toArray, List.set_cons_zero, List.set_cons_succ]
  refine wpList_runTo rfl (some 14) rfl (.slice (some ⟨gb, 0, none⟩) lb (lb + 8)) w4 (by kernel_rfl) ?_
  simp only [Act.put, List.setIfInBounds_toArray, List.set_cons_zero, List.set_cons_succ]
  refine wpList_nil ?_
  refine hK _ _ ?_
  clear hK
  go_upto_region 5 with fail
  rename_i K hK
  refine wp_region_lit ?_
  refine wpList_runTo rfl (some 45) rfl (.slice (some ⟨gs, 0, none⟩) (ls + 8) (ls + 8)) w4 (by kernel_rfl) ?_
  simp only [Act.put, List.setIfInBounds_toArray, List.set_cons_zero, List.set_cons_succ]
  refine wpList_runTo rfl (some 46) rfl (.slice a' ls c') w4 (by kernel_rfl) ?_
  simp only [Act.put, List.setIfInBounds_toArray, List.set_cons_zero, List.set_cons_succ]
  refine wpList_runTo rfl (some 47) rfl (.int .i64 (ls : Int)) w4 (by exact lenO_run (v := .slice a' ls c') (ao := a') (n := ls) (c := c') rfl (.tmp 46) rfl (by kernel_rfl) _) ?_
  simp only [Act.put, List.setIfInBounds_toArray, List.set_cons_zero, List.set_cons_succ]
  refine wpList_runTo rfl (some 48) rfl (.slice (some ⟨gs, 0, none⟩) ls (ls + 8)) w4 (by exact cutO_run (lg := gs) (lo := 0) (n := ls + 8) (k := ls) (.tmp 45) (.tmp 47) rfl (by kernel_rfl) (by kernel_rfl) (by omega) _) ?_
  simp only [Act.put, List.setIfInBounds_toArray, List.set_cons_zero, List.set_cons_succ]
  refine wpList_runTo rfl (some 15) rfl (.slice (some ⟨gs, 0, none⟩) ls (ls + 8)) w4 (by kernel_rfl) ?_
  simp only [Act.put, List.setIfInBounds_toArray, List.set_cons_zero, List.set_cons_succ]
  refine wpList_nil ?_
  refine hK _ _ ?_
  clear hK
  have hin : ∀ {W : World}, LS w W b s gb gs → RowAt W 42 15 (.slice (some ⟨gb, 0, none⟩) lb (lb + 8)) lb (flatL (fun o => o.cs.toList) b) ∧ RowAt W 42 15 (.slice (some ⟨gs, 0, none⟩) ls (ls + 8)) ls (flatL (fun o => o.cs.toList) s) := fun {W} h => by
    have l1 := HR.out.1.2.2.2
    have l2 := HR.out.2.2.2.2
    rw [HLN.out.1, HLN.out.2]
    exact ⟨h.ob.rowIn HR.out.1.2.1 (by unfold maxLen; omega), h.os.rowIn HR.out.2.2.1 (by unfold maxLen; omega)⟩
  have HIN : Hid (∀ {W : World}, LS w W b s gb gs → RowAt W 42 15 (.slice (some ⟨gb, 0, none⟩) b.length (lb + 8)) b.length (flatL (fun o => o.cs.toList) b) ∧ RowAt W 42 15 (.slice (some ⟨gs, 0, none⟩) s.length (ls + 8)) s.length (flatL (fun o => o.cs.toList) s)) := fun {W} h => by
    have := hin h
    rw [HLN.out.1, HLN.out.2] at this ⊢
    exact this
  clear hin
  have HB : Hid ((∀ o ∈ b, o.ok) ∧ (∀ o ∈ s, o.ok) ∧ b.length ≤ 977343669105 ∧ s.length ≤ 977343669105) := ⟨ok_of HR.out.1.2.1, ok_of HR.out.2.2.1, HR.out.1.2.2.2, HR.out.2.2.2.2⟩
  have hc := Price_any (w := w4) (HIN.out HLS.out.1).1 HB.out.1 (by have := HB.out.2.2.1; omega) (HIN.out HLS.out.1).2 HB.out.2.1 (by have := HB.out.2.2.2; omega) ref
  rw [← HLN.out.1, ← HLN.out.2] at hc
  go_upto_region 6 with fail
  rename_i K hK
  refine wp_region_lit ?_
  refine wpList_runTo rfl (some 49) rfl (.slice (some ⟨gb, 0, none⟩) lb (lb + 8)) w4 (by kernel_rfl) ?_
  simp only [Act.put, List.setIfInBounds_toArray, List.set_cons_zero, List.set_cons_succ]
  refine wpList_runTo rfl (some 50) rfl (.slice (some ⟨gs, 0, none⟩) ls (ls + 8)) w4 (by kernel_rfl) ?_
  simp only [Act.put, List.setIfInBounds_toArray, List.set_cons_zero, List.set_cons_succ]
  refine wpList_runTo rfl (some 51) rfl (.int .i64 ref) w4 (by kernel_rfl) ?_
  simp only [Act.put, List.setIfInBounds_toArray, List.set_cons_zero, List.set_cons_succ]
  refine wpList_callW rfl (some 52) rfl 9 #[.slice (some ⟨gb, 0, none⟩) lb (lb + 8), .slice (some ⟨gs, 0, none⟩) ls (ls + 8), .int .i64 ref] (by kernel_rfl) hc ?_
  rintro e w5 ⟨r, rfl, HP⟩
  refine ⟨_, rfl, ?_⟩
  simp only [Act.put, List.setIfInBounds_toArray, List.set_cons_zero, List.set_cons_succ]
  clear hc
  refine wpList_runTo rfl (some 16) rfl (.pointer (some ⟨w5.heap.size, 0, none⟩)) (w5.alloc (.cells #[.int .i64 0, .int .i64 0, .int .i64 0, .int .i64 0] 28)) (by kernel_rfl) ?_
  simp only [Act.put, List.setIfInBounds_toArray, List.set_cons_zero, List.set_cons_succ]
  refine wpList_plain rfl fun K1 hK1 => ?_
  refine wp_store_row 28 (.tmp 16) (.tmp 52) rfl w5.heap.size r.cs (by kernel_rfl) (by kernel_rfl) 28 #[.int .i64 0, .int .i64 0, .int .i64 0, .int .i64 0] (heap_alloc_new w5 _) infoRs rfl (by simp [Rs.cs, Value.oneCell']) ?_
  rw [World.setRow_alloc_new]
  refine hK1 _ _ ?_
  clear hK1
  obtain ⟨b16, hb16⟩ : ∃ g, g = w5.heap.size := ⟨_, rfl⟩
  rw [← hb16]
  have halb16 : Below w5.heap.size w5 (w5.alloc (.cells r.cs 28)) := (Below.refl _ w5).alloc (Nat.le_refl _) _
  have hbkb16 : Blk (w5.alloc (.cells r.cs 28)) b16 28 r.cs := by rw [hb16]; exact Blk.new _ _ _
  generalize w5.alloc (.cells r.cs 28) = w6 at *
  refine wpList_nil ?_
  refine hK _ _ ?_
  clear hK
  have HLS6 : Hid (LS w w6 b s gb gs ∧ Blk w6 b9 28 raw.cs ∧ w.heap.size ≤ b9 ∧ gb ≠ gs ∧ b9 ≠ gb ∧ b9 ≠ gs ∧ b9 < gb ∧ gb < gs ∧ Blk w6 b16 28 r.cs ∧ gs < b16) := by
    have k5 := HP.out.1
    have k6 := below_step k5 halb16
    have q := Blk.lt HLS.out.1.os
    have s5 := k5.size
    refine ⟨HLS.out.1.below k6, HLS.out.2.1.below k6 HLS.out.2.1.lt, HLS.out.2.2.1, HLS.out.2.2.2.1, HLS.out.2.2.2.2.1, HLS.out.2.2.2.2.2.1, HLS.out.2.2.2.2.2.2.1, HLS.out.2.2.2.2.2.2.2, hbkb16, by omega⟩
  have HPr : Hid (∃ B S, Rws b s B S ∧ r = resOf (refN ref) (ptsOf B S (cndL (gat (refN ref) B S 2)))) := HP.out.2
  clear HLS HP hbkb16 halb16 hb16
  have hc := refPrice_any (w := w6) (HLS6.out.1.old HR.out.1.1) HR.out.1.2.1 HB.out.2.2.1 (HLS6.out.1.old HR.out.2.1) HR.out.2.2.1 HB.out.2.2.2 ref
  rw [← HLN.out.1, ← HLN.out.2] at hc
  go_upto_region 7 with fail
  rename_i K hK
  refine wp_region_lit ?_
  refine wpList_runTo rfl (some 53) rfl (.slice a lb c) w6 (by kernel_rfl) ?_
  simp only [Act.put, List.setIfInBounds_toArray, List.set_cons_zero, List.set_cons_succ]
  refine wpList_runTo rfl (some 54) rfl (.slice a' ls c') w6 (by kernel_rfl) ?_
  simp only [Act.put, List.setIfInBounds_toArray, List.set_cons_zero, List.set_cons_succ]
  refine wpList_runTo rfl (some 55) rfl (.int .i64 ref) w6 (by kernel_rfl) ?_
  simp only [Act.put, List.setIfInBounds_toArray, List.set_cons_zero, List.set_cons_succ]
  refine wpList_callW rfl (some 56) rfl 18 #[.slice a lb c, .slice a' ls c', .int .i64 ref] (by kernel_rfl) hc ?_
  rintro e w7 ⟨r2, rfl, HP⟩
  refine ⟨_, rfl, ?_⟩
  simp only [Act.put, List.setIfInBounds_toArray, List.set_cons_zero, List.set_cons_succ]
  clear hc
  obtain rfl : r2 = r := by
    obtain ⟨B, S, hR, e⟩ := HPr.out
    rw [e]
    exact HP.out.2 B S _ hR.pb hR.ps (hR.cnd _)
  refine wpList_runTo rfl (some 17) rfl (.pointer (some ⟨w7.heap.size, 0, none⟩)) (w7.alloc (.cells #[.int .i64 0, .int .i64 0, .int .i64 0, .int .i64 0] 46)) (by kernel_rfl) ?_
  simp only [Act.put, List.setIfInBounds_toArray, List.set_cons_zero, List.set_cons_succ]
  refine wpList_plain rfl fun K1 hK1 => ?_
  refine wp_store_row 46 (.tmp 17) (.tmp 56) rfl w7.heap.size r2.cs (by kernel_rfl) (by kernel_rfl) 46 #[.int .i64 0, .int .i64 0, .int .i64 0, .int .i64 0] (heap_alloc_new w7 _) infoR46 rfl (by simp [Rs.cs, Value.oneCell']) ?_
  rw [World.setRow_alloc_new]
  refine hK1 _ _ ?_
  clear hK1
  obtain ⟨b17, hb17⟩ : ∃ g, g = w7.heap.size := ⟨_, rfl⟩
  rw [← hb17]
  have halb17 : Below w7.heap.size w7 (w7.alloc (.cells r2.cs 46)) := (Below.refl _ w7).alloc (Nat.le_refl _) _
  have hbkb17 : Blk (w7.alloc (.cells r2.cs 46)) b17 46 r2.cs := by rw [hb17]; exact Blk.new _ _ _
  generalize w7.alloc (.cells r2.cs 46) = w8 at *
  refine wpList_nil ?_
  refine hK _ _ ?_
  clear hK
  have HLS8 : Hid (LS w w8 b s gb gs ∧ Blk w8 b9 28 raw.cs ∧ w.heap.size ≤ b9 ∧ gb ≠ gs ∧ b9 ≠ gb ∧ b9 ≠ gs ∧ b9 < gb ∧ gb < gs ∧ Blk w8 b16 28 r2.cs ∧ gs < b16 ∧ Blk w8 b17 46 r2.cs ∧ b16 < b17) := by
    have k5 := HP.out.1
    have k6 := below_step k5 halb17
    have q := HLS6.out.2.2.2.2.2.2.2.2.1.lt
    have s5 := k5.size
    have h := HLS6.out
    exact ⟨h.1.below k6, h.2.1.below k6 h.2.1.lt, h.2.2.1, h.2.2.2.1, h.2.2.2.2.1, h.2.2.2.2.2.1, h.2.2.2.2.2.2.1, h.2.2.2.2.2.2.2.1, h.2.2.2.2.2.2.2.2.1.below k6 q, h.2.2.2.2.2.2.2.2.2, hbkb17, by omega⟩
  clear HLS6 HP hbkb17 halb17 hb17
  have hc := Curve_any (w := w8) (HIN.out HLS8.out.1).1 HB.out.1 (by have := HB.out.2.2.1; omega) (HIN.out HLS8.out.1).2 HB.out.2.1 (by have := HB.out.2.2.2; omega) price
  rw [← HLN.out.1, ← HLN.out.2] at hc
  obtain ⟨xb, hxb⟩ : ∃ x, x = bo (wns b) price := ⟨_, rfl⟩
  obtain ⟨xs, hxs⟩ : ∃ x, x = so (wns s) price := ⟨_, rfl⟩
  have HX : Hid (xb = bo (wns b) price ∧ xs = so (wns s) price) := ⟨hxb, hxs⟩
  rw [← hxb, ← hxs] at hc
  clear hxb hxs
  go_upto_region 8 with fail
  rename_i K hK
  refine wp_region_lit ?_
  refine wpList_runTo rfl (some 58) rfl (.slice (some ⟨gb, 0, none⟩) lb (lb + 8)) w8 (by kernel_rfl) ?_
  simp only [Act.put, List.setIfInBounds_toArray, List.set_cons_zero, List.set_cons_succ]
  refine wpList_runTo rfl (some 59) rfl (.slice (some ⟨gs, 0, none⟩) ls (ls + 8)) w8 (by kernel_rfl) ?_
  simp only [Act.put, List.setIfInBounds_toArray, List.set_cons_zero, List.set_cons_succ]
  refine wpList_runTo rfl (some 60) rfl (.int .i64 price) w8 (by kernel_rfl) ?_
  simp only [Act.put, List.setIfInBounds_toArray, List.set_cons_zero, List.set_cons_succ]
  refine wpList_callW rfl (some 61) rfl 10 #[.slice (some ⟨gb, 0, none⟩) lb (lb + 8), .slice (some ⟨gs, 0, none⟩) ls (ls + 8), .int .i64 price] (by kernel_rfl) hc ?_
  rintro e w9 ⟨rfl, HC⟩
  refine ⟨_, rfl, ?_⟩
  simp only [Act.put, List.setIfInBounds_toArray, List.set_cons_zero, List.set_cons_succ]
  clear hc
  refine wpList_runTo rfl (some 57) rfl (.tuple #[.int .i64 xb, .int .i64 xs]) w9 (by kernel_rfl) ?_
  simp only [Act.put, List.setIfInBounds_toArray, List.set_cons_zero, List.set_cons_succ]
  refine wpList_runTo rfl (some 62) rfl (.int .i64 xb) w9 (by kernel_rfl) ?_
  simp only [Act.put, List.setIfInBounds_toArray, List.set_cons_zero, List.set_cons_succ]
  refine wpList_runTo rfl (some 63) rfl (.int .i64 xs) w9 (by kernel_rfl) ?_
  simp only [Act.put, List.setIfInBounds_toArray, List.set_cons_zero, List.set_cons_succ]
  refine wpList_runTo rfl (some 18) rfl (.int .i64 xb) w9 (by kernel_rfl) ?_
  simp only [Act.put, List.setIfInBounds_toArray, List.set_cons_zero, List.set_cons_succ]
  refine wpList_runTo rfl (some 19) rfl (.int .i64 xs) w9 (by kernel_rfl) ?_
  simp only [Act.put, List.setIfInBounds_toArray, List.set_cons_zero, List.set_cons_succ]
  refine wpList_nil ?_
  refine hK _ _ ?_
  clear hK
  have HLS9 : Hid (LS w w9 b s gb gs ∧ Blk w9 b9 28 raw.cs ∧ w.heap.size ≤ b9 ∧ gb ≠ gs ∧ b9 ≠ gb ∧ b9 ≠ gs ∧ b9 < gb ∧ gb < gs ∧ Blk w9 b16 28 r2.cs ∧ gs < b16 ∧ Blk w9 b17 46 r2.cs ∧ b16 < b17) := by
    have h := HLS8.out
    have k := HC.out
    exact ⟨h.1.below k, h.2.1.below k h.2.1.lt, h.2.2.1, h.2.2.2.1, h.2.2.2.2.1, h.2.2.2.2.2.1, h.2.2.2.2.2.2.1, h.2.2.2.2.2.2.2.1, h.2.2.2.2.2.2.2.2.1.below k h.2.2.2.2.2.2.2.2.1.lt, h.2.2.2.2.2.2.2.2.2.1, h.2.2.2.2.2.2.2.2.2.2.1.below k h.2.2.2.2.2.2.2.2.2.2.1.lt, h.2.2.2.2.2.2.2.2.2.2.2⟩
  clear HLS8 HC
  have hc := refCurve_any (w := w9) (HLS9.out.1.old HR.out.1.1) HR.out.1.2.1 HB.out.2.2.1 (HLS9.out.1.old HR.out.2.1) HR.out.2.2.1 HB.out.2.2.2 price
  rw [← HLN.out.1, ← HLN.out.2, ← HX.out.1, ← HX.out.2] at hc
  go_upto_region 9 with fail
  rename_i K hK
  refine wp_region_lit ?_
  refine wpList_runTo rfl (some 65) rfl (.slice a lb c) w9 (by kernel_rfl) ?_
  simp only [Act.put, List.setIfInBounds_toArray, List.set_cons_zero, List.set_cons_succ]
  refine wpList_runTo rfl (some 66) rfl (.slice a' ls c') w9 (by kernel_rfl) ?_
  simp only [Act.put, List.setIfInBounds_toArray, List.set_cons_zero, List.set_cons_succ]
  refine wpList_runTo rfl (some 67) rfl (.int .i64 price) w9 (by kernel_rfl) ?_
  simp only [Act.put, List.setIfInBounds_toArray, List.set_cons_zero, List.set_cons_succ]
  refine wpList_callW rfl (some 68) rfl 19 #[.slice a lb c, .slice a' ls c', .int .i64 price] (by kernel_rfl) hc ?_
  rintro e w10 ⟨rfl, HC⟩
  refine ⟨_, rfl, ?_⟩
  simp only [Act.put, List.setIfInBounds_toArray, List.set_cons_zero, List.set_cons_succ]
  clear hc
  refine wpList_runTo rfl (some 64) rfl (.tuple #[.int .i64 xb, .int .i64 xs]) w10 (by kernel_rfl) ?_
  simp only [Act.put, List.setIfInBounds_toArray, List.set_cons_zero, List.set_cons_succ]
  refine wpList_runTo rfl (some 69) rfl (.int .i64 xb) w10 (by kernel_rfl) ?_
  simp only [Act.put, List.setIfInBounds_toArray, List.set_cons_zero, List.set_cons_succ]
  refine wpList_runTo rfl (some 70) rfl (.int .i64 xs) w10 (by kernel_rfl) ?_
  simp only [Act.put, List.setIfInBounds_toArray, List.set_cons_zero, List.set_cons_succ]
  refine wpList_runTo rfl (some 20) rfl (.int .i64 xb) w10 (by kernel_rfl) ?_
  simp only [Act.put, List.setIfInBounds_toArray, List.set_cons_zero, List.set_cons_succ]
  refine wpList_runTo rfl (some 21) rfl (.int .i64 xs) w10 (by kernel_rfl) ?_
  simp only [Act.put, List.setIfInBounds_toArray, List.set_cons_zero, List.set_cons_succ]
  refine wpList_nil ?_
  refine hK _ _ ?_
  clear hK
  have HLS10 : Hid (LS w w10 b s gb gs ∧ Blk w10 b9 28 raw.cs ∧ w.heap.size ≤ b9 ∧ gb ≠ gs ∧ b9 ≠ gb ∧ b9 ≠ gs ∧ b9 < gb ∧ gb < gs ∧ Blk w10 b16 28 r2.cs ∧ gs < b16 ∧ Blk w10 b17 46 r2.cs ∧ b16 < b17) := by
    have h := HLS9.out
    have k := HC.out
    exact ⟨h.1.below k, h.2.1.below k h.2.1.lt, h.2.2.1, h.2.2.2.1, h.2.2.2.2.1, h.2.2.2.2.2.1, h.2.2.2.2.2.2.1, h.2.2.2.2.2.2.2.1, h.2.2.2.2.2.2.2.2.1.below k h.2.2.2.2.2.2.2.2.1.lt, h.2.2.2.2.2.2.2.2.2.1, h.2.2.2.2.2.2.2.2.2.2.1.below k h.2.2.2.2.2.2.2.2.2.2.1.lt, h.2.2.2.2.2.2.2.2.2.2.2⟩
  clear HLS9 HC
  go_upto_region 10 with fail
  rename_i K hK
  refine wp_region_lit ?_
  refine wpList_runTo rfl (some 71) rfl (.bool true) w10 (by kernel_rfl) ?_
  simp only [Act.put, List.setIfInBounds_toArray, List.set_cons_zero, List.set_cons_succ]
  refine wpList_runTo rfl (some 72) rfl (.bool (!true)) w10 (by exact not_run (.tmp 71) rfl (by kernel_rfl) _) ?_
  simp only [Act.put, List.setIfInBounds_toArray, List.set_cons_zero, List.set_cons_succ]
  refine wpList_runTo rfl (some 73) rfl (.bool false) w10 (by kernel_rfl) ?_
  simp only [Act.put, List.setIfInBounds_toArray, List.set_cons_zero, List.set_cons_succ]
  refine wpList_runToG (by kernel_rfl) (some 74) rfl (.agg r2.cs) w10 (by exact ldA_run (blk_range HLS10.out.2.2.2.2.2.2.2.2.1) Try.underlying28 rfl infoRs (.tmp 16) rfl (by kernel_rfl)) ?_
  simp only [Act.put, List.setIfInBounds_toArray, List.set_cons_zero, List.set_cons_succ]
  refine wpList_runToG (by kernel_rfl) (some 75) rfl (.agg r2.cs) w10 (by exact ldA_run (blk_range HLS10.out.2.2.2.2.2.2.2.2.2.2.1) Try.underlying46 rfl infoR46 (.tmp 17) rfl (by kernel_rfl)) ?_
  simp only [Act.put, List.setIfInBounds_toArray, List.set_cons_zero, List.set_cons_succ]
  refine wpList_runToG (by kernel_rfl) (some 76) rfl (.bool false) w10 (by exact neRs_run r2 (.tmp 74) (.tmp 75) rfl (by kernel_rfl) (by kernel_rfl) _) ?_
  simp only [Act.put, List.setIfInBounds_toArray, List.set_cons_zero, List.set_cons_succ]
  refine wpList_runTo rfl (some 77) rfl (.bool false) w10 (by exact pickN_run (.tmp 73) (.tmp 76) rfl (by kernel_rfl) (by kernel_rfl) _) ?_
  simp only [Act.put, List.setIfInBounds_toArray, List.set_cons_zero, List.set_cons_succ]
  refine wpList_runTo rfl (some 78) rfl (.bool false) w10 (by kernel_rfl) ?_
  simp only [Act.put, List.setIfInBounds_toArray, List.set_cons_zero, List.set_cons_succ]
  refine wpList_runToG (by kernel_rfl) (some 79) rfl (.int .i64 xb) w10 (by kernel_rfl) ?_
  simp only [Act.put, List.setIfInBounds_toArray, List.set_cons_zero, List.set_cons_succ]
  refine wpList_runToG (by kernel_rfl) (some 80) rfl (.int .i64 xb) w10 (by kernel_rfl) ?_
  simp only [Act.put, List.setIfInBounds_toArray, List.set_cons_zero, List.set_cons_succ]
  refine wpList_runToG (by kernel_rfl) (some 81) rfl (.bool false) w10 (by exact neV_run (.inl rfl) (p := xb) (q := xb) (.tmp 79) (.tmp 80) rfl (by kernel_rfl) (by kernel_rfl) (decide_eq_false (fun h => h rfl)) _) ?_
  simp only [Act.put, List.setIfInBounds_toArray, List.set_cons_zero, List.set_cons_succ]
  refine wpList_runTo rfl (some 82) rfl (.bool false) w10 (by exact pickN_run (.tmp 78) (.tmp 81) rfl (by kernel_rfl) (by kernel_rfl) _) ?_
  simp only [Act.put, List.setIfInBounds_toArray, List.set_cons_zero, List.set_cons_succ]
  refine wpList_runTo rfl (some 83) rfl (.bool false) w10 (by kernel_rfl) ?_
  simp only [Act.put, List.setIfInBounds_toArray, List.set_cons_zero, List.set_cons_succ]
  refine wpList_runToG (by kernel_rfl) (some 84) rfl (.int .i64 xs) w10 (by kernel_rfl) ?_
  simp only [Act.put, List.setIfInBounds_toArray, List.set_cons_zero, List.set_cons_succ]
  refine wpList_runToG (by kernel_rfl) (some 85) rfl (.int .i64 xs) w10 (by kernel_rfl) ?_
  simp only [Act.put, List.setIfInBounds_toArray, List.set_cons_zero, List.set_cons_succ]
  refine wpList_runToG (by kernel_rfl) (some 86) rfl (.bool false) w10 (by exact neV_run (.inl rfl) (p := xs) (q := xs) (.tmp 84) (.tmp 85) rfl (by kernel_rfl) (by kernel_rfl) (decide_eq_false (fun h => h rfl)) _) ?_
  simp only [Act.put, List.setIfInBounds_toArray, List.set_cons_zero, List.set_cons_succ]
  refine wpList_runTo rfl (some 87) rfl (.bool false) w10 (by exact pickN_run (.tmp 83) (.tmp 86) rfl (by kernel_rfl) (by kernel_rfl) _) ?_
  simp only [Act.put, List.setIfInBounds_toArray, List.set_cons_zero, List.set_cons_succ]
  refine wpList_nil ?_
  refine hK _ _ ?_
  clear hK
  have HQ : Hid (r2.qty ≤ 9223372036854775807 ∧ raw.qty ≤ 9223372036854775807) := by
    refine ⟨?_, hq⟩
    obtain ⟨B, S, hR, e⟩ := HPr.out
    have h1 := List.length_filterMap_le wnO b
    have h2 := List.length_filterMap_le wnO s
    have h3 := hR.pb.length_eq
    have h4 := hR.ps.length_eq
    have h5 := HB.out.2.2.1
    have h6 := HB.out.2.2.2
    unfold wns at h3 h4
    exact (res_bd hR (by omega) (by omega) (refN_bd ref) e).1.2
  clear HX hq
  have hc := Fills_any (w := w10) (HIN.out HLS10.out.1).1 HB.out.1 (by have := HB.out.2.2.1; omega) (HIN.out HLS10.out.1).2 HB.out.2.1 (by have := HB.out.2.2.2; omega) r2 HQ.out.1
  rw [← HLN.out.1, ← HLN.out.2] at hc
  go_upto_region 12 with fail
  rename_i K hK
  refine wp_region_lit ?_
  refine wpList_runTo rfl (some 88) rfl (.slice (some ⟨gb, 0, none⟩) lb (lb + 8)) w10 (by kernel_rfl) ?_
  simp only [Act.put, List.setIfInBounds_toArray, List.set_cons_zero, List.set_cons_succ]
  refine wpList_runTo rfl (some 89) rfl (.slice (some ⟨gs, 0, none⟩) ls (ls + 8)) w10 (by kernel_rfl) ?_
  simp only [Act.put, List.setIfInBounds_toArray, List.set_cons_zero, List.set_cons_succ]
  refine wpList_runTo rfl (some 90) rfl (.agg r2.cs) w10 (by exact ldA_run (blk_range HLS10.out.2.2.2.2.2.2.2.2.1) Try.underlying28 rfl infoRs (.tmp 16) rfl (by kernel_rfl)) ?_
  simp only [Act.put, List.setIfInBounds_toArray, List.set_cons_zero, List.set_cons_succ]
  refine wpList_callW rfl (some 91) rfl 14 #[.slice (some ⟨gb, 0, none⟩) lb (lb + 8), .slice (some ⟨gs, 0, none⟩) ls (ls + 8), .agg r2.cs] (by kernel_rfl) hc ?_
  rintro e w11 ⟨vl, rfl, HC⟩
  refine ⟨_, rfl, ?_⟩
  simp only [Act.put, List.setIfInBounds_toArray, List.set_cons_zero, List.set_cons_succ]
  clear hc
  refine wpList_runTo rfl (some 22) rfl (vl) w11 (by kernel_rfl) ?_
  simp only [Act.put, List.setIfInBounds_toArray, List.set_cons_zero, List.set_cons_succ]
  refine wpList_nil ?_
  refine hK _ _ ?_
  clear hK
  obtain ⟨Fl, hfl⟩ := HC.out
  have HFl : Hid (RowAt w11 39 5 vl Fl.length (flatL flL Fl) ∧ Below w10.heap.size w10 w11 ∧ (∀ q, vl.ownBlock = some q → w10.heap.size ≤ q) ∧ FV b s r2 Fl ∧ Fl.length ≤ 2000000000000) := ⟨hfl.1.row, hfl.1.bel, hfl.1.own, hfl.2, by have := FV_len hfl.2; have := HB.out; omega⟩
  clear hfl HC
  have HLS11 : Hid (LS w w11 b s gb gs ∧ Blk w11 b9 28 raw.cs ∧ w.heap.size ≤ b9 ∧ gb ≠ gs ∧ b9 ≠ gb ∧ b9 ≠ gs ∧ b9 < gb ∧ gb < gs ∧ Blk w11 b16 28 r2.cs ∧ gs < b16 ∧ Blk w11 b17 46 r2.cs ∧ b16 < b17) := by
    have h := HLS10.out
    have k := HFl.out.2.1
    exact ⟨h.1.below k, h.2.1.below k h.2.1.lt, h.2.2.1, h.2.2.2.1, h.2.2.2.2.1, h.2.2.2.2.2.1, h.2.2.2.2.2.2.1, h.2.2.2.2.2.2.2.1, h.2.2.2.2.2.2.2.2.1.below k h.2.2.2.2.2.2.2.2.1.lt, h.2.2.2.2.2.2.2.2.2.1, h.2.2.2.2.2.2.2.2.2.2.1.below k h.2.2.2.2.2.2.2.2.2.2.1.lt, h.2.2.2.2.2.2.2.2.2.2.2⟩
  have hc := Fills_any (w := w11) (HIN.out HLS11.out.1).1 HB.out.1 (by have := HB.out.2.2.1; omega) (HIN.out HLS11.out.1).2 HB.out.2.1 (by have := HB.out.2.2.2; omega) raw HQ.out.2
  rw [← HLN.out.1, ← HLN.out.2] at hc
  go_upto_region 13 with fail
  rename_i K hK
  refine wp_region_lit ?_
  refine wpList_runTo rfl (some 92) rfl (.slice (some ⟨gb, 0, none⟩) lb (lb + 8)) w11 (by kernel_rfl) ?_
  simp only [Act.put, List.setIfInBounds_toArray, List.set_cons_zero, List.set_cons_succ]
  refine wpList_runTo rfl (some 93) rfl (.slice (some ⟨gs, 0, none⟩) ls (ls + 8)) w11 (by kernel_rfl) ?_
  simp only [Act.put, List.setIfInBounds_toArray, List.set_cons_zero, List.set_cons_succ]
  refine wpList_runTo rfl (some 94) rfl (.agg raw.cs) w11 (by exact ldA_run (blk_range HLS11.out.2.1) Try.underlying28 rfl infoRs (.tmp 9) rfl (by kernel_rfl)) ?_
  simp only [Act.put, List.setIfInBounds_toArray, List.set_cons_zero, List.set_cons_succ]
  refine wpList_callW rfl (some 95) rfl 14 #[.slice (some ⟨gb, 0, none⟩) lb (lb + 8), .slice (some ⟨gs, 0, none⟩) ls (ls + 8), .agg raw.cs] (by kernel_rfl) hc ?_
  rintro e w12 ⟨vm, rfl, HC⟩
  refine ⟨_, rfl, ?_⟩
  simp only [Act.put, List.setIfInBounds_toArray, List.set_cons_zero, List.set_cons_succ]
  clear hc
  refine wpList_runTo rfl (some 23) rfl (vm) w12 (by kernel_rfl) ?_
  simp only [Act.put, List.setIfInBounds_toArray, List.set_cons_zero, List.set_cons_succ]
  refine wpList_nil ?_
  refine hK _ _ ?_
  clear hK
  obtain ⟨Fm, hfm⟩ := HC.out
  have HFm : Hid (RowAt w12 39 5 vm Fm.length (flatL flL Fm) ∧ Below w11.heap.size w11 w12 ∧ (∀ q, vm.ownBlock = some q → w11.heap.size ≤ q) ∧ FV b s raw Fm ∧ Fm.length ≤ 2000000000000) := ⟨hfm.1.row, hfm.1.bel, hfm.1.own, hfm.2, by have := FV_len hfm.2; have := HB.out; omega⟩
  clear hfm HC
  have HLS12 : Hid (LS w w12 b s gb gs ∧ Blk w12 b9 28 raw.cs ∧ w.heap.size ≤ b9 ∧ gb ≠ gs ∧ b9 ≠ gb ∧ b9 ≠ gs ∧ b9 < gb ∧ gb < gs ∧ Blk w12 b16 28 r2.cs ∧ gs < b16 ∧ Blk w12 b17 46 r2.cs ∧ b16 < b17) := by
    have h := HLS11.out
    have k := HFm.out.2.1
    exact ⟨h.1.below k, h.2.1.below k h.2.1.lt, h.2.2.1, h.2.2.2.1, h.2.2.2.2.1, h.2.2.2.2.2.1, h.2.2.2.2.2.2.1, h.2.2.2.2.2.2.2.1, h.2.2.2.2.2.2.2.2.1.below k h.2.2.2.2.2.2.2.2.1.lt, h.2.2.2.2.2.2.2.2.2.1, h.2.2.2.2.2.2.2.2.2.2.1.below k h.2.2.2.2.2.2.2.2.2.2.1.lt, h.2.2.2.2.2.2.2.2.2.2.2⟩
  have HFl12 := HFl.out.1.fr (Fr.of_below HFm.out.2.1 (fun _ => False)) fun _ _ => id
  have hc := Fills_any (w := w12) (HIN.out HLS12.out.1).1 HB.out.1 (by have := HB.out.2.2.1; omega) (HIN.out HLS12.out.1).2 HB.out.2.1 (by have := HB.out.2.2.2; omega) r2 HQ.out.1
  rw [← HLN.out.1, ← HLN.out.2] at hc
  go_upto_region 14 with fail
  rename_i K hK
  refine wp_region_lit ?_
  refine wpList_runTo rfl (some 96) rfl (.slice (some ⟨gb, 0, none⟩) lb (lb + 8)) w12 (by kernel_rfl) ?_
  simp only [Act.put, List.setIfInBounds_toArray, List.set_cons_zero, List.set_cons_succ]
  refine wpList_runTo rfl (some 97) rfl (.slice (some ⟨gs, 0, none⟩) ls (ls + 8)) w12 (by kernel_rfl) ?_
  simp only [Act.put, List.setIfInBounds_toArray, List.set_cons_zero, List.set_cons_succ]
  refine wpList_runTo rfl (some 98) rfl (.agg r2.cs) w12 (by exact ldA_run (blk_range HLS12.out.2.2.2.2.2.2.2.2.1) Try.underlying28 rfl infoRs (.tmp 16) rfl (by kernel_rfl)) ?_
  simp only [Act.put, List.setIfInBounds_toArray, List.set_cons_zero, List.set_cons_succ]
  refine wpList_callW rfl (some 99) rfl 14 #[.slice (some ⟨gb, 0, none⟩) lb (lb + 8), .slice (some ⟨gs, 0, none⟩) ls (ls + 8), .agg r2.cs] (by kernel_rfl) hc ?_
  rintro e w13 ⟨vp, rfl, HC⟩
  refine ⟨_, rfl, ?_⟩
  simp only [Act.put, List.setIfInBounds_toArray, List.set_cons_zero, List.set_cons_succ]
  clear hc
  refine wpList_runTo rfl (some 24) rfl (vp) w13 (by kernel_rfl) ?_
  simp only [Act.put, List.setIfInBounds_toArray, List.set_cons_zero, List.set_cons_succ]
  refine wpList_nil ?_
  refine hK _ _ ?_
  clear hK
  obtain ⟨Fp, hfp⟩ := HC.out
  have HFp : Hid (RowAt w13 39 5 vp Fp.length (flatL flL Fp) ∧ Below w12.heap.size w12 w13 ∧ (∀ q, vp.ownBlock = some q → w12.heap.size ≤ q) ∧ FV b s r2 Fp ∧ Fp.length ≤ 2000000000000) := ⟨hfp.1.row, hfp.1.bel, hfp.1.own, hfp.2, by have := FV_len hfp.2; have := HB.out; omega⟩
  clear hfp HC
  have HLS13 : Hid (LS w w13 b s gb gs ∧ Blk w13 b9 28 raw.cs ∧ w.heap.size ≤ b9 ∧ gb ≠ gs ∧ b9 ≠ gb ∧ b9 ≠ gs ∧ b9 < gb ∧ gb < gs ∧ Blk w13 b16 28 r2.cs ∧ gs < b16 ∧ Blk w13 b17 46 r2.cs ∧ b16 < b17) := by
    have h := HLS12.out
    have k := HFp.out.2.1
    exact ⟨h.1.below k, h.2.1.below k h.2.1.lt, h.2.2.1, h.2.2.2.1, h.2.2.2.2.1, h.2.2.2.2.2.1, h.2.2.2.2.2.2.1, h.2.2.2.2.2.2.2.1, h.2.2.2.2.2.2.2.2.1.below k h.2.2.2.2.2.2.2.2.1.lt, h.2.2.2.2.2.2.2.2.2.1, h.2.2.2.2.2.2.2.2.2.2.1.below k h.2.2.2.2.2.2.2.2.2.2.1.lt, h.2.2.2.2.2.2.2.2.2.2.2⟩
  obtain ⟨al, cl, el, _⟩ := HFl.out.1.form
  obtain ⟨am, cm, em, _⟩ := HFm.out.1.form
  obtain ⟨ap, cp, ep, _⟩ := HFp.out.1.form
  subst el em ep
  have HW13 : Hid (RowAt w13 39 5 (.slice al Fl.length cl) Fl.length (flatL flL Fl) ∧ RowAt w13 39 5 (.slice am Fm.length cm) Fm.length (flatL flL Fm) ∧ RowAt w13 39 5 (.slice ap Fp.length cp) Fp.length (flatL flL Fp)) := ⟨(HFl12).fr (Fr.of_below HFp.out.2.1 (fun _ => False)) (fun _ _ => id), HFm.out.1.fr (Fr.of_below HFp.out.2.1 (fun _ => False)) (fun _ _ => id), HFp.out.1⟩
  clear HFl12
  go_upto_region 15 with fail
  rename_i K hK
  refine wp_region_lit ?_
  refine wpList_runTo rfl (some 100) rfl (.slice al Fl.length cl) w13 (by kernel_rfl) ?_
  simp only [Act.put, List.setIfInBounds_toArray, List.set_cons_zero, List.set_cons_succ]
  have hc := refFills_any (w := w13) (HLS13.out.1.old HR.out.1.1) HR.out.1.2.1 HB.out.2.2.1 (HLS13.out.1.old HR.out.2.1) HR.out.2.2.1 HB.out.2.2.2 r2 HQ.out.1
  rw [← HLN.out.1, ← HLN.out.2] at hc
  refine wpList_runTo rfl (some 101) rfl (.slice a lb c) w13 (by kernel_rfl) ?_
  simp only [Act.put, List.setIfInBounds_toArray, List.set_cons_zero, List.set_cons_succ]
  refine wpList_runTo rfl (some 102) rfl (.slice a' ls c') w13 (by kernel_rfl) ?_
  simp only [Act.put, List.setIfInBounds_toArray, List.set_cons_zero, List.set_cons_succ]
  refine wpList_runTo rfl (some 103) rfl (.agg r2.cs) w13 (by exact ldA_run (blk_range HLS13.out.2.2.2.2.2.2.2.2.2.2.1) Try.underlying46 rfl infoR46 (.tmp 17) rfl (by kernel_rfl)) ?_
  simp only [Act.put, List.setIfInBounds_toArray, List.set_cons_zero, List.set_cons_succ]
  refine wpList_callW rfl (some 104) rfl 20 #[.slice a lb c, .slice a' ls c', .agg r2.cs] (by kernel_rfl) hc ?_
  rintro e w14 ⟨v14, rfl, HC⟩
  refine ⟨_, rfl, ?_⟩
  simp only [Act.put, List.setIfInBounds_toArray, List.set_cons_zero, List.set_cons_succ]
  clear hc
  obtain ⟨F2, hf2, hu⟩ := HC.out
  obtain rfl := hu _ HFl.out.2.2.2.1
  clear hu HC
  obtain ⟨a14, c14, e14, _⟩ := hf2.row.form
  subst e14
  have HG14 : Hid (RowAt w14 39 5 (.slice a14 Fl.length c14) Fl.length (flatL flL Fl) ∧ Below w13.heap.size w13 w14) := ⟨hf2.row, hf2.bel⟩
  clear hf2
  have HLS14 : Hid (LS w w14 b s gb gs ∧ Blk w14 b9 28 raw.cs ∧ w.heap.size ≤ b9 ∧ gb ≠ gs ∧ b9 ≠ gb ∧ b9 ≠ gs ∧ b9 < gb ∧ gb < gs ∧ Blk w14 b16 28 r2.cs ∧ gs < b16 ∧ Blk w14 b17 46 r2.cs ∧ b16 < b17) := by
    have h := HLS13.out
    have k := HG14.out.2
    exact ⟨h.1.below k, h.2.1.below k h.2.1.lt, h.2.2.1, h.2.2.2.1, h.2.2.2.2.1, h.2.2.2.2.2.1, h.2.2.2.2.2.2.1, h.2.2.2.2.2.2.2.1, h.2.2.2.2.2.2.2.2.1.below k h.2.2.2.2.2.2.2.2.1.lt, h.2.2.2.2.2.2.2.2.2.1, h.2.2.2.2.2.2.2.2.2.2.1.below k h.2.2.2.2.2.2.2.2.2.2.1.lt, h.2.2.2.2.2.2.2.2.2.2.2⟩
  have HW14 : Hid (RowAt w14 39 5 (.slice al Fl.length cl) Fl.length (flatL flL Fl) ∧ RowAt w14 39 5 (.slice am Fm.length cm) Fm.length (flatL flL Fm) ∧ RowAt w14 39 5 (.slice ap Fp.length cp) Fp.length (flatL flL Fp)) := ⟨HW13.out.1.fr (Fr.of_below (HG14.out.2) (fun _ => False)) (fun _ _ => id), HW13.out.2.1.fr (Fr.of_below (HG14.out.2) (fun _ => False)) (fun _ _ => id), HW13.out.2.2.fr (Fr.of_below (HG14.out.2) (fun _ => False)) (fun _ _ => id)⟩
  clear HLS13 HW13
  have hc := fillsL2_any HW14.out.1 HG14.out.1 HFl.out.2.2.2.2
  refine wpList_callW rfl (some 105) rfl 16 #[.slice al Fl.length cl, .slice a14 Fl.length c14] (by kernel_rfl) hc ?_
  rintro e w15 ⟨rfl, hb⟩
  refine ⟨_, rfl, ?_⟩
  simp only [Act.put, List.setIfInBounds_toArray, List.set_cons_zero, List.set_cons_succ]
  clear hc
  have HB15 : Hid (Below w14.heap.size w14 w15) := hb
  clear hb HG14
  have HLS15 : Hid (LS w w15 b s gb gs ∧ Blk w15 b9 28 raw.cs ∧ w.heap.size ≤ b9 ∧ gb ≠ gs ∧ b9 ≠ gb ∧ b9 ≠ gs ∧ b9 < gb ∧ gb < gs ∧ Blk w15 b16 28 r2.cs ∧ gs < b16 ∧ Blk w15 b17 46 r2.cs ∧ b16 < b17) := by
    have h := HLS14.out
    have k := HB15.out
    exact ⟨h.1.below k, h.2.1.below k h.2.1.lt, h.2.2.1, h.2.2.2.1, h.2.2.2.2.1, h.2.2.2.2.2.1, h.2.2.2.2.2.2.1, h.2.2.2.2.2.2.2.1, h.2.2.2.2.2.2.2.2.1.below k h.2.2.2.2.2.2.2.2.1.lt, h.2.2.2.2.2.2.2.2.2.1, h.2.2.2.2.2.2.2.2.2.2.1.below k h.2.2.2.2.2.2.2.2.2.2.1.lt, h.2.2.2.2.2.2.2.2.2.2.2⟩
  have HW15 : Hid (RowAt w15 39 5 (.slice al Fl.length cl) Fl.length (flatL flL Fl) ∧ RowAt w15 39 5 (.slice am Fm.length cm) Fm.length (flatL flL Fm) ∧ RowAt w15 39 5 (.slice ap Fp.length cp) Fp.length (flatL flL Fp)) := ⟨HW14.out.1.fr (Fr.of_below (HB15.out) (fun _ => False)) (fun _ _ => id), HW14.out.2.1.fr (Fr.of_below (HB15.out) (fun _ => False)) (fun _ _ => id), HW14.out.2.2.fr (Fr.of_below (HB15.out) (fun _ => False)) (fun _ _ => id)⟩
  clear HLS14 HW14
  refine wpList_runTo rfl (some 106) rfl (.bool true) w15 (by kernel_rfl) ?_
  simp only [Act.put, List.setIfInBounds_toArray, List.set_cons_zero, List.set_cons_succ]
  refine wpList_runToG (by kernel_rfl) (some 107) rfl (.slice ap Fp.length cp) w15 (by kernel_rfl) ?_
  simp only [Act.put, List.setIfInBounds_toArray, List.set_cons_zero, List.set_cons_succ]
  have hc := refFills_any (w := w15) (HLS15.out.1.old HR.out.1.1) HR.out.1.2.1 HB.out.2.2.1 (HLS15.out.1.old HR.out.2.1) HR.out.2.2.1 HB.out.2.2.2 r2 HQ.out.1
  rw [← HLN.out.1, ← HLN.out.2] at hc
  refine wpList_runToG (by kernel_rfl) (some 108) rfl (.slice a lb c) w15 (by kernel_rfl) ?_
  simp only [Act.put, List.setIfInBounds_toArray, List.set_cons_zero, List.set_cons_succ]
  refine wpList_runToG (by kernel_rfl) (some 109) rfl (.slice a' ls c') w15 (by kernel_rfl) ?_
  simp only [Act.put, List.setIfInBounds_toArray, List.set_cons_zero, List.set_cons_succ]
  refine wpList_runToG (by kernel_rfl) (some 110) rfl (.agg r2.cs) w15 (by exact ldA_run (blk_range HLS15.out.2.2.2.2.2.2.2.2.2.2.1) Try.underlying46 rfl infoR46 (.tmp 17) rfl (by kernel_rfl)) ?_
  simp only [Act.put, List.setIfInBounds_toArray, List.set_cons_zero, List.set_cons_succ]
  refine wpList_callG (by kernel_rfl) (some 111) rfl 20 #[.slice a lb c, .slice a' ls c', .agg r2.cs] (by kernel_rfl) hc ?_
  rintro e w16 ⟨v16, rfl, HC⟩
  refine ⟨_, rfl, ?_⟩
  simp only [Act.put, List.setIfInBounds_toArray, List.set_cons_zero, List.set_cons_succ]
  clear hc
  obtain ⟨F2, hf2, hu⟩ := HC.out
  obtain rfl := hu _ HFp.out.2.2.2.1
  clear hu HC
  obtain ⟨a16, c16, e16, _⟩ := hf2.row.form
  subst e16
  have HG16 : Hid (RowAt w16 39 5 (.slice a16 Fp.length c16) Fp.length (flatL flL Fp) ∧ Below w15.heap.size w15 w16) := ⟨hf2.row, hf2.bel⟩
  clear hf2
  have HLS16 : Hid (LS w w16 b s gb gs ∧ Blk w16 b9 28 raw.cs ∧ w.heap.size ≤ b9 ∧ gb ≠ gs ∧ b9 ≠ gb ∧ b9 ≠ gs ∧ b9 < gb ∧ gb < gs ∧ Blk w16 b16 28 r2.cs ∧ gs < b16 ∧ Blk w16 b17 46 r2.cs ∧ b16 < b17) := by
    have h := HLS15.out
    have k := HG16.out.2
    exact ⟨h.1.below k, h.2.1.below k h.2.1.lt, h.2.2.1, h.2.2.2.1, h.2.2.2.2.1, h.2.2.2.2.2.1, h.2.2.2.2.2.2.1, h.2.2.2.2.2.2.2.1, h.2.2.2.2.2.2.2.2.1.below k h.2.2.2.2.2.2.2.2.1.lt, h.2.2.2.2.2.2.2.2.2.1, h.2.2.2.2.2.2.2.2.2.2.1.below k h.2.2.2.2.2.2.2.2.2.2.1.lt, h.2.2.2.2.2.2.2.2.2.2.2⟩
  have HW16 : Hid (RowAt w16 39 5 (.slice al Fl.length cl) Fl.length (flatL flL Fl) ∧ RowAt w16 39 5 (.slice am Fm.length cm) Fm.length (flatL flL Fm) ∧ RowAt w16 39 5 (.slice ap Fp.length cp) Fp.length (flatL flL Fp)) := ⟨HW15.out.1.fr (Fr.of_below (HG16.out.2) (fun _ => False)) (fun _ _ => id), HW15.out.2.1.fr (Fr.of_below (HG16.out.2) (fun _ => False)) (fun _ _ => id), HW15.out.2.2.fr (Fr.of_below (HG16.out.2) (fun _ => False)) (fun _ _ => id)⟩
  clear HLS15 HW15
  have hc := fillsL2_any HW16.out.2.2 HG16.out.1 HFp.out.2.2.2.2
  refine wpList_callG (by kernel_rfl) (some 112) rfl 16 #[.slice ap Fp.length cp, .slice a16 Fp.length c16] (by kernel_rfl) hc ?_
  rintro e w17 ⟨rfl, hb⟩
  refine ⟨_, rfl, ?_⟩
  simp only [Act.put, List.setIfInBounds_toArray, List.set_cons_zero, List.set_cons_succ]
  clear hc
  have HB17 : Hid (Below w16.heap.size w16 w17) := hb
  clear hb HG16
  have HLS17 : Hid (LS w w17 b s gb gs ∧ Blk w17 b9 28 raw.cs ∧ w.heap.size ≤ b9 ∧ gb ≠ gs ∧ b9 ≠ gb ∧ b9 ≠ gs ∧ b9 < gb ∧ gb < gs ∧ Blk w17 b16 28 r2.cs ∧ gs < b16 ∧ Blk w17 b17 46 r2.cs ∧ b16 < b17) := by
    have h := HLS16.out
    have k := HB17.out
    exact ⟨h.1.below k, h.2.1.below k h.2.1.lt, h.2.2.1, h.2.2.2.1, h.2.2.2.2.1, h.2.2.2.2.2.1, h.2.2.2.2.2.2.1, h.2.2.2.2.2.2.2.1, h.2.2.2.2.2.2.2.2.1.below k h.2.2.2.2.2.2.2.2.1.lt, h.2.2.2.2.2.2.2.2.2.1, h.2.2.2.2.2.2.2.2.2.2.1.below k h.2.2.2.2.2.2.2.2.2.2.1.lt, h.2.2.2.2.2.2.2.2.2.2.2⟩
  have HW17 : Hid (RowAt w17 39 5 (.slice al Fl.length cl) Fl.length (flatL flL Fl) ∧ RowAt w17 39 5 (.slice am Fm.length cm) Fm.length (flatL flL Fm) ∧ RowAt w17 39 5 (.slice ap Fp.length cp) Fp.length (flatL flL Fp)) := ⟨HW16.out.1.fr (Fr.of_below (HB17.out) (fun _ => False)) (fun _ _ => id), HW16.out.2.1.fr (Fr.of_below (HB17.out) (fun _ => False)) (fun _ _ => id), HW16.out.2.2.fr (Fr.of_below (HB17.out) (fun _ => False)) (fun _ _ => id)⟩
  clear HLS16 HW16
  refine wpList_runTo rfl (some 113) rfl (.bool true) w17 (by exact pick_run (c := true) (.tmp 106) (.tmp 112) rfl (by kernel_rfl) (by kernel_rfl) _) ?_
  simp only [Act.put, List.setIfInBounds_toArray, List.set_cons_zero, List.set_cons_succ]
  refine wpList_runTo rfl (some 25) rfl (.bool true) w17 (by kernel_rfl) ?_
  simp only [Act.put, List.setIfInBounds_toArray, List.set_cons_zero, List.set_cons_succ]
  refine wpList_nil ?_
  refine hK _ _ ?_
  clear hK
  go_upto_region 16 with fail
  rename_i K hK
  refine wp_region_lit ?_
  refine wpList_runTo rfl (some 114) rfl (.slice am Fm.length cm) w17 (by kernel_rfl) ?_
  simp only [Act.put, List.setIfInBounds_toArray, List.set_cons_zero, List.set_cons_succ]
  have hc := refFills_any (w := w17) (HLS17.out.1.old HR.out.1.1) HR.out.1.2.1 HB.out.2.2.1 (HLS17.out.1.old HR.out.2.1) HR.out.2.2.1 HB.out.2.2.2 raw HQ.out.2
  rw [← HLN.out.1, ← HLN.out.2] at hc
  refine wpList_runTo rfl (some 115) rfl (.slice a lb c) w17 (by kernel_rfl) ?_
  simp only [Act.put, List.setIfInBounds_toArray, List.set_cons_zero, List.set_cons_succ]
  refine wpList_runTo rfl (some 116) rfl (.slice a' ls c') w17 (by kernel_rfl) ?_
  simp only [Act.put, List.setIfInBounds_toArray, List.set_cons_zero, List.set_cons_succ]
  refine wpList_runTo rfl (some 117) rfl (.agg raw.cs) w17 (by exact ldA_run (blk_range HLS17.out.2.1) Try.underlying28 rfl infoRs (.tmp 9) rfl (by kernel_rfl)) ?_
  simp only [Act.put, List.setIfInBounds_toArray, List.set_cons_zero, List.set_cons_succ]
  refine wpList_callW rfl (some 118) rfl 20 #[.slice a lb c, .slice a' ls c', .agg raw.cs] (by kernel_rfl) hc ?_
  rintro e w18 ⟨v18, rfl, HC⟩
  refine ⟨_, rfl, ?_⟩
  simp only [Act.put, List.setIfInBounds_toArray, List.set_cons_zero, List.set_cons_succ]
  clear hc
  obtain ⟨F2, hf2, hu⟩ := HC.out
  obtain rfl := hu _ HFm.out.2.2.2.1
  clear hu HC
  obtain ⟨a18, c18, e18, _⟩ := hf2.row.form
  subst e18
  have HG18 : Hid (RowAt w18 39 5 (.slice a18 Fm.length c18) Fm.length (flatL flL Fm) ∧ Below w17.heap.size w17 w18) := ⟨hf2.row, hf2.bel⟩
  clear hf2
  have HLS18 : Hid (LS w w18 b s gb gs ∧ Blk w18 b9 28 raw.cs ∧ w.heap.size ≤ b9 ∧ gb ≠ gs ∧ b9 ≠ gb ∧ b9 ≠ gs ∧ b9 < gb ∧ gb < gs ∧ Blk w18 b16 28 r2.cs ∧ gs < b16 ∧ Blk w18 b17 46 r2.cs ∧ b16 < b17) := by
    have h := HLS17.out
    have k := HG18.out.2
    exact ⟨h.1.below k, h.2.1.below k h.2.1.lt, h.2.2.1, h.2.2.2.1, h.2.2.2.2.1, h.2.2.2.2.2.1, h.2.2.2.2.2.2.1, h.2.2.2.2.2.2.2.1, h.2.2.2.2.2.2.2.2.1.below k h.2.2.2.2.2.2.2.2.1.lt, h.2.2.2.2.2.2.2.2.2.1, h.2.2.2.2.2.2.2.2.2.2.1.below k h.2.2.2.2.2.2.2.2.2.2.1.lt, h.2.2.2.2.2.2.2.2.2.2.2⟩
  have HW18 : Hid (RowAt w18 39 5 (.slice al Fl.length cl) Fl.length (flatL flL Fl) ∧ RowAt w18 39 5 (.slice am Fm.length cm) Fm.length (flatL flL Fm) ∧ RowAt w18 39 5 (.slice ap Fp.length cp) Fp.length (flatL flL Fp)) := ⟨HW17.out.1.fr (Fr.of_below (HG18.out.2) (fun _ => False)) (fun _ _ => id), HW17.out.2.1.fr (Fr.of_below (HG18.out.2) (fun _ => False)) (fun _ _ => id), HW17.out.2.2.fr (Fr.of_below (HG18.out.2) (fun _ => False)) (fun _ _ => id)⟩
  clear HLS17 HW17
  have hc := fillsL2_any HW18.out.2.1 HG18.out.1 HFm.out.2.2.2.2
  refine wpList_callW rfl (some 119) rfl 16 #[.slice am Fm.length cm, .slice a18 Fm.length c18] (by kernel_rfl) hc ?_
  rintro e w19 ⟨rfl, hb⟩
  refine ⟨_, rfl, ?_⟩
  simp only [Act.put, List.setIfInBounds_toArray, List.set_cons_zero, List.set_cons_succ]
  clear hc
  have HB19 : Hid (Below w18.heap.size w18 w19) := hb
  clear hb HG18
  have HLS19 : Hid (LS w w19 b s gb gs ∧ Blk w19 b9 28 raw.cs ∧ w.heap.size ≤ b9 ∧ gb ≠ gs ∧ b9 ≠ gb ∧ b9 ≠ gs ∧ b9 < gb ∧ gb < gs ∧ Blk w19 b16 28 r2.cs ∧ gs < b16 ∧ Blk w19 b17 46 r2.cs ∧ b16 < b17) := by
    have h := HLS18.out
    have k := HB19.out
    exact ⟨h.1.below k, h.2.1.below k h.2.1.lt, h.2.2.1, h.2.2.2.1, h.2.2.2.2.1, h.2.2.2.2.2.1, h.2.2.2.2.2.2.1, h.2.2.2.2.2.2.2.1, h.2.2.2.2.2.2.2.2.1.below k h.2.2.2.2.2.2.2.2.1.lt, h.2.2.2.2.2.2.2.2.2.1, h.2.2.2.2.2.2.2.2.2.2.1.below k h.2.2.2.2.2.2.2.2.2.2.1.lt, h.2.2.2.2.2.2.2.2.2.2.2⟩
  have HW19 : Hid (RowAt w19 39 5 (.slice al Fl.length cl) Fl.length (flatL flL Fl) ∧ RowAt w19 39 5 (.slice am Fm.length cm) Fm.length (flatL flL Fm) ∧ RowAt w19 39 5 (.slice ap Fp.length cp) Fp.length (flatL flL Fp)) := ⟨HW18.out.1.fr (Fr.of_below (HB19.out) (fun _ => False)) (fun _ _ => id), HW18.out.2.1.fr (Fr.of_below (HB19.out) (fun _ => False)) (fun _ _ => id), HW18.out.2.2.fr (Fr.of_below (HB19.out) (fun _ => False)) (fun _ _ => id)⟩
  clear HLS18 HW18
  refine wpList_runTo rfl (some 26) rfl (.bool true) w19 (by kernel_rfl) ?_
  simp only [Act.put, List.setIfInBounds_toArray, List.set_cons_zero, List.set_cons_succ]
  refine wpList_nil ?_
  refine hK _ _ ?_
  clear hK
  obtain ⟨nl, hnl⟩ : ∃ nl, nl = Fl.length := ⟨_, rfl⟩
  obtain ⟨nm, hnm⟩ : ∃ nm, nm = Fm.length := ⟨_, rfl⟩
  obtain ⟨h10, hh10⟩ : ∃ h, h = b17 + 1 := ⟨_, rfl⟩
  have HK : Hid (gs < h10 ∧ b16 < h10 ∧ b17 < h10 ∧ b9 < h10 ∧ gb < h10 ∧ w.heap.size ≤ h10 ∧ (∀ q, (Value.slice al nl cl).ownBlock = some q → h10 ≤ q) ∧ (∀ q, (Value.slice am nm cm).ownBlock = some q → h10 ≤ q) ∧ (∀ q, (Value.slice ap Fp.length cp).ownBlock = some q → h10 ≤ q) ∧ h10 ≤ b17 + 1) := by
    have h := HLS10.out
    have q1 := Blk.lt h.1.os
    have q2 := h.2.2.2.2.2.2.2.2.1.lt
    have q3 := h.2.2.2.2.2.2.2.2.2.2.1.lt
    have q4 := h.2.1.lt
    have q5 := Blk.lt h.1.ob
    have q6 := h.1.bel.size
    have s1 := HFl.out.2.1.size
    have s2 := HFm.out.2.1.size
    refine ⟨by omega, by omega, by omega, by omega, by omega, by omega, fun q hq => by rw [hnl] at hq; have := HFl.out.2.2.1 q hq; omega, fun q hq => by rw [hnm] at hq; have := HFm.out.2.2.1 q hq; omega, fun q hq => by have := HFp.out.2.2.1 q hq; omega, by omega⟩
  have HD : Hid ((∀ q, (Value.slice al nl cl).ownBlock = some q → (Value.slice am nm cm).ownBlock ≠ some q) ∧ (∀ q, (Value.slice al nl cl).ownBlock = some q → (Value.slice ap Fp.length cp).ownBlock ≠ some q) ∧ (∀ q, (Value.slice am nm cm).ownBlock = some q → (Value.slice ap Fp.length cp).ownBlock ≠ some q)) := by
    refine ⟨fun q hq e => ?_, fun q hq e => ?_, fun q hq e => ?_⟩
    · rw [hnl] at hq
      rw [hnm] at e
      have k1 := (HFl.out.1.lt (g := q) hq).1
      have k2 := HFm.out.2.2.1 q e
      omega
    · rw [hnl] at hq
      have k1 := (HFl.out.1.lt (g := q) hq).1
      have k2 := HFp.out.2.2.1 q e
      have k3 := HFm.out.2.1.size
      omega
    · rw [hnm] at hq
      have k1 := (HFm.out.1.lt (g := q) hq).1
      have k2 := HFp.out.2.2.1 q e
      omega
  have HNl : Hid (nl = Fl.length ∧ nm = Fm.length ∧ nl ≤ 2000000000000 ∧ nm ≤ 2000000000000) := ⟨hnl, hnm, by rw [hnl]; exact HFl.out.2.2.2.2, by rw [hnm]; exact HFm.out.2.2.2.2⟩
  have HST : Hid (∀ {W W' : World} {ex : Nat → Prop}, (LS w W b s gb gs ∧ Blk W b9 28 raw.cs ∧ Blk W b16 28 r2.cs ∧ Blk W b17 46 r2.cs) → Fr W W' ex → (∀ q, ex q → h10 ≤ q) → (LS w W' b s gb gs ∧ Blk W' b9 28 raw.cs ∧ Blk W' b16 28 r2.cs ∧ Blk W' b17 46 r2.cs)) := fun {W W' ex} h f hg => by
    have k := HK.out
    have n : ∀ x, x < h10 → ¬ ex x := fun x hx e => absurd (hg x e) (by omega)
    exact ⟨⟨⟨f.os.trans h.1.bel.os, f.tape.trans h.1.bel.tape, f.output.trans h.1.bel.output, Nat.le_trans h.1.bel.size f.size, fun q hq => (f.block q (Nat.lt_of_lt_of_le hq h.1.bel.size) (n q (by omega))).trans (h.1.bel.block q hq)⟩, (f.block gb (Blk.lt h.1.ob) (n gb (by omega))).trans h.1.ob, (f.block gs (Blk.lt h.1.os) (n gs (by omega))).trans h.1.os, h.1.nb, h.1.ns⟩, (f.block b9 h.2.1.lt (n b9 (by omega))).trans h.2.1, (f.block b16 h.2.2.1.lt (n b16 (by omega))).trans h.2.2.1, (f.block b17 h.2.2.2.lt (n b17 (by omega))).trans h.2.2.2⟩
  have HZ : Hid (((LS w w19 b s gb gs ∧ Blk w19 b9 28 raw.cs ∧ Blk w19 b16 28 r2.cs ∧ Blk w19 b17 46 r2.cs)) ∧ RowAt w19 39 5 (.slice al nl cl) nl (flatL flL (wrF (-1) 0 Fl)) ∧ RowAt w19 39 5 (.slice am nm cm) nm (flatL flL (wrF (-2) 0 Fm)) ∧ RowAt w19 39 5 (.slice ap Fp.length cp) Fp.length (flatL flL Fp)) := by
    have h := HLS19.out
    have k := HW19.out
    rw [← hnl, ← hnm] at k
    exact ⟨⟨h.1, h.2.1, h.2.2.2.2.2.2.2.2.1, h.2.2.2.2.2.2.2.2.2.2.1⟩, k.1, k.2.1, k.2.2⟩
  rw [← hnl, ← hnm]
  clear hnl hnm hh10 HLS10 HLS11 HLS12 HLS19 HW19 HB15 HB17 HB19
  go_upto_region 18 with fail
  go_loopw [27] (fun x wr => ∃ i : Nat, i ≤ nl ∧ x = .int .i64 (i : Int) ∧ Hid (((LS w wr b s gb gs ∧ Blk wr b9 28 raw.cs ∧ Blk wr b16 28 r2.cs ∧ Blk wr b17 46 r2.cs)) ∧ RowAt wr 39 5 (.slice al nl cl) nl (flatL flL (wrF (-1) i Fl)) ∧ RowAt wr 39 5 (.slice am nm cm) nm (flatL flL (wrF (-2) 0 Fm)) ∧ RowAt wr 39 5 (.slice ap Fp.length cp) Fp.length (flatL flL Fp))) (fun x _ => nl - (RowKit.intOf x).toNat)
  case atStart => exact ⟨0, Nat.zero_le _, rfl, HZ.out⟩
  case round => as_aux_lemma =>
    clear HZ
    obtain ⟨i, hi, rfl, HY⟩ := hrel
    by_cases hlt : i < nl
    · have hlt' : (i : Int) < (nl : Int) := by omega
      obtain ⟨g, o, c0, cur, ea, _⟩ := HY.out.2.1.more (by omega)
      injection ea with ea1 _ ea2
      subst ea1 ea2
      have HS : Hid (wr.there g (o + i * 5) 5 ∧ ((LS w (wr.setCells g (o + i * 5) (flL (mkF (-1)))) b s gb gs ∧ Blk (wr.setCells g (o + i * 5) (flL (mkF (-1)))) b9 28 raw.cs ∧ Blk (wr.setCells g (o + i * 5) (flL (mkF (-1)))) b16 28 r2.cs ∧ Blk (wr.setCells g (o + i * 5) (flL (mkF (-1)))) b17 46 r2.cs)) ∧ RowAt (wr.setCells g (o + i * 5) (flL (mkF (-1)))) 39 5 (.slice (some ⟨g, o, none⟩) nl cl) nl (flatL flL (wrF (-1) (i + 1) Fl)) ∧ RowAt (wr.setCells g (o + i * 5) (flL (mkF (-1)))) 39 5 (.slice am nm cm) nm (flatL flL (wrF (-2) 0 Fm)) ∧ RowAt (wr.setCells g (o + i * 5) (flL (mkF (-1)))) 39 5 (.slice ap Fp.length cp) Fp.length (flatL flL Fp)) := by
        have f := Fr.setCells g (fun b => b = g) rfl (flL (mkF (-1))) (o + i * 5) wr
        have hg := HK.out.2.2.2.2.2.2.1 g rfl
        have e := HNl.out
        exact ⟨row_thereF HY.out.2.1 (by rw [wrF_len (by omega)]; omega), HST.out HY.out.1 f (fun x e => by rw [e]; exact hg), row_wr HY.out.2.1 (by omega), HY.out.2.2.1.fr f (fun q hq e2 => HD.out.1 g rfl (e2 ▸ hq)), HY.out.2.2.2.fr f (fun q hq e2 => HD.out.2.1 g rfl (e2 ▸ hq))⟩
      clear HY
      go_upto_region 20 with fail
      rename_i K hK
      refine wp_region_lit ?_
      refine wpList_runTo rfl (some 126) rfl (.slice (some ⟨g, o, none⟩) nl cl) wr (by kernel_rfl) ?_
      simp only [Act.put, List.setIfInBounds_toArray, List.set_cons_zero, List.set_cons_succ]
      refine wpList_runTo rfl (some 127) rfl (.int .i64 (i : Int)) wr (by kernel_rfl) ?_
      simp only [Act.put, List.setIfInBounds_toArray, List.set_cons_zero, List.set_cons_succ]
      refine wpList_runTo rfl (some 128) rfl (.agg (flL (mkF (-1))).toArray) wr (by kernel_rfl) ?_
      simp only [Act.put, List.setIfInBounds_toArray, List.set_cons_zero, List.set_cons_succ]
      refine wpList_runTo rfl (some 129) rfl (.pointer (some ⟨g, o + i * 5, none⟩)) wr (by exact ixFl_run (n := nl) (c := cl) (.tmp 126) (.tmp 127) rfl (by kernel_rfl) (by kernel_rfl) hlt _) ?_
      simp only [Act.put, List.setIfInBounds_toArray, List.set_cons_zero, List.set_cons_succ]
      refine wpList_store_mid rfl 39 (.tmp 129) (.tmp 128) rfl g (o + i * 5) (flL (mkF (-1))).toArray (by kernel_rfl) (by kernel_rfl) HS.out.1 infoFz (by first | kernel_rfl | (simp [flL, mkF, Value.oneCell'])) ?_
      try simp only [Act.put]
      have HF := HS.out.2
      clear HS
      change wpList _ _ _ _ _ (wr.setCells g (o + i * 5) (flL (mkF (-1))))
      generalize (wr.setCells g (o + i * 5) (flL (mkF (-1)))) = wz at *
      refine wpList_nil ?_
      refine hK _ _ ?_
      clear hK
      have hnb : nl ≤ 2000000000000 := by have := HNl.out; omega
      clear HNl HK HD HST
      go_wp2
      exact ⟨⟨i + 1, by omega, by go_num, HF⟩, by simp [RowKit.intOf]; omega⟩
    · obtain rfl : nl = i := by omega
      have hlt' : ¬ (nl : Int) < (nl : Int) := by omega
      have HZ : Hid (((LS w wr b s gb gs ∧ Blk wr b9 28 raw.cs ∧ Blk wr b16 28 r2.cs ∧ Blk wr b17 46 r2.cs)) ∧ RowAt wr 39 5 (.slice al nl cl) nl (flatL flL (wrF (-1) nl Fl)) ∧ RowAt wr 39 5 (.slice am nm cm) nm (flatL flL (wrF (-2) 0 Fm)) ∧ RowAt wr 39 5 (.slice ap Fp.length cp) Fp.length (flatL flL Fp)) := HY
      clear HY
      generalize wr = wl at *
      go_upto_region 22 with fail
      go_loopw [28] (fun x wr => ∃ i : Nat, i ≤ nm ∧ x = .int .i64 (i : Int) ∧ Hid (((LS w wr b s gb gs ∧ Blk wr b9 28 raw.cs ∧ Blk wr b16 28 r2.cs ∧ Blk wr b17 46 r2.cs)) ∧ RowAt wr 39 5 (.slice al nl cl) nl (flatL flL (wrF (-1) nl Fl)) ∧ RowAt wr 39 5 (.slice am nm cm) nm (flatL flL (wrF (-2) i Fm)) ∧ RowAt wr 39 5 (.slice ap Fp.length cp) Fp.length (flatL flL Fp))) (fun x _ => nm - (RowKit.intOf x).toNat)
      case atStart => exact ⟨0, Nat.zero_le _, rfl, HZ.out⟩
      case round => as_aux_lemma =>
        clear HZ
        obtain ⟨i, hi, rfl, HY⟩ := hrel
        by_cases hlt : i < nm
        · have hlt' : (i : Int) < (nm : Int) := by omega
          obtain ⟨g, o, c0, cur, ea, _⟩ := HY.out.2.2.1.more (by omega)
          injection ea with ea1 _ ea2
          subst ea1 ea2
          have HS : Hid (wr.there g (o + i * 5) 5 ∧ ((LS w (wr.setCells g (o + i * 5) (flL (mkF (-2)))) b s gb gs ∧ Blk (wr.setCells g (o + i * 5) (flL (mkF (-2)))) b9 28 raw.cs ∧ Blk (wr.setCells g (o + i * 5) (flL (mkF (-2)))) b16 28 r2.cs ∧ Blk (wr.setCells g (o + i * 5) (flL (mkF (-2)))) b17 46 r2.cs)) ∧ RowAt (wr.setCells g (o + i * 5) (flL (mkF (-2)))) 39 5 (.slice al nl cl) nl (flatL flL (wrF (-1) nl Fl)) ∧ RowAt (wr.setCells g (o + i * 5) (flL (mkF (-2)))) 39 5 (.slice (some ⟨g, o, none⟩) nm cm) nm (flatL flL (wrF (-2) (i + 1) Fm)) ∧ RowAt (wr.setCells g (o + i * 5) (flL (mkF (-2)))) 39 5 (.slice ap Fp.length cp) Fp.length (flatL flL Fp)) := by
            have f := Fr.setCells g (fun b => b = g) rfl (flL (mkF (-2))) (o + i * 5) wr
            have hg := HK.out.2.2.2.2.2.2.2.1 g rfl
            have e := HNl.out
            exact ⟨row_thereF HY.out.2.2.1 (by rw [wrF_len (by omega)]; omega), HST.out HY.out.1 f (fun x e => by rw [e]; exact hg), HY.out.2.1.fr f (fun q hq e2 => HD.out.1 q hq (by rw [e2]; rfl)), row_wr HY.out.2.2.1 (by omega), HY.out.2.2.2.fr f (fun q hq e2 => HD.out.2.2 g rfl (e2 ▸ hq))⟩
          clear HY
          go_upto_region 24 with fail
          rename_i K hK
          refine wp_region_lit ?_
          refine wpList_runTo rfl (some 136) rfl (.slice (some ⟨g, o, none⟩) nm cm) wr (by kernel_rfl) ?_
          simp only [Act.put, List.setIfInBounds_toArray, List.set_cons_zero, List.set_cons_succ]
          refine wpList_runTo rfl (some 137) rfl (.int .i64 (i : Int)) wr (by kernel_rfl) ?_
          simp only [Act.put, List.setIfInBounds_toArray, List.set_cons_zero, List.set_cons_succ]
          refine wpList_runTo rfl (some 138) rfl (.agg (flL (mkF (-2))).toArray) wr (by kernel_rfl) ?_
          simp only [Act.put, List.setIfInBounds_toArray, List.set_cons_zero, List.set_cons_succ]
          refine wpList_runTo rfl (some 139) rfl (.pointer (some ⟨g, o + i * 5, none⟩)) wr (by exact ixFl_run (n := nm) (c := cm) (.tmp 136) (.tmp 137) rfl (by kernel_rfl) (by kernel_rfl) hlt _) ?_
          simp only [Act.put, List.setIfInBounds_toArray, List.set_cons_zero, List.set_cons_succ]
          refine wpList_store_mid rfl 39 (.tmp 139) (.tmp 138) rfl g (o + i * 5) (flL (mkF (-2))).toArray (by kernel_rfl) (by kernel_rfl) HS.out.1 infoFz (by first | kernel_rfl | (simp [flL, mkF, Value.oneCell'])) ?_
          try simp only [Act.put]
          have HF := HS.out.2
          clear HS
          change wpList _ _ _ _ _ (wr.setCells g (o + i * 5) (flL (mkF (-2))))
          generalize (wr.setCells g (o + i * 5) (flL (mkF (-2)))) = wz at *
          refine wpList_nil ?_
          refine hK _ _ ?_
          clear hK
          have hnb : nm ≤ 2000000000000 := by have := HNl.out; omega
          clear HNl HK HD HST
          go_wp2
          exact ⟨⟨i + 1, by omega, by go_num, HF⟩, by simp [RowKit.intOf]; omega⟩
        · obtain rfl : nm = i := by omega
          have hlt' : ¬ (nm : Int) < (nm : Int) := by omega
          have HZ : Hid (((LS w wr b s gb gs ∧ Blk wr b9 28 raw.cs ∧ Blk wr b16 28 r2.cs ∧ Blk wr b17 46 r2.cs)) ∧ RowAt wr 39 5 (.slice al nl cl) nl (flatL flL (wrF (-1) nl Fl)) ∧ RowAt wr 39 5 (.slice am nm cm) nm (flatL flL (wrF (-2) nm Fm)) ∧ RowAt wr 39 5 (.slice ap Fp.length cp) Fp.length (flatL flL Fp)) := HY
          clear HY
          generalize wr = wm at *
          obtain ⟨i0, hi0, hz0, hz1, hz2⟩ := info_parts infoFl
          have HI : Hid (Try.prog.info? 39 = some i0 ∧ i0.zero = some (.agg #[.int .i64 0, .int .i64 0, .int .i64 0, .int .i64 0, .int .i64 0]) ∧ i0.size = 5 ∧ i0.bytes = 40) := ⟨hi0, hz0, hz1, hz2⟩
          obtain ⟨n1, hn1⟩ : ∃ n1, n1 = nl + 3 := ⟨_, rfl⟩
          obtain ⟨n2, hn2⟩ : ∃ n2, n2 = nm + 3 := ⟨_, rfl⟩
          have HN3 : Hid (n1 = nl + 3 ∧ n2 = nm + 3) := ⟨hn1, hn2⟩
          have hb1 : n1 ≤ 3000000000000 := by have := HNl.out; omega
          have hb2 : n2 ≤ 3000000000000 := by have := HNl.out; omega
          clear hi0 hz0 hz1 hz2 hn1 hn2
          have HZ2 : Hid (((LS w wm b s gb gs ∧ Blk wm b9 28 raw.cs ∧ Blk wm b16 28 r2.cs ∧ Blk wm b17 46 r2.cs)) ∧ RowAt wm 39 5 (.slice al nl cl) nl (flatL flL (List.replicate nl (mkF (-1)))) ∧ RowAt wm 39 5 (.slice am nm cm) nm (flatL flL (List.replicate nm (mkF (-2)))) ∧ RowAt wm 39 5 (.slice ap Fp.length cp) Fp.length (flatL flL Fp)) := by
            have h := HZ.out
            have e1 : wrF (-1) nl Fl = (List.replicate nl (mkF (-1))) := by rw [HNl.out.1]; exact wrF_all
            have e2 : wrF (-2) nm Fm = (List.replicate nm (mkF (-2))) := by rw [HNl.out.2.1]; exact wrF_all
            rw [e1, e2] at h
            exact h
          clear HZ
          go_upto_region 25 with fail
          rename_i K hK
          refine wp_region_lit ?_
          refine wpList_runTo rfl (some 140) rfl (.slice al nl cl) wm (by kernel_rfl) ?_
          simp only [Act.put, List.setIfInBounds_toArray, List.set_cons_zero, List.set_cons_succ]
          refine wpList_runTo rfl (some 141) rfl (.agg (flL (mkF (-1))).toArray) wm (by kernel_rfl) ?_
          simp only [Act.put, List.setIfInBounds_toArray, List.set_cons_zero, List.set_cons_succ]
          refine wpList_runTo rfl (some 142) rfl (.agg (flL (mkF (-1))).toArray) wm (by kernel_rfl) ?_
          simp only [Act.put, List.setIfInBounds_toArray, List.set_cons_zero, List.set_cons_succ]
          refine wpList_runTo rfl (some 143) rfl (.agg (flL (mkF (-1))).toArray) wm (by kernel_rfl) ?_
          simp only [Act.put, List.setIfInBounds_toArray, List.set_cons_zero, List.set_cons_succ]
          refine wpList_runTo rfl (some 144) rfl (.slice (some ⟨wm.heap.size, 0, none⟩) 3 3) (wm.alloc (.cells (flatL flL (List.replicate 3 (mkF (-1)))).toArray 39)) (by exact build3_run (k := -1) (.tmp 141) (.tmp 142) (.tmp 143) rfl (by kernel_rfl) (by kernel_rfl) (by kernel_rfl) _) ?_
          simp only [Act.put, List.setIfInBounds_toArray, List.set_cons_zero, List.set_cons_succ]
          have hrA : RowAt (wm.alloc (.cells (flatL flL (List.replicate 3 (mkF (-1)))).toArray 39)) 39 5 (.slice al nl cl) nl (flatL flL (List.replicate nl (mkF (-1)))) := (HZ2.out.2.1).fr (Fr.alloc wm _ (fun _ => False)) fun _ _ => id
          have hnb : nl ≤ 2000000000000 := by have := HNl.out; omega
          refine wpList_append_row _ rfl (.tmp 140) (.tmp 144) 36 rfl 39 i0 _ 5 40 Try.underlying36 HI.out.1 HI.out.2.1 HI.out.2.2.1 HI.out.2.2.2 (by rfl) (.slice al nl cl) nl (flatL flL (List.replicate nl (mkF (-1)))) (by kernel_rfl) hrA ⟨wm.heap.size, 0, none⟩ 3 3 (flatL flL (List.replicate 3 (mkF (-1)))) (by kernel_rfl) (by rfl) (fun j u hj => by rw [Addr.add_mid, Nat.zero_add, (Blk.new wm 39 _).cell]; simpa using hj) (rep3_one (-1)) (Or.inl (by decide)) (by unfold maxLen; omega) (by omega) ?_
          intro v5 x5 hrow hfr hnew
          clear hrA hnb
          rw [rep_flat, ← HN3.out.1] at hrow
          have hf : Fr wm x5 (fun x => (Value.slice al nl cl).ownBlock = some x) := (Fr.alloc wm (.cells (flatL flL (List.replicate 3 (mkF (-1)))).toArray 39) (fun x => (Value.slice al nl cl).ownBlock = some x)).trans hfr (fun i _ q => by rcases q with q | q <;> exact q)
          have hsz : wm.heap.size < (wm.alloc (.cells (flatL flL (List.replicate 3 (mkF (-1)))).toArray 39)).heap.size := by simp
          have HE : Hid ((((LS w x5 b s gb gs ∧ Blk x5 b9 28 raw.cs ∧ Blk x5 b16 28 r2.cs ∧ Blk x5 b17 46 r2.cs)) ∧ RowAt x5 39 5 v5 n1 (flatL flL (List.replicate n1 (mkF (-1)))) ∧ RowAt x5 39 5 (.slice am nm cm) nm (flatL flL (List.replicate nm (mkF (-2)))) ∧ RowAt x5 39 5 (.slice ap Fp.length cp) Fp.length (flatL flL Fp)) ∧ ∀ q, v5.ownBlock = some q → h10 ≤ q ∧ (Value.slice am nm cm).ownBlock ≠ some q) := by
            have z := HZ2.out
            refine ⟨⟨HST.out z.1 hf (fun q e => HK.out.2.2.2.2.2.2.1 q e), hrow, z.2.2.1.fr hf (fun q hq e => HD.out.1 q e hq), z.2.2.2.fr hf (fun q hq e => HD.out.2.1 q e hq)⟩, fun q hq => ?_⟩
            rcases hnew with e | ⟨e, _⟩
            · rw [e] at hq
              exact ⟨HK.out.2.2.2.2.2.2.1 q hq, HD.out.1 q hq⟩
            · rw [hq] at e
              injection e with e
              have k1 := z.1.2.2.2.lt
              have k2 := HK.out.2.2.2.2.2.2.2.2.2
              refine ⟨by omega, fun e2 => ?_⟩
              have := (z.2.2.1.lt e2).1
              omega
          clear HZ2 hrow hfr hnew hf hsz
          try simp only [Act.put, List.setIfInBounds_toArray, List.set_cons_zero, List.set_cons_succ]
          refine wpList_runTo rfl (some 29) rfl (v5) x5 (by kernel_rfl) ?_
          simp only [Act.put, List.setIfInBounds_toArray, List.set_cons_zero, List.set_cons_succ]
          refine wpList_nil ?_
          refine hK _ _ ?_
          clear hK
          go_upto_region 26 with fail
          rename_i K hK
          refine wp_region_lit ?_
          refine wpList_runTo rfl (some 146) rfl (.slice am nm cm) x5 (by kernel_rfl) ?_
          simp only [Act.put, List.setIfInBounds_toArray, List.set_cons_zero, List.set_cons_succ]
          refine wpList_runTo rfl (some 147) rfl (.agg (flL (mkF (-2))).toArray) x5 (by kernel_rfl) ?_
          simp only [Act.put, List.setIfInBounds_toArray, List.set_cons_zero, List.set_cons_succ]
          refine wpList_runTo rfl (some 148) rfl (.agg (flL (mkF (-2))).toArray) x5 (by kernel_rfl) ?_
          simp only [Act.put, List.setIfInBounds_toArray, List.set_cons_zero, List.set_cons_succ]
          refine wpList_runTo rfl (some 149) rfl (.agg (flL (mkF (-2))).toArray) x5 (by kernel_rfl) ?_
          simp only [Act.put, List.setIfInBounds_toArray, List.set_cons_zero, List.set_cons_succ]
          refine wpList_runTo rfl (some 150) rfl (.slice (some ⟨x5.heap.size, 0, none⟩) 3 3) (x5.alloc (.cells (flatL flL (List.replicate 3 (mkF (-2)))).toArray 39)) (by exact build3_run (k := -2) (.tmp 147) (.tmp 148) (.tmp 149) rfl (by kernel_rfl) (by kernel_rfl) (by kernel_rfl) _) ?_
          simp only [Act.put, List.setIfInBounds_toArray, List.set_cons_zero, List.set_cons_succ]
          have hrA : RowAt (x5.alloc (.cells (flatL flL (List.replicate 3 (mkF (-2)))).toArray 39)) 39 5 (.slice am nm cm) nm (flatL flL (List.replicate nm (mkF (-2)))) := (HE.out.1.2.2.1).fr (Fr.alloc x5 _ (fun _ => False)) fun _ _ => id
          have hnb : nm ≤ 2000000000000 := by have := HNl.out; omega
          refine wpList_append_row _ rfl (.tmp 146) (.tmp 150) 36 rfl 39 i0 _ 5 40 Try.underlying36 HI.out.1 HI.out.2.1 HI.out.2.2.1 HI.out.2.2.2 (by rfl) (.slice am nm cm) nm (flatL flL (List.replicate nm (mkF (-2)))) (by kernel_rfl) hrA ⟨x5.heap.size, 0, none⟩ 3 3 (flatL flL (List.replicate 3 (mkF (-2)))) (by kernel_rfl) (by rfl) (fun j u hj => by rw [Addr.add_mid, Nat.zero_add, (Blk.new x5 39 _).cell]; simpa using hj) (rep3_one (-2)) (Or.inl (by decide)) (by unfold maxLen; omega) (by omega) ?_
          intro v6 x6 hrow hfr hnew
          clear hrA hnb
          rw [rep_flat, ← HN3.out.2] at hrow
          have hf : Fr x5 x6 (fun x => (Value.slice am nm cm).ownBlock = some x) := (Fr.alloc x5 (.cells (flatL flL (List.replicate 3 (mkF (-2)))).toArray 39) (fun x => (Value.slice am nm cm).ownBlock = some x)).trans hfr (fun i _ q => by rcases q with q | q <;> exact q)
          have hsz : x5.heap.size < (x5.alloc (.cells (flatL flL (List.replicate 3 (mkF (-2)))).toArray 39)).heap.size := by simp
          obtain ⟨af, cf, ef, _⟩ := HE.out.1.2.1.form
          obtain ⟨ag, cg, eg, _⟩ := hrow.form
          subst ef eg
          have HE2 : Hid (((LS w x6 b s gb gs ∧ Blk x6 b9 28 raw.cs ∧ Blk x6 b16 28 r2.cs ∧ Blk x6 b17 46 r2.cs)) ∧ RowAt x6 39 5 (.slice af n1 cf) n1 (flatL flL (List.replicate n1 (mkF (-1)))) ∧ RowAt x6 39 5 (.slice ag n2 cg) n2 (flatL flL (List.replicate n2 (mkF (-2)))) ∧ RowAt x6 39 5 (.slice ap Fp.length cp) Fp.length (flatL flL Fp)) := by
            have z := HE.out
            exact ⟨HST.out z.1.1 hf (fun q e => HK.out.2.2.2.2.2.2.2.1 q e), z.1.2.1.fr hf (fun q hq e => (z.2 q hq).2 e), hrow, z.1.2.2.2.fr hf (fun q hq e => HD.out.2.2 q e hq)⟩
          clear HE hrow hfr hnew hf hsz HK HD HST HI
          try simp only [Act.put, List.setIfInBounds_toArray, List.set_cons_zero, List.set_cons_succ]
          refine wpList_runTo rfl (some 30) rfl (.slice ag n2 cg) x6 (by kernel_rfl) ?_
          simp only [Act.put, List.setIfInBounds_toArray, List.set_cons_zero, List.set_cons_succ]
          refine wpList_nil ?_
          refine hK _ _ ?_
          clear hK
          have HBW : Hid (∀ {W W' : World}, ((LS w W b s gb gs ∧ Blk W b9 28 raw.cs ∧ Blk W b16 28 r2.cs ∧ Blk W b17 46 r2.cs)) ∧ RowAt W 39 5 (.slice af n1 cf) n1 (flatL flL (List.replicate n1 (mkF (-1)))) ∧ RowAt W 39 5 (.slice ag n2 cg) n2 (flatL flL (List.replicate n2 (mkF (-2)))) ∧ RowAt W 39 5 (.slice ap Fp.length cp) Fp.length (flatL flL Fp) → Below W.heap.size W W' → ((LS w W' b s gb gs ∧ Blk W' b9 28 raw.cs ∧ Blk W' b16 28 r2.cs ∧ Blk W' b17 46 r2.cs)) ∧ RowAt W' 39 5 (.slice af n1 cf) n1 (flatL flL (List.replicate n1 (mkF (-1)))) ∧ RowAt W' 39 5 (.slice ag n2 cg) n2 (flatL flL (List.replicate n2 (mkF (-2)))) ∧ RowAt W' 39 5 (.slice ap Fp.length cp) Fp.length (flatL flL Fp)) := fun {W W'} h k => ⟨⟨h.1.1.below k, h.1.2.1.below k h.1.2.1.lt, h.1.2.2.1.below k h.1.2.2.1.lt, h.1.2.2.2.below k h.1.2.2.2.lt⟩, h.2.1.fr (Fr.of_below k (fun _ => False)) (fun _ _ => id), h.2.2.1.fr (Fr.of_below k (fun _ => False)) (fun _ _ => id), h.2.2.2.fr (Fr.of_below k (fun _ => False)) (fun _ _ => id)⟩
          go_upto_region 27 with fail
          go_cut [31] from 152 to 168 (fun x31 wx => x31 = .bool true ∧ Hid (((LS w wx b s gb gs ∧ Blk wx b9 28 raw.cs ∧ Blk wx b16 28 r2.cs ∧ Blk wx b17 46 r2.cs)) ∧ RowAt wx 39 5 (.slice af n1 cf) n1 (flatL flL (List.replicate n1 (mkF (-1)))) ∧ RowAt wx 39 5 (.slice ag n2 cg) n2 (flatL flL (List.replicate n2 (mkF (-2)))) ∧ RowAt wx 39 5 (.slice ap Fp.length cp) Fp.length (flatL flL Fp)))
          case first => as_aux_lemma =>
            rename_i J9 K9 hJ9 hK9
            have HP0 : Hid (((LS w x6.drew b s gb gs ∧ Blk x6.drew b9 28 raw.cs ∧ Blk x6.drew b16 28 r2.cs ∧ Blk x6.drew b17 46 r2.cs)) ∧ RowAt x6.drew 39 5 (.slice af n1 cf) n1 (flatL flL (List.replicate n1 (mkF (-1)))) ∧ RowAt x6.drew 39 5 (.slice ag n2 cg) n2 (flatL flL (List.replicate n2 (mkF (-2)))) ∧ RowAt x6.drew 39 5 (.slice ap Fp.length cp) Fp.length (flatL flL Fp)) := HBW.out HE2.out ((Below.refl _ x6).drew)
            clear HE2
            refine wp_region_held (S := fun w' => Blk w' b16 28 r2.cs ∧ Blk w' b17 46 r2.cs) (by kernel_rfl) ?_
            change wpAnyH _ _ _ _ _ _ _ _ (World.drew _)
            generalize x6.drew = y0 at *
            have hS0 : Blk y0 b16 28 r2.cs ∧ Blk y0 b17 46 r2.cs := ⟨HP0.out.1.2.2.1, HP0.out.1.2.2.2⟩
            refine takeR (i := 0) (v := .slice (some ⟨gb, 0, none⟩) lb (lb + 8)) (some 152) rfl rfl (by kernel_rfl) (by kernel_rfl) (by kernel_rfl) (fun _ _ _ h => h) (Or.inl ⟨by kernel_rfl, fun w' hSw => by kernel_rfl⟩) hS0 ?_
            simp only [Act.put, List.setIfInBounds_toArray, List.set_cons_zero, List.set_cons_succ]
            refine takeR (i := 1) (v := .slice (some ⟨gs, 0, none⟩) ls (ls + 8)) (some 153) rfl rfl (by kernel_rfl) (by kernel_rfl) (by kernel_rfl) (fun _ _ _ h => h) (Or.inl ⟨by kernel_rfl, fun w' hSw => by kernel_rfl⟩) hS0 ?_
            simp only [Act.put, List.setIfInBounds_toArray, List.set_cons_zero, List.set_cons_succ]
            refine takeR (i := 2) (v := .agg r2.cs) (some 154) rfl rfl (by kernel_rfl) (by kernel_rfl) (by kernel_rfl) (fun _ _ _ h => h) (Or.inl ⟨by kernel_rfl, fun w' hSw => by exact ldA_run (blk_range hSw.1) Try.underlying28 rfl infoRs (.tmp 16) rfl (by kernel_rfl)⟩) hS0 ?_
            simp only [Act.put, List.setIfInBounds_toArray, List.set_cons_zero, List.set_cons_succ]
            refine takeR (i := 4) (v := .slice a lb c) (some 156) rfl rfl (by kernel_rfl) (by kernel_rfl) (by kernel_rfl) (fun _ _ _ h => h) (Or.inl ⟨by kernel_rfl, fun w' hSw => by kernel_rfl⟩) hS0 ?_
            simp only [Act.put, List.setIfInBounds_toArray, List.set_cons_zero, List.set_cons_succ]
            refine takeR (i := 5) (v := .slice a' ls c') (some 157) rfl rfl (by kernel_rfl) (by kernel_rfl) (by kernel_rfl) (fun _ _ _ h => h) (Or.inl ⟨by kernel_rfl, fun w' hSw => by kernel_rfl⟩) hS0 ?_
            simp only [Act.put, List.setIfInBounds_toArray, List.set_cons_zero, List.set_cons_succ]
            refine takeR (i := 6) (v := .agg r2.cs) (some 158) rfl rfl (by kernel_rfl) (by kernel_rfl) (by kernel_rfl) (fun _ _ _ h => h) (Or.inl ⟨by kernel_rfl, fun w' hSw => by exact ldA_run (blk_range hSw.2) Try.underlying46 rfl infoR46 (.tmp 17) rfl (by kernel_rfl)⟩) hS0 ?_
            simp only [Act.put, List.setIfInBounds_toArray, List.set_cons_zero, List.set_cons_succ]
            refine wpAnyH_ready (rs := [3]) (by kernel_rfl) (by simp) ?_
            refine AllReadyH.cons rfl (fun K1 hK1 => ?_) AllReadyH.nil
            have hc := Fills_any (w := y0) (HIN.out HP0.out.1.1).1 HB.out.1 (by have := HB.out.2.2.1; omega) (HIN.out HP0.out.1.1).2 HB.out.2.1 (by have := HB.out.2.2.2; omega) r2 HQ.out.1
            rw [← HLN.out.1, ← HLN.out.2] at hc
            rw [if_pos (by kernel_rfl)]
            refine callR (d := some 155) rfl 14 #[.slice (some ⟨gb, 0, none⟩) lb (lb + 8), .slice (some ⟨gs, 0, none⟩) ls (ls + 8), .agg r2.cs] (by kernel_rfl) hc ?_
            clear hc
            rintro e y1 ⟨va, rfl, HC⟩
            refine ⟨_, rfl, ?_⟩
            obtain ⟨Fa, hfa⟩ := HC.out
            obtain ⟨aa, ca, ea, _⟩ := hfa.1.row.form
            subst ea
            have HP1 : Hid (((LS w y1 b s gb gs ∧ Blk y1 b9 28 raw.cs ∧ Blk y1 b16 28 r2.cs ∧ Blk y1 b17 46 r2.cs)) ∧ RowAt y1 39 5 (.slice af n1 cf) n1 (flatL flL (List.replicate n1 (mkF (-1)))) ∧ RowAt y1 39 5 (.slice ag n2 cg) n2 (flatL flL (List.replicate n2 (mkF (-2)))) ∧ RowAt y1 39 5 (.slice ap Fp.length cp) Fp.length (flatL flL Fp)) := HBW.out HP0.out hfa.1.bel
            clear HP0 HC
            have hS1 : Blk y1 b16 28 r2.cs ∧ Blk y1 b17 46 r2.cs := ⟨HP1.out.1.2.2.1, HP1.out.1.2.2.2⟩
            refine hK1.out _ _ hS1 (fun _ => ?_)
            clear hK1
            simp only [Act.put, List.setIfInBounds_toArray, List.set_cons_zero, List.set_cons_succ]
            have hc := refFills_any (w := y1) (HP1.out.1.1.old HR.out.1.1) HR.out.1.2.1 HB.out.2.2.1 (HP1.out.1.1.old HR.out.2.1) HR.out.2.2.1 HB.out.2.2.2 r2 HQ.out.1
            rw [← HLN.out.1, ← HLN.out.2] at hc
            refine wpAnyH_ready (rs := [7]) (by kernel_rfl) (by simp) ?_
            refine AllReadyH.cons rfl (fun K1 hK1 => ?_) AllReadyH.nil
            rw [if_pos (by kernel_rfl)]
            refine callR (d := some 159) rfl 20 #[.slice a lb c, .slice a' ls c', .agg r2.cs] (by kernel_rfl) hc ?_
            clear hc
            rintro e y2 ⟨vb, rfl, HC⟩
            refine ⟨_, rfl, ?_⟩
            obtain ⟨Fb, hfb, hu⟩ := HC.out
            obtain rfl := hu _ hfa.2
            obtain ⟨ab, cb, eb, _⟩ := hfb.row.form
            subst eb
            have HP2 : Hid (((LS w y2 b s gb gs ∧ Blk y2 b9 28 raw.cs ∧ Blk y2 b16 28 r2.cs ∧ Blk y2 b17 46 r2.cs)) ∧ RowAt y2 39 5 (.slice af n1 cf) n1 (flatL flL (List.replicate n1 (mkF (-1)))) ∧ RowAt y2 39 5 (.slice ag n2 cg) n2 (flatL flL (List.replicate n2 (mkF (-2)))) ∧ RowAt y2 39 5 (.slice ap Fp.length cp) Fp.length (flatL flL Fp)) := HBW.out HP1.out hfb.bel
            have HT : Hid (RowAt y2 39 5 (.slice aa Fa.length ca) Fa.length (flatL flL Fa) ∧ RowAt y2 39 5 (.slice ab Fa.length cb) Fa.length (flatL flL Fa) ∧ Fa.length ≤ 2000000000000) := ⟨hfa.1.row.fr (Fr.of_below hfb.bel (fun _ => False)) (fun _ _ => id), hfb.row, by have := FV_len hfa.2; have := HB.out; omega⟩
            clear HP1 HC hu hfa hfb
            have hS2 : Blk y2 b16 28 r2.cs ∧ Blk y2 b17 46 r2.cs := ⟨HP2.out.1.2.2.1, HP2.out.1.2.2.2⟩
            refine hK1.out _ _ hS2 (fun _ => ?_)
            clear hK1
            simp only [Act.put, List.setIfInBounds_toArray, List.set_cons_zero, List.set_cons_succ]
            have hc := fillsL2_any HT.out.1 HT.out.2.1 HT.out.2.2
            refine wpAnyH_ready (rs := [8]) (by kernel_rfl) (by simp) ?_
            refine AllReadyH.cons rfl (fun K1 hK1 => ?_) AllReadyH.nil
            rw [if_pos (by kernel_rfl)]
            refine callR (d := some 160) rfl 16 #[.slice aa Fa.length ca, .slice ab Fa.length cb] (by kernel_rfl) hc ?_
            clear hc
            rintro e y3 ⟨rfl, hb⟩
            refine ⟨_, rfl, ?_⟩
            have HP3 : Hid (((LS w y3 b s gb gs ∧ Blk y3 b9 28 raw.cs ∧ Blk y3 b16 28 r2.cs ∧ Blk y3 b17 46 r2.cs)) ∧ RowAt y3 39 5 (.slice af n1 cf) n1 (flatL flL (List.replicate n1 (mkF (-1)))) ∧ RowAt y3 39 5 (.slice ag n2 cg) n2 (flatL flL (List.replicate n2 (mkF (-2)))) ∧ RowAt y3 39 5 (.slice ap Fp.length cp) Fp.length (flatL flL Fp)) := HBW.out HP2.out hb
            clear hb HT HP2
            have hS3 : Blk y3 b16 28 r2.cs ∧ Blk y3 b17 46 r2.cs := ⟨HP3.out.1.2.2.1, HP3.out.1.2.2.2⟩
            refine hK1.out _ _ hS3 (fun _ => ?_)
            clear hK1
            simp only [Act.put, List.setIfInBounds_toArray, List.set_cons_zero, List.set_cons_succ]
            refine takeR (i := 9) (v := .bool true) (some 161) rfl rfl (by kernel_rfl) (by kernel_rfl) (by kernel_rfl) (fun _ _ _ h => h) (Or.inl ⟨by kernel_rfl, fun w' hSw => by kernel_rfl⟩) hS3 ?_
            simp only [Act.put, List.setIfInBounds_toArray, List.set_cons_zero, List.set_cons_succ]
            refine takeR (i := 10) (v := .slice ap Fp.length cp) (some 162) rfl rfl (by kernel_rfl) (by kernel_rfl) (by kernel_rfl) (fun _ _ _ h => h) (Or.inl ⟨by kernel_rfl, fun w' hSw => by kernel_rfl⟩) hS3 ?_
            simp only [Act.put, List.setIfInBounds_toArray, List.set_cons_zero, List.set_cons_succ]
            refine takeR (i := 11) (v := .slice a lb c) (some 163) rfl rfl (by kernel_rfl) (by kernel_rfl) (by kernel_rfl) (fun _ _ _ h => h) (Or.inl ⟨by kernel_rfl, fun w' hSw => by kernel_rfl⟩) hS3 ?_
            simp only [Act.put, List.setIfInBounds_toArray, List.set_cons_zero, List.set_cons_succ]
            refine takeR (i := 12) (v := .slice a' ls c') (some 164) rfl rfl (by kernel_rfl) (by kernel_rfl) (by kernel_rfl) (fun _ _ _ h => h) (Or.inl ⟨by kernel_rfl, fun w' hSw => by kernel_rfl⟩) hS3 ?_
            simp only [Act.put, List.setIfInBounds_toArray, List.set_cons_zero, List.set_cons_succ]
            refine takeR (i := 13) (v := .agg r2.cs) (some 165) rfl rfl (by kernel_rfl) (by kernel_rfl) (by kernel_rfl) (fun _ _ _ h => h) (Or.inl ⟨by kernel_rfl, fun w' hSw => by exact ldA_run (blk_range hSw.2) Try.underlying46 rfl infoR46 (.tmp 17) rfl (by kernel_rfl)⟩) hS3 ?_
            simp only [Act.put, List.setIfInBounds_toArray, List.set_cons_zero, List.set_cons_succ]
            have hc := refFills_any (w := y3) (HP3.out.1.1.old HR.out.1.1) HR.out.1.2.1 HB.out.2.2.1 (HP3.out.1.1.old HR.out.2.1) HR.out.2.2.1 HB.out.2.2.2 r2 HQ.out.1
            rw [← HLN.out.1, ← HLN.out.2] at hc
            refine wpAnyH_ready (rs := [14]) (by kernel_rfl) (by simp) ?_
            refine AllReadyH.cons rfl (fun K1 hK1 => ?_) AllReadyH.nil
            rw [if_pos (by kernel_rfl)]
            refine callR (d := some 166) rfl 20 #[.slice a lb c, .slice a' ls c', .agg r2.cs] (by kernel_rfl) hc ?_
            clear hc
            rintro e y4 ⟨vc, rfl, HC⟩
            refine ⟨_, rfl, ?_⟩
            obtain ⟨Fc, hfc, hu⟩ := HC.out
            obtain rfl := hu _ HFp.out.2.2.2.1
            obtain ⟨ac, cc, ec, _⟩ := hfc.row.form
            subst ec
            have HP4 : Hid (((LS w y4 b s gb gs ∧ Blk y4 b9 28 raw.cs ∧ Blk y4 b16 28 r2.cs ∧ Blk y4 b17 46 r2.cs)) ∧ RowAt y4 39 5 (.slice af n1 cf) n1 (flatL flL (List.replicate n1 (mkF (-1)))) ∧ RowAt y4 39 5 (.slice ag n2 cg) n2 (flatL flL (List.replicate n2 (mkF (-2)))) ∧ RowAt y4 39 5 (.slice ap Fp.length cp) Fp.length (flatL flL Fp)) := HBW.out HP3.out hfc.bel
            have hc := fillsL2_any HP4.out.2.2.2 hfc.row HFp.out.2.2.2.2
            clear hu HC hfc HP3
            have hS4 : Blk y4 b16 28 r2.cs ∧ Blk y4 b17 46 r2.cs := ⟨HP4.out.1.2.2.1, HP4.out.1.2.2.2⟩
            refine hK1.out _ _ hS4 (fun _ => ?_)
            clear hK1
            simp only [Act.put, List.setIfInBounds_toArray, List.set_cons_zero, List.set_cons_succ]
            refine wpAnyH_ready (rs := [15]) (by kernel_rfl) (by simp) ?_
            refine AllReadyH.cons rfl (fun K1 hK1 => ?_) AllReadyH.nil
            rw [if_pos (by kernel_rfl)]
            refine callR (d := some 167) rfl 16 #[.slice ap Fp.length cp, .slice ac Fp.length cc] (by kernel_rfl) hc ?_
            clear hc
            rintro e y5 ⟨rfl, hb⟩
            refine ⟨_, rfl, ?_⟩
            have HP5 : Hid (((LS w y5 b s gb gs ∧ Blk y5 b9 28 raw.cs ∧ Blk y5 b16 28 r2.cs ∧ Blk y5 b17 46 r2.cs)) ∧ RowAt y5 39 5 (.slice af n1 cf) n1 (flatL flL (List.replicate n1 (mkF (-1)))) ∧ RowAt y5 39 5 (.slice ag n2 cg) n2 (flatL flL (List.replicate n2 (mkF (-2)))) ∧ RowAt y5 39 5 (.slice ap Fp.length cp) Fp.length (flatL flL Fp)) := HBW.out HP4.out hb
            clear hb HP4
            have hS5 : Blk y5 b16 28 r2.cs ∧ Blk y5 b17 46 r2.cs := ⟨HP5.out.1.2.2.1, HP5.out.1.2.2.2⟩
            refine hK1.out _ _ hS5 (fun _ => ?_)
            clear hK1
            simp only [Act.put, List.setIfInBounds_toArray, List.set_cons_zero, List.set_cons_succ]
            refine takeR (i := 16) (v := .bool true) (some 168) rfl rfl (by kernel_rfl) (by kernel_rfl) (by kernel_rfl) (fun _ _ _ h => h) (Or.inl ⟨by kernel_rfl, fun w' hSw => by exact pick_run (c := true) (.tmp 161) (.tmp 167) rfl (by kernel_rfl) (by kernel_rfl) _⟩) hS5 ?_
            simp only [Act.put, List.setIfInBounds_toArray, List.set_cons_zero, List.set_cons_succ]
            refine takeR (i := 17) (v := .bool true) (some 31) rfl rfl (by kernel_rfl) (by kernel_rfl) (by kernel_rfl) (fun _ _ _ h => h) (Or.inl ⟨by kernel_rfl, fun w' hSw => by kernel_rfl⟩) hS5 ?_
            simp only [Act.put, List.setIfInBounds_toArray, List.set_cons_zero, List.set_cons_succ]
            refine wpAnyH_done (by kernel_rfl) ?_ _
            first
              | refine hK9 _ _ (hJ9 _ _ ?_)
              | refine hJ9 _ _ ?_
            repeat apply Exists.intro
            exact ⟨⟨rfl, HP5⟩, rfl⟩
          case rest =>
            obtain ⟨rfl, HG⟩ := hcut
            generalize wc = y9 at *
            go_upto_region 29 with fail
            go_loopw [31, 32] (fun x31 x wr => ∃ i : Nat, i ≤ n1 ∧ x31 = .bool true ∧ x = .int .i64 (i : Int) ∧ wr = y9) (fun _ x _ => n1 - (RowKit.intOf x).toNat)
            case atStart => exact ⟨0, Nat.zero_le _, rfl, rfl, rfl⟩
            case round => as_aux_lemma =>
              obtain ⟨i, hi, rfl, rfl, ew⟩ := hrel
              subst ew
              by_cases hlt : i < n1
              · have hlt' : (i : Int) < ((n1 : Nat) : Int) := by omega
                obtain ⟨g, o, c0, cur, ea, _⟩ := HG.out.2.1.more (by omega)
                injection ea with ea1 _ ea2
                subst ea1 ea2
                have q : wr.cell? ⟨g, o + i * 5 + 0, none⟩ = some (.int .i64 (-1)) := fl_cell HG.out.2.1 (List.getElem?_replicate_of_lt hlt) (by decide) rfl
                go_upto_region 31 with fail
                rename_i K hK
                refine wp_region_lit ?_
                refine wpList_runTo rfl (some 175) rfl (.bool true) wr (by kernel_rfl) ?_
                simp only [Act.put, List.setIfInBounds_toArray, List.set_cons_zero, List.set_cons_succ]
                refine wpList_runTo rfl (some 176) rfl (.bool true) wr (by kernel_rfl) ?_
                simp only [Act.put, List.setIfInBounds_toArray, List.set_cons_zero, List.set_cons_succ]
                refine wpList_runToG (by kernel_rfl) (some 177) rfl (.slice (some ⟨g, o, none⟩) n1 cf) wr (by kernel_rfl) ?_
                simp only [Act.put, List.setIfInBounds_toArray, List.set_cons_zero, List.set_cons_succ]
                refine wpList_runToG (by kernel_rfl) (some 178) rfl (.int .i64 (i : Int)) wr (by kernel_rfl) ?_
                simp only [Act.put, List.setIfInBounds_toArray, List.set_cons_zero, List.set_cons_succ]
                refine wpList_runToG (by kernel_rfl) (some 179) rfl (.pointer (some ⟨g, o + i * 5, none⟩)) wr (by exact ixFl_run (n := n1) (c := cf) (.tmp 177) (.tmp 178) rfl (by kernel_rfl) (by kernel_rfl) hlt _) ?_
                simp only [Act.put, List.setIfInBounds_toArray, List.set_cons_zero, List.set_cons_succ]
                refine wpList_runToG (by kernel_rfl) (some 180) rfl (.pointer (some ⟨g, o + i * 5 + 0, none⟩)) wr (by kernel_rfl) ?_
                simp only [Act.put, List.setIfInBounds_toArray, List.set_cons_zero, List.set_cons_succ]
                refine wpList_runToG (by kernel_rfl) (some 181) rfl (.int .i64 (-1)) wr (by exact ldN_run (.inr rfl) (.tmp 180) rfl (by kernel_rfl) q) ?_
                simp only [Act.put, List.setIfInBounds_toArray, List.set_cons_zero, List.set_cons_succ]
                refine wpList_runToG (by kernel_rfl) (some 182) rfl (.bool true) wr (by kernel_rfl) ?_
                simp only [Act.put, List.setIfInBounds_toArray, List.set_cons_zero, List.set_cons_succ]
                refine wpList_runTo rfl (some 183) rfl (.bool true) wr (by exact pick_run (c := true) (.tmp 176) (.tmp 182) rfl (by kernel_rfl) (by kernel_rfl) _) ?_
                simp only [Act.put, List.setIfInBounds_toArray, List.set_cons_zero, List.set_cons_succ]
                refine wpList_runTo rfl (some 31) rfl (.bool true) wr (by kernel_rfl) ?_
                simp only [Act.put, List.setIfInBounds_toArray, List.set_cons_zero, List.set_cons_succ]
                refine wpList_nil ?_
                refine hK _ _ ?_
                clear hK
                clear q
                go_wp2
                exact ⟨⟨i + 1, by omega, by first | rfl | trivial, by go_num, by first | rfl | trivial⟩, by simp [RowKit.intOf]; omega⟩
              · obtain rfl : n1 = i := by omega
                have hlt' : ¬ ((n1 : Nat) : Int) < ((n1 : Nat) : Int) := by omega
                generalize wr = y9 at *
                go_upto_region 33 with fail
                go_loopw [31, 33] (fun x31 x wr => ∃ i : Nat, i ≤ n2 ∧ x31 = .bool true ∧ x = .int .i64 (i : Int) ∧ wr = y9) (fun _ x _ => n2 - (RowKit.intOf x).toNat)
                case atStart => exact ⟨0, Nat.zero_le _, rfl, rfl, rfl⟩
                case round => as_aux_lemma =>
                  obtain ⟨i, hi, rfl, rfl, ew⟩ := hrel
                  subst ew
                  by_cases hlt : i < n2
                  · have hlt' : (i : Int) < ((n2 : Nat) : Int) := by omega
                    obtain ⟨g, o, c0, cur, ea, _⟩ := HG.out.2.2.1.more (by omega)
                    injection ea with ea1 _ ea2
                    subst ea1 ea2
                    have q : wr.cell? ⟨g, o + i * 5 + 0, none⟩ = some (.int .i64 (-2)) := fl_cell HG.out.2.2.1 (List.getElem?_replicate_of_lt hlt) (by decide) rfl
                    go_upto_region 35 with fail
                    rename_i K hK
                    refine wp_region_lit ?_
                    refine wpList_runTo rfl (some 190) rfl (.bool true) wr (by kernel_rfl) ?_
                    simp only [Act.put, List.setIfInBounds_toArray, List.set_cons_zero, List.set_cons_succ]
                    refine wpList_runTo rfl (some 191) rfl (.bool true) wr (by kernel_rfl) ?_
                    simp only [Act.put, List.setIfInBounds_toArray, List.set_cons_zero, List.set_cons_succ]
                    refine wpList_runToG (by kernel_rfl) (some 192) rfl (.slice (some ⟨g, o, none⟩) n2 cg) wr (by kernel_rfl) ?_
                    simp only [Act.put, List.setIfInBounds_toArray, List.set_cons_zero, List.set_cons_succ]
                    refine wpList_runToG (by kernel_rfl) (some 193) rfl (.int .i64 (i : Int)) wr (by kernel_rfl) ?_
                    simp only [Act.put, List.setIfInBounds_toArray, List.set_cons_zero, List.set_cons_succ]
                    refine wpList_runToG (by kernel_rfl) (some 194) rfl (.pointer (some ⟨g, o + i * 5, none⟩)) wr (by exact ixFl_run (n := n2) (c := cg) (.tmp 192) (.tmp 193) rfl (by kernel_rfl) (by kernel_rfl) hlt _) ?_
                    simp only [Act.put, List.setIfInBounds_toArray, List.set_cons_zero, List.set_cons_succ]
                    refine wpList_runToG (by kernel_rfl) (some 195) rfl (.pointer (some ⟨g, o + i * 5 + 0, none⟩)) wr (by kernel_rfl) ?_
                    simp only [Act.put, List.setIfInBounds_toArray, List.set_cons_zero, List.set_cons_succ]
                    refine wpList_runToG (by kernel_rfl) (some 196) rfl (.int .i64 (-2)) wr (by exact ldN_run (.inr rfl) (.tmp 195) rfl (by kernel_rfl) q) ?_
                    simp only [Act.put, List.setIfInBounds_toArray, List.set_cons_zero, List.set_cons_succ]
                    refine wpList_runToG (by kernel_rfl) (some 197) rfl (.bool true) wr (by kernel_rfl) ?_
                    simp only [Act.put, List.setIfInBounds_toArray, List.set_cons_zero, List.set_cons_succ]
                    refine wpList_runTo rfl (some 198) rfl (.bool true) wr (by exact pick_run (c := true) (.tmp 191) (.tmp 197) rfl (by kernel_rfl) (by kernel_rfl) _) ?_
                    simp only [Act.put, List.setIfInBounds_toArray, List.set_cons_zero, List.set_cons_succ]
                    refine wpList_runTo rfl (some 31) rfl (.bool true) wr (by kernel_rfl) ?_
                    simp only [Act.put, List.setIfInBounds_toArray, List.set_cons_zero, List.set_cons_succ]
                    refine wpList_nil ?_
                    refine hK _ _ ?_
                    clear hK
                    clear q
                    go_wp2
                    exact ⟨⟨i + 1, by omega, by first | rfl | trivial, by go_num, by first | rfl | trivial⟩, by simp [RowKit.intOf]; omega⟩
                  · obtain rfl : n2 = i := by omega
                    have hlt' : ¬ ((n2 : Nat) : Int) < ((n2 : Nat) : Int) := by omega
                    generalize wr = y9 at *
                    have hc := still_any (w := y9) HG.out.1.1.ob (HG.out.1.1.old HR.out.1.1) HR.out.1.2.1 HB.out.2.2.1
                    rw [← HLN.out.1] at hc
                    go_upto_region 36 with fail
                    rename_i K hK
                    refine wp_region_lit ?_
                    refine wpList_runTo rfl (some 199) rfl (.slice (some ⟨gb, 0, none⟩) (lb + 8) (lb + 8)) y9 (by kernel_rfl) ?_
                    simp only [Act.put, List.setIfInBounds_toArray, List.set_cons_zero, List.set_cons_succ]
                    refine wpList_runTo rfl (some 200) rfl (.slice a lb c) y9 (by kernel_rfl) ?_
                    simp only [Act.put, List.setIfInBounds_toArray, List.set_cons_zero, List.set_cons_succ]
                    refine wpList_callW rfl (some 201) rfl 21 #[.slice (some ⟨gb, 0, none⟩) (lb + 8) (lb + 8), .slice a lb c] (by kernel_rfl) hc ?_
                    rintro e z1 ⟨rfl, hb⟩
                    refine ⟨_, rfl, ?_⟩
                    simp only [Act.put, List.setIfInBounds_toArray, List.set_cons_zero, List.set_cons_succ]
                    have HGz1 : Hid (((LS w z1 b s gb gs ∧ Blk z1 b9 28 raw.cs ∧ Blk z1 b16 28 r2.cs ∧ Blk z1 b17 46 r2.cs)) ∧ RowAt z1 39 5 (.slice af n1 cf) n1 (flatL flL (List.replicate n1 (mkF (-1)))) ∧ RowAt z1 39 5 (.slice ag n2 cg) n2 (flatL flL (List.replicate n2 (mkF (-2)))) ∧ RowAt z1 39 5 (.slice ap Fp.length cp) Fp.length (flatL flL Fp)) := HBW.out HG.out hb
                    clear hc hb
                    refine wpList_runTo rfl (some 34) rfl (.bool true) z1 (by kernel_rfl) ?_
                    simp only [Act.put, List.setIfInBounds_toArray, List.set_cons_zero, List.set_cons_succ]
                    refine wpList_nil ?_
                    refine hK _ _ ?_
                    clear hK
                    have hc := still_any (w := z1) HGz1.out.1.1.os (HGz1.out.1.1.old HR.out.2.1) HR.out.2.2.1 HB.out.2.2.2
                    rw [← HLN.out.2] at hc
                    go_upto_region 37 with fail
                    rename_i K hK
                    refine wp_region_lit ?_
                    refine wpList_runTo rfl (some 202) rfl (.slice (some ⟨gs, 0, none⟩) (ls + 8) (ls + 8)) z1 (by kernel_rfl) ?_
                    simp only [Act.put, List.setIfInBounds_toArray, List.set_cons_zero, List.set_cons_succ]
                    refine wpList_runTo rfl (some 203) rfl (.slice a' ls c') z1 (by kernel_rfl) ?_
                    simp only [Act.put, List.setIfInBounds_toArray, List.set_cons_zero, List.set_cons_succ]
                    refine wpList_callW rfl (some 204) rfl 21 #[.slice (some ⟨gs, 0, none⟩) (ls + 8) (ls + 8), .slice a' ls c'] (by kernel_rfl) hc ?_
                    rintro e z2 ⟨rfl, hb⟩
                    refine ⟨_, rfl, ?_⟩
                    simp only [Act.put, List.setIfInBounds_toArray, List.set_cons_zero, List.set_cons_succ]
                    have HGz2 : Hid (((LS w z2 b s gb gs ∧ Blk z2 b9 28 raw.cs ∧ Blk z2 b16 28 r2.cs ∧ Blk z2 b17 46 r2.cs)) ∧ RowAt z2 39 5 (.slice af n1 cf) n1 (flatL flL (List.replicate n1 (mkF (-1)))) ∧ RowAt z2 39 5 (.slice ag n2 cg) n2 (flatL flL (List.replicate n2 (mkF (-2)))) ∧ RowAt z2 39 5 (.slice ap Fp.length cp) Fp.length (flatL flL Fp)) := HBW.out HGz1.out hb
                    clear hc hb
                    refine wpList_runTo rfl (some 35) rfl (.bool true) z2 (by kernel_rfl) ?_
                    simp only [Act.put, List.setIfInBounds_toArray, List.set_cons_zero, List.set_cons_succ]
                    refine wpList_nil ?_
                    refine hK _ _ ?_
                    clear hK
                    go_upto_region 38 with fail
                    rename_i K hK
                    refine wp_region_lit ?_
                    refine wpList_runTo rfl (some 205) rfl (.bool true) z2 (by kernel_rfl) ?_
                    simp only [Act.put, List.setIfInBounds_toArray, List.set_cons_zero, List.set_cons_succ]
                    refine wpList_runTo rfl (some 206) rfl (.bool true) z2 (by kernel_rfl) ?_
                    simp only [Act.put, List.setIfInBounds_toArray, List.set_cons_zero, List.set_cons_succ]
                    refine wpList_runToG (by kernel_rfl) (some 207) rfl (.bool true) z2 (by kernel_rfl) ?_
                    simp only [Act.put, List.setIfInBounds_toArray, List.set_cons_zero, List.set_cons_succ]
                    refine wpList_runTo rfl (some 208) rfl (.bool true) z2 (by exact pick_run (c := true) (.tmp 206) (.tmp 207) rfl (by kernel_rfl) (by kernel_rfl) _) ?_
                    simp only [Act.put, List.setIfInBounds_toArray, List.set_cons_zero, List.set_cons_succ]
                    refine wpList_runTo rfl (some 209) rfl (.bool true) z2 (by kernel_rfl) ?_
                    simp only [Act.put, List.setIfInBounds_toArray, List.set_cons_zero, List.set_cons_succ]
                    refine wpList_runToG (by kernel_rfl) (some 210) rfl (.bool true) z2 (by kernel_rfl) ?_
                    simp only [Act.put, List.setIfInBounds_toArray, List.set_cons_zero, List.set_cons_succ]
                    refine wpList_runTo rfl (some 211) rfl (.bool true) z2 (by exact pick_run (c := true) (.tmp 209) (.tmp 210) rfl (by kernel_rfl) (by kernel_rfl) _) ?_
                    simp only [Act.put, List.setIfInBounds_toArray, List.set_cons_zero, List.set_cons_succ]
                    refine wpList_runTo rfl (some 212) rfl (.bool true) z2 (by kernel_rfl) ?_
                    simp only [Act.put, List.setIfInBounds_toArray, List.set_cons_zero, List.set_cons_succ]
                    refine wpList_runToG (by kernel_rfl) (some 213) rfl (.bool true) z2 (by kernel_rfl) ?_
                    simp only [Act.put, List.setIfInBounds_toArray, List.set_cons_zero, List.set_cons_succ]
                    refine wpList_runTo rfl (some 214) rfl (.bool true) z2 (by exact pick_run (c := true) (.tmp 212) (.tmp 213) rfl (by kernel_rfl) (by kernel_rfl) _) ?_
                    simp only [Act.put, List.setIfInBounds_toArray, List.set_cons_zero, List.set_cons_succ]
                    refine wpList_runTo rfl (some 215) rfl (.bool true) z2 (by kernel_rfl) ?_
                    simp only [Act.put, List.setIfInBounds_toArray, List.set_cons_zero, List.set_cons_succ]
                    refine wpList_runToG (by kernel_rfl) (some 216) rfl (.bool true) z2 (by kernel_rfl) ?_
                    simp only [Act.put, List.setIfInBounds_toArray, List.set_cons_zero, List.set_cons_succ]
                    refine wpList_runTo rfl (some 217) rfl (.bool true) z2 (by exact pick_run (c := true) (.tmp 215) (.tmp 216) rfl (by kernel_rfl) (by kernel_rfl) _) ?_
                    simp only [Act.put, List.setIfInBounds_toArray, List.set_cons_zero, List.set_cons_succ]
                    refine wpList_runTo rfl (some 10) rfl (.bool true) z2 (by kernel_rfl) ?_
                    simp only [Act.put, List.setIfInBounds_toArray, List.set_cons_zero, List.set_cons_succ]
                    refine wpList_nil ?_
                    refine hK _ _ ?_
                    clear hK
                    go_wp2
                    go_ret
                    exact ⟨rfl, HGz2.out.1.1.bel⟩
end Go.Proofs.Ytbhddfcdnpidkaa
