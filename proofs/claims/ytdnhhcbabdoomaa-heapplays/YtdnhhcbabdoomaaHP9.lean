/-
  HeapPlays: All within All.
-/
import Derived.Test.YtdnhhcbabdoomaaHP9a
namespace Go.Proofs.Ytdnhhcbabdoomaa
set_option linter.unusedVariables false
set_option linter.unusedSimpArgs false
open Go.RowKit Go.Great Go.Shelf
attribute [local irreducible] wpList
attribute [local go_sem] Oper.semAt_some

section
variable {w W : World} {wb : Nat} {S : St} {col : Nat → Nat}
set_option maxRecDepth 100000 in
set_option maxHeartbeats 16000000 in
theorem nest_any (H : PW w W wb S col) {k : Nat} (hk : k < 3) (nn : Int) (hC : S.C.length < 99990) :
    Calls Try.prog 73 #[ptr wb, .int .i64 (k : Int), .int .i64 nn] W fun e W' => e = .returned (.bool true) ∧ Hid (Nx w W W' wb S col 1) := by
  have HH : Hid (PW w W wb S col ∧ S.C.length < 99990) := ⟨H, hC⟩
  clear H hC
  refine (callsIn_wide (n := 3)).1 ?_
  refine callsIn_of_wp_marks Try.func73 rfl trivial ?_ rfl
  simp only [Try.ntmps73, List.size_toArray, List.length_cons, List.length_nil, Nat.reduceAdd, Nat.reduceSub, Array.replicate_succ, Array.replicate_zero, List.push_toArray, List.append_toArray, List.nil_append, List.cons_append]
  obtain ⟨Qf, hQf⟩ : ∃ Q, Q = bodyPostM Fence.wide 3 Try.prog Try.f73 (fun e w' => e = .returned (.bool true) ∧ Hid (Nx w W w' wb S col 1)) := ⟨_, rfl⟩
  rw [← hQf]
  have HQF : Hid (Qf = bodyPostM Fence.wide 3 Try.prog Try.f73 (fun e w' => e = .returned (.bool true) ∧ Hid (Nx w W w' wb S col 1))) := hQf
  clear hQf
  refine wpIn_wide.2 ?_
  go_upto_region 0 with fail
  rename_i K hK
  refine wp_region_lit ?_
  refine wpList_runTo rfl (some 3) rfl (.pointer (some ⟨W.heap.size, 0, none⟩)) (W.alloc (.cells #[ptr wb] 83)) (by kernel_rfl) ?_
  simp only [Act.put, List.setIfInBounds_toArray, List.set_cons_zero, List.set_cons_succ]
  have fB1 : Fr W (W.alloc (.cells #[ptr wb] 83)) (fun _ => False) := Fr.alloc _ _ _
  have kB1 : Blk (W.alloc (.cells #[ptr wb] 83)) W.heap.size 83 #[ptr wb] := Blk.new _ _ _
  obtain ⟨b6, hb6⟩ : ∃ b, b = W.heap.size := ⟨_, rfl⟩
  rw [← hb6] at kB1 ⊢
  generalize W.alloc (.cells #[ptr wb] 83) = B1 at *
  refine wpList_runTo rfl (some 4) rfl (.pointer (some ⟨B1.heap.size, 0, none⟩)) (B1.alloc (.cells #[.int .i64 (k : Int)] 3)) (by kernel_rfl) ?_
  simp only [Act.put, List.setIfInBounds_toArray, List.set_cons_zero, List.set_cons_succ]
  have fB2 : Fr B1 (B1.alloc (.cells #[.int .i64 (k : Int)] 3)) (fun _ => False) := Fr.alloc _ _ _
  have kB2 : Blk (B1.alloc (.cells #[.int .i64 (k : Int)] 3)) B1.heap.size 3 #[.int .i64 (k : Int)] := Blk.new _ _ _
  obtain ⟨b8, hb8⟩ : ∃ b, b = B1.heap.size := ⟨_, rfl⟩
  rw [← hb8] at kB2 ⊢
  generalize B1.alloc (.cells #[.int .i64 (k : Int)] 3) = B2 at *
  refine wpList_runTo rfl (some 5) rfl (.pointer (some ⟨B2.heap.size, 0, none⟩)) (B2.alloc (.cells #[.int .i64 nn] 3)) (by kernel_rfl) ?_
  simp only [Act.put, List.setIfInBounds_toArray, List.set_cons_zero, List.set_cons_succ]
  have fB3 : Fr B2 (B2.alloc (.cells #[.int .i64 nn] 3)) (fun _ => False) := Fr.alloc _ _ _
  have kB3 : Blk (B2.alloc (.cells #[.int .i64 nn] 3)) B2.heap.size 3 #[.int .i64 nn] := Blk.new _ _ _
  obtain ⟨b9, hb9⟩ : ∃ b, b = B2.heap.size := ⟨_, rfl⟩
  rw [← hb9] at kB3 ⊢
  generalize B2.alloc (.cells #[.int .i64 nn] 3) = B3 at *
  refine wpList_runTo rfl (some 6) rfl (.bool false) B3 (by kernel_rfl) ?_
  simp only [Act.put, List.setIfInBounds_toArray, List.set_cons_zero, List.set_cons_succ]
  refine wpList_nil ?_
  refine hK _ _ ?_
  clear hK
  have f13 : Fr B1 B3 (fun _ => False) := (fB2.trans fB3 (e3 := fun _ => False) fun _ _ q => by rcases q with q | q <;> exact q)
  have f03 : Fr W B3 (fun _ => False) := (fB1.trans f13 (e3 := fun _ => False) fun _ _ q => by rcases q with q | q <;> exact q)
  have H5 : Hid (PW w B3 wb S col ∧ Fr W B3 (fun _ => False) ∧ (Blk B3 b6 83 #[ptr wb] ∧ Blk B3 b8 3 #[.int .i64 (k : Int)] ∧ Blk B3 b9 3 #[.int .i64 nn])) := ⟨HH.out.1.sm f03, f03, kB1.fr f13 (fun q => q), kB2.fr fB3 (fun q => q), kB3⟩
  clear fB1 fB2 fB3 f13 f03 kB1 kB2 kB3 hb6 hb8 hb9
  go_upto_region 1 with fail
  go_cut [7] from 11 to 17 (fun x7 wx => ∃ b13 wv l, x7 = ptr b13 ∧ PopTo (lsB k) (liX S.C k) l [] ∧ Hid (PW w wx wb S col ∧ Fr W wx (fun _ => False) ∧ (Blk wx b6 83 #[ptr wb] ∧ Blk wx b8 3 #[.int .i64 (k : Int)] ∧ Blk wx b9 3 #[.int .i64 nn]) ∧ (Blk wx b13 31 #[wv] ∧ RowAt wx 30 2 wv l.length (flatL thw l))))
  case first => as_aux_lemma =>
    rename_i J9 K9 hJ9 hK9
    refine wp_mono (Q := Exit.then K9 (fun _ _ _ => False)) ?_ (fun e a w hh => by cases e <;> first | exact hh | exact hh.elim)
    refine wp_region_held (S := fun w' => Blk w' b6 83 #[ptr wb] ∧ Blk w' b8 3 #[.int .i64 (k : Int)] ∧ Blk w' wb 89 S.cs) (by kernel_rfl) ?_
    change wpAnyH _ _ _ _ _ _ _ _ (World.drew _)
    have fd : Fr B3 B3.drew (fun _ => False) := (Fr.refl B3 _).drew
    generalize B3.drew = Z5 at *
    have hS : Blk Z5 b6 83 #[ptr wb] ∧ Blk Z5 b8 3 #[.int .i64 (k : Int)] ∧ Blk Z5 wb 89 S.cs := ⟨H5.out.2.2.1.fr fd fun q => q, H5.out.2.2.2.1.fr fd fun q => q, H5.out.1.bw.fr fd fun q => q⟩
    refine takeR (i := 0) (v := ptr wb) (some 11) rfl rfl (by kernel_rfl) (by kernel_rfl) (by kernel_rfl) (fun _ _ _ h => h) (Or.inl ⟨by kernel_rfl, fun w' hSw => by exact ldC_run (by unfold LC; simp) (.tmp 3) rfl (by kernel_rfl) (cellB hSw.1)⟩) hS ?_
    simp only [Act.put, List.setIfInBounds_toArray, List.set_cons_zero, List.set_cons_succ]
    refine takeR (i := 1) (v := .int .i64 (k : Int)) (some 12) rfl rfl (by kernel_rfl) (by kernel_rfl) (by kernel_rfl) (fun _ _ _ h => h) (Or.inl ⟨by kernel_rfl, fun w' hSw => by exact ldC_run (by unfold LC; simp) (.tmp 4) rfl (by kernel_rfl) (cellB hSw.2.1)⟩) hS ?_
    simp only [Act.put, List.setIfInBounds_toArray, List.set_cons_zero, List.set_cons_succ]
    refine takeR (i := 2) (v := ptr wb) (some 13) rfl rfl (by kernel_rfl) (by kernel_rfl) (by kernel_rfl) (fun _ _ _ h => h) (Or.inl ⟨by kernel_rfl, fun w' hSw => by kernel_rfl⟩) hS ?_
    simp only [Act.put, List.setIfInBounds_toArray, List.set_cons_zero, List.set_cons_succ]
    refine takeR (i := 3) (v := .pointer (some ⟨wb, 3, none⟩)) (some 14) rfl rfl (by kernel_rfl) (by kernel_rfl) (by kernel_rfl) (fun _ _ _ h => h) (Or.inl ⟨by kernel_rfl, fun w' hSw => by kernel_rfl⟩) hS ?_
    simp only [Act.put, List.setIfInBounds_toArray, List.set_cons_zero, List.set_cons_succ]
    refine takeR (i := 4) (v := .pointer (some ⟨wb, 3 + k, none⟩)) (some 15) rfl rfl (by kernel_rfl) (by kernel_rfl) (by kernel_rfl) (fun _ _ _ h => h) (Or.inl ⟨by kernel_rfl, fun w' hSw => by exact ixW_run (.inr rfl) (.tmp 14) (.tmp 12) rfl (by kernel_rfl) (by kernel_rfl) hk _⟩) hS ?_
    simp only [Act.put, List.setIfInBounds_toArray, List.set_cons_zero, List.set_cons_succ]
    refine takeR (i := 5) (v := ptr (S.r k)) (some 16) rfl rfl (by kernel_rfl) (by kernel_rfl) (by kernel_rfl) (fun _ _ _ h => h) (Or.inl ⟨by kernel_rfl, fun w' hSw => by exact ldC_run (by unfold LC; simp) (.tmp 15) rfl (by kernel_rfl) ((hSw.2.2.cell _).trans (cs_r S hk))⟩) hS ?_
    simp only [Act.put, List.setIfInBounds_toArray, List.set_cons_zero, List.set_cons_succ]
    refine wpAnyH_ready (rs := [6, 7]) (by kernel_rfl) (by simp) ?_
    refine AllReadyH.cons rfl (fun K1 hK1 => ?_) (AllReadyH.cons rfl (fun K1 hK1 => ?_) AllReadyH.nil)
    · skip
      rw [if_pos (by kernel_rfl)]
      have hc := rAll_any ((H5.out.1.rh k hk).sm fd) hk
      rw [liveR] at hc
      refine callR (d := some 17) rfl 86 #[ptr (S.r k)] (by kernel_rfl) hc ?_
      clear hc
      rintro ee z4 ⟨wv, l, rfl, hpo, hro, how, f4⟩
      refine ⟨_, rfl, ?_⟩
      have hS4 : Blk z4 b6 83 #[ptr wb] ∧ Blk z4 b8 3 #[.int .i64 (k : Int)] ∧ Blk z4 wb 89 S.cs := ⟨hS.1.fr f4 fun q => q, hS.2.1.fr f4 fun q => q, hS.2.2.fr f4 fun q => q⟩
      refine hK1.out _ _ hS4 (fun _ => ?_)
      clear hK1
      simp only [Act.put, List.setIfInBounds_toArray, List.set_cons_zero, List.set_cons_succ]
      refine wpAnyH_ready (rs := [7]) (by kernel_rfl) (by simp) ?_
      refine AllReadyH.cons rfl (fun K1 hK1 => ?_) AllReadyH.nil
      rw [if_pos (by kernel_rfl)]
      have f5 : Fr z4 (z4.alloc (.cells #[.slice none 0 0] 31)) (fun _ => False) := Fr.alloc _ _ _
      refine valR (d := some 7) rfl (ptr z4.heap.size) (alG_run (.inr (.inr ⟨rfl, rfl⟩)) z4 rfl) ?_
      obtain ⟨b13, hb13⟩ : ∃ b, b = z4.heap.size := ⟨_, rfl⟩
      have kb13 : Blk (z4.alloc (.cells #[.slice none 0 0] 31)) b13 31 #[.slice none 0 0] := by rw [hb13]; exact Blk.new _ _ _
      rw [← hb13]
      generalize z4.alloc (.cells #[.slice none 0 0] 31) = z5 at *
      have f35 : Fr B3 z5 (fun _ => False) := ((fd.trans f4 (e3 := fun _ => False) fun _ _ q => by rcases q with q | q <;> exact q).trans f5 (e3 := fun _ => False) fun _ _ q => by rcases q with q | q <;> exact q)
      have hro := hro.fr f5 fun _ _ q => q
      have hb13' : B3.heap.size ≤ b13 := by have := fd.size; have := f4.size; omega
      have hS5 : Blk z5 b6 83 #[ptr wb] ∧ Blk z5 b8 3 #[.int .i64 (k : Int)] ∧ Blk z5 wb 89 S.cs := ⟨hS4.1.fr f5 fun q => q, hS4.2.1.fr f5 fun q => q, hS4.2.2.fr f5 fun q => q⟩
      refine hK1.out _ _ hS5 (fun _ => ?_)
      clear hK1
      simp only [Act.put, List.setIfInBounds_toArray, List.set_cons_zero, List.set_cons_succ]
      refine wpAnyH_ready (rs := [8]) (by kernel_rfl) (by simp) ?_
      refine AllReadyH.cons rfl (fun K1 hK1 => ?_) AllReadyH.nil
      rw [if_pos (by kernel_rfl)]
      have fst := blk1 (v := wv) kb13
      obtain ⟨ao, cp, ev, hcp⟩ := hro.form
      clear hcp
      refine skipR (d := none) rfl (w' := z5.setCell ⟨b13, 0, none⟩ wv) (stG_run (.inr (.inr ⟨rfl, _, _, _, ev⟩)) (.tmp 7) (.tmp 17) rfl (by kernel_rfl) (by kernel_rfl) kb13) ?_
      generalize z5.setCell ⟨b13, 0, none⟩ wv = z6 at *
      have HX : Hid (PW w z6 wb S col ∧ Fr W z6 (fun _ => False) ∧ (Blk z6 b6 83 #[ptr wb] ∧ Blk z6 b8 3 #[.int .i64 (k : Int)] ∧ Blk z6 b9 3 #[.int .i64 nn]) ∧ (Blk z6 b13 31 #[wv] ∧ RowAt z6 30 2 wv l.length (flatL thw l))) := by
        have h := H5.out
        have f6 : Fr B3 z6 (fun _ => False) := (f35.trans fst.1 (e3 := fun b => b = b13) fun _ _ q => by rcases q with q | q; exact q.elim; exact q).mono fun b hb q => by omega
        refine ⟨h.1.sm f6, h.2.1.trans f6 (fun _ _ q => by rcases q with q | q <;> exact q), ⟨h.2.2.1.fr f6 fun q => q, h.2.2.2.1.fr f6 fun q => q, h.2.2.2.2.fr f6 fun q => q⟩, fst.2, hro.fr fst.1 fun g hg e => hro.ne_type kb13 (by decide) (e ▸ hg)⟩
      have hS6 : Blk z6 b6 83 #[ptr wb] ∧ Blk z6 b8 3 #[.int .i64 (k : Int)] ∧ Blk z6 wb 89 S.cs := ⟨HX.out.2.2.1.1, HX.out.2.2.1.2.1, HX.out.1.bw⟩
      refine hK1.out _ _ hS6 (fun _ => ?_)
      clear hK1
      simp only [Act.put, List.setIfInBounds_toArray, List.set_cons_zero, List.set_cons_succ]
      refine wpAnyH_done (by kernel_rfl) ?_ _
      first
        | refine hK9 _ _ (hJ9 _ _ ?_)
        | refine hJ9 _ _ ?_
      repeat apply Exists.intro
      exact ⟨⟨b13, wv, l, rfl, hpo, HX⟩, rfl⟩
    · skip
      rw [if_pos (by kernel_rfl)]
      have f4 : Fr Z5 (Z5.alloc (.cells #[.slice none 0 0] 31)) (fun _ => False) := Fr.alloc _ _ _
      refine valR (d := some 7) rfl (ptr Z5.heap.size) (alG_run (.inr (.inr ⟨rfl, rfl⟩)) Z5 rfl) ?_
      obtain ⟨b13, hb13⟩ : ∃ b, b = Z5.heap.size := ⟨_, rfl⟩
      have kb4 : Blk (Z5.alloc (.cells #[.slice none 0 0] 31)) b13 31 #[.slice none 0 0] := by rw [hb13]; exact Blk.new _ _ _
      rw [← hb13]
      generalize Z5.alloc (.cells #[.slice none 0 0] 31) = z4 at *
      have hS4 : Blk z4 b6 83 #[ptr wb] ∧ Blk z4 b8 3 #[.int .i64 (k : Int)] ∧ Blk z4 wb 89 S.cs := ⟨hS.1.fr f4 fun q => q, hS.2.1.fr f4 fun q => q, hS.2.2.fr f4 fun q => q⟩
      have fd4 : Fr B3 z4 (fun _ => False) := (fd.trans f4 (e3 := fun _ => False) fun _ _ q => by rcases q with q | q <;> exact q)
      refine hK1.out _ _ hS4 (fun _ => ?_)
      clear hK1
      simp only [Act.put, List.setIfInBounds_toArray, List.set_cons_zero, List.set_cons_succ]
      refine wpAnyH_ready (rs := [6]) (by kernel_rfl) (by simp) ?_
      refine AllReadyH.cons rfl (fun K1 hK1 => ?_) AllReadyH.nil
      rw [if_pos (by kernel_rfl)]
      have hc := rAll_any ((H5.out.1.rh k hk).sm fd4) hk
      rw [liveR] at hc
      refine callR (d := some 17) rfl 86 #[ptr (S.r k)] (by kernel_rfl) hc ?_
      clear hc
      rintro ee z5 ⟨wv, l, rfl, hpo, hro, how, f5⟩
      refine ⟨_, rfl, ?_⟩
      have f35 : Fr B3 z5 (fun _ => False) := (fd4.trans f5 (e3 := fun _ => False) fun _ _ q => by rcases q with q | q <;> exact q)
      have kb13 := kb4.fr f5 fun q => q
      have hb13' : B3.heap.size ≤ b13 := by have := fd.size; omega
      have hS5 : Blk z5 b6 83 #[ptr wb] ∧ Blk z5 b8 3 #[.int .i64 (k : Int)] ∧ Blk z5 wb 89 S.cs := ⟨hS4.1.fr f5 fun q => q, hS4.2.1.fr f5 fun q => q, hS4.2.2.fr f5 fun q => q⟩
      refine hK1.out _ _ hS5 (fun _ => ?_)
      clear hK1
      simp only [Act.put, List.setIfInBounds_toArray, List.set_cons_zero, List.set_cons_succ]
      refine wpAnyH_ready (rs := [8]) (by kernel_rfl) (by simp) ?_
      refine AllReadyH.cons rfl (fun K1 hK1 => ?_) AllReadyH.nil
      rw [if_pos (by kernel_rfl)]
      have fst := blk1 (v := wv) kb13
      obtain ⟨ao, cp, ev, hcp⟩ := hro.form
      clear hcp
      refine skipR (d := none) rfl (w' := z5.setCell ⟨b13, 0, none⟩ wv) (stG_run (.inr (.inr ⟨rfl, _, _, _, ev⟩)) (.tmp 7) (.tmp 17) rfl (by kernel_rfl) (by kernel_rfl) kb13) ?_
      generalize z5.setCell ⟨b13, 0, none⟩ wv = z6 at *
      have HX : Hid (PW w z6 wb S col ∧ Fr W z6 (fun _ => False) ∧ (Blk z6 b6 83 #[ptr wb] ∧ Blk z6 b8 3 #[.int .i64 (k : Int)] ∧ Blk z6 b9 3 #[.int .i64 nn]) ∧ (Blk z6 b13 31 #[wv] ∧ RowAt z6 30 2 wv l.length (flatL thw l))) := by
        have h := H5.out
        have f6 : Fr B3 z6 (fun _ => False) := (f35.trans fst.1 (e3 := fun b => b = b13) fun _ _ q => by rcases q with q | q; exact q.elim; exact q).mono fun b hb q => by omega
        refine ⟨h.1.sm f6, h.2.1.trans f6 (fun _ _ q => by rcases q with q | q <;> exact q), ⟨h.2.2.1.fr f6 fun q => q, h.2.2.2.1.fr f6 fun q => q, h.2.2.2.2.fr f6 fun q => q⟩, fst.2, hro.fr fst.1 fun g hg e => hro.ne_type kb13 (by decide) (e ▸ hg)⟩
      have hS6 : Blk z6 b6 83 #[ptr wb] ∧ Blk z6 b8 3 #[.int .i64 (k : Int)] ∧ Blk z6 wb 89 S.cs := ⟨HX.out.2.2.1.1, HX.out.2.2.1.2.1, HX.out.1.bw⟩
      refine hK1.out _ _ hS6 (fun _ => ?_)
      clear hK1
      simp only [Act.put, List.setIfInBounds_toArray, List.set_cons_zero, List.set_cons_succ]
      refine wpAnyH_done (by kernel_rfl) ?_ _
      first
        | refine hK9 _ _ (hJ9 _ _ ?_)
        | refine hJ9 _ _ ?_
      repeat apply Exists.intro
      exact ⟨⟨b13, wv, l, rfl, hpo, HX⟩, rfl⟩
  case rest =>
    obtain ⟨b13, wv, l, rfl, hpo, HR1⟩ := hcut
    have HPO : Hid (PopTo (lsB k) (liX S.C k) l []) := hpo
    clear H5 hpo
    go_upto_region 2 with fail
    rename_i K hK
    refine wp_region_lit ?_
    refine wpList_runTo rfl (some 8) rfl (ptr wc.heap.size) (wc.alloc (.cells #[.int .i64 0] 3)) (by exact alG_run (.inl ⟨rfl, rfl⟩) wc rfl) ?_
    simp only [Act.put, List.setIfInBounds_toArray, List.set_cons_zero, List.set_cons_succ]
    have fC1 : Fr wc (wc.alloc (.cells #[.int .i64 0] 3)) (fun _ => False) := Fr.alloc _ _ _
    obtain ⟨b14, hb14⟩ : ∃ b, b = wc.heap.size := ⟨_, rfl⟩
    have kb14 : Blk (wc.alloc (.cells #[.int .i64 0] 3)) b14 3 #[.int .i64 0] := by rw [hb14]; exact Blk.new _ _ _
    rw [← hb14]
    generalize wc.alloc (.cells #[.int .i64 0] 3) = C1 at *
    have fC2 := blk1 (v := .int .i64 0) kb14
    refine wpList_plain rfl fun K8 hK8 => ?_
    refine skipR (d := none) rfl (w' := C1.setCell ⟨b14, 0, none⟩ (.int .i64 0)) (stG_run (.inl ⟨rfl, _, rfl⟩) (.tmp 8) (.const (.int .i64 0)) rfl (by kernel_rfl) (by kernel_rfl) kb14) ?_
    generalize C1.setCell ⟨b14, 0, none⟩ (.int .i64 0) = C2 at *
    refine hK8 _ _ ?_
    clear hK8
    try simp only [Act.put]
    refine wpList_nil ?_
    refine hK _ _ ?_
    clear hK
    go_upto_region 3 with fail
    rename_i K hK
    refine wp_region_lit ?_
    refine wpList_runTo rfl (some 9) rfl (ptr C2.heap.size) (C2.alloc (.cells #[.bool false] 4)) (by exact alG_run (.inr (.inl ⟨rfl, rfl⟩)) C2 rfl) ?_
    simp only [Act.put, List.setIfInBounds_toArray, List.set_cons_zero, List.set_cons_succ]
    have fC3 : Fr C2 (C2.alloc (.cells #[.bool false] 4)) (fun _ => False) := Fr.alloc _ _ _
    obtain ⟨b15, hb15⟩ : ∃ b, b = C2.heap.size := ⟨_, rfl⟩
    have kb15 : Blk (C2.alloc (.cells #[.bool false] 4)) b15 4 #[.bool false] := by rw [hb15]; exact Blk.new _ _ _
    rw [← hb15]
    generalize C2.alloc (.cells #[.bool false] 4) = C3 at *
    have fC4a := blk1 (v := .bool true) kb15
    refine wpList_plain rfl fun K8 hK8 => ?_
    refine skipR (d := none) rfl (w' := C3.setCell ⟨b15, 0, none⟩ (.bool true)) (stG_run (.inr (.inl ⟨rfl, _, rfl⟩)) (.tmp 9) (.const (.bool true)) rfl (by kernel_rfl) (by kernel_rfl) kb15) ?_
    generalize C3.setCell ⟨b15, 0, none⟩ (.bool true) = C4a at *
    refine hK8 _ _ ?_
    clear hK8
    try simp only [Act.put]
    refine wpList_nil ?_
    refine hK _ _ ?_
    clear hK
    have HLO : Hid (W.heap.size ≤ b14 ∧ W.heap.size ≤ b15 ∧ b8 < b14 ∧ b9 < b14) := by
      have h := HR1.out
      have s0 := h.2.1.size
      have s1 := fC1.size
      have s2 := fC2.1.size
      exact ⟨by omega, by omega, by have := h.2.2.1.2.1.lt; omega, by have := h.2.2.1.2.2.lt; omega⟩
    have fz : Fr wc C4a (fun b => b = b14 ∨ b = b15) := ((fC1.trans fC2.1 (e3 := fun b => b = b14) fun _ _ q => by rcases q with q | q; exact q.elim; exact q).trans fC3 (e3 := fun b => b = b14) fun _ _ q => by rcases q with q | q; exact q; exact q.elim).trans fC4a.1 fun _ _ q => q
    have fz0 : Fr wc C4a (fun _ => False) := fz.mono fun b hb q => by have := fC1.size; have := fC2.1.size; omega
    have H4a : Hid (PW w C4a wb S col ∧ Fr W C4a (fun _ => False) ∧ (Blk C4a b6 83 #[ptr wb] ∧ Blk C4a b8 3 #[.int .i64 (k : Int)] ∧ Blk C4a b9 3 #[.int .i64 nn]) ∧ (Blk C4a b13 31 #[wv] ∧ RowAt C4a 30 2 wv l.length (flatL thw l)) ∧ Blk C4a b14 3 #[.int .i64 0] ∧ Blk C4a b15 4 #[.bool true]) := by
      have h := HR1.out
      exact ⟨h.1.sm fz0, h.2.1.trans fz0 fun _ _ q => by rcases q with q | q <;> exact q, ⟨h.2.2.1.1.fr fz0 fun q => q, h.2.2.1.2.1.fr fz0 fun q => q, h.2.2.1.2.2.fr fz0 fun q => q⟩, ⟨h.2.2.2.1.fr fz0 fun q => q, h.2.2.2.2.fr fz0 fun _ _ q => q⟩, (fC2.2.fr fC3 fun q => q).fr fC4a.1 fun e => by have := fC2.2.lt; omega, fC4a.2⟩
    clear HR1 fz fz0 fC1 fC2 fC3 fC4a kb14 kb15 hb14 hb15
    go_upto_region 4 with fail
    go_cut [24] from 18 to 24 (fun x24 wx => ∃ Bb, x24 = .func (.func 47) #[] #[ptr Bb] ∧ Hid ((PW w wx wb S col ∧ Fr W wx (fun _ => False) ∧ (Blk wx b6 83 #[ptr wb] ∧ Blk wx b8 3 #[.int .i64 (k : Int)] ∧ Blk wx b9 3 #[.int .i64 nn]) ∧ (Blk wx b13 31 #[wv] ∧ RowAt wx 30 2 wv l.length (flatL thw l)) ∧ Blk wx b14 3 #[.int .i64 0] ∧ Blk wx b15 4 #[.bool true]) ∧ Blk wx Bb 25 #[ptr (S.h k)]))
    case first => as_aux_lemma =>
      rename_i J9 K9 hJ9 hK9
      refine wp_mono (Q := Exit.then K9 (fun _ _ _ => False)) ?_ (fun e a w hh => by cases e <;> first | exact hh | exact hh.elim)
      refine wp_region_held (S := fun w' => Blk w' b6 83 #[ptr wb] ∧ Blk w' b8 3 #[.int .i64 (k : Int)] ∧ Blk w' wb 89 S.cs) (by kernel_rfl) ?_
      change wpAnyH _ _ _ _ _ _ _ _ (World.drew _)
      have fd : Fr C4a C4a.drew (fun _ => False) := (Fr.refl C4a _).drew
      generalize C4a.drew = Z5 at *
      have hS : Blk Z5 b6 83 #[ptr wb] ∧ Blk Z5 b8 3 #[.int .i64 (k : Int)] ∧ Blk Z5 wb 89 S.cs := ⟨H4a.out.2.2.1.1.fr fd fun q => q, H4a.out.2.2.1.2.1.fr fd fun q => q, H4a.out.1.bw.fr fd fun q => q⟩
      refine takeR (i := 0) (v := ptr wb) (some 18) rfl rfl (by kernel_rfl) (by kernel_rfl) (by kernel_rfl) (fun _ _ _ h => h) (Or.inl ⟨by kernel_rfl, fun w' hSw => by exact ldC_run (by unfold LC; simp) (.tmp 3) rfl (by kernel_rfl) (cellB hSw.1)⟩) hS ?_
      simp only [Act.put, List.setIfInBounds_toArray, List.set_cons_zero, List.set_cons_succ]
      refine takeR (i := 1) (v := .int .i64 (k : Int)) (some 19) rfl rfl (by kernel_rfl) (by kernel_rfl) (by kernel_rfl) (fun _ _ _ h => h) (Or.inl ⟨by kernel_rfl, fun w' hSw => by exact ldC_run (by unfold LC; simp) (.tmp 4) rfl (by kernel_rfl) (cellB hSw.2.1)⟩) hS ?_
      simp only [Act.put, List.setIfInBounds_toArray, List.set_cons_zero, List.set_cons_succ]
      refine takeR (i := 2) (v := ptr wb) (some 20) rfl rfl (by kernel_rfl) (by kernel_rfl) (by kernel_rfl) (fun _ _ _ h => h) (Or.inl ⟨by kernel_rfl, fun w' hSw => by kernel_rfl⟩) hS ?_
      simp only [Act.put, List.setIfInBounds_toArray, List.set_cons_zero, List.set_cons_succ]
      refine takeR (i := 3) (v := .pointer (some ⟨wb, 0, none⟩)) (some 21) rfl rfl (by kernel_rfl) (by kernel_rfl) (by kernel_rfl) (fun _ _ _ h => h) (Or.inl ⟨by kernel_rfl, fun w' hSw => by kernel_rfl⟩) hS ?_
      simp only [Act.put, List.setIfInBounds_toArray, List.set_cons_zero, List.set_cons_succ]
      refine takeR (i := 4) (v := .pointer (some ⟨wb, 0 + k, none⟩)) (some 22) rfl rfl (by kernel_rfl) (by kernel_rfl) (by kernel_rfl) (fun _ _ _ h => h) (Or.inl ⟨by kernel_rfl, fun w' hSw => by exact ixW_run (.inl rfl) (.tmp 21) (.tmp 19) rfl (by kernel_rfl) (by kernel_rfl) hk _⟩) hS ?_
      simp only [Act.put, List.setIfInBounds_toArray, List.set_cons_zero, List.set_cons_succ]
      refine takeR (i := 5) (v := ptr (S.h k)) (some 23) rfl rfl (by kernel_rfl) (by kernel_rfl) (by kernel_rfl) (fun _ _ _ h => h) (Or.inl ⟨by kernel_rfl, fun w' hSw => by exact ldC_run (by unfold LC; simp) (.tmp 22) rfl (by kernel_rfl) ((hSw.2.2.cell _).trans (cs_h S hk))⟩) hS ?_
      simp only [Act.put, List.setIfInBounds_toArray, List.set_cons_zero, List.set_cons_succ]
      refine wpAnyH_ready (rs := [6]) (by kernel_rfl) (by simp) ?_
      refine AllReadyH.cons rfl (fun K1 hK1 => ?_) AllReadyH.nil
      rw [if_pos (by kernel_rfl)]
      refine callR (d := some 24) rfl 12 #[ptr (S.h k)] (by kernel_rfl) (All_any (S.h k) Z5) ?_
      rintro ee z4 ⟨rfl, eA⟩
      refine ⟨_, rfl, ?_⟩
      obtain ⟨Bb, hBb⟩ : ∃ b, b = Z5.heap.size := ⟨_, rfl⟩
      rw [← hBb]
      have f2 : Fr Z5 z4 (fun _ => False) := by rw [eA]; exact Fr.alloc _ _ _
      have kB : Blk z4 Bb 25 #[ptr (S.h k)] := by rw [eA, hBb]; exact Blk.new _ _ _
      have f24 : Fr C4a z4 (fun _ => False) := (fd.trans f2 (e3 := fun _ => False) fun _ _ q => by rcases q with q | q <;> exact q)
      have HX : Hid ((PW w z4 wb S col ∧ Fr W z4 (fun _ => False) ∧ (Blk z4 b6 83 #[ptr wb] ∧ Blk z4 b8 3 #[.int .i64 (k : Int)] ∧ Blk z4 b9 3 #[.int .i64 nn]) ∧ (Blk z4 b13 31 #[wv] ∧ RowAt z4 30 2 wv l.length (flatL thw l)) ∧ Blk z4 b14 3 #[.int .i64 0] ∧ Blk z4 b15 4 #[.bool true]) ∧ Blk z4 Bb 25 #[ptr (S.h k)]) := by
        have h := H4a.out
        exact ⟨⟨h.1.sm f24, h.2.1.trans f24 fun _ _ q => by rcases q with q | q <;> exact q, ⟨h.2.2.1.1.fr f24 fun q => q, h.2.2.1.2.1.fr f24 fun q => q, h.2.2.1.2.2.fr f24 fun q => q⟩, ⟨h.2.2.2.1.1.fr f24 fun q => q, h.2.2.2.1.2.fr f24 fun _ _ q => q⟩, h.2.2.2.2.1.fr f24 fun q => q, h.2.2.2.2.2.fr f24 fun q => q⟩, kB⟩
      have hS4 : Blk z4 b6 83 #[ptr wb] ∧ Blk z4 b8 3 #[.int .i64 (k : Int)] ∧ Blk z4 wb 89 S.cs := ⟨HX.out.1.2.2.1.1, HX.out.1.2.2.1.2.1, HX.out.1.1.bw⟩
      refine hK1.out _ _ hS4 (fun _ => ?_)
      clear hK1
      simp only [Act.put, List.setIfInBounds_toArray, List.set_cons_zero, List.set_cons_succ]
      refine wpAnyH_done (by kernel_rfl) ?_ _
      first
        | refine hK9 _ _ (hJ9 _ _ ?_)
        | refine hJ9 _ _ ?_
      repeat apply Exists.intro
      exact ⟨⟨Bb, rfl, HX⟩, rfl⟩
    case rest =>
      obtain ⟨Bb, rfl, H4⟩ := hcut
      clear H4a
      generalize wc = C4 at *
      have HG : Hid (GN w W C4 wb S b6 b8 b9 b13 b14 b15 k nn wv l S col C4 0 0) := by
        have h := H4.out.1
        have o := HLO.out
        exact ⟨h.1, ⟨rfl, rfl⟩, Nat.le_refl _, fun b q => .inl q, h.2.1.mono fun _ _ q => q.elim, h.2.2.1, h.2.2.2.1.1, h.2.2.2.1.2, h.2.2.2.2.1, h.2.2.2.2.2, ⟨h.2.2.1.1.lt, h.2.2.1.2.1.lt, h.2.2.1.2.2.lt, h.2.2.2.1.1.lt, h.2.2.2.2.1.lt, h.2.2.2.2.2.lt, fun g hg => (h.2.2.2.1.2.lt hg).1⟩, o, Nat.le_refl _, h.2.1.size⟩
      have HW0 : Hid (w.heap.size ≤ W.heap.size) := HH.out.1.fr.size
      have HBB : Hid (Blk C4 Bb 25 #[ptr (S.h k)]) := H4.out.2
      clear H4 HLO
      go_wp2
      refine (wpIn_wide (n := 3)).1 ?_
      refine range_law2 (n := 3) (by decide) (gf := 47) (lb := #[ptr Bb]) rfl cfA (all_itr k (S.h k) Bb (liX S.C k)) ?hC (fun _ => rfl)
        (fun pre W1 M => ∃ S1 col1 c, c ≤ 1 ∧ (c = 1 → nn < (pre.length : Int)) ∧ GN w W C4 wb S b6 b8 b9 b13 b14 b15 k nn wv l S1 col1 W1 pre.length c ∧ (∀ b, M b ↔ b < C4.heap.size ∨ owns wb S1 b) ∧ ∀ b, owns wb S1 b → b < C4.heap.size ∨ C4.heap.size + 2 ≤ b)
        (fun _ _ _ => False)
        ⟨?hA1, ?hA2⟩ (fun _ _ _ _ q _ => q) (fun b => b < C4.heap.size ∨ owns wb S b) ⟨S, col, 0, by decide, by simp, HG.out, fun _ => Iff.rfl, fun b q => .inl (HG.out.pw.oLt q)⟩
        (fun y a' W1 => ∃ b16, Blk W1 b16 30 #[.int .i64 y.k, .int .i64 y.g] ∧ C4.heap.size ≤ b16 ∧ a' = { tmps := #[ptr wb, .int .i64 (k : Int), .int .i64 nn, ptr b6, ptr b8, ptr b9, .bool false, ptr b13, ptr b14, ptr b15, ptr b16, u11, u12, u13, u14, u15, u16, u17, u18, u19, u20, u21, u22, u23, .func (.func 47) #[] #[ptr Bb], .agg #[.int .i64 y.k, .int .i64 y.g], undef, undef, undef, undef, undef, undef, undef, undef, undef, undef, undef, undef, undef, undef, undef, undef, undef, undef, undef, undef, undef, undef, undef, undef, undef, undef, undef, undef, undef, undef, undef, undef, undef], defers := [] })
        ?hAx ?hassign ?hbody ?hdone ?hstop
      case hC =>
        intro q q'
        have F2 : Fr C4 ((C4.alloc q).alloc q') (fun _ => False) := (Fr.alloc _ _ (fun _ => False)).trans (Fr.alloc _ _ (fun _ => False)) fun _ _ q => by rcases q with q | q <;> exact q
        exact ⟨_, _, _, _, (HG.out.pw.hp k hk).sm F2, (HBB.out.alloc _).alloc _, Lk_x _ _⟩
      case hA1 =>
        rintro pre W1 W2 M e ⟨S1, col1, c, q1, q2, G, hM, ho⟩ hf hn
        exact ⟨S1, col1, c, q1, q2, G.abid HW0.out hf fun b q r => hn b q ((hM b).2 r), hM, ho⟩
      case hA2 =>
        rintro pre W1 M b ⟨S1, col1, c, q1, q2, G, hM, ho⟩ hb
        rcases (hM b).1 hb with q | q
        · exact Nat.lt_of_lt_of_le q G.sz
        · exact G.pw.oLt q
      case hAx =>
        rintro y a' W1 W2 r ⟨b16, hb, hl, he⟩ hr hf
        refine ⟨b16, hb.fr hf fun e => ?_, hl, he⟩
        rw [← e] at hr
        unfold Blk at hb
        rw [hb] at hr
        cases hr
      case hassign => as_aux_lemma =>
        intro pre y W1 M K hi hK
        dsimp only [encT]
        gi_wp2
        obtain ⟨S1, col1, c, _, _, G, _⟩ := hi
        exact hK _ _ (Fr.alloc _ _ _) ⟨W1.heap.size, Blk.new _ _ _, G.sz, rfl⟩
      case hbody => as_aux_lemma =>
        rintro pre y a' W1 M ⟨S1, col1, c, hc1, hc2, G, hM, ho2⟩ ⟨b16, hb16, hl16, rfl⟩ ⟨rest, hsp⟩ ⟨rr, hrr⟩
        have hsz2 : C4.heap.size + 2 ≤ W1.heap.size := (Array.getElem?_eq_some_iff.1 hrr).1
        obtain ⟨i, hi⟩ : ∃ i, i = pre.length := ⟨_, rfl⟩
        have hly : l[i]? = some y ∧ i < l.length := by
          have h1 := hsp.len
          have h2 := HPO.out.len
          rw [List.length_append, List.length_singleton] at h1
          rw [List.length_nil] at h2
          have hil : i < l.length := by omega
          obtain ⟨s1, hs1⟩ := HPO.out.take i (by omega)
          obtain ⟨s2, hs2⟩ := hsp.take i (by rw [List.length_append, List.length_singleton]; omega)
          have e1 : (pre ++ [y]).take i = l.take i := (hs2.det hs1 (by rw [List.length_take, List.length_take, List.length_append, List.length_singleton]; omega)).1
          rw [hi, List.take_left'] at e1
          · refine ⟨HPO.out.next (rest := []) (i := i) (rest' := rest) ?_ hil, hil⟩
            rw [hi, ← e1]
            exact hsp
          · rfl
        have HM : Hid ((∀ b, M b ↔ b < C4.heap.size ∨ owns wb S1 b) ∧ (∀ b, owns wb S1 b → b < C4.heap.size ∨ C4.heap.size + 2 ≤ b) ∧ C4.heap.size + 2 ≤ W1.heap.size ∧ c ≤ 1 ∧ (c = 1 → nn < (i : Int)) ∧ i = pre.length ∧ l[i]? = some y ∧ i < l.length ∧ l.length ≤ 100000) := ⟨hM, ho2, hsz2, hc1, by rw [hi]; exact hc2, hi, hly.1, hly.2, by have h2 := HPO.out.len; have := G.ln; have := HH.out.2; rw [List.length_nil] at h2; unfold liX at h2; rw [List.length_map] at h2; have := List.length_filter_le (isL k) S.C; omega⟩
        rw [← hi] at G
        have HG1 : Hid (GN w W C4 wb S b6 b8 b9 b13 b14 b15 k nn wv l S1 col1 W1 i c ∧ BD C4 W1 W1 wb S1 S1 ∧ Blk W1 b16 30 #[.int .i64 y.k, .int .i64 y.g] ∧ C4.heap.size ≤ b16) := ⟨G, ⟨Fr.refl _ _, fun _ q => .inl q⟩, hb16, hl16⟩
        have hib : i < 100000 := by have := HM.out; omega
        have c14 := cellB G.i14
        have c9 := cellB G.bx.2.2
        clear hi hM ho2 hsz2 hc1 hc2 G hb16 hl16 hsp hrr hly HG
        obtain ⟨gw, ow, cw, cur, hwv, _⟩ := HG1.out.1.wr.more (by have := HM.out; omega)
        obtain ⟨ln, hln⟩ : ∃ n, n = l.length := ⟨_, rfl⟩
        rw [← hln] at hwv
        subst hwv
        have HLN : Hid (ln = l.length) := hln
        have hil : i < ln := by have := HM.out; omega
        clear hln
        by_cases hin : (i : Int) = nn
        · have e1 : ((i : Int) == nn) = true := by simp [hin]
          have HIC : Hid ((i : Int) = nn) := hin
          clear hin
          have hpu := all_any HG1.out.1.pw hk (-1) (-1) y (by have := HG1.out.1.ln; have := HH.out.2; have := HM.out; omega)
          have c6 := cellB HG1.out.1.bx.1
          have c8 := cellB HG1.out.1.bx.2.1
          have c16 : W1.cell? ⟨b16, 0, none⟩ = some (.int .i64 y.k) := HG1.out.2.2.1.cell 0
          have c16' : W1.cell? ⟨b16, 1, none⟩ = some (.int .i64 y.g) := HG1.out.2.2.1.cell 1
          have HFZ : Hid (∀ W2, Fr W1 W2 (owns wb S1) → W2.frozen? ⟨b15, 0, none⟩ = false ∧ W2.cell? ⟨b15, 0, none⟩ = some (.bool true)) := fun W2 f => by
            have q := HG1.out.1.g15.fr f (HG1.out.1.pw.ownT HG1.out.1.g15 (by unfold freeT; decide))
            exact ⟨q.frozen 0, cellB q⟩
          gi_wp2_with (refine ⟨trivial, ?_⟩; gi_at_call 71; refine (CallsIn.inRound _ (callsIn_wide.2 hpu)).mono ?_; rintro ee W2 ⟨rfl, HN⟩; obtain ⟨S2, col2, G2, hn2, hf2⟩ := HG1.out.1.nx HN.out; have HG2 : Hid (GN w W C4 wb S b6 b8 b9 b13 b14 b15 k nn (.slice (some ⟨gw, ow, none⟩) ln cw) l S2 col2 W2 i (c + 1) ∧ BD C4 W1 W2 wb S1 S2 ∧ Blk W2 b16 30 #[.int .i64 y.k, .int .i64 y.g] ∧ C4.heap.size ≤ b16) := ⟨G2, HG1.out.2.1.step hf2 (fun _ _ q => .inr q) hn2, HG1.out.2.2.1.fr hf2 (HG1.out.1.pw.ownT HG1.out.2.2.1 (by unfold freeT; decide)), HG1.out.2.2.2⟩; have z15 := (HFZ.out W2 hf2).1; have d15 := (HFZ.out W2 hf2).2; clear G2 hn2 hf2 HN hpu c6 c8 c16 c16' HG1 HFZ c14 c9)
          have HG4 : Hid (GN w W C4 wb S b6 b8 b9 b13 b14 b15 k nn (.slice (some ⟨gw, ow, none⟩) ln cw) l S2 col2 (W2.setCell ⟨b15, 0, none⟩ (.bool true)) i (c + 1) ∧ BD C4 W1 (W2.setCell ⟨b15, 0, none⟩ (.bool true)) wb S1 S2 ∧ Blk (W2.setCell ⟨b15, 0, none⟩ (.bool true)) b16 30 #[.int .i64 y.k, .int .i64 y.g] ∧ C4.heap.size ≤ b16) := by
            have h := HG2.out
            have f := Fr.setCell W2 ⟨b15, 0, none⟩ (.bool true) (fun b => b = b15) rfl
            exact ⟨h.1.set15 HW0.out, h.2.1.step f (fun b _ q => .inl (by rw [q]; exact h.1.lt.2.2.2.2.2.1)) (fun _ q => .inl q), h.2.2.1.fr f (h.2.2.1.neT h.1.g15 (by decide)), h.2.2.2⟩
          clear HG2 z15 d15
          generalize W2.setCell ⟨b15, 0, none⟩ (.bool true) = Wt at *
          rename_i K0 h0K
          refine region_round_held (S := fun w' => Blk w' b15 4 #[.bool true] ∧ Blk w' b14 3 #[.int .i64 (i : Int)] ∧ Blk w' b13 31 #[.slice (some ⟨gw, ow, none⟩) ln cw] ∧ Blk w' b16 30 #[.int .i64 y.k, .int .i64 y.g] ∧ w'.rangeAt gw (ow + i * 2) (#[.int .i64 y.k, .int .i64 y.g] : Array Value).toList) (fun q => by obtain ⟨a, w, q⟩ := q; exact q) (noDefer_spec (by kernel_rfl)) (by kernel_rfl) ?_
          change wpAnyH _ _ _ _ _ 16 _ _ _
          have fd : Fr Wt Wt.drew (fun _ => False) := (Fr.refl Wt _).drew
          have HT : Hid (GN w W C4 wb S b6 b8 b9 b13 b14 b15 k nn (.slice (some ⟨gw, ow, none⟩) ln cw) l S2 col2 Wt.drew i (c + 1) ∧ BD C4 W1 Wt.drew wb S1 S2 ∧ Blk Wt.drew b16 30 #[.int .i64 y.k, .int .i64 y.g] ∧ C4.heap.size ≤ b16) := ⟨HG4.out.1.sm fd, HG4.out.2.1.step fd (fun _ _ q => q.elim) (fun _ q => .inl q), HG4.out.2.2.1.fr fd (fun q => q), HG4.out.2.2.2⟩
          clear fd HG4
          generalize Wt.drew = Wd at *
          have hS : Blk Wd b15 4 #[.bool true] ∧ Blk Wd b14 3 #[.int .i64 (i : Int)] ∧ Blk Wd b13 31 #[.slice (some ⟨gw, ow, none⟩) ln cw] ∧ Blk Wd b16 30 #[.int .i64 y.k, .int .i64 y.g] ∧ Wd.rangeAt gw (ow + i * 2) (#[.int .i64 y.k, .int .i64 y.g] : Array Value).toList := ⟨HT.out.1.g15, HT.out.1.i14, HT.out.1.wa, HT.out.2.2.1, thw_rng (n := ln) (by have q := HT.out.1.wr; rw [← HLN.out] at q; exact q) HM.out.2.2.2.2.2.2.1⟩
          refine takeR (i := 0) (v := .bool true) (some 33) rfl rfl (by kernel_rfl) (by kernel_rfl) (by kernel_rfl) (fun _ _ _ h => h) (Or.inl ⟨by kernel_rfl, fun w' hSw => by exact ldC_run (by unfold LC; simp) (.tmp 9) rfl (by kernel_rfl) (cellB hSw.1)⟩) hS ?_
          simp only [Act.put, List.setIfInBounds_toArray, List.set_cons_zero, List.set_cons_succ]
          refine takeR (i := 1) (v := .bool true) (some 34) rfl rfl (by kernel_rfl) (by kernel_rfl) (by kernel_rfl) (fun _ _ _ h => h) (Or.inl ⟨by kernel_rfl, fun w' hSw => by kernel_rfl⟩) hS ?_
          simp only [Act.put, List.setIfInBounds_toArray, List.set_cons_zero, List.set_cons_succ]
          refine takeR (i := 2) (v := .int .i64 (i : Int)) (some 35) rfl rfl (by kernel_rfl) (by kernel_rfl) (by kernel_rfl) (fun _ _ _ h => h) (Or.inl ⟨by kernel_rfl, fun w' hSw => by exact ldC_run (by unfold LC; simp) (.tmp 8) rfl (by kernel_rfl) (cellB hSw.2.1)⟩) hS ?_
          simp only [Act.put, List.setIfInBounds_toArray, List.set_cons_zero, List.set_cons_succ]
          refine takeR (i := 3) (v := .slice (some ⟨gw, ow, none⟩) ln cw) (some 36) rfl rfl (by kernel_rfl) (by kernel_rfl) (by kernel_rfl) (fun _ _ _ h => h) (Or.inl ⟨by kernel_rfl, fun w' hSw => by exact ldC_run (by unfold LC; simp) (.tmp 7) rfl (by kernel_rfl) (cellB hSw.2.2.1)⟩) hS ?_
          simp only [Act.put, List.setIfInBounds_toArray, List.set_cons_zero, List.set_cons_succ]
          refine takeR (i := 4) (v := .int .i64 (ln : Int)) (some 37) rfl rfl (by kernel_rfl) (by kernel_rfl) (by kernel_rfl) (fun _ _ _ h => h) (Or.inl ⟨by kernel_rfl, fun w' hSw => by exact lenC_run (.inr (.inr rfl)) (v := .slice (some ⟨gw, ow, none⟩) ln cw) (ao := some ⟨gw, ow, none⟩) (n := ln) (c := cw) rfl (.tmp 36) rfl (by kernel_rfl) _⟩) hS ?_
          simp only [Act.put, List.setIfInBounds_toArray, List.set_cons_zero, List.set_cons_succ]
          refine takeR (i := 5) (v := .bool true) (some 38) rfl rfl (by kernel_rfl) (by kernel_rfl) (by kernel_rfl) (fun _ _ _ h => h) (Or.inl ⟨by kernel_rfl, fun w' hSw => by exact ltT_run (i := i) (n := ln) (.tmp 35) (.tmp 37) rfl (by kernel_rfl) (by kernel_rfl) hil _⟩) hS ?_
          simp only [Act.put, List.setIfInBounds_toArray, List.set_cons_zero, List.set_cons_succ]
          refine takeR (i := 6) (v := .bool true) (some 39) rfl rfl (by kernel_rfl) (by kernel_rfl) (by kernel_rfl) (fun _ _ _ h => h) (Or.inl ⟨by kernel_rfl, fun w' hSw => by kernel_rfl⟩) hS ?_
          simp only [Act.put, List.setIfInBounds_toArray, List.set_cons_zero, List.set_cons_succ]
          refine takeR (i := 7) (v := .bool true) (some 40) rfl rfl (by kernel_rfl) (by kernel_rfl) (by kernel_rfl) (fun _ _ _ h => h) (Or.inl ⟨by kernel_rfl, fun w' hSw => by kernel_rfl⟩) hS ?_
          simp only [Act.put, List.setIfInBounds_toArray, List.set_cons_zero, List.set_cons_succ]
          refine takeR (i := 8) (v := .agg #[.int .i64 y.k, .int .i64 y.g]) (some 41) rfl rfl (by kernel_rfl) (by kernel_rfl) (by kernel_rfl) (fun _ _ _ h => h) (Or.inl ⟨by kernel_rfl, fun w' hSw => by exact ldT_run (blk_rng hSw.2.2.2.1) Try.underlying30 rfl infoThS (.tmp 10) rfl (by kernel_rfl)⟩) hS ?_
          simp only [Act.put, List.setIfInBounds_toArray, List.set_cons_zero, List.set_cons_succ]
          refine takeR (i := 9) (v := .slice (some ⟨gw, ow, none⟩) ln cw) (some 42) rfl rfl (by kernel_rfl) (by kernel_rfl) (by kernel_rfl) (fun _ _ _ h => h) (Or.inl ⟨by kernel_rfl, fun w' hSw => by exact ldC_run (by unfold LC; simp) (.tmp 7) rfl (by kernel_rfl) (cellB hSw.2.2.1)⟩) hS ?_
          simp only [Act.put, List.setIfInBounds_toArray, List.set_cons_zero, List.set_cons_succ]
          refine takeR (i := 10) (v := .int .i64 (i : Int)) (some 43) rfl rfl (by kernel_rfl) (by kernel_rfl) (by kernel_rfl) (fun _ _ _ h => h) (Or.inl ⟨by kernel_rfl, fun w' hSw => by exact ldC_run (by unfold LC; simp) (.tmp 8) rfl (by kernel_rfl) (cellB hSw.2.1)⟩) hS ?_
          simp only [Act.put, List.setIfInBounds_toArray, List.set_cons_zero, List.set_cons_succ]
          refine takeR (i := 11) (v := .pointer (some ⟨gw, ow + i * 2, none⟩)) (some 44) rfl rfl (by kernel_rfl) (by kernel_rfl) (by kernel_rfl) (fun _ _ _ h => h) (Or.inl ⟨by kernel_rfl, fun w' hSw => by exact ixT_run (n := ln) (c := cw) (i := i) (.tmp 42) (.tmp 43) rfl (by kernel_rfl) (by kernel_rfl) hil _⟩) hS ?_
          simp only [Act.put, List.setIfInBounds_toArray, List.set_cons_zero, List.set_cons_succ]
          refine takeR (i := 12) (v := .agg #[.int .i64 y.k, .int .i64 y.g]) (some 45) rfl rfl (by kernel_rfl) (by kernel_rfl) (by kernel_rfl) (fun _ _ _ h => h) (Or.inl ⟨by kernel_rfl, fun w' hSw => by exact ldT_run hSw.2.2.2.2 Try.underlying30 rfl infoThS (.tmp 44) rfl (by kernel_rfl)⟩) hS ?_
          simp only [Act.put, List.setIfInBounds_toArray, List.set_cons_zero, List.set_cons_succ]
          refine takeR (i := 13) (v := .bool true) (some 46) rfl rfl (by kernel_rfl) (by kernel_rfl) (by kernel_rfl) (fun _ _ _ h => h) (Or.inl ⟨by kernel_rfl, fun w' hSw => by exact eqTh_run (p := y.k) (q := y.g) (.tmp 41) (.tmp 45) rfl (by kernel_rfl) (by kernel_rfl) _⟩) hS ?_
          simp only [Act.put, List.setIfInBounds_toArray, List.set_cons_zero, List.set_cons_succ]
          refine takeR (i := 14) (v := .bool true) (some 47) rfl rfl (by kernel_rfl) (by kernel_rfl) (by kernel_rfl) (fun _ _ _ h => h) (Or.inl ⟨by kernel_rfl, fun w' hSw => by kernel_rfl⟩) hS ?_
          simp only [Act.put, List.setIfInBounds_toArray, List.set_cons_zero, List.set_cons_succ]
          refine wpAnyH_ready (rs := [15]) (by kernel_rfl) (by simp) ?_
          refine AllReadyH.cons rfl (fun K1 hK1 => ?_) AllReadyH.nil
          rw [if_pos (by kernel_rfl)]
          refine skipR (d := none) rfl (w' := Wd.setCell ⟨b15, 0, none⟩ (.bool true)) (stG_run (.inr (.inl ⟨rfl, _, rfl⟩)) (.tmp 9) (.tmp 47) rfl (by kernel_rfl) (by kernel_rfl) hS.1) ?_
          have HT2 : Hid (GN w W C4 wb S b6 b8 b9 b13 b14 b15 k nn (.slice (some ⟨gw, ow, none⟩) ln cw) l S2 col2 (Wd.setCell ⟨b15, 0, none⟩ (.bool true)) i (c + 1) ∧ BD C4 W1 (Wd.setCell ⟨b15, 0, none⟩ (.bool true)) wb S1 S2 ∧ Blk (Wd.setCell ⟨b15, 0, none⟩ (.bool true)) b16 30 #[.int .i64 y.k, .int .i64 y.g] ∧ C4.heap.size ≤ b16) := by
            have h := HT.out
            have f := Fr.setCell Wd ⟨b15, 0, none⟩ (.bool true) (fun b => b = b15) rfl
            exact ⟨h.1.set15 HW0.out, h.2.1.step f (fun b _ q => .inl (by rw [q]; exact h.1.lt.2.2.2.2.2.1)) (fun _ q => .inl q), h.2.2.1.fr f (h.2.2.1.neT h.1.g15 (by decide)), h.2.2.2⟩
          clear HT
          generalize Wd.setCell ⟨b15, 0, none⟩ (.bool true) = We at *
          have hS2 : Blk We b15 4 #[.bool true] ∧ Blk We b14 3 #[.int .i64 (i : Int)] ∧ Blk We b13 31 #[.slice (some ⟨gw, ow, none⟩) ln cw] ∧ Blk We b16 30 #[.int .i64 y.k, .int .i64 y.g] ∧ We.rangeAt gw (ow + i * 2) (#[.int .i64 y.k, .int .i64 y.g] : Array Value).toList := ⟨HT2.out.1.g15, HT2.out.1.i14, HT2.out.1.wa, HT2.out.2.2.1, thw_rng (n := ln) (by have q := HT2.out.1.wr; rw [← HLN.out] at q; exact q) HM.out.2.2.2.2.2.2.1⟩
          refine hK1.out _ _ hS2 (fun _ => ?_)
          clear hK1 hS
          simp only [Act.put, List.setIfInBounds_toArray, List.set_cons_zero, List.set_cons_succ]
          refine wpAnyH_done (by kernel_rfl) ?_ _
          clear hS2
          refine h0K _ _ ?_
          clear h0K
          have d14 := cellB HT2.out.1.i14
          have d15 := cellB HT2.out.1.g15
          have z14 := HT2.out.1.i14.frozen 0
          have hb1 : (i : Int) + 1 < 9223372036854775808 := by omega
          have n15 : b14 ≠ b15 := HT2.out.1.i14.neT HT2.out.1.g15 (by decide)
          gi_wp2
          have e14 : ((i : Int) + 1) = ((i + 1 : Nat) : Int) := by omega
          have f := Fr.setCell We ⟨b14, 0, none⟩ (.int .i64 ((i + 1 : Nat) : Int)) (fun b => b = b14) rfl
          have h := HT2.out
          have G2 := h.1.set14 HW0.out
          have B2 := h.2.1.step f (fun b _ q => .inl (by rw [q]; exact h.1.lt.2.2.2.2.1)) (fun _ q => .inl q)
          rw [← e14] at G2 B2
          refine ⟨fun b => b < C4.heap.size ∨ owns wb S2 b, ⟨S2, col2, (c + 1), (by have := HM.out.2.2.2.1; have := HM.out.2.2.2.2.1; have := HIC.out; omega), fun _ => ?_, ?_, fun _ => Iff.rfl, fun b q => ?_⟩, B2.fr.mono fun b _ q => (HM.out.1 b).2 q, fun b q => ?_⟩
          · rw [List.length_append, List.length_singleton, ← HM.out.2.2.2.2.2.1]
            have := HIC.out
            omega
          · rw [List.length_append, List.length_singleton, ← HM.out.2.2.2.2.2.1]
            exact G2
          · rcases B2.nw b q with r | r
            · exact HM.out.2.1 b r
            · have := HM.out; exact .inr (by omega)
          · rcases q with q | q
            · exact .inl ((HM.out.1 b).2 (.inl q))
            · rcases B2.nw b q with r | r
              · exact .inl ((HM.out.1 b).2 (.inr r))
              · exact .inr r
        have e1 : ((i : Int) == nn) = false := by simp [hin]
        gi_wp2
        rename_i K0 h0K
        refine region_round_held (S := fun w' => Blk w' b15 4 #[.bool true] ∧ Blk w' b14 3 #[.int .i64 (i : Int)] ∧ Blk w' b13 31 #[.slice (some ⟨gw, ow, none⟩) ln cw] ∧ Blk w' b16 30 #[.int .i64 y.k, .int .i64 y.g] ∧ w'.rangeAt gw (ow + i * 2) (#[.int .i64 y.k, .int .i64 y.g] : Array Value).toList) (fun q => by obtain ⟨a, w, q⟩ := q; exact q) (noDefer_spec (by kernel_rfl)) (by kernel_rfl) ?_
        change wpAnyH _ _ _ _ _ 16 _ _ _
        have fd : Fr W1 W1.drew (fun _ => False) := (Fr.refl W1 _).drew
        have HT : Hid (GN w W C4 wb S b6 b8 b9 b13 b14 b15 k nn (.slice (some ⟨gw, ow, none⟩) ln cw) l S1 col1 W1.drew i c ∧ BD C4 W1 W1.drew wb S1 S1 ∧ Blk W1.drew b16 30 #[.int .i64 y.k, .int .i64 y.g] ∧ C4.heap.size ≤ b16) := ⟨HG1.out.1.sm fd, HG1.out.2.1.step fd (fun _ _ q => q.elim) (fun _ q => .inl q), HG1.out.2.2.1.fr fd (fun q => q), HG1.out.2.2.2⟩
        clear fd HG1
        generalize W1.drew = Wd at *
        have hS : Blk Wd b15 4 #[.bool true] ∧ Blk Wd b14 3 #[.int .i64 (i : Int)] ∧ Blk Wd b13 31 #[.slice (some ⟨gw, ow, none⟩) ln cw] ∧ Blk Wd b16 30 #[.int .i64 y.k, .int .i64 y.g] ∧ Wd.rangeAt gw (ow + i * 2) (#[.int .i64 y.k, .int .i64 y.g] : Array Value).toList := ⟨HT.out.1.g15, HT.out.1.i14, HT.out.1.wa, HT.out.2.2.1, thw_rng (n := ln) (by have q := HT.out.1.wr; rw [← HLN.out] at q; exact q) HM.out.2.2.2.2.2.2.1⟩
        refine takeR (i := 0) (v := .bool true) (some 33) rfl rfl (by kernel_rfl) (by kernel_rfl) (by kernel_rfl) (fun _ _ _ h => h) (Or.inl ⟨by kernel_rfl, fun w' hSw => by exact ldC_run (by unfold LC; simp) (.tmp 9) rfl (by kernel_rfl) (cellB hSw.1)⟩) hS ?_
        simp only [Act.put, List.setIfInBounds_toArray, List.set_cons_zero, List.set_cons_succ]
        refine takeR (i := 1) (v := .bool true) (some 34) rfl rfl (by kernel_rfl) (by kernel_rfl) (by kernel_rfl) (fun _ _ _ h => h) (Or.inl ⟨by kernel_rfl, fun w' hSw => by kernel_rfl⟩) hS ?_
        simp only [Act.put, List.setIfInBounds_toArray, List.set_cons_zero, List.set_cons_succ]
        refine takeR (i := 2) (v := .int .i64 (i : Int)) (some 35) rfl rfl (by kernel_rfl) (by kernel_rfl) (by kernel_rfl) (fun _ _ _ h => h) (Or.inl ⟨by kernel_rfl, fun w' hSw => by exact ldC_run (by unfold LC; simp) (.tmp 8) rfl (by kernel_rfl) (cellB hSw.2.1)⟩) hS ?_
        simp only [Act.put, List.setIfInBounds_toArray, List.set_cons_zero, List.set_cons_succ]
        refine takeR (i := 3) (v := .slice (some ⟨gw, ow, none⟩) ln cw) (some 36) rfl rfl (by kernel_rfl) (by kernel_rfl) (by kernel_rfl) (fun _ _ _ h => h) (Or.inl ⟨by kernel_rfl, fun w' hSw => by exact ldC_run (by unfold LC; simp) (.tmp 7) rfl (by kernel_rfl) (cellB hSw.2.2.1)⟩) hS ?_
        simp only [Act.put, List.setIfInBounds_toArray, List.set_cons_zero, List.set_cons_succ]
        refine takeR (i := 4) (v := .int .i64 (ln : Int)) (some 37) rfl rfl (by kernel_rfl) (by kernel_rfl) (by kernel_rfl) (fun _ _ _ h => h) (Or.inl ⟨by kernel_rfl, fun w' hSw => by exact lenC_run (.inr (.inr rfl)) (v := .slice (some ⟨gw, ow, none⟩) ln cw) (ao := some ⟨gw, ow, none⟩) (n := ln) (c := cw) rfl (.tmp 36) rfl (by kernel_rfl) _⟩) hS ?_
        simp only [Act.put, List.setIfInBounds_toArray, List.set_cons_zero, List.set_cons_succ]
        refine takeR (i := 5) (v := .bool true) (some 38) rfl rfl (by kernel_rfl) (by kernel_rfl) (by kernel_rfl) (fun _ _ _ h => h) (Or.inl ⟨by kernel_rfl, fun w' hSw => by exact ltT_run (i := i) (n := ln) (.tmp 35) (.tmp 37) rfl (by kernel_rfl) (by kernel_rfl) hil _⟩) hS ?_
        simp only [Act.put, List.setIfInBounds_toArray, List.set_cons_zero, List.set_cons_succ]
        refine takeR (i := 6) (v := .bool true) (some 39) rfl rfl (by kernel_rfl) (by kernel_rfl) (by kernel_rfl) (fun _ _ _ h => h) (Or.inl ⟨by kernel_rfl, fun w' hSw => by kernel_rfl⟩) hS ?_
        simp only [Act.put, List.setIfInBounds_toArray, List.set_cons_zero, List.set_cons_succ]
        refine takeR (i := 7) (v := .bool true) (some 40) rfl rfl (by kernel_rfl) (by kernel_rfl) (by kernel_rfl) (fun _ _ _ h => h) (Or.inl ⟨by kernel_rfl, fun w' hSw => by kernel_rfl⟩) hS ?_
        simp only [Act.put, List.setIfInBounds_toArray, List.set_cons_zero, List.set_cons_succ]
        refine takeR (i := 8) (v := .agg #[.int .i64 y.k, .int .i64 y.g]) (some 41) rfl rfl (by kernel_rfl) (by kernel_rfl) (by kernel_rfl) (fun _ _ _ h => h) (Or.inl ⟨by kernel_rfl, fun w' hSw => by exact ldT_run (blk_rng hSw.2.2.2.1) Try.underlying30 rfl infoThS (.tmp 10) rfl (by kernel_rfl)⟩) hS ?_
        simp only [Act.put, List.setIfInBounds_toArray, List.set_cons_zero, List.set_cons_succ]
        refine takeR (i := 9) (v := .slice (some ⟨gw, ow, none⟩) ln cw) (some 42) rfl rfl (by kernel_rfl) (by kernel_rfl) (by kernel_rfl) (fun _ _ _ h => h) (Or.inl ⟨by kernel_rfl, fun w' hSw => by exact ldC_run (by unfold LC; simp) (.tmp 7) rfl (by kernel_rfl) (cellB hSw.2.2.1)⟩) hS ?_
        simp only [Act.put, List.setIfInBounds_toArray, List.set_cons_zero, List.set_cons_succ]
        refine takeR (i := 10) (v := .int .i64 (i : Int)) (some 43) rfl rfl (by kernel_rfl) (by kernel_rfl) (by kernel_rfl) (fun _ _ _ h => h) (Or.inl ⟨by kernel_rfl, fun w' hSw => by exact ldC_run (by unfold LC; simp) (.tmp 8) rfl (by kernel_rfl) (cellB hSw.2.1)⟩) hS ?_
        simp only [Act.put, List.setIfInBounds_toArray, List.set_cons_zero, List.set_cons_succ]
        refine takeR (i := 11) (v := .pointer (some ⟨gw, ow + i * 2, none⟩)) (some 44) rfl rfl (by kernel_rfl) (by kernel_rfl) (by kernel_rfl) (fun _ _ _ h => h) (Or.inl ⟨by kernel_rfl, fun w' hSw => by exact ixT_run (n := ln) (c := cw) (i := i) (.tmp 42) (.tmp 43) rfl (by kernel_rfl) (by kernel_rfl) hil _⟩) hS ?_
        simp only [Act.put, List.setIfInBounds_toArray, List.set_cons_zero, List.set_cons_succ]
        refine takeR (i := 12) (v := .agg #[.int .i64 y.k, .int .i64 y.g]) (some 45) rfl rfl (by kernel_rfl) (by kernel_rfl) (by kernel_rfl) (fun _ _ _ h => h) (Or.inl ⟨by kernel_rfl, fun w' hSw => by exact ldT_run hSw.2.2.2.2 Try.underlying30 rfl infoThS (.tmp 44) rfl (by kernel_rfl)⟩) hS ?_
        simp only [Act.put, List.setIfInBounds_toArray, List.set_cons_zero, List.set_cons_succ]
        refine takeR (i := 13) (v := .bool true) (some 46) rfl rfl (by kernel_rfl) (by kernel_rfl) (by kernel_rfl) (fun _ _ _ h => h) (Or.inl ⟨by kernel_rfl, fun w' hSw => by exact eqTh_run (p := y.k) (q := y.g) (.tmp 41) (.tmp 45) rfl (by kernel_rfl) (by kernel_rfl) _⟩) hS ?_
        simp only [Act.put, List.setIfInBounds_toArray, List.set_cons_zero, List.set_cons_succ]
        refine takeR (i := 14) (v := .bool true) (some 47) rfl rfl (by kernel_rfl) (by kernel_rfl) (by kernel_rfl) (fun _ _ _ h => h) (Or.inl ⟨by kernel_rfl, fun w' hSw => by kernel_rfl⟩) hS ?_
        simp only [Act.put, List.setIfInBounds_toArray, List.set_cons_zero, List.set_cons_succ]
        refine wpAnyH_ready (rs := [15]) (by kernel_rfl) (by simp) ?_
        refine AllReadyH.cons rfl (fun K1 hK1 => ?_) AllReadyH.nil
        rw [if_pos (by kernel_rfl)]
        refine skipR (d := none) rfl (w' := Wd.setCell ⟨b15, 0, none⟩ (.bool true)) (stG_run (.inr (.inl ⟨rfl, _, rfl⟩)) (.tmp 9) (.tmp 47) rfl (by kernel_rfl) (by kernel_rfl) hS.1) ?_
        have HT2 : Hid (GN w W C4 wb S b6 b8 b9 b13 b14 b15 k nn (.slice (some ⟨gw, ow, none⟩) ln cw) l S1 col1 (Wd.setCell ⟨b15, 0, none⟩ (.bool true)) i c ∧ BD C4 W1 (Wd.setCell ⟨b15, 0, none⟩ (.bool true)) wb S1 S1 ∧ Blk (Wd.setCell ⟨b15, 0, none⟩ (.bool true)) b16 30 #[.int .i64 y.k, .int .i64 y.g] ∧ C4.heap.size ≤ b16) := by
          have h := HT.out
          have f := Fr.setCell Wd ⟨b15, 0, none⟩ (.bool true) (fun b => b = b15) rfl
          exact ⟨h.1.set15 HW0.out, h.2.1.step f (fun b _ q => .inl (by rw [q]; exact h.1.lt.2.2.2.2.2.1)) (fun _ q => .inl q), h.2.2.1.fr f (h.2.2.1.neT h.1.g15 (by decide)), h.2.2.2⟩
        clear HT
        generalize Wd.setCell ⟨b15, 0, none⟩ (.bool true) = We at *
        have hS2 : Blk We b15 4 #[.bool true] ∧ Blk We b14 3 #[.int .i64 (i : Int)] ∧ Blk We b13 31 #[.slice (some ⟨gw, ow, none⟩) ln cw] ∧ Blk We b16 30 #[.int .i64 y.k, .int .i64 y.g] ∧ We.rangeAt gw (ow + i * 2) (#[.int .i64 y.k, .int .i64 y.g] : Array Value).toList := ⟨HT2.out.1.g15, HT2.out.1.i14, HT2.out.1.wa, HT2.out.2.2.1, thw_rng (n := ln) (by have q := HT2.out.1.wr; rw [← HLN.out] at q; exact q) HM.out.2.2.2.2.2.2.1⟩
        refine hK1.out _ _ hS2 (fun _ => ?_)
        clear hK1 hS
        simp only [Act.put, List.setIfInBounds_toArray, List.set_cons_zero, List.set_cons_succ]
        refine wpAnyH_done (by kernel_rfl) ?_ _
        clear hS2
        refine h0K _ _ ?_
        clear h0K
        have d14 := cellB HT2.out.1.i14
        have d15 := cellB HT2.out.1.g15
        have z14 := HT2.out.1.i14.frozen 0
        have hb1 : (i : Int) + 1 < 9223372036854775808 := by omega
        have n15 : b14 ≠ b15 := HT2.out.1.i14.neT HT2.out.1.g15 (by decide)
        gi_wp2
        have e14 : ((i : Int) + 1) = ((i + 1 : Nat) : Int) := by omega
        have f := Fr.setCell We ⟨b14, 0, none⟩ (.int .i64 ((i + 1 : Nat) : Int)) (fun b => b = b14) rfl
        have h := HT2.out
        have G2 := h.1.set14 HW0.out
        have B2 := h.2.1.step f (fun b _ q => .inl (by rw [q]; exact h.1.lt.2.2.2.2.1)) (fun _ q => .inl q)
        rw [← e14] at G2 B2
        refine ⟨fun b => b < C4.heap.size ∨ owns wb S1 b, ⟨S1, col1, c, HM.out.2.2.2.1, fun _ => ?_, ?_, fun _ => Iff.rfl, fun b q => ?_⟩, B2.fr.mono fun b _ q => (HM.out.1 b).2 q, fun b q => ?_⟩
        · rw [List.length_append, List.length_singleton, ← HM.out.2.2.2.2.2.1]
          have := HM.out.2.2.2.2.1 (by assumption)
          omega
        · rw [List.length_append, List.length_singleton, ← HM.out.2.2.2.2.2.1]
          exact G2
        · rcases B2.nw b q with r | r
          · exact HM.out.2.1 b r
          · have := HM.out; exact .inr (by omega)
        · rcases q with q | q
          · exact .inl ((HM.out.1 b).2 (.inl q))
          · rcases B2.nw b q with r | r
            · exact .inl ((HM.out.1 b).2 (.inr r))
            · exact .inr r
      case hdone => as_aux_lemma =>
        rintro pre W1 M hpop ⟨S1, col1, c, hc1, hc2, G, hM, ho⟩ hdef
        have hpl : pre.length = l.length := by
          have h1 := hpop.len
          have h2 := HPO.out.len
          simp only [List.length_nil] at h1 h2
          omega
        obtain ⟨i, hi⟩ : ∃ i, i = pre.length := ⟨_, rfl⟩
        rw [← hi] at G hpl hc2
        obtain ⟨aw, cw, hwv, hxx⟩ := G.wr.form
        clear hxx hi
        subst hwv
        rw [← hpl] at G
        have HE : Hid (GN w W C4 wb S b6 b8 b9 b13 b14 b15 k nn (.slice aw i cw) l S1 col1 W1 i c ∧ (∀ b, owns wb S1 b → b < C4.heap.size ∨ C4.heap.size + 2 ≤ b) ∧ c ≤ 1 ∧ W1.heap[C4.heap.size]? = some (.deferred (some []))) := ⟨G, ho, hc1, hdef⟩
        clear G ho hc1 hc2 hdef hM hpop hpl
        have c14 := cellB HE.out.1.i14
        have c15 := cellB HE.out.1.g15
        have c13 := cellB HE.out.1.wa
        clear HPO HG HBB
        go_upto_region 11 with fail
        rename_i K hK
        refine wp_region_lit ?_
        refine wpList_runTo rfl (some 52) rfl (.bool true) W1 (by exact ldC_run (by unfold LC; simp) (.tmp 9) rfl (by kernel_rfl) (c15)) ?_
        simp only [Act.put, List.setIfInBounds_toArray, List.set_cons_zero, List.set_cons_succ]
        refine wpList_runTo rfl (some 53) rfl (.bool true) W1 (by kernel_rfl) ?_
        simp only [Act.put, List.setIfInBounds_toArray, List.set_cons_zero, List.set_cons_succ]
        refine wpList_runToG (by kernel_rfl) (some 54) rfl (.int .i64 (i : Int)) W1 (by exact ldC_run (by unfold LC; simp) (.tmp 8) rfl (by kernel_rfl) (c14)) ?_
        simp only [Act.put, List.setIfInBounds_toArray, List.set_cons_zero, List.set_cons_succ]
        refine wpList_runToG (by kernel_rfl) (some 55) rfl (.slice aw i cw) W1 (by exact ldC_run (by unfold LC; simp) (.tmp 7) rfl (by kernel_rfl) (c13)) ?_
        simp only [Act.put, List.setIfInBounds_toArray, List.set_cons_zero, List.set_cons_succ]
        refine wpList_runToG (by kernel_rfl) (some 56) rfl (.int .i64 (i : Int)) W1 (by exact lenC_run (.inr (.inr rfl)) (v := .slice aw i cw) (ao := aw) (n := i) (c := cw) rfl (.tmp 55) rfl (by kernel_rfl) _) ?_
        simp only [Act.put, List.setIfInBounds_toArray, List.set_cons_zero, List.set_cons_succ]
        refine wpList_runToG (by kernel_rfl) (some 57) rfl (.bool true) W1 (by exact eqI_run (p := (i : Int)) (.tmp 54) (.tmp 56) rfl (by kernel_rfl) (by kernel_rfl) _) ?_
        simp only [Act.put, List.setIfInBounds_toArray, List.set_cons_zero, List.set_cons_succ]
        refine wpList_runTo rfl (some 58) rfl (.bool true) W1 (by kernel_rfl) ?_
        simp only [Act.put, List.setIfInBounds_toArray, List.set_cons_zero, List.set_cons_succ]
        refine wpList_runTo rfl (some 6) rfl (.bool true) W1 (by kernel_rfl) ?_
        simp only [Act.put, List.setIfInBounds_toArray, List.set_cons_zero, List.set_cons_succ]
        refine wpList_nil ?_
        refine hK _ _ ?_
        clear hK
        have HZ : Hid (Nx w W (W1.putObj C4.heap.size (.deferred none)) wb S col 1) := by
          have h := HE.out
          have f := fr_put W1 C4.heap.size (.deferred none)
          have sw := h.1.sw
          have w0 := HW0.out
          refine ⟨S1, col1, h.1.pw.frO f (fun b q r => by have := h.2.1 b r; omega) (fun b _ q => by omega), h.1.hh.1, h.1.hh.2, by have := h.1.ln; have := h.2.2.1; omega, h.1.nw, h.1.fr.trans f fun b hb q => ?_⟩
          rcases q with q | q
          · exact q
          · omega
        have HDE : Hid (W1.heap[C4.heap.size]? = some (.deferred (some []))) := HE.out.2.2.2
        clear c14 c15 c13 HE HW0 HH
        go_wp2
        rw [HQF.out]
        refine ⟨by simp, .inl ⟨_, _, rfl, run_takeDeferred HDE.out, ?_⟩⟩
        exact ⟨_, results_tmp (fn := Try.f73) (t := 6) rfl _ _ _, by rfl, HZ⟩
      case hstop =>
        rintro c pre W1 _ hq _
        exact hq.elim
end
end Go.Proofs.Ytdnhhcbabdoomaa
