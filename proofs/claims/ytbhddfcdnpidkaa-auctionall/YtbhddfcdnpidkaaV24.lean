/-
  auction: rowAt.
-/
import Derived.Test.YtbhddfcdnpidkaaV23
namespace Go.Proofs.Ytbhddfcdnpidkaa
set_option linter.unusedVariables false
set_option linter.unusedSimpArgs false
open Go.RowKit Go.Great
attribute [local irreducible] wpList

set_option maxRecDepth 100000 in
theorem cloAt_any (w : World) (v : Wn) (sb pb : Nat) (s p : Int) (h1 : Blk w sb 3 #[.int .i64 s]) (h2 : Blk w pb 2 #[.int .i64 p]) : Calls Try.prog 51 #[.agg v.cs, .pointer (some ⟨sb, 0, none⟩), .pointer (some ⟨pb, 0, none⟩)] w fun e w' => e = .returned (.bool (!atW s p v)) ∧ Hid (Below w.heap.size w w') := by
  have H0 : Hid (Below w.heap.size w (w.alloc (.cells v.cs 69)) ∧ Blk (w.alloc (.cells v.cs 69)) w.heap.size 69 v.cs ∧ Blk (w.alloc (.cells v.cs 69)) sb 3 #[.int .i64 s] ∧ Blk (w.alloc (.cells v.cs 69)) pb 2 #[.int .i64 p]) := ⟨(Below.refl _ w).alloc (Nat.le_refl _) _, Blk.new _ _ _, h1.alloc _, h2.alloc _⟩
  have hat := fun W => at_any W v s p
  clear h1 h2
  generalize atW s p v = bb at *
  go_enter Try.func51, Try.ntmps51
  go_upto_region 1 with fail
  generalize w.alloc (.cells v.cs 69) = W at *
  obtain ⟨bx, hbx⟩ : ∃ bx, bx = w.heap.size := ⟨_, rfl⟩
  have H1 : Hid (Below w.heap.size w W ∧ Blk W bx 69 v.cs ∧ Blk W sb 3 #[.int .i64 s] ∧ Blk W pb 2 #[.int .i64 p]) := by rw [hbx]; exact H0.out
  rw [← hbx]
  clear H0 hbx
  have q1 := H1.out.2.2.1.cell 0
  have q2 := H1.out.2.2.2.cell 0
  rename_i K hK
  refine wp_region_lit ?_
  refine wpList_runTo rfl (some 5) rfl (.agg v.cs) W (by exact ldA_run (blk_range H1.out.2.1) Try.underlying69 rfl infoW (.tmp 3) rfl (by kernel_rfl)) ?_
  simp only [Act.put, List.setIfInBounds_toArray, List.set_cons_zero, List.set_cons_succ]
  refine wpList_runTo rfl (some 6) rfl (.int .i64 s) W (by exact ldN_run (.inr rfl) (.tmp 1) rfl (by kernel_rfl) q1) ?_
  simp only [Act.put, List.setIfInBounds_toArray, List.set_cons_zero, List.set_cons_succ]
  refine wpList_runTo rfl (some 7) rfl (.int .i64 p) W (by exact ldN_run (.inl rfl) (.tmp 2) rfl (by kernel_rfl) q2) ?_
  simp only [Act.put, List.setIfInBounds_toArray, List.set_cons_zero, List.set_cons_succ]
  refine wpList_callW rfl (some 8) rfl 45 #[.agg v.cs, .int .i64 s, .int .i64 p] (by kernel_rfl) (hat W) ?_
  clear hat q1 q2
  rintro e w2 ⟨rfl, hb⟩
  refine ⟨_, rfl, ?_⟩
  simp only [Act.put, List.setIfInBounds_toArray, List.set_cons_zero, List.set_cons_succ]
  have H2 : Hid (Below w.heap.size w w2) := below_step H1.out.1 hb
  clear H1 hb
  refine wpList_runTo rfl (some 9) rfl (.bool (!bb)) w2 (by exact not_run (.tmp 8) rfl (by kernel_rfl) _) ?_
  simp only [Act.put, List.setIfInBounds_toArray, List.set_cons_zero, List.set_cons_succ]
  refine wpList_runTo rfl (some 4) rfl (.bool (!bb)) w2 (by kernel_rfl) ?_
  simp only [Act.put, List.setIfInBounds_toArray, List.set_cons_zero, List.set_cons_succ]
  refine wpList_nil ?_
  refine hK _ _ ?_
  clear hK
  go_wp2
  go_ret
  exact ⟨rfl, H2.out⟩
theorem tw_get {l : List Wn} {f : Wn → Bool} {k : Nat} (hk : k ≤ l.length) (h1 : ∀ j b, j < k → l[j]? = some b → f b = true) (h2 : k = l.length ∨ ∃ b, l[k]? = some b ∧ f b = false) : l.takeWhile f = l.take k := by
  induction l generalizing k with
  | nil => simp
  | cons a l ih =>
    cases k with
    | zero =>
      rcases h2 with h2 | ⟨b, h2, h3⟩
      · simp at h2
      · simp only [List.getElem?_cons_zero, Option.some.injEq] at h2
        subst h2
        simp [List.takeWhile, h3]
    | succ k =>
      have ha := h1 0 a (by omega) rfl
      simp only [List.takeWhile, ha, List.take_succ_cons, List.cons.injEq, true_and]
      exact ih (by simpa using hk) (fun j b hj hb => h1 (j + 1) b (by omega) (by simpa using hb)) (by
        rcases h2 with h2 | ⟨b, h2, h3⟩
        · left; simpa using h2
        · exact .inr ⟨b, by simpa using h2, h3⟩)
def IxR (s p : Int) (l : List Wn) (z : Int) : Prop := (z = -1 ∧ l.takeWhile (atW s p) = l) ∨ ∃ k : Nat, z = (k : Int) ∧ k < l.length ∧ l.takeWhile (atW s p) = l.take k
set_option maxRecDepth 100000 in
set_option maxHeartbeats 1000000 in
theorem idxAt_any (l : List Wn) (s p : Int) (sb pb : Nat) (v : Value) (w : World) (h1 : Blk w sb 3 #[.int .i64 s]) (h2 : Blk w pb 2 #[.int .i64 p]) (hr : RowAt w 69 4 v l.length (flatL wL l)) (hl : l.length ≤ 9223372036854775806) :
    Calls Try.prog 50 #[v, .func (.func 51) #[] #[.pointer (some ⟨sb, 0, none⟩), .pointer (some ⟨pb, 0, none⟩)]] w fun e w' => ∃ z : Int, e = .returned (.int .i64 z) ∧ Hid (Below w.heap.size w w' ∧ IxR s p l z) := by
  obtain ⟨ao, cap, rfl, _⟩ := hr.form
  have HR : Hid (RowAt w 69 4 (.slice ao l.length cap) l.length (flatL wL l) ∧ Blk w sb 3 #[.int .i64 s] ∧ Blk w pb 2 #[.int .i64 p]) := ⟨hr, h1, h2⟩
  clear hr h1 h2
  obtain ⟨N, hN⟩ : ∃ N, N = l.length := ⟨_, rfl⟩
  have HN : Hid (N = l.length) := hN
  rw [← hN] at HR hl ⊢
  clear hN
  go_enter Try.func50, Try.ntmps50
  go_upto_region 2 with fail
  go_loopw [5, 8] (fun _ i wr => ∃ k : Nat, k ≤ N ∧ i = .int .i64 (k : Int) ∧ Hid ((∀ j b, j < k → l[j]? = some b → atW s p b = true) ∧ Below w.heap.size w wr)) (fun _ i _ => N - (RowKit.intOf i).toNat)
  case atStart => exact ⟨0, Nat.zero_le _, rfl, fun j b hj => by omega, Below.refl _ _⟩
  case round =>
    obtain ⟨k, hk, rfl, HI⟩ := hrel
    by_cases hlt : k < N
    · have hlt' : (k : Int) < (N : Int) := by omega
      obtain ⟨b, hb⟩ : ∃ b, l[k]? = some b := ⟨_, List.getElem?_eq_getElem (by rw [← HN.out]; exact hlt)⟩
      have hrow : RowAt wr 69 4 (.slice ao N cap) N (flatL wL l) := HR.out.1.fr (Fr.of_below HI.out.2 (fun _ => False)) fun _ _ => id
      obtain ⟨g, off, cap', _, hv, _⟩ := hrow.more (by omega)
      injection hv with h1 _ h2
      subst h1 h2
      have hrg := row_rangeW hrow hb
      have HC := cloAt_any wr b sb pb s p (HR.out.2.1.below HI.out.2 HR.out.2.1.lt) (HR.out.2.2.below HI.out.2 HR.out.2.2.lt)
      have HBk : Hid (l[k]? = some b) := hb
      obtain ⟨bb, hbb⟩ : ∃ bb, bb = atW s p b := ⟨_, rfl⟩
      have HBB : Hid (bb = atW s p b) := hbb
      rw [← hbb] at HC
      clear hrow hb hbb
      go_upto_region 4 with fail
      rename_i K hK
      refine wp_region_lit ?_
      refine wpList_runTo rfl (some 11) rfl (.func (.func 51) #[] #[.pointer (some ⟨sb, 0, none⟩), .pointer (some ⟨pb, 0, none⟩)]) wr (by kernel_rfl) ?_
      simp only [Act.put, List.setIfInBounds_toArray, List.set_cons_zero, List.set_cons_succ]
      refine wpList_runTo rfl (some 12) rfl (.slice (some ⟨g, off, none⟩) N cap) wr (by kernel_rfl) ?_
      simp only [Act.put, List.setIfInBounds_toArray, List.set_cons_zero, List.set_cons_succ]
      refine wpList_runTo rfl (some 13) rfl (.int .i64 (k : Int)) wr (by kernel_rfl) ?_
      simp only [Act.put, List.setIfInBounds_toArray, List.set_cons_zero, List.set_cons_succ]
      refine wpList_runTo rfl (some 14) rfl (.pointer (some ⟨g, off + k * 4, none⟩)) wr (by exact ixW_run (n := N) (c := cap) (.tmp 12) (.tmp 13) rfl (by kernel_rfl) (by kernel_rfl) hlt wr) ?_
      simp only [Act.put, List.setIfInBounds_toArray, List.set_cons_zero, List.set_cons_succ]
      refine wpList_runTo rfl (some 15) rfl (.agg b.cs) wr (by exact ldA_run hrg Try.underlying69 rfl infoW (.tmp 14) rfl (by kernel_rfl)) ?_
      simp only [Act.put, List.setIfInBounds_toArray, List.set_cons_zero, List.set_cons_succ]
      refine wpList_callW rfl (some 16) rfl 51 #[.agg b.cs, .pointer (some ⟨sb, 0, none⟩), .pointer (some ⟨pb, 0, none⟩)] (by kernel_rfl) HC ?_
      clear HC hrg
      rintro e w2 ⟨rfl, hb2⟩
      refine ⟨_, rfl, ?_⟩
      simp only [Act.put, List.setIfInBounds_toArray, List.set_cons_zero, List.set_cons_succ]
      refine wpList_nil ?_
      refine hK _ _ ?_
      clear hK
      cases bb with
      | true =>
        have HF : Hid ((∀ j b, j < k + 1 → l[j]? = some b → atW s p b = true) ∧ Below w.heap.size w w2) := ⟨fun j b' hj hb' => by
          by_cases e : j = k
          · subst e
            rw [HBk.out] at hb'
            cases hb'
            exact HBB.out.symm
          · exact HI.out.1 j b' (by omega) hb', below_step HI.out.2 hb2.out⟩
        have hnot : (!true) = false := rfl
        rw [hnot]
        clear hb2 HI HBk hnot HBB
        go_wp2
        exact ⟨⟨k + 1, by omega, by go_num, HF.out⟩, by simp [RowKit.intOf]; omega⟩
      | false =>
        have HF : Hid (Below w.heap.size w w2 ∧ IxR s p l k) :=
          ⟨below_step HI.out.2 hb2.out, .inr ⟨k, rfl, by rw [← HN.out]; exact hlt, tw_get (by rw [← HN.out]; omega) HI.out.1 (.inr ⟨b, HBk.out, HBB.out.symm⟩)⟩⟩
        have hnot : (!false) = true := rfl
        rw [hnot]
        clear hb2 HI HBk hnot HBB
        go_wp2
        go_ret
        exact ⟨_, rfl, HF⟩
    · have e : k = N := by omega
      subst e
      have HF : Hid (Below w.heap.size w wr ∧ IxR s p l (-1)) :=
        ⟨HI.out.2, .inl ⟨rfl, by rw [tw_get (k := k) (by rw [← HN.out]; omega) HI.out.1 (.inl HN.out), HN.out, List.take_length]⟩⟩
      clear HI
      go_wp2
      go_ret
      exact ⟨_, rfl, HF⟩
theorem rowW_take {w : World} {n k g off cap : Nat} {l : List Wn} (h : RowAt w 69 4 (.slice (some ⟨g, off, none⟩) n cap) n (flatL wL l)) (hk : k ≤ n) : RowAt w 69 4 (.slice (some ⟨g, off, none⟩) k cap) k (flatL wL (l.take k)) := by
  have hlen := h.1
  have ht := flatL_take wL_len k l
  rcases h.2 with ⟨h0, _⟩ | ⟨g', off', cap', cur, e2, e3, e4, e5, e6, e7⟩
  · cases h0
  injection e2 with e2 _ e8
  injection e2 with e2
  injection e2 with e2 e9 _
  subst e2 e8 e9
  refine ⟨by rw [← ht, List.length_take]; omega, .inr ⟨g, off, cap, cur, rfl, e3, by omega, e5, e6, ?_⟩⟩
  rw [← ht, ← e7, List.take_take]
  congr 1
  omega
/-- A row of those who would trade at a price. -/
structure RA (s p : Int) (w W : World) (v : Value) (l : List Od) (D : List Wn) : Prop where
  co : CO w W v D
  eq : ∃ R : List Wn, R.Perm (wns l) ∧ (R.Pairwise (fun a b => ¬ ltW s b a) ∧ StW s (wns l) R) ∧ D = R.takeWhile (atW s p)
set_option maxRecDepth 100000 in
set_option maxHeartbeats 2000000 in
theorem rowAt_any {w : World} {l : List Od} {a : Option Addr} {c : Nat} (s p : Int) (hr : RowAt w 42 15 (.slice a l.length c) l.length (flatL (fun o => o.cs.toList) l)) (hok : ∀ o ∈ l, o.ok) (hl : l.length ≤ 4398046511104) :
    Calls Try.prog 33 #[.slice a l.length c, .int .i64 s, .int .i64 p] w fun e w' => ∃ v, e = .returned v ∧ Hid (∃ D, RA s p w w' v l D) := by
  have HB0 : Hid (Below w.heap.size w ((w.alloc (.cells #[.int .i64 s] 3)).alloc (.cells #[.int .i64 p] 2)) ∧ Blk ((w.alloc (.cells #[.int .i64 s] 3)).alloc (.cells #[.int .i64 p] 2)) w.heap.size 3 #[.int .i64 s] ∧ Blk ((w.alloc (.cells #[.int .i64 s] 3)).alloc (.cells #[.int .i64 p] 2)) (w.heap.size + 1) 2 #[.int .i64 p]) :=
    ⟨((Below.refl _ w).alloc (Nat.le_refl _) _).alloc (by simp) _, (Blk.new _ _ _).alloc _, by have := Blk.new (w.alloc (.cells #[.int .i64 s] 3)) 2 #[.int .i64 p]; rwa [show (w.alloc (.cells #[.int .i64 s] 3)).heap.size = w.heap.size + 1 by simp] at this⟩
  obtain ⟨n, hn⟩ : ∃ n, n = l.length := ⟨_, rfl⟩
  have HR : Hid (RowAt w 42 15 (.slice a n c) n (flatL (fun o => o.cs.toList) l) ∧ (∀ o ∈ l, o.ok) ∧ n = l.length ∧ n ≤ 4398046511104) := ⟨by rw [hn]; exact hr, hok, hn, by omega⟩
  rw [← hn]
  clear hr hok hl hn
  go_enter Try.func33, Try.ntmps33
  go_upto_region 1 with fail
  generalize (w.alloc (.cells #[.int .i64 s] 3)).alloc (.cells #[.int .i64 p] 2) = w1 at *
  obtain ⟨sb, hsb⟩ : ∃ sb, sb = w.heap.size := ⟨_, rfl⟩
  obtain ⟨pb, hpb⟩ : ∃ pb, pb = w.heap.size + 1 := ⟨_, rfl⟩
  have HB1 : Hid (Below w.heap.size w w1 ∧ Blk w1 sb 3 #[.int .i64 s] ∧ Blk w1 pb 2 #[.int .i64 p]) := by rw [hsb, hpb]; exact HB0.out
  rw [← hpb, ← hsb]
  clear HB0 hpb hsb
  have q1 := HB1.out.2.1.cell 0
  have hc1 : Calls Try.prog 26 #[.slice a n c, .int .i64 s] w1 fun e w' => ∃ v, e = .returned v ∧ Hid (∃ R, RO s w1 w' v l R) := by
    have h1 := HR.out.1.fr (Fr.of_below HB1.out.1 (fun _ => False)) fun _ _ => id
    rw [HR.out.2.2.1] at h1 ⊢
    exact rowOf_any s h1 HR.out.2.1 (by have := HR.out.2.2; omega)
  rename_i K hK
  refine wp_region_lit ?_
  refine wpList_runTo rfl (some 9) rfl (.slice a n c) w1 (by kernel_rfl) ?_
  simp only [Act.put, List.setIfInBounds_toArray, List.set_cons_zero, List.set_cons_succ]
  refine wpList_runTo rfl (some 10) rfl (.int .i64 s) w1 (by exact ldN_run (.inr rfl) (.tmp 4) rfl (by kernel_rfl) q1) ?_
  simp only [Act.put, List.setIfInBounds_toArray, List.set_cons_zero, List.set_cons_succ]
  refine wpList_callW rfl (some 11) rfl 26 #[.slice a n c, .int .i64 s] (by kernel_rfl) hc1 ?_
  clear hc1 q1
  rintro e w2 ⟨v2, rfl, H2⟩
  refine ⟨_, rfl, ?_⟩
  simp only [Act.put, List.setIfInBounds_toArray, List.set_cons_zero, List.set_cons_succ]
  obtain ⟨R, hR⟩ := H2.out
  have H3 : Hid (CO w w2 v2 R ∧ R.Perm (wns l) ∧ (R.Pairwise (fun a b => ¬ ltW s b a) ∧ StW s (wns l) R) ∧ Blk w2 sb 3 #[.int .i64 s] ∧ Blk w2 pb 2 #[.int .i64 p] ∧ R.length ≤ 4398046511104) := by
    refine ⟨⟨hR.co.row, below_step HB1.out.1 hR.co.bel, fun q hq => Nat.le_trans HB1.out.1.size (hR.co.own q hq)⟩, hR.perm, ⟨hR.srt, hR.stb⟩, HB1.out.2.1.below hR.co.bel HB1.out.2.1.lt, HB1.out.2.2.below hR.co.bel HB1.out.2.2.lt, ?_⟩
    rw [hR.perm.length_eq]
    have h1 := List.length_filterMap_le wnO l
    have h2 := HR.out.2.2
    unfold wns
    omega
  clear H2 hR HB1
  obtain ⟨ar, cr, ev⟩ := H3.out.1.form
  subst ev
  refine wpList_runTo rfl (some 7) rfl (.slice ar R.length cr) w2 (by kernel_rfl) ?_
  simp only [Act.put, List.setIfInBounds_toArray, List.set_cons_zero, List.set_cons_succ]
  refine wpList_nil ?_
  refine hK _ _ ?_
  clear hK
  have hc2 := idxAt_any R s p sb pb (.slice ar R.length cr) w2 H3.out.2.2.2.1 H3.out.2.2.2.2.1 H3.out.1.row (by have := H3.out.2.2.2.2.2; omega)
  obtain ⟨nr, hnr⟩ : ∃ nr, nr = R.length := ⟨_, rfl⟩
  have HNr : Hid (nr = R.length) := hnr
  rw [← hnr] at hc2 ⊢
  clear hnr
  go_upto_region 2 with fail
  rename_i K hK
  refine wp_region_lit ?_
  refine wpList_runTo rfl (some 12) rfl (.slice ar nr cr) w2 (by kernel_rfl) ?_
  simp only [Act.put, List.setIfInBounds_toArray, List.set_cons_zero, List.set_cons_succ]
  refine wpList_runTo rfl (some 13) rfl (.func (.func 51) #[] #[.pointer (some ⟨sb, 0, none⟩), .pointer (some ⟨pb, 0, none⟩)]) w2 (by kernel_rfl) ?_
  simp only [Act.put, List.setIfInBounds_toArray, List.set_cons_zero, List.set_cons_succ]
  refine wpList_callW rfl (some 14) rfl 50 #[.slice ar nr cr, .func (.func 51) #[] #[.pointer (some ⟨sb, 0, none⟩), .pointer (some ⟨pb, 0, none⟩)]] (by kernel_rfl) hc2 ?_
  clear hc2
  rintro e w3 ⟨z, rfl, H4⟩
  refine ⟨_, rfl, ?_⟩
  simp only [Act.put, List.setIfInBounds_toArray, List.set_cons_zero, List.set_cons_succ]
  refine wpList_runTo rfl (some 8) rfl (.int .i64 z) w3 (by kernel_rfl) ?_
  simp only [Act.put, List.setIfInBounds_toArray, List.set_cons_zero, List.set_cons_succ]
  refine wpList_nil ?_
  refine hK _ _ ?_
  clear hK
  have H5 : Hid (CO w w3 (.slice ar nr cr) R ∧ nr = R.length) := ⟨by rw [HNr.out]; exact H3.out.1.below H4.out.1, HNr.out⟩
  by_cases hz : z < 0
  · have HF : Hid (∃ D, RA s p w w3 (.slice ar nr cr) l D) := by
      refine ⟨R, H5.out.1, R, H3.out.2.1, H3.out.2.2.1, ?_⟩
      rcases H4.out.2 with ⟨_, h⟩ | ⟨k, h, _⟩
      · exact h.symm
      · omega
    clear H3 H4 H5 HNr
    go_wp2
    go_ret
    exact ⟨_, rfl, HF⟩
  · have hk : Hid (∃ k : Nat, z = (k : Int) ∧ k < nr ∧ R.takeWhile (atW s p) = R.take k) := by
      rcases H4.out.2 with ⟨h, _⟩ | h
      · omega
      · obtain ⟨k, e1, e2, e3⟩ := h; exact ⟨k, e1, by rw [HNr.out]; exact e2, e3⟩
    obtain ⟨k, rfl, hkn, htw⟩ := hk.out
    have hrow5 := H5.out.1.row
    rw [← H5.out.2] at hrow5
    obtain ⟨g, o, cx, cur, ea, _, hcx, _⟩ := hrow5.more (by omega)
    injection ea with ea1 _ ea2
    subst ea1 ea2
    have HF : Hid (∃ D, RA s p w w3 (.slice (some ⟨g, o, none⟩) k cr) l D) := by
      refine ⟨R.take k, ⟨?_, H5.out.1.bel, H5.out.1.own⟩, R, H3.out.2.1, H3.out.2.2.1, htw.symm⟩
      have hl : (R.take k).length = k := by rw [List.length_take]; have := H5.out.2; omega
      rw [hl]
      exact rowW_take hrow5 (by omega)
    clear H3 H4 H5 HNr hk htw hrow5
    go_upto_region 5 with fail
    rename_i K hK
    refine wp_region_lit ?_
    refine wpList_runTo rfl (some 18) rfl (.slice (some ⟨g, o, none⟩) nr cr) w3 (by kernel_rfl) ?_
    simp only [Act.put, List.setIfInBounds_toArray, List.set_cons_zero, List.set_cons_succ]
    refine wpList_runTo rfl (some 19) rfl (.int .i64 (k : Int)) w3 (by kernel_rfl) ?_
    simp only [Act.put, List.setIfInBounds_toArray, List.set_cons_zero, List.set_cons_succ]
    refine wpList_runTo rfl (some 20) rfl (.slice (some ⟨g, o, none⟩) k cr) w3 (by exact cutW_run (n := nr) (k := k) (.tmp 18) (.tmp 19) rfl (by kernel_rfl) (by kernel_rfl) (by omega) _) ?_
    simp only [Act.put, List.setIfInBounds_toArray, List.set_cons_zero, List.set_cons_succ]
    refine wpList_runTo rfl (some 6) rfl (.slice (some ⟨g, o, none⟩) k cr) w3 (by kernel_rfl) ?_
    simp only [Act.put, List.setIfInBounds_toArray, List.set_cons_zero, List.set_cons_succ]
    refine wpList_nil ?_
    refine hK _ _ ?_
    clear hK
    go_wp2
    go_ret
    exact ⟨_, rfl, HF⟩
end Go.Proofs.Ytbhddfcdnpidkaa
