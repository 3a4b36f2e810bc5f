/-
  heap: Push.
-/
import Derived.Test.YtdnhhcbabdoomaaHFace4
namespace Go.Proofs.Ytdnhhcbabdoomaa
set_option linter.unusedVariables false
set_option linter.unusedSimpArgs false
open Go.RowKit Go.Great

theorem infoP : ∃ i, Try.prog.info? 27 = some i ∧ i.zero = some (.pointer none) ∧ i.size = 1 ∧ i.bytes = 8 := by
  have h : (Try.prog.info? 27).map (fun i => (i.zero, i.size, i.bytes)) = some (some (.pointer none), 1, 8) := by kernel_rfl
  obtain ⟨i, hi, he⟩ := Option.map_eq_some_iff.1 h
  injection he with h1 h2
  injection h2 with h2 h3
  exact ⟨i, hi, h1, h2, h3⟩
theorem skipR {P : Program} {op : Oper} {a : Act} {w w' : World} {K : Act → World → Prop} {Q : Exit → Act → World → Prop} {d : Option Tmp} (hd : op.dst = d)
    (hrun : (execOp a.eval op).run P w = .ok .skip w') (h : K (a.put d undef) w') : op.wp P a w K Q := by
  subst hd
  unfold Oper.wp
  rw [hrun]
  exact h
section
variable {A : Ask} {w w' : World} {h : Nat} {v : Value} {t L : List (It Th)} {N c : Nat}
theorem HpM.setN (H : HpM A w h v t N c) (hA : A.Ok) (M : Nat) : HpM A (w.setCell ⟨h, 2, none⟩ (.int .i64 (M : Int))) h v t M c ∧ Fr w (w.setCell ⟨h, 2, none⟩ (.int .i64 (M : Int))) (fun b => b = h) := by
  have F : Fr w (w.setCell ⟨h, 2, none⟩ (.int .i64 (M : Int))) (fun b => b = h) := Fr.setCell _ _ _ _ rfl
  refine ⟨⟨H.blk.set 2 _, H.row.fr F fun g hg e => ?_, fun k it hk => (H.its k it hk).fr F ((H.its k it hk).neT H.blk (by decide)), H.ne, hA.keep H.st F fun b q => by rw [q]; exact H.ap _ (.inl rfl), H.ap, H.le⟩, F⟩
  exact H.row.ne_type H.blk (by decide) (e ▸ hg)
/-- An item is put behind the others. -/
theorem HpM.app (H : HpM A w h v t N c) (hA : A.Ok) {it : It Th} (hb : Blk w it.p 100 (icl it t.length)) (hn : ∀ a, a ∈ t → a.p ≠ it.p) (hx : ¬ A.ex it.p) (hl : t.length < 1000000000) {v' : Value}
    (hr : RowAt w' 27 1 v' (t.length + 1) ((t.map fun it => ptr it.p) ++ [ptr it.p])) (hf : Fr w w' (fun b => v.ownBlock = some b)) (hnew : v'.ownBlock = v.ownBlock ∨ v'.ownBlock = some w.heap.size ∧ ∀ k, k < w.heap.size → w'.heap[k]? = w.heap[k]?) :
    HpM A (w'.setCell ⟨h, 1, none⟩ v') h v' (t ++ [it]) N c ∧ Fr w (w'.setCell ⟨h, 1, none⟩ v') (fun b => b = h ∨ v.ownBlock = some b) := by
  have f2 : Fr w' (w'.setCell ⟨h, 1, none⟩ v') (fun b => b = h) := Fr.setCell _ _ _ _ rfl
  have F : Fr w (w'.setCell ⟨h, 1, none⟩ v') (fun b => b = h ∨ v.ownBlock = some b) := hf.trans f2 fun b _ q => by rcases q with q | q; exact .inr q; exact .inl q
  have hB : Blk w' h 98 #[.func (.func A.f) #[] #[], v, .int .i64 (N : Int)] := H.blk.fr hf (H.row.ne_type H.blk (by decide))
  have hI : ∀ a k, Blk w a 100 k → Blk (w'.setCell ⟨h, 1, none⟩ v') a 100 k := fun a k hk => (hk.fr hf (H.row.ne_type hk (by decide))).fr f2 (hk.neT H.blk (by decide))
  refine ⟨⟨hB.set 1 _, ?_, fun k a hk => ?_, ?_, hA.keep H.st F fun b q => ?_, fun b hb' he => ?_, by rw [List.length_append]; exact hl⟩, F⟩
  · rw [List.length_append, List.map_append]
    refine hr.fr f2 fun g hg e => hr.ne_type hB (by decide) (e ▸ hg)
  · by_cases hkl : k < t.length
    · rw [List.getElem?_append_left hkl] at hk
      exact hI _ _ (H.its k a hk)
    · rw [List.getElem?_append_right (by omega)] at hk
      have h0 : k - t.length = 0 := by have := get_lt hk; simp at this; omega
      rw [h0] at hk
      injection hk with hk
      subst hk
      have hkt : k = t.length := by omega
      rw [hkt]
      exact hI _ _ hb
  · exact List.pairwise_append.2 ⟨H.ne, List.pairwise_singleton _ _, fun a ha b hb => by rw [List.mem_singleton.1 hb]; exact hn a ha⟩
  · rcases q with q | q
    · exact H.ap b (.inl q)
    · exact H.ap b (.inr (.inl q))
  · rcases hb' with q | q | ⟨a, q1, q2⟩
    · exact H.ap b (.inl q) he
    · rcases hnew with r | ⟨r, _⟩
      · rw [r] at q; exact H.ap b (.inr (.inl q)) he
      · rw [r] at q; injection q with q; have := hA.low H.st he; omega
    · rcases List.mem_append.1 q1 with q | q
      · exact H.ap b (.inr (.inr ⟨a, q, q2⟩)) he
      · rw [List.mem_singleton.1 q] at q2; rw [← q2] at he; exact hx he
set_option maxRecDepth 100000 in
set_option maxHeartbeats 4000000 in
theorem Push_any (H : HpM A w h v t N c) (hA : A.Ok) (x : Th) (hlen : t.length < 1000000000) (hN : N < 1000000000) :
    Calls Try.prog 11 #[ptr h, .agg #[.int .i64 x.k, .int .i64 x.g]] w fun e w' => e = .returned (ptr (w.heap.size + 1)) ∧
      (∃ v', HpM A w' h v' (setlL A.lt (t ++ [⟨w.heap.size + 1, N, x⟩]) t.length) (N + 1) (c + setlN A.lt (t ++ [⟨w.heap.size + 1, N, x⟩]) t.length) ∧ (v'.ownBlock = v.ownBlock ∨ ∃ g, v'.ownBlock = some g ∧ w.heap.size ≤ g)) ∧ Fr w w' (fun b => ownH h v t b ∨ A.ex b) := by
  have HO : Hid A.Ok := hA
  have HH : Hid (HpM A w h v t N c) := H
  obtain ⟨d0, d1, d2⟩ := H.hd
  obtain ⟨ao, cap, hvf, hcap⟩ := H.form
  subst hvf
  have hbl : ∀ o, Fr w (w.alloc o) (fun _ => False) := fun o => Fr.alloc _ _ _
  have d1' : (w.alloc (.cells #[.int .i64 x.k, .int .i64 x.g] 30)).cell? ⟨h, 1, none⟩ = some (.slice ao t.length cap) := (hbl _).cell d1 (fun q => q)
  have d2' : (w.alloc (.cells #[.int .i64 x.k, .int .i64 x.g] 30)).cell? ⟨h, 2, none⟩ = some (.int .i64 (N : Int)) := (hbl _).cell d2 (fun q => q)
  have HB0 : Blk (w.alloc (.cells #[.int .i64 x.k, .int .i64 x.g] 30)) w.heap.size 30 #[.int .i64 x.k, .int .i64 x.g] := Blk.new _ _ _
  have e0 := HB0.cell 0
  have e1 := HB0.cell 1
  have HM0 : Hid (HpM A (w.alloc (.cells #[.int .i64 x.k, .int .i64 x.g] 30)) h (.slice ao t.length cap) t N c ∧ Fr w (w.alloc (.cells #[.int .i64 x.k, .int .i64 x.g] 30)) (fun _ => False)) := ⟨H.alloc hA _, Fr.alloc _ _ _⟩
  have hp : (w.alloc (.cells #[.int .i64 x.k, .int .i64 x.g] 30)).heap.size = w.heap.size + 1 := by simp
  generalize hP : w.heap.size + 1 = p at *
  generalize hRL : setlL A.lt (t ++ [⟨p, N, x⟩]) t.length = RL at *
  generalize hRN : setlN A.lt (t ++ [⟨p, N, x⟩]) t.length = RN at *
  have HRR : Hid (setlL A.lt (t ++ [⟨p, N, x⟩]) t.length = RL ∧ setlN A.lt (t ++ [⟨p, N, x⟩]) t.length = RN ∧ w.heap.size + 1 = p) := ⟨hRL, hRN, hP⟩
  clear H hA d0 d1 d2 hbl HB0 hRL hRN hP
  go_enter Try.func11, Try.ntmps11
  go_upto_region 1 with fail
  generalize w.alloc (.cells #[.int .i64 x.k, .int .i64 x.g] 30) = w1 at *
  go_region
  have HB2 : Hid (Blk ((w1.alloc (.cells #[.int .i64 x.k, .int .i64 x.g, .int .i64 (N : Int), .int .i64 (t.length : Int)] 100)).drew) p 100 (icl ⟨p, N, x⟩ t.length)) := Blk.new' w1 _ _ (by omega)
  have HM2 : Hid (HpM A ((w1.alloc (.cells #[.int .i64 x.k, .int .i64 x.g, .int .i64 (N : Int), .int .i64 (t.length : Int)] 100)).drew) h (.slice ao t.length cap) t N c) := (HM0.out.1.alloc HO.out _).drewN HO.out 1
  have HF2 : Hid (Fr w ((w1.alloc (.cells #[.int .i64 x.k, .int .i64 x.g, .int .i64 (N : Int), .int .i64 (t.length : Int)] 100)).drew) (fun _ => False)) := (HM0.out.2.trans (Fr.alloc _ _ (fun _ => False)) fun _ _ q => by rcases q with q | q <;> exact q).drew
  generalize (w1.alloc (.cells #[.int .i64 x.k, .int .i64 x.g, .int .i64 (N : Int), .int .i64 (t.length : Int)] 100)).drew = w2 at *
  clear d1' d2' e0 e1 hp HM0
  obtain ⟨_, d1, d2⟩ := HM2.out.hd
  have fh1 := HM2.out.blk.frozen 1
  have fh2 := HM2.out.blk.frozen 2
  have hNb : (N : Int) + 1 < 9223372036854775808 := by omega
  obtain ⟨i1, hi1, hx0, hx1, hx2⟩ := infoP
  go_upto_region 3 with fail
  have hsn := HM2.out.setN HO.out (N + 1)
  rw [show ((N + 1 : Nat) : Int) = (N : Int) + 1 by omega] at hsn
  have HM3 : Hid (HpM A (w2.setCell ⟨h, 2, none⟩ (.int .i64 ((N : Int) + 1))) h (.slice ao t.length cap) t (N + 1) c ∧ Fr w (w2.setCell ⟨h, 2, none⟩ (.int .i64 ((N : Int) + 1))) (fun b => b = h) ∧ Blk (w2.setCell ⟨h, 2, none⟩ (.int .i64 ((N : Int) + 1))) p 100 (icl ⟨p, N, x⟩ t.length)) :=
    ⟨hsn.1, HF2.out.trans hsn.2 fun b _ q => by rcases q with q | q; exact q.elim; exact q, HB2.out.fr hsn.2 (HB2.out.neT HM2.out.blk (by decide))⟩
  clear hsn d1 d2 fh1 fh2
  generalize w2.setCell ⟨h, 2, none⟩ (.int .i64 ((N : Int) + 1)) = w3 at *
  clear HB2 HM2 HF2
  have d1 := HM3.out.1.hd.2.1
  have HM4 : Hid (HpM A (w3.alloc (.cells #[ptr p] 27)) h (.slice ao t.length cap) t (N + 1) c ∧ Blk (w3.alloc (.cells #[ptr p] 27)) p 100 (icl ⟨p, N, x⟩ t.length) ∧ Blk (w3.alloc (.cells #[ptr p] 27)) w3.heap.size 27 #[ptr p] ∧ Fr w (w3.alloc (.cells #[ptr p] 27)) (fun b => b = h)) :=
    ⟨HM3.out.1.alloc HO.out _, HM3.out.2.2.alloc _, Blk.new _ _ _, HM3.out.2.1.trans (Fr.alloc _ _ (fun b => b = h)) fun _ _ q => by rcases q with q | q <;> exact q⟩
  have HBH : Hid (∀ w5, Fr (w3.alloc (.cells #[ptr p] 27)) w5 (fun b => (Value.slice ao t.length cap).ownBlock = some b) → Blk w5 h 98 #[.func (.func A.f) #[] #[], .slice ao t.length cap, .int .i64 ((N + 1 : Nat) : Int)]) := fun w5 hf => HM4.out.1.blk.fr hf (HM4.out.1.row.ne_type HM4.out.1.blk (by decide))
  rename_i Kc hKc
  refine wp_region_lit ?_
  refine wpList_runTo rfl (some 25) rfl (ptr h) w3 (by kernel_rfl) ?_
  simp only [Act.put, List.setIfInBounds_toArray, List.set_cons_zero, List.set_cons_succ]
  refine wpList_runTo rfl (some 26) rfl (ptr h) w3 (by kernel_rfl) ?_
  simp only [Act.put, List.setIfInBounds_toArray, List.set_cons_zero, List.set_cons_succ]
  refine wpList_runTo rfl (some 27) rfl (ptr h) w3 (by kernel_rfl) ?_
  simp only [Act.put, List.setIfInBounds_toArray, List.set_cons_zero, List.set_cons_succ]
  refine wpList_runTo rfl (some 28) rfl (.pointer (some ⟨h, 1, none⟩)) w3 (by kernel_rfl) ?_
  simp only [Act.put, List.setIfInBounds_toArray, List.set_cons_zero, List.set_cons_succ]
  refine wpList_runTo rfl (some 29) rfl (.slice ao t.length cap) w3 (by go_simp) ?_
  simp only [Act.put, List.setIfInBounds_toArray, List.set_cons_zero, List.set_cons_succ]
  refine wpList_runTo rfl (some 30) rfl (ptr p) w3 (by kernel_rfl) ?_
  simp only [Act.put, List.setIfInBounds_toArray, List.set_cons_zero, List.set_cons_succ]
  refine wpList_runTo rfl (some 31) rfl (.slice (some ⟨w3.heap.size, 0, none⟩) 1 1) (w3.alloc (.cells #[ptr p] 27)) (by kernel_rfl) ?_
  simp only [Act.put, List.setIfInBounds_toArray, List.set_cons_zero, List.set_cons_succ]
  refine wpList_append_row _ rfl _ _ 42 rfl 27 i1 _ 1 8 Try.underlying42 hi1 hx0 hx1 hx2 (by rfl) (.slice ao t.length cap) t.length (t.map fun it => ptr it.p) rfl HM4.out.1.row ⟨w3.heap.size, 0, none⟩ 1 1 [ptr p] rfl rfl (fun j u hj => by rw [Addr.add_mid, cell_of_row _ _ _ _ _ _ HM4.out.2.2.1, Nat.zero_add]; simpa using hj) (fun u hu => by rw [List.mem_singleton.1 hu]; rfl) (.inl (by decide)) (by unfold maxLen; omega) (by omega) ?_
  intro v' w5 hrow hfr hnew
  simp only [Act.put, List.setIfInBounds_toArray, List.set_cons_zero, List.set_cons_succ]
  have HC : Hid _ := And.intro hrow (And.intro hfr hnew)
  have dd1 : w5.cell? ⟨h, 1, none⟩ = some (.slice ao t.length cap) := (HBH.out w5 hfr).cell 1
  have ff1 := (HBH.out w5 hfr).frozen 1
  obtain ⟨ao5, cap5, hv5, _⟩ := hrow.form
  subst hv5
  clear hrow hfr hnew d1 HBH
  refine wpList_runTo rfl (some 33) rfl (ptr h) w5 (by kernel_rfl) ?_
  simp only [Act.put, List.setIfInBounds_toArray, List.set_cons_zero, List.set_cons_succ]
  refine wpList_runTo rfl (some 34) rfl (.pointer (some ⟨h, 1, none⟩)) w5 (by kernel_rfl) ?_
  simp only [Act.put, List.setIfInBounds_toArray, List.set_cons_zero, List.set_cons_succ]
  refine wpList_plain rfl fun K hK => ?_
  refine skipR (d := none) rfl (w' := w5.setCell ⟨h, 1, none⟩ (.slice ao5 (t.length + 1) cap5)) (by go_simp) ?_
  refine hK _ _ ?_
  refine wpList_nil ?_
  refine hKc _ _ ?_
  clear hKc hK dd1 ff1
  simp only [Act.put, List.setIfInBounds_toArray, List.set_cons_zero, List.set_cons_succ]
  have hown : ∀ b, ownH h (.slice ao t.length cap) t b → b < w.heap.size := fun b hb => HH.out.lt hb
  have happ := HM4.out.1.app HO.out (it := ⟨p, N, x⟩) HM4.out.2.1 (fun a ha e => by
      have h1 := hown a.p (.inr (.inr ⟨a, ha, rfl⟩))
      have h2 := HRR.out.2.2
      have h3 : a.p = p := e
      omega) (fun q => by
      have h1 := HO.out.low HH.out.st q
      have h2 := HRR.out.2.2
      have h3 : p < w.heap.size := h1
      omega) hlen HC.out.1 HC.out.2.1 HC.out.2.2
  have HM6 : Hid (HpM A (w5.setCell ⟨h, 1, none⟩ (.slice ao5 (t.length + 1) cap5)) h (.slice ao5 (t.length + 1) cap5) (t ++ [⟨p, N, x⟩]) (N + 1) c ∧ Fr w (w5.setCell ⟨h, 1, none⟩ (.slice ao5 (t.length + 1) cap5)) (ownH h (.slice ao t.length cap) t) ∧ ((Value.slice ao5 (t.length + 1) cap5).ownBlock = (Value.slice ao t.length cap).ownBlock ∨ ∃ g, (Value.slice ao5 (t.length + 1) cap5).ownBlock = some g ∧ w.heap.size ≤ g)) := by
    refine ⟨happ.1, HM4.out.2.2.2.trans happ.2 fun b _ q => ?_, ?_⟩
    · rcases q with q | q | q
      · exact .inl q
      · exact .inl q
      · exact .inr (.inl q)
    · rcases HC.out.2.2 with q | ⟨q, _⟩
      · exact .inl q
      · exact .inr ⟨_, q, HM4.out.2.2.2.size⟩
  clear happ HC HM4 HM3
  generalize w5.setCell ⟨h, 1, none⟩ (.slice ao5 (t.length + 1) cap5) = w6 at *
  have hs := settle_any HM6.out.1 HO.out (k := t.length) (it := ⟨p, N, x⟩) (by rw [List.getElem?_append_right (Nat.le_refl _), Nat.sub_self]; rfl)
  go_wp2_with (go_at_call 46; fail)
  refine hs.mono ?_
  rintro e w7 ⟨rfl, hm7, hf7⟩
  have HX : Hid (HpM A w7 h (.slice ao5 (t.length + 1) cap5) RL (N + 1) (c + RN) ∧ Fr w w7 (fun b => ownH h (.slice ao t.length cap) t b ∨ A.ex b)) := by
    refine ⟨?_, HM6.out.2.1.trans hf7 fun b hb q => ?_⟩
    · have := hm7; rw [HRR.out.1, HRR.out.2.1] at this; exact this
    · rcases q with q | q | q
      · exact .inl q
      · rcases q with q | q | ⟨a, q1, q2⟩
        · exact .inl (.inl q)
        · rcases HM6.out.2.2 with r | ⟨g, r, hg⟩
          · rw [r] at q; exact .inl (.inr (.inl q))
          · rw [r] at q; injection q with q; omega
        · rcases List.mem_append.1 q1 with q | q
          · exact .inl (.inr (.inr ⟨a, q, q2⟩))
          · rw [List.mem_singleton.1 q] at q2
            have h2 := HRR.out.2.2
            have h3 : p = b := q2
            omega
      · exact .inr q
  clear hm7 hf7 hs
  go_wp2
  go_ret
  exact ⟨rfl, ⟨_, HX.out.1, HM6.out.2.2⟩, HX.out.2⟩
end
end Go.Proofs.Ytdnhhcbabdoomaa
