/-
  The reference's heap: Push, Peek, Pop.
-/
import Derived.Test.YtdnhhcbabdoomaaHRef1
namespace Go.Proofs.Ytdnhhcbabdoomaa
set_option linter.unusedVariables false
set_option linter.unusedSimpArgs false
open Go.RowKit Go.Great

theorem infoRP : ∃ i, Try.prog.info? 133 = some i ∧ i.zero = some (.pointer none) ∧ i.size = 1 ∧ i.bytes = 8 := by
  have h : (Try.prog.info? 133).map (fun i => (i.zero, i.size, i.bytes)) = some (some (.pointer none), 1, 8) := by kernel_rfl
  obtain ⟨i, hi, he⟩ := Option.map_eq_some_iff.1 h
  injection he with h1 h2
  injection h2 with h2 h3
  exact ⟨i, hi, h1, h2, h3⟩
section
variable {w w' : World} {o h : Nat} {v : Value} {R : List RIt}
/-- An item is put behind the others. -/
theorem RH.app (H : RH w o h v R) {p : Nat} {x : Th} (hb : Blk w p 137 #[.int .i64 x.k, .int .i64 x.g, .int .i64 (R.length : Int), .bool false]) (hn : ∀ a, a ∈ R → a.p ≠ p) (hl : R.length < 1000000) {v' : Value}
    (hr : RowAt w' 133 1 v' (R.length + 1) ((R.map fun a => ptr a.p) ++ [ptr p])) (hf : Fr w w' (fun b => v.ownBlock = some b)) :
    RH (w'.setCell ⟨h, 1, none⟩ v') o h v' (R ++ [⟨p, x, false⟩]) ∧ Fr w (w'.setCell ⟨h, 1, none⟩ v') (fun b => b = h ∨ v.ownBlock = some b) := by
  have f2 : Fr w' (w'.setCell ⟨h, 1, none⟩ v') (fun b => b = h) := Fr.setCell _ _ _ _ rfl
  have F : Fr w (w'.setCell ⟨h, 1, none⟩ v') (fun b => b = h ∨ v.ownBlock = some b) := hf.trans f2 fun b _ q => by rcases q with q | q; exact .inr q; exact .inl q
  have hB : Blk w' h 128 #[.int .i64 (o : Int), v] := H.blk.fr hf (H.row.ne_type H.blk (by decide))
  have hI : ∀ a k, Blk w a 137 k → Blk (w'.setCell ⟨h, 1, none⟩ v') a 137 k := fun a k hk => (hk.fr hf (H.row.ne_type hk (by decide))).fr f2 (hk.neT H.blk (by decide))
  refine ⟨⟨hB.set 1 _, ?_, fun k a hk => ?_, ?_, by rw [List.length_append]; exact hl⟩, F⟩
  · rw [List.length_append, List.map_append]
    refine hr.fr f2 fun g hg e => hr.ne_type hB (by decide) (e ▸ hg)
  · by_cases hkl : k < R.length
    · rw [List.getElem?_append_left hkl] at hk
      exact hI _ _ (H.its k a hk)
    · rw [List.getElem?_append_right (by omega)] at hk
      have h0 : k - R.length = 0 := by have := get_lt hk; simp at this; omega
      rw [h0] at hk
      injection hk with hk
      subst hk
      have hkt : k = R.length := by omega
      rw [hkt]
      exact hI _ _ hb
  · exact List.pairwise_append.2 ⟨H.ne, List.pairwise_singleton _ _, fun a ha b hb => by rw [List.mem_singleton.1 hb]; exact hn a ha⟩
set_option maxRecDepth 100000 in
set_option maxHeartbeats 4000000 in
theorem rPush_any (H : RH w o h v R) (x : Th) (hlen : R.length < 1000000) :
    Calls Try.prog 80 #[ptr h, .agg #[.int .i64 x.k, .int .i64 x.g]] w fun e w' => e = .returned (ptr (w.heap.size + 1)) ∧
      (∃ v', RH w' o h v' (R ++ [⟨w.heap.size + 1, x, false⟩]) ∧ NewV w v v') ∧ Fr w w' (ownR h v R) := by
  have HH : Hid (RH w o h v R) := H
  obtain ⟨ao, cap, hvf, hcap⟩ := H.row.form
  subst hvf
  have d1 : w.cell? ⟨h, 1, none⟩ = some (.slice ao R.length cap) := H.blk.cell 1
  have hbl : ∀ o, Fr w (w.alloc o) (fun _ => False) := fun o => Fr.alloc _ _ _
  have d1' : (w.alloc (.cells #[.int .i64 x.k, .int .i64 x.g] 30)).cell? ⟨h, 1, none⟩ = some (.slice ao R.length cap) := (hbl _).cell d1 (fun q => q)
  have HB0 : Blk (w.alloc (.cells #[.int .i64 x.k, .int .i64 x.g] 30)) w.heap.size 30 #[.int .i64 x.k, .int .i64 x.g] := Blk.new _ _ _
  have e0 := HB0.cell 0
  have e1 := HB0.cell 1
  have HM0 : Hid (RH (w.alloc (.cells #[.int .i64 x.k, .int .i64 x.g] 30)) o h (.slice ao R.length cap) R ∧ Fr w (w.alloc (.cells #[.int .i64 x.k, .int .i64 x.g] 30)) (fun _ => False)) := ⟨H.sm (hbl _), hbl _⟩
  have hp : (w.alloc (.cells #[.int .i64 x.k, .int .i64 x.g] 30)).heap.size = w.heap.size + 1 := by simp
  generalize hP : w.heap.size + 1 = p at *
  have HP : Hid (w.heap.size + 1 = p) := hP
  clear H d1 hbl HB0 hP
  go_enter Try.func80, Try.ntmps80
  go_upto_region 1 with fail
  generalize w.alloc (.cells #[.int .i64 x.k, .int .i64 x.g] 30) = w1 at *
  go_region
  have HB2 : Hid (Blk ((w1.alloc (.cells #[.int .i64 x.k, .int .i64 x.g, .int .i64 (R.length : Int), .bool false] 137)).drew) p 137 #[.int .i64 x.k, .int .i64 x.g, .int .i64 (R.length : Int), .bool false]) := Blk.new' w1 _ _ (by omega)
  have F2 : Fr w1 ((w1.alloc (.cells #[.int .i64 x.k, .int .i64 x.g, .int .i64 (R.length : Int), .bool false] 137)).drew) (fun _ => False) := (Fr.alloc w1 _ (fun _ => False)).drew
  have HM2 : Hid (RH ((w1.alloc (.cells #[.int .i64 x.k, .int .i64 x.g, .int .i64 (R.length : Int), .bool false] 137)).drew) o h (.slice ao R.length cap) R ∧ Fr w ((w1.alloc (.cells #[.int .i64 x.k, .int .i64 x.g, .int .i64 (R.length : Int), .bool false] 137)).drew) (fun _ => False)) := ⟨HM0.out.1.sm F2, HM0.out.2.trans F2 fun _ _ q => by rcases q with q | q <;> exact q⟩
  clear F2
  generalize (w1.alloc (.cells #[.int .i64 x.k, .int .i64 x.g, .int .i64 (R.length : Int), .bool false] 137)).drew = w3 at *
  clear d1' e0 e1 hp HM0
  have d1 : w3.cell? ⟨h, 1, none⟩ = some (.slice ao R.length cap) := HM2.out.1.blk.cell 1
  obtain ⟨i1, hi1, hx0, hx1, hx2⟩ := infoRP
  go_upto_region 2 with fail
  have F4 : Fr w3 (w3.alloc (.cells #[ptr p] 133)) (fun _ => False) := Fr.alloc _ _ _
  have HM4 : Hid (RH (w3.alloc (.cells #[ptr p] 133)) o h (.slice ao R.length cap) R ∧ Blk (w3.alloc (.cells #[ptr p] 133)) p 137 #[.int .i64 x.k, .int .i64 x.g, .int .i64 (R.length : Int), .bool false] ∧ Blk (w3.alloc (.cells #[ptr p] 133)) w3.heap.size 133 #[ptr p] ∧ Fr w (w3.alloc (.cells #[ptr p] 133)) (fun _ => False)) :=
    ⟨HM2.out.1.sm F4, HB2.out.alloc _, Blk.new _ _ _, HM2.out.2.trans F4 fun _ _ q => by rcases q with q | q <;> exact q⟩
  clear F4
  have HBH : Hid (∀ w5, Fr (w3.alloc (.cells #[ptr p] 133)) w5 (fun b => (Value.slice ao R.length cap).ownBlock = some b) → Blk w5 h 128 #[.int .i64 (o : Int), .slice ao R.length cap]) := fun w5 hf => HM4.out.1.blk.fr hf (HM4.out.1.row.ne_type HM4.out.1.blk (by decide))
  rename_i Kc hKc
  refine wp_region_lit ?_
  refine wpList_runTo rfl (some 14) rfl (ptr h) w3 (by kernel_rfl) ?_
  simp only [Act.put, List.setIfInBounds_toArray, List.set_cons_zero, List.set_cons_succ]
  refine wpList_runTo rfl (some 15) rfl (ptr h) w3 (by kernel_rfl) ?_
  simp only [Act.put, List.setIfInBounds_toArray, List.set_cons_zero, List.set_cons_succ]
  refine wpList_runTo rfl (some 16) rfl (ptr h) w3 (by kernel_rfl) ?_
  simp only [Act.put, List.setIfInBounds_toArray, List.set_cons_zero, List.set_cons_succ]
  refine wpList_runTo rfl (some 17) rfl (.pointer (some ⟨h, 1, none⟩)) w3 (by kernel_rfl) ?_
  simp only [Act.put, List.setIfInBounds_toArray, List.set_cons_zero, List.set_cons_succ]
  refine wpList_runTo rfl (some 18) rfl (.slice ao R.length cap) w3 (by go_simp) ?_
  simp only [Act.put, List.setIfInBounds_toArray, List.set_cons_zero, List.set_cons_succ]
  refine wpList_runTo rfl (some 19) rfl (ptr p) w3 (by kernel_rfl) ?_
  simp only [Act.put, List.setIfInBounds_toArray, List.set_cons_zero, List.set_cons_succ]
  refine wpList_runTo rfl (some 20) rfl (.slice (some ⟨w3.heap.size, 0, none⟩) 1 1) (w3.alloc (.cells #[ptr p] 133)) (by kernel_rfl) ?_
  simp only [Act.put, List.setIfInBounds_toArray, List.set_cons_zero, List.set_cons_succ]
  refine wpList_append_row _ rfl _ _ 87 rfl 133 i1 _ 1 8 Try.underlying87 hi1 hx0 hx1 hx2 (by rfl) (.slice ao R.length cap) R.length (R.map fun a => ptr a.p) rfl HM4.out.1.row ⟨w3.heap.size, 0, none⟩ 1 1 [ptr p] rfl rfl (fun j u hj => by rw [Addr.add_mid, cell_of_row _ _ _ _ _ _ HM4.out.2.2.1, Nat.zero_add]; simpa using hj) (fun u hu => by rw [List.mem_singleton.1 hu]; rfl) (.inl (by decide)) (by unfold maxLen; omega) (by omega) ?_
  intro v' w5 hrow hfr hnew
  simp only [Act.put, List.setIfInBounds_toArray, List.set_cons_zero, List.set_cons_succ]
  have HC : Hid _ := And.intro hrow (And.intro hfr hnew)
  have dd1 : w5.cell? ⟨h, 1, none⟩ = some (.slice ao R.length cap) := (HBH.out w5 hfr).cell 1
  have ff1 := (HBH.out w5 hfr).frozen 1
  obtain ⟨ao5, cap5, hv5, _⟩ := hrow.form
  subst hv5
  clear hrow hfr hnew d1 HBH
  refine wpList_runTo rfl (some 22) rfl (ptr h) w5 (by kernel_rfl) ?_
  simp only [Act.put, List.setIfInBounds_toArray, List.set_cons_zero, List.set_cons_succ]
  refine wpList_runTo rfl (some 23) rfl (.pointer (some ⟨h, 1, none⟩)) w5 (by kernel_rfl) ?_
  simp only [Act.put, List.setIfInBounds_toArray, List.set_cons_zero, List.set_cons_succ]
  refine wpList_plain rfl fun K hK => ?_
  refine skipR (d := none) rfl (w' := w5.setCell ⟨h, 1, none⟩ (.slice ao5 (R.length + 1) cap5)) (by go_simp) ?_
  refine hK _ _ ?_
  refine wpList_nil ?_
  refine hKc _ _ ?_
  clear hKc hK dd1 ff1
  simp only [Act.put, List.setIfInBounds_toArray, List.set_cons_zero, List.set_cons_succ]
  have happ := HM4.out.1.app (p := p) (x := x) HM4.out.2.1 (fun a ha e => by
      have h1 := HH.out.lt (.inr (.inr ⟨a, ha, rfl⟩))
      have h2 := HP.out
      omega) hlen HC.out.1 HC.out.2.1
  have HX : Hid ((∃ v', RH (w5.setCell ⟨h, 1, none⟩ (.slice ao5 (R.length + 1) cap5)) o h v' (R ++ [⟨p, x, false⟩]) ∧ NewV w (.slice ao R.length cap) v') ∧ Fr w (w5.setCell ⟨h, 1, none⟩ (.slice ao5 (R.length + 1) cap5)) (ownR h (.slice ao R.length cap) R)) := by
    refine ⟨⟨_, happ.1, ?_⟩, HM4.out.2.2.2.trans happ.2 fun b _ q => ?_⟩
    · rcases HC.out.2.2 with q | ⟨q, _⟩
      · exact .inl q
      · exact .inr ⟨_, q, HM4.out.2.2.2.size⟩
    · rcases q with q | q | q
      · exact q.elim
      · exact .inl q
      · exact .inr (.inl q)
  clear happ HC HM4 HM2 HB2
  generalize w5.setCell ⟨h, 1, none⟩ (.slice ao5 (R.length + 1) cap5) = w6 at *
  go_wp2
  go_ret
  exact ⟨rfl, HX.out⟩
end
end Go.Proofs.Ytdnhhcbabdoomaa
