/-
  ledger: Net, Close.
-/
import Derived.Test.YtidhahooebepfaaJTold
import Derived.Test.YtidhahooebepfaaJBreak
namespace Go.Proofs.Ytidhahooebepfaa
set_option linter.unusedVariables false
set_option linter.unusedSimpArgs false
open Go.RowKit Go.Great Go.Maps

/-- What Net tells. -/
structure NT (w w' : World) (T net : List Bk) (v : Value) : Prop where
  row : RowAt w' 42 5 v net.length (flatL Bk.cl net)
  perm : net.Perm T
  sorted : net.Pairwise (fun a b => ¬ ltB b a)
  bel : Below w.heap.size w w'
  low : ∀ q, v.ownBlock = some q → w.heap.size ≤ q
set_option maxRecDepth 100000 in
theorem Net_any (G : Lg) (w : World) (h : LgAt w G) (hl : G.T.length ≤ 100000) :
    Calls Try.prog 18 #[.pointer (some ⟨G.g, 0, none⟩)] w fun e w' => ∃ v net, e = .returned v ∧ Hid (NT w w' G.T net v) := by
  have ht := told_any G.T G.mt w h.tod h.szT hl
  have c1 : w.cell? ⟨G.g, 1, none⟩ = some (.map (some G.mt)) := h.blk.cell 1
  clear h
  go_enter Try.func18, Try.ntmps18
  go_wp2_with (go_at_call 27; fail)
  refine ht.mono ?_
  rintro e w1 ⟨v, net, rfl, hx⟩
  have HF : Hid (NT w w1 G.T net v) := ⟨hx.out.1, hx.out.2.1, hx.out.2.2.1, hx.out.2.2.2.1, hx.out.2.2.2.2⟩
  clear hx ht
  go_wp2
  go_ret
  exact ⟨v, net, rfl, HF⟩
def Lg.closed (G : Lg) (nm : Nat) : Lg := { G with mt := nm, T := [], tv := .slice none 0 0, ts := [] }
/-- Behind Close. -/
structure CL (w w' : World) (G : Lg) (nm : Nat) (net : List Bk) (v : Value) : Prop where
  at' : LgAt w' (G.closed nm)
  fr : Fr w w' G.own
  own : ∀ b, (G.closed nm).own b → G.own b ∨ w.heap.size ≤ b
  row : RowAt w' 42 5 v net.length (flatL Bk.cl net)
  perm : net.Perm G.T
  sorted : net.Pairwise (fun a b => ¬ ltB b a)
  low : ∀ q, v.ownBlock = some q → w.heap.size ≤ q ∧ ¬ (G.closed nm).own q
set_option maxRecDepth 100000 in
set_option maxHeartbeats 1000000 in
theorem Close_any (G : Lg) (w : World) (h : LgAt w G) (hl : G.T.length ≤ 100000) :
    Calls Try.prog 19 #[.pointer (some ⟨G.g, 0, none⟩)] w fun e w' => ∃ v net nm, e = .returned v ∧ Hid (CL w w' G nm net v) := by
  have ht := Net_any G w h hl
  have H0 : Hid (LgAt w G) := h
  have hm1 : ∀ W : World, (Instr.makeMap 63 none).run Try.prog W = .ok (.map (some W.heap.size)) (W.alloc (.map #[] 0)) := fun W => by kernel_rfl
  clear h
  go_enter Try.func19, Try.ntmps19
  go_wp2_with (go_at_call 18; fail)
  refine ht.mono ?_
  rintro e w1 ⟨v, net, rfl, hx⟩
  have HN : Hid (NT w w1 G.T net v) := hx
  have hl1 := H0.out.below hx.out.bel
  have hl2 : LgAt (w1.alloc (.map #[] 0)) G := hl1.below ((Below.refl _ w1).alloc (Nat.le_refl _) _)
  have c1 : (w1.alloc (.map #[] 0)).cell? ⟨G.g, 1, none⟩ = some (.map (some G.mt)) := hl2.blk.cell 1
  have f1 : (w1.alloc (.map #[] 0)).frozen? ⟨G.g, 1, none⟩ = false := hl2.blk.frozen 1
  have c3 : ∃ ta n tc, (w1.alloc (.map #[] 0)).cell? ⟨G.g, 3, none⟩ = some (.slice ta n tc) := by
    obtain ⟨ta, tc, e, _⟩ := hl2.trs.form
    exact ⟨ta, _, tc, by rw [← e]; exact hl2.blk.cell 3⟩
  obtain ⟨ta, tn, tc, c3⟩ := c3
  have f3 : (w1.alloc (.map #[] 0)).frozen? ⟨G.g, 3, none⟩ = false := hl2.blk.frozen 3
  have hglt : G.g < (w1.alloc (.map #[] 0)).heap.size := hl2.blk.lt
  have hglt1 : G.g < w1.heap.size := hl1.blk.lt
  have HF : Hid (CL w (((w1.alloc (.map #[] 0)).setCell ⟨G.g, 1, none⟩ (.map (some w1.heap.size))).setCell ⟨G.g, 3, none⟩ (.slice none 0 0)) G w1.heap.size net v) := by
    have hf : Fr (w1.alloc (.map #[] 0)) (((w1.alloc (.map #[] 0)).setCell ⟨G.g, 1, none⟩ (.map (some w1.heap.size))).setCell ⟨G.g, 3, none⟩ (.slice none 0 0)) (fun b => b = G.g) := (Fr.setCell _ ⟨G.g, 1, none⟩ _ (fun b => b = G.g) rfl).both (Fr.setCell _ ⟨G.g, 3, none⟩ _ (fun b => b = G.g) rfl)
    have hma := hl1.all.lt
    have hmo := hl1.tot.lt
    have hnew : MapL Try.prog (w1.alloc (.map #[] 0)) 75 w1.heap.size [] := MapL.made _ _ _
    have hw1 := HN.out.bel.size
    have hown : ∀ b, (G.closed w1.heap.size).own b → G.own b ∨ w1.heap.size = b := fun b hb => by
      rcases hb with e | e | e | e | e | e
      · exact .inl (.inl e)
      · exact .inl (.inr (.inl e))
      · exact .inr e.symm
      · exact .inl (.inr (.inr (.inr (.inl e))))
      · cases e
      · exact .inl (.inr (.inr (.inr (.inr (.inr e)))))
    have hvg : ∀ q, v.ownBlock = some q → q ≠ G.g := fun q hq e => by
      subst e
      exact HN.out.row.ne_type hl1.blk (by decide) hq
    refine ⟨⟨?_, hl2.all.fr hf (hl2.all.ne_blk hl2.blk), hnew.fr hf (by omega), hl2.tot.fr hf (hl2.tot.ne_blk hl2.blk), by show G.ma ≠ w1.heap.size; omega, hl2.ne2, by show w1.heap.size ≠ G.mo; omega, RowAt.none0 _ _ _, hl2.brs.fr hf (fun b hb => (hl2.ne_bv hb).1), hl2.szA, fun b hb => (List.not_mem_nil hb).elim, hl2.szO, fun b hb => (List.not_mem_nil hb).elim⟩, ?_, fun b hb => ?_, ?_, HN.out.perm, HN.out.sorted, fun q hq => ⟨HN.out.low q hq, fun ho => ?_⟩⟩
    · exact (hl2.blk.set 1 _).set 3 _
    · exact ((Fr.of_below HN.out.bel G.own).both (Fr.alloc w1 _ _)).both (hf.mono fun i _ e => .inl e)
    · rcases hown b hb with h1 | h1
      · exact .inl h1
      · exact .inr (by omega)
    · exact (HN.out.row.fr (Fr.alloc w1 _ (fun _ => False)) fun _ _ => id).fr hf fun q hq => hvg q hq
    · rcases hown q ho with h1 | h1
      · have h2 := H0.out.lt h1
        have h3 := HN.out.low q hq
        omega
      · have h2 := (HN.out.row.lt hq).1
        omega
  have hW : Blk ((w1.alloc (.map #[] 0)).setCell ⟨G.g, 1, none⟩ (.map (some w1.heap.size))) G.g 67 (G.cs.setIfInBounds 1 (.map (some w1.heap.size))) := hl2.blk.set 1 _
  have d3 : ((w1.alloc (.map #[] 0)).setCell ⟨G.g, 1, none⟩ (.map (some w1.heap.size))).cell? ⟨G.g, 3, none⟩ = some G.tv := hW.cell 3
  have e3 : ((w1.alloc (.map #[] 0)).setCell ⟨G.g, 1, none⟩ (.map (some w1.heap.size))).frozen? ⟨G.g, 3, none⟩ = false := hW.frozen 3
  clear hx hl1 hl2 HN ht hW c3 f3 hglt hglt1
  go_upto_region 2 with fail
  rename_i K2 hK2
  refine wp_region_lit ?_
  refine wpList_runTo rfl (some 6) rfl (.pointer (some ⟨G.g, 0, none⟩)) w1 (by kernel_rfl) ?_
  simp only [Act.put, List.setIfInBounds_toArray, List.set_cons_zero, List.set_cons_succ]
  refine wpList_runTo rfl (some 7) rfl (.map (some w1.heap.size)) (w1.alloc (.map #[] 0)) (by kernel_rfl) ?_
  simp only [Act.put, List.setIfInBounds_toArray, List.set_cons_zero, List.set_cons_succ]
  refine wpList_runTo rfl (some 8) rfl (.pointer (some ⟨G.g, 0, none⟩)) (w1.alloc (.map #[] 0)) (by kernel_rfl) ?_
  simp only [Act.put, List.setIfInBounds_toArray, List.set_cons_zero, List.set_cons_succ]
  refine wpList_runTo rfl (some 9) rfl (.pointer (some ⟨G.g, 1, none⟩)) (w1.alloc (.map #[] 0)) (by kernel_rfl) ?_
  simp only [Act.put, List.setIfInBounds_toArray, List.set_cons_zero, List.set_cons_succ]
  generalize w1.alloc (.map #[] 0) = W2 at *
  refine wpList_plain rfl fun K11 hK11 => ?_
  refine skipR (d := none) rfl (w' := W2.setCell ⟨G.g, 1, none⟩ (.map (some w1.heap.size))) (by clear d3 e3; go_simp) ?_
  refine hK11 _ _ ?_
  refine wpList_nil ?_
  refine hK2 _ _ ?_
  simp only [Act.put, List.setIfInBounds_toArray, List.set_cons_zero, List.set_cons_succ]
  clear hK11 hK2 c1 f1
  generalize w1.heap.size = nm at *
  generalize W2.setCell ⟨G.g, 1, none⟩ (.map (some nm)) = W3 at *
  go_upto_region 3 with fail
  rename_i K3 hK3
  refine wp_region_lit ?_
  refine wpList_runTo rfl (some 10) rfl (.pointer (some ⟨G.g, 0, none⟩)) W3 (by kernel_rfl) ?_
  simp only [Act.put, List.setIfInBounds_toArray, List.set_cons_zero, List.set_cons_succ]
  refine wpList_runTo rfl (some 11) rfl (.pointer (some ⟨G.g, 0, none⟩)) W3 (by kernel_rfl) ?_
  simp only [Act.put, List.setIfInBounds_toArray, List.set_cons_zero, List.set_cons_succ]
  refine wpList_runTo rfl (some 12) rfl (.pointer (some ⟨G.g, 3, none⟩)) W3 (by kernel_rfl) ?_
  simp only [Act.put, List.setIfInBounds_toArray, List.set_cons_zero, List.set_cons_succ]
  refine wpList_plain rfl fun K12 hK12 => ?_
  refine skipR (d := none) rfl (w' := W3.setCell ⟨G.g, 3, none⟩ (.slice none 0 0)) (by go_simp) ?_
  refine hK12 _ _ ?_
  refine wpList_nil ?_
  refine hK3 _ _ ?_
  simp only [Act.put, List.setIfInBounds_toArray, List.set_cons_zero, List.set_cons_succ]
  clear hK12 hK3 d3 e3
  generalize W3.setCell ⟨G.g, 3, none⟩ (.slice none 0 0) = W4 at *
  go_wp2
  go_ret
  exact ⟨v, net, _, rfl, HF⟩
end Go.Proofs.Ytidhahooebepfaa
