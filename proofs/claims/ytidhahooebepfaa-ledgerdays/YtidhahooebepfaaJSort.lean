/-
  ledger: a row of bookings is sorted.
-/
import Derived.Test.YtidhahooebepfaaJCmp
import Derived.Test.YtidhahooebepfaaShelf
namespace Go.Proofs.Ytidhahooebepfaa
set_option linter.unusedVariables false
set_option linter.unusedSimpArgs false
open Go.RowKit Go.Great Go.Maps Go.Shelf Go.Lib Go.Sort

theorem swoB : Go.Sort.SWO (ltOf cfB) where
  irrefl x := by
    unfold ltOf
    rw [decide_eq_false_iff_not]
    exact fun h => ltB_irr x (cfB_neg.1 h)
  trans x y z h1 h2 := by
    unfold ltOf at *
    rw [decide_eq_true_iff] at *
    exact cfB_neg.2 (ltB_trans (cfB_neg.1 h1) (cfB_neg.1 h2))
  ntrans x y z h1 h2 := by
    unfold ltOf at *
    rw [decide_eq_false_iff_not] at *
    intro h3
    have h3' := cfB_neg.1 h3
    have h1' : ¬ ltB x y := fun h => h1 (cfB_neg.2 h)
    have h2' : ¬ ltB y z := fun h => h2 (cfB_neg.2 h)
    by_cases hyx : ltB y x
    · exact h2' (ltB_trans hyx h3')
    · have e := ltB_tri h1' hyx
      refine h2' ?_
      rcases h3' with h | ⟨e2, h⟩
      · exact .inl (e.1 ▸ h)
      · exact .inr ⟨e.1 ▸ e2, e.2 ▸ h⟩
theorem isAggB (w : World) : (isAgg 42).run Try.prog w = .ok true w := by kernel_rfl
theorem sizeB (w : World) : (Go.sizeOf 42).run Try.prog w = .ok 5 w := by kernel_rfl
section
variable [Inhabited Bk]
theorem flat_K (D : List Bk) (t : Nat) (h : t < D.length * 5) : (flatL Bk.cl D)[t]? = some ((flatK Bk.cl 5 D.toArray)[t]!) := by
  rw [get_flatK Bk.cl 5 D.toArray t (by simpa using h)]
  have hd : t / 5 < D.length := by omega
  have hm : t % 5 < 5 := Nat.mod_lt _ (by decide)
  have e := flatL_get Bk.cl_len (List.getElem?_eq_getElem hd) hm
  rw [show t / 5 * 5 + t % 5 = t by omega] at e
  rw [e]
  have e2 : D.toArray[t / 5]! = D[t / 5] := by rw [getElem!_pos _ _ (by simpa using hd)]; rfl
  rw [e2]
  have hl : t % 5 < (D[t / 5]).cl.length := by rw [Bk.cl_len]; exact hm
  rw [List.getElem?_eq_getElem hl]
  exact congrArg some (getElem!_pos (D[t / 5]).cl (t % 5) hl).symm
theorem holds_row {w : World} {g off cap : Nat} {D : List Bk} (h : RowAt w 42 5 (.slice (some ⟨g, off, none⟩) D.length cap) D.length (flatL Bk.cl D)) : HoldsK Bk.cl 5 w g off D.toArray := fun j hj => by
  rw [size_flatK] at hj
  exact ⟨h.cell rfl (flat_K D j (by simpa using hj)), h.frozen rfl _⟩
theorem row_sorted {w w' : World} {g off cap n : Nat} {D : List Bk} {d' : Array Bk} {os : Array Obj} (h : RowAt w 42 5 (.slice (some ⟨g, off, none⟩) D.length cap) D.length (flatL Bk.cl D)) (hs : d'.size = D.length) (hw : w' = sortWorldK Bk.cl 5 w g off n d' os) :
    RowAt w' 42 5 (.slice (some ⟨g, off, none⟩) D.length cap) D.length (flatL Bk.cl d'.toList) ∧ Fr w w' (fun b => b = g) := by
  rcases h.2 with ⟨h0, _⟩ | ⟨g', off', cap', cur, e2, e3, e4, e5, e6, e7⟩
  · cases h0
  injection e2 with e2 _ e8
  injection e2 with e2
  injection e2 with e2 e9 _
  subst e2 e8 e9
  have hlt : g < w.heap.size := (Array.getElem?_eq_some_iff.1 e3).1
  have hhold := holdsK_sortWorldK_c Bk.cl 5 w g off D.toArray d' n os (holds_row h) hlt (by simpa using hs)
  rw [← hw] at hhold
  have hsz : w.heap.size ≤ w'.heap.size := by
    rw [hw]
    show _ ≤ (Go.Sort.grow _ os).heap.size
    unfold Go.Sort.grow
    simp only [Array.size_append]
    rw [size_putRowK]
    exact Nat.le_add_right _ _
  have hblk : w'.heap[g]? = some (.cells (Go.Sort.putCells id off (flatK Bk.cl 5 d') cur) 42 (0, 0)) := by
    rw [hw]
    show (((w.heap.modify g (Go.Sort.onCells _)) ++ os)[g]?) = _
    rw [Array.getElem?_append_left (by simpa using hlt), Array.getElem?_modify, if_pos rfl, e3]
    rfl
  have hother : ∀ b, b < w.heap.size → b ≠ g → w'.heap[b]? = w.heap[b]? := fun b hb hne => by
    rw [hw]
    show (((w.heap.modify g (Go.Sort.onCells _)) ++ os)[b]?) = _
    rw [Array.getElem?_append_left (by simpa using hb), Array.getElem?_modify, if_neg (Ne.symm hne)]
  refine ⟨⟨by rw [flatL_len Bk.cl_len, Array.length_toList, hs], .inr ⟨g, off, cap, _, rfl, hblk, e4, e5, by unfold Go.Sort.putCells; simpa using e6, ?_⟩⟩, ?_⟩
  · apply List.ext_getElem?
    intro t
    rw [List.getElem?_take]
    by_cases ht : t < D.length * 5
    · rw [if_pos ht, List.getElem?_drop, Array.getElem?_toList, ← cell_of_row w' g (off + t) _ _ _ hblk]
      have := (hhold t (by rw [size_flatK, hs]; exact ht)).1
      rw [this]
      have h2 := flat_K d'.toList t (by rw [Array.length_toList, hs]; exact ht)
      rw [h2]; rfl
    · rw [if_neg ht, List.getElem?_eq_none (by rw [flatL_len Bk.cl_len, Array.length_toList, hs]; omega)]
  · exact ⟨by rw [hw]; rfl, by rw [hw]; rfl, by rw [hw]; rfl, hsz, fun b hb hn => hother b hb hn⟩
theorem cmpLaysB (blk off size : Nat) (w : World) : CmpLays Try.prog 43 #[] Bk.cl 5 cfB blk off size w := fun _ _ _ _ x y => (told1_any x y _).mono fun e w' ⟨h1, h2⟩ => ⟨h1, h2.out⟩
end
theorem SortFunc_any (D : List Bk) (v : Value) (w : World) (h : RowAt w 42 5 v D.length (flatL Bk.cl D)) (hnn : v ≠ .slice none 0 0) (hl : D.length ≤ 1000000) :
    Calls Try.prog 42 #[v, .func (.func 43) #[] #[]] w fun e w' => e = .returned (.tuple #[]) ∧ Hid (∃ net : List Bk, RowAt w' 42 5 v net.length (flatL Bk.cl net) ∧ net.Perm D ∧ net.Pairwise (fun a b => ¬ ltB b a) ∧ Fr w w' (fun b => v.ownBlock = some b)) := by
  haveI : Inhabited Bk := ⟨⟨⟨#[]⟩, ⟨#[]⟩, 0, 0, 0⟩⟩
  rcases h.2 with ⟨h0, _⟩ | ⟨g, off, cap, cur, e2, e3, _⟩
  · exact absurd h0 hnn
  subst e2
  have eg : ∀ args w, (callFunc 43 args).run Try.prog w = .ok (.enter 43 args) w := enters_of Try.func43 (by kernel_rfl) rfl
  have hcon := AnyQ.slices_SortFunc Try.laysSort 5 isAggB sizeB Bk.cl Bk.cl_len (fun x v hv => Bk.cl_one x v hv) cfB swoB 43 #[] g off cap D.toArray w eg (cmpLaysB g off D.toArray.size w) (holds_row h) (Array.getElem?_eq_some_iff.1 e3).1 (by rw [List.size_toArray]; omega)
  have hcs : D.toArray.size = D.length := List.size_toArray
  rw [hcs] at hcon
  change Calls Try.prog 42 #[.slice (some ⟨g, off, none⟩) D.length cap, .func (.func 43) #[] #[]] w _ at hcon
  refine hcon.mono fun e w' ⟨h1, d', n, os, hp, hs, hw⟩ => ⟨h1, d'.toList, ?_⟩
  have hsz : d'.size = D.length := by rw [hp.1, List.size_toArray]
  obtain ⟨r1, r2⟩ := row_sorted h hsz hw
  have hln : d'.toList.length = D.length := by rw [Array.length_toList, hsz]
  refine ⟨by rw [hln]; exact r1, ?_, ?_, r2.mono fun b _ e => by rw [e]; rfl⟩
  · have := hp.2.2
    rw [show d'.extract 0 D.length = d' by rw [← hsz]; simp, show D.toArray.extract 0 D.length = D.toArray by rw [← List.size_toArray]; simp] at this
    exact this
  · rw [List.pairwise_iff_getElem]
    intro i j hi hj hij hlt
    rw [Array.length_toList] at hi hj
    have := hs i j (Nat.zero_le _) hij (by omega)
    rw [getElem!_pos d' i hi, getElem!_pos d' j hj] at this
    unfold ltOf at this
    rw [decide_eq_false_iff_not] at this
    exact this (cfB_neg.2 hlt)
end Go.Proofs.Ytidhahooebepfaa
