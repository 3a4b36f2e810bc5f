/-
  auction: a row is laid in order (SortStableFunc), rowOf.
-/
import Derived.Test.YtbhddfcdnpidkaaV15
import Derived.Test.YtbhddfcdnpidkaaShelf
namespace Go.Proofs.Ytbhddfcdnpidkaa
set_option linter.unusedVariables false
set_option linter.unusedSimpArgs false
open Go.RowKit Go.Great Go.Shelf Go.Lib Go.Sort

/-- One stands ahead of another. -/
def ltW (s : Int) (a b : Wn) : Prop := a.m = true ∧ b.m = false ∨ a.m = b.m ∧ ((if s = 1 then b.p < a.p else a.p < b.p) ∨ a.p = b.p ∧ a.id < b.id)
theorem cfW_neg {s : Int} {a b : Wn} : cfW s a b < 0 ↔ ltW s a b := by
  unfold cfW ltW orV cmpV
  cases ha : a.m <;> cases hb : b.m <;> by_cases hs : s = 1 <;> simp [hs]
  all_goals (split <;> (try split) <;> (try split) <;> omega)
theorem swoW (s : Int) : Go.Sort.SWO (ltOf (cfW s)) where
  irrefl x := by
    unfold ltOf
    rw [decide_eq_false_iff_not, cfW_neg]
    unfold ltW
    by_cases hs : s = 1 <;> simp [hs]
  trans x y z h1 h2 := by
    unfold ltOf at *
    rw [decide_eq_true_iff, cfW_neg] at *
    unfold ltW at *
    cases hx : x.m <;> cases hy : y.m <;> cases hz : z.m <;> by_cases hs : s = 1 <;> simp [hx, hy, hz, hs] at * <;> omega
  ntrans x y z h1 h2 := by
    unfold ltOf at *
    rw [decide_eq_false_iff_not, cfW_neg] at *
    unfold ltW at *
    cases hx : x.m <;> cases hy : y.m <;> cases hz : z.m <;> by_cases hs : s = 1 <;> simp [hx, hy, hz, hs] at * <;> omega
theorem leB_of {a b : Wn} (h : ¬ ltW 1 b a) : leB a b := by
  unfold ltW at h
  unfold leB
  cases ha : a.m <;> cases hb : b.m <;> simp [ha, hb] at * <;> omega
theorem leS_of {a b : Wn} (h : ¬ ltW 2 b a) : leS a b := by
  unfold ltW at h
  unfold leS
  cases ha : a.m <;> cases hb : b.m <;> simp [ha, hb] at * <;> omega
section
variable [Inhabited Wn]
theorem flatW_K (D : List Wn) (t : Nat) (h : t < D.length * 4) : (flatL wL D)[t]? = some ((flatK wL 4 D.toArray)[t]!) := by
  rw [get_flatK wL 4 D.toArray t (by simpa using h)]
  have hd : t / 4 < D.length := by omega
  have hm : t % 4 < 4 := Nat.mod_lt _ (by decide)
  have e := flatL_get wL_len (List.getElem?_eq_getElem hd) hm
  rw [show t / 4 * 4 + t % 4 = t by omega] at e
  rw [e]
  have e2 : D.toArray[t / 4]! = D[t / 4] := by rw [getElem!_pos _ _ (by simpa using hd)]; rfl
  rw [e2]
  have hl : t % 4 < (wL D[t / 4]).length := by rw [wL_len]; exact hm
  rw [List.getElem?_eq_getElem hl]
  exact congrArg some (getElem!_pos (wL D[t / 4]) (t % 4) hl).symm
theorem holdsW_row {w : World} {g off cap : Nat} {D : List Wn} (h : RowAt w 69 4 (.slice (some ⟨g, off, none⟩) D.length cap) D.length (flatL wL D)) : HoldsK wL 4 w g off D.toArray := fun j hj => by
  rw [size_flatK] at hj
  exact ⟨h.cell rfl (flatW_K D j (by simpa using hj)), h.frozen rfl _⟩
theorem swk_block {w : World} {g off n : Nat} {d' : Array Wn} {os : Array Obj} {b : Nat} (hb : b < w.heap.size) (hne : b ≠ g) : (sortWorldK wL 4 w g off n d' os).heap[b]? = w.heap[b]? := by
  show (((w.heap.modify g (Go.Sort.onCells _)) ++ os)[b]?) = _
  rw [Array.getElem?_append_left (by simpa using hb), Array.getElem?_modify, if_neg (Ne.symm hne)]
theorem rowW_sorted {w w' : World} {g off cap n : Nat} {D : List Wn} {d' : Array Wn} {os : Array Obj} (h : RowAt w 69 4 (.slice (some ⟨g, off, none⟩) D.length cap) D.length (flatL wL D)) (hs : d'.size = D.length) (hw : w' = sortWorldK wL 4 w g off n d' os) :
    RowAt w' 69 4 (.slice (some ⟨g, off, none⟩) D.length cap) D.length (flatL wL d'.toList) ∧ Fr w w' (fun b => b = g) := by
  rcases h.2 with ⟨h0, _⟩ | ⟨g', off', cap', cur, e2, e3, e4, e5, e6, e7⟩
  · cases h0
  injection e2 with e2 _ e8
  injection e2 with e2
  injection e2 with e2 e9 _
  subst e2 e8 e9
  have hlt : g < w.heap.size := (Array.getElem?_eq_some_iff.1 e3).1
  have hhold := holdsK_sortWorldK_c wL 4 w g off D.toArray d' n os (holdsW_row h) hlt (by simpa using hs)
  rw [← hw] at hhold
  have hsz : w.heap.size ≤ w'.heap.size := by
    rw [hw]
    show _ ≤ (Go.Sort.grow _ os).heap.size
    unfold Go.Sort.grow
    simp only [Array.size_append]
    rw [size_putRowK]
    exact Nat.le_add_right _ _
  have hblk : w'.heap[g]? = some (.cells (Go.Sort.putCells id off (flatK wL 4 d') cur) 69 (0, 0)) := by
    rw [hw]
    show (((w.heap.modify g (Go.Sort.onCells _)) ++ os)[g]?) = _
    rw [Array.getElem?_append_left (by simpa using hlt), Array.getElem?_modify, if_pos rfl, e3]
    rfl
  refine ⟨⟨by rw [flatL_len wL_len, Array.length_toList, hs], .inr ⟨g, off, cap, _, rfl, hblk, e4, e5, by unfold Go.Sort.putCells; simpa using e6, ?_⟩⟩, ?_⟩
  · apply List.ext_getElem?
    intro t
    rw [List.getElem?_take]
    by_cases ht : t < D.length * 4
    · rw [if_pos ht, List.getElem?_drop, Array.getElem?_toList, ← cell_of_row w' g (off + t) _ _ _ hblk]
      have := (hhold t (by rw [size_flatK, hs]; exact ht)).1
      rw [this]
      have h2 := flatW_K d'.toList t (by rw [Array.length_toList, hs]; exact ht)
      rw [h2]; rfl
    · rw [if_neg ht, List.getElem?_eq_none (by rw [flatL_len wL_len, Array.length_toList, hs]; omega)]
  · exact ⟨by rw [hw]; rfl, by rw [hw]; rfl, by rw [hw]; rfl, hsz, fun b hb hn => by rw [hw]; exact swk_block hb hn⟩
theorem cmpLaysW {s : Int} {sb g off size : Nat} {w : World} (hb : Blk w sb 3 #[.int .i64 s]) (hne : sb ≠ g) : CmpLays Try.prog 60 #[.pointer (some ⟨sb, 0, none⟩)] wL 4 (cfW s) g off size w := fun m os dk hdk x y =>
  (ahead1_any s sb x y _ (show Blk _ _ _ _ from (swk_block hb.lt hne).trans hb)).mono fun e w' ⟨h1, h2⟩ => ⟨h1, h2.out⟩
end
theorem stableNil_any (fv : Value) (w : World) : Calls Try.prog 59 #[.slice none 0 0, .int .i64 (0 : Nat), fv] w fun e w' => e = .returned (.tuple #[]) ∧ w' = w := by
  have hi : ∀ W, Calls Try.prog 69 #[.slice none 0 0, .int .i64 0, .int .i64 0, fv] W fun e w' => e = .returned (.tuple #[]) ∧ w' = W := fun W => by
    go_enter Try.func69, Try.ntmps69
    go_wp2
    refine wp_loop_rounds 1 ?_
    rw [rounds_succ]
    go_wp2
    go_end0
    exact ⟨rfl, rfl⟩
  go_enter Try.func59, Try.ntmps59
  go_wp2
  refine wp_loop_rounds 1 ?_
  rw [rounds_succ]
  go_wp2_with (go_at_call 69; refine (hi _).mono ?_; rintro e w1 ⟨rfl, rfl⟩)
  refine wp_loop_rounds 1 ?_
  rw [rounds_succ]
  go_wp2
  go_end0
  exact ⟨rfl, rfl⟩
set_option maxHeartbeats 1000000 in
theorem stableW_any (s : Int) (sb : Nat) (D : List Wn) (v : Value) (w : World) (h : RowAt w 69 4 v D.length (flatL wL D)) (hb : Blk w sb 3 #[.int .i64 s]) (hne : ∀ q, v.ownBlock = some q → sb ≠ q) (hl : D.length ≤ 1152921504606846976) :
    Calls Try.prog 59 #[v, .int .i64 (D.length : Nat), .func (.func 60) #[] #[.pointer (some ⟨sb, 0, none⟩)]] w fun e w' => e = .returned (.tuple #[]) ∧ Hid (∃ net : List Wn, RowAt w' 69 4 v net.length (flatL wL net) ∧ net.Perm D ∧ net.Pairwise (fun a b => ¬ ltW s b a) ∧ Fr w w' (fun b => v.ownBlock = some b)) := by
  haveI : Inhabited Wn := ⟨⟨0, false, 0, 0⟩⟩
  rcases h.2 with ⟨h0, h00⟩ | ⟨g, off, cap, cur, e2, e3, _⟩
  · subst h0
    have hD : D = [] := List.length_eq_zero_iff.1 h00
    subst hD
    refine (stableNil_any _ w).mono ?_
    rintro e w1 ⟨rfl, rfl⟩
    exact ⟨rfl, [], h, List.Perm.refl _, List.Pairwise.nil, Fr.refl _ _⟩
  subst e2
  have hlt : g < w.heap.size := (Array.getElem?_eq_some_iff.1 e3).1
  have eg : ∀ args w, (callFunc 60 args).run Try.prog w = .ok (.enter 60 args) w := enters_of Try.func60 (by kernel_rfl) rfl
  have e69 : ∀ args w, (callFunc 69 args).run Try.prog w = .ok (.enter 69 args) w := enters_of Try.func69 (by kernel_rfl) rfl
  have hcs : D.toArray.size = D.length := List.size_toArray
  have hcmp : CmpLays Try.prog 60 #[.pointer (some ⟨sb, 0, none⟩)] wL 4 (cfW s) g off D.toArray.size w := cmpLaysW hb (hne g rfl)
  have R : RowK wL 4 w g off D.toArray := ⟨wL_len, fun x u hu => wL_one x u hu, holdsW_row h, hlt⟩
  have hcon := stable_any Ly.of wL (cfW s) 60 #[.pointer (some ⟨sb, 0, none⟩)] g off cap D.toArray D.toArray w w eg hcmp R (swoW s) rfl (SWK.start (holdsW_row h)) (by rw [hcs]; exact hl) e69
    (fun a b E W hE S hab hbE hsz => by
      have hC : CmpLays Try.prog 60 #[.pointer (some ⟨sb, 0, none⟩)] wL 4 (cfW s) g off E.size W := fun m os dk hdk x y => by
        obtain ⟨n0, os0, rfl⟩ := S
        rw [sortWorldK_on wL 4 w g off n0 m E dk os0 os R.hblk hdk]
        exact hcmp _ _ dk (by omega) x y
      have hsi : (Sort.insertionSort (ltOf (cfW s)) E a b).size = E.size := (insertionSort_holds (swoW s) E a b hab hbE).1.1
      refine (AnyQ.insertionSortCmpFunc Try.insA 4 (fun w => by kernel_rfl) (fun w => by kernel_rfl) wL R.hk R.h1 (cfW s) 60 #[.pointer (some ⟨sb, 0, none⟩)] g off cap a b E W eg hC (S.holds R.hblk R.hH hE.symm) (S.lt R.hblk) hab hbE hsz).mono ?_
      rintro e w' ⟨rfl, n, os, rfl⟩
      exact ⟨rfl, S.on R.hblk n _ os hsi⟩)
  rw [hcs] at hcon
  refine hcon.mono fun e w' ⟨h1, d', ⟨n, os, hw⟩, hp, hs⟩ => ⟨h1, d'.toList, ?_⟩
  have hsz : d'.size = D.length := by rw [hp.1, List.size_toArray]
  obtain ⟨r1, r2⟩ := rowW_sorted h hsz hw
  have hln : d'.toList.length = D.length := by rw [Array.length_toList, hsz]
  refine ⟨by rw [hln]; exact r1, ?_, ?_, r2.mono fun b _ e => by rw [e]; rfl⟩
  · have := hp.2.2
    rw [show d'.extract 0 D.length = d' by rw [← hsz]; simp, show D.toArray.extract 0 D.length = D.toArray by rw [← List.size_toArray]; simp] at this
    exact this
  · rw [List.pairwise_iff_getElem]
    intro i j hi hj hij hlt
    rw [Array.length_toList] at hi hj
    have := hs i j (Nat.zero_le _) hij (by omega)
    rw [getElem!_pos d' i hi, getElem!_pos d' j hj] at this
    unfold ltOf at this
    rw [decide_eq_false_iff_not] at this
    exact this (cfW_neg.2 hlt)
end Go.Proofs.Ytbhddfcdnpidkaa
