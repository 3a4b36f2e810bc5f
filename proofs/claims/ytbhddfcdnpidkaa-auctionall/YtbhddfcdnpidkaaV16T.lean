/-
  auction: a row is laid in order, those who are alike as they stood.
-/
import Derived.Test.YtbhddfcdnpidkaaV16
import Derived.Test.YtbhddfcdnpidkaaV14T
namespace Go.Proofs.Ytbhddfcdnpidkaa
set_option linter.unusedVariables false
set_option linter.unusedSimpArgs false
set_option linter.unusedSectionVars false
open Go.RowKit Go.Great Go.Shelf Go.Lib Go.Sort

def ltT (s : Int) (p q : Wn × Nat) : Bool := ltOf (cfW s) p.1 q.1 || (!ltOf (cfW s) q.1 p.1 && decide (p.2 < q.2))
/-- net is D in order, those who are alike as they stood. -/
def StW (s : Int) (D net : List Wn) : Prop := ∃ L : List (Wn × Nat), L.map (·.1) = net ∧ L.Perm D.zipIdx ∧ L.Pairwise (fun p q => ltT s q p = false)
theorem swoT {β : Type} {lt : β → β → Bool} (h : SWO lt) : SWO (fun p q : β × Nat => lt p.1 q.1 || (!lt q.1 p.1 && decide (p.2 < q.2))) where
  irrefl x := by simp [h.irrefl]
  trans x y z h1 h2 := by
    simp only [Bool.or_eq_true, Bool.and_eq_true, Bool.not_eq_true', decide_eq_true_eq] at *
    rcases h1 with h1 | ⟨h1, t1⟩ <;> rcases h2 with h2 | ⟨h2, t2⟩
    · exact .inl (h.trans _ _ _ h1 h2)
    · left
      cases e : lt x.1 z.1 with
      | true => rfl
      | false => have := h.ntrans _ _ _ e h2; rw [this] at h1; cases h1
    · left
      cases e : lt x.1 z.1 with
      | true => rfl
      | false => have := h.ntrans y.1 x.1 z.1 h1 e; rw [this] at h2; cases h2
    · right
      exact ⟨h.ntrans _ _ _ h2 h1, by omega⟩
  ntrans x y z h1 h2 := by
    simp only [Bool.or_eq_false_iff, Bool.and_eq_false_iff, Bool.not_eq_false', decide_eq_false_iff_not] at *
    obtain ⟨h1, t1⟩ := h1
    obtain ⟨h2, t2⟩ := h2
    refine ⟨h.ntrans _ _ _ h1 h2, ?_⟩
    cases e : lt z.1 x.1 with
    | true => exact .inl rfl
    | false =>
      right
      have k1 : ¬ x.2 < y.2 := t1.resolve_left fun k => by
        have := h.ntrans _ _ _ h2 e
        rw [this] at k; cases k
      have k2 : ¬ y.2 < z.2 := t2.resolve_left fun k => by
        have := h.ntrans _ _ _ e h1
        rw [this] at k; cases k
      omega
theorem swoTW (s : Int) : SWO (ltT s) := swoT (swoW s)
theorem ltT_ag (s : Int) (x y : Wn × Nat) (h : x.2 < y.2) : ltOf (fun p q : Wn × Nat => cfW s p.1 q.1) y x = ltT s y x := by
  show ltOf (cfW s) y.1 x.1 = (ltOf (cfW s) y.1 x.1 || (!ltOf (cfW s) x.1 y.1 && decide (y.2 < x.2)))
  rw [decide_eq_false (by omega : ¬ y.2 < x.2), Bool.and_false, Bool.or_false]
section
variable [Inhabited Wn]
theorem flatK_map (A : Array (Wn × Nat)) : flatK (fun p : Wn × Nat => wL p.1) 4 A = flatK wL 4 (A.map (·.1)) := by
  apply Array.ext
  · simp
  · intro i h1 h2
    have hi : i < A.size * 4 := by simpa using h1
    have hd : i / 4 < A.size := by omega
    simp only [flatK, Array.getElem_map, Array.getElem_range]
    rw [getElem!_pos A _ hd, getElem!_pos (A.map (·.1)) _ (by simpa using hd)]
    simp
theorem swk_blockG {α : Type} [Inhabited α] {enc : α → List Value} {k : Nat} {w : World} {g off n : Nat} {d' : Array α} {os : Array Obj} {b : Nat} (hb : b < w.heap.size) (hne : b ≠ g) : (sortWorldK enc k w g off n d' os).heap[b]? = w.heap[b]? := by
  show (((w.heap.modify g (Go.Sort.onCells _)) ++ os)[b]?) = _
  rw [Array.getElem?_append_left (by simpa using hb), Array.getElem?_modify, if_neg (Ne.symm hne)]
end
set_option maxHeartbeats 1000000 in
theorem stableWT_any (s : Int) (sb : Nat) (D : List Wn) (v : Value) (w : World) (h : RowAt w 69 4 v D.length (flatL wL D)) (hb : Blk w sb 3 #[.int .i64 s]) (hne : ∀ q, v.ownBlock = some q → sb ≠ q) (hl : D.length ≤ 1152921504606846976) :
    Calls Try.prog 59 #[v, .int .i64 (D.length : Nat), .func (.func 60) #[] #[.pointer (some ⟨sb, 0, none⟩)]] w fun e w' => e = .returned (.tuple #[]) ∧ Hid (∃ net : List Wn, RowAt w' 69 4 v net.length (flatL wL net) ∧ net.Perm D ∧ net.Pairwise (fun a b => ¬ ltW s b a) ∧ Fr w w' (fun b => v.ownBlock = some b) ∧ StW s D net) := by
  haveI : Inhabited Wn := ⟨⟨0, false, 0, 0⟩⟩
  rcases h.2 with ⟨h0, h00⟩ | ⟨g, off, cap, cur, e2, e3, _⟩
  · subst h0
    have hD : D = [] := List.length_eq_zero_iff.1 h00
    subst hD
    refine (stableNil_any _ w).mono ?_
    rintro e w1 ⟨rfl, rfl⟩
    exact ⟨rfl, [], h, List.Perm.refl _, List.Pairwise.nil, Fr.refl _ _, [], rfl, List.Perm.refl _, List.Pairwise.nil⟩
  subst e2
  have hlt : g < w.heap.size := (Array.getElem?_eq_some_iff.1 e3).1
  have eg : ∀ args w, (callFunc 60 args).run Try.prog w = .ok (.enter 60 args) w := enters_of Try.func60 (by kernel_rfl) rfl
  have e69 : ∀ args w, (callFunc 69 args).run Try.prog w = .ok (.enter 69 args) w := enters_of Try.func69 (by kernel_rfl) rfl
  obtain ⟨DT, hDT⟩ : ∃ DT : List (Wn × Nat), DT = D.zipIdx := ⟨_, rfl⟩
  have hlen : DT.length = D.length := by rw [hDT, List.length_zipIdx]
  have hmap : DT.map (·.1) = D := by rw [hDT, List.zipIdx_map_fst]
  have hcs : DT.toArray.size = D.length := by rw [List.size_toArray, hlen]
  have htag : ∀ i, i < DT.toArray.size → (DT.toArray[i]!).2 = i := fun i hi => by
    rw [getElem!_pos DT.toArray i hi]
    subst hDT
    simp
  have hA : DT.toArray.map (·.1) = D.toArray := by rw [List.map_toArray, hmap]
  have hcmp : CmpLays Try.prog 60 #[.pointer (some ⟨sb, 0, none⟩)] (fun p : Wn × Nat => wL p.1) 4 (fun p q : Wn × Nat => cfW s p.1 q.1) g off DT.toArray.size w := fun m os dk hdk x y =>
    (ahead1_any s sb x.1 y.1 _ (show Blk _ _ _ _ from (swk_blockG hb.lt (hne g rfl)).trans hb)).mono fun e w' ⟨h1, h2⟩ => ⟨h1, h2.out⟩
  have hH : HoldsK (fun p : Wn × Nat => wL p.1) 4 w g off DT.toArray := by
    unfold HoldsK
    rw [flatK_map, hA]
    exact holdsW_row h
  have R : RowK (fun p : Wn × Nat => wL p.1) 4 w g off DT.toArray := ⟨fun x => wL_len x.1, fun x u hu => wL_one x.1 u hu, hH, hlt⟩
  have hswo : SWO (ltOf (fun p q : Wn × Nat => cfW s p.1 q.1)) := ⟨fun x => (swoW s).irrefl x.1, fun x y z => (swoW s).trans x.1 y.1 z.1, fun x y z => (swoW s).ntrans x.1 y.1 z.1⟩
  have hcon := stableT_any Ly.of (fun p : Wn × Nat => wL p.1) (fun p q : Wn × Nat => cfW s p.1 q.1) 60 #[.pointer (some ⟨sb, 0, none⟩)] g off cap DT.toArray DT.toArray w w eg hcmp R hswo (ltT s) (·.2) ⟨swoTW s, ltT_ag s, htag⟩ rfl (SWK.start hH) (by rw [hcs]; exact hl) e69
    (fun a b E W hE S hab hbE hsz => by
      have hC : CmpLays Try.prog 60 #[.pointer (some ⟨sb, 0, none⟩)] (fun p : Wn × Nat => wL p.1) 4 (fun p q : Wn × Nat => cfW s p.1 q.1) g off E.size W := fun m os dk hdk x y => by
        obtain ⟨n0, os0, rfl⟩ := S
        rw [sortWorldK_on (fun p : Wn × Nat => wL p.1) 4 w g off n0 m E dk os0 os R.hblk hdk]
        exact hcmp _ _ dk (by omega) x y
      have hsi : (Sort.insertionSort (ltOf (fun p q : Wn × Nat => cfW s p.1 q.1)) E a b).size = E.size := (insertionSort_holds hswo E a b hab hbE).1.1
      refine (AnyQ.insertionSortCmpFunc Try.insA 4 (fun w => by kernel_rfl) (fun w => by kernel_rfl) (fun p : Wn × Nat => wL p.1) R.hk R.h1 (fun p q : Wn × Nat => cfW s p.1 q.1) 60 #[.pointer (some ⟨sb, 0, none⟩)] g off cap a b E W eg hC (S.holds R.hblk R.hH hE.symm) (S.lt R.hblk) hab hbE hsz).mono ?_
      rintro e w' ⟨rfl, n, os, rfl⟩
      exact ⟨rfl, S.on R.hblk n _ os hsi⟩)
  rw [hcs] at hcon
  refine hcon.mono fun e w' ⟨h1, d', ⟨n, os, hw⟩, hp, hs⟩ => ⟨h1, (d'.map (·.1)).toList, ?_⟩
  have hsz : d'.size = D.length := by rw [hp.1, hcs]
  have hw2 : w' = sortWorldK wL 4 w g off n (d'.map (·.1)) os := by
    rw [hw]
    unfold sortWorldK putRowK
    rw [flatK_map]
  obtain ⟨r1, r2⟩ := rowW_sorted h (by rw [Array.size_map]; exact hsz) hw2
  have hln : (d'.map (·.1)).toList.length = D.length := by rw [Array.length_toList, Array.size_map, hsz]
  have hpp : d'.toList.Perm DT := by
    have := hp.2.2
    rw [show d'.extract 0 D.length = d' by rw [← hsz]; simp, show DT.toArray.extract 0 D.length = DT.toArray by rw [← hcs]; simp] at this
    exact this
  have hpw : d'.toList.Pairwise (fun p q => ltT s q p = false) := by
    rw [List.pairwise_iff_getElem]
    intro i j hi hj hij
    rw [Array.length_toList] at hi hj
    have := hs i j (Nat.zero_le _) hij (by omega)
    rw [getElem!_pos d' i hi, getElem!_pos d' j hj] at this
    exact this
  have hml : (d'.map (·.1)).toList = d'.toList.map (·.1) := by rw [Array.toList_map]
  refine ⟨by rw [hln]; exact r1, ?_, ?_, r2.mono fun b _ e => by rw [e]; rfl, d'.toList, hml.symm, by rw [← hDT]; exact hpp, hpw⟩
  · rw [hml, ← hmap]
    exact hpp.map _
  · rw [hml, List.pairwise_map]
    refine hpw.imp fun {p q} hlt hw' => ?_
    have : ltOf (cfW s) q.1 p.1 = true := decide_eq_true (cfW_neg.2 hw')
    unfold ltT at hlt
    rw [this, Bool.true_or] at hlt
    cases hlt
end Go.Proofs.Ytbhddfcdnpidkaa
