/-
  auction: Sort, Compact, DeleteFunc over a row of numbers.
-/
import Derived.Test.YtbhddfcdnpidkaaV18
import Derived.Test.YtbhddfcdnpidkaaU8
namespace Go.Proofs.Ytbhddfcdnpidkaa
set_option linter.unusedVariables false
set_option linter.unusedSimpArgs false
open Go.RowKit Go.Great Go.Shelf Go.Lib Go.Sort

def eI : Int → Value := Value.int .i64
theorem rowI_put {w w' : World} {T : TypeId} {g off cap n q : Nat} {d' : Array Int} {os : Array Obj} {xs : List Value} (h : RowAt w T 1 (.slice (some ⟨g, off, none⟩) n cap) n xs) (hs : d'.size = n) (hw : w' = Go.Sort.grow (putRow eI (Sort.ahead w q) g off d') os) :
    RowAt w' T 1 (.slice (some ⟨g, off, none⟩) n cap) n (d'.toList.map eI) ∧ Fr w w' (fun b => b = g) := by
  have hfz := h.frozen rfl
  rcases h.2 with ⟨h0, _⟩ | ⟨g', off', cap', cur, e2, e3, e4, e5, e6, e7⟩
  · cases h0
  injection e2 with e2 _ e8
  injection e2 with e2
  injection e2 with e2 e9 _
  subst e2 e8 e9
  have hlt : g < w.heap.size := (Array.getElem?_eq_some_iff.1 e3).1
  have hblk : w'.heap[g]? = some (.cells (Go.Sort.putCells eI off d' cur) T (0, 0)) := by
    rw [hw]
    show (((w.heap.modify g (Go.Sort.onCells _)) ++ os)[g]?) = _
    rw [Array.getElem?_append_left (by simpa using hlt), Array.getElem?_modify, if_pos rfl, e3]
    rfl
  have hcs : (Go.Sort.putCells eI off d' cur).size = cur.size := by unfold Go.Sort.putCells; simp
  refine ⟨⟨by simp [hs], .inr ⟨g, off, cap, _, rfl, hblk, e4, e5, by rw [hcs]; exact e6, ?_⟩⟩, ?_⟩
  · apply List.ext_getElem?
    intro t
    rw [List.getElem?_take]
    by_cases ht : t < n * 1
    · rw [if_pos ht, List.getElem?_drop, Array.getElem?_toList, List.getElem?_map]
      have ht' : t < d'.size := by omega
      rw [Array.getElem?_toList, Array.getElem?_eq_getElem ht']
      unfold Go.Sort.putCells
      rw [Array.getElem?_mapIdx, Array.getElem?_eq_getElem (by omega : off + t < cur.size)]
      simp only [Option.map_some]
      rw [if_pos (by omega), show off + t - off = t by omega, getElem!_pos d' t ht']
    · rw [if_neg ht, List.getElem?_eq_none (by simp [hs] <;> omega)]
  · refine ⟨by rw [hw]; rfl, by rw [hw]; rfl, by rw [hw]; rfl, ?_, fun b hb hne => ?_⟩
    · rw [hw]
      show _ ≤ ((w.heap.modify g _) ++ os).size
      simp
    · rw [hw]
      show (((w.heap.modify g (Go.Sort.onCells _)) ++ os)[b]?) = _
      rw [Array.getElem?_append_left (by simpa using hb), Array.getElem?_modify, if_neg (Ne.symm hne)]
theorem row_take {w : World} {e : TypeId} {n k g off cap : Nat} {xs : List Value} (h : RowAt w e 1 (.slice (some ⟨g, off, none⟩) n cap) n xs) (hk : k ≤ n) : RowAt w e 1 (.slice (some ⟨g, off, none⟩) k cap) k (xs.take k) := by
  have hlen := h.1
  rcases h.2 with ⟨h0, _⟩ | ⟨g', off', cap', cur, e2, e3, e4, e5, e6, e7⟩
  · cases h0
  injection e2 with e2 _ e8
  injection e2 with e2
  injection e2 with e2 e9 _
  subst e2 e8 e9
  refine ⟨by rw [List.length_take]; omega, .inr ⟨g, off, cap, cur, rfl, e3, by omega, e5, e6, ?_⟩⟩
  rw [← e7, List.take_take]
  congr 1
  omega
theorem holdsI {w : World} {T : TypeId} {g off cap : Nat} {D : List Int} (h : RowAt w T 1 (.slice (some ⟨g, off, none⟩) D.length cap) D.length (D.map eI)) : Holds eI w g off D.toArray := fun j hj => by
  rw [List.size_toArray] at hj
  refine ⟨h.cell rfl (by rw [List.getElem?_map, List.getElem?_eq_getElem hj, getElem!_pos _ _ (by simpa using hj)]; simp), h.frozen rfl _⟩
theorem rowI_cap {w : World} {T : TypeId} {g off cap n : Nat} {xs : List Value} (h : RowAt w T 1 (.slice (some ⟨g, off, none⟩) n cap) n xs) : g < w.heap.size ∧ n ≤ cap := by
  rcases h.2 with ⟨h0, _⟩ | ⟨g', off', cap', cur, e2, e3, e4, e5, e6, e7⟩
  · cases h0
  injection e2 with e2 _ e8
  injection e2 with e2
  injection e2 with e2 e9 _
  subst e2 e8 e9
  exact ⟨(Array.getElem?_eq_some_iff.1 e3).1, e4⟩
theorem SortI_any (D : List Int) (g off cap : Nat) (w : World) (h : RowAt w 2 1 (.slice (some ⟨g, off, none⟩) D.length cap) D.length (D.map eI)) (hl : D.length ≤ 1152921504606846976) :
    Calls Try.prog 55 #[.slice (some ⟨g, off, none⟩) D.length cap] w fun e w' => e = .returned (.tuple #[]) ∧ Hid (RowAt w' 2 1 (.slice (some ⟨g, off, none⟩) D.length cap) D.length ((srtL D).map eI) ∧ Fr w w' (fun b => b = g)) := by
  refine (AnyM.slices_Sort_int Try.sortA g off cap D w (holdsI h) (rowI_cap h).1 (by omega)).mono ?_
  rintro e w' ⟨rfl, n, os, hw⟩
  have := rowI_put (d' := (srtL D).toArray) h (by rw [List.size_toArray]; exact (srtL_perm D).length_eq) hw
  exact ⟨rfl, this.1, this.2⟩
theorem CompactI_any (D : List Int) (g off cap : Nat) (w : World) (h : RowAt w 2 1 (.slice (some ⟨g, off, none⟩) D.length cap) D.length (D.map eI)) (hl : D.length ≤ 1152921504606846976) :
    Calls Try.prog 57 #[.slice (some ⟨g, off, none⟩) D.length cap] w fun e w' => e = .returned (.slice (some ⟨g, off, none⟩) (cptL D).length cap) ∧ Hid (RowAt w' 2 1 (.slice (some ⟨g, off, none⟩) (cptL D).length cap) (cptL D).length ((cptL D).map eI) ∧ Fr w w' (fun b => b = g)) := by
  have hs : D.toArray.size = D.length := List.size_toArray
  have hc := AnyE.slices_Compact Try.compactA eI (fun x => rfl) (EqlAt.intD _ _ _) (NeqAt.intD _ _ _) (0 : Int) (fun w => by kernel_rfl) g off cap D.toArray w (holdsI h) (by omega) (by rw [hs]; exact (rowI_cap h).2)
  have hlen := cptL_len D
  have hc' : Calls Try.prog 57 #[.slice (some ⟨g, off, none⟩) D.length cap] w _ := hc
  clear hc
  refine hc'.mono ?_
  rintro e w' ⟨he, q, hw⟩
  have := rowI_put (w' := w') (q := q) (os := #[]) (d' := (cptL D ++ List.replicate (D.toArray.size - (cptL D).length) 0).toArray) h (by rw [List.size_toArray, List.length_append, List.length_replicate]; omega) (by rw [Go.Sort.grow_empty]; exact hw)
  refine ⟨he, ?_, this.2⟩
  have r := row_take this.1 hlen
  rw [← List.map_take, List.toList_toArray, List.take_left] at r
  exact r
theorem cnd1_gives (x : Int) (W : World) : Calls Try.prog 58 #[eI x] W fun e w' => e = .returned (.bool (decide (x = 0))) ∧ ∃ q, w' = W.drewN q := by
  unfold eI
  by_cases hx : x = 0
  · subst hx
    go_enter Try.func58, Try.ntmps58
    go_wp2
    go_ret
    exact ⟨rfl, 0, rfl⟩
  · have hb : (x == 0) = false := by simp [hx]
    go_enter Try.func58, Try.ntmps58
    go_wp2
    go_ret
    exact ⟨by simp [hx], 0, rfl⟩
theorem DeleteI_any (D : List Int) (g off cap : Nat) (w : World) (h : RowAt w 2 1 (.slice (some ⟨g, off, none⟩) D.length cap) D.length (D.map eI)) (hl : D.length ≤ 1152921504606846976) :
    Calls Try.prog 56 #[.slice (some ⟨g, off, none⟩) D.length cap, .func (.func 58) #[] #[]] w fun e w' => e = .returned (.slice (some ⟨g, off, none⟩) (D.filter fun x => !decide (x = 0)).length cap) ∧ Hid (RowAt w' 2 1 (.slice (some ⟨g, off, none⟩) (D.filter fun x => !decide (x = 0)).length cap) (D.filter fun x => !decide (x = 0)).length ((D.filter fun x => !decide (x = 0)).map eI) ∧ Fr w w' (fun b => b = g)) := by
  have hs : D.toArray.size = D.length := List.size_toArray
  have hc := AnyE.slices_DeleteFunc Try.deleteA eI (fun x => rfl) (fun x => decide (x = 0)) 58 #[] (enters_of Try.func58 (by kernel_rfl) rfl) (0 : Int) (fun w => by kernel_rfl) g off cap D.toArray w (fun W x _ => cnd1_gives x W) (fun n os dk x _ => cnd1_gives x _) (holdsI h) (by omega) (by rw [hs]; exact (rowI_cap h).2)
  have hlen := List.length_filter_le (fun x : Int => !decide (x = 0)) D
  have hc' : Calls Try.prog 56 #[.slice (some ⟨g, off, none⟩) D.length cap, .func (.func 58) #[] #[]] w _ := hc
  clear hc
  refine hc'.mono ?_
  rintro e w' ⟨he, q, hw⟩
  have := rowI_put (w' := w') (q := q) (os := #[]) (d' := ((D.filter fun x => !decide (x = 0)) ++ List.replicate (D.toArray.size - (D.filter fun x => !decide (x = 0)).length) 0).toArray) h (by rw [List.size_toArray, List.length_append, List.length_replicate]; omega) (by rw [Go.Sort.grow_empty]; exact hw)
  refine ⟨he, ?_, this.2⟩
  have r := row_take this.1 hlen
  rw [← List.map_take, List.toList_toArray, List.take_left] at r
  exact r
end Go.Proofs.Ytbhddfcdnpidkaa
