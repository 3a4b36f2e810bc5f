/-
  arbiter: the numbers of those that are kept, rising.
-/
import Derived.Test.YtdncemecnbglaaaA5
import Derived.Test.YtdncemecnbglaaaShelf
namespace Go.Proofs.Ytdncemecnbglaaa
set_option linter.unusedVariables false
set_option linter.unusedSimpArgs false
open Go.RowKit Go.Great Go.Maps Go.Sort Go.Shelf

theorem sortsA (m : Nat) : AnyZI.SortsIn Try.prog Try.sortedA_ren Fence.wide m :=
  ⟨fun blk off cap ss W hH hblk hsz => callsIn_wide.2 (AnyM.slices_Sort_int Try.sortA blk off cap ss W hH hblk hsz),
   fun p cap W => callsIn_wide.2 (AnyM.slices_Sort_int_none Try.sortA p cap W)⟩
/-- The numbers of those that are kept. -/
def nums (ks : List Kp) : List Int := ks.map fun k => (k.n : Int)
theorem keys_nums {ks : List Kp} {es : List (Lit × DataW Value)} (h : es.Perm ((kL ks).map hE)) : (intKeys (.map es)).Perm (nums ks) ∧ Maps.size (.map es) = ks.length := by
  refine ⟨?_, by rw [size_eq, h.length_eq]; unfold kL; simp⟩
  have h2 : ((kL ks).map hE).map (fun p => Go.intOf p.1) = nums ks := by
    unfold kL nums hE kLit
    rw [List.map_map, List.map_map]
    rfl
  rw [← h2]
  exact h.map _
set_option maxRecDepth 100000 in
set_option maxHeartbeats 1000000 in
theorem ahead_any {w : World} {g b : Nat} {a : Ab} (h : AbAt w g b a) : Calls Try.prog 26 #[.pointer (some ⟨g, 0, none⟩)] w fun e w' => ∃ (v : Value), e = .returned v ∧ Hid (∃ ss : List Int, ss.Perm (nums a.ks) ∧ w'.ownsRow w.heap.size 3 1 v ss.length ((ss.mergeSort (fun x y => decide (x ≤ y))).map encZ) ∧ Below w.heap.size w w') := by
  have c3 : w.cell? ⟨g, 3, none⟩ = some (.map (some b)) := h.blk.cell 3
  obtain ⟨es, nn, hown, hp⟩ := h.map
  obtain ⟨hkn, hsz⟩ := keys_nums hp
  have hbd : a.ks.length ≤ 2000000000000 := by have := h.bd.len; have := h.bd.cn 1; have := h.bd.cn 5; omega
  have HKN : Hid ((intKeys (.map es)).Perm (nums a.ks)) := hkn
  have hmax : Maps.size (.map es) ≤ maxLen := by rw [hsz]; unfold maxLen; omega
  have hbytes : Maps.size (.map es) * 8 ≤ 140737488355328 := by rw [hsz]; omega
  clear h hp hkn hsz hbd
  refine (callsIn_wide (n := 6)).1 ?_
  have hbl := hown.lt
  have hseq : SeqGives Fence.wide 2 Try.prog 47 #[.pointer (some ⟨w.heap.size, 0, none⟩)] encZ (fun ss => ss.Perm (intKeys (.map es))) (Maps.size (.map es)) (w.alloc (.cells #[.map (some b)] 65)) :=
    AnyZI.keys_gives (ρ := Try.keysA_ren) { Try.keysA with } Fence.wide _ trivial rfl (by omega) w.heap.size b nn (.map es) _ (by simp) (by simp) (by
      obtain ⟨es', clock, hb, Ft, hs, hD⟩ := hown
      exact ⟨es', clock, (Below.heap_alloc _ _ b hbl).trans hb, Ft, hs, hD⟩)
  have cK : ∀ mb W, CallsIn Fence.wide 5 Try.prog 39 #[.map mb] W fun e w' => e = .returned (.func (.func 47) #[] #[.pointer (some ⟨W.heap.size, 0, none⟩)]) ∧ w' = W.alloc (.cells #[.map mb] 65) := fun mb W => AnyZI.keys_in Try.keysA Fence.wide 5 trivial rfl mb W
  have cS := AnyZI.sorted_in Try.sortedA Fence.wide 5 trivial trivial trivial trivial rfl (by omega) (sortsA _) (enters_of Try.func46 (by kernel_rfl) rfl) 47 #[.pointer (some ⟨w.heap.size, 0, none⟩)] trivial (enters_of Try.func47 (by kernel_rfl) rfl) _ _ hmax hbytes _ hseq
  change CallsIn _ _ Try.prog 38 _ _ _ at cS
  have hfK : Fence.wide.fn 39 := trivial
  have hfS : Fence.wide.fn 38 := trivial
  refine callsIn_of_wp Try.func26 rfl trivial ?_ rfl
  simp only [Try.ntmps26, List.size_toArray, List.length_cons, List.length_nil, Nat.reduceAdd, Nat.reduceSub, Array.replicate_succ, Array.replicate_zero, List.push_toArray, List.append_toArray, List.nil_append, List.cons_append]
  gi_wp2_with (first
    | (gi_at_call 39; refine (cK _ _).mono ?_; rintro e w' ⟨rfl, rfl⟩)
    | (gi_at_call 38; refine cS.mono ?_; rintro e w' ⟨v, ss, rfl, hS, hrow, hnil, hb⟩))
  go_ret
  exact ⟨v, rfl, ss, hS.trans HKN.out, ownsRow_base_a hrow (by simp), ((Below.refl _ w).alloc (Nat.le_refl _) _).trans (hb.mono (by simp))⟩
end Go.Proofs.Ytdncemecnbglaaa
