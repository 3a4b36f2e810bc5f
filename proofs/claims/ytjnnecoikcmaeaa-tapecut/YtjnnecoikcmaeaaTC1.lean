/-
  tape: a record with one byte turned is none (plain).
-/
import Derived.Test.YtjnnecoikcmaeaaTC0
namespace Go.Proofs.Ytjnnecoikcmaeaa
set_option linter.unusedVariables false
set_option linter.unusedSimpArgs false
open Go.RowKit Go.Great

theorem dN_set_ne {l : List Nat} {p y j : Nat} (h : j ≠ p) : dN (l.set p y) j = dN l j := by
  unfold dN
  rw [List.getD_eq_getElem?_getD, List.getD_eq_getElem?_getD, List.getElem?_set_ne (Ne.symm h)]
theorem dN_set_eq {l : List Nat} {p y : Nat} (h : p < l.length) : dN (l.set p y) p = y := by
  unfold dN
  rw [List.getD_eq_getElem?_getD, List.getElem?_set_self h]
  rfl
theorem putTo4_inj {u v : Nat} (hu : u < 4294967296) (hv : v < 4294967296) (h : putTo u 4 4 = putTo v 4 4) : u = v := by
  have e := getN_put (dN (putTo u 4 4)) u 4 4 (Nat.le_refl _) (fun j hj => by simp [dN, putTo, List.getD_eq_getElem?_getD, hj])
  have f := getN_put (dN (putTo u 4 4)) v 4 4 (Nat.le_refl _) (fun j hj => by rw [h]; simp [dN, putTo, List.getD_eq_getElem?_getD, hj])
  rw [e] at f
  simp at f
  omega
theorem BB.set {l : List Nat} (h : BB l) {p y : Nat} (hy : y < 256) : BB (l.set p y) := fun x hx => by
  rcases List.mem_or_eq_of_mem_set hx with k | k
  · exact h x k
  · omega
theorem turn_no {c : Cm} (hE : encE c = 0) (hb : BB (encL c)) (k : Nat) {p y : Nat} (hp : p < 6 + (encL c).length) (hy : y < 256) (hne : y ≠ dN (recL k (encL c)) p) : ∀ n, ¬ FrOk k ((recL k (encL c)).set p y) n := by
  intro n hf
  obtain ⟨d0, hd0, _⟩ := dec_enc hE
  have hf0 := frOk_of hE k []
  rw [List.append_nil] at hf0
  have hL := recL_len k (encL c)
  have hbr := recL_bb k hb
  have hl2 : ((recL k (encL c)).set p y).length = 6 + (encL c).length := by rw [List.length_set, hL]
  have hall := hf.all
  rw [hl2] at hall
  have hde : ∃ d, dec (cmdL n ((recL k (encL c)).set p y)) = .ok d := by
    have := hf.dc
    cases hx : dec (cmdL n ((recL k (encL c)).set p y)) with
    | error e => rw [hx] at this; cases this
    | ok d => exact ⟨d, rfl⟩
  obtain ⟨d, hd⟩ := hde
  have hcm : cmdL n ((recL k (encL c)).set p y) = (((recL k (encL c)).set p y).drop 6).take n := by
    unfold cmdL
    rw [List.drop_take, Nat.add_sub_cancel_left]
  rw [hcm] at hd
  by_cases h2 : p < 2
  · rw [List.drop_set_of_lt (by omega), recL_drop] at hd
    by_cases hn : n = (encL c).length
    · have e1 := hf.len
      have e2 := hf0.len
      rw [hn, ← e2] at e1
      have b0 : dN ((recL k (encL c)).set p y) 0 < 256 := dN_bb (hbr.set hy) 0 (by rw [hl2]; omega)
      have b1 : dN ((recL k (encL c)).set p y) 1 < 256 := dN_bb (hbr.set hy) 1 (by rw [hl2]; omega)
      have b2 : dN (recL k (encL c)) 0 < 256 := dN_bb hbr 0 (by omega)
      have b3 : dN (recL k (encL c)) 1 < 256 := dN_bb hbr 1 (by omega)
      have b4 : dN ((recL k (encL c)).set p y) p = y := dN_set_eq (by omega)
      simp only [getN] at e1
      have : p = 0 ∨ p = 1 := by omega
      rcases this with rfl | rfl <;> omega
    · have hx : (encL c).take n ++ (encL c).drop n = encL c := List.take_append_drop _ _
      have := dec_pre (x := (encL c).drop n) (hb.take n) hd (by rw [hx]; exact hd0)
      have := congrArg List.length this
      rw [List.length_drop] at this
      simp at this
      omega
  · have hn : n = (encL c).length := by
      have e1 := hf.len
      rw [getN_ext 2 (fun j hj => dN_set_ne (show j ≠ p by omega)), hf0.len] at e1
      exact e1.symm
    have hrc := hf.rc
    rw [hcm, hn, List.take_of_length_le (by rw [hl2]; omega)] at hrc
    by_cases h6 : p < 6
    · rw [List.drop_set_of_lt (by omega), recL_drop, List.take_of_length_le (Nat.le_refl _)] at hrc
      have := dN_set_eq (l := recL k (encL c)) (p := p) (y := y) (by omega)
      rw [hrc] at this
      exact hne this.symm
    · obtain ⟨A, hA⟩ : ∃ A, A = putTo (encL c).length 2 2 := ⟨_, rfl⟩
      obtain ⟨j, hj⟩ : ∃ j, j = p - 6 := ⟨_, rfl⟩
      have hjl : j < (encL c).length := by omega
      have hAl : A.length = 2 := by rw [hA, putTo_length]
      have hset : ∀ B : List Nat, B.length = 4 → (A ++ B ++ encL c).set p y = A ++ B ++ (encL c).set j y := fun B hB => by
        rw [List.set_append_right _ _ (by rw [List.length_append]; omega), List.length_append, hAl, hB, hj]
      have hr1 : (recL k (encL c)).set p y = A ++ putTo (crcN (A ++ putTo k 4 4 ++ encL c)) 4 4 ++ (encL c).set j y := by
        unfold recL
        rw [← hA]
        exact hset _ (putTo_length _ _ _)
      have hd6 : ((recL k (encL c)).set p y).drop 6 = (encL c).set j y := by
        rw [hr1, show (6 : Nat) = (A ++ putTo (crcN (A ++ putTo k 4 4 ++ encL c)) 4 4).length by rw [List.length_append, hAl, putTo_length]]
        exact List.drop_left
      have hr2 : recL k ((encL c).set j y) = A ++ putTo (crcN (A ++ putTo k 4 4 ++ (encL c).set j y)) 4 4 ++ (encL c).set j y := by
        unfold recL
        rw [List.length_set, ← hA]
      rw [hd6, List.take_of_length_le (by rw [List.length_set]; exact Nat.le_refl _), hr1, hr2] at hrc
      have hAB : BB A := by rw [hA]; exact putTo_bb _ _ _
      have hX : BB (A ++ putTo k 4 4 ++ encL c) := (hAB.app (putTo_bb _ _ _)).app hb
      have hY : BB (A ++ putTo k 4 4 ++ (encL c).set j y) := (hAB.app (putTo_bb _ _ _)).app (hb.set hy)
      have h1 := List.append_cancel_right hrc
      have h2 := putTo4_inj (crcN_lt hX) (crcN_lt hY) (List.append_cancel_left h1)
      have hsY : A ++ putTo k 4 4 ++ (encL c).set j y = (A ++ putTo k 4 4 ++ encL c).set p y := (hset _ (putTo_length _ _ _)).symm
      have hlX : (A ++ putTo k 4 4 ++ encL c).length = 6 + (encL c).length := by rw [List.length_append, List.length_append, hAl, putTo_length]
      have hyX : dN (A ++ putTo k 4 4 ++ encL c) p ≠ y := by
        have e1 : dN (recL k (encL c)) p = dN (encL c) j := by
          unfold dN
          rw [List.getD_eq_getElem?_getD, List.getD_eq_getElem?_getD]
          unfold recL
          rw [← hA, List.getElem?_append_right (by rw [List.length_append, hAl, putTo_length]; omega), List.length_append, hAl, putTo_length, hj]
        have e2 : dN (A ++ putTo k 4 4 ++ encL c) p = dN (encL c) j := by
          unfold dN
          rw [List.getD_eq_getElem?_getD, List.getD_eq_getElem?_getD]
          rw [List.getElem?_append_right (by rw [List.length_append, hAl, putTo_length]; omega), List.length_append, hAl, putTo_length, hj]
        rw [e2, ← e1]
        exact fun h => hne h.symm
      unfold crcN at h2
      rw [hsY, List.length_set] at h2
      refine crc_tells_one (d := dN (A ++ putTo k 4 4 ++ encL c)) (f := dN ((A ++ putTo k 4 4 ++ encL c).set p y)) (p := p) (n := (A ++ putTo k 4 4 ++ encL c).length) (by omega) (fun i hi => ⟨dN_bb hX i hi, ?_⟩) (fun i hi hne => (dN_set_ne hne).symm) (by rw [dN_set_eq (by omega)]; exact hyX) (crcEnd_inj h2)
      rw [hsY] at hY
      exact dN_bb hY i (by rw [List.length_set]; exact hi)
end Go.Proofs.Ytjnnecoikcmaeaa
