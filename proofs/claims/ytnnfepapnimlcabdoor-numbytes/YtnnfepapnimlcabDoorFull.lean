/-
  The law's own: full.
-/
import Derived.Test.YtnnfepapnimlcabDoorBytes5
import Derived.ArgAppend
import Derived.Deep.Onto
namespace Go.Proofs.YtnnfepapnimlcabDoor
set_option linter.unusedVariables false
set_option linter.unusedSimpArgs false
open Go.RowKit

theorem grown_more {w w1 w2 : World} {R row : Option Nat} (h : w.grownBy w1 R) (h2 : w1.grownBy w2 row) (hr : row = none ∨ row = R ∨ ∃ k, row = some k ∧ w.heap.size ≤ k) : w.grownBy w2 R :=
  ⟨h2.os.trans h.os, h2.tape.trans h.tape, h2.output.trans h.output, Nat.le_trans h.size h2.size, fun k hk hne => (h2.block k (by have := h.size; omega) (fun e => by
    rcases hr with h0 | h0 | ⟨q, h0, hq⟩
    · rw [h0] at e; cases e
    · exact hne (e.trans h0)
    · rw [h0] at e; cases e; omega)).trans (h.block k hk hne)⟩
theorem set_full (xs : List Value) (M : Value) (k : Nat) (hk : k < xs.length) : (List.replicate k M ++ xs.drop k).set k M = List.replicate (k + 1) M ++ xs.drop (k + 1) := by
  rw [List.drop_eq_getElem_cons hk, List.set_append_right _ _ (by simp)]
  simp only [List.length_replicate, Nat.sub_self, List.set_cons_zero, List.replicate_succ', List.append_assoc, List.singleton_append]

set_option maxRecDepth 100000 in
set_option maxHeartbeats 1000000 in
theorem full_any (ao : Option Addr) (n cv : Nat) (xs : List Value) (B m : Nat) (w : World) (hm : m < 256) (hn : n ≤ 140737488352000) (hB : B ≤ w.heap.size) (ho : w.ownsRow B 5 1 (.slice ao n cv) n xs) :
    Calls Tryd.prog 27 #[.slice ao n cv, .int .u8 (m : Int)] w fun e w' => ∃ v, e = .returned v ∧ w'.ownsRow B 5 1 v (n + 70) (List.replicate (n + 70) (.int .u8 (m : Int))) ∧ w.grownBy w' (Value.slice ao n cv).ownBlock ∧ (v.ownBlock = (Value.slice ao n cv).ownBlock ∨ ∃ k, v.ownBlock = some k ∧ w.heap.size ≤ k) := by
  obtain ⟨i0, hi, hz0, hz1, hz2⟩ := info_parts info5
  have HO : Hid (w.ownsRow B 5 1 (.slice ao n cv) n xs ∧ B ≤ w.heap.size) := ⟨ho, hB⟩
  have HXL : Hid (xs.length = n) := by have := ho.1; show _ = _; omega
  clear ho hB
  generalize hR : (Value.slice ao n cv).ownBlock = R
  have HR : Hid ((Value.slice ao n cv).ownBlock = R) := hR
  clear hR
  go_enter Tryd.func27, Tryd.ntmps27
  go_wp2
  go_loopw [5] (fun i wr => ∃ k : Nat, k ≤ n ∧ i = .int .i64 k ∧ wr.ownsRow B 5 1 (.slice ao n cv) n (List.replicate k (.int .u8 (m : Int)) ++ xs.drop k) ∧ w.grownBy wr R) (fun i _ => n - (intOf i).toNat)
  case atStart => exact ⟨0, Nat.zero_le _, rfl, by simpa using HO.out.1, World.grownBy.refl _ _⟩
  case round =>
    obtain ⟨k, hk, rfl, hown, hgr⟩ := hrel
    by_cases hlt : k < n
    · have hlt' : (k : Int) < (n : Int) := by omega
      obtain ⟨g, cap', hv, _, _⟩ := hown.form (by omega)
      cases hv
      have hc := hown.cellAt k (by omega)
      rw [show (List.replicate k (Value.int .u8 (m : Int)) ++ xs.drop k)[k]? = some (xs[k]'(by rw [HXL.out]; exact hlt)) by rw [List.getElem?_append_right (by simp)]; simp [HXL.out, hlt]] at hc
      have hf := hown.frozenAt k
      obtain ⟨hs1, hs2⟩ := hown.stored k (.int .u8 (m : Int))
      rw [set_full xs _ k (by rw [HXL.out]; exact hlt)] at hs1
      have HS : Hid ((wr.setCell ⟨g, k, none⟩ (.int .u8 (m : Int))).ownsRow B 5 1 (.slice (some ⟨g, 0, none⟩) n cv) n (List.replicate (k + 1) (.int .u8 (m : Int)) ++ xs.drop (k + 1)) ∧ w.grownBy (wr.setCell ⟨g, k, none⟩ (.int .u8 (m : Int))) R) := ⟨hs1, grown_more hgr hs2 (.inr (.inl HR.out))⟩
      clear hs1 hs2 hown hgr
      generalize xs[k]'(by rw [HXL.out]; exact hlt) = X at hc
      go_wp2
      exact ⟨⟨k + 1, by omega, by go_num, HS.out⟩, by simp [intOf]; omega⟩
    · obtain rfl : k = n := by omega
      rw [List.drop_eq_nil_of_le (by rw [HXL.out]; exact Nat.le_refl _), List.append_nil] at hown
      have HW : Hid (wr.ownsRow B 5 1 (.slice ao k cv) k (List.replicate k (.int .u8 (m : Int))) ∧ w.grownBy wr R) := ⟨hown, hgr⟩
      clear hown hgr
      go_wp2
      go_loopw [0, 6] (fun v i wr => ∃ (j : Nat) (a' : Option Addr) (c' : Nat), j ≤ 70 ∧ i = .int .i64 j ∧ v = .slice a' (k + j) c' ∧ wr.ownsRow B 5 1 v (k + j) (List.replicate (k + j) (.int .u8 (m : Int))) ∧ w.grownBy wr R ∧ (v.ownBlock = R ∨ ∃ q, v.ownBlock = some q ∧ w.heap.size ≤ q)) (fun _ i _ => 70 - (intOf i).toNat)
      case atStart => exact ⟨0, ao, cv, Nat.zero_le _, rfl, rfl, HW.out.1, HW.out.2, .inl HR.out⟩
      case round =>
        obtain ⟨j, a', c', hj, rfl, rfl, hown, hgr, hbk⟩ := hrel
        clear HW
        by_cases hlt2 : j < 70
        · have hlt2' : (j : Int) < 70 := by omega
          have HA : Hid (wr.ownsRow B 5 1 (.slice a' (k + j) c') (k + j) (List.replicate (k + j) (.int .u8 (m : Int))) ∧ w.grownBy wr R ∧ ((Value.slice a' (k + j) c').ownBlock = R ∨ ∃ q, (Value.slice a' (k + j) c').ownBlock = some q ∧ w.heap.size ≤ q)) := ⟨hown, hgr, hbk⟩
          have HE : Hid (List.replicate (k + j) (Value.int .u8 (m : Int)) ++ [.int .u8 (m : Int)] = List.replicate (k + j + 1) (.int .u8 (m : Int))) := List.replicate_succ'.symm
          have hnew : Hid (∀ j u, [Value.int .u8 (m : Int)][j]? = some u → (wr.alloc (.cells #[.int .u8 (m : Int)] 5)).cell? ((⟨wr.heap.size, 0, none⟩ : Addr).add j) = some u) := cell_one_new wr (.int .u8 (m : Int)) 5
          have HG0 : Hid (w.grownBy (wr.alloc (.cells #[.int .u8 (m : Int)] 5)) R) := grown_more hgr (World.grownBy_alloc wr _ none) (.inl rfl)
          have HOA : Hid ((wr.alloc (.cells #[.int .u8 (m : Int)] 5)).ownsRow B 5 1 (.slice a' (k + j) c') (k + j) (List.replicate (k + j) (.int .u8 (m : Int)))) := hown.alloc _
          by_cases hfit : k + j + 1 ≤ c'
          · obtain ⟨g, rfl⟩ : ∃ g, a' = some ⟨g, 0, none⟩ := by
              rcases hown.2 with ⟨h1, h2⟩ | ⟨g, cap, cur, h1, _⟩
              · injection h1 with e1 e2 e3; omega
              · cases h1; exact ⟨g, rfl⟩
            clear hown hgr hbk
            go_wp2_with (at_builtin; refine wpList_append_fits_any _ rfl _ _ 29 rfl B 5 i0 1 Tryd.underlying29 hi hz1 g (k + j) c' (List.replicate (k + j) (.int .u8 (m : Int))) rfl HOA.out (some ⟨wr.heap.size, 0, none⟩) 1 1 [.int .u8 (m : Int)] rfl rfl (fun h => by cases h) (fun ad h => by cases h; exact hnew.out) (fun x hx => by simp at hx; subst hx; rfl) hfit ?_; intro w3 hown' hgrow3)
            rw [HE.out] at hown'
            have HB3 : Hid (w3.ownsRow B 5 1 (.slice (some ⟨g, 0, none⟩) (k + j + 1) c') (k + j + 1) (List.replicate (k + j + 1) (.int .u8 (m : Int))) ∧ w.grownBy w3 R) := ⟨hown', grown_more HG0.out hgrow3 (.inr HA.out.2.2)⟩
            clear hown' hgrow3
            exact ⟨⟨j + 1, some ⟨g, 0, none⟩, c', by omega, by go_num, rfl, HB3.out.1, HB3.out.2, HA.out.2.2⟩, by simp [intOf]; omega⟩
          · have HN : Hid (a' = none → k + j = 0 ∧ c' = 0) := fun e => by
              rcases hown.2 with ⟨h1, h2⟩ | ⟨g, cap, cur, h1, _⟩
              · injection h1 with e1 e2 e3; exact ⟨h2, e3⟩
              · cases h1; cases e
            have HC : Hid (∀ b, a' = some b → ∀ i u, (List.replicate (k + j) (Value.int .u8 (m : Int)))[i]? = some u → (wr.alloc (.cells #[.int .u8 (m : Int)] 5)).cell? (b.add i) = some u) := fun b e i u hu => by
              rcases hown.2 with ⟨h1, h2⟩ | ⟨g, cap, cur, h1, _⟩
              · injection h1 with e1 e2 e3; rw [e1] at e; cases e
              · cases h1; cases e; exact HOA.out.cells rfl i u hu
            clear hown hgr hbk
            go_wp2_with (at_builtin; refine wpList_append_grows _ rfl _ _ 29 rfl 5 i0 (.int .u8 0) 1 1 Tryd.underlying29 hi hz0 hz1 hz2 rfl (by decide) a' (k + j) c' (List.replicate (k + j) (.int .u8 (m : Int))) rfl HN.out (by simp) HC.out ⟨wr.heap.size, 0, none⟩ 1 1 [.int .u8 (m : Int)] rfl rfl hnew.out (fun x hx => by simp at hx; subst hx; rfl) (by omega) (by unfold maxLen; omega) (by omega) ?_; intro v' w3 hown' hgrow3)
            rw [HE.out] at hown'
            obtain ⟨a3, c3, rfl⟩ := own_form hown'
            obtain ⟨g3, cap3, hv3, hg3, _⟩ := hown'.form (by omega)
            have HB3 : Hid (w3.ownsRow B 5 1 (.slice a3 (k + j + 1) c3) (k + j + 1) (List.replicate (k + j + 1) (.int .u8 (m : Int))) ∧ w.grownBy w3 R ∧ ((Value.slice a3 (k + j + 1) c3).ownBlock = R ∨ ∃ q, (Value.slice a3 (k + j + 1) c3).ownBlock = some q ∧ w.heap.size ≤ q)) := by
              have hsz := HG0.out.size
              exact ⟨hown'.mono (by have := HO.out.2; omega), grown_more HG0.out hgrow3 (.inl rfl), .inr ⟨g3, by rw [hv3]; rfl, by omega⟩⟩
            clear hown' hgrow3 hv3 hg3
            exact ⟨⟨j + 1, a3, c3, by omega, by go_num, rfl, HB3.out⟩, by simp [intOf]; omega⟩
        · obtain rfl : j = 70 := by omega
          have HZ : Hid (wr.ownsRow B 5 1 (.slice a' (k + 70) c') (k + 70) (List.replicate (k + 70) (.int .u8 (m : Int))) ∧ w.grownBy wr R ∧ ((Value.slice a' (k + 70) c').ownBlock = R ∨ ∃ q, (Value.slice a' (k + 70) c').ownBlock = some q ∧ w.heap.size ≤ q)) := ⟨hown, hgr, hbk⟩
          clear hown hgr hbk
          go_wp2
          go_ret
          exact ⟨_, rfl, HZ.out⟩
end Go.Proofs.YtnnfepapnimlcabDoor
