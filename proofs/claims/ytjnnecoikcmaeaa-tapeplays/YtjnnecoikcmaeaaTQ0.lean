/-
  tape: slices.Concat, slices.Clone, bytes.Equal.
-/
import Derived.Test.YtjnnecoikcmaeaaTP9
import Derived.Lib.AppendZeros
namespace Go.Proofs.Ytjnnecoikcmaeaa
set_option linter.unusedVariables false
set_option linter.unusedSimpArgs false
open Go.RowKit Go.Great Go.Lib

set_option maxRecDepth 100000 in
theorem Grow_any (n : Nat) (z : Int) (hz : z = n) (h0 : 0 < n) (hn : n ≤ 1048576) (w : World) :
    Calls Try.prog 57 #[.slice none 0 0, .int .i64 z] w fun e w' => ∃ v, e = .returned v ∧ w'.ownsRow w.heap.size 5 1 v 0 [] ∧ Below w.heap.size w w' := by
  subst hz
  obtain ⟨i0, hi, hz0, hz1, hz2⟩ := info_parts info5
  have hr := Lib.run_append_nil_zeros (P := Try.prog) w 28 3 28 5 i0 (.int .u8 0) .i64 .i64 Try.underlying28 Try.underlying3 hi hz0 n h0 (by omega) (by omega) (by rw [hz2]; omega)
  have hle := grownCap_ge w n 0 5
  have hmx : grownCap w n 0 5 ≤ maxLen := grownCap_le_maxLen w n 0 5 (by unfold maxLen; omega)
  generalize grownCap w n 0 5 = C at *
  have hf0 : ¬ (n : Int) < 0 := by omega
  have hf1 : (0 : Int) < (n : Int) := by omega
  have HO : Hid ((w.drew.alloc (.cells (Builtin.zeroCells (Value.int .u8 0).cells n ++ Builtin.zeroCells (Value.int .u8 0).cells (C - n)) 5)).ownsRow w.heap.size 5 1 (.slice (some ⟨w.heap.size, 0, none⟩) 0 C) 0 [] ∧ Below w.heap.size w (w.drew.alloc (.cells (Builtin.zeroCells (Value.int .u8 0).cells n ++ Builtin.zeroCells (Value.int .u8 0).cells (C - n)) 5))) :=
    ⟨⟨rfl, .inr ⟨w.heap.size, C, _, rfl, Nat.le_refl _, heap_alloc_new w.drew _, Nat.zero_le _, hmx, by simp [Builtin.zeroCells, Value.cells]; omega, by simp⟩⟩, (below_drewN (Below.refl _ w) 1).alloc (by exact Nat.le_refl _) _⟩
  generalize Builtin.zeroCells _ _ ++ Builtin.zeroCells _ _ = Z at *
  clear hi hz0 hz1 hz2
  go_enter Try.func57, Try.ntmps57
  go_wp2_with (at_builtin; refine wpList_append_run w rfl _ _ 28 3 rfl (.slice none 0 0) (.int .i64 n) rfl rfl _ _ hr ?_)
  go_ret
  exact ⟨_, rfl, HO.out.1, HO.out.2⟩
def catU (ls : Nat → List Nat) : Nat → List Nat
  | 0 => []
  | k + 1 => catU ls k ++ ls k
theorem catU_le (ls : Nat → List Nat) : ∀ {k n : Nat}, k ≤ n → (catU ls k).length ≤ (catU ls n).length
  | k, 0, h => by have : k = 0 := by omega
                  subst this; exact Nat.le_refl _
  | k, n + 1, h => by
    by_cases e : k = n + 1
    · subst e; exact Nat.le_refl _
    · have := catU_le ls (show k ≤ n by omega)
      simp only [catU]
      rw [List.length_append]; omega
set_option maxRecDepth 100000 in
set_option maxHeartbeats 1000000 in
theorem Concat_any (b n : Nat) (vs : Nat → Value) (ls : Nat → List Nat) (w : World) (hn : n ≤ 1000) (hc : ∀ k, k < n → w.cell? ⟨b, k, none⟩ = some (vs k)) (hb : ∀ k, k < n → By w (vs k) (ls k)) (h0 : 0 < (catU ls n).length) (hl : (catU ls n).length ≤ 1048576) :
    Calls Try.prog 48 #[.slice (some ⟨b, 0, none⟩) n n] w fun e w' => ∃ v, e = .returned v ∧ Hid (RowB w w' v (catU ls n)) := by
  have HC : Hid (∀ W, Below w.heap.size w W → ∀ k, k < n → W.cell? ⟨b, k, none⟩ = some (vs k) ∧ By W (vs k) (ls k)) := fun W h k hk => ⟨(h.cell (p := ⟨b, k, none⟩) (World.block_lt_of_cell? _ _ (hc k hk))).trans (hc k hk), (hb k hk).below h⟩
  have HLe : Hid (∀ k, k ≤ n → (catU ls k).length ≤ (catU ls n).length) := fun k hk => catU_le ls hk
  have HLs : Hid (∀ k, catU ls (k + 1) = catU ls k ++ ls k) := fun k => rfl
  have hgr := fun z hz => Grow_any (catU ls n).length z hz h0 hl w
  clear hc hb
  go_enter Try.func48, Try.ntmps48
  go_wp2
  go_loopw [3, 11] (fun s x wr => ∃ k : Nat, k ≤ n ∧ x = .int .i64 k ∧ s = .int .i64 ((catU ls k).length : Int) ∧ w = wr) (fun _ x _ => n - (RowKit.intOf x).toNat)
  case atStart => exact ⟨0, by omega, rfl, rfl, rfl⟩
  case round =>
    obtain ⟨k, hk, rfl, rfl, hw⟩ := hrel
    subst hw
    by_cases hlt : k < n
    · have hlt' : (k : Int) < (n : Int) := by omega
      obtain ⟨c1, hby⟩ := HC.out w (Below.refl _ _) k hlt
      obtain ⟨a, cap, hv, _⟩ := hby.form
      have h1 := HLe.out (k + 1) hlt
      have h2 := congrArg List.length (HLs.out k)
      rw [List.length_append] at h2
      have HE : Hid ((catU ls (k + 1)).length = (catU ls k).length + (ls k).length) := h2
      rw [h2] at h1
      rw [hv] at c1
      clear hby hv h2 hgr
      have c1' : w.cell? ⟨b, 0 + k, none⟩ = some (.slice a (ls k).length cap) := by rw [Nat.zero_add]; exact c1
      generalize (catU ls k).length = s at *
      generalize (ls k).length = m at *
      have hp : ¬ (s : Int) + (m : Int) < 0 := by omega
      go_wp2
      exact ⟨⟨k + 1, by omega, by go_num, by rw [HE.out]; go_num, by first | rfl | trivial⟩, by simp [RowKit.intOf]; omega⟩
    · have hkn : k = n := by omega
      subst hkn
      have hstop : ¬ (k : Int) < (k : Int) := by omega
      go_wp2_with (go_at_call 57; fail)
      refine (hgr _ rfl).mono ?_
      rintro e W1 ⟨v1, rfl, ho1, hb1⟩
      have HR1 : Hid (RowB w W1 v1 (catU ls 0)) := by
        obtain ⟨r1, r2, r3⟩ := own_rowAt (l := []) ho1
        exact ⟨r1, fun x hx => (by cases hx), hb1, r2⟩
      clear ho1 hb1 hgr
      go_wp2
      go_loopw [6, 27] (fun y x wr => ∃ (j : Nat) (v : Value), v = y ∧ j ≤ k ∧ x = .int .i64 j ∧ Hid (RowB w wr v (catU ls j))) (fun _ x _ => k - (RowKit.intOf x).toNat)
      case atStart => exact ⟨0, v1, rfl, by omega, rfl, HR1⟩
      case round =>
        clear HR1
        obtain ⟨j, v, hv, hj, rfl, HR⟩ := hrel
        subst hv
        by_cases hjl : j < k
        · have hjl' : (j : Int) < (k : Int) := by omega
          obtain ⟨c1, hby⟩ := HC.out wr HR.out.bel j hjl
          obtain ⟨v', w', hr, hrow⟩ := HR.out.app hby (by have h1 := HLe.out (j + 1) hjl; have h2 := congrArg List.length (HLs.out j); rw [List.length_append] at h2; omega) 28
          have HF : Hid (RowB w w' v' (catU ls (j + 1))) := by
            show RowB w w' v' (catU ls (j + 1))
            rw [HLs.out j]; exact hrow
          have c1' : wr.cell? ⟨b, 0 + j, none⟩ = some (vs j) := by rw [Nat.zero_add]; exact c1
          obtain ⟨va, vc, hvj, _⟩ := hby.form
          clear hby hrow HR
          rw [hvj] at hr c1 c1'
          go_upto_region 13 with fail
          refine wp_region_lit ?_
          refine wpList_runTo rfl (some 31) rfl (v) wr (by kernel_rfl) ?_
          simp only [Act.put, List.setIfInBounds_toArray, List.set_cons_zero, List.set_cons_succ]
          refine wpList_runTo rfl (some 32) rfl (.slice va (ls j).length vc) wr (by kernel_rfl) ?_
          simp only [Act.put, List.setIfInBounds_toArray, List.set_cons_zero, List.set_cons_succ]
          refine wpList_plain rfl fun K11 hK11 => ?_
          refine valR (d := some 33) rfl v' (exec_append (v1 := v) (v2 := .slice va (ls j).length vc) (.tmp 31) (.tmp 32) rfl (by kernel_rfl) (by kernel_rfl) hr) ?_
          refine hK11 _ _ ?_
          simp only [Act.put, List.setIfInBounds_toArray, List.set_cons_zero, List.set_cons_succ]
          refine wpList_runTo rfl (some 6) rfl (v') w' (by kernel_rfl) ?_
          simp only [Act.put, List.setIfInBounds_toArray, List.set_cons_zero, List.set_cons_succ]
          refine wpList_nil ?_
          clear hK11 hr c1 c1'
          go_wp2
          exact ⟨⟨j + 1, v', rfl, by omega, by go_num, HF⟩, by simp [RowKit.intOf]; omega⟩
        · have hjk : j = k := by omega
          subst hjk
          have hstop : ¬ (j : Int) < (j : Int) := by omega
          go_wp2
          go_ret
          exact ⟨v, rfl, HR⟩
set_option maxRecDepth 100000 in
theorem Equal_any {w : World} {v u : Value} {l m : List Nat} (h : By w v l) (k : By w u m) : Calls Try.prog 50 #[v, u] w fun e w' => e = .returned (.bool (decide (l = m))) ∧ w' = w := by
  have c1 := conv_by h
  have c2 := conv_by k
  have key : ((ofN l).toList == (ofN m).toList) = decide (l = m) := by
    rw [Lib.toList_data, Lib.toList_data]
    by_cases e : l = m
    · rw [decide_eq_true e, e]; simp
    · rw [decide_eq_false e, ← Bool.not_eq_true]
      intro e2
      have e3 : (ofN l).data.toList = (ofN m).data.toList := eq_of_beq e2
      have e4 : sB (ofN l) = sB (ofN m) := by unfold sB; rw [e3]
      rw [sB_ofN h.bb, sB_ofN k.bb] at e4
      exact e e4
  generalize ofN l = s at *
  generalize ofN m = t at *
  obtain ⟨a, ca, rfl, _⟩ := h.form
  obtain ⟨b, cb, rfl, _⟩ := k.form
  generalize decide (l = m) = r at *
  clear h k
  generalize l.length = n1 at *
  generalize m.length = n2 at *
  go_enter Try.func50, Try.ntmps50
  go_wp2
  go_ret
  exact ⟨by first | rfl | (rw [← key]; rfl), rfl⟩
end Go.Proofs.Ytjnnecoikcmaeaa
