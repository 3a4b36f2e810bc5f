/-
  bin, the reference: Decode.
-/
import Derived.Test.YthadnogcocmfgabGreatDoorRfC
import Derived.Deep.RegionHeld
namespace Go.Proofs.YthadnogcocmfgabGreatDoor
set_option linter.unusedVariables false
set_option linter.unusedSimpArgs false
open Go.RowKit Go.Great Go.Lib

theorem takeD {P : Program} {md : Region.Mode} {ops : Array Oper} {Q : Exit → Act → World → Prop} {S : World → Prop} {i : Nat} {oi : Oper} {v : Value} {fuel : Nat} {listed : Array Bool} {a : Act} {w : World} (d : Option Tmp) (hi : ops[i]? = some oi) (hd : oi.dst = d)
    (hs : Region.noSelect ops = true) (hf : Region.free md ops listed i = true) (hr : (Region.ready md ops listed).contains i = true)
    (hQ : ∀ c a w, Q (.panic c) (a.put d v) w → Q (.panic c) a w) (hy : YieldsIf P ops S oi v a) (hS : S w)
    (h : wpAnyH P md ops Q S fuel (listed.setIfInBounds i true) (a.put d v) w) : wpAnyH P md ops Q S (fuel + 1) listed a w := by
  subst hd
  exact wpAnyH_take hi hs hf hr hQ hy hS h
theorem start_ten {l : List UInt8} (h10 : 10 ≤ l.length) (h0 : dL l 0 = 79) (h1 : dL l 1 = 67) : startE l = none := by
  unfold startE
  rw [if_neg (by omega), if_neg (by omega), if_neg (by omega)]
set_option maxRecDepth 100000 in
set_option maxHeartbeats 4000000 in
theorem refDecode_any (a : Option Addr) (g off n cap : Nat) (l : List UInt8) (w : World) (hn : n = l.length) (hcap : n ≤ cap) (hmax : n ≤ 140737488355000) (ha : n = 0 ∨ a = some ⟨g, off, none⟩) (hl : At w g off l) :
    Calls Tryz.prog 15 #[.slice a n cap] w fun e w' => e = .returned (.tuple #[.agg (decM l).cs, .int .i64 (plE (decE l)), .int .i64 (erE (decE l))]) ∧ Below w.heap.size w w' := by
  have HD : Hid ((∀ k e, decL l = .error (k, e) → decM l = zeroM ∧ plE (decE l) = (k : Int) ∧ erE (decE l) = e) ∧ ∀ M, decL l = .ok M → decM l = M ∧ plE (decE l) = 0 ∧ erE (decE l) = 0) :=
    ⟨fun k e h => by unfold decM decE plE erE; rw [h]; exact ⟨rfl, rfl, rfl⟩, fun M h => by unfold decM decE plE erE; rw [h]; exact ⟨rfl, rfl, rfl⟩⟩
  generalize decM l = DM at *
  generalize plE (decE l) = PL at *
  generalize erE (decE l) = ER at *
  have Hx : Hid (n = l.length ∧ At w g off l ∧ n ≤ cap ∧ n ≤ 140737488355000 ∧ (n = 0 ∨ a = some ⟨g, off, none⟩)) := ⟨hn, hl, hcap, hmax, ha⟩
  have HR0 : Hid (OwnM (w.alloc (.cells zeroM.cs 29)) w.heap.size zeroM ∧ Below w.heap.size w (w.alloc (.cells zeroM.cs 29)) ∧ w.heap.size < (w.alloc (.cells zeroM.cs 29)).heap.size) := ⟨heap_alloc_new w _, (Below.refl _ w).alloc (Nat.le_refl _) _, by simp⟩
  clear hn hcap hmax ha hl
  go_enter Tryz.func15, Tryz.ntmps15
  go_upto_region 0 with fail
  refine wp_region_lit ?_
  refine wpList_runTo rfl (some 2) rfl (.pointer (some ⟨w.heap.size, 0, none⟩)) (w.alloc (.cells zeroM.cs 29)) (by kernel_rfl) ?_
  generalize w.alloc (.cells zeroM.cs 29) = W0 at *
  refine wpList_runTo rfl (some 3) rfl (.int .i64 0) W0 (by kernel_rfl) ?_
  refine wpList_runTo rfl (some 4) rfl (.int .i64 0) W0 (by kernel_rfl) ?_
  refine wpList_nil ?_
  simp only [Act.put, List.setIfInBounds_toArray, List.set_cons_zero, List.set_cons_succ]
  go_upto_region 1 with fail
  refine wp_region_lit ?_
  refine wpList_build rfl _ _ rfl (by kernel_rfl) ?_
  refine wpList_runTo rfl (some 5) rfl (.pointer (some ⟨W0.heap.size, 0, none⟩)) (W0.alloc (.cells zeroM.cs 29)) (by kernel_rfl) ?_
  refine wpList_store_row rfl 29 (.tmp 5) (.tmp 20) rfl W0.heap.size zeroM.cs (by kernel_rfl) (by kernel_rfl) 29 _ (heap_alloc_new W0 _) (by kernel_rfl) rfl (by kernel_rfl) ?_
  rw [World.setRow_alloc_new]
  refine wpList_nil ?_
  simp only [Act.put, List.setIfInBounds_toArray, List.set_cons_zero, List.set_cons_succ]
  have HN : Hid (OwnM (W0.alloc (.cells zeroM.cs 29)) w.heap.size zeroM ∧ OwnM (W0.alloc (.cells zeroM.cs 29)) W0.heap.size zeroM ∧ Below w.heap.size w (W0.alloc (.cells zeroM.cs 29)) ∧ w.heap.size < W0.heap.size ∧ At (W0.alloc (.cells zeroM.cs 29)) g off l) := by
    have h01 : Below W0.heap.size W0 (W0.alloc (.cells zeroM.cs 29)) := (Below.refl _ W0).alloc (Nat.le_refl _) _
    have hw1 : Below w.heap.size w (W0.alloc (.cells zeroM.cs 29)) := HR0.out.2.1.trans (h01.mono HR0.out.2.1.size)
    exact ⟨HR0.out.1.low h01, heap_alloc_new W0 _, hw1, HR0.out.2.2, Hx.out.2.1.below hw1 (Nat.le_refl _)⟩
  clear HR0
  generalize W0.heap.size = nB at *
  generalize W0.alloc (.cells zeroM.cs 29) = W1 at *
  have HC : Hid (∀ j, j < n → W1.cell? ⟨g, off + j, none⟩ = some (.int .u8 ((dL l j : Nat) : Int)) ∧ dL l j < 256) := fun j hj => by
    obtain ⟨c, hc, ec⟩ := dL_at (show j < l.length by rw [← Hx.out.1]; exact hj)
    exact ⟨by rw [ec]; exact HN.out.2.2.2.2 j c hc, dL_lt _ _⟩
  by_cases b0 : 0 < n ∧ dL l 0 ≠ 79
  · skip
    obtain ⟨b0, b1⟩ := b0
    obtain rfl : a = some ⟨g, off, none⟩ := by
      rcases Hx.out.2.2.2.2 with h | h
      · omega
      · exact h
    have HDM : Hid (DM = zeroM ∧ PL = 0 ∧ ER = 40) := HD.out.1 0 40 (by unfold decL startE; rw [if_pos ⟨by have := Hx.out.1; omega, b1⟩])
    have hc0 := (HC.out 0 b0).1
    rw [Nat.add_zero] at hc0
    have b0' : (0 : Int) < (n : Int) := by omega
    have b1' : (((dL l 0 : Nat) : Int) != 79) = true := by simp; omega
    generalize dL l 0 = d0 at *
    go_upto_region 3 with fail
    rename_i K hK
    refine wp_region_lit ?_
    refine wpList_loadM HN.out.2.1 (.tmp 5) rfl rfl rfl ?_
    refine wpList_store_row rfl 29 (.tmp 2) (.tmp 31) rfl w.heap.size zeroM.cs (by kernel_rfl) (by kernel_rfl) 29 _ HN.out.1 (by kernel_rfl) rfl (by kernel_rfl) ?_
    refine wpList_runTo rfl (some 3) rfl (.int .i64 0) (W1.setRow w.heap.size zeroM.cs) (by kernel_rfl) ?_
    refine wpList_runTo rfl (some 4) rfl (.int .i64 40) (W1.setRow w.heap.size zeroM.cs) (by kernel_rfl) ?_
    refine wpList_nil ?_
    refine hK _ _ ?_
    apply wp_ret
    try simp only [Exit.inBlock, Exit.then]
    refine bodyPost_ret (results_cr3 (fn := Tryz.f15) (p := 2) (u := 3) (v := 4) (ty := 29) rfl _ _ w.heap.size 29 zeroM.cs (0, 0) _ (by kernel_rfl) (setRow_heap _ _ _ _ _ _ HN.out.1) Tryz.underlying29 rfl (by kernel_rfl)) (by kernel_rfl) ?_
    exact ⟨by rw [HDM.out.1, HDM.out.2.1, HDM.out.2.2]; kernel_rfl, below_setRow HN.out.2.2.1 (Nat.le_refl _) _⟩
  · by_cases b2 : 1 < n ∧ dL l 1 ≠ 67
    · skip
      obtain ⟨b2, b3⟩ := b2
      have hd0 : dL l 0 = 79 := Classical.byContradiction fun h => b0 ⟨by omega, h⟩
      obtain rfl : a = some ⟨g, off, none⟩ := by
        rcases Hx.out.2.2.2.2 with h | h
        · omega
        · exact h
      have HDM : Hid (DM = zeroM ∧ PL = 1 ∧ ER = 40) := HD.out.1 1 40 (by unfold decL startE; rw [if_neg (fun h => h.2 hd0), if_pos ⟨by have := Hx.out.1; omega, b3⟩])
      have hc0 : W1.cell? ⟨g, off, none⟩ = some (.int .u8 79) := by have := (HC.out 0 (by omega)).1; rw [hd0] at this; exact this
      have hc1 := (HC.out 1 b2).1
      have b0' : (0 : Int) < (n : Int) := by omega
      have b0n : 0 < n := by omega
      have b2' : (1 : Int) < (n : Int) := by omega
      have b3' : (((dL l 1 : Nat) : Int) != 67) = true := by simp; omega
      generalize dL l 1 = d1 at *
      clear b0 hd0
      go_upto_region 5 with fail
      rename_i K hK
      refine wp_region_lit ?_
      refine wpList_loadM HN.out.2.1 (.tmp 5) rfl rfl rfl ?_
      refine wpList_store_row rfl 29 (.tmp 2) (.tmp 42) rfl w.heap.size zeroM.cs (by kernel_rfl) (by kernel_rfl) 29 _ HN.out.1 (by kernel_rfl) rfl (by kernel_rfl) ?_
      refine wpList_runTo rfl (some 3) rfl (.int .i64 1) (W1.setRow w.heap.size zeroM.cs) (by kernel_rfl) ?_
      refine wpList_runTo rfl (some 4) rfl (.int .i64 40) (W1.setRow w.heap.size zeroM.cs) (by kernel_rfl) ?_
      refine wpList_nil ?_
      refine hK _ _ ?_
      apply wp_ret
      try simp only [Exit.inBlock, Exit.then]
      refine bodyPost_ret (results_cr3 (fn := Tryz.f15) (p := 2) (u := 3) (v := 4) (ty := 29) rfl _ _ w.heap.size 29 zeroM.cs (0, 0) _ (by kernel_rfl) (setRow_heap _ _ _ _ _ _ HN.out.1) Tryz.underlying29 rfl (by kernel_rfl)) (by kernel_rfl) ?_
      exact ⟨by rw [HDM.out.1, HDM.out.2.1, HDM.out.2.2]; kernel_rfl, below_setRow HN.out.2.2.1 (Nat.le_refl _) _⟩
    · by_cases b4 : n < 10
      · skip
        have HDM : Hid (DM = zeroM ∧ PL = (n : Int) ∧ ER = 40) := by
          have hnl := Hx.out.1
          have := HD.out.1 l.length 40 (by unfold decL startE; rw [if_neg (fun h => b0 ⟨by omega, h.2⟩), if_neg (fun h => b2 ⟨by omega, h.2⟩), if_pos (by omega)])
          rw [← hnl] at this
          exact this
        have hcs : n = 0 ∨ n = 1 ∨ 2 ≤ n := by omega
        rcases hcs with rfl | rfl | h2
        · clear b0 b2
          go_upto_region 7 with fail
          rename_i K hK
          refine wp_region_lit ?_
          refine wpList_loadM HN.out.2.1 (.tmp 5) rfl rfl rfl ?_
          refine wpList_runTo rfl (some 48) rfl (.slice a 0 cap) W1 (by kernel_rfl) ?_
          refine wpList_runTo rfl (some 49) rfl (.int .i64 0) W1 (by kernel_rfl) ?_
          refine wpList_store_row rfl 29 (.tmp 2) (.tmp 47) rfl w.heap.size zeroM.cs (by kernel_rfl) (by kernel_rfl) 29 _ HN.out.1 (by kernel_rfl) rfl (by kernel_rfl) ?_
          refine wpList_runTo rfl (some 3) rfl (.int .i64 0) (W1.setRow w.heap.size zeroM.cs) (by kernel_rfl) ?_
          refine wpList_runTo rfl (some 4) rfl (.int .i64 40) (W1.setRow w.heap.size zeroM.cs) (by kernel_rfl) ?_
          refine wpList_nil ?_
          refine hK _ _ ?_
          apply wp_ret
          try simp only [Exit.inBlock, Exit.then]
          refine bodyPost_ret (results_cr3 (fn := Tryz.f15) (p := 2) (u := 3) (v := 4) (ty := 29) rfl _ _ w.heap.size 29 zeroM.cs (0, 0) _ (by kernel_rfl) (setRow_heap _ _ _ _ _ _ HN.out.1) Tryz.underlying29 rfl (by kernel_rfl)) (by kernel_rfl) ?_
          exact ⟨by rw [HDM.out.1, HDM.out.2.1, HDM.out.2.2]; kernel_rfl, below_setRow HN.out.2.2.1 (Nat.le_refl _) _⟩
        · have hd0 : dL l 0 = 79 := Classical.byContradiction fun h => b0 ⟨by omega, h⟩
          obtain rfl : a = some ⟨g, off, none⟩ := by
            rcases Hx.out.2.2.2.2 with h | h
            · omega
            · exact h
          have hc0 : W1.cell? ⟨g, off, none⟩ = some (.int .u8 79) := by have := (HC.out 0 (by omega)).1; rw [hd0] at this; exact this
          clear b0 b2 hd0
          go_upto_region 7 with fail
          rename_i K hK
          refine wp_region_lit ?_
          refine wpList_loadM HN.out.2.1 (.tmp 5) rfl rfl rfl ?_
          refine wpList_runTo rfl (some 48) rfl (.slice (some ⟨g, off, none⟩) 1 cap) W1 (by kernel_rfl) ?_
          refine wpList_runTo rfl (some 49) rfl (.int .i64 1) W1 (by kernel_rfl) ?_
          refine wpList_store_row rfl 29 (.tmp 2) (.tmp 47) rfl w.heap.size zeroM.cs (by kernel_rfl) (by kernel_rfl) 29 _ HN.out.1 (by kernel_rfl) rfl (by kernel_rfl) ?_
          refine wpList_runTo rfl (some 3) rfl (.int .i64 1) (W1.setRow w.heap.size zeroM.cs) (by kernel_rfl) ?_
          refine wpList_runTo rfl (some 4) rfl (.int .i64 40) (W1.setRow w.heap.size zeroM.cs) (by kernel_rfl) ?_
          refine wpList_nil ?_
          refine hK _ _ ?_
          apply wp_ret
          try simp only [Exit.inBlock, Exit.then]
          refine bodyPost_ret (results_cr3 (fn := Tryz.f15) (p := 2) (u := 3) (v := 4) (ty := 29) rfl _ _ w.heap.size 29 zeroM.cs (0, 0) _ (by kernel_rfl) (setRow_heap _ _ _ _ _ _ HN.out.1) Tryz.underlying29 rfl (by kernel_rfl)) (by kernel_rfl) ?_
          exact ⟨by rw [HDM.out.1, HDM.out.2.1, HDM.out.2.2]; kernel_rfl, below_setRow HN.out.2.2.1 (Nat.le_refl _) _⟩
        · have hd0 : dL l 0 = 79 := Classical.byContradiction fun h => b0 ⟨by omega, h⟩
          have hd1 : dL l 1 = 67 := Classical.byContradiction fun h => b2 ⟨by omega, h⟩
          obtain rfl : a = some ⟨g, off, none⟩ := by
            rcases Hx.out.2.2.2.2 with h | h
            · omega
            · exact h
          have hc0 : W1.cell? ⟨g, off, none⟩ = some (.int .u8 79) := by have := (HC.out 0 (by omega)).1; rw [hd0] at this; exact this
          have hc1 : W1.cell? ⟨g, off + 1, none⟩ = some (.int .u8 67) := by have := (HC.out 1 (by omega)).1; rw [hd1] at this; exact this
          have b0' : (0 : Int) < (n : Int) := by omega
          have b0n : 0 < n := by omega
          have b2' : (1 : Int) < (n : Int) := by omega
          have b2n : 1 < n := by omega
          have b4' : (n : Int) < 10 := by omega
          clear b0 b2 hd0 hd1
          go_upto_region 7 with fail
          rename_i K hK
          refine wp_region_lit ?_
          refine wpList_loadM HN.out.2.1 (.tmp 5) rfl rfl rfl ?_
          refine wpList_runTo rfl (some 48) rfl (.slice (some ⟨g, off, none⟩) n cap) W1 (by kernel_rfl) ?_
          refine wpList_runTo rfl (some 49) rfl (.int .i64 (n : Int)) W1 (by kernel_rfl) ?_
          refine wpList_store_row rfl 29 (.tmp 2) (.tmp 47) rfl w.heap.size zeroM.cs (by kernel_rfl) (by kernel_rfl) 29 _ HN.out.1 (by kernel_rfl) rfl (by kernel_rfl) ?_
          refine wpList_runTo rfl (some 3) rfl (.int .i64 (n : Int)) (W1.setRow w.heap.size zeroM.cs) (by kernel_rfl) ?_
          refine wpList_runTo rfl (some 4) rfl (.int .i64 40) (W1.setRow w.heap.size zeroM.cs) (by kernel_rfl) ?_
          refine wpList_nil ?_
          refine hK _ _ ?_
          apply wp_ret
          try simp only [Exit.inBlock, Exit.then]
          refine bodyPost_ret (results_cr3 (fn := Tryz.f15) (p := 2) (u := 3) (v := 4) (ty := 29) rfl _ _ w.heap.size 29 zeroM.cs (0, 0) _ (by kernel_rfl) (setRow_heap _ _ _ _ _ _ HN.out.1) Tryz.underlying29 rfl (by kernel_rfl)) (by kernel_rfl) ?_
          exact ⟨by rw [HDM.out.1, HDM.out.2.1, HDM.out.2.2]; kernel_rfl, below_setRow HN.out.2.2.1 (Nat.le_refl _) _⟩
      · have hd0 : dL l 0 = 79 := Classical.byContradiction fun h => b0 ⟨by omega, h⟩
        have hd1 : dL l 1 = 67 := Classical.byContradiction fun h => b2 ⟨by omega, h⟩
        have h10 : 10 ≤ n := by omega
        obtain rfl : a = some ⟨g, off, none⟩ := by
          rcases Hx.out.2.2.2.2 with h | h
          · omega
          · exact h
        have HS : Hid (startE l = none ∧ 10 ≤ n) := ⟨start_ten (by have := Hx.out.1; omega) hd0 hd1, h10⟩
        have hc0 : W1.cell? ⟨g, off, none⟩ = some (.int .u8 79) := by have := (HC.out 0 (by omega)).1; rw [hd0] at this; exact this
        have hc1 : W1.cell? ⟨g, off + 1, none⟩ = some (.int .u8 67) := by have := (HC.out 1 (by omega)).1; rw [hd1] at this; exact this
        have hc4 := (HC.out 4 (by omega)).1
        have hc5 := (HC.out 5 (by omega)).1
        have hz256 : dL l 4 < 256 := dL_lt _ _
        obtain ⟨z, hz⟩ : ∃ z, z = dL l 4 := ⟨_, rfl⟩
        obtain ⟨d5, h5⟩ : ∃ d, d = dL l 5 := ⟨_, rfl⟩
        rw [← hz] at hc4 hz256
        rw [← h5] at hc5
        have HZ : Hid (dL l 4 = z ∧ dL l 5 = d5) := ⟨hz.symm, h5.symm⟩
        have hwr1 : IntKind.i64.wrap ((z : Nat) : Int) = ((z : Nat) : Int) := by rw [IntKind.wrap_i64]; omega
        have b0' : (0 : Int) < (n : Int) := by omega
        have b0n : 0 < n := by omega
        have b2' : (1 : Int) < (n : Int) := by omega
        have b2n : 1 < n := by omega
        have b4' : ¬ (n : Int) < 10 := by omega
        have b5' : (4 : Int) < (n : Int) := by omega
        have b5n : 4 < n := by omega
        have b6' : (5 : Int) < (n : Int) := by omega
        have b6n : 5 < n := by omega
        clear b0 b2 hd0 hd1 b4 hz h5
        go_upto_region 9 with fail
        clear hc0 hc1 hc4 hwr1
        by_cases hK : isK (z : Int) = true
        · have hk2 : 1 ≤ (z : Int) ∧ (z : Int) ≤ 17 := by simpa [isK] using hK
          have hk3 : ¬ (z : Int) < 1 := by omega
          have hk4 : ¬ 17 < (z : Int) := by omega
          have hsz := size_eq hK
          have HE : Hid (∀ x, headE l (sizeN (z : Int)) = some x → decL l = .error x) := fun x hx => by unfold decL; rw [HS.out.1]; dsimp only; rw [HZ.out.1, hx]
          have HK : Hid (isK (z : Int) = true ∧ sizeN (z : Int) = 10 + (wS (js (z : Int)) + 7) / 8 * 8 ∧ sizeN (z : Int) ≤ 418 ∧ z < 256) := ⟨hK, hsz.1, hsz.2.1, hz256⟩
          have hs0 : sizeN (z : Int) ≠ 0 := by omega
          clear hK hsz hk2
          by_cases e5 : d5 = 1
          · subst e5
            have hS1 := small_any (some ⟨g, off + 2, none⟩) 2 (cap - 2) (dL (l.drop 2)) W1 (by decide) (.inr ⟨g, off + 2, rfl, fun j hj => (HN.out.2.2.2.2.drop 2).row j (by rw [List.length_drop]; have := Hx.out.1; omega)⟩)
            have hG1 := getN_lt2 (dL (l.drop 2)) 2 (dL_lt _) (by decide)
            generalize hg1 : getN (dL (l.drop 2)) 2 = G1 at *
            have xw : IntKind.u64.wrap (n : Int) = (n : Int) := by rw [IntKind.wrap_u64]; have := Hx.out.2.2.2.1; omega
            have y1 : (4 : Int) ≤ (cap : Int) := by have := Hx.out.2.2.1; omega
            have y2 : ¬ cap = 2 := by have := Hx.out.2.2.1; omega
            have y3 : (10 : Int) ≤ (cap : Int) := by have := Hx.out.2.2.1; omega
            have y4 : ¬ cap = 6 := by have := Hx.out.2.2.1; omega
            go_wp2_with (go_at_call 29; fail)
            refine hS1.mono ?_
            rintro e w2 ⟨rfl, rfl⟩
            by_cases e1 : G1 = n
            · subst e1
              go_wp2_with (go_at_call 5; fail)
              refine (refSizeOf_any (z : Int) w2).mono ?_
              rintro e w3 ⟨rfl, hb3⟩
              have HN3 : Hid (OwnM w3 w.heap.size zeroM ∧ OwnM w3 nB zeroM ∧ Below w.heap.size w w3 ∧ w.heap.size < nB ∧ At w3 g off l) := ⟨HN.out.1.low hb3, HN.out.2.1.low hb3, HN.out.2.2.1.trans (hb3.mono HN.out.2.2.1.size), HN.out.2.2.2.1, HN.out.2.2.2.2.below hb3 (Nat.le_refl _)⟩
              clear HN HC hb3 hc5 hS1
              have HN := HN3
              clear HN3
              by_cases e2 : G1 = sizeN (z : Int)
              · have hS2 := small_any (some ⟨g, off + 6, none⟩) 4 (cap - 6) (dL (l.drop 6)) w3 (by decide) (.inr ⟨g, off + 6, rfl, fun j hj => (HN.out.2.2.2.2.drop 6).row j (by rw [List.length_drop]; have := Hx.out.1; omega)⟩)
                have HCr : Hid (Unit → _) := fun _ => refcrc_any g off G1 cap l w3 Hx.out.1 HS.out.2 Hx.out.2.2.2.1 Hx.out.2.2.1 HN.out.2.2.2.2
                have hG2 := getN_lt2 (dL (l.drop 6)) 4 (dL_lt _) (by decide)
                have hcr := crcL_lt (l.take 6 ++ l.drop 10)
                have HHe : Hid (headE l (sizeN (z : Int)) = if getN (dL (l.drop 6)) 4 ≠ crcL (l.take 6 ++ l.drop 10) then some (6, 44) else none) := by
                  show headE l (sizeN (z : Int)) = _
                  unfold headE
                  rw [if_neg hs0, if_neg (by rw [HZ.out.2]; simp), if_neg (by rw [hg1, ← Hx.out.1]; simp), if_neg (by rw [← Hx.out.1]; simpa using e2)]
                have HES : Hid (G1 = sizeN (z : Int)) := e2
                have e2b : ((G1 : Int) != ((sizeN (z : Int) : Nat) : Int)) = false := by simp; omega
                clear e2
                generalize getN (dL (l.drop 6)) 4 = G2 at *
                generalize crcL (l.take 6 ++ l.drop 10) = CR at *
                go_wp2_with (go_at_call 29; fail)
                refine hS2.mono ?_
                rintro e w4 ⟨rfl, rfl⟩
                go_wp2_with (go_at_call 17; fail)
                refine (HCr.out ()).mono ?_
                rintro e w5 ⟨rfl, hb5⟩
                have HN5 : Hid (OwnM w5 w.heap.size zeroM ∧ OwnM w5 nB zeroM ∧ Below w.heap.size w w5 ∧ w.heap.size < nB ∧ At w5 g off l) := ⟨HN.out.1.low hb5, HN.out.2.1.low hb5, HN.out.2.2.1.trans (hb5.mono HN.out.2.2.1.size), HN.out.2.2.2.1, HN.out.2.2.2.2.below hb5 (Nat.le_refl _)⟩
                clear HN hb5 hS2 HCr
                have HN := HN5
                clear HN5
                have hwC : IntKind.u64.wrap (CR : Int) = (CR : Int) := by rw [IntKind.wrap_u64]; omega
                by_cases e3 : G2 = CR
                · subst e3
                  have HH : Hid (headE l (sizeN (z : Int)) = none) := by have := HHe.out; rw [if_neg (by simp)] at this; exact this
                  have HDL : Hid (∀ x, rdL l (js (z : Int)) 10 (kindM (z : Int)) = .error x → decL l = .error x) := fun x hx => by unfold decL; rw [HS.out.1]; dsimp only; rw [HZ.out.1, HH.out]; dsimp only; rw [hx]
                  have HDO : Hid (∀ M, rdL l (js (z : Int)) 10 (kindM (z : Int)) = .ok M → decL l = if valE M = 0 then .ok M else .error (plcN (valN M) (js (z : Int)) 10, valE M)) := fun M hM => by unfold decL; rw [HS.out.1]; dsimp only; rw [HZ.out.1, HH.out]; dsimp only; rw [hM]
                  clear HHe HE hG1 hG2 hcr hs0
                  have Hgl : Hid (g < w.heap.size) := by
                    obtain ⟨c0, hc0, _⟩ := dL_at (show 0 < l.length by have := Hx.out.1; have := HS.out.2; omega)
                    exact World.block_lt_of_cell? _ _ (Hx.out.2.1 0 c0 hc0)
                  have HJ : Hid (js (z : Int) ≠ [] ∧ 10 + wS (js (z : Int)) ≤ G1 ∧ G1 ≤ 418) := by
                    have h1 := HK.out.2.1
                    have h2 := HK.out.2.2.1
                    have h3 := HES.out
                    refine ⟨(js_yes HK.out.1).1, ?_, ?_⟩ <;> omega
                  have Hnl : Hid (G1 = l.length ∧ G1 ≤ cap ∧ z < 256 ∧ isK (z : Int) = true) := ⟨Hx.out.1, Hx.out.2.2.1, HK.out.2.2.2, HK.out.1⟩
                  clear HH HES HK HZ HS hz256 xw y1 y2 y3 y4 h10 Hx e2b
                  go_upto_region 19 with fail
                  refine wp_region_lit ?_
                  refine wpList_runTo rfl (some 93) rfl (.int .i64 (z : Int)) w5 (by kernel_rfl) ?_
                  refine wpList_runTo rfl (some 94) rfl (.agg (kindM (z : Int)).cs) w5 (by kernel_rfl) ?_
                  refine wpList_runTo rfl (some 7) rfl (.pointer (some ⟨w5.heap.size, 0, none⟩)) (w5.alloc (.cells zeroM.cs 29)) (by kernel_rfl) ?_
                  refine wpList_store_row rfl 29 (.tmp 7) (.tmp 94) rfl w5.heap.size (kindM (z : Int)).cs (by rfl) (by rfl) 29 _ (heap_alloc_new w5 _) (by rw [Msg.cs_size]; kernel_rfl) (by rw [Msg.cs_size]; kernel_rfl) (Msg.cs_one _) ?_
                  rw [World.setRow_alloc_new]
                  refine wpList_nil ?_
                  simp only [Act.put, List.setIfInBounds_toArray, List.set_cons_zero, List.set_cons_succ]
                  have HO6 : Hid (OwnM (w5.alloc (.cells (kindM (z : Int)).cs 29)) w5.heap.size (kindM (z : Int)) ∧ Below w5.heap.size w5 (w5.alloc (.cells (kindM (z : Int)).cs 29))) := ⟨heap_alloc_new w5 _, (Below.refl _ w5).alloc (Nat.le_refl _) _⟩
                  generalize w5.alloc (.cells (kindM (z : Int)).cs 29) = w6 at *
                  generalize hKC : (kindM (z : Int)).cs = KC at *
                  clear hKC
                  go_wp2_with (go_at_call 11; fail)
                  refine (Fields_any (z : Int) w6).mono ?_
                  rintro e w7 ⟨v, B, rfl, hB, ho, hb7⟩
                  obtain ⟨aF, cF, rfl⟩ := own_formR ho
                  obtain ⟨nf, hnf⟩ : ∃ nf, nf = (js (z : Int)).length := ⟨_, rfl⟩
                  rw [← hnf]
                  obtain ⟨gF, rfl, hgF, hcF⟩ : ∃ gF, aF = some ⟨gF, 0, none⟩ ∧ B ≤ gF ∧ nf ≤ cF := by
                    rcases ho.2 with ⟨_, h0⟩ | ⟨gF, cF', cur, e1, e2, _, e4, _⟩
                    · exact absurd (List.length_eq_zero_iff.1 h0) HJ.out.1
                    · injection e1 with e1 _ e3
                      subst e1
                      exact ⟨gF, rfl, e2, by rw [hnf, e3]; exact e4⟩
                  have HL : Hid (nf = (js (z : Int)).length ∧ w5.heap.size < gF ∧ ∀ k j, (js (z : Int))[k]? = some j → w7.cell? ⟨gF, k, none⟩ = some (.int .i64 (tNum.getD j 0)) ∧ 1 ≤ j ∧ j < 42) := by
                    refine ⟨hnf, by have := HO6.out.1.lt; omega, fun k j hkj => ?_⟩
                    have hc := ho.cells (g := gF) rfl k (.int .i64 (tNum.getD j 0)) (by simp [tagV, hkj])
                    rw [addr_add, Nat.zero_add] at hc
                    have hm := mem_js.1 (List.mem_of_getElem? hkj)
                    exact ⟨hc, hm.1, by omega⟩
                  have hnf41 : nf ≤ 41 := by rw [hnf]; exact jsU_len (z : Int) 41
                  have HN7 : Hid (OwnM w7 w.heap.size zeroM ∧ OwnM w7 nB zeroM ∧ Below w.heap.size w w7 ∧ w.heap.size < nB ∧ At w7 g off l ∧ OwnM w7 w5.heap.size (kindM (z : Int)) ∧ nB < w5.heap.size ∧ g < w.heap.size ∧ w5.heap.size < w7.heap.size) := by
                    have h57 : Below w5.heap.size w5 w7 := HO6.out.2.trans (hb7.mono HO6.out.2.size)
                    exact ⟨HN.out.1.low h57, HN.out.2.1.low h57, HN.out.2.2.1.trans (h57.mono HN.out.2.2.1.size), HN.out.2.2.2.1, HN.out.2.2.2.2.below h57 (Nat.le_refl _), HO6.out.1.low hb7, HN.out.2.1.lt, Hgl.out, Nat.lt_of_lt_of_le HO6.out.1.lt hb7.size⟩
                  clear HN HO6 ho hb7 hB hgF hnf
                  generalize w5.heap.size = mB at *
                  have HWr : Hid (∀ wr, Wrt mB w7 wr → OwnM wr w.heap.size zeroM ∧ OwnM wr nB zeroM ∧ Below w.heap.size w wr ∧ At wr g off l) := fun wr hw => by
                    have h1 := HN7.out.2.2.2.1
                    have h2 := HN7.out.2.2.2.2.2.2.1
                    have h3 := HN7.out.2.2.2.2.2.2.2.1
                    exact ⟨(hw.other _ HN7.out.1.lt (by omega)).trans HN7.out.1, (hw.other _ HN7.out.2.1.lt (by omega)).trans HN7.out.2.1, HN7.out.2.2.1.trans (hw.below.mono (by omega)), HN7.out.2.2.2.2.1.wrt hw (by omega)⟩
                  have HWt : Hid (∀ wr, Wrt mB w7 wr → ∀ k j, (js (z : Int))[k]? = some j → wr.cell? ⟨gF, k, none⟩ = some (.int .i64 (tNum.getD j 0)) ∧ 1 ≤ j ∧ j < 42) := fun wr hw k j hkj => by
                    obtain ⟨a1, a2⟩ := HL.out.2.2 k j hkj
                    exact ⟨hw.cell a1 (by have := HL.out.2.1; show gF ≠ mB; omega), a2⟩
                  obtain ⟨i0, hi, hz0, hz1, hz2⟩ := info_parts info3
                  go_wp2
                  go_loopw [9, 10, 11, 12, 13, 14, 15, 16] (fun x9 x10 x11 x12 x13 x14 x15 x16 wr => ∃ (k A : Nat) (ap : Option Addr) (cp : Nat) (M : Msg), k ≤ nf ∧ x11 = .int .i64 (k : Int) ∧ x10 = .int .i64 (A : Int) ∧ x9 = .slice ap k cp ∧ Hid (A = 10 + wS ((js (z : Int)).take k) ∧ rdL l (js (z : Int)) 10 (kindM (z : Int)) = rdL l ((js (z : Int)).drop k) A M ∧ OwnM wr mB M ∧ Wrt mB w7 wr ∧ wr.ownsRow w7.heap.size 3 1 (.slice ap k cp) k (plV (js (z : Int)) k))) (fun _ _ x11 _ _ _ _ _ _ => nf - (RowKit.intOf x11).toNat)
                  case atStart => exact ⟨0, 10, none, 0, kindM (z : Int), Nat.zero_le _, rfl, rfl, rfl, rfl, rfl, HN7.out.2.2.2.2.2.1, Wrt.refl _, ⟨rfl, .inl ⟨rfl, rfl⟩⟩⟩
                  case round =>
                    obtain ⟨k, A, ap, cp, M, hk, rfl, rfl, rfl, HR⟩ := hrel
                    by_cases hlt : k < nf
                    · have hlt' : (k : Int) < (nf : Int) := by omega
                      obtain ⟨j, hj⟩ : ∃ j, (js (z : Int))[k]? = some j := ⟨_, List.getElem?_eq_getElem (by rw [← HL.out.1]; exact hlt)⟩
                      obtain ⟨hcl, j1, j42⟩ := HWt.out wr HR.out.2.2.2.1 k j hj
                      have HSz : Hid (Unit → _) := fun _ => refSize_any j j1 j42 wr
                      have hAw : A + wd j ≤ G1 := by
                        have h1 := wS_take_succ hj
                        have h2 := wS_take_le (js (z : Int)) (k + 1)
                        have h3 := HR.out.1
                        have h4 := HJ.out.2.1
                        omega
                      have HA2 : Hid (A + wd j = 10 + wS ((js (z : Int)).take (k + 1))) := by
                        have h1 := wS_take_succ hj
                        have h3 := HR.out.1
                        show _ = _
                        omega
                      have HRd : Hid (rdL l (js (z : Int)) 10 (kindM (z : Int)) = match rdF j ((l.drop A).take (wd j)) M with
                          | .error (i, e) => .error (A + i, e)
                          | .ok M' => rdL l ((js (z : Int)).drop (k + 1)) (A + wd j) M') := HR.out.2.1.trans (rdL_at hj)
                      have hw1 := wd_ge j42
                      have hw60 := wd_le j
                      have hA418 : A ≤ 418 := by have := HJ.out.2.2; omega
                      have hAc : A + wd j ≤ cap := by have := Hnl.out.2.1; omega
                      have f1 : (A : Int) + ((wd j : Nat) : Int) ≤ (cap : Int) := by omega
                      have f2 : (A : Int) ≤ (A : Int) + ((wd j : Nat) : Int) := by omega
                      have f3 : ¬ cap = A := by omega
                      have hbl : ((l.drop A).take (wd j)).length = wd j := by rw [List.length_take, List.length_drop, ← Hnl.out.1]; omega
                      have hbd : ∀ i, i < wd j → dL ((l.drop A).take (wd j)) i = dL l (A + i) := fun i hi => by rw [dL_take hi, dL_drop]
                      have HPl : Hid (plV (js (z : Int)) (k + 1) = plV (js (z : Int)) k ++ [.int .i64 (A : Int)]) := by rw [HR.out.1]; exact plV_succ _ _
                      have hnew : Hid (∀ i u, [Value.int .i64 (A : Int)][i]? = some u → (wr.alloc (.cells #[.int .i64 (A : Int)] 3)).cell? ((⟨wr.heap.size, 0, none⟩ : Addr).add i) = some u) := cell_one_new wr (.int .i64 (A : Int)) 3
                      have HRw : Hid (∀ v8 w8, w8.ownsRow w7.heap.size 3 1 v8 (k + 1) (plV (js (z : Int)) k ++ [.int .i64 (A : Int)]) → (wr.alloc (.cells #[.int .i64 (A : Int)] 3)).grownBy w8 (Value.slice ap k cp).ownBlock → Wrt mB w7 w8 ∧ OwnM w8 mB M ∧ w8.ownsRow w7.heap.size 3 1 v8 (k + 1) (plV (js (z : Int)) (k + 1))) := fun v8 w8 h8 g8 => by
                        have hb0 : Below w7.heap.size wr (wr.alloc (.cells #[.int .i64 (A : Int)] 3)) := (Below.refl _ wr).alloc HR.out.2.2.2.1.size _
                        have hb8 : Below w7.heap.size wr w8 := below_grownBy hb0 g8 HR.out.2.2.2.1.size (fun q hq => (HR.out.2.2.2.2.lt q hq).1)
                        exact ⟨HR.out.2.2.2.1.lowB HN7.out.2.2.2.2.2.2.2.2 hb8, HR.out.2.2.1.below hb8 HN7.out.2.2.2.2.2.2.2.2, by rw [HPl.out]; exact h8⟩
                      cases hs : isStr j
                      · cases hb : isBoo j
                        · skip
                          rw [how_num j42 hs hb] at HSz
                          generalize hTT : tNum.getD j 0 = TT at *
                          generalize hww : wd j = ww at *
                          go_wp2_with (go_at_call 12; fail)
                          refine (HSz.out ()).mono ?_
                          rintro e w3 ⟨rfl, rfl⟩
                          go_upto_region 29 with (at_builtin; refine wpList_append_own _ rfl _ _ 37 rfl w7.heap.size 3 i0 (.int .i64 0) 1 8 Tryz.underlying37 hi hz0 hz1 hz2 rfl (by decide) _ k (plV (js (z : Int)) k) rfl (HR.out.2.2.2.2.alloc _) ⟨w3.heap.size, 0, none⟩ 1 1 [.int .i64 (A : Int)] rfl rfl hnew.out (fun x hx => by simp at hx; subst hx; rfl) (by unfold maxLen; omega) (by omega) (by have := HR.out.2.2.2.1.size; simp; omega) ?_; intro v8 w8 hown8 hgrow8 hnil8)
                          obtain ⟨a8, c8, rfl⟩ := own_formR hown8
                          have HQ : Hid (Wrt mB w7 w8 ∧ OwnM w8 mB M ∧ w8.ownsRow w7.heap.size 3 1 (.slice a8 (k + 1) c8) (k + 1) (plV (js (z : Int)) (k + 1))) := HRw.out _ _ hown8 hgrow8
                          clear hown8 hgrow8 hnil8 HRw HSz hnew HR hcl
                          subst hww
                          subst hTT
                          have HWc : Hid (∀ wq, Wrt mB w7 wq → wq.cell? ⟨gF, k, none⟩ = some (.int .i64 (tNum.getD j 0))) := fun wq hq => (HWt.out wq hq k j hj).1
                          have e : rdF j ((l.drop A).take (wd j)) M = .ok (M.setZ j (wr64 (getN (dL ((l.drop A).take (wd j))) (wd j)))) := by simp [rdF, hs, hb]
                          rw [e] at HRd
                          have hwn := wd_num j42 hs
                          have HSm : Hid (∀ wq, Wrt mB w7 wq → _) := fun wq hq => small_any (some ⟨g, off + A, none⟩) (wd j) (cap - A) (dL ((l.drop A).take (wd j))) wq hwn.2 (((((HWr.out wq hq).2.2.2).drop A).take (wd j)).src (wd j) hbl.symm)
                          have hu := getN_lt2 (dL ((l.drop A).take (wd j))) (wd j) (dL_lt _) hwn.2
                          have HPt : Hid (∀ wq, OwnM wq mB M → _) := fun wq hq => Put_num M j j1 j42 hs hb (getN (dL ((l.drop A).take (wd j))) (wd j)) hu mB wq hq
                          generalize getN (dL ((l.drop A).take (wd j))) (wd j) = U at *
                          generalize tNum.getD j 0 = TT at *
                          generalize wd j = ww at *
                          have hcl := HWc.out w8 HQ.out.1
                          go_upto_region 45 with fail
                          have hW8 : Wrt mB w7 w8.drew := HQ.out.1.lowB HN7.out.2.2.2.2.2.2.2.2 (below_drewN (Below.refl _ _) 1)
                          have hO8 : OwnM w8.drew mB M := HQ.out.2.1
                          go_region_held3 (fun w' => w'.cell? ⟨gF, k, none⟩ = some (.int .i64 TT)) (first | exact HWc.out _ HP9.out.1 | exact HWc.out _ hW8) (first
                            | (go_at_call 29; refine (HSm.out _ hW8).mono ?_; rintro e w9 ⟨rfl, rfl⟩)
                            | (go_at_call 30; refine (HPt.out _ hO8).mono ?_; rintro e w9 ⟨rfl, ho9, hw9⟩; have HP9 : Hid (Wrt mB w7 w9 ∧ OwnM w9 mB (M.setZ j (wr64 U)) ∧ w9.ownsRow w7.heap.size 3 1 (.slice a8 (k + 1) c8) (k + 1) (plV (js (z : Int)) (k + 1))) := ⟨hW8.trans hw9, ho9, row_keep (w := w8.drew) HQ.out.2.2 (fun b h1 h2 => hw9.other b h2 (by have := HN7.out.2.2.2.2.2.2.2.2; omega))⟩; clear ho9 hw9))
                          all_goals go_wp2
                          all_goals exact ⟨⟨k + 1, A + ww, a8, c8, M.setZ j (wr64 U), by omega, by go_num, by go_num, rfl, HA2.out, HRd.out, HP9.out.2.1, HP9.out.1, HP9.out.2.2⟩, by simp [RowKit.intOf]; omega⟩
                        · skip
                          rw [how_boo j42 hb] at HSz
                          generalize hTT : tNum.getD j 0 = TT at *
                          generalize hww : wd j = ww at *
                          go_wp2_with (go_at_call 12; fail)
                          refine (HSz.out ()).mono ?_
                          rintro e w3 ⟨rfl, rfl⟩
                          go_upto_region 29 with (at_builtin; refine wpList_append_own _ rfl _ _ 37 rfl w7.heap.size 3 i0 (.int .i64 0) 1 8 Tryz.underlying37 hi hz0 hz1 hz2 rfl (by decide) _ k (plV (js (z : Int)) k) rfl (HR.out.2.2.2.2.alloc _) ⟨w3.heap.size, 0, none⟩ 1 1 [.int .i64 (A : Int)] rfl rfl hnew.out (fun x hx => by simp at hx; subst hx; rfl) (by unfold maxLen; omega) (by omega) (by have := HR.out.2.2.2.1.size; simp; omega) ?_; intro v8 w8 hown8 hgrow8 hnil8)
                          obtain ⟨a8, c8, rfl⟩ := own_formR hown8
                          have HQ : Hid (Wrt mB w7 w8 ∧ OwnM w8 mB M ∧ w8.ownsRow w7.heap.size 3 1 (.slice a8 (k + 1) c8) (k + 1) (plV (js (z : Int)) (k + 1))) := HRw.out _ _ hown8 hgrow8
                          clear hown8 hgrow8 hnil8 HRw HSz hnew HR hcl
                          subst hww
                          subst hTT
                          have HWc : Hid (∀ wq, Wrt mB w7 wq → wq.cell? ⟨gF, k, none⟩ = some (.int .i64 (tNum.getD j 0))) := fun wq hq => (HWt.out wq hq k j hj).1
                          have hwj := wd_boo j42 hb
                          have hd0 := hbd 0 (by omega)
                          rw [Nat.add_zero] at hd0
                          have hca : w8.cell? ⟨g, off + A, none⟩ = some (.int .u8 ((dL l A : Nat) : Int)) := by
                            obtain ⟨c, hc, ec⟩ := dL_at (show A < l.length by have := Hnl.out.1; omega)
                            rw [ec]; exact (HWr.out w8 HQ.out.1).2.2.2 A c hc
                          by_cases hgt : 1 < dL l A
                          · skip
                            have e : rdF j ((l.drop A).take (wd j)) M = .error (0, 42) := by unfold rdF; rw [if_neg (by rw [hs]; decide), if_pos hb, hd0, if_pos hgt]
                            rw [e] at HRd
                            have HDM : Hid (DM = zeroM ∧ PL = (A : Int) ∧ ER = 42) := HD.out.1 A 42 (HDL.out _ HRd.out)
                            have HN : Hid (OwnM w8 w.heap.size zeroM ∧ OwnM w8 nB zeroM ∧ Below w.heap.size w w8 ∧ True) := ⟨(HWr.out w8 HQ.out.1).1, (HWr.out w8 HQ.out.1).2.1, (HWr.out w8 HQ.out.1).2.2.1, trivial⟩
                            have hgt' : 1 < ((dL l A : Nat) : Int) := by omega
                            have hw1' : (0 : Int) < ((wd j : Nat) : Int) := by omega
                            generalize dL l A = dA at *
                            generalize wd j = wj at *
                            go_upto_region 33 with fail
                            rename_i K hK
                            refine wp_region_lit ?_
                            refine wpList_loadM HN.out.2.1 (.tmp 5) rfl rfl rfl ?_
                            refine wpList_runTo rfl (some 129) rfl (.int .i64 (A : Int)) w8 (by kernel_rfl) ?_
                            refine wpList_store_row rfl 29 (.tmp 2) (.tmp 128) rfl w.heap.size zeroM.cs (by kernel_rfl) (by kernel_rfl) 29 _ HN.out.1 (by kernel_rfl) rfl (by kernel_rfl) ?_
                            refine wpList_runTo rfl (some 3) rfl (.int .i64 (A : Int)) (w8.setRow w.heap.size zeroM.cs) (by kernel_rfl) ?_
                            refine wpList_runTo rfl (some 4) rfl (.int .i64 42) (w8.setRow w.heap.size zeroM.cs) (by kernel_rfl) ?_
                            refine wpList_nil ?_
                            refine hK _ _ ?_
                            simp only [Act.put, List.setIfInBounds_toArray, List.set_cons_zero, List.set_cons_succ]
                            go_wp2
                            try simp only [Exit.inBlock, Exit.then]
                            refine bodyPost_ret (results_cr3 (fn := Tryz.f15) (p := 2) (u := 3) (v := 4) (ty := 29) rfl _ _ w.heap.size 29 zeroM.cs (0, 0) _ (by kernel_rfl) (setRow_heap _ _ _ _ _ _ HN.out.1) Tryz.underlying29 rfl (by kernel_rfl)) (by kernel_rfl) ?_
                            exact ⟨by rw [HDM.out.1, HDM.out.2.1, HDM.out.2.2]; kernel_rfl, below_setRow HN.out.2.2.1 (Nat.le_refl _) _⟩
                          · have e : rdF j ((l.drop A).take (wd j)) M = .ok (M.setB j (dL l A == 1)) := by unfold rdF; rw [if_neg (by rw [hs]; decide), if_pos hb, hd0, if_neg hgt]
                            rw [e] at HRd
                            have hgt' : ¬ 1 < ((dL l A : Nat) : Int) := by omega
                            have hw1' : (0 : Int) < ((wd j : Nat) : Int) := by omega
                            have HSm : Hid (∀ wq, Wrt mB w7 wq → Calls Tryz.prog 29 #[.slice (some ⟨g, off + A, none⟩) (wd j) (cap - A)] wq fun e w' => e = .returned (.int .u64 ((dL l A : Nat) : Int)) ∧ w' = wq) := fun wq hq => by
                              have := small_any (some ⟨g, off + A, none⟩) (wd j) (cap - A) (dL ((l.drop A).take (wd j))) wq (by omega) (((((HWr.out wq hq).2.2.2).drop A).take (wd j)).src (wd j) hbl.symm)
                              have e1 : getN (dL ((l.drop A).take (wd j))) (wd j) = dL l A := by rw [hwj] at hd0 ⊢; show 0 * 256 + dL ((l.drop A).take 1) 0 = _; rw [hd0]; omega
                              rw [e1] at this
                              exact this
                            have HPt : Hid (∀ wq, OwnM wq mB M → _) := fun wq hq => Put_boo M j j1 j42 hs hb (dL l A) (by omega) mB wq hq
                            generalize dL l A = U at *
                            generalize M.setB j (U == 1) = M2 at *
                            clear hwj hd0 e hgt
                            generalize tNum.getD j 0 = TT at *
                            generalize wd j = ww at *
                            have hcl := HWc.out w8 HQ.out.1
                            go_upto_region 45 with fail
                            have hW8 : Wrt mB w7 w8.drew := HQ.out.1.lowB HN7.out.2.2.2.2.2.2.2.2 (below_drewN (Below.refl _ _) 1)
                            have hO8 : OwnM w8.drew mB M := HQ.out.2.1
                            go_region_held3 (fun w' => w'.cell? ⟨gF, k, none⟩ = some (.int .i64 TT)) (first | exact HWc.out _ HP9.out.1 | exact HWc.out _ hW8) (first
                              | (go_at_call 29; refine (HSm.out _ hW8).mono ?_; rintro e w9 ⟨rfl, rfl⟩)
                              | (go_at_call 30; refine (HPt.out _ hO8).mono ?_; rintro e w9 ⟨rfl, ho9, hw9⟩; have HP9 : Hid (Wrt mB w7 w9 ∧ OwnM w9 mB (M2) ∧ w9.ownsRow w7.heap.size 3 1 (.slice a8 (k + 1) c8) (k + 1) (plV (js (z : Int)) (k + 1))) := ⟨hW8.trans hw9, ho9, row_keep (w := w8.drew) HQ.out.2.2 (fun b h1 h2 => hw9.other b h2 (by have := HN7.out.2.2.2.2.2.2.2.2; omega))⟩; clear ho9 hw9))
                            all_goals go_wp2
                            all_goals exact ⟨⟨k + 1, A + ww, a8, c8, M2, by omega, by go_num, by go_num, rfl, HA2.out, HRd.out, HP9.out.2.1, HP9.out.1, HP9.out.2.2⟩, by simp [RowKit.intOf]; omega⟩
                      · skip
                        have hb : isBoo j = false := by
                          cases h : isBoo j
                          · rfl
                          · have : ∀ j, j < 42 → isStr j = true → isBoo j = true → False := by decide
                            exact (this j j42 hs h).elim
                        rw [how_str j42 hs] at HSz
                        generalize hTT : tNum.getD j 0 = TT at *
                        generalize hww : wd j = ww at *
                        go_wp2_with (go_at_call 12; fail)
                        refine (HSz.out ()).mono ?_
                        rintro e w3 ⟨rfl, rfl⟩
                        go_upto_region 29 with (at_builtin; refine wpList_append_own _ rfl _ _ 37 rfl w7.heap.size 3 i0 (.int .i64 0) 1 8 Tryz.underlying37 hi hz0 hz1 hz2 rfl (by decide) _ k (plV (js (z : Int)) k) rfl (HR.out.2.2.2.2.alloc _) ⟨w3.heap.size, 0, none⟩ 1 1 [.int .i64 (A : Int)] rfl rfl hnew.out (fun x hx => by simp at hx; subst hx; rfl) (by unfold maxLen; omega) (by omega) (by have := HR.out.2.2.2.1.size; simp; omega) ?_; intro v8 w8 hown8 hgrow8 hnil8)
                        obtain ⟨a8, c8, rfl⟩ := own_formR hown8
                        have HQ : Hid (Wrt mB w7 w8 ∧ OwnM w8 mB M ∧ w8.ownsRow w7.heap.size 3 1 (.slice a8 (k + 1) c8) (k + 1) (plV (js (z : Int)) (k + 1))) := HRw.out _ _ hown8 hgrow8
                        clear hown8 hgrow8 hnil8 HRw HSz hnew HR hcl
                        subst hww
                        subst hTT
                        have HWc : Hid (∀ wq, Wrt mB w7 wq → wq.cell? ⟨gF, k, none⟩ = some (.int .i64 (tNum.getD j 0))) := fun wq hq => (HWt.out wq hq k j hj).1
                        have e : rdF j ((l.drop A).take (wd j)) M = if txL ((l.drop A).take (wd j)) + nzL (((l.drop A).take (wd j)).drop (txL ((l.drop A).take (wd j)))) < wd j then .error (txL ((l.drop A).take (wd j)) + nzL (((l.drop A).take (wd j)).drop (txL ((l.drop A).take (wd j)))), 62) else .ok (M.setS j ⟨(((l.drop A).take (wd j)).take (txL ((l.drop A).take (wd j)))).toArray⟩) := by
                          unfold rdF; rw [if_pos hs, hbl]
                        rw [e] at HRd
                        have HCl : Hid (∀ i, i < wd j → w8.cell? ⟨g, off + A + i, none⟩ = some (.int .u8 ((dL ((l.drop A).take (wd j)) i : Nat) : Int))) := fun i hi => by
                          obtain ⟨c, hc, ec⟩ := dL_at (show A + i < l.length by have := Hnl.out.1; omega)
                          have := (HWr.out w8 HQ.out.1).2.2.2 (A + i) c hc
                          rw [← Nat.add_assoc] at this
                          rw [hbd i hi, ec]; exact this
                        have HCv : Hid (∀ m, m ≤ wd j → (convert 22 9 (.slice (some ⟨g, off + A, none⟩) m (cap - A))).run Tryz.prog w8 = .ok (.string ⟨(((l.drop A).take (wd j)).take m).toArray⟩) w8) := fun m hm => conv_at (cap := cap - A) (((((HWr.out w8 HQ.out.1).2.2.2).drop A).take (wd j)).take m) m (by rw [List.length_take, hbl]; omega)
                        have HPt : Hid (∀ s' wq, OwnM wq mB M → _) := fun s' wq hq => Put_str M j j1 j42 hs s' mB wq hq
                        have hcw : wd j ≤ cap - A := by omega
                        have HBL : Hid (((l.drop A).take (wd j)).length = wd j) := hbl
                        generalize hbb : (l.drop A).take (wd j) = b at *
                        have hT60 : wd j ≤ 60 := hw60
                        clear e hbb hbd hbl f1 f2 f3 hs hb
                        generalize wd j = wj at *
                        generalize tNum.getD j 0 = T at *
                        go_upto_region 36 with fail
                        go_loopw [16] (fun x16 wq => ∃ m : Nat, m ≤ wj ∧ x16 = .int .i64 (m : Int) ∧ Hid (∀ i, i < m → dL b i ≠ 0) ∧ wq = w8) (fun x16 _ => wj - (RowKit.intOf x16).toNat)
                        case atStart => exact ⟨0, Nat.zero_le _, rfl, (fun i hi => by omega), rfl⟩
                        case round =>
                          obtain ⟨m, hm, rfl, hnz, hweq⟩ := hrel
                          obtain rfl := hweq.symm
                          by_cases hgo : m < wj ∧ dL b m ≠ 0
                          · obtain ⟨g1, g2⟩ := hgo
                            have g1' : (m : Int) < (wj : Int) := by omega
                            have hc := HCl.out m g1
                            have HZ2 : Hid (∀ i, i < m + 1 → dL b i ≠ 0) := fun i hi => by
                              by_cases ei : i = m
                              · rw [ei]; exact g2
                              · exact hnz.out i (by omega)
                            have g2' : (((dL b m : Nat) : Int) != 0) = true := by simp; omega
                            clear hnz
                            generalize dL b m = dm at *
                            go_wp2
                            exact ⟨⟨m + 1, by omega, by go_num, HZ2, by first | rfl | trivial⟩, by simp [RowKit.intOf]; omega⟩
                          · have HT : Hid (txL b = m) := by
                              show txL b = m
                              by_cases g1 : m < wj
                              · exact tx_eq (by rw [HBL.out]; exact g1) hnz.out (Classical.byContradiction fun h => hgo ⟨g1, h⟩)
                              · have := tx_full (l := b) (fun i hi => hnz.out i (by rw [HBL.out] at hi; omega))
                                rw [this, HBL.out]; omega
                            have hcv := HCv.out m hm
                            have hmc : (m : Int) ≤ ((cap - A : Nat) : Int) := by omega
                            have hmc2 : m ≤ cap - A := by omega
                            have hm0 : ¬ (m : Int) < 0 := by omega
                            rw [HT.out] at HRd
                            have HEnd : Hid ((m < wj ∧ dL b m = 0) ∨ m = wj) := by
                              show _ ∨ _
                              by_cases g1 : m < wj
                              · exact .inl ⟨g1, Classical.byContradiction fun h => hgo ⟨g1, h⟩⟩
                              · exact .inr (by omega)
                            clear hnz hgo HCv HT
                            generalize hST : (ByteArray.mk (b.take m).toArray) = ST at *
                            have HL3 : Hid (∀ (q : Nat), m ≤ q → q < wj → (∀ i, m ≤ i → i < q → dL b i = 0) → dL b q ≠ 0 → rdL l (js (z : Int)) 10 (kindM (z : Int)) = .error (A + q, 62)) := fun q hq1 hq2 hq3 hq4 => by
                              have hnz : nzL (b.drop m) = q - m := nz_eq (by rw [List.length_drop, HBL.out]; omega) (fun i hi => by rw [dL_drop]; exact hq3 _ (by omega) (by omega)) (by rw [dL_drop, show m + (q - m) = q by omega]; exact hq4)
                              have := HRd.out
                              rw [hnz, if_pos (by omega)] at this
                              rw [this, show m + (q - m) = q by omega]
                            have HL4 : Hid ((∀ i, m ≤ i → i < wj → dL b i = 0) → rdL l (js (z : Int)) 10 (kindM (z : Int)) = rdL l ((js (z : Int)).drop (k + 1)) (A + wj) (M.setS j ST)) := fun hq => by
                              have hnz : nzL (b.drop m) = wj - m := by
                                have := nz_full (l := b.drop m) (fun i hi => by rw [List.length_drop, HBL.out] at hi; rw [dL_drop]; exact hq _ (by omega) (by omega))
                                rw [this, List.length_drop, HBL.out]
                              have := HRd.out
                              rw [hnz, if_neg (by omega)] at this
                              exact this
                            clear HRd hST
                            rcases HEnd.out with ⟨g1, g2⟩ | g1
                            · skip
                              have g1' : (m : Int) < (wj : Int) := by omega
                              have hc := HCl.out m g1
                              rw [g2] at hc
                              go_upto_region 39 with fail
                              go_loopw [16] (fun x16 wq => ∃ q : Nat, m ≤ q ∧ q ≤ wj ∧ x16 = .int .i64 (q : Int) ∧ Hid (∀ i, m ≤ i → i < q → dL b i = 0) ∧ wq = w8) (fun x16 _ => wj - (RowKit.intOf x16).toNat)
                              case atStart => exact ⟨m, Nat.le_refl _, hm, rfl, (fun i h1 h2 => by omega), rfl⟩
                              case round =>
                                obtain ⟨q, hq1, hq2, rfl, hz3, hweq⟩ := hrel
                                obtain rfl := hweq.symm
                                by_cases hlt3 : q < wj
                                · have hlt3' : (q : Int) < (wj : Int) := by omega
                                  have hc3 := HCl.out q hlt3
                                  by_cases h0 : dL b q = 0
                                  · have HZ3 : Hid (∀ i, m ≤ i → i < q + 1 → dL b i = 0) := fun i h1 h2 => by
                                      by_cases ei : i = q
                                      · rw [ei]; exact h0
                                      · exact hz3.out i h1 (by omega)
                                    rw [h0] at hc3
                                    clear hz3
                                    go_wp2
                                    exact ⟨⟨q + 1, by omega, by omega, by go_num, HZ3, by first | rfl | trivial⟩, by simp [RowKit.intOf]; omega⟩
                                  · skip
                                    have h0' : (((dL b q : Nat) : Int) != 0) = true := by simp; omega
                                    have HDM : Hid (DM = zeroM ∧ PL = ((A + q : Nat) : Int) ∧ ER = 62) := HD.out.1 (A + q) 62 (HDL.out _ (HL3.out q hq1 hlt3 hz3.out h0))
                                    have HN : Hid (OwnM w8 w.heap.size zeroM ∧ OwnM w8 nB zeroM ∧ Below w.heap.size w w8 ∧ True) := ⟨(HWr.out w8 HQ.out.1).1, (HWr.out w8 HQ.out.1).2.1, (HWr.out w8 HQ.out.1).2.2.1, trivial⟩
                                    have hwp : IntKind.i64.wrap ((A : Int) + (q : Int)) = ((A + q : Nat) : Int) := by rw [IntKind.wrap_i64]; omega
                                    generalize dL b q = dq at *
                                    go_upto_region 41 with fail
                                    rename_i K hK
                                    refine wp_region_lit ?_
                                    refine wpList_loadM HN.out.2.1 (.tmp 5) rfl rfl rfl ?_
                                    refine wpList_runTo rfl (some 157) rfl (.int .i64 (A : Int)) w8 (by kernel_rfl) ?_
                                    refine wpList_runTo rfl (some 158) rfl (.int .i64 (q : Int)) w8 (by kernel_rfl) ?_
                                    refine wpList_runTo rfl (some 159) rfl (.int .i64 ((A + q : Nat) : Int)) w8 (by rw [← hwp]; rfl) ?_
                                    refine wpList_store_row rfl 29 (.tmp 2) (.tmp 156) rfl w.heap.size zeroM.cs (by kernel_rfl) (by kernel_rfl) 29 _ HN.out.1 (by kernel_rfl) rfl (by kernel_rfl) ?_
                                    refine wpList_runTo rfl (some 3) rfl (.int .i64 ((A + q : Nat) : Int)) (w8.setRow w.heap.size zeroM.cs) (by kernel_rfl) ?_
                                    refine wpList_runTo rfl (some 4) rfl (.int .i64 62) (w8.setRow w.heap.size zeroM.cs) (by kernel_rfl) ?_
                                    refine wpList_nil ?_
                                    refine hK _ _ ?_
                                    simp only [Act.put, List.setIfInBounds_toArray, List.set_cons_zero, List.set_cons_succ]
                                    go_wp2
                                    try simp only [Exit.inBlock, Exit.then]
                                    refine bodyPost_ret (results_cr3 (fn := Tryz.f15) (p := 2) (u := 3) (v := 4) (ty := 29) rfl _ _ w.heap.size 29 zeroM.cs (0, 0) _ (by kernel_rfl) (setRow_heap _ _ _ _ _ _ HN.out.1) Tryz.underlying29 rfl (by kernel_rfl)) (by kernel_rfl) ?_
                                    exact ⟨by rw [HDM.out.1, HDM.out.2.1, HDM.out.2.2]; kernel_rfl, below_setRow HN.out.2.2.1 (Nat.le_refl _) _⟩
                                · have hlt3' : ¬ (q : Int) < (wj : Int) := by omega
                                  have HRd : Hid (rdL l (js (z : Int)) 10 (kindM (z : Int)) = rdL l ((js (z : Int)).drop (k + 1)) (A + wj) (M.setS j ST)) := HL4.out (fun i h1 h2 => hz3.out i h1 (by omega))
                                  have hcl := HWc.out w8 HQ.out.1
                                  have HP := HPt.out ST w8 HQ.out.2.1
                                  clear hz3 HL3 HL4
                                  go_wp2_with (go_at_call 30; fail)
                                  refine HP.mono ?_
                                  rintro e w9 ⟨rfl, ho9, hw9⟩
                                  have HP9 : Hid (Wrt mB w7 w9 ∧ OwnM w9 mB (M.setS j ST) ∧ w9.ownsRow w7.heap.size 3 1 (.slice a8 (k + 1) c8) (k + 1) (plV (js (z : Int)) (k + 1))) := ⟨HQ.out.1.trans hw9, ho9, row_keep HQ.out.2.2 (fun b h1 h2 => hw9.other b h2 (by have := HN7.out.2.2.2.2.2.2.2.2; omega))⟩
                                  clear ho9 hw9 HP
                                  go_wp2
                                  exact ⟨⟨k + 1, A + wj, a8, c8, M.setS j ST, by omega, by go_num, by go_num, rfl, HA2.out, HRd.out, HP9.out.2.1, HP9.out.1, HP9.out.2.2⟩, by simp [RowKit.intOf]; omega⟩
                            · skip
                              have g1' : ¬ (m : Int) < (wj : Int) := by omega
                              have g1h : Hid (m = wj) := g1
                              clear g1
                              have g1n : ¬ m < wj := by have := g1h.out; omega
                              go_upto_region 39 with fail
                              go_loopw [16] (fun x16 wq => ∃ q : Nat, m ≤ q ∧ q ≤ wj ∧ x16 = .int .i64 (q : Int) ∧ Hid (∀ i, m ≤ i → i < q → dL b i = 0) ∧ wq = w8) (fun x16 _ => wj - (RowKit.intOf x16).toNat)
                              case atStart => exact ⟨m, Nat.le_refl _, hm, rfl, (fun i h1 h2 => by omega), rfl⟩
                              case round =>
                                obtain ⟨q, hq1, hq2, rfl, hz3, hweq⟩ := hrel
                                obtain rfl := hweq.symm
                                by_cases hlt3 : q < wj
                                · have hlt3' : (q : Int) < (wj : Int) := by omega
                                  have hc3 := HCl.out q hlt3
                                  by_cases h0 : dL b q = 0
                                  · have HZ3 : Hid (∀ i, m ≤ i → i < q + 1 → dL b i = 0) := fun i h1 h2 => by
                                      by_cases ei : i = q
                                      · rw [ei]; exact h0
                                      · exact hz3.out i h1 (by omega)
                                    rw [h0] at hc3
                                    clear hz3
                                    go_wp2
                                    exact ⟨⟨q + 1, by omega, by omega, by go_num, HZ3, by first | rfl | trivial⟩, by simp [RowKit.intOf]; omega⟩
                                  · skip
                                    have h0' : (((dL b q : Nat) : Int) != 0) = true := by simp; omega
                                    have HDM : Hid (DM = zeroM ∧ PL = ((A + q : Nat) : Int) ∧ ER = 62) := HD.out.1 (A + q) 62 (HDL.out _ (HL3.out q hq1 hlt3 hz3.out h0))
                                    have HN : Hid (OwnM w8 w.heap.size zeroM ∧ OwnM w8 nB zeroM ∧ Below w.heap.size w w8 ∧ True) := ⟨(HWr.out w8 HQ.out.1).1, (HWr.out w8 HQ.out.1).2.1, (HWr.out w8 HQ.out.1).2.2.1, trivial⟩
                                    have hwp : IntKind.i64.wrap ((A : Int) + (q : Int)) = ((A + q : Nat) : Int) := by rw [IntKind.wrap_i64]; omega
                                    generalize dL b q = dq at *
                                    go_upto_region 41 with fail
                                    rename_i K hK
                                    refine wp_region_lit ?_
                                    refine wpList_loadM HN.out.2.1 (.tmp 5) rfl rfl rfl ?_
                                    refine wpList_runTo rfl (some 157) rfl (.int .i64 (A : Int)) w8 (by kernel_rfl) ?_
                                    refine wpList_runTo rfl (some 158) rfl (.int .i64 (q : Int)) w8 (by kernel_rfl) ?_
                                    refine wpList_runTo rfl (some 159) rfl (.int .i64 ((A + q : Nat) : Int)) w8 (by rw [← hwp]; rfl) ?_
                                    refine wpList_store_row rfl 29 (.tmp 2) (.tmp 156) rfl w.heap.size zeroM.cs (by kernel_rfl) (by kernel_rfl) 29 _ HN.out.1 (by kernel_rfl) rfl (by kernel_rfl) ?_
                                    refine wpList_runTo rfl (some 3) rfl (.int .i64 ((A + q : Nat) : Int)) (w8.setRow w.heap.size zeroM.cs) (by kernel_rfl) ?_
                                    refine wpList_runTo rfl (some 4) rfl (.int .i64 62) (w8.setRow w.heap.size zeroM.cs) (by kernel_rfl) ?_
                                    refine wpList_nil ?_
                                    refine hK _ _ ?_
                                    simp only [Act.put, List.setIfInBounds_toArray, List.set_cons_zero, List.set_cons_succ]
                                    go_wp2
                                    try simp only [Exit.inBlock, Exit.then]
                                    refine bodyPost_ret (results_cr3 (fn := Tryz.f15) (p := 2) (u := 3) (v := 4) (ty := 29) rfl _ _ w.heap.size 29 zeroM.cs (0, 0) _ (by kernel_rfl) (setRow_heap _ _ _ _ _ _ HN.out.1) Tryz.underlying29 rfl (by kernel_rfl)) (by kernel_rfl) ?_
                                    exact ⟨by rw [HDM.out.1, HDM.out.2.1, HDM.out.2.2]; kernel_rfl, below_setRow HN.out.2.2.1 (Nat.le_refl _) _⟩
                                · have hlt3' : ¬ (q : Int) < (wj : Int) := by omega
                                  have HRd : Hid (rdL l (js (z : Int)) 10 (kindM (z : Int)) = rdL l ((js (z : Int)).drop (k + 1)) (A + wj) (M.setS j ST)) := HL4.out (fun i h1 h2 => hz3.out i h1 (by omega))
                                  have hcl := HWc.out w8 HQ.out.1
                                  have HP := HPt.out ST w8 HQ.out.2.1
                                  clear hz3 HL3 HL4
                                  go_wp2_with (go_at_call 30; fail)
                                  refine HP.mono ?_
                                  rintro e w9 ⟨rfl, ho9, hw9⟩
                                  have HP9 : Hid (Wrt mB w7 w9 ∧ OwnM w9 mB (M.setS j ST) ∧ w9.ownsRow w7.heap.size 3 1 (.slice a8 (k + 1) c8) (k + 1) (plV (js (z : Int)) (k + 1))) := ⟨HQ.out.1.trans hw9, ho9, row_keep HQ.out.2.2 (fun b h1 h2 => hw9.other b h2 (by have := HN7.out.2.2.2.2.2.2.2.2; omega))⟩
                                  clear ho9 hw9 HP
                                  go_wp2
                                  exact ⟨⟨k + 1, A + wj, a8, c8, M.setS j ST, by omega, by go_num, by go_num, rfl, HA2.out, HRd.out, HP9.out.2.1, HP9.out.1, HP9.out.2.2⟩, by simp [RowKit.intOf]; omega⟩
                    · obtain rfl : k = nf := by omega
                      have HEnd : Hid (A = 10 + wS (js (z : Int)) ∧ rdL l (js (z : Int)) 10 (kindM (z : Int)) = rdL l [] A M ∧ OwnM wr mB M ∧ Wrt mB w7 wr ∧ wr.ownsRow w7.heap.size 3 1 (.slice ap k cp) k (plV (js (z : Int)) k)) := by
                        have h := HR.out
                        rw [HL.out.1, List.take_length, List.drop_length] at h
                        rw [HL.out.1]
                        exact h
                      clear HR hlt
                      have hA418 : A ≤ 418 := by have := HEnd.out.1; have := HJ.out.2.1; have := HJ.out.2.2; omega
                      have hAn : A ≤ G1 := by have := HEnd.out.1; have := HJ.out.2.1; omega
                      have hG418 : G1 ≤ 418 := HJ.out.2.2
                      go_upto_region 47 with fail
                      go_loopw [10] (fun x10 wq => ∃ m : Nat, A ≤ m ∧ m ≤ G1 ∧ x10 = .int .i64 (m : Int) ∧ Hid (∀ i, A ≤ i → i < m → dL l i = 0) ∧ wq = wr) (fun x10 _ => G1 - (RowKit.intOf x10).toNat)
                      case atStart => exact ⟨A, Nat.le_refl _, hAn, rfl, (fun i h1 h2 => by omega), rfl⟩
                      case round =>
                        obtain ⟨m, hm1, hm2, rfl, hz4, rfl⟩ := hrel
                        by_cases hlt : m < G1
                        · have hlt' : (m : Int) < (G1 : Int) := by omega
                          have hc : wr.cell? ⟨g, off + m, none⟩ = some (.int .u8 ((dL l m : Nat) : Int)) := by
                            obtain ⟨c, hc, ec⟩ := dL_at (show m < l.length by have := Hnl.out.1; omega)
                            rw [ec]; exact (HWr.out wr HEnd.out.2.2.2.1).2.2.2 m c hc
                          by_cases h0 : dL l m = 0
                          · have HZ2 : Hid (∀ i, A ≤ i → i < m + 1 → dL l i = 0) := fun i h1 h2 => by
                              by_cases ei : i = m
                              · rw [ei]; exact h0
                              · exact hz4.out i h1 (by omega)
                            rw [h0] at hc
                            clear hz4
                            go_wp2
                            exact ⟨⟨m + 1, by omega, by omega, by go_num, HZ2, by first | rfl | trivial⟩, by simp [RowKit.intOf]; omega⟩
                          · skip
                            have h0' : (((dL l m : Nat) : Int) != 0) = true := by simp; omega
                            have hrd : rdL l (js (z : Int)) 10 (kindM (z : Int)) = .error (m, 62) := by
                              have hnz : nzL (l.drop A) = m - A := nz_eq (by rw [List.length_drop]; have := Hnl.out.1; omega) (fun i hi => by rw [dL_drop]; exact hz4.out _ (by omega) (by omega)) (by rw [dL_drop, show A + (m - A) = m by omega]; exact h0)
                              rw [HEnd.out.2.1]
                              unfold rdL
                              rw [hnz, if_pos (by have := Hnl.out.1; omega), show A + (m - A) = m by omega]
                            have HDM : Hid (DM = zeroM ∧ PL = (m : Int) ∧ ER = 62) := HD.out.1 m 62 (HDL.out _ hrd)
                            have HN : Hid (OwnM wr w.heap.size zeroM ∧ OwnM wr nB zeroM ∧ Below w.heap.size w wr ∧ True) := ⟨(HWr.out wr HEnd.out.2.2.2.1).1, (HWr.out wr HEnd.out.2.2.2.1).2.1, (HWr.out wr HEnd.out.2.2.2.1).2.2.1, trivial⟩
                            clear hrd hz4
                            generalize dL l m = dm at *
                            go_upto_region 49 with fail
                            rename_i K hK
                            refine wp_region_lit ?_
                            refine wpList_loadM HN.out.2.1 (.tmp 5) rfl rfl rfl ?_
                            refine wpList_runTo rfl (some 191) rfl (.int .i64 (m : Int)) wr (by kernel_rfl) ?_
                            refine wpList_store_row rfl 29 (.tmp 2) (.tmp 190) rfl w.heap.size zeroM.cs (by kernel_rfl) (by kernel_rfl) 29 _ HN.out.1 (by kernel_rfl) rfl (by kernel_rfl) ?_
                            refine wpList_runTo rfl (some 3) rfl (.int .i64 (m : Int)) (wr.setRow w.heap.size zeroM.cs) (by kernel_rfl) ?_
                            refine wpList_runTo rfl (some 4) rfl (.int .i64 62) (wr.setRow w.heap.size zeroM.cs) (by kernel_rfl) ?_
                            refine wpList_nil ?_
                            refine hK _ _ ?_
                            simp only [Act.put, List.setIfInBounds_toArray, List.set_cons_zero, List.set_cons_succ]
                            go_wp2
                            try simp only [Exit.inBlock, Exit.then]
                            refine bodyPost_ret (results_cr3 (fn := Tryz.f15) (p := 2) (u := 3) (v := 4) (ty := 29) rfl _ _ w.heap.size 29 zeroM.cs (0, 0) _ (by kernel_rfl) (setRow_heap _ _ _ _ _ _ HN.out.1) Tryz.underlying29 rfl (by kernel_rfl)) (by kernel_rfl) ?_
                            exact ⟨by rw [HDM.out.1, HDM.out.2.1, HDM.out.2.2]; kernel_rfl, below_setRow HN.out.2.2.1 (Nat.le_refl _) _⟩
                        · have hlt' : ¬ (m : Int) < (G1 : Int) := by omega
                          have hrd : rdL l (js (z : Int)) 10 (kindM (z : Int)) = .ok M := by
                            have hnz : nzL (l.drop A) = G1 - A := by
                              have := nz_full (l := l.drop A) (fun i hi => by rw [List.length_drop] at hi; rw [dL_drop]; exact hz4.out _ (by omega) (by have := Hnl.out.1; omega))
                              rw [this, List.length_drop, ← Hnl.out.1]
                            rw [HEnd.out.2.1]
                            unfold rdL
                            rw [hnz, if_neg (by have := Hnl.out.1; omega)]
                          obtain ⟨hok, hokS⟩ := read_val Hnl.out.2.2.1 hrd
                          have hrest := read_rest hrd
                          have HDo : Hid (decL l = if valE M = 0 then .ok M else .error (plcN (valN M) (js (z : Int)) 10, valE M)) := HDO.out M hrd
                          have HWg : Hid (valE M ≠ 0 → ∃ (k j : Nat), (js (z : Int))[k]? = some j ∧ tNum.getD j 0 = valN M ∧ ∀ (i x : Nat), i < k → (js (z : Int))[i]? = some x → ¬ tNum.getD x 0 = valN M) := fun hv => wrong_at Hnl.out.2.2.2 hrest.1 hrest.2 hv
                          have HV : Hid (Unit → _) := fun _ => refValid_any M hok hokS wr
                          clear hrd hok hokS hrest hz4 HDL HDO
                          go_upto_region 51 with fail
                          refine wp_region_lit ?_
                          refine wpList_loadM HEnd.out.2.2.1 (.tmp 7) rfl rfl rfl ?_
                          refine wpList_callW rfl (some 196) rfl 31 #[.agg M.cs] (by kernel_rfl) (HV.out ()) ?_
                          rintro e w9 ⟨rfl, hb9⟩
                          refine ⟨_, rfl, ?_⟩
                          generalize hMC : M.cs = MC at *
                          generalize hVE : valE M = VE at *
                          generalize hVN : valN M = VN at *
                          refine wpList_runTo rfl (some 194) rfl (.tuple #[.int .i64 VE, .int .i64 VN]) w9 (by kernel_rfl) ?_
                          refine wpList_runTo rfl (some 197) rfl (.int .i64 VE) w9 (by kernel_rfl) ?_
                          refine wpList_runTo rfl (some 198) rfl (.int .i64 VN) w9 (by kernel_rfl) ?_
                          refine wpList_runTo rfl (some 17) rfl (.int .i64 VE) w9 (by kernel_rfl) ?_
                          refine wpList_runTo rfl (some 18) rfl (.int .i64 VN) w9 (by kernel_rfl) ?_
                          refine wpList_nil ?_
                          simp only [Act.put, List.setIfInBounds_toArray, List.set_cons_zero, List.set_cons_succ]
                          have HN : Hid (OwnM w9 w.heap.size zeroM ∧ OwnM w9 nB zeroM ∧ Below w.heap.size w w9 ∧ OwnM w9 mB M ∧ Below wr.heap.size wr w9) := by
                            obtain ⟨a1, a2, a3, _⟩ := HWr.out wr HEnd.out.2.2.2.1
                            exact ⟨a1.low hb9, a2.low hb9, a3.trans (hb9.mono a3.size), HEnd.out.2.2.1.low hb9, hb9⟩
                          clear hb9 HV
                          by_cases hv : VE = 0
                          · skip
                            have HDM : Hid (DM = M ∧ PL = 0 ∧ ER = 0) := HD.out.2 M (by rw [HDo.out, if_pos hv])
                            subst hv
                            go_upto_region 53 with fail
                            rename_i K hK
                            refine wp_region_lit ?_
                            refine wpList_loadM HN.out.2.2.2.1 (.tmp 7) rfl rfl rfl ?_
                            refine wpList_store_row rfl 29 (.tmp 2) (.tmp 201) rfl w.heap.size M.cs (by rfl) (by rfl) 29 _ HN.out.1 (by rw [Msg.cs_size]; kernel_rfl) (by rw [Msg.cs_size, Msg.cs_size]) (Msg.cs_one _) ?_
                            refine wpList_runTo rfl (some 3) rfl (.int .i64 0) (w9.setRow w.heap.size M.cs) (by kernel_rfl) ?_
                            refine wpList_runTo rfl (some 4) rfl (.int .i64 0) (w9.setRow w.heap.size M.cs) (by kernel_rfl) ?_
                            refine wpList_nil ?_
                            refine hK _ _ ?_
                            apply wp_ret
                            try simp only [Exit.inBlock, Exit.then]
                            refine bodyPost_ret (results_cr3 (fn := Tryz.f15) (p := 2) (u := 3) (v := 4) (ty := 29) rfl _ _ w.heap.size 29 M.cs (0, 0) _ (by rfl) (setRow_heap _ _ _ _ _ _ HN.out.1) Tryz.underlying29 rfl (by rw [Msg.cs_size]; kernel_rfl)) (by rfl) ?_
                            exact ⟨by rw [HDM.out.1, HDM.out.2.1, HDM.out.2.2]; kernel_rfl, below_setRow HN.out.2.2.1 (Nat.le_refl _) _⟩
                          · obtain ⟨kk, jj, hkk, hjj, hfirst⟩ := HWg.out hv
                            have HDM : Hid (DM = zeroM ∧ PL = ((10 + wS ((js (z : Int)).take kk) : Nat) : Int) ∧ ER = VE) := by
                              have := HD.out.1 (plcN VN (js (z : Int)) 10) VE (by rw [HDo.out, if_neg hv])
                              rw [plcN_at VN (js (z : Int)) 10 kk jj hkk hjj hfirst] at this
                              exact this
                            have hkn : kk < k := by have := (List.getElem?_eq_some_iff.1 hkk).1; have := HL.out.1; omega
                            have hvb : (VE == 0) = false := by simp [hv]
                            have HPc : Hid (∃ gP, ap = some ⟨gP, 0, none⟩ ∧ k ≤ cp ∧ w9.cell? ⟨gP, kk, none⟩ = some (.int .i64 ((10 + wS ((js (z : Int)).take kk) : Nat) : Int)) ∧ w7.heap.size ≤ gP) := by
                              rcases HEnd.out.2.2.2.2.2 with ⟨_, h0⟩ | ⟨gP, cP, cur, e1, e2, e3, e4, _⟩
                              · omega
                              · injection e1 with e1 _ e5
                                subst e1
                                have hc := HEnd.out.2.2.2.2.cells (g := gP) rfl kk (.int .i64 ((10 + wS ((js (z : Int)).take kk) : Nat) : Int)) (by simp [plV, hkn])
                                rw [addr_add, Nat.zero_add] at hc
                                exact ⟨gP, rfl, by omega, by rw [HN.out.2.2.2.2.cell (p := ⟨gP, kk, none⟩) (World.block_lt_of_cell? _ _ hc)]; exact hc, e2⟩
                            obtain ⟨gP, rfl, hcp, hcP, hgP7⟩ := HPc.out
                            have HGP : Hid (w.heap.size ≠ gP) := by have := HN7.out.2.2.1.size; have := HN7.out.2.2.2.2.2.2.2.2; have := HN7.out.2.2.2.2.2.2.1; have := HN7.out.2.2.2.1; show _ ≠ _; omega
                            have HF : Hid (∀ i x, (js (z : Int))[i]? = some x → w9.cell? ⟨gF, i, none⟩ = some (.int .i64 (tNum.getD x 0))) := fun i x hx => by
                              obtain ⟨c1, _, _⟩ := HWt.out wr HEnd.out.2.2.2.1 i x hx
                              rw [HN.out.2.2.2.2.cell (p := ⟨gF, i, none⟩) (World.block_lt_of_cell? _ _ c1)]; exact c1
                            have HFi : Hid ((js (z : Int))[kk]? = some jj ∧ tNum.getD jj 0 = VN ∧ ∀ (i x : Nat), i < kk → (js (z : Int))[i]? = some x → ¬ tNum.getD x 0 = VN) := ⟨hkk, hjj, hfirst⟩
                            generalize 10 + wS ((js (z : Int)).take kk) = PP at *
                            clear hkk hjj hfirst HPc HDo HWg
                            go_upto_region 55 with fail
                            go_loopw [19] (fun x19 wp => ∃ i : Nat, i ≤ kk ∧ x19 = .int .i64 (i : Int) ∧ wp = w9) (fun x19 _ => kk + 1 - (RowKit.intOf x19).toNat)
                            case atStart => exact ⟨0, Nat.zero_le _, rfl, rfl⟩
                            case round =>
                              obtain ⟨i, hik, rfl, hweq⟩ := hrel
                              obtain rfl := hweq.symm
                              have hin : (i : Int) < (k : Int) := by omega
                              have hinn : i < k := by omega
                              by_cases hi2 : i < kk
                              · obtain ⟨x, hx⟩ : ∃ x, (js (z : Int))[i]? = some x := ⟨_, List.getElem?_eq_getElem (by rw [← HL.out.1]; exact hinn)⟩
                                have hc := HF.out i x hx
                                have hne := HFi.out.2.2 i x hi2 hx
                                generalize tNum.getD x 0 = TX at *
                                have hneb : (TX == VN) = false := by simp [hne]
                                go_wp2
                                exact ⟨⟨i + 1, by omega, by go_num, by first | rfl | trivial⟩, by simp [RowKit.intOf]; omega⟩
                              · skip
                                obtain rfl : i = kk := by omega
                                have hc := HF.out i jj HFi.out.1
                                rw [HFi.out.2.1] at hc
                                have heb : (VN == VN) = true := by simp
                                go_upto_region 58 with fail
                                rename_i KK hKK
                                have HN10 : Hid (OwnM w9.drew w.heap.size zeroM ∧ OwnM w9.drew nB zeroM ∧ Below w.heap.size w w9.drew ∧ w9.drew.cell? ⟨gP, i, none⟩ = some (.int .i64 (PP : Int))) := ⟨HN.out.1, HN.out.2.1, below_drewN HN.out.2.2.1 1, hcP⟩
                                have HgP : Hid (w.heap.size < nB ∧ w.heap.size ≠ gP) := ⟨HN7.out.2.2.2.1, HGP.out⟩
                                clear HN hcP
                                have HN := HN10
                                clear HN10
                                refine wp_region_held (S := fun w' => OwnM w' nB zeroM ∧ w'.cell? ⟨gP, i, none⟩ = some (.int .i64 (PP : Int))) (by kernel_rfl) ?_
                                change wpAnyH _ _ _ _ _ _ _ _ (World.drew _)
                                generalize w9.drew = w10 at *
                                refine takeD (i := 0) (v := .agg zeroM.cs) (some 214) rfl rfl (by kernel_rfl) (by kernel_rfl) (by kernel_rfl) (fun _ _ _ h => h) (Or.inl ⟨by kernel_rfl, fun w' hSw => loadM_run hSw.1 (.tmp 5) rfl (by kernel_rfl)⟩) ⟨HN.out.2.1, HN.out.2.2.2⟩ ?_
                                simp only [Act.put, List.setIfInBounds_toArray, List.set_cons_zero, List.set_cons_succ]
                                refine takeD (i := 1) (v := .slice (some ⟨gP, 0, none⟩) k cp) (some 215) rfl rfl (by kernel_rfl) (by kernel_rfl) (by kernel_rfl) (fun _ _ _ h => h) (Or.inl ⟨by kernel_rfl, fun _ _ => by kernel_rfl⟩) ⟨HN.out.2.1, HN.out.2.2.2⟩ ?_
                                simp only [Act.put, List.setIfInBounds_toArray, List.set_cons_zero, List.set_cons_succ]
                                refine takeD (i := 2) (v := .int .i64 (i : Int)) (some 216) rfl rfl (by kernel_rfl) (by kernel_rfl) (by kernel_rfl) (fun _ _ _ h => h) (Or.inl ⟨by kernel_rfl, fun _ _ => by kernel_rfl⟩) ⟨HN.out.2.1, HN.out.2.2.2⟩ ?_
                                simp only [Act.put, List.setIfInBounds_toArray, List.set_cons_zero, List.set_cons_succ]
                                refine takeD (i := 3) (v := .pointer (some ⟨gP, i, none⟩)) (some 217) rfl rfl (by kernel_rfl) (by kernel_rfl) (by kernel_rfl) (fun _ _ _ h => h) (Or.inl ⟨by kernel_rfl, fun w' hSw => by clear hSw; go_simp⟩) ⟨HN.out.2.1, HN.out.2.2.2⟩ ?_
                                simp only [Act.put, List.setIfInBounds_toArray, List.set_cons_zero, List.set_cons_succ]
                                refine takeD (i := 4) (v := .int .i64 (PP : Int)) (some 218) rfl rfl (by kernel_rfl) (by kernel_rfl) (by kernel_rfl) (fun _ _ _ h => h) (Or.inl ⟨by kernel_rfl, fun w' hSw => by obtain ⟨_, q0⟩ := hSw; go_simp⟩) ⟨HN.out.2.1, HN.out.2.2.2⟩ ?_
                                simp only [Act.put, List.setIfInBounds_toArray, List.set_cons_zero, List.set_cons_succ]
                                refine takeD (i := 5) (v := .int .i64 VE) (some 219) rfl rfl (by kernel_rfl) (by kernel_rfl) (by kernel_rfl) (fun _ _ _ h => h) (Or.inl ⟨by kernel_rfl, fun _ _ => by kernel_rfl⟩) ⟨HN.out.2.1, HN.out.2.2.2⟩ ?_
                                simp only [Act.put, List.setIfInBounds_toArray, List.set_cons_zero, List.set_cons_succ]
                                refine wpAnyH_ready (rs := [6]) (by kernel_rfl) (by simp) ?_
                                refine AllReadyH.cons rfl (fun K' hK' => ?_) AllReadyH.nil
                                rw [if_pos (by kernel_rfl)]
                                refine wp_store_row 29 (.tmp 2) (.tmp 214) rfl w.heap.size zeroM.cs (by kernel_rfl) (by kernel_rfl) 29 _ HN.out.1 (by kernel_rfl) rfl (by kernel_rfl) ?_
                                have hS10 : OwnM (w10.setRow w.heap.size zeroM.cs) nB zeroM ∧ (w10.setRow w.heap.size zeroM.cs).cell? ⟨gP, i, none⟩ = some (.int .i64 (PP : Int)) := by
                                  refine ⟨(setRow_other _ _ _ _ (by have := HgP.out.1; omega)).trans HN.out.2.1, ?_⟩
                                  unfold World.cell?
                                  rw [setRow_other _ _ _ _ (show gP ≠ w.heap.size from fun h => HgP.out.2 h.symm)]
                                  exact HN.out.2.2.2
                                refine hK'.out _ _ hS10 (fun _ => ?_)
                                try simp only [Act.put, List.setIfInBounds_toArray, List.set_cons_zero, List.set_cons_succ]
                                refine takeD (i := 7) (v := .int .i64 (PP : Int)) (some 3) rfl rfl (by kernel_rfl) (by kernel_rfl) (by kernel_rfl) (fun _ _ _ h => h) (Or.inl ⟨by kernel_rfl, fun _ _ => by kernel_rfl⟩) hS10 ?_
                                simp only [Act.put, List.setIfInBounds_toArray, List.set_cons_zero, List.set_cons_succ]
                                refine takeD (i := 8) (v := .int .i64 VE) (some 4) rfl rfl (by kernel_rfl) (by kernel_rfl) (by kernel_rfl) (fun _ _ _ h => h) (Or.inl ⟨by kernel_rfl, fun _ _ => by kernel_rfl⟩) hS10 ?_
                                simp only [Act.put, List.setIfInBounds_toArray, List.set_cons_zero, List.set_cons_succ]
                                refine wpAnyH_done (by kernel_rfl) ?_ _
                                refine hKK _ _ ?_
                                try simp only [Act.put, List.setIfInBounds_toArray, List.set_cons_zero, List.set_cons_succ]
                                go_wp2
                                try simp only [Exit.inBlock, Exit.then]
                                refine bodyPost_ret (results_cr3 (fn := Tryz.f15) (p := 2) (u := 3) (v := 4) (ty := 29) rfl _ _ w.heap.size 29 zeroM.cs (0, 0) _ (by kernel_rfl) (setRow_heap _ _ _ _ _ _ HN.out.1) Tryz.underlying29 rfl (by kernel_rfl)) (by kernel_rfl) ?_
                                exact ⟨by rw [HDM.out.1, HDM.out.2.1, HDM.out.2.2]; kernel_rfl, below_setRow HN.out.2.2.1 (Nat.le_refl _) _⟩
                · skip
                  have HDM : Hid (DM = zeroM ∧ PL = 6 ∧ ER = 44) := HD.out.1 6 44 (HE.out _ (by rw [HHe.out, if_pos e3]))
                  have e3b : ((G2 : Int) != (CR : Int)) = true := by simp; omega
                  go_upto_region 18 with fail
                  rename_i K hK
                  refine wp_region_lit ?_
                  refine wpList_loadM HN.out.2.1 (.tmp 5) rfl rfl rfl ?_
                  refine wpList_store_row rfl 29 (.tmp 2) (.tmp 92) rfl w.heap.size zeroM.cs (by kernel_rfl) (by kernel_rfl) 29 _ HN.out.1 (by kernel_rfl) rfl (by kernel_rfl) ?_
                  refine wpList_runTo rfl (some 3) rfl (.int .i64 6) (w5.setRow w.heap.size zeroM.cs) (by kernel_rfl) ?_
                  refine wpList_runTo rfl (some 4) rfl (.int .i64 44) (w5.setRow w.heap.size zeroM.cs) (by kernel_rfl) ?_
                  refine wpList_nil ?_
                  refine hK _ _ ?_
                  apply wp_ret
                  try simp only [Exit.inBlock, Exit.then]
                  refine bodyPost_ret (results_cr3 (fn := Tryz.f15) (p := 2) (u := 3) (v := 4) (ty := 29) rfl _ _ w.heap.size 29 zeroM.cs (0, 0) _ (by kernel_rfl) (setRow_heap _ _ _ _ _ _ HN.out.1) Tryz.underlying29 rfl (by kernel_rfl)) (by kernel_rfl) ?_
                  exact ⟨by rw [HDM.out.1, HDM.out.2.1, HDM.out.2.2]; kernel_rfl, below_setRow HN.out.2.2.1 (Nat.le_refl _) _⟩
              · skip
                have HDM : Hid (DM = zeroM ∧ PL = 2 ∧ ER = 61) := HD.out.1 2 61 (HE.out _ (by
                  unfold headE
                  rw [if_neg hs0, if_neg (by rw [HZ.out.2]; simp), if_neg (by rw [hg1, ← Hx.out.1]; simp), if_pos (by rw [← Hx.out.1]; exact e2)]))
                have e2b : ((G1 : Int) != ((sizeN (z : Int) : Nat) : Int)) = true := by simp; omega
                generalize sizeN (z : Int) = SZ at *
                go_upto_region 16 with fail
                rename_i K hK
                refine wp_region_lit ?_
                refine wpList_loadM HN.out.2.1 (.tmp 5) rfl rfl rfl ?_
                refine wpList_store_row rfl 29 (.tmp 2) (.tmp 83) rfl w.heap.size zeroM.cs (by kernel_rfl) (by kernel_rfl) 29 _ HN.out.1 (by kernel_rfl) rfl (by kernel_rfl) ?_
                refine wpList_runTo rfl (some 3) rfl (.int .i64 2) (w3.setRow w.heap.size zeroM.cs) (by kernel_rfl) ?_
                refine wpList_runTo rfl (some 4) rfl (.int .i64 61) (w3.setRow w.heap.size zeroM.cs) (by kernel_rfl) ?_
                refine wpList_nil ?_
                refine hK _ _ ?_
                apply wp_ret
                try simp only [Exit.inBlock, Exit.then]
                refine bodyPost_ret (results_cr3 (fn := Tryz.f15) (p := 2) (u := 3) (v := 4) (ty := 29) rfl _ _ w.heap.size 29 zeroM.cs (0, 0) _ (by kernel_rfl) (setRow_heap _ _ _ _ _ _ HN.out.1) Tryz.underlying29 rfl (by kernel_rfl)) (by kernel_rfl) ?_
                exact ⟨by rw [HDM.out.1, HDM.out.2.1, HDM.out.2.2]; kernel_rfl, below_setRow HN.out.2.2.1 (Nat.le_refl _) _⟩
            · skip
              have HDM : Hid (DM = zeroM ∧ PL = 2 ∧ ER = 43) := HD.out.1 2 43 (HE.out _ (by
                unfold headE
                rw [if_neg hs0, if_neg (by rw [HZ.out.2]; simp), if_pos (by rw [hg1, ← Hx.out.1]; exact e1)]))
              have e1b : ((G1 : Int) != (n : Int)) = true := by simp; omega
              go_upto_region 14 with fail
              rename_i K hK
              refine wp_region_lit ?_
              refine wpList_loadM HN.out.2.1 (.tmp 5) rfl rfl rfl ?_
              refine wpList_store_row rfl 29 (.tmp 2) (.tmp 76) rfl w.heap.size zeroM.cs (by kernel_rfl) (by kernel_rfl) 29 _ HN.out.1 (by kernel_rfl) rfl (by kernel_rfl) ?_
              refine wpList_runTo rfl (some 3) rfl (.int .i64 2) (w2.setRow w.heap.size zeroM.cs) (by kernel_rfl) ?_
              refine wpList_runTo rfl (some 4) rfl (.int .i64 43) (w2.setRow w.heap.size zeroM.cs) (by kernel_rfl) ?_
              refine wpList_nil ?_
              refine hK _ _ ?_
              apply wp_ret
              try simp only [Exit.inBlock, Exit.then]
              refine bodyPost_ret (results_cr3 (fn := Tryz.f15) (p := 2) (u := 3) (v := 4) (ty := 29) rfl _ _ w.heap.size 29 zeroM.cs (0, 0) _ (by kernel_rfl) (setRow_heap _ _ _ _ _ _ HN.out.1) Tryz.underlying29 rfl (by kernel_rfl)) (by kernel_rfl) ?_
              exact ⟨by rw [HDM.out.1, HDM.out.2.1, HDM.out.2.2]; kernel_rfl, below_setRow HN.out.2.2.1 (Nat.le_refl _) _⟩
          · skip
            have HDM : Hid (DM = zeroM ∧ PL = 5 ∧ ER = 60) := HD.out.1 5 60 (HE.out _ (by
              unfold headE
              rw [if_neg hs0, if_pos (by rw [HZ.out.2]; exact e5)]))
            have e5b : ((d5 : Int) != 1) = true := by simp; omega
            go_upto_region 12 with fail
            rename_i K hK
            refine wp_region_lit ?_
            refine wpList_loadM HN.out.2.1 (.tmp 5) rfl rfl rfl ?_
            refine wpList_store_row rfl 29 (.tmp 2) (.tmp 67) rfl w.heap.size zeroM.cs (by kernel_rfl) (by kernel_rfl) 29 _ HN.out.1 (by kernel_rfl) rfl (by kernel_rfl) ?_
            refine wpList_runTo rfl (some 3) rfl (.int .i64 5) (W1.setRow w.heap.size zeroM.cs) (by kernel_rfl) ?_
            refine wpList_runTo rfl (some 4) rfl (.int .i64 60) (W1.setRow w.heap.size zeroM.cs) (by kernel_rfl) ?_
            refine wpList_nil ?_
            refine hK _ _ ?_
            apply wp_ret
            try simp only [Exit.inBlock, Exit.then]
            refine bodyPost_ret (results_cr3 (fn := Tryz.f15) (p := 2) (u := 3) (v := 4) (ty := 29) rfl _ _ w.heap.size 29 zeroM.cs (0, 0) _ (by kernel_rfl) (setRow_heap _ _ _ _ _ _ HN.out.1) Tryz.underlying29 rfl (by kernel_rfl)) (by kernel_rfl) ?_
            exact ⟨by rw [HDM.out.1, HDM.out.2.1, HDM.out.2.2]; kernel_rfl, below_setRow HN.out.2.2.1 (Nat.le_refl _) _⟩
        · skip
          have hk2 : z = 0 ∨ 17 < z := by
            rcases Nat.lt_or_ge 17 z with h | h
            · exact .inr h
            · refine .inl (Classical.byContradiction fun h0 => hK ?_)
              simp [isK]; omega
          have hs0 : sizeN (z : Int) = 0 := by
            have hj : js (z : Int) = [] := js_no (by cases h : isK (z : Int) with | false => rfl | true => exact absurd h hK)
            unfold sizeN
            exact if_pos hj
          have hh0 : headE l (sizeN (z : Int)) = some (4, 60) := by
            unfold headE
            exact if_pos hs0
          have HDM : Hid (DM = zeroM ∧ PL = 4 ∧ ER = 60) := HD.out.1 4 60 (by unfold decL; rw [HS.out.1]; dsimp only; rw [HZ.out.1, hh0])
          clear hs0 hh0 hK
          rcases hk2 with rfl | h17
          · go_upto_region 10 with fail
            rename_i K hK
            refine wp_region_lit ?_
            refine wpList_loadM HN.out.2.1 (.tmp 5) rfl rfl rfl ?_
            refine wpList_store_row rfl 29 (.tmp 2) (.tmp 61) rfl w.heap.size zeroM.cs (by kernel_rfl) (by kernel_rfl) 29 _ HN.out.1 (by kernel_rfl) rfl (by kernel_rfl) ?_
            refine wpList_runTo rfl (some 3) rfl (.int .i64 4) (W1.setRow w.heap.size zeroM.cs) (by kernel_rfl) ?_
            refine wpList_runTo rfl (some 4) rfl (.int .i64 60) (W1.setRow w.heap.size zeroM.cs) (by kernel_rfl) ?_
            refine wpList_nil ?_
            refine hK _ _ ?_
            apply wp_ret
            try simp only [Exit.inBlock, Exit.then]
            refine bodyPost_ret (results_cr3 (fn := Tryz.f15) (p := 2) (u := 3) (v := 4) (ty := 29) rfl _ _ w.heap.size 29 zeroM.cs (0, 0) _ (by kernel_rfl) (setRow_heap _ _ _ _ _ _ HN.out.1) Tryz.underlying29 rfl (by kernel_rfl)) (by kernel_rfl) ?_
            exact ⟨by rw [HDM.out.1, HDM.out.2.1, HDM.out.2.2]; kernel_rfl, below_setRow HN.out.2.2.1 (Nat.le_refl _) _⟩
          · have h17' : 17 < (z : Int) := by omega
            have h17n : ¬ (z : Int) < 1 := by omega
            go_upto_region 10 with fail
            rename_i K hK
            refine wp_region_lit ?_
            refine wpList_loadM HN.out.2.1 (.tmp 5) rfl rfl rfl ?_
            refine wpList_store_row rfl 29 (.tmp 2) (.tmp 61) rfl w.heap.size zeroM.cs (by kernel_rfl) (by kernel_rfl) 29 _ HN.out.1 (by kernel_rfl) rfl (by kernel_rfl) ?_
            refine wpList_runTo rfl (some 3) rfl (.int .i64 4) (W1.setRow w.heap.size zeroM.cs) (by kernel_rfl) ?_
            refine wpList_runTo rfl (some 4) rfl (.int .i64 60) (W1.setRow w.heap.size zeroM.cs) (by kernel_rfl) ?_
            refine wpList_nil ?_
            refine hK _ _ ?_
            apply wp_ret
            try simp only [Exit.inBlock, Exit.then]
            refine bodyPost_ret (results_cr3 (fn := Tryz.f15) (p := 2) (u := 3) (v := 4) (ty := 29) rfl _ _ w.heap.size 29 zeroM.cs (0, 0) _ (by kernel_rfl) (setRow_heap _ _ _ _ _ _ HN.out.1) Tryz.underlying29 rfl (by kernel_rfl)) (by kernel_rfl) ?_
            exact ⟨by rw [HDM.out.1, HDM.out.2.1, HDM.out.2.2]; kernel_rfl, below_setRow HN.out.2.2.1 (Nat.le_refl _) _⟩
end Go.Proofs.YthadnogcocmfgabGreatDoor
