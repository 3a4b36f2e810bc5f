import Derived.Test.YtkpoheknmcepnaaGreatDoorFrV

namespace Go.Proofs.YtkpoheknmcepnaaGreatDoor
set_option linter.unusedVariables false
set_option linter.unusedSimpArgs false
open Go.RowKit Go.Great

structure LO (w w' : World) (p : Nat) (vl vL vh vw v : Value) (LE : List Lw) : Prop where
  out : ∃ vL' LE', OwB w' p vl vL' vh vw ∧ LwsAt w' vL' LE' ∧ LE'.length = LE.length + 2 ∧ (∀ e, e ∈ LE' → ∀ b, e.v.ownBlock = some b → (∃ e0, e0 ∈ LE ∧ e0.v.ownBlock = some b) ∨ v.ownBlock = some b ∨ w.heap.size ≤ b) ∧ newer w vL vL'
  fr : Fr w w' (fun b => b = p ∨ vL.ownBlock = some b ∨ v.ownBlock = some b)
theorem infoFr2 : (Tryz.prog.info? 36).map (·.size) = some 2 := by kernel_rfl
set_option maxRecDepth 100000 in
set_option maxHeartbeats 4000000 in
theorem listed_any {w : World} {p : Nat} {vl vL vh vw v : Value} {LE : List Lw} {n : Nat} {xs : List Value} (hb : OwB w p vl vL vh vw) (hE : LwsAt w vL LE) (hN : LE.length ≤ 90000000) (hrow : RowAt w 36 2 v n xs) (hn : n ≤ 900000000) (hap : ∀ e, e ∈ LE → ∀ b, v.ownBlock = some b → e.v.ownBlock ≠ some b) :
    Calls Tryz.prog 43 #[.pointer (some ⟨p, 0, none⟩), v] w fun e w' => e = .returned (.tuple #[]) ∧ LO w w' p vl vL vh vw v LE := by
  obtain ⟨av, cv, rfl, hnc⟩ := hrow.form
  obtain ⟨aL, cL, rfl, -⟩ := hE.row.form
  obtain ⟨N, hNN⟩ : ∃ N, LE.length = N := ⟨_, rfl⟩
  rw [hNN] at hb hE hN
  obtain ⟨m, hm⟩ : ∃ m : Int, -1 - (N : Int) = m := ⟨_, rfl⟩
  have hxl := hrow.1
  have HL0 : Hid (LI w w p vl (.slice aL N cL) vh vw LE (fun b => b = p ∨ (Value.slice aL N cL).ownBlock = some b ∨ (Value.slice av n cv).ownBlock = some b) ∧ RowAt w 36 2 (.slice av n cv) n (mkF m 0 ++ xs.drop (0 * 2))) := ⟨⟨hb, by rw [hNN]; have := hE.row; rwa [hNN] at this, hE.each, Fr.refl _ _⟩, by simpa [mkF, flatL] using hrow⟩
  have HX : Hid (xs.length = n * 2 ∧ LE.length = N ∧ (∀ e, e ∈ LE → ∀ b, (Value.slice av n cv).ownBlock = some b → e.v.ownBlock ≠ some b) ∧ (∀ e, e ∈ LE → ∀ b, e.v.ownBlock = some b → b < w.heap.size) ∧ (∀ b, (Value.slice av n cv).ownBlock = some b → b < w.heap.size)) := ⟨hxl, hNN, hap, fun e he b hb => (RowAt.lt (hE.each e he).1 hb).1, fun b hb => (hrow.lt hb).1⟩
  obtain ⟨-, k1, -, -⟩ := hb.at
  have y0 : IntKind.i64.wrap (-1 - (N : Int)) = m := by rw [IntKind.wrap_i64]; omega
  have hmb : -1000000000 ≤ m ∧ m ≤ 0 := by omega
  clear hb hE hrow hap hxl hNN hm
  go_enter Tryz.func43, Tryz.ntmps43
  go_wp2
  go_loopw [5] (fun x5 wr => ∃ i : Nat, i ≤ n ∧ x5 = .int .i64 (i : Int) ∧ Hid (LI w wr p vl (.slice aL N cL) vh vw LE (fun b => b = p ∨ (Value.slice aL N cL).ownBlock = some b ∨ (Value.slice av n cv).ownBlock = some b) ∧ RowAt wr 36 2 (.slice av n cv) n (mkF m i ++ xs.drop (i * 2)))) (fun x5 _ => n - (intOf x5).toNat)
  case atStart => exact ⟨0, Nat.zero_le _, rfl, HL0.out⟩
  case round =>
    obtain ⟨i, hi, rfl, HI⟩ := hrel
    by_cases hlt : i < n
    · have hlt' : (i : Int) < (n : Int) := by omega
      have hiw : IntKind.i64.wrap ((i : Int) + 1) = (i : Int) + 1 := by rw [IntKind.wrap_i64]; omega
      obtain ⟨g, off, cap, cur, he, -⟩ := HI.out.2.more (by omega)
      injection he with he1 _ he3
      subst he1
      have hrw := HI.out.2
      have hth : wr.there g (off + i * 2) 2 := fun j hj => by
        have hlen : (mkF m i ++ xs.drop (i * 2)).length = n * 2 := hrw.1
        have hjl : i * 2 + j < (mkF m i ++ xs.drop (i * 2)).length := by rw [hlen]; omega
        refine ⟨?_, hrw.frozen rfl _⟩
        rw [Nat.add_assoc, hrw.cell rfl (List.getElem?_eq_getElem hjl)]; rfl
      have hS : Fr wr (wr.setCells g (off + i * 2) (mkV m)) (fun b => b = g) := Fr.setCells g (fun b => b = g) rfl _ _ _
      have HI2 : Hid (LI w (wr.setCells g (off + i * 2) (mkV m)) p vl (.slice aL N cL) vh vw LE (fun b => b = p ∨ (Value.slice aL N cL).ownBlock = some b ∨ (Value.slice (some ⟨g, off, none⟩) n cv).ownBlock = some b) ∧ RowAt (wr.setCells g (off + i * 2) (mkV m)) 36 2 (.slice (some ⟨g, off, none⟩) n cv) n (mkF m (i + 1) ++ xs.drop ((i + 1) * 2))) := by
        refine ⟨⟨HI.out.1.blk.fr hS fun q => ?_, HI.out.1.row.fr hS fun b hb q => ?_, fun e he => ⟨RowAt.fr (HI.out.1.each e he).1 hS fun b hb q => ?_, (HI.out.1.each e he).2⟩, HI.out.1.fr.trans hS fun b _ q => ?_⟩, ?_⟩
        · subst q; exact hrw.ne_type HI.out.1.blk (by decide) rfl
        · subst q
          obtain ⟨_, cur', hc'⟩ := hrw.lt (g := b) rfl
          exact HI.out.1.row.ne_type hc' (by decide) hb
        · subst q; exact HX.out.2.2.1 e he b rfl hb
        · rcases q with q | q
          · exact q
          · subst q; exact .inr (.inr rfl)
        · have h1 := RowAt.sets (mkV m) hrw (j := i * 2) (by rw [mkV_len]; rw [hrw.1]; omega)
          rw [mkV_len, List.take_append_of_le_length (by rw [mkF_len]; omega), List.take_of_length_le (by rw [mkF_len]; omega), List.drop_append, mkF_len, List.drop_eq_nil_of_le (by rw [mkF_len]; omega), List.nil_append, show i * 2 + 2 - i * 2 = 2 by omega, List.drop_drop] at h1
          rw [mkF_snoc, show (i + 1) * 2 = i * 2 + 2 by omega]
          exact h1
      clear hrw HI hS
      go_upto_region 4 with fail
      rename_i Kc hKc
      refine wp_region_lit ?_
      refine wpList_runTo rfl (some 19) rfl (.slice (some ⟨g, off, none⟩) n cv) wr (by kernel_rfl) ?_
      simp only [Act.put, List.setIfInBounds_toArray, List.set_cons_zero, List.set_cons_succ]
      refine wpList_runTo rfl (some 20) rfl (.int .i64 (i : Int)) wr (by kernel_rfl) ?_
      simp only [Act.put, List.setIfInBounds_toArray, List.set_cons_zero, List.set_cons_succ]
      refine wpList_runTo rfl (some 21) rfl (.int .i64 m) wr (by kernel_rfl) ?_
      simp only [Act.put, List.setIfInBounds_toArray, List.set_cons_zero, List.set_cons_succ]
      refine wpList_runTo rfl (some 22) rfl (.agg #[.slice none 0 0, .int .i64 m]) wr (by kernel_rfl) ?_
      simp only [Act.put, List.setIfInBounds_toArray, List.set_cons_zero, List.set_cons_succ]
      refine wpList_runTo rfl (some 23) rfl (.pointer (some ⟨g, off + i * 2, none⟩)) wr (by go_simp) ?_
      simp only [Act.put, List.setIfInBounds_toArray, List.set_cons_zero, List.set_cons_succ]
      refine wpList_store_mid rfl 36 _ _ rfl g (off + i * 2) #[.slice none 0 0, .int .i64 m] (by kernel_rfl) (by kernel_rfl) hth (by kernel_rfl) (by kernel_rfl) ?_
      refine wpList_nil ?_
      refine hKc _ _ ?_
      clear hKc hth
      change _ at HI2
      have e9 : (#[Value.slice none 0 0, Value.int .i64 m] : Array Value).toList = mkV m := rfl
      rw [e9]
      generalize wr.setCells g (off + i * 2) (mkV m) = w2 at *
      simp only [Act.put, List.setIfInBounds_toArray, List.set_cons_zero, List.set_cons_succ]
      go_wp2
      go_roundw
      case rel => exact ⟨i + 1, by omega, by go_num, HI2.out⟩
      case measure => simp [intOf]; omega
    · have hge : ¬ (i : Int) < (n : Int) := by omega
      have hin : i = n := by omega
      have hrw : RowAt wr 36 2 (.slice av n cv) n (mkF m n) := by
        have := HI.out.2
        rw [hin, List.drop_eq_nil_of_le (by rw [HX.out.1]; omega), List.append_nil] at this
        exact this
      obtain ⟨a8, c8, w8, hr8, hb8, hLI8, hnw8, hkeep⟩ := HI.out.1.app hrw hmb (by omega) HX.out.2.1 (by omega) (.inl rfl) (fun b hb _ => .inr (.inl hb))
      have hrw8 := hkeep hrw (by decide) (by decide)
      have kk1 := HI.out.1.blk.at.2.1
      have kk2 := hb8.at.2.1
      have zz1 := hb8.frz 1
      have HR8 : Hid _ := hr8
      have hzr := HI.out.1.fr.size
      have HI8 : Hid (LI w (w8.setCell ⟨p, 1, none⟩ (.slice a8 (N + 1) c8)) p vl (.slice a8 (N + 1) c8) vh vw (LE ++ [⟨.slice av n cv, m, n⟩]) (fun b => b = p ∨ (Value.slice aL N cL).ownBlock = some b ∨ (Value.slice av n cv).ownBlock = some b) ∧ RowAt (w8.setCell ⟨p, 1, none⟩ (.slice a8 (N + 1) c8)) 36 2 (.slice av n cv) n (mkF m n) ∧ newer w (.slice aL N cL) (.slice a8 (N + 1) c8)) := ⟨hLI8, hrw8, by
        rcases hnw8 with q | ⟨g, q, hg⟩
        · exact .inl q
        · exact .inr ⟨g, q, by omega⟩⟩
      clear hr8 hb8 hLI8 hnw8 hkeep hrw8 hrw HI hin hzr
      go_upto_region 5 with fail
      rename_i Kc hKc
      refine wp_region_lit ?_
      refine wpList_runTo rfl (some 24) rfl (.pointer (some ⟨p, 0, none⟩)) wr (by kernel_rfl) ?_
      simp only [Act.put, List.setIfInBounds_toArray, List.set_cons_zero, List.set_cons_succ]
      refine wpList_runTo rfl (some 25) rfl (.pointer (some ⟨p, 0, none⟩)) wr (by kernel_rfl) ?_
      simp only [Act.put, List.setIfInBounds_toArray, List.set_cons_zero, List.set_cons_succ]
      refine wpList_runTo rfl (some 26) rfl (.pointer (some ⟨p, 0, none⟩)) wr (by kernel_rfl) ?_
      simp only [Act.put, List.setIfInBounds_toArray, List.set_cons_zero, List.set_cons_succ]
      refine wpList_runTo rfl (some 27) rfl (.pointer (some ⟨p, 1, none⟩)) wr (by kernel_rfl) ?_
      simp only [Act.put, List.setIfInBounds_toArray, List.set_cons_zero, List.set_cons_succ]
      refine wpList_runTo rfl (some 28) rfl (.slice aL N cL) wr (by go_simp) ?_
      simp only [Act.put, List.setIfInBounds_toArray, List.set_cons_zero, List.set_cons_succ]
      refine wpList_runTo rfl (some 29) rfl (.slice av n cv) wr (by kernel_rfl) ?_
      simp only [Act.put, List.setIfInBounds_toArray, List.set_cons_zero, List.set_cons_succ]
      refine wpList_runTo rfl (some 30) rfl (.int .i64 m) wr (by kernel_rfl) ?_
      simp only [Act.put, List.setIfInBounds_toArray, List.set_cons_zero, List.set_cons_succ]
      refine wpList_runTo rfl (some 31) rfl (.agg #[.slice av n cv, .int .i64 m]) wr (by kernel_rfl) ?_
      simp only [Act.put, List.setIfInBounds_toArray, List.set_cons_zero, List.set_cons_succ]
      refine wpList_runTo rfl (some 32) rfl (.slice (some ⟨wr.heap.size, 0, none⟩) 1 1) (wr.alloc (.cells #[.slice av n cv, .int .i64 m] 137)) (by kernel_rfl) ?_
      simp only [Act.put, List.setIfInBounds_toArray, List.set_cons_zero, List.set_cons_succ]
      refine wpList_runTo rfl (some 33) rfl (.slice a8 (N + 1) c8) w8 (exec_append _ _ 51 rfl (by kernel_rfl) (by kernel_rfl) HR8.out) ?_
      simp only [Act.put, List.setIfInBounds_toArray, List.set_cons_zero, List.set_cons_succ]
      refine wpList_runTo rfl (some 34) rfl (.pointer (some ⟨p, 0, none⟩)) w8 (by kernel_rfl) ?_
      simp only [Act.put, List.setIfInBounds_toArray, List.set_cons_zero, List.set_cons_succ]
      refine wpList_runTo rfl (some 35) rfl (.pointer (some ⟨p, 1, none⟩)) w8 (by kernel_rfl) ?_
      simp only [Act.put, List.setIfInBounds_toArray, List.set_cons_zero, List.set_cons_succ]
      refine wpList_skipTo rfl rfl (w8.setCell ⟨p, 1, none⟩ (.slice a8 (N + 1) c8)) (by go_simp) ?_
      refine wpList_nil ?_
      refine hKc _ _ ?_
      clear hKc HR8 kk1 kk2 zz1
      generalize w8.setCell ⟨p, 1, none⟩ (.slice a8 (N + 1) c8) = w9 at *
      go_wp2
      go_loopw [1, 6] (fun x1 x6 wr => ∃ (j c' : Nat) (a' : Option Addr), j ≤ 64 ∧ x6 = .int .i64 (j : Int) ∧ x1 = .slice a' (n + j) c' ∧ Hid (LI w wr p vl (.slice a8 (N + 1) c8) vh vw (LE ++ [⟨.slice av n cv, m, n⟩]) (fun b => b = p ∨ (Value.slice aL N cL).ownBlock = some b ∨ (Value.slice av n cv).ownBlock = some b) ∧ RowAt wr 36 2 (.slice a' (n + j) c') (n + j) (mkF m (n + j)) ∧ newer w (.slice av n cv) (.slice a' (n + j) c') ∧ ∀ e, e ∈ (LE ++ [⟨.slice av n cv, m, n⟩]) → Und 2 e.v e.n (.slice a' (n + j) c') (n + j))) (fun _ x6 _ => 64 - (intOf x6).toNat)
      case atStart =>
        refine ⟨0, cv, av, by decide, rfl, rfl, HI8.out.1, HI8.out.2.1, .inl rfl, fun e he => ?_⟩
        rcases List.mem_append.1 he with q | q
        · exact Und.of_ne (HX.out.2.2.1 e q)
        · obtain rfl := List.mem_singleton.1 q
          exact Und.refl _ _ _
      case round =>
        obtain ⟨j, c', a', hj, rfl, rfl, HJ⟩ := hrel
        by_cases hj6 : j < 64
        · have hj6' : (j : Int) < 64 := by omega
          have hjw : IntKind.i64.wrap ((j : Int) + 1) = (j : Int) + 1 := by rw [IntKind.wrap_i64]; omega
          obtain ⟨i2, hi2, hz2, hsz2, hby2⟩ := infoFm
          have hF7 : Fr wr (wr.alloc (.cells #[.slice none 0 0, .int .i64 m] 36)) (fun _ => False) := Fr.alloc _ _ _
          obtain ⟨a9, c9, w10, hr9, hrow9, hg9⟩ := two_app Tryz.underlying30 hi2 hz2 hsz2 hby2 HJ.out.2.1 (a := .slice none 0 0) (b := .int .i64 m) rfl rfl (by omega)
          have hF10 := hg9.fr
          have hJ1 := HJ.out.1
          have hz1 := hJ1.fr.size
          have hnx : ∀ b, (Value.slice a' (n + j) c').ownBlock = some b → b < w.heap.size → (Value.slice av n cv).ownBlock = some b := fun b hb hlt => by
            rcases HJ.out.2.2.1 with q | ⟨g, q, hg⟩
            · rw [← q]; exact hb
            · rw [q] at hb; injection hb with hb; omega
          have HJ2 : Hid (LI w w10 p vl (.slice a8 (N + 1) c8) vh vw (LE ++ [⟨.slice av n cv, m, n⟩]) (fun b => b = p ∨ (Value.slice aL N cL).ownBlock = some b ∨ (Value.slice av n cv).ownBlock = some b) ∧ RowAt w10 36 2 (.slice a9 (n + (j + 1)) c9) (n + (j + 1)) (mkF m (n + (j + 1))) ∧ newer w (.slice av n cv) (.slice a9 (n + (j + 1)) c9) ∧ ∀ e, e ∈ (LE ++ [⟨.slice av n cv, m, n⟩]) → Und 2 e.v e.n (.slice a9 (n + (j + 1)) c9) (n + (j + 1))) := by
            refine ⟨⟨(hJ1.blk.fr hF7 id).fr hF10 (HJ.out.2.1.ne_type hJ1.blk (by decide)), (hJ1.row.fr hF7 fun _ _ q => q).fr hF10 fun b hb q => ?_, fun e he => ⟨hg9.keep ((hJ1.each e he).1.fr hF7 fun _ _ q => q) (HJ.out.2.2.2 e he), (hJ1.each e he).2⟩, (hJ1.fr.trans hF7 (e3 := (fun b => b = p ∨ (Value.slice aL N cL).ownBlock = some b ∨ (Value.slice av n cv).ownBlock = some b)) fun _ _ q => q.elim id False.elim).trans hF10 fun b hb q => ?_⟩, ?_, ?_, fun e he => ?_⟩
            · obtain ⟨_, cur, hc⟩ := hJ1.row.lt hb
              exact HJ.out.2.1.ne_type hc (by decide) q
            · rcases q with q | q
              · exact q
              · exact .inr (.inr (hnx b q hb))
            · rw [← Nat.add_assoc, mkF_snoc]; exact hrow9
            · rcases hg9.newer with q | ⟨g, q, hg⟩
              · rcases HJ.out.2.2.1 with q2 | ⟨g, q2, hg⟩
                · exact .inl (q.trans q2)
                · exact .inr ⟨g, q.trans q2, hg⟩
              · exact .inr ⟨g, q, by have := hF7.size; omega⟩
            · rw [← Nat.add_assoc]
              exact hg9.und (HJ.out.2.2.2 e he) fun b hb => by have := ((hJ1.each e he).1.lt hb).1; have := hF7.size; omega
          have HR9 : Hid _ := hr9
          clear hr9 hrow9 hg9 hF7 hF10 hJ1 hz1 hnx HJ hi2 hz2 hsz2 hby2 i2
          go_upto_region 9 with fail
          rename_i Kc hKc
          refine wp_region_lit ?_
          refine wpList_runTo rfl (some 40) rfl (.slice a' (n + j) c') wr (by kernel_rfl) ?_
          simp only [Act.put, List.setIfInBounds_toArray, List.set_cons_zero, List.set_cons_succ]
          refine wpList_runTo rfl (some 41) rfl (.int .i64 m) wr (by kernel_rfl) ?_
          simp only [Act.put, List.setIfInBounds_toArray, List.set_cons_zero, List.set_cons_succ]
          refine wpList_runTo rfl (some 42) rfl (.agg #[.slice none 0 0, .int .i64 m]) wr (by kernel_rfl) ?_
          simp only [Act.put, List.setIfInBounds_toArray, List.set_cons_zero, List.set_cons_succ]
          refine wpList_runTo rfl (some 43) rfl (.slice (some ⟨wr.heap.size, 0, none⟩) 1 1) (wr.alloc (.cells #[.slice none 0 0, .int .i64 m] 36)) (by kernel_rfl) ?_
          simp only [Act.put, List.setIfInBounds_toArray, List.set_cons_zero, List.set_cons_succ]
          refine wpList_runTo rfl (some 44) rfl (.slice a9 (n + j + 1) c9) w10 (exec_append _ _ 30 rfl (by kernel_rfl) (by kernel_rfl) HR9.out) ?_
          simp only [Act.put, List.setIfInBounds_toArray, List.set_cons_zero, List.set_cons_succ]
          refine wpList_runTo rfl (some 1) rfl (.slice a9 (n + j + 1) c9) w10 (by kernel_rfl) ?_
          simp only [Act.put, List.setIfInBounds_toArray, List.set_cons_zero, List.set_cons_succ]
          refine wpList_nil ?_
          refine hKc _ _ ?_
          clear hKc HR9
          go_wp2
          go_roundw
          case rel => exact ⟨j + 1, c9, a9, by omega, by go_num, rfl, HJ2.out⟩
          case measure => simp [intOf]; omega
        · have hj6' : ¬ (j : Int) < 64 := by omega
          have hlen1 : (LE ++ [(⟨.slice av n cv, m, n⟩ : Lw)]).length = N + 1 := by rw [List.length_append, HX.out.2.1]; rfl
          obtain ⟨aF, cF, wF, hrF, hbF, hLIF, hnwF, -⟩ := HJ.out.1.app HJ.out.2.1 hmb (by omega) hlen1 (by omega) (.inl rfl) (fun b hb hlt => by
            rcases HI8.out.2.2 with q | ⟨g, q, hg⟩
            · exact .inr (.inl (by rw [← q]; exact hb))
            · rw [q] at hb; injection hb with hb; omega)
          have kk1 := HJ.out.1.blk.at.2.1
          have kk2 := hbF.at.2.1
          have zz1 := hbF.frz 1
          have HRF : Hid _ := hrF
          have HO : Hid (LO w (wF.setCell ⟨p, 1, none⟩ (.slice aF (N + 1 + 1) cF)) p vl (.slice aL N cL) vh vw (.slice av n cv) LE) := by
            refine ⟨⟨_, _, hLIF.blk, ⟨hLIF.row, hLIF.each⟩, by rw [List.length_append, hlen1, HX.out.2.1]; rfl, fun e he b hb => ?_, ?_⟩, hLIF.fr⟩
            · rcases List.mem_append.1 he with q | q
              · rcases List.mem_append.1 q with q | q
                · exact .inl ⟨e, q, hb⟩
                · obtain rfl := List.mem_singleton.1 q
                  exact .inr (.inl hb)
              · obtain rfl := List.mem_singleton.1 q
                rcases HJ.out.2.2.1 with q2 | ⟨g, q2, hg⟩
                · exact .inr (.inl (by rw [← q2]; exact hb))
                · have hb' : (Value.slice a' (n + j) c').ownBlock = some b := hb
                  rw [q2] at hb'; injection hb' with hb'
                  exact .inr (.inr (by omega))
            · rcases hnwF with q | ⟨g, q, hg⟩
              · rcases HI8.out.2.2 with q2 | ⟨g, q2, hg⟩
                · exact .inl (q.trans q2)
                · exact .inr ⟨g, q.trans q2, hg⟩
              · exact .inr ⟨g, q, by have := HJ.out.1.fr.size; omega⟩
          clear hrF hbF hLIF hnwF HJ hlen1
          go_upto_region 10 with fail
          refine wp_region_lit ?_
          refine wpList_runTo rfl (some 45) rfl (.pointer (some ⟨p, 0, none⟩)) wr (by kernel_rfl) ?_
          simp only [Act.put, List.setIfInBounds_toArray, List.set_cons_zero, List.set_cons_succ]
          refine wpList_runTo rfl (some 46) rfl (.pointer (some ⟨p, 0, none⟩)) wr (by kernel_rfl) ?_
          simp only [Act.put, List.setIfInBounds_toArray, List.set_cons_zero, List.set_cons_succ]
          refine wpList_runTo rfl (some 47) rfl (.pointer (some ⟨p, 0, none⟩)) wr (by kernel_rfl) ?_
          simp only [Act.put, List.setIfInBounds_toArray, List.set_cons_zero, List.set_cons_succ]
          refine wpList_runTo rfl (some 48) rfl (.pointer (some ⟨p, 1, none⟩)) wr (by kernel_rfl) ?_
          simp only [Act.put, List.setIfInBounds_toArray, List.set_cons_zero, List.set_cons_succ]
          refine wpList_runTo rfl (some 49) rfl (.slice a8 (N + 1) c8) wr (by go_simp) ?_
          simp only [Act.put, List.setIfInBounds_toArray, List.set_cons_zero, List.set_cons_succ]
          refine wpList_runTo rfl (some 50) rfl (.slice a' (n + j) c') wr (by kernel_rfl) ?_
          simp only [Act.put, List.setIfInBounds_toArray, List.set_cons_zero, List.set_cons_succ]
          refine wpList_runTo rfl (some 51) rfl (.int .i64 m) wr (by kernel_rfl) ?_
          simp only [Act.put, List.setIfInBounds_toArray, List.set_cons_zero, List.set_cons_succ]
          refine wpList_runTo rfl (some 52) rfl (.agg #[.slice a' (n + j) c', .int .i64 m]) wr (by kernel_rfl) ?_
          simp only [Act.put, List.setIfInBounds_toArray, List.set_cons_zero, List.set_cons_succ]
          refine wpList_runTo rfl (some 53) rfl (.slice (some ⟨wr.heap.size, 0, none⟩) 1 1) (wr.alloc (.cells #[.slice a' (n + j) c', .int .i64 m] 137)) (by kernel_rfl) ?_
          simp only [Act.put, List.setIfInBounds_toArray, List.set_cons_zero, List.set_cons_succ]
          refine wpList_runTo rfl (some 54) rfl (.slice aF (N + 1 + 1) cF) wF (exec_append _ _ 51 rfl (by kernel_rfl) (by kernel_rfl) HRF.out) ?_
          simp only [Act.put, List.setIfInBounds_toArray, List.set_cons_zero, List.set_cons_succ]
          refine wpList_runTo rfl (some 55) rfl (.pointer (some ⟨p, 0, none⟩)) wF (by kernel_rfl) ?_
          simp only [Act.put, List.setIfInBounds_toArray, List.set_cons_zero, List.set_cons_succ]
          refine wpList_runTo rfl (some 56) rfl (.pointer (some ⟨p, 1, none⟩)) wF (by kernel_rfl) ?_
          simp only [Act.put, List.setIfInBounds_toArray, List.set_cons_zero, List.set_cons_succ]
          refine wpList_skipTo rfl rfl (wF.setCell ⟨p, 1, none⟩ (.slice aF (N + 1 + 1) cF)) (by go_simp) ?_
          refine wpList_nil ?_
          clear HRF kk1 kk2 zz1
          go_end0
          exact ⟨rfl, by rw [HX.out.2.1]; exact HO.out⟩
end Go.Proofs.YtkpoheknmcepnaaGreatDoor

namespace Go.Proofs.YtkpoheknmcepnaaGreatDoor
set_option linter.unusedVariables false
set_option linter.unusedSimpArgs false
open Go.RowKit Go.Great

/-- What fill leaves. -/
structure FO (w w' : World) (p : Nat) (vl vL vh vw : Value) (E : List Ow) (fs : List Fm) : Prop where
  out : ∃ vl' E', OwB w' p vl' vL vh vw ∧ OwsAt w' vl' E' ∧ E'.length = E.length + 2 * fs.length ∧ (∀ e, e ∈ E' → ∀ b, e.v.ownBlock = some b → (∃ e0, e0 ∈ E ∧ e0.v.ownBlock = some b) ∨ (∃ x, x ∈ fs ∧ x.v.ownBlock = some b) ∨ w.heap.size ≤ b) ∧ newer w vl vl'
  fr : Fr w w' (fun b => b = p ∨ vl.ownBlock = some b ∨ ∃ x, x ∈ fs ∧ x.v.ownBlock = some b)
/-- What fill should do. -/
def FillOK : Prop := ∀ {w : World} {p : Nat} {vl vL vh vw v : Value} {E : List Ow} {fs : List Fm}, OwB w p vl vL vh vw → OwsAt w vl E → FoundAt w v fs → (∀ e, e ∈ E → ∀ x, x ∈ fs → ∀ b, x.v.ownBlock = some b → e.v.ownBlock ≠ some b) → E.length + 2 * fs.length ≤ 90000000 → (∀ x, x ∈ fs → x.l.length ≤ 900000000) →
  Calls Tryz.prog 42 #[.pointer (some ⟨p, 0, none⟩), v] w fun e w' => e = .returned (.tuple #[]) ∧ FO w w' p vl vL vh vw E fs
/-- The owner, whole: all that it has lies in blocks that S tells. -/
structure OT (w : World) (p : Nat) (vl vL vh vw : Value) (E : List Ow) (LE : List Lw) (hfs wfs : List Fm) (S : Nat → Prop) : Prop where
  blk : OwB w p vl vL vh vw
  ows : OwsAt w vl E
  lws : LwsAt w vL LE
  held : FoundAt w vh hfs
  want : FoundAt w vw wfs
  eq : fsOf hfs = fsOf wfs
  a1 : ∀ e, e ∈ E → ∀ x, x ∈ hfs → ∀ b, x.v.ownBlock = some b → e.v.ownBlock ≠ some b
  a4 : ∀ e, e ∈ LE → ∀ b, vh.ownBlock = some b → e.v.ownBlock ≠ some b
  sp : S p
  sl : ∀ b, vl.ownBlock = some b → S b
  sL : ∀ b, vL.ownBlock = some b → S b
  sh : ∀ b, vh.ownBlock = some b → S b
  sw : ∀ b, vw.ownBlock = some b → S b
  sE : ∀ e, e ∈ E → ∀ b, e.v.ownBlock = some b → S b
  sLE : ∀ e, e ∈ LE → ∀ b, e.v.ownBlock = some b → S b
  shf : ∀ x, x ∈ hfs → ∀ b, x.v.ownBlock = some b → S b
  swf : ∀ x, x ∈ wfs → ∀ b, x.v.ownBlock = some b → S b
section
variable {w w' : World} {p : Nat} {vl vL vh vw : Value} {E : List Ow} {LE : List Lw} {hfs wfs : List Fm} {S S' ex : Nat → Prop}
theorem FoundAt.frx {v : Value} {fs : List Fm} (h : FoundAt w v fs) (hf : Fr w w' ex) (h1 : ∀ b, v.ownBlock = some b → ¬ ex b) (h2 : ∀ x, x ∈ fs → ∀ b, x.v.ownBlock = some b → ¬ ex b) : FoundAt w' v fs :=
  ⟨h.row.fr hf h1, fun x hx => RowAt.fr (h.each x hx) hf (h2 x hx), h.sep⟩
theorem OwsAt.frx (h : OwsAt w vl E) (hf : Fr w w' ex) (h1 : ∀ b, vl.ownBlock = some b → ¬ ex b) (h2 : ∀ e, e ∈ E → ∀ b, e.v.ownBlock = some b → ¬ ex b) : OwsAt w' vl E :=
  ⟨h.row.fr hf h1, fun e he => ⟨RowAt.fr (h.each e he).1 hf (h2 e he), (h.each e he).2⟩⟩
theorem LwsAt.frx (h : LwsAt w vL LE) (hf : Fr w w' ex) (h1 : ∀ b, vL.ownBlock = some b → ¬ ex b) (h2 : ∀ e, e ∈ LE → ∀ b, e.v.ownBlock = some b → ¬ ex b) : LwsAt w' vL LE :=
  ⟨h.row.fr hf h1, fun e he => ⟨RowAt.fr (h.each e he).1 hf (h2 e he), (h.each e he).2⟩⟩
theorem OT.fr (h : OT w p vl vL vh vw E LE hfs wfs S) (hf : Fr w w' ex) (hx : ∀ b, S b → ¬ ex b) : OT w' p vl vL vh vw E LE hfs wfs S :=
  ⟨h.blk.fr hf (hx p h.sp), h.ows.frx hf (fun b hb => hx b (h.sl b hb)) (fun e he b hb => hx b (h.sE e he b hb)), h.lws.frx hf (fun b hb => hx b (h.sL b hb)) (fun e he b hb => hx b (h.sLE e he b hb)), h.held.frx hf (fun b hb => hx b (h.sh b hb)) (fun x hx' b hb => hx b (h.shf x hx' b hb)), h.want.frx hf (fun b hb => hx b (h.sw b hb)) (fun x hx' b hb => hx b (h.swf x hx' b hb)), h.eq, h.a1, h.a4, h.sp, h.sl, h.sL, h.sh, h.sw, h.sE, h.sLE, h.shf, h.swf⟩
theorem OT.mono (h : OT w p vl vL vh vw E LE hfs wfs S) (hs : ∀ b, b < w.heap.size → S b → S' b) : OT w p vl vL vh vw E LE hfs wfs S' :=
  ⟨h.blk, h.ows, h.lws, h.held, h.want, h.eq, h.a1, h.a4, hs p h.blk.lt h.sp, fun b hb => hs b (h.ows.row.lt hb).1 (h.sl b hb), fun b hb => hs b (h.lws.row.lt hb).1 (h.sL b hb), fun b hb => hs b (h.held.row.lt hb).1 (h.sh b hb), fun b hb => hs b (h.want.row.lt hb).1 (h.sw b hb), fun e he b hb => hs b (RowAt.lt (h.ows.each e he).1 hb).1 (h.sE e he b hb), fun e he b hb => hs b (RowAt.lt (h.lws.each e he).1 hb).1 (h.sLE e he b hb), fun x hx b hb => hs b (RowAt.lt (h.held.each x hx) hb).1 (h.shf x hx b hb), fun x hx b hb => hs b (RowAt.lt (h.want.each x hx) hb).1 (h.swf x hx b hb)⟩
end
/-- What takes leaves: other lists are held. -/
structure TO (w w' : World) (p : Nat) (lv mv : Value) (lfs mfs : List Fm) (NE NL : Nat) (S : Nat → Prop) : Prop where
  out : ∃ vl vL E LE, OT w' p vl vL lv mv E LE lfs mfs (fun b => S b ∨ w.heap.size ≤ b) ∧ E.length = NE ∧ LE.length = NL
  fr : Fr w w' S
set_option maxRecDepth 100000 in
set_option maxHeartbeats 4000000 in
theorem takes_any (hfill : FillOK) {w : World} {p : Nat} {vl vL vh vw lv mv : Value} {E : List Ow} {LE : List Lw} {hfs wfs lfs mfs : List Fm} {S0 S : Nat → Prop} (h : OT w p vl vL vh vw E LE hfs wfs S0) (hl : FoundAt w lv lfs) (hm : FoundAt w mv mfs) (heq : fsOf lfs = fsOf mfs)
    (hS0 : ∀ b, S0 b → S b) (hnl : ∀ b, lv.ownBlock = some b → S b ∧ ¬ S0 b) (hnm : ∀ b, mv.ownBlock = some b → S b ∧ ¬ S0 b) (hnlf : ∀ x, x ∈ lfs → ∀ b, x.v.ownBlock = some b → S b ∧ ¬ S0 b) (hnmf : ∀ x, x ∈ mfs → ∀ b, x.v.ownBlock = some b → S b ∧ ¬ S0 b)
    (hE : E.length + 2 * hfs.length ≤ 80000000) (hLE : LE.length ≤ 80000000) (hh : hfs.length ≤ 10000000) (hlf : lfs.length ≤ 10000000) (hb9 : ∀ x, x ∈ hfs → x.l.length ≤ 900000000) :
    Calls Tryz.prog 18 #[.pointer (some ⟨p, 0, none⟩), lv, mv] w fun e w' => e = .returned (.bool true) ∧ TO w w' p lv mv lfs mfs (E.length + 2 * hfs.length) (LE.length + 2) S := by
  obtain ⟨al, cl, rfl, -⟩ := hl.row.form
  obtain ⟨am, cm, rfl, -⟩ := hm.row.form
  obtain ⟨ah, ch, rfl, -⟩ := h.held.row.form
  obtain ⟨aw, cw, rfl, -⟩ := h.want.row.form
  obtain ⟨nl, hnl'⟩ : ∃ nl, lfs.length = nl := ⟨_, rfl⟩
  obtain ⟨nm, hnm'⟩ : ∃ nm, mfs.length = nm := ⟨_, rfl⟩
  obtain ⟨nh, hnh'⟩ : ∃ nh, hfs.length = nh := ⟨_, rfl⟩
  obtain ⟨nw, hnw'⟩ : ∃ nw, wfs.length = nw := ⟨_, rfl⟩
  rw [hnl'] at hl hnl hlf ⊢
  rw [hnm'] at hm hnm ⊢
  rw [hnh'] at h hh
  rw [hnw'] at h
  have hFa : Fr w w.drew (fun _ => False) := (Fr.refl w (fun _ => False)).drew
  have ha := h.fr hFa (fun _ _ q => q)
  obtain ⟨k0, k1, k2, k3⟩ := ha.blk.at
  have hfr1 := frames_any ha.held ha.want ha.eq (by omega)
  have HH : Hid (OT w.drew p vl vL (.slice ah nh ch) (.slice aw nw cw) E LE hfs wfs S0 ∧ FoundAt w (.slice al nl cl) lfs ∧ FoundAt w (.slice am nm cm) mfs ∧ Fr w w.drew (fun _ => False)) := ⟨ha, hl, hm, hFa⟩
  have HP : Hid (fsOf lfs = fsOf mfs ∧ (∀ b, S0 b → S b) ∧ (∀ b, (Value.slice al nl cl).ownBlock = some b → S b ∧ ¬ S0 b) ∧ (∀ b, (Value.slice am nm cm).ownBlock = some b → S b ∧ ¬ S0 b) ∧ (∀ x, x ∈ lfs → ∀ b, x.v.ownBlock = some b → S b ∧ ¬ S0 b) ∧ (∀ x, x ∈ mfs → ∀ b, x.v.ownBlock = some b → S b ∧ ¬ S0 b) ∧ hfs.length = nh ∧ lfs.length = nl) := ⟨heq, hS0, hnl, hnm, hnlf, hnmf, hnh', hnl'⟩
  have HB9 : Hid (∀ x, x ∈ hfs → x.l.length ≤ 900000000) := hb9
  have HFL : Hid FillOK := hfill
  have hSS : w.drew.cell? ⟨p, 2, none⟩ = some (.slice ah nh ch) ∧ w.drew.cell? ⟨p, 3, none⟩ = some (.slice aw nw cw) := ⟨k2, k3⟩
  clear h ha hl hm heq hS0 hnl hnm hnlf hnmf hFa k0 k1 k2 k3 hb9 hfill
  go_enter Tryz.func18, Tryz.ntmps18
  go_upto_region 1 with fail
  rename_i Kc hKc
  refine wp_region_held (S := fun w' => w'.cell? ⟨p, 2, none⟩ = some (.slice ah nh ch) ∧ w'.cell? ⟨p, 3, none⟩ = some (.slice aw nw cw)) (by kernel_rfl) ?_
  change wpAnyH _ _ _ _ _ _ _ _ (World.drew _)
  generalize w.drew = wa at *
  refine takeR (i := 0) (v := .pointer (some ⟨p, 0, none⟩)) (some 11) rfl rfl (by kernel_rfl) (by kernel_rfl) (by kernel_rfl) (fun _ _ _ h => h) (Or.inl ⟨by kernel_rfl, fun w' hSw => by kernel_rfl⟩) hSS ?_
  simp only [Act.put, List.setIfInBounds_toArray, List.set_cons_zero, List.set_cons_succ]
  refine takeR (i := 1) (v := .pointer (some ⟨p, 0, none⟩)) (some 12) rfl rfl (by kernel_rfl) (by kernel_rfl) (by kernel_rfl) (fun _ _ _ h => h) (Or.inl ⟨by kernel_rfl, fun w' hSw => by kernel_rfl⟩) hSS ?_
  simp only [Act.put, List.setIfInBounds_toArray, List.set_cons_zero, List.set_cons_succ]
  refine takeR (i := 2) (v := .pointer (some ⟨p, 2, none⟩)) (some 13) rfl rfl (by kernel_rfl) (by kernel_rfl) (by kernel_rfl) (fun _ _ _ h => h) (Or.inl ⟨by kernel_rfl, fun w' hSw => by kernel_rfl⟩) hSS ?_
  simp only [Act.put, List.setIfInBounds_toArray, List.set_cons_zero, List.set_cons_succ]
  refine takeR (i := 3) (v := .slice ah nh ch) (some 14) rfl rfl (by kernel_rfl) (by kernel_rfl) (by kernel_rfl) (fun _ _ _ h => h) (Or.inl ⟨by kernel_rfl, fun w' hSw => by have q0 := hSw.1; go_simp⟩) hSS ?_
  simp only [Act.put, List.setIfInBounds_toArray, List.set_cons_zero, List.set_cons_succ]
  refine takeR (i := 4) (v := .pointer (some ⟨p, 0, none⟩)) (some 15) rfl rfl (by kernel_rfl) (by kernel_rfl) (by kernel_rfl) (fun _ _ _ h => h) (Or.inl ⟨by kernel_rfl, fun w' hSw => by kernel_rfl⟩) hSS ?_
  simp only [Act.put, List.setIfInBounds_toArray, List.set_cons_zero, List.set_cons_succ]
  refine takeR (i := 5) (v := .pointer (some ⟨p, 0, none⟩)) (some 16) rfl rfl (by kernel_rfl) (by kernel_rfl) (by kernel_rfl) (fun _ _ _ h => h) (Or.inl ⟨by kernel_rfl, fun w' hSw => by kernel_rfl⟩) hSS ?_
  simp only [Act.put, List.setIfInBounds_toArray, List.set_cons_zero, List.set_cons_succ]
  refine takeR (i := 6) (v := .pointer (some ⟨p, 3, none⟩)) (some 17) rfl rfl (by kernel_rfl) (by kernel_rfl) (by kernel_rfl) (fun _ _ _ h => h) (Or.inl ⟨by kernel_rfl, fun w' hSw => by kernel_rfl⟩) hSS ?_
  simp only [Act.put, List.setIfInBounds_toArray, List.set_cons_zero, List.set_cons_succ]
  refine takeR (i := 7) (v := .slice aw nw cw) (some 18) rfl rfl (by kernel_rfl) (by kernel_rfl) (by kernel_rfl) (fun _ _ _ h => h) (Or.inl ⟨by kernel_rfl, fun w' hSw => by have q0 := hSw.2; go_simp⟩) hSS ?_
  simp only [Act.put, List.setIfInBounds_toArray, List.set_cons_zero, List.set_cons_succ]
  refine wpAnyH_ready (rs := [8]) (by kernel_rfl) (by simp) ?_
  refine AllReadyH.cons rfl (fun K1 hK1 => ?_) AllReadyH.nil
  rw [if_pos (by kernel_rfl)]
  refine callR (d := some 19) rfl 41 #[.slice ah nh ch, .slice aw nw cw] (by kernel_rfl) hfr1 ?_
  rintro e wb ⟨rfl, hFb⟩
  have hb1 := HH.out.1.fr hFb (fun _ _ q => q)
  have hSSb : wb.cell? ⟨p, 2, none⟩ = some (.slice ah nh ch) ∧ wb.cell? ⟨p, 3, none⟩ = some (.slice aw nw cw) := ⟨hb1.blk.at.2.2.1, hb1.blk.at.2.2.2⟩
  refine ⟨_, rfl, ?_⟩
  refine hK1.out _ _ hSSb (fun _ => ?_)
  clear hK1 hfr1 hSS
  simp only [Act.put, List.setIfInBounds_toArray, List.set_cons_zero, List.set_cons_succ]
  refine takeR (i := 9) (v := .bool true) (some 7) rfl rfl (by kernel_rfl) (by kernel_rfl) (by kernel_rfl) (fun _ _ _ h => h) (Or.inl ⟨by kernel_rfl, fun w' hSw => by kernel_rfl⟩) hSSb ?_
  simp only [Act.put, List.setIfInBounds_toArray, List.set_cons_zero, List.set_cons_succ]
  refine wpAnyH_done (by kernel_rfl) ?_ _
  refine hKc _ _ ?_
  clear hKc
  have HF0 : Hid (Fr w wb (fun _ => False)) := HH.out.2.2.2.trans hFb fun _ _ q => q.elim id id
  have HH1 : Hid (OT wb p vl vL (.slice ah nh ch) (.slice aw nw cw) E LE hfs wfs S0) := hb1
  have q2 := hSSb.1
  have hfil := HFL.out hb1.blk hb1.ows hb1.held hb1.a1 (by omega) HB9.out
  clear hSSb hb1 hFb
  go_wp2_with (go_at_call 42; fail)
  refine hfil.mono ?_
  clear hfil
  rintro e wc ⟨rfl, hFO⟩
  obtain ⟨vl', E', hB2, hO2, hlen2, hbl2, hnw2⟩ := hFO.out
  have hT := HH1.out
  have ap36 : ∀ {u : Value} {k : Nat} {ys : List Value} {e : TypeId}, RowAt wb e 2 u k ys → e ≠ 53 → e ≠ 134 → e ≠ 5 → ∀ b, u.ownBlock = some b → ¬ (b = p ∨ vl.ownBlock = some b ∨ ∃ x, x ∈ hfs ∧ x.v.ownBlock = some b) := fun hu h1 h2 h3 b hb q => by
    obtain ⟨_, cur, hc⟩ := hu.lt hb
    rcases q with q | q | ⟨x, hx, q⟩
    · subst q; exact h1 (obj_type hc hT.blk)
    · obtain ⟨_, cur2, hc2⟩ := hT.ows.row.lt q
      exact h2 (obj_type hc hc2)
    · obtain ⟨_, cur2, hc2⟩ := RowAt.lt (hT.held.each x hx) q
      exact h3 (obj_type hc hc2)
  have hL2 : LwsAt wc vL LE := hT.lws.frx hFO.fr (ap36 hT.lws.row (by decide) (by decide) (by decide)) fun e he => ap36 (hT.lws.each e he).1 (by decide) (by decide) (by decide)
  have hrow2 := hT.held.row.fr hFO.fr (ap36 hT.held.row (by decide) (by decide) (by decide))
  rw [HP.out.2.2.2.2.2.2.1] at hrow2
  have hex2 : ∀ b, (b = p ∨ vl.ownBlock = some b ∨ ∃ x, x ∈ hfs ∧ x.v.ownBlock = some b) → S0 b := fun b q => by
    rcases q with q | q | ⟨x, hx, q⟩
    · subst q; exact hT.sp
    · exact hT.sl b q
    · exact hT.shf x hx b q
  have hlis := listed_any hB2 hL2 (by omega) hrow2 (by omega) hT.a4
  have q3 := hB2.at.2.2.1
  have HC : Hid (OwB wc p vl' vL (.slice ah nh ch) (.slice aw nw cw) ∧ OwsAt wc vl' E' ∧ E'.length = E.length + 2 * hfs.length ∧ (∀ e, e ∈ E' → ∀ b, e.v.ownBlock = some b → (∃ e0, e0 ∈ E ∧ e0.v.ownBlock = some b) ∨ (∃ x, x ∈ hfs ∧ x.v.ownBlock = some b) ∨ wb.heap.size ≤ b) ∧ newer wb vl vl' ∧ LwsAt wc vL LE ∧ RowAt wc 36 2 (.slice ah nh ch) nh (flatL fmV hfs)) := ⟨hB2, hO2, hlen2, hbl2, hnw2, hL2, hrow2⟩
  have HF2 : Hid (Fr w wc S0) := (HF0.out.mono (e2 := S0) fun _ _ q => q.elim).trans hFO.fr fun b _ q => q.elim id (hex2 b)
  have HZ2 : Hid (wb.heap.size ≤ wc.heap.size) := hFO.fr.size
  clear hFO hB2 hO2 hlen2 hbl2 hnw2 hL2 hrow2 ap36 hex2 hT q2
  go_wp2_with (go_at_call 43; fail)
  refine hlis.mono ?_
  clear hlis
  rintro e wd ⟨rfl, hLO⟩
  obtain ⟨vL', LE', hB3, hL3, hlen3, hbl3, hnw3⟩ := hLO.out
  have hT := HH1.out
  have apx : ∀ {u : Value} {k s : Nat} {ys : List Value} {e : TypeId}, RowAt wc e s u k ys → e ≠ 53 → e ≠ 137 → e ≠ 36 → ∀ b, u.ownBlock = some b → ¬ (b = p ∨ vL.ownBlock = some b ∨ (Value.slice ah nh ch).ownBlock = some b) := fun hu h1 h2 h3 b hb q => by
    obtain ⟨_, cur, hc⟩ := hu.lt hb
    rcases q with q | q | q
    · subst q; exact h1 (obj_type hc HC.out.1)
    · obtain ⟨_, cur2, hc2⟩ := HC.out.2.2.2.2.2.1.row.lt q
      exact h2 (obj_type hc hc2)
    · obtain ⟨_, cur2, hc2⟩ := HC.out.2.2.2.2.2.2.lt q
      exact h3 (obj_type hc hc2)
  have hO3 : OwsAt wd vl' E' := HC.out.2.1.frx hLO.fr (apx HC.out.2.1.row (by decide) (by decide) (by decide)) fun e he => apx (HC.out.2.1.each e he).1 (by decide) (by decide) (by decide)
  have hex3 : ∀ b, (b = p ∨ vL.ownBlock = some b ∨ (Value.slice ah nh ch).ownBlock = some b) → S0 b := fun b q => by
    rcases q with q | q | q
    · subst q; exact hT.sp
    · exact hT.sL b q
    · exact hT.sh b q
  have hF3 : Fr w wd S0 := HF2.out.trans hLO.fr fun b _ q => q.elim id (hex3 b)
  have hl3 : FoundAt wd (.slice al nl cl) lfs := HH.out.2.1.frx hF3 (fun b hb => (HP.out.2.2.1 b hb).2) fun x hx b hb => (HP.out.2.2.2.2.1 x hx b hb).2
  have hm3 : FoundAt wd (.slice am nm cm) mfs := HH.out.2.2.1.frx hF3 (fun b hb => (HP.out.2.2.2.1 b hb).2) fun x hx b hb => (HP.out.2.2.2.2.2.1 x hx b hb).2
  have hfr4 := frames_any hl3 hm3 HP.out.1 (by have := HP.out.2.2.2.2.2.2.2; omega)
  have HD : Hid (OwB wd p vl' vL' (.slice ah nh ch) (.slice aw nw cw) ∧ OwsAt wd vl' E' ∧ LwsAt wd vL' LE' ∧ FoundAt wd (.slice al nl cl) lfs ∧ FoundAt wd (.slice am nm cm) mfs ∧ Fr w wd S0) := ⟨hB3, hO3, hL3, hl3, hm3, hF3⟩
  have HD2 : Hid (LE'.length = LE.length + 2 ∧ (∀ e, e ∈ LE' → ∀ b, e.v.ownBlock = some b → (∃ e0, e0 ∈ LE ∧ e0.v.ownBlock = some b) ∨ (Value.slice ah nh ch).ownBlock = some b ∨ wc.heap.size ≤ b) ∧ newer wc vL vL') := ⟨hlen3, hbl3, hnw3⟩
  clear hLO hB3 hO3 hL3 hl3 hm3 hF3 hlen3 hbl3 hnw3 apx hex3 hT q3
  go_wp2_with (go_at_call 41; fail)
  refine hfr4.mono ?_
  clear hfr4
  rintro e we ⟨rfl, hFe⟩
  have hBe := HD.out.1.fr hFe id
  have hS7 : Fr we ((we.setCell ⟨p, 2, none⟩ (.slice al nl cl)).setCell ⟨p, 3, none⟩ (.slice am nm cm)) (fun b => b = p) := (Fr.setCell _ _ _ (fun b => b = p) rfl).trans (Fr.setCell _ _ _ (fun b => b = p) rfl) fun _ _ q => q.elim id id
  have hB7 := (hBe.set2 (.slice al nl cl)).set3 (.slice am nm cm)
  have hOe := HD.out.2.1.fr0 hFe
  have hLe := HD.out.2.2.1.fr0 hFe
  have hle := HD.out.2.2.2.1.fr0 hFe
  have hme := HD.out.2.2.2.2.1.fr0 hFe
  have hO7 := hOe.frx hS7 (fun b hb q => by subst q; exact hOe.row.ne_type hBe (by decide) hb) fun e he b hb q => by subst q; exact RowAt.ne_type (hOe.each e he).1 hBe (by decide) hb
  have hL7 := hLe.frx hS7 (fun b hb q => by subst q; exact hLe.row.ne_type hBe (by decide) hb) fun e he b hb q => by subst q; exact RowAt.ne_type (hLe.each e he).1 hBe (by decide) hb
  have hl7 := hle.frx hS7 (fun b hb q => by subst q; exact hle.row.ne_type hBe (by decide) hb) fun x hx b hb q => by subst q; exact RowAt.ne_type (hle.each x hx) hBe (by decide) hb
  have hm7 := hme.frx hS7 (fun b hb q => by subst q; exact hme.row.ne_type hBe (by decide) hb) fun x hx b hb q => by subst q; exact RowAt.ne_type (hme.each x hx) hBe (by decide) hb
  have hF7 : Fr w ((we.setCell ⟨p, 2, none⟩ (.slice al nl cl)).setCell ⟨p, 3, none⟩ (.slice am nm cm)) S0 := (HD.out.2.2.2.2.2.trans hFe (e3 := S0) fun _ _ q => q.elim id False.elim).trans hS7 fun b _ q => q.elim id fun q => by subst q; exact HH1.out.sp
  obtain ⟨-, -, e2, e3⟩ := hBe.at
  have z2 := hBe.frz 2
  have z3 := hBe.frz 3
  have hlk := looks_any hB7 hO7 (by rw [HC.out.2.2.1]; omega)
  have HG : Hid (OwB ((we.setCell ⟨p, 2, none⟩ (.slice al nl cl)).setCell ⟨p, 3, none⟩ (.slice am nm cm)) p vl' vL' (.slice al nl cl) (.slice am nm cm) ∧ OwsAt ((we.setCell ⟨p, 2, none⟩ (.slice al nl cl)).setCell ⟨p, 3, none⟩ (.slice am nm cm)) vl' E' ∧ LwsAt ((we.setCell ⟨p, 2, none⟩ (.slice al nl cl)).setCell ⟨p, 3, none⟩ (.slice am nm cm)) vL' LE' ∧ FoundAt ((we.setCell ⟨p, 2, none⟩ (.slice al nl cl)).setCell ⟨p, 3, none⟩ (.slice am nm cm)) (.slice al nl cl) lfs ∧ FoundAt ((we.setCell ⟨p, 2, none⟩ (.slice al nl cl)).setCell ⟨p, 3, none⟩ (.slice am nm cm)) (.slice am nm cm) mfs ∧ Fr w ((we.setCell ⟨p, 2, none⟩ (.slice al nl cl)).setCell ⟨p, 3, none⟩ (.slice am nm cm)) S0) := ⟨hB7, hO7, hL7, hl7, hm7, hF7⟩
  clear hBe hS7 hB7 hOe hLe hle hme hO7 hL7 hl7 hm7 hF7 hFe HD
  go_wp2_with (go_at_call 44; fail)
  generalize (we.setCell ⟨p, 2, none⟩ (.slice al nl cl)).setCell ⟨p, 3, none⟩ (.slice am nm cm) = w7 at *
  refine hlk.mono ?_
  clear hlk e2 e3 z2 z3
  rintro e w8 ⟨rfl, hF8⟩
  have hmk := marked_any (HG.out.1.fr hF8 id) (HG.out.2.2.1.fr0 hF8) (by rw [HD2.out.1]; omega)
  have HF8 : Hid (Fr w7 w8 (fun _ => False)) := hF8
  clear hF8
  go_wp2_with (go_at_call 45; fail)
  refine hmk.mono ?_
  clear hmk
  rintro e w9 ⟨rfl, hF9⟩
  have hF79 : Fr w7 w9 (fun _ => False) := HF8.out.trans hF9 fun _ _ q => q.elim id id
  have HTO : Hid (TO w w9 p (.slice al nl cl) (.slice am nm cm) lfs mfs (E.length + 2 * hfs.length) (LE.length + 2) S) := by
    have hT := HH1.out
    have hzb := HF0.out.size
    have hzc := HZ2.out
    refine ⟨⟨vl', vL', E', LE', ⟨HG.out.1.fr hF79 id, HG.out.2.1.fr0 hF79, HG.out.2.2.1.fr0 hF79, HG.out.2.2.2.1.fr0 hF79, HG.out.2.2.2.2.1.fr0 hF79, HP.out.1, fun e he x hx b hb q => ?_, fun e he b hb q => ?_, .inl (HP.out.2.1 p hT.sp), fun b hb => ?_, fun b hb => ?_, fun b hb => .inl (HP.out.2.2.1 b hb).1, fun b hb => .inl (HP.out.2.2.2.1 b hb).1, fun e he b hb => ?_, fun e he b hb => ?_, fun x hx b hb => .inl (HP.out.2.2.2.2.1 x hx b hb).1, fun x hx b hb => .inl (HP.out.2.2.2.2.2.1 x hx b hb).1⟩, HC.out.2.2.1, HD2.out.1⟩, (HG.out.2.2.2.2.2.trans hF79 (e3 := S0) fun _ _ q => q.elim id False.elim).mono fun b _ q => HP.out.2.1 b q⟩
    · have h1 := (HP.out.2.2.2.2.1 x hx b hb).2
      have h2 := (RowAt.lt (HH.out.2.1.each x hx) hb).1
      rcases HC.out.2.2.2.1 e he b q with ⟨e0, he0, q'⟩ | ⟨y, hy, q'⟩ | q'
      · exact h1 (hT.sE e0 he0 b q')
      · exact h1 (hT.shf y hy b q')
      · omega
    · have h1 := (HP.out.2.2.1 b hb).2
      have h2 := (HH.out.2.1.row.lt hb).1
      rcases HD2.out.2.1 e he b q with ⟨e0, he0, q'⟩ | q' | q'
      · exact h1 (hT.sLE e0 he0 b q')
      · exact h1 (hT.sh b q')
      · omega
    · rcases HC.out.2.2.2.2.1 with q | ⟨g, q, hg⟩
      · rw [q] at hb; exact .inl (HP.out.2.1 b (hT.sl b hb))
      · rw [q] at hb; injection hb with hb; exact .inr (by omega)
    · rcases HD2.out.2.2 with q | ⟨g, q, hg⟩
      · rw [q] at hb; exact .inl (HP.out.2.1 b (hT.sL b hb))
      · rw [q] at hb; injection hb with hb; exact .inr (by omega)
    · rcases HC.out.2.2.2.1 e he b hb with ⟨e0, he0, q'⟩ | ⟨y, hy, q'⟩ | q'
      · exact .inl (HP.out.2.1 b (hT.sE e0 he0 b q'))
      · exact .inl (HP.out.2.1 b (hT.shf y hy b q'))
      · exact .inr (by omega)
    · rcases HD2.out.2.1 e he b hb with ⟨e0, he0, q'⟩ | q' | q'
      · exact .inl (HP.out.2.1 b (hT.sLE e0 he0 b q'))
      · exact .inl (HP.out.2.1 b (hT.sh b q'))
      · exact .inr (by omega)
  clear hF9 hF79 HF8 HG
  go_wp2
  go_ret
  exact ⟨rfl, HTO.out⟩
end Go.Proofs.YtkpoheknmcepnaaGreatDoor

namespace Go.Proofs.YtkpoheknmcepnaaGreatDoor
set_option linter.unusedVariables false
set_option linter.unusedSimpArgs false
open Go.RowKit Go.Great

section
variable {P : Program} {ops : Array Oper} {Q : Exit → Act → World → Prop} {md : Region.Mode} {S : World → Prop} {x : Nat}
/-- What has come up had all that it waits for ahead of it. -/
def Closed (md : Region.Mode) (ops : Array Oper) (l : Array Bool) : Prop := ∀ k o, ops[k]? = some o → l.getD k false = true → ∀ e ∈ o.after, Region.binds md e = true → l.getD e.on false = true
/-- x waits for i, by f steps at most. -/
def waits (md : Region.Mode) (ops : Array Oper) (i : Nat) : Nat → Nat → Bool
  | 0, _ => false
  | f + 1, x => match ops[x]? with
    | none => false
    | some o => o.after.any fun e => Region.binds md e && (e.on == i || waits md ops i f e.on)
theorem getD_put (l : Array Bool) (j k : Nat) (h : l.getD k false = true) : (l.setIfInBounds j true).getD k false = true := by
  by_cases hk : k < l.size
  · simp only [Array.getD, Array.size_setIfInBounds, hk, dif_pos, Array.getInternal_eq_getElem] at h ⊢
    rw [Array.getElem_setIfInBounds]
    split
    · rfl
    · exact h
  · simp [Array.getD, hk] at h
theorem getD_put_ne (l : Array Bool) {j k : Nat} (hn : j ≠ k) (h : (l.setIfInBounds j true).getD k false = true) : l.getD k false = true := by
  by_cases hk : k < l.size
  · simp only [Array.getD, Array.size_setIfInBounds, hk, dif_pos, Array.getInternal_eq_getElem] at h ⊢
    rw [Array.getElem_setIfInBounds, if_neg hn] at h
    exact h
  · simp [Array.getD, hk] at h
theorem Closed.put {l : Array Bool} (h : Closed md ops l) {j : Nat} (hj : j ∈ Region.ready md ops l) : Closed md ops (l.setIfInBounds j true) := by
  intro k o hk hl e he hb
  refine getD_put _ _ _ ?_
  by_cases hkj : j = k
  · subst hkj
    obtain ⟨_, o', ho', hall⟩ := mem_ready.1 hj
    rw [hk] at ho'
    injection ho' with ho'
    subst ho'
    exact hall e he hb
  · exact h k o hk (getD_put_ne l hkj hl) e he hb
theorem Closed.start (n : Nat) : Closed md ops (Array.replicate n false) := fun k o _ h => by
  by_cases hk : k < n
  · simp [Array.getD, hk] at h
  · simp [Array.getD, hk] at h
theorem waits_spec {i : Nat} {l : Array Bool} (hc : Closed md ops l) (hi : l.getD i false = false) : ∀ (f x : Nat), waits md ops i f x = true → l.getD x false = false ∧ x ∉ Region.ready md ops l
  | 0, x, h => by cases h
  | f + 1, x, h => by
    unfold waits at h
    split at h
    · cases h
    · rename_i o ho
      have hex : ∃ e, e ∈ o.after ∧ Region.binds md e = true ∧ l.getD e.on false = false := by
        simp only [List.any_eq_true, Array.any_eq_true', Bool.and_eq_true, Bool.or_eq_true, beq_iff_eq] at h
        obtain ⟨e, he, hb, q | q⟩ := h
        · exact ⟨e, he, hb, by rw [q]; exact hi⟩
        · exact ⟨e, he, hb, (waits_spec hc hi f e.on q).1⟩
      obtain ⟨e, he, hb, hun⟩ := hex
      refine ⟨?_, fun hr => ?_⟩
      · cases hx : l.getD x false with
        | false => rfl
        | true => have := hc x o ho hx e he hb; rw [hun] at this; cases this
      · obtain ⟨_, o', ho', hall⟩ := mem_ready.1 hr
        rw [ho] at ho'
        injection ho' with ho'
        subst ho'
        have := hall e he hb
        rw [hun] at this; cases this
/-- Whatever order is picked; S holds behind all but x. -/
def wpAnyL (P : Program) (md : Region.Mode) (ops : Array Oper) (Q : Exit → Act → World → Prop) (S : World → Prop) (x : Nat) : Nat → Array Bool → Act → World → Prop
  | 0, l, a, w => Region.ready md ops l = [] ∧ Q .normal a w
  | f + 1, l, a, w => (Region.ready md ops l = [] → Q .normal a w) ∧ ∀ i ∈ Region.ready md ops l, wpOp P ops Q i (fun a' w' => (i ≠ x → S w') ∧ wpAnyL P md ops Q S x f (l.setIfInBounds i true) a' w') a w
theorem wpAny_of_late : ∀ (f : Nat) (l : Array Bool) (a : Act) (w : World), wpAnyL P md ops Q S x f l a w → wpAny P md ops Q f l a w
  | 0, _, _, _, h => h
  | f + 1, _, _, _, h => ⟨h.1, fun i hi => wpOp_mono (fun a' w' h' => wpAny_of_late f _ a' w' h'.2) (h.2 i hi)⟩
theorem wp_region_late {id : Nat} {a : Act} {w : World} (S : World → Prop) (x : Nat) (hm : P.follows .mixedOrders = true)
    (h : Closed .any ops (Array.replicate ops.size false) → wpAnyL P .any ops Q S x ops.size (Array.replicate ops.size false) a w.drew) : (Code.region id ops true).wp P Q a w :=
  wp_region_any hm (wpAny_of_late _ _ _ _ (h (Closed.start _)))
theorem unlisted {i : Nat} {l : Array Bool} (h : i ∈ Region.ready md ops l) : l.getD i false = false := by
  have h0 := (mem_ready.1 h).1
  by_cases hk : i < l.size
  · simp only [Array.getD, hk, dif_pos] at h0 ⊢; exact h0
  · simp [Array.getD, hk]
theorem wpAnyL_first {i : Nat} {oi : Oper} {v : Value} {n : Nat} (hi : ops[i]? = some oi) (hsel : ∀ (j : Nat) (o : Oper) cs b, ops[j]? = some o → o.op ≠ .select cs b)
    (hQ : ∀ c a w, Q (.panic c) (a.put oi.dst v) w → Q (.panic c) a w) (hx : waits md ops i n x = true) :
    ∀ (f : Nat) (l : Array Bool) (a : Act) (w : World), Closed md ops l →
      (∀ j oj, ops[j]? = some oj → j ≠ i → l.getD j true = false → (∀ e ∈ oj.after, Region.binds md e = true → e.on ≠ i) → oi.apart ops oj = true) →
      i ∈ Region.ready md ops l → YieldsIf P ops S oi v a → S w →
      wpAnyL P md ops Q S x f (l.setIfInBounds i true) (a.put oi.dst v) w → wpAnyL P md ops Q S x (f + 1) l a w := by
  intro f
  induction f with
  | zero =>
    intro l a w _ _ hr hy hS H
    refine ⟨fun h => absurd hr (by rw [h]; simp), fun j hj => ?_⟩
    by_cases hji : j = i
    · subst hji; exact hy.wpOp hi hS ⟨fun _ => hS, H⟩
    · have h2 := ready_mono hj hji
      rw [H.1] at h2
      cases h2
  | succ f ih =>
    intro l a w hc hfree hr hy hS H
    refine ⟨fun h => absurd hr (by rw [h]; simp), fun j hj => ?_⟩
    by_cases hji : j = i
    · subst hji; exact hy.wpOp hi hS ⟨fun _ => hS, H⟩
    · have hjx : j ≠ x := fun e => (waits_spec hc (unlisted hr) n x hx).2 (e ▸ hj)
      obtain ⟨hjun, oj, hoj, hall⟩ := mem_ready.1 hj
      have hnot : ∀ e ∈ oj.after, Region.binds md e = true → e.on ≠ i := fun e he hb q => by
        have h5 := hall e he hb
        rw [q, unlisted hr] at h5
        cases h5
      have h2 := wpOp_putIf hoj (hfree j oj hoj hji hjun hnot) (fun cs b => hsel i oi cs b hi) (fun cs b => hsel j oj cs b hoj) hQ hy (H.2 j (ready_mono hj hji))
      refine wpOp_mono (fun a' w' h3 => ⟨h3.2.1, ih (l.setIfInBounds j true) a' w' (hc.put hj) (fun k ok hk hki hun hno => hfree k ok hk hki ?_ hno) (ready_mono hr (Ne.symm hji)) h3.1 (h3.2.1 hjx) ?_⟩) h2
      · by_cases hjk : j = k
        · subst hjk; exact hjun
        · rw [getD_set_ne true hjk] at hun; exact hun
      · rw [Array.setIfInBounds_comm _ _ hji]; exact h3.2.2
/-- Take i first. -/
theorem takeL {i : Nat} {oi : Oper} {v : Value} {f : Nat} {l : Array Bool} {a : Act} {w : World} (n : Nat) (d : Option Tmp) (hi : ops[i]? = some oi) (hd : oi.dst = d)
    (hs : Region.noSelect ops = true) (hf : Region.free md ops l i = true) (hr : (Region.ready md ops l).contains i = true) (hx : waits md ops i n x = true) (hc : Closed md ops l)
    (hQ : ∀ c a w, Q (.panic c) (a.put d v) w → Q (.panic c) a w) (hy : YieldsIf P ops S oi v a) (hS : S w)
    (h : Closed md ops (l.setIfInBounds i true) → wpAnyL P md ops Q S x f (l.setIfInBounds i true) (a.put d v) w) : wpAnyL P md ops Q S x (f + 1) l a w := by
  subst hd
  have hr' : i ∈ Region.ready md ops l := by simpa using hr
  exact wpAnyL_first hi (Region.noSelect_spec hs) hQ hx f l a w hc (Region.free_spec hi hf) hr' hy hS (h (hc.put hr'))
/-- One alone may come up. -/
theorem oneL {i : Nat} {oi : Oper} {f : Nat} {l : Array Bool} {a : Act} {w : World} (hi : ops[i]? = some oi) (hr : Region.ready md ops l = [i]) (hc : Closed md ops l) (hw : Region.wanted oi (yielded ops a.tmps) = true)
    (h : ∀ K : Act → World → Prop, Shut (∀ a w, (i ≠ x → S w) → (Closed md ops (l.setIfInBounds i true) → wpAnyL P md ops Q S x f (l.setIfInBounds i true) a w) → K a w) → Oper.wp P oi a w K Q) : wpAnyL P md ops Q S x (f + 1) l a w := by
  refine ⟨fun h0 => absurd (hr ▸ h0) (by simp), fun j hj => ?_⟩
  have hj' := hj
  rw [hr] at hj
  obtain rfl := List.mem_singleton.1 hj
  refine wpOp_step hi (fun K' hK => ?_)
  rw [if_pos hw]
  exact h K' (fun a w hS hW => hK a w ⟨hS, hW (hc.put hj')⟩)
theorem doneL {f : Nat} {l : Array Bool} {a : Act} {w : World} (hr : Region.ready md ops l = []) (h : Q .normal a w) : wpAnyL P md ops Q S x f l a w := by
  cases f with
  | zero => exact ⟨hr, h⟩
  | succ f => exact ⟨fun _ => h, fun i hi => by rw [hr] at hi; cases hi⟩
end
end Go.Proofs.YtkpoheknmcepnaaGreatDoor

namespace Go.Proofs.YtkpoheknmcepnaaGreatDoor
set_option linter.unusedVariables false
set_option linter.unusedSimpArgs false
open Go.RowKit Go.Great

/-- A variable that holds bytes and their mark. -/
def QB (w : World) (q : Nat) (v : Value) (m : Nat) : Prop := w.heap[q]? = some (.cells #[v, .int .i64 (m : Int)] 134 (0, 0))
theorem QB.at {w : World} {q m : Nat} {v : Value} (h : QB w q v m) : w.cell? ⟨q, 0, none⟩ = some v ∧ w.cell? ⟨q, 1, none⟩ = some (.int .i64 (m : Int)) := ⟨cell_at h rfl, cell_at h rfl⟩
theorem QB.frz {w : World} {q m : Nat} {v : Value} (h : QB w q v m) (i : Nat) : w.frozen? ⟨q, i, none⟩ = false := frozen_of_row w q i _ _ h
theorem QB.lt {w : World} {q m : Nat} {v : Value} (h : QB w q v m) : q < w.heap.size := (Array.getElem?_eq_some_iff.1 h).1
theorem QB.fr {w w' : World} {ex : Nat → Prop} {q m : Nat} {v : Value} (h : QB w q v m) (hf : Fr w w' ex) (hn : ¬ ex q) : QB w' q v m := (hf.block q h.lt hn).trans h
theorem QB.set0 {w : World} {q m : Nat} {v : Value} (h : QB w q v m) (u : Value) : QB (w.setCell ⟨q, 0, none⟩ u) q u m := by
  unfold QB at h ⊢; rw [setCell_eq_setRow w q 0 _ _ _ u h, setRow_heap w q _ _ _ _ h]; rfl
/-- A new variable. -/
theorem newQ (w : World) (v : Value) (m : Nat) : QB ((w.alloc (.cells #[.slice none 0 0, .int .i64 0] 134)).setCells w.heap.size 0 [v, .int .i64 (m : Int)]) w.heap.size v m ∧ Fr w ((w.alloc (.cells #[.slice none 0 0, .int .i64 0] 134)).setCells w.heap.size 0 [v, .int .i64 (m : Int)]) (fun _ => False) ∧ (w.alloc (.cells #[.slice none 0 0, .int .i64 0] 134)).there w.heap.size 0 2 := by
  have hF : Fr w (w.alloc (.cells #[.slice none 0 0, .int .i64 0] 134)) (fun _ => False) := Fr.alloc _ _ _
  have hb : (w.alloc (.cells #[.slice none 0 0, .int .i64 0] 134)).heap[w.heap.size]? = some (.cells #[.slice none 0 0, .int .i64 0] 134 (0, 0)) := heap_alloc_new w _
  generalize w.alloc (.cells #[.slice none 0 0, .int .i64 0] 134) = w1 at *
  have h1 : (w1.setCell ⟨w.heap.size, 0, none⟩ v).heap[w.heap.size]? = some (.cells #[v, .int .i64 0] 134 (0, 0)) := by
    rw [setCell_eq_setRow w1 _ 0 _ _ _ v hb, setRow_heap w1 _ _ _ _ _ hb]; rfl
  refine ⟨?_, ?_, fun j hj => ⟨?_, frozen_of_row _ _ _ _ _ hb⟩⟩
  · show ((w1.setCell ⟨w.heap.size, 0, none⟩ v).setCell ⟨w.heap.size, 1, none⟩ (.int .i64 (m : Int))).heap[w.heap.size]? = _
    rw [setCell_eq_setRow _ _ 1 _ _ _ _ h1, setRow_heap _ _ _ _ _ _ h1]; rfl
  · exact hF.trans (Fr.setCells w.heap.size (fun b => b = w.heap.size) rfl _ _ _) fun b hb q => by
      rcases q with q | q
      · exact q
      · omega
  · rw [cell_of_row _ _ _ _ _ _ hb, Array.getElem?_eq_getElem (by simpa using hj)]; rfl
/-- What fill stands on: the owner and its entries. -/
structure FS (w wr : World) (p : Nat) (vl vL vh vw : Value) (E : List Ow) (ex : Nat → Prop) : Prop where
  blk : OwB wr p vl vL vh vw
  ows : OwsAt wr vl E
  fr : Fr w wr ex
section
variable {w wr wx : World} {p : Nat} {vl vL vh vw : Value} {E : List Ow} {ex e2 : Nat → Prop}
theorem FS.to (h : FS w wr p vl vL vh vw E ex) (hf : Fr wr wx e2) (h1 : ¬ e2 p) (h2 : ∀ b, vl.ownBlock = some b → ¬ e2 b) (h3 : ∀ e, e ∈ E → ∀ b, e.v.ownBlock = some b → ¬ e2 b) (h4 : ∀ b, b < w.heap.size → e2 b → ex b) : FS w wx p vl vL vh vw E ex :=
  ⟨h.blk.fr hf h1, h.ows.frx hf h2 h3, h.fr.trans hf fun b hb q => q.elim id (h4 b hb)⟩
theorem FS.to0 (h : FS w wr p vl vL vh vw E ex) (hf : Fr wr wx (fun _ => False)) : FS w wx p vl vL vh vw E ex :=
  h.to hf id (fun _ _ q => q) (fun _ _ _ _ q => q) fun _ _ q => q.elim
/-- One entry more is put down. -/
theorem FS.app (h : FS w wr p vl vL vh vw E ex) {v : Value} {m n N : Nat} (hr : ByAt wr v (atL m n)) (hm : m ≤ 1000000000) (hn : n ≤ 1000000000) (hN : E.length = N) (hN1 : N ≤ 200000000) (hex : ex p) (hexl : ∀ b, vl.ownBlock = some b → b < w.heap.size → ex b) :
    ∃ a8 c8 w8, (Builtin.append_ #[50, 50] 50 #[vl, .slice (some ⟨wr.heap.size, 0, none⟩) 1 1]).run Tryz.prog (wr.alloc (.cells #[v, .int .i64 (m : Int)] 134)) = .ok (.slice a8 (N + 1) c8) w8 ∧ OwB w8 p vl vL vh vw ∧ FS w (w8.setCell ⟨p, 0, none⟩ (.slice a8 (N + 1) c8)) p (.slice a8 (N + 1) c8) vL vh vw (E ++ [⟨v, m, n⟩]) ex ∧ newer wr vl (.slice a8 (N + 1) c8) ∧
      (∀ {e : TypeId} {s : Nat} {u : Value} {k : Nat} {ys : List Value}, RowAt wr e s u k ys → e ≠ 134 → e ≠ 53 → RowAt (w8.setCell ⟨p, 0, none⟩ (.slice a8 (N + 1) c8)) e s u k ys) ∧ Fr wr w8 (fun b => vl.ownBlock = some b) := by
  subst hN
  obtain ⟨i, hi, hz, hsz, hby⟩ := infoOw
  obtain ⟨av, cv, rfl, -⟩ := RowAt.form hr
  have hF7 : Fr wr (wr.alloc (.cells #[.slice av (atL m n).length cv, .int .i64 (m : Int)] 134)) (fun _ => False) := Fr.alloc _ _ _
  obtain ⟨a8, c8, w8, hrun, hrow8, hg⟩ := two_app Tryz.underlying50 hi hz hsz hby h.ows.row (a := .slice av (atL m n).length cv) (b := .int .i64 (m : Int)) rfl rfl (by omega)
  have hF8 := hg.fr
  have hpne : vl.ownBlock ≠ some p := h.ows.row.ne_type h.blk (by decide)
  have hb8 : OwB w8 p vl vL vh vw := (h.blk.fr hF7 id).fr hF8 hpne
  have hS : Fr w8 (w8.setCell ⟨p, 0, none⟩ (.slice a8 (E.length + 1) c8)) (fun b => b = p) := Fr.setCell _ _ _ _ rfl
  have keep : ∀ {e : TypeId} {s : Nat} {u : Value} {k : Nat} {ys : List Value}, RowAt wr e s u k ys → e ≠ 134 → e ≠ 53 → RowAt (w8.setCell ⟨p, 0, none⟩ (.slice a8 (E.length + 1) c8)) e s u k ys := fun hu he1 he2 => by
    refine RowAt.fr (RowAt.fr (hu.fr hF7 fun _ _ q => q) hF8 fun b hb q => ?_) hS fun b hb q => ?_
    · obtain ⟨_, cur, hc⟩ := hu.lt hb
      exact h.ows.row.ne_type hc (fun e => he1 e.symm) q
    · subst q; exact hu.ne_type h.blk he2 hb
  have hz := h.fr.size
  refine ⟨a8, c8, w8, hrun, hb8, ⟨hb8.set0 _, ⟨?_, fun e he => ?_⟩, ?_⟩, ?_, keep, hF7.trans hF8 fun b _ q => q.elim False.elim id⟩
  · have hne8 : (Value.slice a8 (E.length + 1) c8).ownBlock ≠ some p := hrow8.ne_type hb8 (by decide)
    rw [List.length_append, flatL_app, flatL_one]
    exact hrow8.fr hS fun b hb q => hne8 (q ▸ hb)
  · rcases List.mem_append.1 he with q | q
    · exact ⟨keep (h.ows.each e q).1 (by decide) (by decide), (h.ows.each e q).2⟩
    · obtain rfl := List.mem_singleton.1 q
      exact ⟨keep hr (by decide) (by decide), hm, hn⟩
  · refine ((h.fr.trans hF7 (e3 := ex) fun _ _ q => q.elim id False.elim).trans hF8 (e3 := ex) fun b hb q => ?_).trans hS fun b hb q => ?_
    · rcases q with q | q
      · exact q
      · exact hexl b q hb
    · rcases q with q | q
      · exact q
      · rw [q]; exact hex
  · rcases hg.newer with q | ⟨g, q, hg'⟩
    · exact .inl q
    · exact .inr ⟨g, q, Nat.le_trans hF7.size hg'⟩
end
/-- Where the first loop stands: the frames from i on are still what they were. -/
structure FJ (w wr : World) (p : Nat) (vl vL vh vw : Value) (E : List Ow) (ex : Nat → Prop) (v : Value) (fs : List Fm) (i : Nat) : Prop where
  S : FS w wr p vl vL vh vw E ex
  row : RowAt wr 36 2 v fs.length (flatL fmV fs)
  left : ∀ j y, i ≤ j → fs[j]? = some y → ByAt wr y.v y.l
  ap : ∀ j y, i ≤ j → fs[j]? = some y → ∀ e, e ∈ E → ∀ b, y.v.ownBlock = some b → e.v.ownBlock ≠ some b
section
variable {w wr wx : World} {p : Nat} {vl vL vh vw v : Value} {E : List Ow} {ex e2 : Nat → Prop} {fs : List Fm} {i : Nat}
theorem FJ.to0 (h : FJ w wr p vl vL vh vw E ex v fs i) (hf : Fr wr wx (fun _ => False)) : FJ w wx p vl vL vh vw E ex v fs i :=
  ⟨h.S.to0 hf, h.row.fr hf fun _ _ q => q, fun j y hj hy => RowAt.fr (h.left j y hj hy) hf fun _ _ q => q, h.ap⟩
theorem FJ.next (h : FJ w wr p vl vL vh vw E ex v fs i) : FJ w wr p vl vL vh vw E ex v fs (i + 1) :=
  ⟨h.S, h.row, fun j y hj hy => h.left j y (by omega) hy, fun j y hj hy => h.ap j y (by omega) hy⟩
theorem sep_at {fs : List Fm} (h : fs.Pairwise Sep) {i j : Nat} {x y : Fm} (hij : i < j) (hx : fs[i]? = some x) (hy : fs[j]? = some y) : Sep x y := by
  obtain ⟨h1, e1⟩ := List.getElem?_eq_some_iff.1 hx
  obtain ⟨h2, e2⟩ := List.getElem?_eq_some_iff.1 hy
  rw [← e1, ← e2]
  exact List.pairwise_iff_getElem.1 h i j h1 h2 hij
/-- What is written into frame i's block. -/
theorem FJ.into (h : FJ w wr p vl vL vh vw E ex v fs (i + 1)) {g : Nat} (hf : Fr wr wx (fun b => b = g)) {x : Fm} (hx : fs[i]? = some x) (hg : x.v.ownBlock = some g) {ys : List Value} {n : Nat} (hr : RowAt wr 5 1 x.v n ys) (hs : fs.Pairwise Sep) (ha : ∀ e, e ∈ E → e.v.ownBlock ≠ some g) (hex : ex g) : FJ w wx p vl vL vh vw E ex v fs (i + 1) := by
  obtain ⟨_, cur, hc⟩ := hr.lt hg
  refine ⟨h.S.to hf (fun q => ?_) (fun b hb q => ?_) (fun e he b hb q => ?_) (fun b _ q => by rw [q]; exact hex), h.row.fr hf fun b hb q => ?_, fun j y hj hy => RowAt.fr (h.left j y hj hy) hf fun b hb q => ?_, h.ap⟩
  · subst q; exact absurd (obj_type h.S.blk hc) (by decide)
  · subst q; exact h.S.ows.row.ne_type hc (by decide) hb
  · subst q; exact ha e he hb
  · subst q; exact h.row.ne_type hc (by decide) hb
  · subst q; exact sep_at hs (by omega) hx hy b hg hb
end
theorem u8V_one (x : UInt8) : u8V x = [.int .u8 (x.toNat : Int)] := rfl
/-- One byte is written over. -/
theorem row_byte {w : World} {g o c n m k : Nat} {ys : List Value} (h : RowAt w 5 1 (.slice (some ⟨g, o, none⟩) n c) n (flatL u8V (atL m k) ++ ys.drop k)) (hy : ys.length = n) (hk : k < n) :
    RowAt (w.setCell ⟨g, o + k, none⟩ (.int .u8 ((atB m k).toNat : Int))) 5 1 (.slice (some ⟨g, o, none⟩) n c) n (flatL u8V (atL m (k + 1)) ++ ys.drop (k + 1)) := by
  have hl : (flatL u8V (atL m k)).length = k := by rw [flatL_len u8V_len, atL_len]; omega
  have h1 := h.setJ (j := k) (by rw [List.length_append, hl, List.length_drop]; omega) (.int .u8 ((atB m k).toNat : Int))
  rw [List.set_append_right _ _ (by omega), hl, Nat.sub_self] at h1
  rw [atL_snoc, flatL_app, flatL_one, u8V_one, List.append_assoc]
  rw [List.drop_eq_getElem_cons (by omega : k < ys.length)] at h1
  exact h1
end Go.Proofs.YtkpoheknmcepnaaGreatDoor

namespace Go.Proofs.YtkpoheknmcepnaaGreatDoor
set_option linter.unusedVariables false
set_option linter.unusedSimpArgs false
open Go.RowKit Go.Great

/-- The first entries: one for each frame. -/
def AOK (fs : List Fm) (A : List Ow) : Prop := ∀ (k : Nat) (e : Ow), A[k]? = some e → ∃ x, fs[k]? = some x ∧ e.v = x.v ∧ e.n ≤ 900000000
theorem AOK.snoc {fs : List Fm} {A : List Ow} (h : AOK fs A) {i m n : Nat} {x : Fm} {v : Value} (hA : A.length = i) (hx : fs[i]? = some x) (hv : x.v = v) (hn : n ≤ 900000000) : AOK fs (A ++ [⟨v, m, n⟩]) := by
  subst hA
  intro k e he
  by_cases hk : k < A.length
  · rw [List.getElem?_append_left hk] at he; exact h k e he
  · rw [List.getElem?_append_right (by omega)] at he
    have hk0 : k - A.length = 0 := by
      rcases Nat.eq_zero_or_pos (k - A.length) with q | q
      · exact q
      · rw [List.getElem?_eq_none (by simp; omega)] at he; cases he
    rw [hk0] at he
    injection he with he
    subst he
    have hkl : k = A.length := by omega
    subst hkl
    exact ⟨x, hx, hv.symm, hn⟩
/-- What the first loop leaves. -/
def FL1 (w wr : World) (p : Nat) (vl : Value) (N nf : Nat) (vL vh vw : Value) (E A : List Ow) (ex : Nat → Prop) (v : Value) (fs : List Fm) (i : Nat) (u : Value) : Prop :=
  FJ w wr p u vL vh vw (E ++ A) ex v fs i ∧ A.length = i ∧ AOK fs A ∧ newer w vl u
/-- The later entries: each lies where its frame lies, or anew. -/
def GOK (w : World) (fs : List Fm) (G : List Ow) : Prop := ∀ e, e ∈ G → ∀ b, e.v.ownBlock = some b → (∃ (k : Nat) (x : Fm), k < G.length ∧ fs[k]? = some x ∧ x.v.ownBlock = some b) ∨ w.heap.size ≤ b
/-- What the second loop stands on. -/
def FL2 (w wr : World) (p : Nat) (vl : Value) (N : Nat) (vL vh vw : Value) (E A : List Ow) (ex : Nat → Prop) (fs : List Fm) (j : Nat) (G : List Ow) (u : Value) (n2 : Nat) : Prop :=
  FS w wr p u vL vh vw (E ++ A ++ G) ex ∧ G.length + N = j ∧ (E ++ A ++ G).length = n2 ∧ GOK w fs G ∧ newer w vl u
/-- One byte more. -/
theorem one_app {w : World} {v : Value} {l : List UInt8} {n : Nat} (x : UInt8) (h : ByAt w v l) (hl : l.length = n) (hn : n ≤ 1000000000) :
    ∃ a8 c8 w8, (Builtin.append_ #[22, 22] 22 #[v, .slice (some ⟨w.heap.size, 0, none⟩) 1 1]).run Tryz.prog (w.alloc (.cells #[.int .u8 (x.toNat : Int)] 5)) = .ok (.slice a8 (n + 1) c8) w8 ∧ ByAt w8 (.slice a8 (n + 1) c8) (l ++ [x]) ∧ Grew (w.alloc (.cells #[.int .u8 (x.toNat : Int)] 5)) w8 v (.slice a8 (n + 1) c8) n 1 1 [.int .u8 (x.toNat : Int)] := by
  obtain ⟨i, hi, hz, hsz, hby⟩ := infoB
  have hF7 : Fr w (w.alloc (.cells #[.int .u8 (x.toNat : Int)] 5)) (fun _ => False) := Fr.alloc _ _ _
  have hb7 : (w.alloc (.cells #[.int .u8 (x.toNat : Int)] 5)).heap[w.heap.size]? = some (.cells #[.int .u8 (x.toNat : Int)] 5 (0, 0)) := heap_alloc_new w _
  generalize w.alloc (.cells #[.int .u8 (x.toNat : Int)] 5) = w7 at *
  have h7 : RowAt w7 5 1 v n (flatL u8V l) := by have := RowAt.fr h hF7 fun _ _ q => q; rwa [hl] at this
  obtain ⟨v', w', hr, hrow, hg⟩ := run_append_row2 (P := Tryz.prog) w7 22 22 5 i _ 1 1 Tryz.underlying22 hi hz hsz hby (by rfl) v n (flatL u8V l) h7 ⟨w.heap.size, 0, none⟩ 1 1 [.int .u8 (x.toNat : Int)] rfl
    (fun k u hk => by rw [Addr.add_mid, cell_of_row _ _ _ _ _ _ hb7, Nat.zero_add]; simpa using hk) (fun u hu => by rw [List.mem_singleton.1 hu]; rfl) (.inl (by decide)) (by unfold maxLen; omega) (by omega)
  obtain ⟨a8, c8, rfl, _⟩ := hrow.form
  refine ⟨a8, c8, w', hr, ?_, hg⟩
  unfold ByAt
  rw [List.length_append, hl, flatL_app, flatL_one, u8V_one]
  exact hrow
theorem Und.first {w : World} {fs : List Fm} {E A G : List Ow} (hs : fs.Pairwise Sep) (hap : ∀ e, e ∈ E → ∀ x, x ∈ fs → ∀ b, x.v.ownBlock = some b → e.v.ownBlock ≠ some b) (hA : AOK fs A) (hG : GOK w fs G) (hlt : ∀ x, x ∈ fs → ∀ b, x.v.ownBlock = some b → b < w.heap.size) {e : Ow} {x : Fm} (he : A[G.length]? = some e) (hx : fs[G.length]? = some x) (hev : e.v = x.v) :
    ∀ e', e' ∈ E ++ A ++ G → Und 1 e'.v e'.n e.v e.n := by
  intro e' he'
  have hxm : x ∈ fs := List.mem_of_getElem? hx
  rcases List.mem_append.1 he' with q | q
  · rcases List.mem_append.1 q with q | q
    · exact Und.of_ne fun b hb => hap e' q x hxm b (hev ▸ hb)
    · obtain ⟨k, hk⟩ := List.getElem?_of_mem q
      by_cases hkg : k = G.length
      · subst hkg
        rw [he] at hk
        injection hk with hk
        subst hk
        exact Und.refl _ _ _
      · obtain ⟨x', hx', hv', -⟩ := hA k e' hk
        refine Und.of_ne fun b hb hb' => ?_
        rw [hev] at hb
        rw [hv'] at hb'
        rcases Nat.lt_or_gt_of_ne hkg with h | h
        · exact sep_at hs h hx' hx b hb' hb
        · exact sep_at hs h hx hx' b hb hb'
  · refine Und.of_ne fun b hb hb' => ?_
    rw [hev] at hb
    rcases hG e' q b hb' with ⟨k, x', hk, hx', hb2⟩ | h
    · exact sep_at hs hk hx' hx b hb2 hb
    · have := hlt x hxm b hb; omega
/-- Bytes grow. -/
theorem FS.grow {w wr w8 : World} {p : Nat} {vl vL vh vw v v8 : Value} {E : List Ow} {ex : Nat → Prop} {n : Nat} {ys news : List Value} (h : FS w wr p vl vL vh vw E ex) (hrow : RowAt wr 5 1 v n ys) (hg : Grew wr w8 v v8 n 1 1 news) (hund : ∀ e', e' ∈ E → Und 1 e'.v e'.n v n) (hexv : ∀ b, v.ownBlock = some b → b < w.heap.size → ex b) : FS w w8 p vl vL vh vw E ex := by
  refine ⟨h.blk.fr hg.fr (hrow.ne_type h.blk (by decide)), ⟨h.ows.row.fr hg.fr fun b hb q => ?_, fun e he => ⟨?_, (h.ows.each e he).2⟩⟩, h.fr.trans hg.fr fun b hb q => ?_⟩
  · obtain ⟨_, cur, hc⟩ := hrow.lt q
    exact h.ows.row.ne_type hc (by decide) hb
  · have h5 := (h.ows.each e he).1
    unfold ByAt at h5 ⊢
    rw [atL_len] at h5 ⊢
    exact hg.keep h5 (hund e he)
  · rcases q with q | q
    · exact q
    · exact hexv b q hb
theorem GOK.snoc {w : World} {fs : List Fm} {G : List Ow} (h : GOK w fs G) {x : Fm} {e : Ow} (hx : fs[G.length]? = some x) (he : ∀ b, e.v.ownBlock = some b → x.v.ownBlock = some b ∨ w.heap.size ≤ b) : GOK w fs (G ++ [e]) := by
  intro e' he' b hb
  rw [List.length_append]
  rcases List.mem_append.1 he' with q | q
  · rcases h e' q b hb with ⟨k, y, hk, hy, hb2⟩ | q2
    · exact .inl ⟨k, y, by omega, hy, hb2⟩
    · exact .inr q2
  · obtain rfl := List.mem_singleton.1 q
    rcases he b hb with q2 | q2
    · exact .inl ⟨G.length, x, by simp, hx, q2⟩
    · exact .inr q2
set_option maxRecDepth 100000 in
set_option maxHeartbeats 4000000 in
theorem fill_any : FillOK := by
  intro w p vl vL vh vw v E fs hb hE hF hap hN hl9
  obtain ⟨al, cl, rfl, -⟩ := hE.row.form
  obtain ⟨av, cv, rfl, hvc⟩ := hF.row.form
  obtain ⟨ex, hex⟩ : ∃ ex : Nat → Prop, (fun b => b = p ∨ (Value.slice al E.length cl).ownBlock = some b ∨ ∃ x, x ∈ fs ∧ x.v.ownBlock = some b) = ex := ⟨_, rfl⟩
  have hexp : ex p := by rw [← hex]; exact .inl rfl
  have hexl : ∀ b, (Value.slice al E.length cl).ownBlock = some b → ex b := fun b hb => by rw [← hex]; exact .inr (.inl hb)
  have hexx : ∀ x, x ∈ fs → ∀ b, x.v.ownBlock = some b → ex b := fun x hx b hb => by rw [← hex]; exact .inr (.inr ⟨x, hx, hb⟩)
  have hlt9 : ∀ x, x ∈ fs → ∀ b, x.v.ownBlock = some b → b < w.heap.size := fun x hx b hb => (RowAt.lt (hF.each x hx) hb).1
  have HE9 : Hid (∀ e, e ∈ E → ∀ b, e.v.ownBlock = some b → b < w.heap.size) := fun e he b hb => (RowAt.lt (hE.each e he).1 hb).1
  have hJ0 : FJ w w p (.slice al E.length cl) vL vh vw E ex (.slice av fs.length cv) fs 0 := ⟨⟨hb, hE, Fr.refl _ _⟩, hF.row, fun j y _ hy => hF.each y (List.mem_of_getElem? hy), fun j y _ hy e he => hap e he y (List.mem_of_getElem? hy)⟩
  have HEX : Hid ((fun b => b = p ∨ (Value.slice al E.length cl).ownBlock = some b ∨ ∃ x, x ∈ fs ∧ x.v.ownBlock = some b) = ex ∧ ex p ∧ (∀ b, (Value.slice al E.length cl).ownBlock = some b → ex b) ∧ (∀ x, x ∈ fs → ∀ b, x.v.ownBlock = some b → ex b)) := ⟨hex, hexp, hexl, hexx⟩
  obtain ⟨N, hNN⟩ : ∃ N, E.length = N := ⟨_, rfl⟩
  obtain ⟨nf, hnf⟩ : ∃ nf, fs.length = nf := ⟨_, rfl⟩
  have HX : Hid (E.length = N ∧ fs.length = nf ∧ fs.Pairwise Sep ∧ (∀ x, x ∈ fs → x.l.length ≤ 900000000) ∧ (∀ x, x ∈ fs → ∀ b, x.v.ownBlock = some b → b < w.heap.size)) := ⟨hNN, hnf, hF.sep, hl9, hlt9⟩
  rw [hNN] at hJ0 hN HEX
  rw [hnf] at hJ0 hN
  have HAP : Hid (∀ e, e ∈ E → ∀ x, x ∈ fs → ∀ b, x.v.ownBlock = some b → e.v.ownBlock ≠ some b) := hap
  have hL0 : FL1 w w p (.slice al N cl) N nf vL vh vw E [] ex (.slice av nf cv) fs 0 (.slice al (N + 0) cl) := ⟨by rw [List.append_nil]; exact hJ0, rfl, fun k e h => (by cases h), .inl rfl⟩
  have HL0 : Hid _ := hL0
  have k0 := hJ0.S.blk.at.1
  have hN' : N + 2 * nf ≤ 90000000 := hN
  rw [hNN, hnf]
  clear hb hE hF hap hl9 hex hexp hexl hexx hlt9 hJ0 hL0 hN hNN hnf
  go_enter Tryz.func42, Tryz.ntmps42
  go_wp2
  clear k0
  go_loopw [5, 6, 7] (fun x5 _ _ wr => ∃ (i c' : Nat) (a' : Option Addr) (A : List Ow), i ≤ nf ∧ x5 = .int .i64 (i : Int) ∧ Hid (FL1 w wr p (.slice al N cl) N nf vL vh vw E A ex (.slice av nf cv) fs i (.slice a' (N + i) c'))) (fun x5 _ _ _ => nf - (intOf x5).toNat)
  case atStart => exact ⟨0, cl, al, [], Nat.zero_le _, rfl, HL0.out⟩
  case round =>
    obtain ⟨i, c', a', A, hi, rfl, HI⟩ := hrel
    by_cases hlt : i < nf
    · have hlt' : (i : Int) < (nf : Int) := by omega
      have hiw : IntKind.i64.wrap ((i : Int) + 1) = (i : Int) + 1 := by rw [IntKind.wrap_i64]; omega
      obtain ⟨x, hx⟩ : ∃ x, fs[i]? = some x := ⟨_, List.getElem?_eq_getElem (by have := HX.out.2.1; omega)⟩
      have hxm : x ∈ fs := List.mem_of_getElem? hx
      obtain ⟨hJ, hA, hAok, hnw⟩ := HI.out
      obtain ⟨ax, cx, hxv, -⟩ := RowAt.form (hJ.left i x (Nat.le_refl _) hx)
      obtain ⟨nx, hnx⟩ : ∃ nx, x.l.length = nx := ⟨_, rfl⟩
      have hnx9 := HX.out.2.2.2.1 x hxm
      rw [hnx] at hxv hnx9
      obtain ⟨gf, of, cf, curf, ef, -⟩ := hJ.row.more (by have := HX.out.2.1; omega)
      injection ef with ef1 ef2 ef3
      subst ef1
      have hrow9 := hJ.row
      rw [HX.out.2.1] at hrow9
      have hcf : wr.cell? ⟨gf, of + i * 2, none⟩ = some x.v := hrow9.cell rfl (j := i * 2) (flatL_get (f := fmV) fmV_len hx (k := 0) (by decide))
      rw [hxv] at hcf
      obtain ⟨L, hL⟩ : ∃ L, N + i = L := ⟨_, rfl⟩
      rw [hL] at hJ hnw
      obtain ⟨m, hm⟩ : ∃ m : Nat, L + 1 = m := ⟨_, rfl⟩
      have y1 : IntKind.i64.wrap ((L : Int) + 1) = (m : Int) := by rw [IntKind.wrap_i64]; omega
      have hFd : Fr wr wr.drew (fun _ => False) := (Fr.refl wr (fun _ => False)).drew
      have hJd := hJ.to0 hFd
      have hSS : wr.drew.cell? ⟨gf, of + i * 2, none⟩ = some (.slice ax nx cx) ∧ wr.drew.cell? ⟨p, 0, none⟩ = some (.slice a' L c') := ⟨hFd.cell hcf id, hJd.S.blk.at.1⟩
      have hbx : RowAt wr.drew 5 1 (.slice ax nx cx) nx (flatL u8V x.l) := by
        have h5 := RowAt.fr (hJ.left i x (Nat.le_refl _) hx) hFd fun _ _ q => q
        rw [hxv, hnx] at h5; exact h5
      have HI2 : Hid (FJ w wr.drew p (.slice a' L c') vL vh vw (E ++ A) ex (.slice (some ⟨gf, of, none⟩) nf cv) fs (i + 1) ∧ RowAt wr.drew 5 1 (.slice ax nx cx) nx (flatL u8V x.l) ∧ A.length = i ∧ AOK fs A ∧ newer w (.slice al N cl) (.slice a' L c') ∧ fs[i]? = some x ∧ x.v = .slice ax nx cx ∧ x.l.length = nx ∧ x ∈ fs ∧ nx ≤ 900000000 ∧ (∀ e, e ∈ E ++ A → ∀ b, x.v.ownBlock = some b → e.v.ownBlock ≠ some b)) := ⟨hJd.next, hbx, hA, hAok, hnw, hx, hxv, hnx, hxm, hnx9, hJ.ap i x (Nat.le_refl _) hx⟩
      have HLm : Hid (N + i = L ∧ L + 1 = m) := ⟨hL, hm⟩
      clear hJ hA hAok hnw hx hxm hxv hnx hcf hrow9 hJd hFd hbx HI hL hm ef2 ef3
      go_upto_region 4 with fail
      rename_i Kc hKc
      refine wp_region_held (S := fun w' => w'.cell? ⟨gf, of + i * 2, none⟩ = some (.slice ax nx cx) ∧ w'.cell? ⟨p, 0, none⟩ = some (.slice a' L c')) (by kernel_rfl) ?_
      change wpAnyH _ _ _ _ _ _ _ _ (World.drew _)
      generalize wr.drew = wd at *
      refine takeR (i := 0) (v := .slice (some ⟨gf, of, none⟩) nf cv) (some 23) rfl rfl (by kernel_rfl) (by kernel_rfl) (by kernel_rfl) (fun _ _ _ h => h) (Or.inl ⟨by kernel_rfl, fun w' hSw => by kernel_rfl⟩) hSS ?_
      simp only [Act.put, List.setIfInBounds_toArray, List.set_cons_zero, List.set_cons_succ]
      refine takeR (i := 1) (v := .int .i64 (i : Int)) (some 24) rfl rfl (by kernel_rfl) (by kernel_rfl) (by kernel_rfl) (fun _ _ _ h => h) (Or.inl ⟨by kernel_rfl, fun w' hSw => by kernel_rfl⟩) hSS ?_
      simp only [Act.put, List.setIfInBounds_toArray, List.set_cons_zero, List.set_cons_succ]
      refine takeR (i := 2) (v := .pointer (some ⟨gf, of + i * 2, none⟩)) (some 25) rfl rfl (by kernel_rfl) (by kernel_rfl) (by kernel_rfl) (fun _ _ _ h => h) (Or.inl ⟨by kernel_rfl, fun w' hSw => by clear hSw; go_simp⟩) hSS ?_
      simp only [Act.put, List.setIfInBounds_toArray, List.set_cons_zero, List.set_cons_succ]
      refine takeR (i := 3) (v := .pointer (some ⟨gf, of + i * 2, none⟩)) (some 26) rfl rfl (by kernel_rfl) (by kernel_rfl) (by kernel_rfl) (fun _ _ _ h => h) (Or.inl ⟨by kernel_rfl, fun w' hSw => by clear hSw; go_simp⟩) hSS ?_
      simp only [Act.put, List.setIfInBounds_toArray, List.set_cons_zero, List.set_cons_succ]
      refine takeR (i := 4) (v := .slice ax nx cx) (some 27) rfl rfl (by kernel_rfl) (by kernel_rfl) (by kernel_rfl) (fun _ _ _ h => h) (Or.inl ⟨by kernel_rfl, fun w' hSw => by have q0 := hSw.1; go_simp⟩) hSS ?_
      simp only [Act.put, List.setIfInBounds_toArray, List.set_cons_zero, List.set_cons_succ]
      refine takeR (i := 5) (v := .pointer (some ⟨p, 0, none⟩)) (some 28) rfl rfl (by kernel_rfl) (by kernel_rfl) (by kernel_rfl) (fun _ _ _ h => h) (Or.inl ⟨by kernel_rfl, fun w' hSw => by kernel_rfl⟩) hSS ?_
      simp only [Act.put, List.setIfInBounds_toArray, List.set_cons_zero, List.set_cons_succ]
      refine takeR (i := 6) (v := .pointer (some ⟨p, 0, none⟩)) (some 29) rfl rfl (by kernel_rfl) (by kernel_rfl) (by kernel_rfl) (fun _ _ _ h => h) (Or.inl ⟨by kernel_rfl, fun w' hSw => by kernel_rfl⟩) hSS ?_
      simp only [Act.put, List.setIfInBounds_toArray, List.set_cons_zero, List.set_cons_succ]
      refine takeR (i := 7) (v := .pointer (some ⟨p, 0, none⟩)) (some 30) rfl rfl (by kernel_rfl) (by kernel_rfl) (by kernel_rfl) (fun _ _ _ h => h) (Or.inl ⟨by kernel_rfl, fun w' hSw => by kernel_rfl⟩) hSS ?_
      simp only [Act.put, List.setIfInBounds_toArray, List.set_cons_zero, List.set_cons_succ]
      refine takeR (i := 8) (v := .slice a' L c') (some 31) rfl rfl (by kernel_rfl) (by kernel_rfl) (by kernel_rfl) (fun _ _ _ h => h) (Or.inl ⟨by kernel_rfl, fun w' hSw => by have q0 := hSw.2; go_simp⟩) hSS ?_
      simp only [Act.put, List.setIfInBounds_toArray, List.set_cons_zero, List.set_cons_succ]
      refine takeR (i := 9) (v := .int .i64 (L : Int)) (some 32) rfl rfl (by kernel_rfl) (by kernel_rfl) (by kernel_rfl) (fun _ _ _ h => h) (Or.inl ⟨by kernel_rfl, fun w' hSw => by kernel_rfl⟩) hSS ?_
      simp only [Act.put, List.setIfInBounds_toArray, List.set_cons_zero, List.set_cons_succ]
      refine takeR (i := 10) (v := .int .i64 (m : Int)) (some 33) rfl rfl (by kernel_rfl) (by kernel_rfl) (by kernel_rfl) (fun _ _ _ h => h) (Or.inl ⟨by kernel_rfl, fun w' hSw => by clear hSw; go_simp⟩) hSS ?_
      simp only [Act.put, List.setIfInBounds_toArray, List.set_cons_zero, List.set_cons_succ]
      refine takeR (i := 11) (v := .agg #[.slice ax nx cx, .int .i64 (m : Int)]) (some 34) rfl rfl (by kernel_rfl) (by kernel_rfl) (by kernel_rfl) (fun _ _ _ h => h) (Or.inl ⟨by kernel_rfl, fun w' hSw => by kernel_rfl⟩) hSS ?_
      simp only [Act.put, List.setIfInBounds_toArray, List.set_cons_zero, List.set_cons_succ]
      obtain ⟨hq1, hq2, hq3⟩ := newQ wd (.slice ax nx cx) m
      have hFa : Fr wd (wd.alloc (.cells #[.slice none 0 0, .int .i64 0] 134)) (fun _ => False) := Fr.alloc _ _ _
      have hS1 : (wd.alloc (.cells #[.slice none 0 0, .int .i64 0] 134)).cell? ⟨gf, of + i * 2, none⟩ = some (.slice ax nx cx) ∧ (wd.alloc (.cells #[.slice none 0 0, .int .i64 0] 134)).cell? ⟨p, 0, none⟩ = some (.slice a' L c') := ⟨hFa.cell hSS.1 id, hFa.cell hSS.2 id⟩
      have hS2 : ((wd.alloc (.cells #[.slice none 0 0, .int .i64 0] 134)).setCells wd.heap.size 0 [.slice ax nx cx, .int .i64 (m : Int)]).cell? ⟨gf, of + i * 2, none⟩ = some (.slice ax nx cx) ∧ ((wd.alloc (.cells #[.slice none 0 0, .int .i64 0] 134)).setCells wd.heap.size 0 [.slice ax nx cx, .int .i64 (m : Int)]).cell? ⟨p, 0, none⟩ = some (.slice a' L c') := ⟨hq2.cell hSS.1 id, hq2.cell hSS.2 id⟩
      refine wpAnyH_ready (rs := [12]) (by kernel_rfl) (by simp) ?_
      refine AllReadyH.cons rfl (fun K1 hK1 => ?_) AllReadyH.nil
      rw [if_pos (by kernel_rfl)]
      refine valR (d := some 6) rfl (.pointer (some ⟨wd.heap.size, 0, none⟩)) (w' := wd.alloc (.cells #[.slice none 0 0, .int .i64 0] 134)) (by kernel_rfl) ?_
      refine hK1.out _ _ hS1 (fun _ => ?_)
      clear hK1
      simp only [Act.put, List.setIfInBounds_toArray, List.set_cons_zero, List.set_cons_succ]
      refine wpAnyH_ready (rs := [13]) (by kernel_rfl) (by simp) ?_
      refine AllReadyH.cons rfl (fun K1 hK1 => ?_) AllReadyH.nil
      rw [if_pos (by kernel_rfl)]
      refine wp_store_mid 134 _ _ rfl wd.heap.size 0 #[.slice ax nx cx, .int .i64 (m : Int)] (by kernel_rfl) (by kernel_rfl) hq3 (by kernel_rfl) (by kernel_rfl) ?_
      refine hK1.out _ _ hS2 (fun _ => ?_)
      clear hK1
      simp only [Act.put, List.setIfInBounds_toArray, List.set_cons_zero, List.set_cons_succ]
      refine wpAnyH_done (by kernel_rfl) ?_ _
      refine hKc _ _ ?_
      clear hKc hS1 hS2 hq3 hFa hSS
      have e9 : (#[Value.slice ax nx cx, Value.int .i64 (m : Int)] : Array Value).toList = [Value.slice ax nx cx, Value.int .i64 (m : Int)] := rfl
      have HQ : Hid (∀ b, (Value.slice a' L c').ownBlock = some b → b ≠ wd.heap.size) := fun b hb q => by
        have := (HI2.out.1.S.ows.row.lt hb).1
        omega
      have HI3 : Hid (FJ w ((wd.alloc (.cells #[.slice none 0 0, .int .i64 0] 134)).setCells wd.heap.size 0 [.slice ax nx cx, .int .i64 (m : Int)]) p (.slice a' L c') vL vh vw (E ++ A) ex (.slice (some ⟨gf, of, none⟩) nf cv) fs (i + 1) ∧ QB ((wd.alloc (.cells #[.slice none 0 0, .int .i64 0] 134)).setCells wd.heap.size 0 [.slice ax nx cx, .int .i64 (m : Int)]) wd.heap.size (.slice ax nx cx) m ∧ RowAt ((wd.alloc (.cells #[.slice none 0 0, .int .i64 0] 134)).setCells wd.heap.size 0 [.slice ax nx cx, .int .i64 (m : Int)]) 5 1 (.slice ax nx cx) nx (flatL u8V (atL m 0) ++ (flatL u8V x.l).drop 0)) := ⟨HI2.out.1.to0 hq2, hq1, HI2.out.2.1.fr hq2 fun _ _ q => q⟩
      have HI4 : Hid (A.length = i ∧ AOK fs A ∧ newer w (.slice al N cl) (.slice a' L c') ∧ fs[i]? = some x ∧ x.v = .slice ax nx cx ∧ x.l.length = nx ∧ x ∈ fs ∧ nx ≤ 900000000 ∧ (∀ e, e ∈ E ++ A → ∀ b, x.v.ownBlock = some b → e.v.ownBlock ≠ some b)) := HI2.out.2.2
      clear hq1 hq2 HI2 e9
      generalize wd.heap.size = q at *
      generalize (wd.alloc (.cells #[.slice none 0 0, .int .i64 0] 134)).setCells q 0 [.slice ax nx cx, .int .i64 (m : Int)] = w2 at *
      go_wp2
      go_loopw [7] (fun x7 wr => ∃ k : Nat, k ≤ nx ∧ x7 = .int .i64 (k : Int) ∧ Hid (FJ w wr p (.slice a' L c') vL vh vw (E ++ A) ex (.slice (some ⟨gf, of, none⟩) nf cv) fs (i + 1) ∧ QB wr q (.slice ax nx cx) m ∧ RowAt wr 5 1 (.slice ax nx cx) nx (flatL u8V (atL m k) ++ (flatL u8V x.l).drop k))) (fun x7 _ => nx - (intOf x7).toNat)
      case atStart => exact ⟨0, Nat.zero_le _, rfl, HI3.out⟩
      case round =>
        obtain ⟨k, hk, rfl, HK⟩ := hrel
        obtain ⟨kq0, kq1⟩ := HK.out.2.1.at
        have hm9 : m ≤ 1000000000 := by have := HLm.out; omega
        by_cases hkl : k < nx
        · have hkl' : (k : Int) < (nx : Int) := by omega
          have hkw : IntKind.i64.wrap ((k : Int) + 1) = (k : Int) + 1 := by rw [IntKind.wrap_i64]; omega
          obtain ⟨gx, ox, cx', curx, ee, -⟩ := HK.out.2.2.more (by omega)
          injection ee with ee1 ee2 ee3
          subst ee1
          have hFd : Fr wr wr.drew (fun _ => False) := (Fr.refl wr (fun _ => False)).drew
          have hat := at_any (.slice (some ⟨gx, ox, none⟩) nx cx) m k rfl rfl wr.drew (by omega) (by omega)
          obtain ⟨y, hy⟩ : ∃ y, (atB m k).toNat = y := ⟨_, rfl⟩
          rw [hy] at hat
          have HY : Hid ((atB m k).toNat = y) := hy
          have hSS : wr.drew.cell? ⟨q, 0, none⟩ = some (.slice (some ⟨gx, ox, none⟩) nx cx) ∧ wr.drew.cell? ⟨q, 1, none⟩ = some (.int .i64 (m : Int)) := ⟨hFd.cell kq0 id, hFd.cell kq1 id⟩
          have HK2 : Hid (FJ w wr.drew p (.slice a' L c') vL vh vw (E ++ A) ex (.slice (some ⟨gf, of, none⟩) nf cv) fs (i + 1) ∧ QB wr.drew q (.slice (some ⟨gx, ox, none⟩) nx cx) m ∧ RowAt wr.drew 5 1 (.slice (some ⟨gx, ox, none⟩) nx cx) nx (flatL u8V (atL m k) ++ (flatL u8V x.l).drop k)) := ⟨HK.out.1.to0 hFd, HK.out.2.1.fr hFd id, HK.out.2.2.fr hFd fun _ _ q => q⟩
          clear hFd HK hy ee2 ee3
          go_upto_region 8 with fail
          rename_i Kc hKc
          clear kq0 kq1
          refine wp_region_held (S := fun w' => w'.cell? ⟨q, 0, none⟩ = some (.slice (some ⟨gx, ox, none⟩) nx cx) ∧ w'.cell? ⟨q, 1, none⟩ = some (.int .i64 (m : Int))) (by kernel_rfl) ?_
          change wpAnyH _ _ _ _ _ _ _ _ (World.drew _)
          generalize wr.drew = wd at *
          refine takeR (i := 0) (v := .pointer (some ⟨q, 0, none⟩)) (some 42) rfl rfl (by kernel_rfl) (by kernel_rfl) (by kernel_rfl) (fun _ _ _ h => h) (Or.inl ⟨by kernel_rfl, fun w' hSw => by kernel_rfl⟩) hSS ?_
          simp only [Act.put, List.setIfInBounds_toArray, List.set_cons_zero, List.set_cons_succ]
          refine takeR (i := 1) (v := .slice (some ⟨gx, ox, none⟩) nx cx) (some 43) rfl rfl (by kernel_rfl) (by kernel_rfl) (by kernel_rfl) (fun _ _ _ h => h) (Or.inl ⟨by kernel_rfl, fun w' hSw => by have q0 := hSw.1; go_simp⟩) hSS ?_
          simp only [Act.put, List.setIfInBounds_toArray, List.set_cons_zero, List.set_cons_succ]
          refine takeR (i := 2) (v := .int .i64 (k : Int)) (some 44) rfl rfl (by kernel_rfl) (by kernel_rfl) (by kernel_rfl) (fun _ _ _ h => h) (Or.inl ⟨by kernel_rfl, fun w' hSw => by kernel_rfl⟩) hSS ?_
          simp only [Act.put, List.setIfInBounds_toArray, List.set_cons_zero, List.set_cons_succ]
          refine takeR (i := 3) (v := .agg #[.slice (some ⟨gx, ox, none⟩) nx cx, .int .i64 (m : Int)]) (some 45) rfl rfl (by kernel_rfl) (by kernel_rfl) (by kernel_rfl) (fun _ _ _ h => h) (Or.inl ⟨by kernel_rfl, fun w' hSw => by have q0 := hSw.1; have q1 := hSw.2; clear hSw; go_simp⟩) hSS ?_
          simp only [Act.put, List.setIfInBounds_toArray, List.set_cons_zero, List.set_cons_succ]
          refine takeR (i := 4) (v := .int .i64 (k : Int)) (some 46) rfl rfl (by kernel_rfl) (by kernel_rfl) (by kernel_rfl) (fun _ _ _ h => h) (Or.inl ⟨by kernel_rfl, fun w' hSw => by kernel_rfl⟩) hSS ?_
          simp only [Act.put, List.setIfInBounds_toArray, List.set_cons_zero, List.set_cons_succ]
          refine wpAnyH_ready (rs := [5]) (by kernel_rfl) (by simp) ?_
          refine AllReadyH.cons rfl (fun K1 hK1 => ?_) AllReadyH.nil
          rw [if_pos (by kernel_rfl)]
          refine callR (d := some 47) rfl 71 #[.agg #[.slice (some ⟨gx, ox, none⟩) nx cx, .int .i64 (m : Int)], .int .i64 (k : Int)] (by kernel_rfl) hat ?_
          rintro e w10 ⟨rfl, hB10⟩
          have hF10 : Fr wd w10 (fun _ => False) := Fr.of_below hB10 _
          have hS10 : w10.cell? ⟨q, 0, none⟩ = some (.slice (some ⟨gx, ox, none⟩) nx cx) ∧ w10.cell? ⟨q, 1, none⟩ = some (.int .i64 (m : Int)) := ⟨hF10.cell hSS.1 id, hF10.cell hSS.2 id⟩
          have HK3 : Hid (FJ w w10 p (.slice a' L c') vL vh vw (E ++ A) ex (.slice (some ⟨gf, of, none⟩) nf cv) fs (i + 1) ∧ QB w10 q (.slice (some ⟨gx, ox, none⟩) nx cx) m ∧ RowAt w10 5 1 (.slice (some ⟨gx, ox, none⟩) nx cx) nx (flatL u8V (atL m k) ++ (flatL u8V x.l).drop k)) := ⟨HK2.out.1.to0 hF10, HK2.out.2.1.fr hF10 id, HK2.out.2.2.fr hF10 fun _ _ q => q⟩
          refine ⟨_, rfl, ?_⟩
          refine hK1.out _ _ hS10 (fun _ => ?_)
          clear hK1 hB10 hSS hat hF10 HK2
          simp only [Act.put, List.setIfInBounds_toArray, List.set_cons_zero, List.set_cons_succ]
          refine takeR (i := 6) (v := .pointer (some ⟨gx, ox + k, none⟩)) (some 48) rfl rfl (by kernel_rfl) (by kernel_rfl) (by kernel_rfl) (fun _ _ _ h => h) (Or.inl ⟨by kernel_rfl, fun w' hSw => by clear hSw; go_simp⟩) hS10 ?_
          simp only [Act.put, List.setIfInBounds_toArray, List.set_cons_zero, List.set_cons_succ]
          obtain ⟨u, hu⟩ : ∃ u, (flatL u8V (atL m k) ++ (flatL u8V x.l).drop k)[k]? = some u := ⟨_, List.getElem?_eq_getElem (by rw [HK3.out.2.2.1]; omega)⟩
          have kk : w10.cell? ⟨gx, ox + k, none⟩ = some u := HK3.out.2.2.cell rfl hu
          have zz : w10.frozen? ⟨gx, ox + k, none⟩ = false := HK3.out.2.2.frozen rfl _
          have hF11 : Fr w10 (w10.setCell ⟨gx, ox + k, none⟩ (.int .u8 (y : Int))) (fun b => b = gx) := Fr.setCell _ _ _ _ rfl
          obtain ⟨_, curg, hcg⟩ := HK3.out.2.2.lt (g := gx) rfl
          have hQ11 : QB (w10.setCell ⟨gx, ox + k, none⟩ (.int .u8 (y : Int))) q (.slice (some ⟨gx, ox, none⟩) nx cx) m := HK3.out.2.1.fr hF11 fun e => by
            subst e; exact absurd (obj_type HK3.out.2.1 hcg) (by decide)
          have HK4 : Hid (FJ w (w10.setCell ⟨gx, ox + k, none⟩ (.int .u8 (y : Int))) p (.slice a' L c') vL vh vw (E ++ A) ex (.slice (some ⟨gf, of, none⟩) nf cv) fs (i + 1) ∧ QB (w10.setCell ⟨gx, ox + k, none⟩ (.int .u8 (y : Int))) q (.slice (some ⟨gx, ox, none⟩) nx cx) m ∧ RowAt (w10.setCell ⟨gx, ox + k, none⟩ (.int .u8 (y : Int))) 5 1 (.slice (some ⟨gx, ox, none⟩) nx cx) nx (flatL u8V (atL m (k + 1)) ++ (flatL u8V x.l).drop (k + 1))) := by
            obtain ⟨-, -, -, hx, hxv, hxl, hxm, -, hap⟩ := HI4.out
            refine ⟨HK3.out.1.into hF11 hx (by rw [hxv]; rfl) (n := nx) (ys := flatL u8V (atL m k) ++ (flatL u8V x.l).drop k) (by rw [hxv]; exact HK3.out.2.2) HX.out.2.2.1 (fun e he => hap e he gx (by rw [hxv]; rfl)) (HEX.out.2.2.2 x hxm gx (by rw [hxv]; rfl)), hQ11, ?_⟩
            rw [← HY.out]
            exact row_byte HK3.out.2.2 (by rw [flatL_len u8V_len, hxl]; omega) hkl
          have hS11 : (w10.setCell ⟨gx, ox + k, none⟩ (.int .u8 (y : Int))).cell? ⟨q, 0, none⟩ = some (.slice (some ⟨gx, ox, none⟩) nx cx) ∧ (w10.setCell ⟨gx, ox + k, none⟩ (.int .u8 (y : Int))).cell? ⟨q, 1, none⟩ = some (.int .i64 (m : Int)) := hQ11.at
          clear hQ11 hcg hF11 HK3 hu
          refine wpAnyH_ready (rs := [7]) (by kernel_rfl) (by simp) ?_
          refine AllReadyH.cons rfl (fun K1 hK1 => ?_) AllReadyH.nil
          rw [if_pos (by kernel_rfl)]
          refine skipR (d := none) rfl (w' := w10.setCell ⟨gx, ox + k, none⟩ (.int .u8 (y : Int))) (by clear hS11; go_simp) ?_
          refine hK1.out _ _ hS11 (fun _ => ?_)
          clear hK1
          simp only [Act.put, List.setIfInBounds_toArray, List.set_cons_zero, List.set_cons_succ]
          refine wpAnyH_done (by kernel_rfl) ?_ _
          refine hKc _ _ ?_
          clear hKc hS10 hS11 kk zz
          generalize w10.setCell ⟨gx, ox + k, none⟩ (.int .u8 (y : Int)) = w11 at *
          go_wp2
          go_roundw
          case rel => exact ⟨k + 1, by omega, by go_num, HK4.out⟩
          case measure => simp [intOf]; omega
        · have hkl' : ¬ (k : Int) < (nx : Int) := by omega
          have hkn : k = nx := by omega
          have hFd : Fr wr wr.drew (fun _ => False) := (Fr.refl wr (fun _ => False)).drew
          have hJd := HK.out.1.to0 hFd
          have hQd := HK.out.2.1.fr hFd id
          have hby : ByAt wr.drew (.slice ax nx cx) (atL m nx) := by
            have h5 := HK.out.2.2.fr hFd fun _ _ q => q
            rw [hkn, List.drop_eq_nil_of_le (by rw [flatL_len u8V_len, HI4.out.2.2.2.2.2.1]; omega), List.append_nil] at h5
            unfold ByAt; rw [atL_len]; exact h5
          obtain ⟨a8, c8, w8, hr8, hb8, hFS8, hnw8, hkeep, hfr8⟩ := hJd.S.app (N := L) hby (by omega) (by have := HI4.out.2.2.2.2.2.2.2.1; omega) (by rw [List.length_append, HX.out.1, HI4.out.1]; exact HLm.out.1) (by have := HLm.out; omega) HEX.out.2.1 (fun b hb hlt => by
            rcases HI4.out.2.2.1 with q | ⟨g, q, hg⟩
            · exact HEX.out.2.2.1 b (by rw [← q]; exact hb)
            · rw [q] at hb; injection hb with hb; omega)
          have hF7 : Fr wr.drew (wr.drew.alloc (.cells #[.slice ax nx cx, .int .i64 (m : Int)] 134)) (fun _ => False) := Fr.alloc _ _ _
          have hSS : wr.drew.cell? ⟨p, 0, none⟩ = some (.slice a' L c') ∧ wr.drew.cell? ⟨q, 0, none⟩ = some (.slice ax nx cx) ∧ wr.drew.cell? ⟨q, 1, none⟩ = some (.int .i64 (m : Int)) := ⟨hJd.S.blk.at.1, hQd.at.1, hQd.at.2⟩
          have hS7 : (wr.drew.alloc (.cells #[.slice ax nx cx, .int .i64 (m : Int)] 134)).cell? ⟨p, 0, none⟩ = some (.slice a' L c') ∧ (wr.drew.alloc (.cells #[.slice ax nx cx, .int .i64 (m : Int)] 134)).cell? ⟨q, 0, none⟩ = some (.slice ax nx cx) ∧ (wr.drew.alloc (.cells #[.slice ax nx cx, .int .i64 (m : Int)] 134)).cell? ⟨q, 1, none⟩ = some (.int .i64 (m : Int)) := ⟨hF7.cell hSS.1 id, hF7.cell hSS.2.1 id, hF7.cell hSS.2.2 id⟩
          have hQ8 : QB w8 q (.slice ax nx cx) m := hQd.fr hfr8 fun e => HQ.out q e rfl
          have hS8 : w8.cell? ⟨p, 0, none⟩ = some (.slice a' L c') ∧ w8.cell? ⟨q, 0, none⟩ = some (.slice ax nx cx) ∧ w8.cell? ⟨q, 1, none⟩ = some (.int .i64 (m : Int)) := ⟨hb8.at.1, hQ8.at.1, hQ8.at.2⟩
          have zz := hb8.frz 0
          have HR8 : Hid _ := hr8
          have HI8 : Hid (FL1 w (w8.setCell ⟨p, 0, none⟩ (.slice a8 (L + 1) c8)) p (.slice al N cl) N nf vL vh vw E (A ++ [⟨.slice ax nx cx, m, nx⟩]) ex (.slice (some ⟨gf, of, none⟩) nf cv) fs (i + 1) (.slice a8 (N + (i + 1)) c8)) := by
            obtain ⟨hA, hAok, hnw, hx, hxv, hxl, hxm, hx9, hap⟩ := HI4.out
            have e1 : N + (i + 1) = L + 1 := by have := HLm.out; omega
            rw [e1]
            refine ⟨⟨by rw [← List.append_assoc]; exact hFS8, hkeep hJd.row (by decide) (by decide), fun j y hj hy => hkeep (hJd.left j y hj hy) (by decide) (by decide), fun j y hj hy e he => ?_⟩, by rw [List.length_append, hA]; rfl, hAok.snoc hA hx hxv hx9, hnw.trans hnw8 (by have := hJd.S.fr.size; omega)⟩
            rw [← List.append_assoc] at he
            rcases List.mem_append.1 he with q1 | q1
            · exact hJd.ap j y hj hy e q1
            · obtain rfl := List.mem_singleton.1 q1
              intro b hb hb2
              exact sep_at HX.out.2.2.1 (by omega) hx hy b (by rw [hxv]; exact hb2) hb
          clear hr8 hb8 hFS8 hnw8 hkeep hfr8 hF7 hQ8 hJd hQd hby HK HI4 hkn hFd
          go_upto_region 9 with fail
          clear kq0 kq1
          refine wp_region_late (fun w' => w'.cell? ⟨p, 0, none⟩ = some (.slice a' L c') ∧ w'.cell? ⟨q, 0, none⟩ = some (.slice ax nx cx) ∧ w'.cell? ⟨q, 1, none⟩ = some (.int .i64 (m : Int))) 10 (by kernel_rfl) ?_
          intro hCl
          generalize wr.drew = wd at *
          change wpAnyL _ _ _ _ _ _ 11 _ _ _
          refine takeL (i := 0) (v := .pointer (some ⟨p, 0, none⟩)) 9 (some 49) rfl rfl (by kernel_rfl) (by kernel_rfl) (by kernel_rfl) (by kernel_rfl) hCl (fun _ _ _ h => h) (Or.inl ⟨by kernel_rfl, fun w' hSw => by kernel_rfl⟩) hSS ?_
          clear hCl
          intro hCl
          simp only [Act.put, List.setIfInBounds_toArray, List.set_cons_zero, List.set_cons_succ]
          refine takeL (i := 1) (v := .pointer (some ⟨p, 0, none⟩)) 9 (some 50) rfl rfl (by kernel_rfl) (by kernel_rfl) (by kernel_rfl) (by kernel_rfl) hCl (fun _ _ _ h => h) (Or.inl ⟨by kernel_rfl, fun w' hSw => by kernel_rfl⟩) hSS ?_
          clear hCl
          intro hCl
          simp only [Act.put, List.setIfInBounds_toArray, List.set_cons_zero, List.set_cons_succ]
          refine takeL (i := 2) (v := .pointer (some ⟨p, 0, none⟩)) 9 (some 51) rfl rfl (by kernel_rfl) (by kernel_rfl) (by kernel_rfl) (by kernel_rfl) hCl (fun _ _ _ h => h) (Or.inl ⟨by kernel_rfl, fun w' hSw => by kernel_rfl⟩) hSS ?_
          clear hCl
          intro hCl
          simp only [Act.put, List.setIfInBounds_toArray, List.set_cons_zero, List.set_cons_succ]
          refine takeL (i := 3) (v := .pointer (some ⟨p, 0, none⟩)) 9 (some 52) rfl rfl (by kernel_rfl) (by kernel_rfl) (by kernel_rfl) (by kernel_rfl) hCl (fun _ _ _ h => h) (Or.inl ⟨by kernel_rfl, fun w' hSw => by kernel_rfl⟩) hSS ?_
          clear hCl
          intro hCl
          simp only [Act.put, List.setIfInBounds_toArray, List.set_cons_zero, List.set_cons_succ]
          refine takeL (i := 4) (v := .slice a' L c') 9 (some 53) rfl rfl (by kernel_rfl) (by kernel_rfl) (by kernel_rfl) (by kernel_rfl) hCl (fun _ _ _ h => h) (Or.inl ⟨by kernel_rfl, fun w' hSw => by have q0 := hSw.1; go_simp⟩) hSS ?_
          clear hCl
          intro hCl
          simp only [Act.put, List.setIfInBounds_toArray, List.set_cons_zero, List.set_cons_succ]
          refine takeL (i := 5) (v := .agg #[.slice ax nx cx, .int .i64 (m : Int)]) 9 (some 54) rfl rfl (by kernel_rfl) (by kernel_rfl) (by kernel_rfl) (by kernel_rfl) hCl (fun _ _ _ h => h) (Or.inl ⟨by kernel_rfl, fun w' hSw => by have q0 := hSw.2.1; have q1 := hSw.2.2; clear hSw; go_simp⟩) hSS ?_
          clear hCl
          intro hCl
          simp only [Act.put, List.setIfInBounds_toArray, List.set_cons_zero, List.set_cons_succ]
          refine oneL (i := 6) rfl (by kernel_rfl) hCl (by kernel_rfl) (fun K1 hK1 => ?_)
          refine valR (d := some 55) rfl (.slice (some ⟨wd.heap.size, 0, none⟩) 1 1) (w' := wd.alloc (.cells #[.slice ax nx cx, .int .i64 (m : Int)] 134)) (by kernel_rfl) ?_
          refine hK1.out _ _ (fun _ => hS7) ?_
          clear hK1 hCl
          intro hCl
          simp only [Act.put, List.setIfInBounds_toArray, List.set_cons_zero, List.set_cons_succ]
          refine oneL (i := 7) rfl (by kernel_rfl) hCl (by kernel_rfl) (fun K1 hK1 => ?_)
          refine valR (d := some 56) rfl (.slice a8 (L + 1) c8) (exec_append _ _ 50 rfl (by kernel_rfl) (by kernel_rfl) HR8.out) ?_
          refine hK1.out _ _ (fun _ => hS8) ?_
          clear hK1 hCl hS7
          intro hCl
          simp only [Act.put, List.setIfInBounds_toArray, List.set_cons_zero, List.set_cons_succ]
          refine takeL (i := 8) (v := .pointer (some ⟨p, 0, none⟩)) 9 (some 57) rfl rfl (by kernel_rfl) (by kernel_rfl) (by kernel_rfl) (by kernel_rfl) hCl (fun _ _ _ h => h) (Or.inl ⟨by kernel_rfl, fun w' hSw => by kernel_rfl⟩) hS8 ?_
          clear hCl
          intro hCl
          simp only [Act.put, List.setIfInBounds_toArray, List.set_cons_zero, List.set_cons_succ]
          refine takeL (i := 9) (v := .pointer (some ⟨p, 0, none⟩)) 9 (some 58) rfl rfl (by kernel_rfl) (by kernel_rfl) (by kernel_rfl) (by kernel_rfl) hCl (fun _ _ _ h => h) (Or.inl ⟨by kernel_rfl, fun w' hSw => by kernel_rfl⟩) hS8 ?_
          clear hCl
          intro hCl
          simp only [Act.put, List.setIfInBounds_toArray, List.set_cons_zero, List.set_cons_succ]
          refine oneL (i := 10) rfl (by kernel_rfl) hCl (by kernel_rfl) (fun K1 hK1 => ?_)
          refine skipR (d := none) rfl (w' := w8.setCell ⟨p, 0, none⟩ (.slice a8 (L + 1) c8)) (by have q0 := hS8.1; clear hS8 hSS; go_simp) ?_
          refine hK1.out _ _ (fun h => absurd rfl h) ?_
          clear hK1 hCl hS8 hSS zz HR8
          intro hCl
          simp only [Act.put, List.setIfInBounds_toArray, List.set_cons_zero, List.set_cons_succ]
          refine doneL (by kernel_rfl) ?_
          clear hCl
          generalize w8.setCell ⟨p, 0, none⟩ (.slice a8 (L + 1) c8) = w9 at *
          go_wp2
          go_roundw
          case rel => exact ⟨i + 1, c8, a8, _, by omega, by go_num, HI8.out⟩
          case measure => simp [intOf]; omega
    · have hge : ¬ (i : Int) < (nf : Int) := by omega
      obtain ⟨T, hT⟩ : ∃ T, N + i = T := ⟨_, rfl⟩
      have HI9 : Hid (FL2 w wr p (.slice al N cl) N vL vh vw E A ex fs N [] (.slice a' T c') T ∧ A.length = nf ∧ AOK fs A ∧ N + nf = T) := by
        obtain ⟨hJ, hA, hAok, hnw⟩ := HI.out
        have hin : i = nf := by omega
        rw [hT] at hJ hnw
        exact ⟨⟨by rw [List.append_nil]; exact hJ.S, by simp, by rw [List.append_nil, List.length_append, HX.out.1, hA]; exact hT, fun e he => (by cases he), hnw⟩, by rw [hA]; exact hin, hAok, by rw [← hin]; exact hT⟩
      have k0 := HI9.out.1.1.blk.at.1
      have hT9 : T ≤ 90000000 := by have := HI9.out.2.2.2; omega
      have HA : Hid (A.length = nf ∧ AOK fs A ∧ N + nf = T) := HI9.out.2
      clear HI hT
      go_wp2
      clear k0
      go_loopw [9, 10, 11] (fun x9 _ _ wr => ∃ (j n2 c2 : Nat) (a2 : Option Addr) (G : List Ow), N ≤ j ∧ j ≤ T ∧ x9 = .int .i64 (j : Int) ∧ Hid (FL2 w wr p (.slice al N cl) N vL vh vw E A ex fs j G (.slice a2 n2 c2) n2)) (fun x9 _ _ _ => T - (intOf x9).toNat)
      case atStart => exact ⟨N, T, c', a', [], Nat.le_refl _, by have := HI9.out.2.2.2; omega, rfl, HI9.out.1⟩
      clear HI9
      case round =>
        obtain ⟨j, n2, c2, a2, G, hNj, hj, rfl, HJ⟩ := hrel
        have hn2 : n2 = T + (j - N) := by
          have h5 := HJ.out.2.2.1
          rw [List.length_append, List.length_append, HX.out.1, HA.out.1] at h5
          have := HJ.out.2.1
          have := HA.out.2.2
          omega
        have HN2 : Hid (n2 = T + (j - N)) := hn2
        have hn29 : n2 ≤ 190000000 := by omega
        by_cases hlt : j < T
        · have hlt' : (j : Int) < (T : Int) := by omega
          have hjw : IntKind.i64.wrap ((j : Int) + 1) = (j : Int) + 1 := by rw [IntKind.wrap_i64]; omega
          have hjn : (j : Int) < (n2 : Int) := by omega
          have hjn' : j < n2 := by omega
          clear hn2
          obtain ⟨e, he⟩ : ∃ e, A[G.length]? = some e := ⟨_, List.getElem?_eq_getElem (by have := HJ.out.2.1; have := HA.out; omega)⟩
          obtain ⟨x, hx, hev, hen⟩ := HA.out.2.1 _ _ he
          have hee : (E ++ A ++ G)[j]? = some e := by
            have h1 := HJ.out.2.1
            have h2 := HX.out.1
            have h3 := HA.out
            rw [List.append_assoc, List.getElem?_append_right (by omega), List.getElem?_append_left (by omega), show j - E.length = G.length by omega]
            exact he
          have hem : e ∈ E ++ A ++ G := List.mem_of_getElem? hee
          obtain ⟨hby, hm9, -⟩ := HJ.out.1.ows.each e hem
          obtain ⟨ae, ce, hv, -⟩ := RowAt.form hby
          rw [atL_len] at hv
          obtain ⟨g2, o2, c2', cur2, e2, -⟩ := HJ.out.1.ows.row.more (by rw [HJ.out.2.2.1]; omega)
          injection e2 with e21 e22 e23
          subst e21
          obtain ⟨hc1, hc2⟩ := HJ.out.1.ows.at HJ.out.2.2.1 hee
          have hund := Und.first HX.out.2.2.1 HAP.out HA.out.2.1 HJ.out.2.2.2.1 HX.out.2.2.2.2 he hx hev
          have hxm : x ∈ fs := List.mem_of_getElem? hx
          have hxw : ∀ b, e.v.ownBlock = some b → ex b := fun b hb => HEX.out.2.2.2 x hxm b (by rw [← hev]; exact hb)
          have hxo : ∀ b, e.v.ownBlock = some b → x.v.ownBlock = some b := fun b hb => by rw [← hev]; exact hb
          rw [hv] at hc1 hby hund hxw hxo
          generalize e.n = ne at *
          generalize e.m = me at *
          obtain ⟨hq1, hq2, hq3⟩ := newQ wr (.slice ae ne ce) me
          have k0 := HJ.out.1.blk.at.1
          have HK0 : Hid (FS w wr p (.slice (some ⟨g2, o2, none⟩) n2 c2) vL vh vw (E ++ A ++ G) ex ∧ ByAt wr (.slice ae ne ce) (atL me ne)) := ⟨HJ.out.1, hby⟩
          have HU : Hid ((∀ e', e' ∈ E ++ A ++ G → Und 1 e'.v e'.n (.slice ae ne ce) ne) ∧ (∀ b, (Value.slice ae ne ce).ownBlock = some b → ex b) ∧ (∀ b, (Value.slice ae ne ce).ownBlock = some b → x.v.ownBlock = some b) ∧ fs[G.length]? = some x) := ⟨hund, hxw, hxo, hx⟩
          have HJ2 : Hid (G.length + N = j ∧ (E ++ A ++ G).length = n2 ∧ GOK w fs G ∧ newer w (.slice al N cl) (.slice (some ⟨g2, o2, none⟩) n2 c2)) := HJ.out.2
          clear hund hxw hxo hx hxm hem hee he hev hv hby HJ e22 e23
          go_upto_region 14 with fail
          rename_i Kc hKc
          refine wp_region_lit ?_
          refine wpList_runTo rfl (some 70) rfl (.pointer (some ⟨p, 0, none⟩)) wr (by kernel_rfl) ?_
          simp only [Act.put, List.setIfInBounds_toArray, List.set_cons_zero, List.set_cons_succ]
          refine wpList_runTo rfl (some 71) rfl (.pointer (some ⟨p, 0, none⟩)) wr (by kernel_rfl) ?_
          simp only [Act.put, List.setIfInBounds_toArray, List.set_cons_zero, List.set_cons_succ]
          refine wpList_runTo rfl (some 72) rfl (.pointer (some ⟨p, 0, none⟩)) wr (by kernel_rfl) ?_
          simp only [Act.put, List.setIfInBounds_toArray, List.set_cons_zero, List.set_cons_succ]
          refine wpList_runTo rfl (some 73) rfl (.slice (some ⟨g2, o2, none⟩) n2 c2) wr (by go_simp) ?_
          simp only [Act.put, List.setIfInBounds_toArray, List.set_cons_zero, List.set_cons_succ]
          refine wpList_runTo rfl (some 74) rfl (.int .i64 (j : Int)) wr (by kernel_rfl) ?_
          simp only [Act.put, List.setIfInBounds_toArray, List.set_cons_zero, List.set_cons_succ]
          refine wpList_runTo rfl (some 75) rfl (.pointer (some ⟨g2, o2 + j * 2, none⟩)) wr (by go_simp) ?_
          simp only [Act.put, List.setIfInBounds_toArray, List.set_cons_zero, List.set_cons_succ]
          refine wpList_runTo rfl (some 76) rfl (.agg #[.slice ae ne ce, .int .i64 (me : Int)]) wr (by go_simp) ?_
          simp only [Act.put, List.setIfInBounds_toArray, List.set_cons_zero, List.set_cons_succ]
          refine wpList_runTo rfl (some 10) rfl (.pointer (some ⟨wr.heap.size, 0, none⟩)) (wr.alloc (.cells #[.slice none 0 0, .int .i64 0] 134)) (by kernel_rfl) ?_
          simp only [Act.put, List.setIfInBounds_toArray, List.set_cons_zero, List.set_cons_succ]
          refine wpList_store_mid rfl 134 _ _ rfl wr.heap.size 0 #[.slice ae ne ce, .int .i64 (me : Int)] (by kernel_rfl) (by kernel_rfl) hq3 (by kernel_rfl) (by kernel_rfl) ?_
          refine wpList_nil ?_
          refine hKc _ _ ?_
          clear hKc hq3 hc1 hc2 k0
          have HQ : Hid ((∀ b, (Value.slice (some ⟨g2, o2, none⟩) n2 c2).ownBlock = some b → b ≠ wr.heap.size) ∧ w.heap.size ≤ wr.heap.size) := ⟨fun b hb q => by
            have := (HK0.out.1.ows.row.lt hb).1
            omega, HK0.out.1.fr.size⟩
          have HK1 : Hid (FS w ((wr.alloc (.cells #[.slice none 0 0, .int .i64 0] 134)).setCells wr.heap.size 0 [.slice ae ne ce, .int .i64 (me : Int)]) p (.slice (some ⟨g2, o2, none⟩) n2 c2) vL vh vw (E ++ A ++ G) ex ∧ QB ((wr.alloc (.cells #[.slice none 0 0, .int .i64 0] 134)).setCells wr.heap.size 0 [.slice ae ne ce, .int .i64 (me : Int)]) wr.heap.size (.slice ae (ne + 0) ce) me ∧ ByAt ((wr.alloc (.cells #[.slice none 0 0, .int .i64 0] 134)).setCells wr.heap.size 0 [.slice ae ne ce, .int .i64 (me : Int)]) (.slice ae (ne + 0) ce) (atL me (ne + 0)) ∧ newer w (.slice ae ne ce) (.slice ae (ne + 0) ce) ∧ ∀ e', e' ∈ E ++ A ++ G → Und 1 e'.v e'.n (.slice ae (ne + 0) ce) (ne + 0)) :=
            ⟨HK0.out.1.to0 hq2, hq1, RowAt.fr HK0.out.2 hq2 fun _ _ q => q, .inl rfl, HU.out.1⟩
          clear hq1 hq2 HK0
          simp only [Act.put, List.setIfInBounds_toArray, List.set_cons_zero, List.set_cons_succ]
          generalize wr.heap.size = q at *
          generalize (wr.alloc (.cells #[.slice none 0 0, .int .i64 0] 134)).setCells q 0 [.slice ae ne ce, .int .i64 (me : Int)] = w2 at *
          go_wp2
          go_loopw [11] (fun x11 wr => ∃ (s c3 : Nat) (a3 : Option Addr), s ≤ 256 ∧ x11 = .int .i64 (s : Int) ∧ Hid (FS w wr p (.slice (some ⟨g2, o2, none⟩) n2 c2) vL vh vw (E ++ A ++ G) ex ∧ QB wr q (.slice a3 (ne + s) c3) me ∧ ByAt wr (.slice a3 (ne + s) c3) (atL me (ne + s)) ∧ newer w (.slice ae ne ce) (.slice a3 (ne + s) c3) ∧ ∀ e', e' ∈ E ++ A ++ G → Und 1 e'.v e'.n (.slice a3 (ne + s) c3) (ne + s))) (fun x11 _ => 256 - (intOf x11).toNat)
          case atStart => exact ⟨0, ce, ae, by decide, rfl, HK1.out⟩
          clear HK1
          case round =>
            obtain ⟨s, c3, a3, hs, rfl, HS⟩ := hrel
            obtain ⟨M, hM⟩ : ∃ M, ne + s = M := ⟨_, rfl⟩
            rw [hM] at HS
            have HM : Hid (ne + s = M) := hM
            have hM9 : M ≤ 900000256 := by omega
            clear hM
            by_cases hs6 : s < 256
            · have hs6' : (s : Int) < 256 := by omega
              have hsw : IntKind.i64.wrap ((s : Int) + 1) = (s : Int) + 1 := by rw [IntKind.wrap_i64]; omega
              have hFd : Fr wr wr.drew (fun _ => False) := (Fr.refl wr (fun _ => False)).drew
              have HS1 : Hid (FS w wr.drew p (.slice (some ⟨g2, o2, none⟩) n2 c2) vL vh vw (E ++ A ++ G) ex ∧ QB wr.drew q (.slice a3 M c3) me ∧ ByAt wr.drew (.slice a3 M c3) (atL me M)) := ⟨HS.out.1.to0 hFd, HS.out.2.1.fr hFd id, RowAt.fr HS.out.2.2.1 hFd fun _ _ q => q⟩
              have HS2 : Hid (newer w (.slice ae ne ce) (.slice a3 M c3) ∧ ∀ e', e' ∈ E ++ A ++ G → Und 1 e'.v e'.n (.slice a3 M c3) M) := HS.out.2.2.2
              have hat := at_any (.slice a3 M c3) me M rfl rfl wr.drew (by omega) (by omega)
              obtain ⟨y, hy⟩ : ∃ y, (atB me M).toNat = y := ⟨_, rfl⟩
              rw [hy] at hat
              have HY : Hid ((atB me M).toNat = y) := hy
              have hSS : wr.drew.cell? ⟨q, 0, none⟩ = some (.slice a3 M c3) ∧ wr.drew.cell? ⟨q, 1, none⟩ = some (.int .i64 (me : Int)) := HS1.out.2.1.at
              clear hFd HS hy
              go_upto_region 18 with fail
              rename_i Kc hKc
              refine wp_region_late (fun w' => w'.cell? ⟨q, 0, none⟩ = some (.slice a3 M c3) ∧ w'.cell? ⟨q, 1, none⟩ = some (.int .i64 (me : Int))) 10 (by kernel_rfl) ?_
              intro hCl
              generalize wr.drew = wd at *
              change wpAnyL _ _ _ _ _ _ 11 _ _ _
              refine takeL (i := 0) (v := .pointer (some ⟨q, 0, none⟩)) 9 (some 81) rfl rfl (by kernel_rfl) (by kernel_rfl) (by kernel_rfl) (by kernel_rfl) hCl (fun _ _ _ h => h) (Or.inl ⟨by kernel_rfl, fun w' hSw => by kernel_rfl⟩) hSS ?_
              clear hCl
              intro hCl
              simp only [Act.put, List.setIfInBounds_toArray, List.set_cons_zero, List.set_cons_succ]
              refine takeL (i := 1) (v := .slice a3 M c3) 9 (some 82) rfl rfl (by kernel_rfl) (by kernel_rfl) (by kernel_rfl) (by kernel_rfl) hCl (fun _ _ _ h => h) (Or.inl ⟨by kernel_rfl, fun w' hSw => by have q0 := hSw.1; go_simp⟩) hSS ?_
              clear hCl
              intro hCl
              simp only [Act.put, List.setIfInBounds_toArray, List.set_cons_zero, List.set_cons_succ]
              refine takeL (i := 2) (v := .agg #[.slice a3 M c3, .int .i64 (me : Int)]) 9 (some 83) rfl rfl (by kernel_rfl) (by kernel_rfl) (by kernel_rfl) (by kernel_rfl) hCl (fun _ _ _ h => h) (Or.inl ⟨by kernel_rfl, fun w' hSw => by have q0 := hSw.1; have q1 := hSw.2; clear hSw; go_simp⟩) hSS ?_
              clear hCl
              intro hCl
              simp only [Act.put, List.setIfInBounds_toArray, List.set_cons_zero, List.set_cons_succ]
              refine takeL (i := 3) (v := .pointer (some ⟨q, 0, none⟩)) 9 (some 84) rfl rfl (by kernel_rfl) (by kernel_rfl) (by kernel_rfl) (by kernel_rfl) hCl (fun _ _ _ h => h) (Or.inl ⟨by kernel_rfl, fun w' hSw => by kernel_rfl⟩) hSS ?_
              clear hCl
              intro hCl
              simp only [Act.put, List.setIfInBounds_toArray, List.set_cons_zero, List.set_cons_succ]
              refine takeL (i := 4) (v := .slice a3 M c3) 9 (some 85) rfl rfl (by kernel_rfl) (by kernel_rfl) (by kernel_rfl) (by kernel_rfl) hCl (fun _ _ _ h => h) (Or.inl ⟨by kernel_rfl, fun w' hSw => by have q0 := hSw.1; go_simp⟩) hSS ?_
              clear hCl
              intro hCl
              simp only [Act.put, List.setIfInBounds_toArray, List.set_cons_zero, List.set_cons_succ]
              refine takeL (i := 5) (v := .int .i64 (M : Int)) 9 (some 86) rfl rfl (by kernel_rfl) (by kernel_rfl) (by kernel_rfl) (by kernel_rfl) hCl (fun _ _ _ h => h) (Or.inl ⟨by kernel_rfl, fun w' hSw => by kernel_rfl⟩) hSS ?_
              clear hCl
              intro hCl
              simp only [Act.put, List.setIfInBounds_toArray, List.set_cons_zero, List.set_cons_succ]
              refine oneL (i := 6) rfl (by kernel_rfl) hCl (by kernel_rfl) (fun K1 hK1 => ?_)
              refine callR (d := some 87) rfl 71 #[.agg #[.slice a3 M c3, .int .i64 (me : Int)], .int .i64 (M : Int)] (by kernel_rfl) hat ?_
              rintro e w10 ⟨rfl, hB10⟩
              have hF10 : Fr wd w10 (fun _ => False) := Fr.of_below hB10 _
              have hQ10 := HS1.out.2.1.fr hF10 id
              have hS10 : w10.cell? ⟨q, 0, none⟩ = some (.slice a3 M c3) ∧ w10.cell? ⟨q, 1, none⟩ = some (.int .i64 (me : Int)) := hQ10.at
              refine ⟨_, rfl, ?_⟩
              refine hK1.out _ _ (fun _ => hS10) ?_
              clear hK1 hCl hB10 hat hSS
              intro hCl
              simp only [Act.put, List.setIfInBounds_toArray, List.set_cons_zero, List.set_cons_succ]
              have hby10 : ByAt w10 (.slice a3 M c3) (atL me M) := RowAt.fr HS1.out.2.2 hF10 fun _ _ q => q
              obtain ⟨a8, c8, w8, hr8, hby8, hg8⟩ := one_app (atB me M) hby10 (atL_len _ _) (by omega)
              have hF7 : Fr w10 (w10.alloc (.cells #[.int .u8 ((atB me M).toNat : Int)] 5)) (fun _ => False) := Fr.alloc _ _ _
              have hrow7 : RowAt (w10.alloc (.cells #[.int .u8 ((atB me M).toNat : Int)] 5)) 5 1 (.slice a3 M c3) M (flatL u8V (atL me M)) := by
                have h5 := RowAt.fr hby10 hF7 fun _ _ q => q
                rw [atL_len] at h5; exact h5
              have hQ7 := hQ10.fr hF7 id
              have hFS8 : FS w w8 p (.slice (some ⟨g2, o2, none⟩) n2 c2) vL vh vw (E ++ A ++ G) ex := ((HS1.out.1.to0 hF10).to0 hF7).grow hrow7 hg8 HS2.out.2 (fun b hb hlt => by
                rcases HS2.out.1 with e1 | ⟨g, e1, hg⟩
                · exact HU.out.2.1 b (by rw [← e1]; exact hb)
                · rw [e1] at hb; injection hb with hb; omega)
              have hQ8 : QB w8 q (.slice a3 M c3) me := hQ7.fr hg8.fr fun e1 => hrow7.ne_type hQ7 (by decide) e1
              have hFq : Fr w8 (w8.setCell ⟨q, 0, none⟩ (.slice a8 (M + 1) c8)) (fun b => b = q) := Fr.setCell _ _ _ _ rfl
              have hz10 : wd.heap.size ≤ w10.heap.size := hF10.size
              have HS8 : Hid (FS w (w8.setCell ⟨q, 0, none⟩ (.slice a8 (M + 1) c8)) p (.slice (some ⟨g2, o2, none⟩) n2 c2) vL vh vw (E ++ A ++ G) ex ∧ QB (w8.setCell ⟨q, 0, none⟩ (.slice a8 (M + 1) c8)) q (.slice a8 (ne + (s + 1)) c8) me ∧ ByAt (w8.setCell ⟨q, 0, none⟩ (.slice a8 (M + 1) c8)) (.slice a8 (ne + (s + 1)) c8) (atL me (ne + (s + 1))) ∧ newer w (.slice ae ne ce) (.slice a8 (ne + (s + 1)) c8) ∧ ∀ e', e' ∈ E ++ A ++ G → Und 1 e'.v e'.n (.slice a8 (ne + (s + 1)) c8) (ne + (s + 1))) := by
                have e1 : ne + (s + 1) = M + 1 := by have := HM.out; omega
                rw [e1]
                refine ⟨hFS8.to hFq (fun e2 => ?_) (fun b hb e2 => ?_) (fun e' he' b hb e2 => ?_) (fun b hb e2 => ?_), hQ8.set0 _, ?_, ?_, fun e' he' => ?_⟩
                · subst e2; exact absurd (obj_type hFS8.blk hQ8) (by decide)
                · exact HQ.out.1 b hb e2
                · subst e2; exact RowAt.ne_type (hFS8.ows.each e' he').1 hQ8 (by decide) hb
                · have := HQ.out.2; omega
                · rw [atL_snoc]
                  exact RowAt.fr hby8 hFq fun b hb e2 => by
                    subst e2; exact RowAt.ne_type hby8 hQ8 (by decide) hb
                · refine HS2.out.1.trans hg8.newer ?_
                  have h1 := HS1.out.1.fr.size
                  have h2 := hF7.size
                  omega
                · exact hg8.und (HS2.out.2 e' he') fun b hb => by
                    have h1 := (RowAt.lt (((HS1.out.1.to0 hF10).to0 hF7).ows.each e' he').1 hb).1
                    exact h1
              have hS7 : (w10.alloc (.cells #[.int .u8 ((atB me M).toNat : Int)] 5)).cell? ⟨q, 0, none⟩ = some (.slice a3 M c3) ∧ (w10.alloc (.cells #[.int .u8 ((atB me M).toNat : Int)] 5)).cell? ⟨q, 1, none⟩ = some (.int .i64 (me : Int)) := hQ7.at
              have hS8 : w8.cell? ⟨q, 0, none⟩ = some (.slice a3 M c3) ∧ w8.cell? ⟨q, 1, none⟩ = some (.int .i64 (me : Int)) := hQ8.at
              have zz := hQ8.frz 0
              rw [HY.out] at hr8 hS7
              have HR8 : Hid _ := hr8
              clear hr8 hby8 hg8 hF7 hrow7 hQ7 hFS8 hQ8 hFq hby10 hQ10 hF10 HS1 HS2 hz10
              refine oneL (i := 7) rfl (by kernel_rfl) hCl (by kernel_rfl) (fun K1 hK1 => ?_)
              refine valR (d := some 88) rfl (.slice (some ⟨w10.heap.size, 0, none⟩) 1 1) (w' := w10.alloc (.cells #[.int .u8 (y : Int)] 5)) (by kernel_rfl) ?_
              refine hK1.out _ _ (fun _ => hS7) ?_
              clear hK1 hCl hS10
              intro hCl
              simp only [Act.put, List.setIfInBounds_toArray, List.set_cons_zero, List.set_cons_succ]
              refine oneL (i := 8) rfl (by kernel_rfl) hCl (by kernel_rfl) (fun K1 hK1 => ?_)
              refine valR (d := some 89) rfl (.slice a8 (M + 1) c8) (exec_append _ _ 22 rfl (by kernel_rfl) (by kernel_rfl) HR8.out) ?_
              refine hK1.out _ _ (fun _ => hS8) ?_
              clear hK1 hCl hS7
              intro hCl
              simp only [Act.put, List.setIfInBounds_toArray, List.set_cons_zero, List.set_cons_succ]
              refine takeL (i := 9) (v := .pointer (some ⟨q, 0, none⟩)) 9 (some 90) rfl rfl (by kernel_rfl) (by kernel_rfl) (by kernel_rfl) (by kernel_rfl) hCl (fun _ _ _ h => h) (Or.inl ⟨by kernel_rfl, fun w' hSw => by kernel_rfl⟩) hS8 ?_
              clear hCl
              intro hCl
              simp only [Act.put, List.setIfInBounds_toArray, List.set_cons_zero, List.set_cons_succ]
              refine oneL (i := 10) rfl (by kernel_rfl) hCl (by kernel_rfl) (fun K1 hK1 => ?_)
              refine skipR (d := none) rfl (w' := w8.setCell ⟨q, 0, none⟩ (.slice a8 (M + 1) c8)) (by have q0 := hS8.1; clear hS8; go_simp) ?_
              refine hK1.out _ _ (fun h => absurd rfl h) ?_
              clear hK1 hCl hS8 zz HR8
              intro hCl
              simp only [Act.put, List.setIfInBounds_toArray, List.set_cons_zero, List.set_cons_succ]
              refine doneL (by kernel_rfl) ?_
              refine hKc _ _ ?_
              clear hKc hCl
              generalize w8.setCell ⟨q, 0, none⟩ (.slice a8 (M + 1) c8) = w9 at *
              go_wp2
              go_roundw
              case rel => exact ⟨s + 1, c8, a8, by omega, by go_num, HS8.out⟩
              case measure => simp [intOf]; omega
            · have hs6' : ¬ (s : Int) < 256 := by omega
              have hFd : Fr wr wr.drew (fun _ => False) := (Fr.refl wr (fun _ => False)).drew
              have hFSd := HS.out.1.to0 hFd
              have hQd := HS.out.2.1.fr hFd id
              have hby : ByAt wr.drew (.slice a3 M c3) (atL me M) := RowAt.fr HS.out.2.2.1 hFd fun _ _ q => q
              obtain ⟨a8, c8, w8, hr8, hb8, hFS8, hnw8, hkeep, hfr8⟩ := hFSd.app (N := n2) hby (by omega) (by omega) HJ2.out.2.1 (by omega) HEX.out.2.1 (fun b hb hlt => by
                rcases HJ2.out.2.2.2 with e1 | ⟨g, e1, hg⟩
                · exact HEX.out.2.2.1 b (by rw [← e1]; exact hb)
                · rw [e1] at hb; injection hb with hb; omega)
              have hF7 : Fr wr.drew (wr.drew.alloc (.cells #[.slice a3 M c3, .int .i64 (me : Int)] 134)) (fun _ => False) := Fr.alloc _ _ _
              have hSS : wr.drew.cell? ⟨p, 0, none⟩ = some (.slice (some ⟨g2, o2, none⟩) n2 c2) ∧ wr.drew.cell? ⟨q, 0, none⟩ = some (.slice a3 M c3) ∧ wr.drew.cell? ⟨q, 1, none⟩ = some (.int .i64 (me : Int)) := ⟨hFSd.blk.at.1, hQd.at.1, hQd.at.2⟩
              have hS7 : (wr.drew.alloc (.cells #[.slice a3 M c3, .int .i64 (me : Int)] 134)).cell? ⟨p, 0, none⟩ = some (.slice (some ⟨g2, o2, none⟩) n2 c2) ∧ (wr.drew.alloc (.cells #[.slice a3 M c3, .int .i64 (me : Int)] 134)).cell? ⟨q, 0, none⟩ = some (.slice a3 M c3) ∧ (wr.drew.alloc (.cells #[.slice a3 M c3, .int .i64 (me : Int)] 134)).cell? ⟨q, 1, none⟩ = some (.int .i64 (me : Int)) := ⟨hF7.cell hSS.1 id, hF7.cell hSS.2.1 id, hF7.cell hSS.2.2 id⟩
              have hQ8 : QB w8 q (.slice a3 M c3) me := hQd.fr hfr8 fun e1 => HQ.out.1 q e1 rfl
              have hS8 : w8.cell? ⟨p, 0, none⟩ = some (.slice (some ⟨g2, o2, none⟩) n2 c2) ∧ w8.cell? ⟨q, 0, none⟩ = some (.slice a3 M c3) ∧ w8.cell? ⟨q, 1, none⟩ = some (.int .i64 (me : Int)) := ⟨hb8.at.1, hQ8.at.1, hQ8.at.2⟩
              have zz := hb8.frz 0
              have HR8 : Hid _ := hr8
              have HI8 : Hid (FL2 w (w8.setCell ⟨p, 0, none⟩ (.slice a8 (n2 + 1) c8)) p (.slice al N cl) N vL vh vw E A ex fs (j + 1) (G ++ [⟨.slice a3 M c3, me, M⟩]) (.slice a8 (n2 + 1) c8) (n2 + 1)) := by
                refine ⟨by rw [← List.append_assoc]; exact hFS8, by rw [List.length_append]; have := HJ2.out.1; simp; omega, by rw [← List.append_assoc, List.length_append, HJ2.out.2.1]; rfl, HJ2.out.2.2.1.snoc HU.out.2.2.2 fun b hb => ?_, HJ2.out.2.2.2.trans hnw8 (by have := hFSd.fr.size; omega)⟩
                rcases HS.out.2.2.2.1 with e1 | ⟨g, e1, hg⟩
                · exact .inl (HU.out.2.2.1 b (by rw [← e1]; exact hb))
                · have hb' : (Value.slice a3 M c3).ownBlock = some b := hb
                  rw [e1] at hb'; injection hb' with hb'
                  exact .inr (by omega)
              clear hr8 hb8 hFS8 hnw8 hkeep hfr8 hF7 hQ8 hFSd hQd hby HS hFd
              go_upto_region 19 with fail
              refine wp_region_late (fun w' => w'.cell? ⟨p, 0, none⟩ = some (.slice (some ⟨g2, o2, none⟩) n2 c2) ∧ w'.cell? ⟨q, 0, none⟩ = some (.slice a3 M c3) ∧ w'.cell? ⟨q, 1, none⟩ = some (.int .i64 (me : Int))) 10 (by kernel_rfl) ?_
              intro hCl
              generalize wr.drew = wd at *
              change wpAnyL _ _ _ _ _ _ 11 _ _ _
              refine takeL (i := 0) (v := .pointer (some ⟨p, 0, none⟩)) 9 (some 91) rfl rfl (by kernel_rfl) (by kernel_rfl) (by kernel_rfl) (by kernel_rfl) hCl (fun _ _ _ h => h) (Or.inl ⟨by kernel_rfl, fun w' hSw => by kernel_rfl⟩) hSS ?_
              clear hCl
              intro hCl
              simp only [Act.put, List.setIfInBounds_toArray, List.set_cons_zero, List.set_cons_succ]
              refine takeL (i := 1) (v := .pointer (some ⟨p, 0, none⟩)) 9 (some 92) rfl rfl (by kernel_rfl) (by kernel_rfl) (by kernel_rfl) (by kernel_rfl) hCl (fun _ _ _ h => h) (Or.inl ⟨by kernel_rfl, fun w' hSw => by kernel_rfl⟩) hSS ?_
              clear hCl
              intro hCl
              simp only [Act.put, List.setIfInBounds_toArray, List.set_cons_zero, List.set_cons_succ]
              refine takeL (i := 2) (v := .pointer (some ⟨p, 0, none⟩)) 9 (some 93) rfl rfl (by kernel_rfl) (by kernel_rfl) (by kernel_rfl) (by kernel_rfl) hCl (fun _ _ _ h => h) (Or.inl ⟨by kernel_rfl, fun w' hSw => by kernel_rfl⟩) hSS ?_
              clear hCl
              intro hCl
              simp only [Act.put, List.setIfInBounds_toArray, List.set_cons_zero, List.set_cons_succ]
              refine takeL (i := 3) (v := .pointer (some ⟨p, 0, none⟩)) 9 (some 94) rfl rfl (by kernel_rfl) (by kernel_rfl) (by kernel_rfl) (by kernel_rfl) hCl (fun _ _ _ h => h) (Or.inl ⟨by kernel_rfl, fun w' hSw => by kernel_rfl⟩) hSS ?_
              clear hCl
              intro hCl
              simp only [Act.put, List.setIfInBounds_toArray, List.set_cons_zero, List.set_cons_succ]
              refine takeL (i := 4) (v := .slice (some ⟨g2, o2, none⟩) n2 c2) 9 (some 95) rfl rfl (by kernel_rfl) (by kernel_rfl) (by kernel_rfl) (by kernel_rfl) hCl (fun _ _ _ h => h) (Or.inl ⟨by kernel_rfl, fun w' hSw => by have q0 := hSw.1; go_simp⟩) hSS ?_
              clear hCl
              intro hCl
              simp only [Act.put, List.setIfInBounds_toArray, List.set_cons_zero, List.set_cons_succ]
              refine takeL (i := 5) (v := .agg #[.slice a3 M c3, .int .i64 (me : Int)]) 9 (some 96) rfl rfl (by kernel_rfl) (by kernel_rfl) (by kernel_rfl) (by kernel_rfl) hCl (fun _ _ _ h => h) (Or.inl ⟨by kernel_rfl, fun w' hSw => by have q0 := hSw.2.1; have q1 := hSw.2.2; clear hSw; go_simp⟩) hSS ?_
              clear hCl
              intro hCl
              simp only [Act.put, List.setIfInBounds_toArray, List.set_cons_zero, List.set_cons_succ]
              refine oneL (i := 6) rfl (by kernel_rfl) hCl (by kernel_rfl) (fun K1 hK1 => ?_)
              refine valR (d := some 97) rfl (.slice (some ⟨wd.heap.size, 0, none⟩) 1 1) (w' := wd.alloc (.cells #[.slice a3 M c3, .int .i64 (me : Int)] 134)) (by kernel_rfl) ?_
              refine hK1.out _ _ (fun _ => hS7) ?_
              clear hK1 hCl
              intro hCl
              simp only [Act.put, List.setIfInBounds_toArray, List.set_cons_zero, List.set_cons_succ]
              refine oneL (i := 7) rfl (by kernel_rfl) hCl (by kernel_rfl) (fun K1 hK1 => ?_)
              refine valR (d := some 98) rfl (.slice a8 (n2 + 1) c8) (exec_append _ _ 50 rfl (by kernel_rfl) (by kernel_rfl) HR8.out) ?_
              refine hK1.out _ _ (fun _ => hS8) ?_
              clear hK1 hCl hS7
              intro hCl
              simp only [Act.put, List.setIfInBounds_toArray, List.set_cons_zero, List.set_cons_succ]
              refine takeL (i := 8) (v := .pointer (some ⟨p, 0, none⟩)) 9 (some 99) rfl rfl (by kernel_rfl) (by kernel_rfl) (by kernel_rfl) (by kernel_rfl) hCl (fun _ _ _ h => h) (Or.inl ⟨by kernel_rfl, fun w' hSw => by kernel_rfl⟩) hS8 ?_
              clear hCl
              intro hCl
              simp only [Act.put, List.setIfInBounds_toArray, List.set_cons_zero, List.set_cons_succ]
              refine takeL (i := 9) (v := .pointer (some ⟨p, 0, none⟩)) 9 (some 100) rfl rfl (by kernel_rfl) (by kernel_rfl) (by kernel_rfl) (by kernel_rfl) hCl (fun _ _ _ h => h) (Or.inl ⟨by kernel_rfl, fun w' hSw => by kernel_rfl⟩) hS8 ?_
              clear hCl
              intro hCl
              simp only [Act.put, List.setIfInBounds_toArray, List.set_cons_zero, List.set_cons_succ]
              refine oneL (i := 10) rfl (by kernel_rfl) hCl (by kernel_rfl) (fun K1 hK1 => ?_)
              refine skipR (d := none) rfl (w' := w8.setCell ⟨p, 0, none⟩ (.slice a8 (n2 + 1) c8)) (by have q0 := hS8.1; clear hS8 hSS; go_simp) ?_
              refine hK1.out _ _ (fun h => absurd rfl h) ?_
              clear hK1 hCl hS8 hSS zz HR8
              intro hCl
              simp only [Act.put, List.setIfInBounds_toArray, List.set_cons_zero, List.set_cons_succ]
              refine doneL (by kernel_rfl) ?_
              clear hCl
              generalize w8.setCell ⟨p, 0, none⟩ (.slice a8 (n2 + 1) c8) = w9 at *
              go_wp2
              go_roundw
              case rel => exact ⟨j + 1, n2 + 1, c8, a8, _, by omega, by omega, by go_num, HI8.out⟩
              case measure => simp [intOf]; omega
        · have hge2 : ¬ (j : Int) < (T : Int) := by omega
          have HO : Hid (FO w wr p (.slice al N cl) vL vh vw E fs) := by
            obtain ⟨hFS, hGl, hlen, hG, hnw⟩ := HJ.out
            refine ⟨⟨_, E ++ A ++ G, hFS.blk, hFS.ows, ?_, fun e he b hb => ?_, hnw⟩, ?_⟩
            · rw [hlen, HX.out.1, HX.out.2.1]; have := HA.out.2.2; omega
            · rcases List.mem_append.1 he with q1 | q1
              · rcases List.mem_append.1 q1 with q1 | q1
                · exact .inl ⟨e, q1, hb⟩
                · obtain ⟨k, hk⟩ := List.getElem?_of_mem q1
                  obtain ⟨x, hx, hv, -⟩ := HA.out.2.1 k e hk
                  exact .inr (.inl ⟨x, List.mem_of_getElem? hx, by rw [← hv]; exact hb⟩)
              · rcases hG e q1 b hb with ⟨k, x, _, hx, hb2⟩ | q2
                · exact .inr (.inl ⟨x, List.mem_of_getElem? hx, hb2⟩)
                · exact .inr (.inr q2)
            · have h5 := hFS.fr
              rw [← HEX.out.1] at h5
              exact h5
          clear HJ
          go_wp2
          go_end0
          exact ⟨rfl, HO.out⟩
end Go.Proofs.YtkpoheknmcepnaaGreatDoor
