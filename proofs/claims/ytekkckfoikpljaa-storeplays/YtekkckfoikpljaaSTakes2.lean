/-
  StorePlays: takes, the walk.
-/
import Derived.Test.YtekkckfoikpljaaSTakes
namespace Go.Proofs.Ytekkckfoikpljaa
set_option linter.unusedVariables false
set_option linter.unusedSimpArgs false
open Go.RowKit Go.Great

set_option maxRecDepth 100000 in
set_option maxHeartbeats 4000000 in
theorem takes_any {w : World} {pw : Nat} {ps : List PR} {hs : List Hd} {vP vH l : Value} {N n : Nat} {L : List (Pt Msg)} (h : WsAt w pw ps hs vP vH N) (hl : RowAt w 36 45 l n (flatL ptL L)) (hLn : L.length = n) (hn : n ≤ 900000) (hh : hs.length ≤ 100000)
    (hfree : ∀ x, x ∈ hs → ∀ r, r ∈ x.rows → ∀ g, r.ownBlock = some g → l.ownBlock ≠ some g) :
    Calls Try.prog 37 #[.pointer (some ⟨pw, 0, none⟩), l] w fun e w' => e = .returned (.tuple #[]) ∧ ∃ x vH', WsAt w' pw ps (hs ++ [x]) vP vH' N ∧ Fr w w' (fun b => l.ownBlock = some b ∨ b = pw ∨ vH.ownBlock = some b) ∧ (∀ r, r ∈ x.rows → r.ownBlock = l.ownBlock ∨ ∃ g, r.ownBlock = some g ∧ w.heap.size ≤ g) ∧ newer w vH vH' := by
  have cw : w.cell? ⟨pw, 1, none⟩ = some vH := cell_at h.blk rfl
  obtain ⟨aH, cH, hvH, -⟩ := h.hrow.form
  have HW : Hid (WsAt w pw ps hs vP vH N ∧ RowAt w 36 45 l n (flatL ptL L) ∧ L.length = n ∧ (∀ x, x ∈ hs → ∀ r, r ∈ x.rows → ∀ g, r.ownBlock = some g → l.ownBlock ≠ some g)) := ⟨h, hl, hLn, hfree⟩
  obtain ⟨al, cl, hvl, -⟩ := hl.form
  have hst : T1 w (w.alloc (.cells (mkL (-1 - (hs.length : Int)) (-7)).toArray 36)) w.heap.size (-1 - (hs.length : Int)) (-7) l n 0 := by rw [← hLn] at hl ⊢; exact T1.start hl
  have HST : Hid _ := hst
  clear hst h hl hfree hLn
  obtain ⟨k, hk⟩ : ∃ k, hs.length = k := ⟨_, rfl⟩
  have HK : Hid (hs.length = k) := hk
  rw [hk] at HST hvH hh
  clear hk
  subst hvH hvl
  have hkw : IntKind.i64.wrap (-1 - (k : Int)) = -1 - (k : Int) := by rw [IntKind.wrap_i64]; omega
  go_enter Try.func37, Try.ntmps37
  go_upto_region 0 with fail
  rename_i Kc hKc
  refine wp_region_lit ?_
  refine wpList_runTo rfl (some 10) rfl (.pointer (some ⟨pw, 0, none⟩)) w (by kernel_rfl) ?_
  simp only [Act.put, List.setIfInBounds_toArray, List.set_cons_zero, List.set_cons_succ]
  refine wpList_runTo rfl (some 11) rfl (.pointer (some ⟨pw, 0, none⟩)) w (by kernel_rfl) ?_
  simp only [Act.put, List.setIfInBounds_toArray, List.set_cons_zero, List.set_cons_succ]
  refine wpList_runTo rfl (some 12) rfl (.pointer (some ⟨pw, 1, none⟩)) w (by kernel_rfl) ?_
  simp only [Act.put, List.setIfInBounds_toArray, List.set_cons_zero, List.set_cons_succ]
  refine wpList_runTo rfl (some 13) rfl (.slice aH k cH) w (by go_simp) ?_
  simp only [Act.put, List.setIfInBounds_toArray, List.set_cons_zero, List.set_cons_succ]
  refine wpList_runTo rfl (some 14) rfl (.int .i64 (k : Int)) w (by go_simp) ?_
  simp only [Act.put, List.setIfInBounds_toArray, List.set_cons_zero, List.set_cons_succ]
  refine wpList_runTo rfl (some 15) rfl (.int .i64 (-1 - (k : Int))) w (by go_simp) ?_
  simp only [Act.put, List.setIfInBounds_toArray, List.set_cons_zero, List.set_cons_succ]
  refine wpList_runTo rfl (some 16) rfl (.agg (mkL (-1 - (k : Int)) (-7)).toArray) w (by kernel_rfl) ?_
  simp only [Act.put, List.setIfInBounds_toArray, List.set_cons_zero, List.set_cons_succ]
  refine wpList_runTo rfl (some 4) rfl (.pointer (some ⟨w.heap.size, 0, none⟩)) (w.alloc (.cells (mkL 0 0).toArray 36)) (by kernel_rfl) ?_
  simp only [Act.put, List.setIfInBounds_toArray, List.set_cons_zero, List.set_cons_succ]
  refine wpList_store_row rfl 36 (.tmp 4) (.tmp 16) rfl w.heap.size (mkL (-1 - (k : Int)) (-7)).toArray (by kernel_rfl) (by kernel_rfl) 36 _ (heap_alloc_new w _) (by kernel_rfl) (by kernel_rfl) (by kernel_rfl) ?_
  rw [World.setRow_alloc_new]
  refine wpList_nil ?_
  refine hKc _ _ ?_
  simp only [Act.put, List.setIfInBounds_toArray, List.set_cons_zero, List.set_cons_succ]
  clear hKc cw
  generalize w.alloc (.cells (mkL (-1 - (k : Int)) (-7)).toArray 36) = w1 at *
  have HG4 : Hid (w.heap.size = w.heap.size) := rfl
  generalize hg4 : w.heap.size = g4 at HST ⊢
  have HG : Hid (w.heap.size = g4) := hg4
  clear hg4 HG4
  generalize hmk : (mkL (-1 - (k : Int)) (-7)).toArray = mk at *
  have HMK : Hid ((mkL (-1 - (k : Int)) (-7)).toArray = mk) := hmk
  clear hmk
  go_upto_region 2 with fail
  go_loopw [5] (fun x5 wr => ∃ i : Nat, i ≤ n ∧ x5 = .int .i64 (i : Int) ∧ Hid (T1 w wr g4 (-1 - (k : Int)) (-7) (.slice al n cl) n i)) (fun x5 _ => n - (intOf x5).toNat)
  case atStart => exact ⟨0, Nat.zero_le _, rfl, HST.out⟩
  case round =>
    obtain ⟨i, hi, rfl, HI⟩ := hrel
    by_cases hlt : i < n
    · have hlt' : (i : Int) < (n : Int) := by omega
      have hiw : IntKind.i64.wrap ((i : Int) + 1) = (i : Int) + 1 := by rw [IntKind.wrap_i64]; omega
      obtain ⟨g, off, cap, cur, he, -⟩ := HW.out.2.1.more (by omega)
      injection he with he _ hc
      subst he hc
      go_upto_region 4 with fail
      rename_i Kc hKc
      refine wp_region_lit ?_
      refine wpList_runTo rfl (some 23) rfl (.slice (some ⟨g, off, none⟩) n cl) wr (by kernel_rfl) ?_
      simp only [Act.put, List.setIfInBounds_toArray, List.set_cons_zero, List.set_cons_succ]
      refine wpList_runTo rfl (some 24) rfl (.int .i64 (i : Int)) wr (by kernel_rfl) ?_
      simp only [Act.put, List.setIfInBounds_toArray, List.set_cons_zero, List.set_cons_succ]
      refine wpList_runTo rfl (some 25) rfl (.agg (mkL (-1 - (k : Int)) (-7)).toArray) wr (by exact loadMkB_run HI.out.box (.tmp 4) rfl (by kernel_rfl)) ?_
      simp only [Act.put, List.setIfInBounds_toArray, List.set_cons_zero, List.set_cons_succ]
      refine wpList_runTo rfl (some 26) rfl (.pointer (some ⟨g, off + i * 45, none⟩)) wr (by exact ixP_run (c := cl) (.tmp 23) (.tmp 24) rfl (by kernel_rfl) (by kernel_rfl) hlt wr) ?_
      simp only [Act.put, List.setIfInBounds_toArray, List.set_cons_zero, List.set_cons_succ]
      refine wpList_store_mid rfl 36 (.tmp 26) (.tmp 25) rfl g (off + i * 45) (mkL (-1 - (k : Int)) (-7)).toArray (by kernel_rfl) (by kernel_rfl) (HI.out.there hlt) (by kernel_rfl) (by kernel_rfl) ?_
      refine wpList_nil ?_
      refine hKc _ _ ?_
      have HI2 : Hid _ := HI.out.step hlt
      clear hKc HI
      generalize wr.setCells g (off + i * 45) (mkL (-1 - (k : Int)) (-7)).toArray.toList = w2 at *
      generalize (mkL (-1 - (k : Int)) (-7)).toArray = mk2 at *
      simp only [Act.put, List.setIfInBounds_toArray, List.set_cons_zero, List.set_cons_succ]
      go_wp2
      first
        | exact ⟨⟨i + 1, by omega, by go_num, HI2.out⟩, by simp [intOf]; omega⟩
        | (go_roundw
           case rel => exact ⟨i + 1, by omega, by go_num, HI2.out⟩
           case measure => simp [intOf]; omega)
    · obtain rfl : i = n := by omega
      obtain ⟨hq, hm⟩ := HI.out.done
      have HQ : Hid (TQ w wr g4 (-1 - (k : Int)) (-7) (.slice al i cl) [.slice al i cl] ∧ MR wr (-1 - (k : Int)) (-7) (.slice al i cl) i) := ⟨hq, hm⟩
      clear hq hm HI HST
      go_upto_region 5 with fail
      rename_i Kc hKc
      refine wp_region_lit ?_
      refine wpList_runTo rfl (some 27) rfl (.slice al i cl) wr (by kernel_rfl) ?_
      simp only [Act.put, List.setIfInBounds_toArray, List.set_cons_zero, List.set_cons_succ]
      refine wpList_runTo rfl (some 28) rfl (.agg (mkL (-1 - (k : Int)) (-7)).toArray) wr (by exact loadMkB_run HQ.out.1.tk.box (.tmp 4) rfl (by kernel_rfl)) ?_
      simp only [Act.put, List.setIfInBounds_toArray, List.set_cons_zero, List.set_cons_succ]
      refine wpList_runTo rfl (some 29) rfl (.slice (some ⟨wr.heap.size, 0, none⟩) 1 1) (wr.alloc (.cells (reps (-1 - (k : Int)) (-7) 1).toArray 36)) (by kernel_rfl) ?_
      simp only [Act.put, List.setIfInBounds_toArray, List.set_cons_zero, List.set_cons_succ]
      obtain ⟨v6, w6, hrun, hm6, hq6⟩ := HQ.out.1.app (c := 1) (m := 1) List.mem_cons_self HQ.out.2 29 (by decide) (by omega)
      refine wpList_runTo rfl (some 30) rfl v6 w6 (exec_append (.tmp 27) (.tmp 29) 29 rfl (by kernel_rfl) (by kernel_rfl) hrun) ?_
      simp only [Act.put, List.setIfInBounds_toArray, List.set_cons_zero, List.set_cons_succ]
      clear hrun
      refine wpList_runTo rfl (some 6) rfl (v6) w6 (by kernel_rfl) ?_
      simp only [Act.put, List.setIfInBounds_toArray, List.set_cons_zero, List.set_cons_succ]
      refine wpList_nil ?_
      refine hKc _ _ ?_
      clear hKc
      have hm6l : MR w6 (-1 - (k : Int)) (-7) (.slice al i cl) i := by
        obtain ⟨j, hj⟩ := hq6.tk.each (.slice al i cl) (by simp)
        obtain ⟨ao, cp, e, -⟩ := hj.form
        injection e with _ e _
        rw [← e] at hj
        exact hj
      have HQ6 : Hid (TQ w w6 g4 (-1 - (k : Int)) (-7) (.slice al i cl) [v6, .slice al i cl] ∧ MR w6 (-1 - (k : Int)) (-7) (.slice al i cl) i) := ⟨hq6, hm6l⟩
      obtain ⟨av6, cv6, rfl, -⟩ := hm6.form
      clear hm6 hq6 hm6l HQ
      generalize (mkL (-1 - (k : Int)) (-7)).toArray = mk3 at *
      go_upto_region 6 with fail
      rename_i Kc hKc
      refine wp_region_lit ?_
      refine wpList_runTo rfl (some 31) rfl (.slice al i cl) w6 (by kernel_rfl) ?_
      simp only [Act.put, List.setIfInBounds_toArray, List.set_cons_zero, List.set_cons_succ]
      refine wpList_runTo rfl (some 32) rfl (.agg (mkL (-1 - (k : Int)) (-7)).toArray) w6 (by exact loadMkB_run HQ6.out.1.tk.box (.tmp 4) rfl (by kernel_rfl)) ?_
      simp only [Act.put, List.setIfInBounds_toArray, List.set_cons_zero, List.set_cons_succ]
      refine wpList_runTo rfl (some 33) rfl (.agg (mkL (-1 - (k : Int)) (-7)).toArray) w6 (by exact loadMkB_run HQ6.out.1.tk.box (.tmp 4) rfl (by kernel_rfl)) ?_
      simp only [Act.put, List.setIfInBounds_toArray, List.set_cons_zero, List.set_cons_succ]
      refine wpList_runTo rfl (some 34) rfl (.agg (mkL (-1 - (k : Int)) (-7)).toArray) w6 (by exact loadMkB_run HQ6.out.1.tk.box (.tmp 4) rfl (by kernel_rfl)) ?_
      simp only [Act.put, List.setIfInBounds_toArray, List.set_cons_zero, List.set_cons_succ]
      refine wpList_runTo rfl (some 35) rfl (.slice (some ⟨w6.heap.size, 0, none⟩) 3 3) (w6.alloc (.cells (reps (-1 - (k : Int)) (-7) 3).toArray 36)) (by kernel_rfl) ?_
      simp only [Act.put, List.setIfInBounds_toArray, List.set_cons_zero, List.set_cons_succ]
      obtain ⟨v7, w7, hrun, hm7, hq7⟩ := HQ6.out.1.app (c := 3) (m := 3) (v := .slice al i cl) (by simp) HQ6.out.2 29 (by decide) (by omega)
      refine wpList_runTo rfl (some 36) rfl v7 w7 (exec_append (.tmp 31) (.tmp 35) 29 rfl (by kernel_rfl) (by kernel_rfl) hrun) ?_
      simp only [Act.put, List.setIfInBounds_toArray, List.set_cons_zero, List.set_cons_succ]
      clear hrun
      refine wpList_runTo rfl (some 7) rfl (v7) w7 (by kernel_rfl) ?_
      simp only [Act.put, List.setIfInBounds_toArray, List.set_cons_zero, List.set_cons_succ]
      refine wpList_nil ?_
      refine hKc _ _ ?_
      clear hKc
      have hm7l : MR w7 (-1 - (k : Int)) (-7) (.slice al i cl) i := by
        obtain ⟨j, hj⟩ := hq7.tk.each (.slice al i cl) (by simp)
        obtain ⟨ao, cp, e, -⟩ := hj.form
        injection e with _ e _
        rw [← e] at hj
        exact hj
      obtain ⟨av7, cv7, rfl, -⟩ := hm7.form
      have HQ7 : Hid (TQ w w7 g4 (-1 - (k : Int)) (-7) (.slice al i cl) [.slice al i cl, .slice av6 (i + 1) cv6, .slice av7 (i + 3) cv7, .slice al i cl] ∧ MR w7 (-1 - (k : Int)) (-7) (.slice al i cl) i) := ⟨hq7.sub (by simp), hm7l⟩
      clear hm7 hq7 hm7l HQ6
      generalize (mkL (-1 - (k : Int)) (-7)).toArray = mk4 at *
      go_upto_region 9 with fail
      go_loopw [8, 9] (fun x8 x9 wr => ∃ (j : Nat) (ao : Option Addr) (cp : Nat), j ≤ 64 ∧ x9 = .int .i64 (j : Int) ∧ x8 = .slice ao (i + j) cp ∧ Hid (TQ w wr g4 (-1 - (k : Int)) (-7) (.slice al i cl) [.slice ao (i + j) cp, .slice av6 (i + 1) cv6, .slice av7 (i + 3) cv7, .slice al i cl] ∧ MR wr (-1 - (k : Int)) (-7) (.slice ao (i + j) cp) (i + j))) (fun _ x9 _ => 64 - (intOf x9).toNat)
      case atStart => exact ⟨0, al, cl, by omega, rfl, rfl, HQ7.out⟩
      case round =>
        obtain ⟨j, ao, cp, hj, rfl, rfl, HJ⟩ := hrel
        by_cases hlt2 : j < 64
        · have hlt2' : (j : Int) < 64 := by omega
          have hjw : IntKind.i64.wrap ((j : Int) + 1) = (j : Int) + 1 := by rw [IntKind.wrap_i64]; omega
          go_upto_region 11 with fail
          rename_i Kc hKc
          refine wp_region_lit ?_
          refine wpList_runTo rfl (some 42) rfl (.slice ao (i + j) cp) wr (by kernel_rfl) ?_
          simp only [Act.put, List.setIfInBounds_toArray, List.set_cons_zero, List.set_cons_succ]
          refine wpList_runTo rfl (some 43) rfl (.agg (mkL (-1 - (k : Int)) (-7)).toArray) wr (by exact loadMkB_run HJ.out.1.tk.box (.tmp 4) rfl (by kernel_rfl)) ?_
          simp only [Act.put, List.setIfInBounds_toArray, List.set_cons_zero, List.set_cons_succ]
          refine wpList_runTo rfl (some 44) rfl (.slice (some ⟨wr.heap.size, 0, none⟩) 1 1) (wr.alloc (.cells (reps (-1 - (k : Int)) (-7) 1).toArray 36)) (by kernel_rfl) ?_
          simp only [Act.put, List.setIfInBounds_toArray, List.set_cons_zero, List.set_cons_succ]
          obtain ⟨v8, w8, hrun, hm8, hq8⟩ := HJ.out.1.app (c := 1) (m := 1) List.mem_cons_self HJ.out.2 29 (by decide) (by omega)
          refine wpList_runTo rfl (some 45) rfl v8 w8 (exec_append (.tmp 42) (.tmp 44) 29 rfl (by kernel_rfl) (by kernel_rfl) hrun) ?_
          simp only [Act.put, List.setIfInBounds_toArray, List.set_cons_zero, List.set_cons_succ]
          clear hrun
          obtain ⟨av8, cv8, rfl, -⟩ := hm8.form
          have HJ8 : Hid (TQ w w8 g4 (-1 - (k : Int)) (-7) (.slice al i cl) [.slice av8 (i + j + 1) cv8, .slice av6 (i + 1) cv6, .slice av7 (i + 3) cv7, .slice al i cl] ∧ MR w8 (-1 - (k : Int)) (-7) (.slice av8 (i + j + 1) cv8) (i + j + 1)) := ⟨hq8.sub (by simp), hm8⟩
          clear hm8 hq8 HJ
          refine wpList_runTo rfl (some 8) rfl (.slice av8 (i + j + 1) cv8) w8 (by kernel_rfl) ?_
          simp only [Act.put, List.setIfInBounds_toArray, List.set_cons_zero, List.set_cons_succ]
          refine wpList_nil ?_
          refine hKc _ _ ?_
          clear hKc
          generalize (mkL (-1 - (k : Int)) (-7)).toArray = mk5 at *
          go_wp2
          first
            | exact ⟨⟨j + 1, av8, cv8, by omega, by go_num, rfl, HJ8.out⟩, by simp [intOf]; omega⟩
            | (go_roundw
               case rel => exact ⟨j + 1, av8, cv8, by omega, by go_num, rfl, HJ8.out⟩
               case measure => simp [intOf]; omega)
        · obtain rfl : j = 64 := by omega
          go_upto_region 12 with fail
          have hfd : Fr w wr.drew (fun x => (Value.slice al i cl).ownBlock = some x) := HJ.out.1.fr.drew
          have hws := HW.out.1.frl HW.out.2.1 hfd HW.out.2.2.2
          have hbx : wr.drew.heap[g4]? = some (.cells (mkL (-1 - (k : Int)) (-7)).toArray 36 (0, 0)) := HJ.out.1.tk.box
          have hR : ∀ r, r ∈ [Value.slice al i cl, .slice av6 (i + 1) cv6, .slice av7 (i + 3) cv7, .slice ao (i + 64) cp] → ∃ k', MR wr.drew (-1 - (k : Int)) (-7) r k' := fun r hr => by
            obtain ⟨k', hk'⟩ := HJ.out.1.tk.each r (by simp at hr ⊢; rcases hr with rfl | rfl | rfl | rfl <;> simp)
            exact ⟨k', RowAt.fr hk' ((Fr.refl wr fun _ => False).drew) fun _ _ q => q⟩
          have hNew : ∀ r, r ∈ [Value.slice al i cl, .slice av6 (i + 1) cv6, .slice av7 (i + 3) cv7, .slice ao (i + 64) cp] → r.ownBlock = (Value.slice al i cl).ownBlock ∨ ∃ g, r.ownBlock = some g ∧ w.heap.size ≤ g := fun r hr => HJ.out.1.new r (by simp at hr ⊢; rcases hr with rfl | rfl | rfl | rfl <;> simp)
          have HN : Hid _ := hNew
          have HFD : Hid _ := hfd
          clear HJ hNew hfd
          refine wp_region_held (S := fun w' => w'.heap[g4]? = some (.cells (mkL (-1 - (k : Int)) (-7)).toArray 36 (0, 0))) (by kernel_rfl) ?_
          change wpAnyH _ _ _ _ _ _ _ _ (World.drew _)
          generalize wr.drew = w5 at *
          have hhk : hs.length ≤ 100000 := by rw [HK.out]; exact hh
          obtain ⟨v', w8, hrun, q1, q2, hws8, hf8, hrow8, ht8, ht9, hnw8⟩ := hws.last (n := 4) rfl hR (by decide) hhk 49
          obtain ⟨av', cv', hv', -⟩ := hrow8.form
          have HW8 : Hid _ := And.intro hws8 (And.intro hf8 hnw8)
          clear hrow8 hws8 hf8 hR hnw8
          have c5 : w5.cell? ⟨pw, 1, none⟩ = some (.slice aH k cH) := cell_at hws.blk rfl
          have hlt5 : pw < w5.heap.size := (Array.getElem?_eq_some_iff.1 hws.blk).1
          have hg5 : g4 < w5.heap.size := (Array.getElem?_eq_some_iff.1 hbx).1
          clear hws
          generalize hw6 : w5.alloc (.cells [Value.slice al i cl, .slice av6 (i + 1) cv6, .slice av7 (i + 3) cv7, .slice ao (i + 64) cp].toArray 29) = w6 at *
          have c6 : w6.cell? ⟨pw, 1, none⟩ = some (.slice aH k cH) := by rw [← hw6, World.cell?_alloc_lt _ _ _ hlt5]; exact c5
          have hb6 : w6.heap[g4]? = some (.cells (mkL (-1 - (k : Int)) (-7)).toArray 36 (0, 0)) := by rw [← hw6, Below.heap_alloc _ _ _ hg5]; exact hbx
          have hlt6 : pw < w6.heap.size := World.block_lt_of_cell? _ _ c6
          have hg6 : g4 < w6.heap.size := (Array.getElem?_eq_some_iff.1 hb6).1
          generalize hw7 : w6.alloc (.cells (hdV ⟨.slice (some ⟨w5.heap.size, 0, none⟩) 4 4, [Value.slice al i cl, .slice av6 (i + 1) cv6, .slice av7 (i + 3) cv7, .slice ao (i + 64) cp], -1 - (k : Int), -7⟩).toArray 73) = w7 at *
          have c7 : w7.cell? ⟨pw, 1, none⟩ = some (.slice aH k cH) := by rw [← hw7, World.cell?_alloc_lt _ _ _ hlt6]; exact c6
          have hb7 : w7.heap[g4]? = some (.cells (mkL (-1 - (k : Int)) (-7)).toArray 36 (0, 0)) := by rw [← hw7, Below.heap_alloc _ _ _ hg6]; exact hb6
          have hb8 : w8.heap[g4]? = some (.cells (mkL (-1 - (k : Int)) (-7)).toArray 36 (0, 0)) := ht8.blk _ _ _ hbx rfl
          have hb9 : (w8.setCell ⟨pw, 1, none⟩ v').heap[g4]? = some (.cells (mkL (-1 - (k : Int)) (-7)).toArray 36 (0, 0)) := ht9.blk _ _ _ hbx rfl
          clear ht8 ht9
          refine takeR (i := 0) (v := .pointer (some ⟨pw, 0, none⟩)) (some 46) rfl rfl (by kernel_rfl) (by kernel_rfl) (by kernel_rfl) (fun _ _ _ h => h) (Or.inl ⟨by kernel_rfl, fun w' hSw => by kernel_rfl⟩) hbx ?_
          simp only [Act.put, List.setIfInBounds_toArray, List.set_cons_zero, List.set_cons_succ]
          refine takeR (i := 1) (v := .pointer (some ⟨pw, 0, none⟩)) (some 47) rfl rfl (by kernel_rfl) (by kernel_rfl) (by kernel_rfl) (fun _ _ _ h => h) (Or.inl ⟨by kernel_rfl, fun w' hSw => by kernel_rfl⟩) hbx ?_
          simp only [Act.put, List.setIfInBounds_toArray, List.set_cons_zero, List.set_cons_succ]
          refine takeR (i := 2) (v := .pointer (some ⟨pw, 0, none⟩)) (some 48) rfl rfl (by kernel_rfl) (by kernel_rfl) (by kernel_rfl) (fun _ _ _ h => h) (Or.inl ⟨by kernel_rfl, fun w' hSw => by kernel_rfl⟩) hbx ?_
          simp only [Act.put, List.setIfInBounds_toArray, List.set_cons_zero, List.set_cons_succ]
          refine takeR (i := 3) (v := .pointer (some ⟨pw, 1, none⟩)) (some 49) rfl rfl (by kernel_rfl) (by kernel_rfl) (by kernel_rfl) (fun _ _ _ h => h) (Or.inl ⟨by kernel_rfl, fun w' hSw => by kernel_rfl⟩) hbx ?_
          simp only [Act.put, List.setIfInBounds_toArray, List.set_cons_zero, List.set_cons_succ]
          refine takeR (i := 5) (v := .slice al i cl) (some 51) rfl rfl (by kernel_rfl) (by kernel_rfl) (by kernel_rfl) (fun _ _ _ h => h) (Or.inl ⟨by kernel_rfl, fun w' hSw => by kernel_rfl⟩) hbx ?_
          simp only [Act.put, List.setIfInBounds_toArray, List.set_cons_zero, List.set_cons_succ]
          refine takeR (i := 6) (v := .slice av6 (i + 1) cv6) (some 52) rfl rfl (by kernel_rfl) (by kernel_rfl) (by kernel_rfl) (fun _ _ _ h => h) (Or.inl ⟨by kernel_rfl, fun w' hSw => by kernel_rfl⟩) hbx ?_
          simp only [Act.put, List.setIfInBounds_toArray, List.set_cons_zero, List.set_cons_succ]
          refine takeR (i := 7) (v := .slice av7 (i + 3) cv7) (some 53) rfl rfl (by kernel_rfl) (by kernel_rfl) (by kernel_rfl) (fun _ _ _ h => h) (Or.inl ⟨by kernel_rfl, fun w' hSw => by kernel_rfl⟩) hbx ?_
          simp only [Act.put, List.setIfInBounds_toArray, List.set_cons_zero, List.set_cons_succ]
          refine takeR (i := 8) (v := .slice ao (i + 64) cp) (some 54) rfl rfl (by kernel_rfl) (by kernel_rfl) (by kernel_rfl) (fun _ _ _ h => h) (Or.inl ⟨by kernel_rfl, fun w' hSw => by kernel_rfl⟩) hbx ?_
          simp only [Act.put, List.setIfInBounds_toArray, List.set_cons_zero, List.set_cons_succ]
          refine takeR (i := 10) (v := .agg (mkL (-1 - (k : Int)) (-7)).toArray) (some 56) rfl rfl (by kernel_rfl) (by kernel_rfl) (by kernel_rfl) (fun _ _ _ h => h) (Or.inl ⟨by kernel_rfl, fun w' hSw => by exact loadMkB_run hSw (.tmp 4) rfl (by kernel_rfl)⟩) hbx ?_
          simp only [Act.put, List.setIfInBounds_toArray, List.set_cons_zero, List.set_cons_succ]
          refine wpAnyH_ready (rs := [4, 9]) (by kernel_rfl) (by simp) ?_
          refine AllReadyH.cons rfl (fun K1 hK1 => ?_) (AllReadyH.cons rfl (fun K1 hK1 => ?_) AllReadyH.nil)
          · rw [if_pos (by kernel_rfl)]
            refine valR (d := some 50) rfl (.slice aH k cH) (w' := w5) (by go_simp) ?_
            refine hK1.out _ _ hbx (fun hSx => ?_)
            clear hK1 hSx
            simp only [Act.put, List.setIfInBounds_toArray, List.set_cons_zero, List.set_cons_succ]
            refine wpAnyH_ready (rs := [9]) (by kernel_rfl) (by simp) ?_
            refine AllReadyH.cons rfl (fun K2 hK2 => ?_) AllReadyH.nil
            rw [if_pos (by kernel_rfl)]
            refine valR (d := some 55) rfl (.slice (some ⟨w5.heap.size, 0, none⟩) 4 4) (w' := w6) (by rw [← hw6]; kernel_rfl) ?_
            refine hK2.out _ _ hb6 (fun hSx => ?_)
            clear hK2 hSx
            simp only [Act.put, List.setIfInBounds_toArray, List.set_cons_zero, List.set_cons_succ]
            refine takeR (i := 11) (v := .agg (hdV ⟨.slice (some ⟨w5.heap.size, 0, none⟩) 4 4, [Value.slice al i cl, .slice av6 (i + 1) cv6, .slice av7 (i + 3) cv7, .slice ao (i + 64) cp], -1 - (k : Int), -7⟩).toArray) (some 57) rfl rfl (by kernel_rfl) (by kernel_rfl) (by kernel_rfl) (fun _ _ _ h => h) (Or.inl ⟨by kernel_rfl, fun w' hSw => by kernel_rfl⟩) hb6 ?_
            simp only [Act.put, List.setIfInBounds_toArray, List.set_cons_zero, List.set_cons_succ]
            refine wpAnyH_ready (rs := [12]) (by kernel_rfl) (by simp) ?_
            refine AllReadyH.cons rfl (fun K3 hK3 => ?_) AllReadyH.nil
            rw [if_pos (by kernel_rfl)]
            refine valR (d := some 58) rfl (.slice (some ⟨w6.heap.size, 0, none⟩) 1 1) (w' := w7) (by rw [← hw7]; kernel_rfl) ?_
            refine hK3.out _ _ hb7 (fun hSx => ?_)
            clear hK3 hSx
            simp only [Act.put, List.setIfInBounds_toArray, List.set_cons_zero, List.set_cons_succ]
            refine wpAnyH_ready (rs := [13]) (by kernel_rfl) (by simp) ?_
            refine AllReadyH.cons rfl (fun K4 hK4 => ?_) AllReadyH.nil
            rw [if_pos (by kernel_rfl)]
            refine valR (d := some 59) rfl v' (exec_append (.tmp 50) (.tmp 58) 49 rfl (by kernel_rfl) (by kernel_rfl) hrun) ?_
            refine hK4.out _ _ hb8 (fun hS8 => ?_)
            clear hK4 hS8
            simp only [Act.put, List.setIfInBounds_toArray, List.set_cons_zero, List.set_cons_succ]
            refine takeR (i := 14) (v := .pointer (some ⟨pw, 0, none⟩)) (some 60) rfl rfl (by kernel_rfl) (by kernel_rfl) (by kernel_rfl) (fun _ _ _ h => h) (Or.inl ⟨by kernel_rfl, fun w' hSw => by kernel_rfl⟩) hb8 ?_
            simp only [Act.put, List.setIfInBounds_toArray, List.set_cons_zero, List.set_cons_succ]
            refine takeR (i := 15) (v := .pointer (some ⟨pw, 1, none⟩)) (some 61) rfl rfl (by kernel_rfl) (by kernel_rfl) (by kernel_rfl) (fun _ _ _ h => h) (Or.inl ⟨by kernel_rfl, fun w' hSw => by kernel_rfl⟩) hb8 ?_
            simp only [Act.put, List.setIfInBounds_toArray, List.set_cons_zero, List.set_cons_succ]
            refine wpAnyH_ready (rs := [16]) (by kernel_rfl) (by simp) ?_
            refine AllReadyH.cons rfl (fun K5 hK5 => ?_) AllReadyH.nil
            rw [if_pos (by kernel_rfl)]
            refine skipR (d := none) (w' := w8.setCell ⟨pw, 1, none⟩ v') rfl (by subst hv'; go_simp) ?_
            refine hK5.out _ _ hb9 (fun hS9 => ?_)
            clear hK5 hS9
            simp only [Act.put, List.setIfInBounds_toArray, List.set_cons_zero, List.set_cons_succ]
            refine wpAnyH_done (by kernel_rfl) ?_ _
            refine ⟨by rfl, .tuple #[], results_none (by rfl) _ _ _, rfl, ?_⟩
            exact ⟨_, v', HW8.out.1, HFD.out.trans HW8.out.2.1 fun _ _ q => q, HN.out, by rcases HW8.out.2.2 with q | ⟨g, q, hg⟩; exact .inl q; exact .inr ⟨g, q, Nat.le_trans HFD.out.size hg⟩⟩
          · rw [if_pos (by kernel_rfl)]
            refine valR (d := some 55) rfl (.slice (some ⟨w5.heap.size, 0, none⟩) 4 4) (w' := w6) (by rw [← hw6]; kernel_rfl) ?_
            refine hK1.out _ _ hb6 (fun hSx => ?_)
            clear hK1 hSx
            simp only [Act.put, List.setIfInBounds_toArray, List.set_cons_zero, List.set_cons_succ]
            refine takeR (i := 11) (v := .agg (hdV ⟨.slice (some ⟨w5.heap.size, 0, none⟩) 4 4, [Value.slice al i cl, .slice av6 (i + 1) cv6, .slice av7 (i + 3) cv7, .slice ao (i + 64) cp], -1 - (k : Int), -7⟩).toArray) (some 57) rfl rfl (by kernel_rfl) (by kernel_rfl) (by kernel_rfl) (fun _ _ _ h => h) (Or.inl ⟨by kernel_rfl, fun w' hSw => by kernel_rfl⟩) hb6 ?_
            simp only [Act.put, List.setIfInBounds_toArray, List.set_cons_zero, List.set_cons_succ]
            refine wpAnyH_ready (rs := [4, 12]) (by kernel_rfl) (by simp) ?_
            refine AllReadyH.cons rfl (fun K2 hK2 => ?_) (AllReadyH.cons rfl (fun K2 hK2 => ?_) AllReadyH.nil)
            · rw [if_pos (by kernel_rfl)]
              refine valR (d := some 50) rfl (.slice aH k cH) (w' := w6) (by go_simp) ?_
              refine hK2.out _ _ hb6 (fun hSx => ?_)
              clear hK2 hSx
              simp only [Act.put, List.setIfInBounds_toArray, List.set_cons_zero, List.set_cons_succ]
              refine wpAnyH_ready (rs := [12]) (by kernel_rfl) (by simp) ?_
              refine AllReadyH.cons rfl (fun K3 hK3 => ?_) AllReadyH.nil
              rw [if_pos (by kernel_rfl)]
              refine valR (d := some 58) rfl (.slice (some ⟨w6.heap.size, 0, none⟩) 1 1) (w' := w7) (by rw [← hw7]; kernel_rfl) ?_
              refine hK3.out _ _ hb7 (fun hSx => ?_)
              clear hK3 hSx
              simp only [Act.put, List.setIfInBounds_toArray, List.set_cons_zero, List.set_cons_succ]
              refine wpAnyH_ready (rs := [13]) (by kernel_rfl) (by simp) ?_
              refine AllReadyH.cons rfl (fun K4 hK4 => ?_) AllReadyH.nil
              rw [if_pos (by kernel_rfl)]
              refine valR (d := some 59) rfl v' (exec_append (.tmp 50) (.tmp 58) 49 rfl (by kernel_rfl) (by kernel_rfl) hrun) ?_
              refine hK4.out _ _ hb8 (fun hS8 => ?_)
              clear hK4 hS8
              simp only [Act.put, List.setIfInBounds_toArray, List.set_cons_zero, List.set_cons_succ]
              refine takeR (i := 14) (v := .pointer (some ⟨pw, 0, none⟩)) (some 60) rfl rfl (by kernel_rfl) (by kernel_rfl) (by kernel_rfl) (fun _ _ _ h => h) (Or.inl ⟨by kernel_rfl, fun w' hSw => by kernel_rfl⟩) hb8 ?_
              simp only [Act.put, List.setIfInBounds_toArray, List.set_cons_zero, List.set_cons_succ]
              refine takeR (i := 15) (v := .pointer (some ⟨pw, 1, none⟩)) (some 61) rfl rfl (by kernel_rfl) (by kernel_rfl) (by kernel_rfl) (fun _ _ _ h => h) (Or.inl ⟨by kernel_rfl, fun w' hSw => by kernel_rfl⟩) hb8 ?_
              simp only [Act.put, List.setIfInBounds_toArray, List.set_cons_zero, List.set_cons_succ]
              refine wpAnyH_ready (rs := [16]) (by kernel_rfl) (by simp) ?_
              refine AllReadyH.cons rfl (fun K5 hK5 => ?_) AllReadyH.nil
              rw [if_pos (by kernel_rfl)]
              refine skipR (d := none) (w' := w8.setCell ⟨pw, 1, none⟩ v') rfl (by subst hv'; go_simp) ?_
              refine hK5.out _ _ hb9 (fun hS9 => ?_)
              clear hK5 hS9
              simp only [Act.put, List.setIfInBounds_toArray, List.set_cons_zero, List.set_cons_succ]
              refine wpAnyH_done (by kernel_rfl) ?_ _
              refine ⟨by rfl, .tuple #[], results_none (by rfl) _ _ _, rfl, ?_⟩
              exact ⟨_, v', HW8.out.1, HFD.out.trans HW8.out.2.1 fun _ _ q => q, HN.out, by rcases HW8.out.2.2 with q | ⟨g, q, hg⟩; exact .inl q; exact .inr ⟨g, q, Nat.le_trans HFD.out.size hg⟩⟩
            · rw [if_pos (by kernel_rfl)]
              refine valR (d := some 58) rfl (.slice (some ⟨w6.heap.size, 0, none⟩) 1 1) (w' := w7) (by rw [← hw7]; kernel_rfl) ?_
              refine hK2.out _ _ hb7 (fun hSx => ?_)
              clear hK2 hSx
              simp only [Act.put, List.setIfInBounds_toArray, List.set_cons_zero, List.set_cons_succ]
              refine wpAnyH_ready (rs := [4]) (by kernel_rfl) (by simp) ?_
              refine AllReadyH.cons rfl (fun K3 hK3 => ?_) AllReadyH.nil
              rw [if_pos (by kernel_rfl)]
              refine valR (d := some 50) rfl (.slice aH k cH) (w' := w7) (by go_simp) ?_
              refine hK3.out _ _ hb7 (fun hSx => ?_)
              clear hK3 hSx
              simp only [Act.put, List.setIfInBounds_toArray, List.set_cons_zero, List.set_cons_succ]
              refine wpAnyH_ready (rs := [13]) (by kernel_rfl) (by simp) ?_
              refine AllReadyH.cons rfl (fun K4 hK4 => ?_) AllReadyH.nil
              rw [if_pos (by kernel_rfl)]
              refine valR (d := some 59) rfl v' (exec_append (.tmp 50) (.tmp 58) 49 rfl (by kernel_rfl) (by kernel_rfl) hrun) ?_
              refine hK4.out _ _ hb8 (fun hS8 => ?_)
              clear hK4 hS8
              simp only [Act.put, List.setIfInBounds_toArray, List.set_cons_zero, List.set_cons_succ]
              refine takeR (i := 14) (v := .pointer (some ⟨pw, 0, none⟩)) (some 60) rfl rfl (by kernel_rfl) (by kernel_rfl) (by kernel_rfl) (fun _ _ _ h => h) (Or.inl ⟨by kernel_rfl, fun w' hSw => by kernel_rfl⟩) hb8 ?_
              simp only [Act.put, List.setIfInBounds_toArray, List.set_cons_zero, List.set_cons_succ]
              refine takeR (i := 15) (v := .pointer (some ⟨pw, 1, none⟩)) (some 61) rfl rfl (by kernel_rfl) (by kernel_rfl) (by kernel_rfl) (fun _ _ _ h => h) (Or.inl ⟨by kernel_rfl, fun w' hSw => by kernel_rfl⟩) hb8 ?_
              simp only [Act.put, List.setIfInBounds_toArray, List.set_cons_zero, List.set_cons_succ]
              refine wpAnyH_ready (rs := [16]) (by kernel_rfl) (by simp) ?_
              refine AllReadyH.cons rfl (fun K5 hK5 => ?_) AllReadyH.nil
              rw [if_pos (by kernel_rfl)]
              refine skipR (d := none) (w' := w8.setCell ⟨pw, 1, none⟩ v') rfl (by subst hv'; go_simp) ?_
              refine hK5.out _ _ hb9 (fun hS9 => ?_)
              clear hK5 hS9
              simp only [Act.put, List.setIfInBounds_toArray, List.set_cons_zero, List.set_cons_succ]
              refine wpAnyH_done (by kernel_rfl) ?_ _
              refine ⟨by rfl, .tuple #[], results_none (by rfl) _ _ _, rfl, ?_⟩
              exact ⟨_, v', HW8.out.1, HFD.out.trans HW8.out.2.1 fun _ _ q => q, HN.out, by rcases HW8.out.2.2 with q | ⟨g, q, hg⟩; exact .inl q; exact .inr ⟨g, q, Nat.le_trans HFD.out.size hg⟩⟩
end Go.Proofs.Ytekkckfoikpljaa
