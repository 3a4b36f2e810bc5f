import Derived.Test.YtchkpggdndnpjaaGreatDoorG33
import Derived.Test.YtchkpggdndnpjaaGreatDoorG31

namespace Go.Proofs.YtchkpggdndnpjaaGreatDoor
set_option linter.unusedVariables false
open Go.RowKit Go.Great

/-- One slot is read. -/
def gaS (fs : List Fld) (M : Msg) (t : Slt) : Msg := match fs[plN fs t.1]? with
  | some f => cond (rdBo t.2.2 (bs f.2)) (ruM t.2.2 (bs f.2) M) M
  | none => M
def gaU (fs : List Fld) (l : List Slt) (k : Nat) : Msg := (l.take k).foldl (gaS fs) zeroM
def gaM (fs : List Fld) (l : List Slt) : Msg := l.foldl (gaS fs) zeroM
theorem gaU_step {fs : List Fld} {l : List Slt} {k : Nat} {t : Slt} (h : l[k]? = some t) : gaU fs l (k + 1) = gaS fs (gaU fs l k) t := by
  unfold gaU
  rw [List.take_add_one, h, List.foldl_append]; rfl
structure GI (w wr : World) (g : Nat) (M : Msg) : Prop where
  msg : OwnM wr g M
  below : Below w.heap.size w wr
theorem GI.low {w wr w' : World} {g : Nat} {M : Msg} (h : GI w wr g M) (hb : Below wr.heap.size wr w') : GI w w' g M := ⟨h.msg.low hb, h.below.trans (hb.mono h.below.size)⟩
set_option maxRecDepth 100000 in
set_option maxHeartbeats 1000000 in
theorem gather_any (v sv : Value) (fs : List Fld) (l : List Slt) (w : World) (hs : SrcF w v fs) (hsl : SltAt w sv l) (hM : Mon w) (hn : fs.length ≤ 1048576) (hl : l.length ≤ 45) (hrow : ∀ t ∈ l, t.2.2 < 45) (hval : ∀ f ∈ fs, f.2.length ≤ maxLen) :
    Calls Tryz.prog 43 #[v, sv] w fun x w' => x = .returned (.agg (gaM fs l).cs) ∧ Below w.heap.size w w' := by
  have HS : Hid (SrcF w v fs ∧ SltAt w sv l ∧ Mon w ∧ 2 < w.heap.size ∧ fs.length ≤ 1048576 ∧ (∀ t ∈ l, t.2.2 < 45) ∧ ∀ f ∈ fs, f.2.length ≤ maxLen) := ⟨hs, hsl, hM, hM.lt, hn, hrow, hval⟩
  obtain ⟨ao, cap, rfl, hc, _⟩ := hs
  obtain ⟨sao, scap, rfl, hsc, _⟩ := hsl
  have HE : Hid (gaU fs l l.length = gaM fs l) := by show _ = _; unfold gaU gaM; rw [List.take_length]
  have hmf : ∀ (fn : Fn) (first cap : Array Value) (w : World), (Instr.makeFunc fn first cap).run Tryz.prog w = .ok (.func fn first cap) w := fun _ _ _ _ => rfl
  clear hM hrow hval
  go_enter Tryz.func43, Tryz.ntmps43
  go_upto_region 2 with fail
  generalize hW : World.alloc (World.alloc w _) _ = w1
  have hW1 : (w.alloc (.cells zeroM.cs 25)).alloc (.cells zeroM.cs 25) = w1 := hW
  have HG0 : Hid (GI w w1 (w.heap.size + 1) (gaU fs l 0) ∧ OwnM w1 w.heap.size zeroM) := by
    rw [← hW1]
    refine ⟨⟨?_, ((Below.refl _ w).alloc (Nat.le_refl _) _).alloc (by simp) _⟩, (((Below.refl _ (w.alloc _)).alloc (Nat.le_refl _) _).block w.heap.size (by simp)).trans (heap_alloc_new w _)⟩
    have := heap_alloc_new (w.alloc (.cells zeroM.cs 25)) (.cells zeroM.cs 25)
    rw [show (w.alloc (.cells zeroM.cs 25)).heap.size = w.heap.size + 1 by simp] at this
    exact this
  clear hW hW1
  obtain ⟨n, hn1⟩ : ∃ n, n = l.length := ⟨_, rfl⟩
  obtain ⟨m, hm1⟩ : ∃ m, m = fs.length := ⟨_, rfl⟩
  rw [← hn1] at HE hl hsc
  rw [← hm1] at hc hn
  have Hnm : Hid (n = l.length ∧ m = fs.length) := ⟨hn1, hm1⟩
  rw [← hn1, ← hm1]
  rw [← hn1, ← hm1] at HS
  clear hn1 hm1
  go_wp2
  go_loopw [11] (fun i wr => ∃ k : Nat, k ≤ n ∧ i = .int .i64 k ∧ Hid (GI w wr (w.heap.size + 1) (gaU fs l k) ∧ OwnM wr w.heap.size zeroM)) (fun i _ => n - (intOf i).toNat)
  case atStart => exact ⟨0, by omega, rfl, HG0⟩
  case round =>
    obtain ⟨k, hk, rfl, HG⟩ := hrel
    clear HG0
    by_cases hlt : k < n
    · have hlt' : (k : Int) < (n : Int) := by omega
      have hk0 : (0 : Int) ≤ (k : Int) := by omega
      obtain ⟨t, htk⟩ : ∃ t, l[k]? = some t := ⟨_, List.getElem?_eq_getElem (by have := Hnm.out.1; omega)⟩
      have htm : t ∈ l := List.mem_of_getElem? htk
      have hr45 := HS.out.2.2.2.2.2.1 t htm
      have hsz := HG.out.1.below.size
      obtain ⟨ax, cx, hxe, -, hcase⟩ := HS.out.2.1.below HG.out.1.below
      rcases hcase with hnil | ⟨b, off, rfl, hcel⟩
      · have hn := Hnm.out.1; rw [hnil] at hn; simp at hn; omega
      obtain ⟨rfl, rfl⟩ : sao = some ⟨b, off, none⟩ ∧ scap = cx := by injection hxe with q1 q2 q3; exact ⟨q1, q3⟩
      obtain ⟨c1, c2, c3⟩ := hcel k t htk
      clear hcel hxe
      have HST : Hid (gaU fs l (k + 1) = gaS fs (gaU fs l k) t) := gaU_step htk
      have hcf := xcf_at t.2.2 hr45
      have HF : Hid (∀ w', Calls Tryz.prog (xFn.getD t.2.2 0) #[.pointer (some ⟨w.heap.size + 1, 0, none⟩)] w' fun e w2 => ∃ b, e = .returned (.iface (xty t.2.2) (xVal t.2.2 (w.heap.size + 1) b)) ∧ Below w'.heap.size w' w2 ∧ WdAt w2 t.2.2 b) := fun w' => form_at t.2.2 hr45 (w.heap.size + 1) w'
      have HP : Hid (∀ w', Below w.heap.size w w' → Calls Tryz.prog 122 #[.slice ao m cap, .int .i64 t.1] w' fun e w2 => e = .returned (.int .i64 (plN fs t.1 : Nat)) ∧ Below w'.heap.size w' w2) := fun w' hb => placeOf_any _ fs t.1 w' (HS.out.1.below hb) (by have := Hnm.out.2; omega)
      have hple := plN_le fs t.1
      rw [← Hnm.out.2] at hple
      obtain ⟨tg, mu, r⟩ := t
      dsimp only at c1 c2 c3 hcf HF HST hr45 HP hple
      clear htk htm
      generalize hFn : xFn.getD r 0 = F at *
      generalize hpl : plN fs tg = p at *
      have Hpl : Hid (plN fs tg = p) := hpl
      clear hpl
      go_wp2_with (go_at_call 122; fail)
      generalize hW4 : wr.alloc _ = W4
      have hb4 : Below wr.heap.size wr W4 := by rw [← hW4]; exact (Below.refl _ wr).alloc (Nat.le_refl _) _
      have r2 : W4.cell? ⟨wr.heap.size, 2, none⟩ = some (.func (.func F) #[] #[]) := by rw [← hW4]; exact World.cell?_alloc_new ..
      clear hW4
      have HG4 : Hid (GI w W4 (w.heap.size + 1) (gaU fs l k) ∧ OwnM W4 w.heap.size zeroM) := ⟨HG.out.1.low hb4, HG.out.2.low hb4⟩
      refine (HP.out _ HG4.out.1.below).mono ?_
      rintro e w5 ⟨rfl, hb5⟩
      have s2 : w5.cell? ⟨wr.heap.size, 2, none⟩ = some (.func (.func F) #[] #[]) := by rw [hb5.cell (p := ⟨wr.heap.size, 2, none⟩) (World.block_lt_of_cell? _ _ r2)]; exact r2
      have HG5 : Hid (GI w w5 (w.heap.size + 1) (gaU fs l k) ∧ OwnM w5 w.heap.size zeroM) := ⟨HG4.out.1.low hb5, HG4.out.2.low hb5⟩
      clear r2 hb4 hb5 HG HG4 HP c1 c2 c3 hsz
      by_cases hpm : p < m
      · have hpm' : (p : Int) < (m : Int) := by omega
        have hp0 : (0 : Int) ≤ (p : Int) := by omega
        obtain ⟨f, hf⟩ : ∃ f, fs[p]? = some f := ⟨_, List.getElem?_eq_getElem (by have := Hnm.out.2; omega)⟩
        have hfm : f.2.length ≤ maxLen := HS.out.2.2.2.2.2.2 f (List.mem_of_getElem? hf)
        have HST2 : Hid (gaU fs l (k + 1) = cond (rdBo r (bs f.2)) (ruM r (bs f.2) (gaU fs l k)) (gaU fs l k)) := by show _ = _; rw [HST.out]; unfold gaS; dsimp only; rw [Hpl.out, hf]
        obtain ⟨ax, cx, hxe, -, hcase⟩ := HS.out.1
        rcases hcase with hnil | ⟨b2, off2, rfl, hcel⟩
        · rw [hnil] at hf; simp at hf
        obtain ⟨rfl, rfl⟩ : ao = some ⟨b2, off2, none⟩ ∧ cap = cx := by injection hxe with q1 q2 q3; exact ⟨q1, q3⟩
        obtain ⟨-, d1⟩ := hcel p f hf
        clear hcel hxe
        have HKP : Hid (∀ w', Below w5.heap.size w5 w' → w'.cell? ⟨wr.heap.size, 2, none⟩ = some (.func (.func F) #[] #[]) ∧ w'.cell? ⟨b2, off2 + p * 2 + 1, none⟩ = some (.string (bs f.2)) ∧ GI w w' (w.heap.size + 1) (gaU fs l k) ∧ OwnM w' w.heap.size zeroM) := fun w' hb => ⟨by rw [hb.cell (p := ⟨wr.heap.size, 2, none⟩) (World.block_lt_of_cell? _ _ s2)]; exact s2, by rw [(HG5.out.1.low hb).below.cell (p := ⟨b2, off2 + p * 2 + 1, none⟩) (World.block_lt_of_cell? _ _ d1)]; exact d1, HG5.out.1.low hb, HG5.out.2.low hb⟩
        have HRD : Hid (∀ w' b, Below w5.heap.size w5 w' → WdAt w' r b → Calls Tryz.prog (rdFn r) #[xVal r (w.heap.size + 1) b, .string (bs f.2)] w' fun e w2 => e = .returned (.bool (rdBo r (bs f.2))) ∧ RdP r (bs f.2) (w.heap.size + 1) (gaU fs l k) w' w2) := fun w' b hb hwd => read_at r hr45 (w.heap.size + 1) b _ (bs f.2) w' (HKP.out w' hb).2.2.1.msg (HS.out.2.2.1.below (HKP.out w' hb).2.2.1.below HS.out.2.2.2.1) (by rw [bs_size]; exact hfm) hwd
        have hna : ∀ b w', Sem.run Tryz.prog (nilAhead 371 (xty r) (xVal r (w.heap.size + 1) b) "outcry/fix.read") w' = .ok (some false) w' := fun b w' => na_read r hr45 (w.heap.size + 1) b w'
        have HCM := fun b x => cm_read r hr45 (w.heap.size + 1) b x
        have HNX : Hid (∀ w' w2, Below w5.heap.size w5 w' → RdP r (bs f.2) (w.heap.size + 1) (gaU fs l k) w' w2 → GI w w2 (w.heap.size + 1) (gaU fs l (k + 1)) ∧ OwnM w2 w.heap.size zeroM) := fun w' w2 hb h => by
          obtain ⟨h1, h2, h3⟩ := h
          rw [HST2.out]
          refine ⟨⟨h1, (HKP.out w' hb).2.2.1.below.trans (h2 _ (Nat.le_succ _))⟩, ?_⟩
          exact OwnM.below (HKP.out w' hb).2.2.2 (h2 (w.heap.size + 1) (Nat.le_refl _)) (Nat.lt_succ_self _)
        have hB0 : Below w5.heap.size w5 w5.drew := below_drewN (Below.refl _ _) 1
        obtain ⟨p2, p3, -, -⟩ := HKP.out _ hB0
        clear s2 d1 HST HST2 hfm hf HG5 hFn
        generalize hsv : bs f.2 = sv at *
        clear hsv
        go_upto_region 7 with fail
        go_region_law (first
          | (rw [if_pos (by kernel_rfl)]; refine callR (d := some 25) rfl F #[.pointer (some ⟨w.heap.size + 1, 0, none⟩)] (exec_fv (.tmp 24) (.tmp 5) rfl rfl rfl hcf) (HF.out _) ?_; rintro e w7 ⟨bw, rfl, hb7, hwd7⟩; have hB7 : Below w5.heap.size w5 w7 := hB0.trans (hb7.mono hB0.size); clear hb7; obtain ⟨q2, q3, -, -⟩ := HKP.out _ hB7; refine ⟨_, rfl, ?_⟩)
          | (rw [if_pos (by kernel_rfl)]; refine callR (d := some 34) rfl (rdFn r) #[xVal r (w.heap.size + 1) bw, .string sv] (exec_inv1 (.tmp 33) (.tmp 30) rfl rfl rfl (fun w => HCM bw _ w)) (HRD.out _ _ hB7 hwd7) ?_; rintro e w8 ⟨rfl, hrp⟩; have x0 := HNX.out _ _ hB7 hrp; refine ⟨_, rfl, ?_⟩)
          | (refine valR (d := some 32) rfl _ (exec_nc r hr45 (w.heap.size + 1) bw (.tmp 31) rfl rfl) ?_))
        all_goals
          have HX : Hid (GI w w8 (w.heap.size + 1) (gaU fs l (k + 1)) ∧ OwnM w8 w.heap.size zeroM) := x0
          clear x0 hrp
          go_wp2
          exact ⟨⟨k + 1, by omega, by go_num, HX⟩, by simp [intOf]; omega⟩
      · have hpm' : ¬ (p : Int) < (m : Int) := by omega
        have HX : Hid (GI w w5 (w.heap.size + 1) (gaU fs l (k + 1)) ∧ OwnM w5 w.heap.size zeroM) := by
          have e : gaU fs l (k + 1) = gaU fs l k := by
            rw [HST.out]; unfold gaS; dsimp only
            rw [Hpl.out, List.getElem?_eq_none (by have := Hnm.out.2; omega)]
          rw [e]; exact HG5.out
        clear HG5 HST
        go_wp2
        exact ⟨⟨k + 1, by omega, by go_num, HX⟩, by simp [intOf]; omega⟩
    · obtain rfl : k = n := by omega
      have HX : Hid (OwnM wr (w.heap.size + 1) (gaM fs l) ∧ OwnM wr w.heap.size zeroM ∧ Below w.heap.size w wr) := ⟨by rw [← HE.out]; exact HG.out.1.msg, HG.out.2, HG.out.1.below⟩
      clear HG
      generalize hGM : gaM fs l = GM at *
      have HGM : Hid (gaM fs l = GM) := hGM
      clear hGM
      go_upto_region 9 with fail
      rename_i K hK
      refine wp_region_lit ?_
      refine wpList_loadM HX.out.1 (.tmp 5) rfl rfl rfl ?_
      refine wpList_store_row rfl 25 (.tmp 4) (.tmp 36) rfl w.heap.size GM.cs (by rfl) (by rfl) 25 _ HX.out.2.1 (by rw [Msg.cs_size]; kernel_rfl) (by rw [Msg.cs_size, Msg.cs_size]) (Msg.cs_one _) ?_
      refine wpList_nil ?_
      refine hK _ _ ?_
      apply wp_ret
      refine bodyPost_ret (results_cell_row (fn := Tryz.f43) (p := 4) (ty := 25) rfl _ _ w.heap.size 25 GM.cs (0, 0) _ (by rfl) (setRow_heap _ _ _ _ _ _ HX.out.2.1) Tryz.underlying25 rfl (by rw [Msg.cs_size]; kernel_rfl)) (by rfl) ⟨by rw [HGM.out], below_setRow HX.out.2.2 (Nat.le_refl _) _⟩
end Go.Proofs.YtchkpggdndnpjaaGreatDoor
