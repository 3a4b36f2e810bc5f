import Derived.Test.YtchkpggdndnpjabGreatDoorG24
import Derived.Test.YtchkpggdndnpjabGreatDoorG23
import Derived.Test.YtchkpggdndnpjabGreatDoorG09
import Derived.Test.YtchkpggdndnpjabGreatDoorG20

namespace Go.Proofs.YtchkpggdndnpjabGreatDoor
set_option linter.unusedVariables false
open Go.RowKit Go.Great

/-- One slot is read. -/
def gaS (fs : List Fld) (M : Msg) (t : Slt) : Msg := match fs[plN fs t.1]? with
  | some f => cond (rdBo t.2.2 (bs f.2)) (ruM t.2.2 (bs f.2) M) M
  | none => M
def gaU (fs : List Fld) (l : List Slt) (k : Nat) : Msg := (l.take k).foldl (gaS fs) zeroM
def gaM (fs : List Fld) (l : List Slt) : Msg := l.foldl (gaS fs) zeroM
theorem gaU_step {fs : List Fld} {l : List Slt} {k : Nat} {t : Slt} (h : l[k]? = some t) : gaU fs l (k + 1) = gaS fs (gaU fs l k) t := by
  unfold gaU
  rw [List.take_add_one, h, List.foldl_append]; rfl
structure GI (w wr : World) (g : Nat) (M : Msg) : Prop where
  msg : OwnM wr g M
  below : Below w.heap.size w wr
theorem GI.low {w wr w' : World} {g : Nat} {M : Msg} (h : GI w wr g M) (hb : Below wr.heap.size wr w') : GI w w' g M := ⟨h.msg.low hb, h.below.trans (hb.mono h.below.size)⟩
set_option maxRecDepth 100000 in
set_option maxHeartbeats 1000000 in
theorem gather_any (v sv : Value) (fs : List Fld) (l : List Slt) (w : World) (hs : SrcF w v fs) (hsl : SltAt w sv l) (hM : Mon w) (hn : fs.length ≤ 1048576) (hl : l.length ≤ 45) (hrow : ∀ t ∈ l, t.2.2 < 45) (hval : ∀ f ∈ fs, f.2.length ≤ maxLen) :
    Calls Tryz.prog 63 #[v, sv] w fun x w' => x = .returned (.agg (gaM fs l).cs) ∧ Below w.heap.size w w' := by
  have HS : Hid (SrcF w v fs ∧ SltAt w sv l ∧ Mon w ∧ 2 < w.heap.size ∧ fs.length ≤ 1048576 ∧ (∀ t ∈ l, t.2.2 < 45) ∧ ∀ f ∈ fs, f.2.length ≤ maxLen) := ⟨hs, hsl, hM, hM.lt, hn, hrow, hval⟩
  obtain ⟨ao, cap, rfl, hc, _⟩ := hs
  obtain ⟨sao, scap, rfl, hsc, _⟩ := hsl
  have HE : Hid (gaU fs l l.length = gaM fs l) := by show _ = _; unfold gaU gaM; rw [List.take_length]
  have hmf : ∀ (fn : Fn) (first cap : Array Value) (w : World), (Instr.makeFunc fn first cap).run Tryz.prog w = .ok (.func fn first cap) w := fun _ _ _ _ => rfl
  clear hM hrow hval
  go_enter Tryz.func63, Tryz.ntmps63
  go_upto_region 2 with fail
  generalize hW : World.alloc (World.alloc w _) _ = w1
  have hW1 : (w.alloc (.cells zeroM.cs 23)).alloc (.cells zeroM.cs 23) = w1 := hW
  have HG0 : Hid (GI w w1 (w.heap.size + 1) (gaU fs l 0) ∧ OwnM w1 w.heap.size zeroM) := by
    rw [← hW1]
    refine ⟨⟨?_, ((Below.refl _ w).alloc (Nat.le_refl _) _).alloc (by simp) _⟩, (((Below.refl _ (w.alloc _)).alloc (Nat.le_refl _) _).block w.heap.size (by simp)).trans (heap_alloc_new w _)⟩
    have := heap_alloc_new (w.alloc (.cells zeroM.cs 23)) (.cells zeroM.cs 23)
    rw [show (w.alloc (.cells zeroM.cs 23)).heap.size = w.heap.size + 1 by simp] at this
    exact this
  clear hW hW1
  obtain ⟨n, hn1⟩ : ∃ n, n = l.length := ⟨_, rfl⟩
  obtain ⟨m, hm1⟩ : ∃ m, m = fs.length := ⟨_, rfl⟩
  rw [← hn1] at HE hl hsc
  rw [← hm1] at hc hn
  have Hnm : Hid (n = l.length ∧ m = fs.length) := ⟨hn1, hm1⟩
  rw [← hn1, ← hm1]
  rw [← hn1, ← hm1] at HS
  clear hn1 hm1
  go_wp2
  go_loopw [11] (fun i wr => ∃ k : Nat, k ≤ n ∧ i = .int .i64 k ∧ Hid (GI w wr (w.heap.size + 1) (gaU fs l k) ∧ OwnM wr w.heap.size zeroM)) (fun i _ => n - (intOf i).toNat)
  case atStart => exact ⟨0, by omega, rfl, HG0⟩
  case round =>
    obtain ⟨k, hk, rfl, HG⟩ := hrel
    clear HG0
    by_cases hlt : k < n
    · have hlt' : (k : Int) < (n : Int) := by omega
      have hk0 : (0 : Int) ≤ (k : Int) := by omega
      obtain ⟨t, htk⟩ : ∃ t, l[k]? = some t := ⟨_, List.getElem?_eq_getElem (by have := Hnm.out.1; omega)⟩
      have htm : t ∈ l := List.mem_of_getElem? htk
      have hr45 := HS.out.2.2.2.2.2.1 t htm
      have hsz := HG.out.1.below.size
      obtain ⟨ax, cx, hxe, -, hcase⟩ := HS.out.2.1.below HG.out.1.below
      rcases hcase with hnil | ⟨b, off, rfl, hcel⟩
      · have hn := Hnm.out.1; rw [hnil] at hn; simp at hn; omega
      obtain ⟨rfl, rfl⟩ : sao = some ⟨b, off, none⟩ ∧ scap = cx := by injection hxe with q1 q2 q3; exact ⟨q1, q3⟩
      obtain ⟨c1, c2, c3⟩ := hcel k t htk
      clear hcel hxe
      have HST : Hid (gaU fs l (k + 1) = gaS fs (gaU fs l k) t) := gaU_step htk
      have hcf := xcf_at t.2.2 hr45
      have HF : Hid (∀ w', Calls Tryz.prog (xFn.getD t.2.2 0) #[.pointer (some ⟨w.heap.size + 1, 0, none⟩)] w' fun e w2 => ∃ b, e = .returned (.iface (xty t.2.2) (xVal t.2.2 (w.heap.size + 1) b)) ∧ Below w'.heap.size w' w2 ∧ WdAt w2 t.2.2 b) := fun w' => form_at t.2.2 hr45 (w.heap.size + 1) w'
      have HP : Hid (∀ w', Below w.heap.size w w' → Calls Tryz.prog 214 #[.slice ao m cap, .int .i64 t.1] w' fun e w2 => e = .returned (.int .i64 (plN fs t.1 : Nat)) ∧ Below w'.heap.size w' w2) := fun w' hb => placeOf_any _ fs t.1 w' (HS.out.1.below hb) (by have := Hnm.out.2; omega)
      have hple := plN_le fs t.1
      rw [← Hnm.out.2] at hple
      obtain ⟨tg, mu, r⟩ := t
      dsimp only at c1 c2 c3 hcf HF HST hr45 HP hple
      clear htk htm
      generalize hFn : xFn.getD r 0 = F at *
      generalize hpl : plN fs tg = p at *
      have Hpl : Hid (plN fs tg = p) := hpl
      clear hpl
      go_wp2_with (go_at_call 214; fail)
      generalize hW4 : wr.alloc _ = W4
      have hb4 : Below wr.heap.size wr W4 := by rw [← hW4]; exact (Below.refl _ wr).alloc (Nat.le_refl _) _
      have r2 : W4.cell? ⟨wr.heap.size, 2, none⟩ = some (.func (.func F) #[] #[]) := by rw [← hW4]; exact World.cell?_alloc_new ..
      clear hW4
      have HG4 : Hid (GI w W4 (w.heap.size + 1) (gaU fs l k) ∧ OwnM W4 w.heap.size zeroM) := ⟨HG.out.1.low hb4, HG.out.2.low hb4⟩
      refine (HP.out _ HG4.out.1.below).mono ?_
      rintro e w5 ⟨rfl, hb5⟩
      have s2 : w5.cell? ⟨wr.heap.size, 2, none⟩ = some (.func (.func F) #[] #[]) := by rw [hb5.cell (p := ⟨wr.heap.size, 2, none⟩) (World.block_lt_of_cell? _ _ r2)]; exact r2
      have HG5 : Hid (GI w w5 (w.heap.size + 1) (gaU fs l k) ∧ OwnM w5 w.heap.size zeroM) := ⟨HG4.out.1.low hb5, HG4.out.2.low hb5⟩
      clear r2 hb4 hb5 HG HG4 HP c1 c2 c3 hsz
      by_cases hpm : p < m
      · have hpm' : (p : Int) < (m : Int) := by omega
        have hp0 : (0 : Int) ≤ (p : Int) := by omega
        obtain ⟨f, hf⟩ : ∃ f, fs[p]? = some f := ⟨_, List.getElem?_eq_getElem (by have := Hnm.out.2; omega)⟩
        have hfm : f.2.length ≤ maxLen := HS.out.2.2.2.2.2.2 f (List.mem_of_getElem? hf)
        have HST2 : Hid (gaU fs l (k + 1) = cond (rdBo r (bs f.2)) (ruM r (bs f.2) (gaU fs l k)) (gaU fs l k)) := by show _ = _; rw [HST.out]; unfold gaS; dsimp only; rw [Hpl.out, hf]
        obtain ⟨ax, cx, hxe, -, hcase⟩ := HS.out.1
        rcases hcase with hnil | ⟨b2, off2, rfl, hcel⟩
        · rw [hnil] at hf; simp at hf
        obtain ⟨rfl, rfl⟩ : ao = some ⟨b2, off2, none⟩ ∧ cap = cx := by injection hxe with q1 q2 q3; exact ⟨q1, q3⟩
        obtain ⟨-, d1⟩ := hcel p f hf
        clear hcel hxe
        have HKP : Hid (∀ w', Below w5.heap.size w5 w' → w'.cell? ⟨wr.heap.size, 2, none⟩ = some (.func (.func F) #[] #[]) ∧ w'.cell? ⟨b2, off2 + p * 2 + 1, none⟩ = some (.string (bs f.2)) ∧ GI w w' (w.heap.size + 1) (gaU fs l k) ∧ OwnM w' w.heap.size zeroM) := fun w' hb => ⟨by rw [hb.cell (p := ⟨wr.heap.size, 2, none⟩) (World.block_lt_of_cell? _ _ s2)]; exact s2, by rw [(HG5.out.1.low hb).below.cell (p := ⟨b2, off2 + p * 2 + 1, none⟩) (World.block_lt_of_cell? _ _ d1)]; exact d1, HG5.out.1.low hb, HG5.out.2.low hb⟩
        have HRD : Hid (∀ w' b, Below w5.heap.size w5 w' → WdAt w' r b → Calls Tryz.prog (rdFn r) #[xVal r (w.heap.size + 1) b, .string (bs f.2)] w' fun e w2 => e = .returned (.bool (rdBo r (bs f.2))) ∧ RdP r (bs f.2) (w.heap.size + 1) (gaU fs l k) w' w2) := fun w' b hb hwd => read_at r hr45 (w.heap.size + 1) b _ (bs f.2) w' (HKP.out w' hb).2.2.1.msg (HS.out.2.2.1.below (HKP.out w' hb).2.2.1.below HS.out.2.2.2.1) (by rw [bs_size]; exact hfm) hwd
        have hna : ∀ b w', Sem.run Tryz.prog (nilAhead 412 (xty r) (xVal r (w.heap.size + 1) b) "outcry/fix.read") w' = .ok (some false) w' := fun b w' => na_read r hr45 (w.heap.size + 1) b w'
        have HCM := fun b x => cm_read r hr45 (w.heap.size + 1) b x
        have HNX : Hid (∀ w' w2, Below w5.heap.size w5 w' → RdP r (bs f.2) (w.heap.size + 1) (gaU fs l k) w' w2 → GI w w2 (w.heap.size + 1) (gaU fs l (k + 1)) ∧ OwnM w2 w.heap.size zeroM) := fun w' w2 hb h => by
          obtain ⟨h1, h2, h3⟩ := h
          rw [HST2.out]
          refine ⟨⟨h1, (HKP.out w' hb).2.2.1.below.trans (h2 _ (Nat.le_succ _))⟩, ?_⟩
          exact OwnM.below (HKP.out w' hb).2.2.2 (h2 (w.heap.size + 1) (Nat.le_refl _)) (Nat.lt_succ_self _)
        have hB0 : Below w5.heap.size w5 w5.drew := below_drewN (Below.refl _ _) 1
        obtain ⟨p2, p3, -, -⟩ := HKP.out _ hB0
        clear s2 d1 HST HST2 hfm hf HG5 hFn
        generalize hsv : bs f.2 = sv at *
        clear hsv
        go_upto_region 7 with fail
        go_region_law (first
          | (rw [if_pos (by kernel_rfl)]; refine callR (d := some 25) rfl F #[.pointer (some ⟨w.heap.size + 1, 0, none⟩)] (exec_fv (.tmp 24) (.tmp 5) rfl rfl rfl hcf) (HF.out _) ?_; rintro e w7 ⟨bw, rfl, hb7, hwd7⟩; have hB7 : Below w5.heap.size w5 w7 := hB0.trans (hb7.mono hB0.size); clear hb7; obtain ⟨q2, q3, -, -⟩ := HKP.out _ hB7; refine ⟨_, rfl, ?_⟩)
          | (rw [if_pos (by kernel_rfl)]; refine callR (d := some 34) rfl (rdFn r) #[xVal r (w.heap.size + 1) bw, .string sv] (exec_inv1 (.tmp 33) (.tmp 30) rfl rfl rfl (fun w => HCM bw _ w)) (HRD.out _ _ hB7 hwd7) ?_; rintro e w8 ⟨rfl, hrp⟩; have x0 := HNX.out _ _ hB7 hrp; refine ⟨_, rfl, ?_⟩)
          | (refine valR (d := some 32) rfl _ (exec_nc r hr45 (w.heap.size + 1) bw (.tmp 31) rfl rfl) ?_))
        all_goals
          have HX : Hid (GI w w8 (w.heap.size + 1) (gaU fs l (k + 1)) ∧ OwnM w8 w.heap.size zeroM) := x0
          clear x0 hrp
          go_wp2
          exact ⟨⟨k + 1, by omega, by go_num, HX⟩, by simp [intOf]; omega⟩
      · have hpm' : ¬ (p : Int) < (m : Int) := by omega
        have HX : Hid (GI w w5 (w.heap.size + 1) (gaU fs l (k + 1)) ∧ OwnM w5 w.heap.size zeroM) := by
          have e : gaU fs l (k + 1) = gaU fs l k := by
            rw [HST.out]; unfold gaS; dsimp only
            rw [Hpl.out, List.getElem?_eq_none (by have := Hnm.out.2; omega)]
          rw [e]; exact HG5.out
        clear HG5 HST
        go_wp2
        exact ⟨⟨k + 1, by omega, by go_num, HX⟩, by simp [intOf]; omega⟩
    · obtain rfl : k = n := by omega
      have HX : Hid (OwnM wr (w.heap.size + 1) (gaM fs l) ∧ OwnM wr w.heap.size zeroM ∧ Below w.heap.size w wr) := ⟨by rw [← HE.out]; exact HG.out.1.msg, HG.out.2, HG.out.1.below⟩
      clear HG
      generalize hGM : gaM fs l = GM at *
      have HGM : Hid (gaM fs l = GM) := hGM
      clear hGM
      go_upto_region 9 with fail
      rename_i K hK
      refine wp_region_lit ?_
      refine wpList_loadM HX.out.1 (.tmp 5) rfl rfl rfl ?_
      refine wpList_store_row rfl 23 (.tmp 4) (.tmp 36) rfl w.heap.size GM.cs (by rfl) (by rfl) 23 _ HX.out.2.1 (by rw [Msg.cs_size]; kernel_rfl) (by rw [Msg.cs_size, Msg.cs_size]) (Msg.cs_one _) ?_
      refine wpList_nil ?_
      refine hK _ _ ?_
      apply wp_ret
      refine bodyPost_ret (results_cell_row (fn := Tryz.f63) (p := 4) (ty := 23) rfl _ _ w.heap.size 23 GM.cs (0, 0) _ (by rfl) (setRow_heap _ _ _ _ _ _ HX.out.2.1) Tryz.underlying23 rfl (by rw [Msg.cs_size]; kernel_rfl)) (by rfl) ⟨by rw [HGM.out], below_setRow HX.out.2.2 (Nat.le_refl _) _⟩
end Go.Proofs.YtchkpggdndnpjabGreatDoor

namespace Go.Proofs.YtchkpggdndnpjabGreatDoor
set_option linter.unusedVariables false
open Go.RowKit Go.Lib

theorem rdF_ok (l : List UInt8) {f : Fld} {n : Nat} (h : rdF l = .ok (f, n)) : l.take n = fldL f ∧ isTg f.1 = true ∧ okV f.2 = true ∧ 1 ≤ n ∧ n ≤ l.length := by
  unfold rdF at h
  split at h
  · rename_i ht
    unfold tagOk at ht
    simp only [Bool.and_eq_true, decide_eq_true_eq] at ht
    obtain ⟨⟨h1, h2⟩, h3⟩ := ht
    unfold rdV at h
    split at h
    · rename_i hv
      injection h with h
      obtain ⟨hf, hn⟩ := Prod.mk.inj h
      subst hf hn
      obtain ⟨_, _, hi⟩ := dec_pu h1
      have hd := (List.getElem?_eq_some_iff.1 h3).1
      have hq := (List.getElem?_eq_some_iff.1 hv.2).1
      simp only [List.length_drop] at hq
      generalize hdd : cnt dig l = d at *
      generalize hvv : cnt vby (l.drop (d + 1)) = v at *
      refine ⟨?_, h2, ?_, by omega, by omega⟩
      · have e1 : l = l.take d ++ ([61] ++ (l.drop (d + 1)).take v ++ [1]) ++ (l.drop (d + 1)).drop (v + 1) := by
          have a1 : l.drop d = 61 :: l.drop (d + 1) := by
            rw [List.drop_eq_getElem_cons hd]
            have := (List.getElem?_eq_some_iff.1 h3).2
            rw [this]
          have a2 : (l.drop (d + 1)).drop v = 1 :: (l.drop (d + 1)).drop (v + 1) := by
            rw [List.drop_eq_getElem_cons (by simpa using hq)]
            have := (List.getElem?_eq_some_iff.1 hv.2).2
            rw [this]
          conv => lhs; rw [← List.take_append_drop d l, a1, ← List.take_append_drop v (l.drop (d + 1)), a2]
          simp
        have hl1 : (l.take d).length = d := by simp; omega
        have hl2 : ((l.drop (d + 1)).take v).length = v := by simp; omega
        have e2 : fldL (puN (l.take d) 9999, (l.drop (d + 1)).take v) = l.take d ++ ([61] ++ (l.drop (d + 1)).take v ++ [1]) := by
          unfold fldL
          show itoa (puN (l.take d) 9999) ++ [61] ++ _ ++ [1] = _
          rw [hi]; simp
        rw [e2]
        conv => lhs; rw [e1]
        rw [List.take_left']
        simp [hl1, hl2]
        omega
      · unfold okV
        have hall := cnt_all vby (l.drop (d + 1))
        rw [hvv] at hall
        have hne : (l.drop (d + 1)).take v ≠ [] := by
          intro e
          have := congrArg List.length e
          simp at this
          omega
        show (!((l.drop (d + 1)).take v).isEmpty && ((l.drop (d + 1)).take v).all vby) = true
        rw [List.all_eq_true.2 hall]
        cases hx : (l.drop (d + 1)).take v with
        | nil => exact absurd hx hne
        | cons _ _ => rfl
    · cases h
  · cases h
theorem rdAll_ok (t : List UInt8) : ∀ (F a : Nat) (fs : List Fld), t.length ≤ F + a → rdAll t F a = .ok fs → bodyB fs = t.drop a ∧ (∀ f ∈ fs, isTg f.1 = true ∧ okV f.2 = true)
  | 0, a, fs, hF, h => by
    unfold rdAll at h
    injection h with h
    subst h
    rw [List.drop_eq_nil_of_le (by omega)]
    exact ⟨rfl, fun f hf => by simp at hf⟩
  | F + 1, a, fs, hF, h => by
    unfold rdAll at h
    split at h
    · cases hr : rdF (t.drop a) with
      | error y => rw [hr] at h; cases h
      | ok y =>
        obtain ⟨f, k⟩ := y
        rw [hr] at h
        obtain ⟨h1, h2, h3, h4, h5⟩ := rdF_ok _ hr
        cases hq : rdAll t F (a + k) with
        | error x => simp only [hq, addF] at h; cases h
        | ok gs =>
          simp only [hq, addF] at h
          injection h with h
          subst h
          obtain ⟨g1, g2⟩ := rdAll_ok t F (a + k) gs (by omega) hq
          refine ⟨?_, fun x hx => ?_⟩
          · show fldL f ++ bodyB gs = _
            rw [g1, ← h1, ← List.drop_drop, List.take_append_drop]
          · rcases List.mem_cons.1 hx with rfl | hx
            · exact ⟨h2, h3⟩
            · exact g2 x hx
    · injection h with h
      subst h
      rw [List.drop_eq_nil_of_le (by omega)]
      exact ⟨rfl, fun f hf => by simp at hf⟩
/-- A frame's two ends. -/
theorem numEnd_num (s : List UInt8) (h0 : numEnd s 12 ≠ 12) : puE ((s.drop 12).take (numEnd s 12 - 12)) 9999 = 0 := by
  unfold numEnd at *
  split at h0
  · rename_i h
    rw [if_pos h]
    have : (s.drop 12).take (12 + 1 - 12) = [48] := by
      obtain ⟨h1, h2⟩ := List.getElem?_eq_some_iff.1 h
      rw [List.drop_eq_getElem_cons h1, h2]; rfl
    rw [this]; decide
  · rename_i h
    rw [if_neg h]
    rw [show 12 + min (cnt dig (s.drop 12)) 4 - 12 = min (cnt dig (s.drop 12)) 4 by omega]
    generalize hx : (s.drop 12).take (min (cnt dig (s.drop 12)) 4) = x
    have hall : digs x = true := by
      unfold digs
      rw [List.all_eq_true]
      intro c hc
      refine cnt_all dig (s.drop 12) c ?_
      rw [← hx] at hc
      exact (List.take_subset_take_left _ (Nat.min_le_left _ _)) hc
    have hlen : x.length = min (cnt dig (s.drop 12)) 4 := by
      rw [← hx]; have := cnt_le dig (s.drop 12); simp at this ⊢; omega
    have hpos : 0 < x.length := by omega
    have hhead : ∀ c y, x = c :: y → c ≠ 48 := by
      intro c y e hc
      apply h
      have e0 : x[0]? = some c := by rw [e]; rfl
      rw [← hx, List.getElem?_take, if_pos (by omega), List.getElem?_drop] at e0
      rw [hc] at e0
      exact e0
    have hnum : numB x = true := by
      unfold numB
      rw [hall]
      match x, hpos, hhead with
      | [c], _, _ => rfl
      | c :: d :: y, _, hh => simpa using hh c (d :: y) rfl
    have hv : val x ≤ 9999 := by
      have hl4 : x.length ≤ 4 := by omega
      unfold digs at hall
      match x, hl4, hall with
      | [], _, _ => decide
      | [a], _, ha => simp [List.all_cons] at ha; have := (dig_iff a).1 ha; simp [val]; omega
      | [a, b], _, ha =>
        simp [List.all_cons] at ha
        have h1 := (dig_iff a).1 ha.1; have h2 := (dig_iff b).1 ha.2
        simp [val]; omega
      | [a, b, c], _, ha =>
        simp [List.all_cons] at ha
        have h1 := (dig_iff a).1 ha.1; have h2 := (dig_iff b).1 ha.2.1; have h3 := (dig_iff c).1 ha.2.2
        simp [val]; omega
      | [a, b, c, d], _, ha =>
        simp [List.all_cons] at ha
        have h1 := (dig_iff a).1 ha.1; have h2 := (dig_iff b).1 ha.2.1; have h3 := (dig_iff c).1 ha.2.2.1; have h4 := (dig_iff d).1 ha.2.2.2
        simp [val]; omega
    exact (pu_le hnum hv).2
theorem last_none {s : List UInt8} {m n : Nat} (hl : s.length = m + 7) (h : lastL s m n = none) : s.drop m = tenL ++ three n ++ [1] := by
  unfold lastL at h
  split at h
  · cases h
  · rename_i h1
    split at h
    · cases h
    · split at h
      · cases h
      · rename_i h3
        split at h
        · rename_i h4
          have e1 := pre_full (s.drop m) tenL (by simpa [tenL] using h1)
          have e3 : (s.drop m).drop 3 = three n ++ [1] := by
            rw [List.drop_drop]
            rw [← List.take_append_drop 3 (s.drop (m + 3)), h4]
            congr 1
            rw [List.drop_drop]
            have h6 : s[m + 6]? = some 1 := Classical.byContradiction fun hh => h3 hh
            obtain ⟨g1, g2⟩ := List.getElem?_eq_some_iff.1 h6
            rw [show m + 3 + 3 = m + 6 by omega, List.drop_eq_getElem_cons g1, g2, List.drop_eq_nil_of_le (by omega)]
          rw [e1, show tenL.length = 3 from rfl, e3, List.append_assoc]
        · cases h
/-- What Split takes is, byte by byte, what Join makes. -/
theorem split_parts {s : List UInt8} {fs : List Fld} (h : splitL s = .ok fs) :
    s.length ≤ 1024 ∧ ∃ m, s.length = m + 7 ∧ s.drop m = tenL ++ three (sumL (s.take m)) ++ [1] ∧ s.take m = aheadL (bodyB fs) ∧ (∀ f ∈ fs, isTg f.1 = true ∧ okV f.2 = true) := by
  unfold splitL at h
  split at h
  · cases h
  · rename_i hlen
    cases hb : bodyL s with
    | error x => rw [hb] at h; cases h
    | ok b =>
      rw [hb] at h
      simp only at h
      cases hl : lastL s (s.length - 7) (sumL (s.take (s.length - 7))) with
      | some x => rw [hl] at h; cases h
      | none =>
        rw [hl] at h
        simp only at h
        unfold bodyL at hb
        split at hb
        · cases hb
        · rename_i hp
          split at hb
          · cases hb
          · rename_i he
            split at hb
            · rename_i hk
              injection hb with hb
              have he1 : numEnd s 12 ≠ 12 := fun e => he (.inl e)
              have he2 : s[numEnd s 12]? = some 1 := Classical.byContradiction fun e => he (.inr e)
              have hnum := numEnd_num s he1
              obtain ⟨q0, q1, q2⟩ := dec_pu hnum
              obtain ⟨g1, g2⟩ := List.getElem?_eq_some_iff.1 he2
              have hge : 12 ≤ numEnd s 12 := by unfold numEnd; split <;> omega
              have hs12 : s = headL ++ s.drop 12 := pre_full s headL (by simpa [headL] using hp)
              generalize numEnd s 12 = E at *
              generalize hD : (s.drop 12).take (E - 12) = D at *
              obtain ⟨m, hm⟩ : ∃ m, s.length = m + 7 := ⟨s.length - 7, by omega⟩
              have hm7 : s.length - 7 = m := by omega
              rw [hm7] at h hl
              have hlm : (s.take m).length = m := by simp; omega
              obtain ⟨r1, r2⟩ := rdAll_ok (s.take m) s.length b fs (by omega) h
              refine ⟨by omega, m, hm, last_none hm hl, ?_, r2⟩
              have hbl : ((bodyB fs).length : Int) = puN D 9999 := by rw [r1, List.length_drop, hlm]; omega
              unfold aheadL
              rw [hbl, q2, r1, ← hb]
              have e1 : (s.drop 12).drop (E - 12) = 1 :: s.drop (E + 1) := by
                rw [List.drop_drop, show 12 + (E - 12) = E by omega, List.drop_eq_getElem_cons g1, g2]
              have e2 : s = headL ++ D ++ [1] ++ s.drop (E + 1) := by
                conv => lhs; rw [hs12, ← List.take_append_drop (E - 12) (s.drop 12), hD, e1]
                simp
              have hDl : D.length = E - 12 := by rw [← hD]; simp; omega
              have e3 : (headL ++ D ++ [1]).length = E + 1 := by simp [headL, hDl]; omega
              conv => lhs; rw [e2, List.take_append, e3]
              rw [List.take_of_length_le (by omega), List.drop_take]
            · cases hb
theorem split_join {s : List UInt8} {fs : List Fld} (h : splitL s = .ok fs) : joinL fs = .ok s := by
  obtain ⟨h1, m, h2, h3, h4, h5⟩ := split_parts h
  have hs : closeL (aheadL (bodyB fs)) = s := by
    unfold closeL
    rw [← h4]
    conv => rhs; rw [← List.take_append_drop m s, h3]
    simp
  unfold joinL
  rw [hs, if_neg, if_neg, if_neg (by omega)]
  · simp only [Bool.not_eq_false, List.all_eq_true]
    exact fun f hf => (h5 f hf).2
  · simp only [Bool.not_eq_false, List.all_eq_true]
    exact fun f hf => (h5 f hf).1
end Go.Proofs.YtchkpggdndnpjabGreatDoor

namespace Go.Proofs.YtchkpggdndnpjabGreatDoor
set_option linter.unusedVariables false
open Go.RowKit Go.Lib

theorem okV_parts {v : List UInt8} (h : okV v = true) : v ≠ [] ∧ ∀ c ∈ v, vby c = true := by
  unfold okV at h
  rw [Bool.and_eq_true, List.all_eq_true] at h
  exact ⟨by intro e; rw [e] at h; simp at h, h.2⟩
theorem itoa_tag {t : Int} (h : isTg t = true) : itoa t = decDigits t.toNat ∧ (t.toNat : Int) = t := by
  have := (isTg_iff t).1 h
  have e : (t.toNat : Int) = t := by omega
  refine ⟨?_, e⟩
  rw [← itoa_nonneg, e]
theorem rdF_fld (f : Fld) (rest : List UInt8) (h1 : isTg f.1 = true) (h2 : okV f.2 = true) : rdF (fldL f ++ rest) = .ok (f, (fldL f).length) := by
  obtain ⟨t, v⟩ := f
  obtain ⟨hne, hall⟩ := okV_parts h2
  obtain ⟨e1, e2⟩ := itoa_tag h1
  have hT := (isTg_iff t).1 h1
  have hd : digs (itoa t) = true := by rw [e1]; exact digs_dec _
  have hds : ∀ c ∈ itoa t, dig c = true := by unfold digs at hd; rw [List.all_eq_true] at hd; exact hd
  have eL : fldL (t, v) ++ rest = itoa t ++ (61 :: (v ++ (1 :: rest))) := by simp [fldL]
  have hc : cnt dig (fldL (t, v) ++ rest) = (itoa t).length := by
    rw [eL]
    refine cnt_eq dig _ _ hds (fun c hc => ?_)
    simp at hc
    subst hc
    decide
  have hp := pu_dec (u := t.toNat) (m := 9999) (by rw [e2]; exact hT.2.1)
  rw [← e1, e2] at hp
  have ht : (fldL (t, v) ++ rest).take (cnt dig (fldL (t, v) ++ rest)) = itoa t := by rw [hc, eL, List.take_left']; rfl
  have hg : (fldL (t, v) ++ rest)[cnt dig (fldL (t, v) ++ rest)]? = some 61 := by rw [hc, eL, List.getElem?_append_right (Nat.le_refl _)]; simp
  have hr : (fldL (t, v) ++ rest).drop (cnt dig (fldL (t, v) ++ rest) + 1) = v ++ (1 :: rest) := by
    rw [hc, eL, ← List.drop_drop, List.drop_left']
    · rfl
    · rfl
  have hv : cnt vby (v ++ (1 :: rest)) = v.length := cnt_eq vby _ _ hall (fun c hc => by simp at hc; subst hc; decide)
  unfold rdF
  rw [if_pos]
  · rw [ht, hr, hc, hp.1]
    unfold rdV
    rw [hv, if_pos ⟨List.length_pos_iff.2 hne, by rw [List.getElem?_append_right (Nat.le_refl _)]; simp⟩, List.take_left' rfl]
    congr 1
    simp [fldL]; omega
  · unfold tagOk
    rw [ht, hg, hp.1, hp.2]
    simp [h1]
theorem rdAll_body (t : List UInt8) : ∀ (fs : List Fld) (F a : Nat), fs.length ≤ F → a + (bodyB fs).length = t.length → t.drop a = bodyB fs → (∀ f ∈ fs, isTg f.1 = true ∧ okV f.2 = true) → rdAll t F a = .ok fs
  | [], F, a, _, hl, hd, _ => by
    have ha : ¬ a < t.length := by simp [bodyB] at hl; omega
    cases F with
    | zero => rfl
    | succ F => unfold rdAll; rw [if_neg ha]
  | f :: fs, 0, a, hF, _, _, _ => by simp at hF
  | f :: fs, F + 1, a, hF, hl, hd, hok => by
    have eb : bodyB (f :: fs) = fldL f ++ bodyB fs := by simp [bodyB]
    obtain ⟨h1, h2⟩ := hok f (by simp)
    have hr := rdF_fld f (bodyB fs) h1 h2
    have hpos : 0 < (fldL f).length := by simp [fldL]; omega
    rw [eb, List.length_append] at hl
    unfold rdAll
    rw [if_pos (by omega), hd, eb, hr]
    show addF f (rdAll t F (a + (fldL f).length)) = _
    rw [rdAll_body t fs F (a + (fldL f).length) (by simpa using hF) (by omega) (by rw [← List.drop_drop, hd, eb, List.drop_left' rfl]) (fun g hg => hok g (by simp [hg]))]
    rfl
theorem dec_len4 {n : Nat} (h : n < 10000) : (decDigits n).length ≤ 4 := by
  by_cases h1 : n < 10
  · rw [decDigits_one h1]; simp
  · by_cases h2 : n < 100
    · rw [decDigits_two h1 h2]; simp
    · rw [decDigits, dif_neg h1]
      by_cases h3 : n < 1000
      · rw [decDigits_two (by omega) (by omega)]; simp
      · rw [decDigits, dif_neg (by omega), decDigits_two (by omega) (by omega)]; simp
theorem length_flds : ∀ fs : List Fld, fs.length ≤ (bodyB fs).length
  | [] => Nat.le_refl _
  | f :: fs => by
    have eb : bodyB (f :: fs) = fldL f ++ bodyB fs := by simp [bodyB]
    have := length_flds fs
    have hpos : 0 < (fldL f).length := by simp [fldL]; omega
    rw [eb, List.length_append]; simp; omega
/-- What Join makes: its parts. -/
theorem join_parts {fs : List Fld} {b : List UInt8} (h : joinL fs = .ok b) : b = closeL (aheadL (bodyB fs)) ∧ b.length ≤ 1024 ∧ (∀ f ∈ fs, isTg f.1 = true ∧ okV f.2 = true) := by
  unfold joinL at h
  split at h
  · cases h
  · rename_i h1
    split at h
    · cases h
    · rename_i h2
      split at h
      · cases h
      · rename_i h3
        injection h with h
        simp only [Bool.not_eq_false, List.all_eq_true] at h1 h2
        exact ⟨h.symm, by rw [← h]; omega, fun f hf => ⟨h1 f hf, h2 f hf⟩⟩
theorem join_split {fs : List Fld} {b : List UInt8} (h : joinL fs = .ok b) : splitL b = .ok fs := by
  obtain ⟨hb, hl, hok⟩ := join_parts h
  have hal : b.length = (aheadL (bodyB fs)).length + 7 := by rw [hb, close_length]
  have hA : (aheadL (bodyB fs)).length = 12 + (itoa ((bodyB fs).length : Int)).length + 1 + (bodyB fs).length := by unfold aheadL headL; simp; omega
  obtain ⟨n, hn⟩ : ∃ n, (bodyB fs).length = n := ⟨_, rfl⟩
  have hI : itoa (n : Int) = decDigits n := itoa_nonneg n
  have hn9 : n < 10000 := by omega
  have hI4 : (itoa (n : Int)).length ≤ 4 := by rw [hI]; exact dec_len4 hn9
  have hIn : 0 < (itoa (n : Int)).length := by
    rw [hI]; obtain ⟨c, l, e, _⟩ := head_dec n; rw [e]; simp
  have eb : b = headL ++ (itoa (n : Int) ++ (1 :: (bodyB fs ++ (tenL ++ three (sumL (aheadL (bodyB fs))) ++ [1])))) := by
    rw [hb]; unfold closeL aheadL; rw [hn]; simp
  have ed : b.drop 12 = itoa (n : Int) ++ (1 :: (bodyB fs ++ (tenL ++ three (sumL (aheadL (bodyB fs))) ++ [1]))) := by
    conv => lhs; rw [eb]
    rw [List.drop_left']; rfl
  have hE : numEnd b 12 = 12 + (itoa (n : Int)).length := by
    unfold numEnd
    have hds : ∀ c ∈ itoa (n : Int), dig c = true := by have := digs_dec n; rw [← hI] at this; unfold digs at this; rw [List.all_eq_true] at this; exact this
    have hb12 : b[12]? = (b.drop 12)[0]? := by rw [List.getElem?_drop]
    obtain ⟨c, l, ec, hc0, hc1⟩ := head_dec n
    split
    · rename_i h48
      rw [hb12, ed, hI, ec] at h48
      simp at h48
      by_cases h0 : 0 < n
      · exact absurd h48 (hc0 h0)
      · have : n = 0 := by omega
        have hl0 := hc1.1 (by omega)
        rw [hI, ec, hl0]; rfl
    · have hc : cnt dig (b.drop 12) = (itoa (n : Int)).length := by
        rw [ed]
        exact cnt_eq dig _ _ hds (fun c hc => by simp at hc; subst hc; decide)
      rw [hc]; omega
  have hD : (b.drop 12).take (numEnd b 12 - 12) = itoa (n : Int) := by rw [hE, ed, show 12 + (itoa (n : Int)).length - 12 = (itoa (n : Int)).length by omega, List.take_left' rfl]
  have h1 : b[numEnd b 12]? = some 1 := by
    rw [hE, ← List.getElem?_drop, ed, List.getElem?_append_right (Nat.le_refl _)]; simp
  have hp := pu_dec (u := n) (m := 9999) (by omega)
  rw [← hI] at hp
  rw [hn] at hA
  have hbody : bodyL b = .ok (numEnd b 12 + 1) := by
    unfold bodyL
    rw [if_neg, if_neg, if_pos]
    · rw [hD, hp.1, hE, hal, hA]; omega
    · intro hh
      rcases hh with hh | hh
      · omega
      · exact hh h1
    · have := pre_app headL (itoa (n : Int) ++ (1 :: (bodyB fs ++ (tenL ++ three (sumL (aheadL (bodyB fs))) ++ [1]))))
      rw [← eb] at this
      rw [this]; decide
  have hm : b.length - 7 = (aheadL (bodyB fs)).length := by omega
  have htk : b.take (aheadL (bodyB fs)).length = aheadL (bodyB fs) := by
    conv => lhs; rw [hb]
    unfold closeL
    rw [List.append_assoc, List.append_assoc, List.take_left' rfl]
  have hdr : b.drop (aheadL (bodyB fs)).length = tenL ++ (three (sumL (aheadL (bodyB fs))) ++ [1]) := by
    conv => lhs; rw [hb]
    unfold closeL
    rw [List.append_assoc, List.append_assoc, List.drop_left' rfl]
  have hlast : lastL b (b.length - 7) (sumL (b.take (b.length - 7))) = none := by
    rw [hm, htk]
    generalize aheadL (bodyB fs) = A at *
    have d3 : b.drop (A.length + 3) = three (sumL A) ++ [1] := by rw [← List.drop_drop, hdr]; rfl
    have t3 : (b.drop (A.length + 3)).take 3 = three (sumL A) := by rw [d3]; rfl
    have c3 : cnt dig (three (sumL A)) = 3 := by
      rw [cnt_whole dig _ (three_digs (by have := sumL_lt A; omega))]; rfl
    have g6 : b[A.length + 6]? = some 1 := by
      rw [← List.getElem?_drop, hdr]; rfl
    unfold lastL
    rw [hdr, pre_app, if_neg (by decide), t3, c3, if_neg (by omega), if_neg (fun hh => hh g6), if_pos rfl]
  unfold splitL
  rw [if_neg (by omega), hbody]
  simp only [hlast]
  rw [hm, htk]
  refine rdAll_body _ fs b.length _ ?_ ?_ ?_ hok
  · have := length_flds fs; omega
  · rw [hE, hA, hn]
  · rw [hE]
    unfold aheadL
    rw [hn, List.drop_left']
    simp [headL]; omega
theorem join_len {fs : List Fld} {b : List UInt8} (h : joinL fs = .ok b) : 21 ≤ b.length ∧ b.length ≤ 1024 := by
  obtain ⟨hb, hl, _⟩ := join_parts h
  refine ⟨?_, hl⟩
  have hA : (aheadL (bodyB fs)).length = 12 + (itoa ((bodyB fs).length : Int)).length + 1 + (bodyB fs).length := by unfold aheadL headL; simp; omega
  have hIn : 0 < (itoa ((bodyB fs).length : Int)).length := by
    rw [itoa_nonneg]; obtain ⟨c, l, e, _⟩ := head_dec (bodyB fs).length; rw [e]; simp
  rw [hb, close_length]; omega

/-- The sum of all. -/
def tot (l : List UInt8) : Nat := l.foldl (fun a c => a + c.toNat) 0
theorem tot_app (a b : List UInt8) : tot (a ++ b) = tot a + tot b := by unfold tot; rw [List.foldl_append, sum_from b]
theorem tot_cons (c : UInt8) (l : List UInt8) : tot (c :: l) = c.toNat + tot l := by unfold tot; rw [List.foldl_cons, sum_from l]; omega
theorem tot_set (l : List UInt8) (i : Nat) (x : UInt8) (h : i < l.length) : tot (l.set i x) + l[i].toNat = tot l + x.toNat := by
  rw [List.set_eq_take_append_cons_drop, if_pos h, tot_app, tot_cons]
  conv => rhs; rw [← List.take_append_drop i l, List.drop_eq_getElem_cons h, tot_app, tot_cons]
  omega
theorem turned_bad {b : List UInt8} {fs : List Fld} (h : splitL b = .ok fs) (i : Nat) (x : UInt8) (hi : i < b.length) (hx : x ≠ b[i]) : ∃ y, splitL (b.set i x) = .error y := by
  cases hc : splitL (b.set i x) with
  | error y => exact ⟨y, rfl⟩
  | ok gs =>
    exfalso
    obtain ⟨_, m, h2, h3, _, _⟩ := split_parts h
    obtain ⟨_, m', g2, g3, _, _⟩ := split_parts hc
    have hm : m' = m := by rw [List.length_set] at g2; omega
    subst hm
    by_cases him : i < m'
    · have hdr : (b.set i x).drop m' = b.drop m' := by rw [List.drop_set, if_pos him]
      rw [hdr, h3] at g3
      have ht : three (sumL (b.take m')) = three (sumL ((b.set i x).take m')) := by
        have g4 := List.append_cancel_right g3
        exact List.append_cancel_left g4
      have hs := three_inj (by have := sumL_lt (b.take m'); omega) (by have := sumL_lt ((b.set i x).take m'); omega) ht
      rw [List.take_set] at hs
      have hlt : i < (b.take m').length := by simp; omega
      have e := tot_set (b.take m') i x hlt
      have e2 : (b.take m')[i] = b[i] := List.getElem_take
      rw [e2] at e
      have hs' : tot (b.take m') % 256 = tot ((b.take m').set i x) % 256 := hs
      have hx1 := x.toNat_lt
      have hx2 := b[i].toNat_lt
      apply hx
      apply UInt8.toNat_inj.1
      omega
    · have htk : (b.set i x).take m' = b.take m' := by rw [List.take_set, List.set_eq_of_length_le (by simp; omega)]
      rw [htk, ← h3] at g3
      have he : b.set i x = b := by
        rw [← List.take_append_drop m' (b.set i x), htk, g3, List.take_append_drop]
      have : (b.set i x)[i]? = b[i]? := by rw [he]
      rw [List.getElem?_set_self hi, List.getElem?_eq_getElem hi] at this
      injection this with this
      exact hx this
end Go.Proofs.YtchkpggdndnpjabGreatDoor

namespace Go.Proofs.YtchkpggdndnpjabGreatDoor
set_option linter.unusedVariables false
open Go.RowKit

theorem setZ_ok {M : Msg} (hM : M.ok) {k : Nat} {z : Int} (h : -9223372036854775808 ≤ z ∧ z ≤ 9223372036854775807) : (M.setZ k z).ok := fun i => by
  unfold Msg.setZ
  dsimp only
  split
  · exact h
  · exact hM i
theorem zeroM_ok : zeroM.ok := fun i => by unfold zeroM; dsimp only; omega
theorem psV_bd (s : ByteArray) : 0 ≤ psV s ∧ psV s ≤ 9223372036854775807 := by
  by_cases h : psOk s = true
  · have e : psV s = dnV (part s 0 8) * 86400000 + part s 9 11 * 3600000 + part s 12 14 * 60000 + part s 15 17 * 1000 + (if 17 < s.size then part s 18 s.size else 0 : Nat) := by unfold psV; rw [if_pos h]
    unfold psOk at h
    simp only [Bool.and_eq_true, decide_eq_true_eq] at h
    obtain ⟨⟨⟨⟨hf, hd⟩, h9⟩, h12⟩, h15⟩ := h
    obtain ⟨n, -, hn, hle⟩ := dn_range hd
    have hms : (if 17 < s.size then part s 18 s.size else 0 : Nat) < 1000 := by
      split
      · rename_i h17
        unfold formOk at hf
        simp only [Bool.and_eq_true, Bool.or_eq_true, beq_iff_eq] at hf
        have hsz : s.size = 21 := by omega
        exact part_lt hf.2 18 s.size 3 (by omega) (Nat.le_refl _) (fun j hj hj2 => by
          rw [hsz] at hj2
          have : j = 18 ∨ j = 19 ∨ j = 20 := by omega
          rcases this with rfl | rfl | rfl <;> rfl)
      · omega
    rw [e, hn]
    generalize (if 17 < s.size then part s 18 s.size else 0 : Nat) = ms at *
    omega
  · have e : psV s = 0 := by unfold psV; rw [if_neg h]
    rw [e]; omega
theorem price_bd0 (s : ByteArray) : priceE s = 0 → 0 ≤ priceN s ∧ priceN s ≤ 1000000000 := by
  have key : ∀ wh r, digs r = true → prcE wh r = 0 → 0 ≤ prcN wh r ∧ prcN wh r ≤ 1000000000 := by
    intro wh r hr h
    by_cases h1 : puE wh 100000 = 0
    · by_cases h2 : puN wh 100000 * 10000 + restN r 4 ≤ 1000000000
      · rw [(prc_ok h1 h2).1]
        have := pu_bd wh 100000 (by decide)
        have := restN_bd r hr 4 (by decide)
        omega
      · rw [(prc_gt h1 h2).2] at h; cases h
    · rw [(prc_err h1).2] at h; exact absurd h h1
  intro h
  by_cases hd : dotAt s < 0
  · rw [(price_no hd).1]; rw [(price_no hd).2] at h
    exact key _ _ rfl h
  · by_cases hb : restB (restL s) = true
    · rw [(price_dot hd hb).1]; rw [(price_dot hd hb).2] at h
      exact key _ _ (restB_digs hb) h
    · rw [(price_bad hd hb).2] at h; cases h
theorem price_bd (s : ByteArray) (h : prB s = true) : -9223372036854775808 ≤ priceN s ∧ priceN s ≤ 9223372036854775807 := by
  unfold prB at h
  simp only [Bool.and_eq_true, decide_eq_true_eq] at h
  have := price_bd0 s h.1
  omega

theorem onV_bd (s : ByteArray) : -9223372036854775808 ≤ onV s ∧ onV s ≤ 9223372036854775807 := by
  have := pu_bd s.data.toList 999999999 (by decide)
  unfold onV
  cases eqB s noneS
  · exact ⟨by show _ ≤ puN s.data.toList 999999999; omega, this.2⟩
  · show _ ≤ (0 : Int) ∧ (0 : Int) ≤ _; omega
theorem ruM_ok (r : Nat) (hr : r < 45) (s : ByteArray) (M : Msg) (hM : M.ok) (hb : rdBo r s = true) : (ruM r s M).ok := by
  rcases cases45 hr with rfl | rfl | rfl | rfl | rfl | rfl | rfl | rfl | rfl | rfl | rfl | rfl | rfl | rfl | rfl | rfl | rfl | rfl | rfl | rfl | rfl | rfl | rfl | rfl | rfl | rfl | rfl | rfl | rfl | rfl | rfl | rfl | rfl | rfl | rfl | rfl | rfl | rfl | rfl | rfl | rfl | rfl | rfl | rfl | rfl
  · have := idS_bd (xwd 0) s (by decide); exact setZ_ok hM ⟨by show _ ≤ 1 + idS_ (xwd 0) s; omega, by show 1 + idS_ (xwd 0) s ≤ _; omega⟩
  · exact hM
  · exact hM
  · have := pu_bd s.data.toList 999999999 (by decide); exact setZ_ok hM ⟨by show _ ≤ puN s.data.toList 999999999; omega, this.2⟩
  · exact hM
  · have := psV_bd s; exact setZ_ok hM ⟨by omega, this.2⟩
  · have := psV_bd s; exact setZ_ok hM ⟨by omega, this.2⟩
  · exact hM
  · have := pu_bd s.data.toList 3600 (by decide); exact setZ_ok hM ⟨by show _ ≤ puN s.data.toList 3600; omega, this.2⟩
  · exact hM
  · exact hM
  · have := pu_bd s.data.toList 999999999 (by decide); exact setZ_ok hM ⟨by show _ ≤ puN s.data.toList 999999999; omega, this.2⟩
  · have := pu_bd s.data.toList 999999999 (by decide); exact setZ_ok hM ⟨by show _ ≤ puN s.data.toList 999999999; omega, this.2⟩
  · have := pu_bd s.data.toList 999999999 (by decide); exact setZ_ok hM ⟨by show _ ≤ puN s.data.toList 999999999; omega, this.2⟩
  · exact hM
  · have := pu_bd s.data.toList 999999999 (by decide); exact setZ_ok hM ⟨by show _ ≤ puN s.data.toList 999999999; omega, this.2⟩
  · have := idS_bd (xwd 16) s (by decide); exact setZ_ok hM ⟨by show _ ≤ 1 + idS_ (xwd 16) s; omega, by show 1 + idS_ (xwd 16) s ≤ _; omega⟩
  · have := pu_bd s.data.toList 9999 (by decide); exact setZ_ok hM ⟨by show _ ≤ puN s.data.toList 9999; omega, this.2⟩
  · have := pu_bd s.data.toList 999 (by decide); exact setZ_ok hM ⟨by show _ ≤ puN s.data.toList 999; omega, this.2⟩
  · exact hM
  · exact hM
  · exact hM
  · exact hM
  · exact hM
  · have := idS_bd (xwd 24) s (by decide); exact setZ_ok hM ⟨by show _ ≤ 1 + idS_ (xwd 24) s; omega, by show 1 + idS_ (xwd 24) s ≤ _; omega⟩
  · have := idS_bd (xwd 25) s (by decide); exact setZ_ok hM ⟨by show _ ≤ 1 + idS_ (xwd 25) s; omega, by show 1 + idS_ (xwd 25) s ≤ _; omega⟩
  · have := idS_bd (xwd 26) s (by decide); exact setZ_ok hM ⟨by show _ ≤ 1 + idS_ (xwd 26) s; omega, by show 1 + idS_ (xwd 26) s ≤ _; omega⟩
  · show (cond (M.z 25 == 1) (M.setZ 25 7) M).ok
    cases M.z 25 == 1
    · exact hM
    · exact setZ_ok hM (by omega)
  · exact setZ_ok hM (price_bd s hb)
  · exact setZ_ok hM (price_bd s hb)
  · have := pu_bd s.data.toList 1000000 (by decide); exact setZ_ok hM ⟨by show _ ≤ puN s.data.toList 1000000; omega, this.2⟩
  · have := pu_bd s.data.toList 1000000 (by decide); exact setZ_ok hM ⟨by show _ ≤ puN s.data.toList 1000000; omega, this.2⟩
  · have := pu_bd s.data.toList 1000000 (by decide); exact setZ_ok hM ⟨by show _ ≤ puN s.data.toList 1000000; omega, this.2⟩
  · have := pu_bd s.data.toList 99991231 (by decide); exact setZ_ok hM ⟨by omega, this.2⟩
  · exact setZ_ok hM (onV_bd s)
  · have := pu_bd s.data.toList 999999999 (by decide); exact setZ_ok hM ⟨by show _ ≤ puN s.data.toList 999999999; omega, this.2⟩
  · have := idS_bd (xwd 36) s (by decide); exact setZ_ok hM ⟨by show _ ≤ 1 + idS_ (xwd 36) s; omega, by show 1 + idS_ (xwd 36) s ≤ _; omega⟩
  · have := idS_bd (xwd 37) s (by decide); exact setZ_ok hM ⟨by show _ ≤ 1 + idS_ (xwd 37) s; omega, by show 1 + idS_ (xwd 37) s ≤ _; omega⟩
  · exact setZ_ok hM (price_bd s hb)
  · have := pu_bd s.data.toList 1000000 (by decide); exact setZ_ok hM ⟨by show _ ≤ puN s.data.toList 1000000; omega, this.2⟩
  · have := pu_bd s.data.toList 1000000 (by decide); exact setZ_ok hM ⟨by show _ ≤ puN s.data.toList 1000000; omega, this.2⟩
  · have := pu_bd s.data.toList 1000000 (by decide); exact setZ_ok hM ⟨by show _ ≤ puN s.data.toList 1000000; omega, this.2⟩
  · have := idS_bd (xwd 42) s (by decide); exact setZ_ok hM ⟨by show _ ≤ 0 + idS_ (xwd 42) s; omega, by show 0 + idS_ (xwd 42) s ≤ _; omega⟩
  · have := pu_bd s.data.toList 999999999 (by decide); exact setZ_ok hM ⟨by show _ ≤ puN s.data.toList 999999999; omega, this.2⟩
  · exact hM
theorem gaS_ok {fs : List Fld} {M : Msg} {t : Slt} (hM : M.ok) (hr : t.2.2 < 45) : (gaS fs M t).ok := by
  unfold gaS
  split
  · rename_i f hf
    cases hb : rdBo t.2.2 (bs f.2)
    · exact hM
    · exact ruM_ok _ hr _ _ hM hb
  · exact hM
theorem gaF_ok {fs : List Fld} : ∀ (l : List Slt) (M : Msg), M.ok → (∀ t ∈ l, t.2.2 < 45) → (l.foldl (gaS fs) M).ok
  | [], M, hM, _ => hM
  | t :: l, M, hM, h => gaF_ok l _ (gaS_ok hM (h t (by simp))) (fun u hu => h u (by simp [hu]))
theorem gaM_ok {fs : List Fld} {l : List Slt} (h : ∀ t ∈ l, t.2.2 < 45) : (gaM fs l).ok := gaF_ok l zeroM zeroM_ok h
theorem split_small {s : List UInt8} {fs : List Fld} (h : splitL s = .ok fs) : fs.length ≤ 1024 ∧ (bodyB fs).length ≤ 1024 ∧ ∀ f ∈ fs, isTg f.1 = true ∧ okV f.2 = true ∧ f.2.length ≤ 1024 := by
  obtain ⟨h1, m, h2, h3, h4, h5⟩ := split_parts h
  have hl : (s.take m).length ≤ 1024 := by simp; omega
  rw [h4] at hl
  have hA : (aheadL (bodyB fs)).length = 12 + (Lib.itoa ((bodyB fs).length : Int)).length + 1 + (bodyB fs).length := head_length _
  have hf := length_flds fs
  refine ⟨by omega, by omega, fun f hf => ⟨(h5 f hf).1, (h5 f hf).2, ?_⟩⟩
  have := val_le_body fs f hf
  omega
end Go.Proofs.YtchkpggdndnpjabGreatDoor
