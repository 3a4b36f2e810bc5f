import Derived.Test.YtchkpggdndnpjabGreatDoorG25
import Derived.Test.YtchkpggdndnpjabGreatDoorG26

namespace Go.Proofs.YtchkpggdndnpjabGreatDoor
set_option linter.unusedVariables false
open Go.RowKit Go.Great

/-- What is wrong with the field at a place. -/
def ceA (fs : List Fld) (l : List Slt) (a : Nat) : Option (Int × Nat × Int) := match fs[a]? with
  | none => none
  | some f => match sx f.1 l with
    | none => some (cond (knB f.1) 53 52, a, f.1)
    | some i => if plN fs f.1 < a then some (51, a, f.1) else match l[i]? with
      | none => none
      | some s => cond (rdBo s.2.2 (bs f.2)) none (some (31, a, f.1))
def ceE (fs : List Fld) (l : List Slt) : Option (Int × Nat × Int) := (List.range fs.length).findSome? fun a => if a = 0 then none else ceA fs l a
theorem findSome_range {α : Type} (F : Nat → Option α) : ∀ n, (∀ a, a < n → F a = none) → (List.range n).findSome? F = none := fun n h => by
  rw [List.findSome?_eq_none_iff]
  intro a ha
  exact h a (List.mem_range.1 ha)
theorem findSome_at {α : Type} (F : Nat → Option α) : ∀ n k x, k < n → (∀ a, a < k → F a = none) → F k = some x → (List.range n).findSome? F = some x := fun n k x hk h hx => by
  obtain ⟨m, rfl⟩ : ∃ m, n = k + 1 + m := ⟨n - (k + 1), by omega⟩
  rw [show List.range (k + 1 + m) = List.range (k + 1) ++ (List.range m).map (k + 1 + ·) from List.range_add, List.findSome?_append, List.range_succ, List.findSome?_append, findSome_range F k h]
  simp [hx]
theorem ceE_none {fs : List Fld} {l : List Slt} (h : ∀ a, 1 ≤ a → a < fs.length → ceA fs l a = none) : ceE fs l = none := findSome_range _ _ fun a ha => by
  split
  · rfl
  · exact h a (by omega) ha
theorem ceE_some {fs : List Fld} {l : List Slt} {k : Nat} {x : Int × Nat × Int} (hk : k < fs.length) (h1 : 1 ≤ k) (h : ∀ a, 1 ≤ a → a < k → ceA fs l a = none) (hx : ceA fs l k = some x) : ceE fs l = some x := by
  refine findSome_at _ _ k x hk (fun a ha => ?_) (by rw [if_neg (by omega)]; exact hx)
  split
  · rfl
  · exact h a (by omega) ha
set_option maxRecDepth 100000 in
set_option maxHeartbeats 1000000 in
theorem checkEach_any (v sv : Value) (fs : List Fld) (l : List Slt) (w : World) (hs : SrcF w v fs) (hsl : SltAt w sv l) (hM : Mon w) (hn : fs.length ≤ 1048576) (hl : l.length ≤ 45) (hrow : ∀ t ∈ l, t.2.2 < 45) (hval : ∀ f ∈ fs, f.2.length ≤ maxLen) :
    Calls Tryz.prog 64 #[v, sv] w fun x w' => ∃ ev, x = .returned ev ∧ ErrAt w' w.heap.size ev (ceE fs l) ∧ Below w.heap.size w w' := by
  have HS : Hid (SrcF w v fs ∧ SltAt w sv l ∧ Mon w ∧ 2 < w.heap.size ∧ fs.length ≤ 1048576 ∧ (∀ t ∈ l, t.2.2 < 45) ∧ (∀ f ∈ fs, f.2.length ≤ maxLen) ∧ l.length ≤ 45) := ⟨hs, hsl, hM, hM.lt, hn, hrow, hval, hl⟩
  obtain ⟨ao, cap, rfl, hc, _⟩ := hs
  obtain ⟨sao, scap, rfl, hsc, _⟩ := hsl
  have hmf : ∀ (fn : Fn) (first cap : Array Value) (w : World), (Instr.makeFunc fn first cap).run Tryz.prog w = .ok (.func fn first cap) w := fun _ _ _ _ => rfl
  obtain ⟨R, hR⟩ : ∃ R, ceE fs l = R := ⟨_, rfl⟩
  have HR : Hid (ceE fs l = R) := hR
  rw [hR]
  clear hM hrow hval hR
  go_enter Tryz.func64, Tryz.ntmps64
  go_upto_region 2 with fail
  generalize hW : World.alloc w _ = w1
  have hW1 : w.alloc (.cells zeroM.cs 23) = w1 := hW
  have HG0 : Hid (∃ M, GI w w1 w.heap.size M) := by
    rw [← hW1]
    exact ⟨zeroM, heap_alloc_new w _, (Below.refl _ w).alloc (Nat.le_refl _) _⟩
  clear hW hW1
  obtain ⟨n, hn1⟩ : ∃ n, n = l.length := ⟨_, rfl⟩
  obtain ⟨m, hm1⟩ : ∃ m, m = fs.length := ⟨_, rfl⟩
  rw [← hn1] at hl hsc
  rw [← hm1] at hc hn
  have Hnm : Hid (n = l.length ∧ m = fs.length) := ⟨hn1, hm1⟩
  rw [← hn1, ← hm1]
  rw [← hn1, ← hm1] at HS
  clear hn1 hm1
  go_wp2
  go_loopw [6] (fun i wr => ∃ k : Nat, 1 ≤ k ∧ k ≤ m + 1 ∧ i = .int .i64 k ∧ Hid ((∃ M, GI w wr w.heap.size M) ∧ ∀ a, 1 ≤ a → a < k → ceA fs l a = none)) (fun i _ => m + 1 - (intOf i).toNat)
  case atStart => exact ⟨1, by omega, by omega, rfl, HG0.out, fun a h1 h2 => by omega⟩
  case round =>
    obtain ⟨k, hk1, hk, rfl, HG⟩ := hrel
    clear HG0
    by_cases hlt : k < m
    · have hlt' : (k : Int) < (m : Int) := by omega
      have hk0 : (0 : Int) ≤ (k : Int) := by omega
      obtain ⟨f, hf⟩ : ∃ f, fs[k]? = some f := ⟨_, List.getElem?_eq_getElem (by have := Hnm.out.2; omega)⟩
      have hfm : f.2.length ≤ maxLen := HS.out.2.2.2.2.2.2.1 f (List.mem_of_getElem? hf)
      obtain ⟨M, hGI⟩ := HG.out.1
      obtain ⟨ax, cx, hxe, -, hcase⟩ := HS.out.1
      rcases hcase with hnil | ⟨b2, off2, rfl, hcel⟩
      · rw [hnil] at hf; simp at hf
      obtain ⟨rfl, rfl⟩ : ao = some ⟨b2, off2, none⟩ ∧ cap = cx := by injection hxe with q1 q2 q3; exact ⟨q1, q3⟩
      obtain ⟨d0, d1⟩ := hcel k f hf
      clear hcel hxe
      have c0 : wr.cell? ⟨b2, off2 + k * 2, none⟩ = some (.int .i64 f.1) := by rw [hGI.below.cell (p := ⟨b2, off2 + k * 2, none⟩) (World.block_lt_of_cell? _ _ d0)]; exact d0
      have HCA : Hid (ceA fs l k = match sx f.1 l with | none => some (cond (knB f.1) 53 52, k, f.1) | some i => if plN fs f.1 < k then some (51, k, f.1) else match l[i]? with | none => none | some s => cond (rdBo s.2.2 (bs f.2)) none (some (31, k, f.1))) := by show _ = _; unfold ceA; rw [hf]
      have HYE : Hid (∀ x, ceA fs l k = some x → R = some x) := fun x hx => by rw [← HR.out]; exact ceE_some (by have := Hnm.out.2; omega) hk1 HG.out.2 hx
      have HNO : Hid (ceA fs l k = none → ∀ a, 1 ≤ a → a < k + 1 → ceA fs l a = none) := fun hx a h1 h2 => by
        by_cases e : a = k
        · rw [e]; exact hx
        · exact HG.out.2 a h1 (by omega)
      have HFA : Hid (∀ (e : Int) w', Calls Tryz.prog 212 #[.int .i64 e, .int .i64 k, .int .i64 f.1] w' fun x w2 => ∃ v, x = .returned v ∧ ErrAt w2 w'.heap.size v (some (e, k, f.1)) ∧ Below w'.heap.size w' w2) := fun e w' => ffault_any e k f.1 w'
      have HGI : Hid (GI w wr w.heap.size M) := hGI
      have HWX : Hid (w.heap.size < wr.heap.size) := hGI.msg.lt
      have hd1 : w.cell? ⟨b2, off2 + k * 2 + 1, none⟩ = some (.string (bs f.2)) := d1
      have HSV : Hid (w.cell? ⟨b2, off2 + k * 2 + 1, none⟩ = some (.string (bs f.2)) ∧ f.2.length ≤ maxLen) := ⟨d1, hfm⟩
      clear hGI d0 d1 hd1 hfm HG HR hf
      generalize hft : f.1 = tg at *
      go_upto_region 6 with fail
      generalize hW4 : World.alloc wr _ = W4
      have hb4 : Below wr.heap.size wr W4 := by rw [← hW4]; exact (Below.refl _ wr).alloc (Nat.le_refl _) _
      have r0 : W4.cell? ⟨wr.heap.size, 0, none⟩ = some (.int .i64 tg) := by rw [← hW4]; exact World.cell?_alloc_new ..
      clear hW4
      have HG4 : Hid (GI w W4 w.heap.size M) := HGI.out.low hb4
      go_wp2_with (go_at_call 215; fail)
      have HIS := IndexSlot_any tg wr.heap.size (.slice sao n scap) l W4 r0 (by have := HS.out.2.2.2.2.2.2.2; have := Hnm.out.1; omega) (HS.out.2.1.below HG4.out.below)
      unfold sxI at HIS
      refine HIS.mono ?_
      clear HIS
      rintro e w5 ⟨rfl, hb5⟩
      have s0 : w5.cell? ⟨wr.heap.size, 0, none⟩ = some (.int .i64 tg) := by rw [hb5.cell (p := ⟨wr.heap.size, 0, none⟩) (World.block_lt_of_cell? _ _ r0)]; exact r0
      have HG5 : Hid (GI w w5 w.heap.size M) := HG4.out.low hb5
      clear r0 hb4 hb5 HGI HG4 c0
      cases hsx : sx tg l with
      | none =>
        rw [hsx] at HCA
        have HK : Hid (∀ w', Calls Tryz.prog 217 #[.int .i64 tg] w' fun e w2 => e = .returned (.bool (knB tg)) ∧ Below w'.heap.size w' w2) := fun w' => isKnown_any tg w'
        have HRR : Hid (R = some (cond (knB tg) 53 52, k, tg)) := HYE.out _ HCA.out
        clear HCA HYE HNO hsx
        dsimp only
        cases hkn : knB tg with
        | false =>
          rw [hkn] at HK HRR
          go_wp2_with (go_at_call 217; fail)
          refine (HK.out _).mono ?_
          rintro e w6 ⟨rfl, hb6⟩
          have s6 : w6.cell? ⟨wr.heap.size, 0, none⟩ = some (.int .i64 tg) := by rw [hb6.cell (p := ⟨wr.heap.size, 0, none⟩) (World.block_lt_of_cell? _ _ s0)]; exact s0
          have HG6 : Hid (GI w w6 w.heap.size M) := HG5.out.low hb6
          clear s0 hb6 HG5
          go_wp2_with (go_at_call 212; fail)
          refine (HFA.out _ _).mono ?_
          rintro e w7 ⟨ev, rfl, he, hb7⟩
          have HX : Hid (ErrAt w7 w.heap.size ev R ∧ Below w.heap.size w w7) := ⟨by rw [HRR.out]; exact he.below (Below.refl _ _) HG6.out.below.size, (HG6.out.low hb7).below⟩
          clear he hb7 HG6
          go_wp2
          go_ret
          exact ⟨_, rfl, HX.out⟩
        | true =>
          rw [hkn] at HK HRR
          go_wp2_with (go_at_call 217; fail)
          refine (HK.out _).mono ?_
          rintro e w6 ⟨rfl, hb6⟩
          have s6 : w6.cell? ⟨wr.heap.size, 0, none⟩ = some (.int .i64 tg) := by rw [hb6.cell (p := ⟨wr.heap.size, 0, none⟩) (World.block_lt_of_cell? _ _ s0)]; exact s0
          have HG6 : Hid (GI w w6 w.heap.size M) := HG5.out.low hb6
          clear s0 hb6 HG5
          go_wp2_with (go_at_call 212; fail)
          refine (HFA.out _ _).mono ?_
          rintro e w7 ⟨ev, rfl, he, hb7⟩
          have HX : Hid (ErrAt w7 w.heap.size ev R ∧ Below w.heap.size w w7) := ⟨by rw [HRR.out]; exact he.below (Below.refl _ _) HG6.out.below.size, (HG6.out.low hb7).below⟩
          clear he hb7 HG6
          go_wp2
          go_ret
          exact ⟨_, rfl, HX.out⟩
      | some i =>
        obtain ⟨t, hti, htt⟩ := sx_at tg l i hsx
        have hr45 := HS.out.2.2.2.2.2.1 t (List.mem_of_getElem? hti)
        have hin : i < n := by have := (List.getElem?_eq_some_iff.1 hti).1; have := Hnm.out.1; omega
        have hi0 : ¬ (i : Int) < 0 := by omega
        have hi1 : (0 : Int) ≤ (i : Int) := by omega
        have hi2 : (i : Int) < (n : Int) := by omega
        have HCB : Hid (ceA fs l k = if plN fs tg < k then some (51, k, tg) else cond (rdBo t.2.2 (bs f.2)) none (some (31, k, tg))) := by
          show _ = _
          rw [HCA.out, hsx]; dsimp only; rw [hti]
        have HP : Hid (∀ w', Below w.heap.size w w' → Calls Tryz.prog 214 #[.slice (some ⟨b2, off2, none⟩) m cap, .int .i64 tg] w' fun e w2 => e = .returned (.int .i64 (plN fs tg : Nat)) ∧ Below w'.heap.size w' w2) := fun w' hb => placeOf_any _ fs tg w' (HS.out.1.below hb) (by have := Hnm.out.2; omega)
        clear HCA hsx
        dsimp only
        generalize plN fs tg = p at *
        go_wp2_with (go_at_call 214; fail)
        refine (HP.out _ HG5.out.below).mono ?_
        rintro e w6 ⟨rfl, hb6⟩
        have s6 : w6.cell? ⟨wr.heap.size, 0, none⟩ = some (.int .i64 tg) := by rw [hb6.cell (p := ⟨wr.heap.size, 0, none⟩) (World.block_lt_of_cell? _ _ s0)]; exact s0
        have HG6 : Hid (GI w w6 w.heap.size M) := HG5.out.low hb6
        clear s0 hb6 HG5 HP
        by_cases hpk : p < k
        · have hpk' : (p : Int) < (k : Int) := by omega
          have HRR : Hid (R = some (51, k, tg)) := HYE.out _ (by rw [HCB.out, if_pos hpk])
          clear HCB HYE HNO
          go_wp2_with (go_at_call 212; fail)
          refine (HFA.out _ _).mono ?_
          rintro e w7 ⟨ev, rfl, he, hb7⟩
          have HX : Hid (ErrAt w7 w.heap.size ev R ∧ Below w.heap.size w w7) := ⟨by rw [HRR.out]; exact he.below (Below.refl _ _) HG6.out.below.size, (HG6.out.low hb7).below⟩
          clear he hb7 HG6
          go_wp2
          go_ret
          exact ⟨_, rfl, HX.out⟩
        · have hpk' : ¬ (p : Int) < (k : Int) := by omega
          have HCC : Hid (ceA fs l k = cond (rdBo t.2.2 (bs f.2)) none (some (31, k, tg))) := by show _ = _; rw [HCB.out, if_neg hpk]
          clear HCB
          obtain ⟨ax, cx, hxe, -, hcase⟩ := HS.out.2.1
          rcases hcase with hnil | ⟨b, off, rfl, hcel⟩
          · rw [hnil] at hti; simp at hti
          obtain ⟨rfl, rfl⟩ : sao = some ⟨b, off, none⟩ ∧ scap = cx := by injection hxe with q1 q2 q3; exact ⟨q1, q3⟩
          obtain ⟨-, -, c3⟩ := hcel i t hti
          clear hcel hxe
          have HKP : Hid (∀ w', Below w6.heap.size w6 w' → w'.cell? ⟨b, off + i * 3 + 2, none⟩ = some (.func (.func (xFn.getD t.2.2 0)) #[] #[]) ∧ w'.cell? ⟨b2, off2 + k * 2 + 1, none⟩ = some (.string (bs f.2)) ∧ GI w w' w.heap.size M ∧ w'.cell? ⟨wr.heap.size, 0, none⟩ = some (.int .i64 tg)) := fun w' hb => ⟨by rw [(HG6.out.low hb).below.cell (p := ⟨b, off + i * 3 + 2, none⟩) (World.block_lt_of_cell? _ _ c3)]; exact c3, by rw [(HG6.out.low hb).below.cell (p := ⟨b2, off2 + k * 2 + 1, none⟩) (World.block_lt_of_cell? _ _ HSV.out.1)]; exact HSV.out.1, HG6.out.low hb, by rw [hb.cell (p := ⟨wr.heap.size, 0, none⟩) (World.block_lt_of_cell? _ _ s6)]; exact s6⟩
          have HRD : Hid (∀ w' b, Below w6.heap.size w6 w' → WdAt w' t.2.2 b → Calls Tryz.prog (rdFn t.2.2) #[xVal t.2.2 w.heap.size b, .string (bs f.2)] w' fun e w2 => e = .returned (.bool (rdBo t.2.2 (bs f.2))) ∧ RdP t.2.2 (bs f.2) w.heap.size M w' w2) := fun w' b hb hwd => read_at t.2.2 hr45 w.heap.size b _ (bs f.2) w' (HKP.out w' hb).2.2.1.msg (HS.out.2.2.1.below (HKP.out w' hb).2.2.1.below HS.out.2.2.2.1) (by rw [bs_size]; exact HSV.out.2) hwd
          have hcf := xcf_at t.2.2 hr45
          have HF : Hid (∀ w', Calls Tryz.prog (xFn.getD t.2.2 0) #[.pointer (some ⟨w.heap.size, 0, none⟩)] w' fun e w2 => ∃ b, e = .returned (.iface (xty t.2.2) (xVal t.2.2 w.heap.size b)) ∧ Below w'.heap.size w' w2 ∧ WdAt w2 t.2.2 b) := fun w' => form_at t.2.2 hr45 w.heap.size w'
          have hna : ∀ b w', Sem.run Tryz.prog (nilAhead 412 (xty t.2.2) (xVal t.2.2 w.heap.size b) "outcry/fix.read") w' = .ok (some false) w' := fun b w' => na_read t.2.2 hr45 w.heap.size b w'
          have HCM := fun b x => cm_read t.2.2 hr45 w.heap.size b x
          have HNX : Hid (∀ w' w2, Below w6.heap.size w6 w' → RdP t.2.2 (bs f.2) w.heap.size M w' w2 → (∃ M, GI w w2 w.heap.size M) ∧ w2.cell? ⟨wr.heap.size, 0, none⟩ = some (.int .i64 tg)) := fun w' w2 hb h => by
            obtain ⟨h1, h2, h3⟩ := h
            refine ⟨⟨_, h1, (HKP.out w' hb).2.2.1.below.trans (h2 _ (Nat.le_refl _))⟩, ?_⟩
            have c := (HKP.out w' hb).2.2.2
            have e := h3.2 wr.heap.size (World.block_lt_of_cell? _ _ c) (Nat.ne_of_gt HWX.out)
            unfold World.cell? at c ⊢
            dsimp only at c ⊢
            rw [e]; exact c
          have hB0 : Below w6.heap.size w6 w6.drew := below_drewN (Below.refl _ _) 1
          obtain ⟨p2, p3, -, -⟩ := HKP.out _ hB0
          obtain ⟨ttg, tmu, r⟩ := t
          dsimp only at *
          clear c3 hti htt
          generalize xFn.getD r 0 = F at *
          generalize hsv : bs f.2 = sv at *
          generalize hrb : rdBo r sv = rb at *
          go_upto_region 13 with fail
          go_cut [49] (fun v wx => v = .bool (!rb) ∧ (∃ M, GI w wx w.heap.size M) ∧ wx.cell? ⟨wr.heap.size, 0, none⟩ = some (.int .i64 tg))
          case first =>
            go_region_law (first
              | (rw [if_pos (by kernel_rfl)]; refine callR (d := some 55) rfl F #[.pointer (some ⟨w.heap.size, 0, none⟩)] (exec_fv (.tmp 54) (.tmp 5) rfl rfl rfl hcf) (HF.out _) ?_; rintro e w7 ⟨bw, rfl, hb7, hwd7⟩; have hB7 : Below w6.heap.size w6 w7 := hB0.trans (hb7.mono hB0.size); clear hb7; obtain ⟨q2, q3, -, -⟩ := HKP.out _ hB7; refine ⟨_, rfl, ?_⟩)
              | (rw [if_pos (by kernel_rfl)]; refine callR (d := some 64) rfl (rdFn r) #[xVal r w.heap.size bw, .string sv] (exec_inv1 (.tmp 63) (.tmp 60) rfl rfl rfl (fun w => HCM bw _ w)) (HRD.out _ _ hB7 hwd7) ?_; rintro e w8 ⟨rfl, hrp⟩; have x0 := HNX.out _ _ hB7 hrp; refine ⟨_, rfl, ?_⟩))
            all_goals
              have HX := x0
              clear hrp
              go_wp2_with fail
              go_meet
              exact ⟨rfl, x0⟩
          case rest =>
            obtain ⟨rfl, ⟨M2, hG9⟩, s9⟩ := hcut
            have HG9 : Hid (GI w wc w.heap.size M2) := hG9
            clear hG9 HKP HRD HF HNX hB0 p2 p3 HG6 s6
            cases rb with
            | true =>
              have HX : Hid ((∃ M, GI w wc w.heap.size M) ∧ ∀ a, 1 ≤ a → a < k + 1 → ceA fs l a = none) := ⟨⟨_, HG9.out⟩, HNO.out HCC.out⟩
              clear HCC HNO HYE
              go_wp2
              exact ⟨⟨k + 1, by omega, by omega, by go_num, HX⟩, by simp [intOf]; omega⟩
            | false =>
              have HRR : Hid (R = some (31, k, tg)) := HYE.out _ HCC.out
              clear HCC HNO HYE
              go_wp2_with (go_at_call 212; fail)
              refine (HFA.out _ _).mono ?_
              rintro e w7 ⟨ev, rfl, he, hb7⟩
              have HX : Hid (ErrAt w7 w.heap.size ev R ∧ Below w.heap.size w w7) := ⟨by rw [HRR.out]; exact he.below (Below.refl _ _) HG9.out.below.size, (HG9.out.low hb7).below⟩
              clear he hb7 HG9
              go_wp2
              go_ret
              exact ⟨_, rfl, HX.out⟩
    · have hlt' : ¬ (k : Int) < (m : Int) := by omega
      have HX : Hid (R = none ∧ Below w.heap.size w wr) := by
        obtain ⟨⟨M, hG⟩, h⟩ := HG.out
        refine ⟨?_, hG.below⟩
        rw [← HR.out]
        exact ceE_none fun a h1 h2 => h a h1 (by have := Hnm.out.2; omega)
      clear HG
      go_wp2
      go_ret
      exact ⟨_, rfl, by rw [HX.out.1]; rfl, HX.out.2⟩
end Go.Proofs.YtchkpggdndnpjabGreatDoor
