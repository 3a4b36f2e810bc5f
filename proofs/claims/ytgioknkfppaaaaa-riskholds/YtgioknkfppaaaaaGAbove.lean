/-
  risk: is an order above a limit?
-/
import Derived.Test.YtgioknkfppaaaaaGReach
import Derived.Deep.RegionHeld3
namespace Go.Proofs.Ytgioknkfppaaaaa
set_option linter.unusedVariables false
set_option linter.unusedSimpArgs false
open Go.RowKit Go.Great Go.Maps

theorem below_step {a b c : World} (h : Below a.heap.size a b) (k : Below b.heap.size b c) : Below a.heap.size a c :=
  ⟨k.os.trans h.os, k.tape.trans h.tape, k.output.trans h.output, Nat.le_trans h.size k.size, fun q hq => (k.block q (Nat.lt_of_lt_of_le hq h.size)).trans (h.block q hq)⟩
set_option maxRecDepth 100000 in
set_option maxHeartbeats 1000000 in
theorem isAbove_any (G : Gd) (a : Ac) (o : Ord) (v : Int) (w : World) (h : GdAt w G) (ha : AcAt w a) (hsy : o.sy.size ≤ maxLen) (v0 : 0 ≤ v) (v1 : v ≤ 1000000000000000) (q0 : 1 ≤ o.q) (q1 : o.q ≤ 1000000) :
    Calls Try.prog 24 #[.pointer (some ⟨G.g, 0, none⟩), .pointer (some ⟨a.blk, 0, none⟩), .agg o.cs, .int .i64 v] w fun e w' => e = .returned (.bool (abB a G.O o v)) ∧ Below w.heap.size w w' := by
  have HAB : Hid (abB a G.O o v = ((!(a.od == 0) && decide (a.od < v)) || (!(a.op == 0) && decide (a.op < clI (ovI G.O o.ac o.id + v))) || (!(a.po == 0) && decide (a.po < clI (rcI a G.O o + o.q))))) := rfl
  have hovb := ov_bd h.ook o.ac o.id
  have hrcb : -1000000000000000000 ≤ rcI a G.O o ∧ rcI a G.O o ≤ 1000000000000000000 := clI_bd _
  have HOV : Hid (∀ w', Below w.heap.size w w' → Calls Try.prog 27 #[.pointer (some ⟨G.g, 0, none⟩), .string o.ac, .int .i64 o.id] w' fun e w'' => e = .returned (.int .i64 (ovI G.O o.ac o.id)) ∧ Below w'.heap.size w' w'') := fun w' hb => openValue_any G o.ac o.id w' (h.below hb)
  have HRC : Hid (∀ w', Below w.heap.size w w' → Calls Try.prog 42 #[.pointer (some ⟨G.g, 0, none⟩), .pointer (some ⟨a.blk, 0, none⟩), .agg o.cs] w' fun e w'' => e = .returned (.int .i64 (rcI a G.O o)) ∧ Below w'.heap.size w' w'') := fun w' hb => reach_any G a o w' (h.below hb) (ha.fr (Fr.of_below hb (fun _ => False)) id id) hsy
  have hs1 := fun w => sum_any (ovI G.O o.ac o.id) v w (by omega) (by omega) (by omega) (by omega)
  have hs2 := fun w => sum_any (rcI a G.O o) o.q w (by omega) (by omega) (by omega) (by omega)
  have c0 := ha.blk.cell 0
  have c1 := ha.blk.cell 1
  have c2 := ha.blk.cell 2
  have c3 := ha.blk.cell 3
  have c4 := ha.blk.cell 4
  have c5 := ha.blk.cell 5
  have hlt := ha.blk.lt
  simp only [Ac.cs, List.getElem?_toArray, List.getElem?_cons_succ, List.getElem?_cons_zero] at c0 c1 c2 c3 c4 c5
  generalize ovI G.O o.ac o.id = ov at *
  generalize rcI a G.O o = rc at *
  generalize clI (ov + v) = s1 at *
  generalize clI (rc + o.q) = s2 at *
  generalize abB a G.O o v = R at *
  clear h ha hsy hovb hrcb v0 v1 q0 q1
  generalize a.blk = ab at *
  generalize a.nm = nm at *
  generalize a.od = od at *
  generalize a.op = op at *
  generalize a.po = po at *
  generalize a.bu = bu at *
  generalize a.pe = pe at *
  generalize G.g = g at *
  generalize hocs : o.cs = ocs at *
  obtain rfl : ocs = #[.int .i64 o.id, .string o.nm, .string o.ac, .string o.sy, .int .i64 o.sd, .int .i64 o.ty, .int .i64 o.lf, .int .i64 o.pr, .int .i64 o.sp, .int .i64 o.q, .int .i64 o.sh, .int .i64 o.dn, .int .i64 o.le, .int .i64 o.un, .int .i64 o.ow] := hocs.symm
  clear hocs
  have HW2 : Hid (∀ c d : Array Value, Below w.heap.size w ((w.alloc (.cells c 35)).alloc (.cells d 30)) ∧ Blk ((w.alloc (.cells c 35)).alloc (.cells d 30)) w.heap.size 35 c ∧ Blk ((w.alloc (.cells c 35)).alloc (.cells d 30)) (w.heap.size + 1) 30 d) := fun c d => ⟨((Below.refl _ w).alloc (Nat.le_refl _) _).alloc (by simp) _, (Blk.new w 35 c).alloc _, Blk.new' _ _ _ (by simp)⟩
  go_enter Try.func24, Try.ntmps24
  go_upto_region 2 with fail
  have HW3 := HW2.out #[.int .i64 o.id, .string o.nm, .string o.ac, .string o.sy, .int .i64 o.sd, .int .i64 o.ty, .int .i64 o.lf, .int .i64 o.pr, .int .i64 o.sp, .int .i64 o.q, .int .i64 o.sh, .int .i64 o.dn, .int .i64 o.le, .int .i64 o.un, .int .i64 o.ow] #[.string nm, .int .i64 od, .int .i64 op, .int .i64 po, .int .i64 bu, .int .i64 pe]
  clear HW2
  generalize hW : ((w.alloc (.cells #[.int .i64 o.id, .string o.nm, .string o.ac, .string o.sy, .int .i64 o.sd, .int .i64 o.ty, .int .i64 o.lf, .int .i64 o.pr, .int .i64 o.sp, .int .i64 o.q, .int .i64 o.sh, .int .i64 o.dn, .int .i64 o.le, .int .i64 o.un, .int .i64 o.ow] 35)).alloc (.cells #[.string nm, .int .i64 od, .int .i64 op, .int .i64 po, .int .i64 bu, .int .i64 pe] 30)) = W at *
  clear hW c0 c1 c2 c3 c4 c5 hlt
  have HB : Hid (Below w.heap.size w W) := HW3.1
  have HK4 : Hid (∀ w', Below W.heap.size W w' → w'.cell? ⟨w.heap.size, 0, none⟩ = some (.int .i64 o.id) ∧ w'.cell? ⟨w.heap.size, 2, none⟩ = some (.string o.ac) ∧ w'.cell? ⟨w.heap.size + 1, 2, none⟩ = some (.int .i64 op)) := fun w' hb => by
    have b1 := HW3.2.1.below hb HW3.2.1.lt
    have b2 := HW3.2.2.below hb HW3.2.2.lt
    exact ⟨b1.cell 0, b1.cell 2, b2.cell 2⟩
  have HK6 : Hid (∀ w', Below W.heap.size W w' → w'.cell? ⟨w.heap.size, 0, none⟩ = some (.int .i64 o.id) ∧ w'.cell? ⟨w.heap.size, 1, none⟩ = some (.string o.nm) ∧ w'.cell? ⟨w.heap.size, 2, none⟩ = some (.string o.ac) ∧ w'.cell? ⟨w.heap.size, 3, none⟩ = some (.string o.sy) ∧ w'.cell? ⟨w.heap.size, 4, none⟩ = some (.int .i64 o.sd) ∧ w'.cell? ⟨w.heap.size, 5, none⟩ = some (.int .i64 o.ty) ∧ w'.cell? ⟨w.heap.size, 6, none⟩ = some (.int .i64 o.lf) ∧ w'.cell? ⟨w.heap.size, 7, none⟩ = some (.int .i64 o.pr) ∧ w'.cell? ⟨w.heap.size, 8, none⟩ = some (.int .i64 o.sp) ∧ w'.cell? ⟨w.heap.size, 9, none⟩ = some (.int .i64 o.q) ∧ w'.cell? ⟨w.heap.size, 10, none⟩ = some (.int .i64 o.sh) ∧ w'.cell? ⟨w.heap.size, 11, none⟩ = some (.int .i64 o.dn) ∧ w'.cell? ⟨w.heap.size, 12, none⟩ = some (.int .i64 o.le) ∧ w'.cell? ⟨w.heap.size, 13, none⟩ = some (.int .i64 o.un) ∧ w'.cell? ⟨w.heap.size, 14, none⟩ = some (.int .i64 o.ow) ∧ w'.cell? ⟨w.heap.size + 1, 3, none⟩ = some (.int .i64 po)) := fun w' hb => by
    have b1 := HW3.2.1.below hb HW3.2.1.lt
    have b2 := HW3.2.2.below hb HW3.2.2.lt
    exact ⟨b1.cell 0, b1.cell 1, b1.cell 2, b1.cell 3, b1.cell 4, b1.cell 5, b1.cell 6, b1.cell 7, b1.cell 8, b1.cell 9, b1.cell 10, b1.cell 11, b1.cell 12, b1.cell 13, b1.cell 14, b2.cell 3⟩
  have d1 := HW3.2.2.cell 1
  simp only [List.getElem?_toArray, List.getElem?_cons_succ, List.getElem?_cons_zero] at d1
  clear HW3
  have hB1 : Below W.heap.size W W.drew := ⟨rfl, rfl, rfl, Nat.le_refl _, fun _ _ => rfl⟩
  have HR : Hid (R = ((!(od == 0) && decide (od < v)) || (!(op == 0) && decide (op < s1)) || (!(po == 0) && decide (po < s2)))) := HAB.out
  clear HAB
  have HD : Hid (∀ u : World, Below W.heap.size W u → Below w.heap.size w u) := fun u hu => below_step HB.out hu
  have first : (!(od == 0) && decide (od < v)) = true ∨ (!(od == 0) && decide (od < v)) = false := by cases (!(od == 0) && decide (od < v)) <;> simp
  rcases first with h1 | h1
  · have hR : R = true := by rw [HR.out, h1]; rfl
    clear HR
    subst hR
    rw [Bool.and_eq_true] at h1
    obtain ⟨h2, h3⟩ := h1
    have h2' : (od != 0) = true := by simpa [bne] using h2
    clear h2
    go_wp2
    go_ret
    exact ⟨rfl, HB.out⟩
  · rw [h1] at HR
    have HR2 : Hid (R = ((!(op == 0) && decide (op < s1)) || (!(po == 0) && decide (po < s2)))) := by show _ = _; rw [HR.out, Bool.false_or]
    clear HR
    have HF : Hid ((od == 0) = true ∨ (od == 0) = false ∧ decide (od < v) = false) := by
      cases hz : (od == 0)
      · rw [hz] at h1; exact .inr ⟨rfl, by simpa using h1⟩
      · exact .inl rfl
    clear h1
    have HG : Hid ((od != 0) = false ∨ (od != 0) = true ∧ decide (od < v) = false) := by
      rcases HF.out with hz | ⟨hz, hd⟩
      · exact .inl (by simp [bne, hz])
      · exact .inr ⟨by simp [bne, hz], hd⟩
    clear HF
    rcases HG.out with hz | ⟨hz, hd⟩
    all_goals clear HG
    all_goals go_upto_region 4 with fail
    all_goals cases h4 : (op == 0)
    all_goals rw [h4] at HR2
    all_goals first
      | (have h4' : (op != 0) = true := by simp [bne, h4]
         go_region_held (fun w' => w'.cell? ⟨w.heap.size, 0, none⟩ = some (.int .i64 o.id) ∧ w'.cell? ⟨w.heap.size, 2, none⟩ = some (.string o.ac) ∧ w'.cell? ⟨w.heap.size + 1, 2, none⟩ = some (.int .i64 op)) (first | exact HK4.out _ hB3 | exact HK4.out _ hB1) (first | (go_at_call 27; refine (HOV.out _ (HD.out _ hB1)).mono ?_; rintro e w3 ⟨rfl, hb3⟩; have hB3 : Below W.heap.size W w3 := below_step hB1 hb3) | (go_at_call 41; refine (hs1 _).mono ?_; rintro e w4 ⟨rfl, ew⟩; replace ew := ew.symm; subst ew)))
      | (have h4' : (op != 0) = false := by simp [bne, h4]
         obtain ⟨_, _, d2⟩ := HK4.out W (Below.refl _ _)
         go_quiet (fail))
    · have hBX : Below W.heap.size W w3 := hB3
      clear hB3 hb3 hz
      generalize w3 = X at *
      cases h5 : decide (op < s1)
      · rw [h5] at HR2
        cases h6 : (po == 0)
        · have h6' : (po != 0) = true := by simp [bne, h6]
          rw [h6] at HR2
          go_upto_region 6 with fail
          have hBx : Below W.heap.size W X.drew := ⟨hBX.os, hBX.tape, hBX.output, hBX.size, hBX.block⟩
          go_region_held (fun w' => w'.cell? ⟨w.heap.size, 0, none⟩ = some (.int .i64 o.id) ∧ w'.cell? ⟨w.heap.size, 1, none⟩ = some (.string o.nm) ∧ w'.cell? ⟨w.heap.size, 2, none⟩ = some (.string o.ac) ∧ w'.cell? ⟨w.heap.size, 3, none⟩ = some (.string o.sy) ∧ w'.cell? ⟨w.heap.size, 4, none⟩ = some (.int .i64 o.sd) ∧ w'.cell? ⟨w.heap.size, 5, none⟩ = some (.int .i64 o.ty) ∧ w'.cell? ⟨w.heap.size, 6, none⟩ = some (.int .i64 o.lf) ∧ w'.cell? ⟨w.heap.size, 7, none⟩ = some (.int .i64 o.pr) ∧ w'.cell? ⟨w.heap.size, 8, none⟩ = some (.int .i64 o.sp) ∧ w'.cell? ⟨w.heap.size, 9, none⟩ = some (.int .i64 o.q) ∧ w'.cell? ⟨w.heap.size, 10, none⟩ = some (.int .i64 o.sh) ∧ w'.cell? ⟨w.heap.size, 11, none⟩ = some (.int .i64 o.dn) ∧ w'.cell? ⟨w.heap.size, 12, none⟩ = some (.int .i64 o.le) ∧ w'.cell? ⟨w.heap.size, 13, none⟩ = some (.int .i64 o.un) ∧ w'.cell? ⟨w.heap.size, 14, none⟩ = some (.int .i64 o.ow) ∧ w'.cell? ⟨w.heap.size + 1, 3, none⟩ = some (.int .i64 po)) (first | exact HK6.out _ hB5 | exact HK6.out _ hBx) (first | (go_at_call 42; refine (HRC.out _ (HD.out _ hBx)).mono ?_; rintro e w5 ⟨rfl, hb5⟩; have hB5 : Below W.heap.size W w5 := below_step hBx hb5) | (go_at_call 41; refine (hs2 _).mono ?_; rintro e w6 ⟨rfl, ew6⟩; replace ew6 := ew6.symm; subst ew6))
          go_wp2
          go_ret
          exact ⟨ret_bool (by rw [HR2.out]; rfl), HD.out _ hB5⟩
        · have h6' : (po != 0) = false := by simp [bne, h6]
          rw [h6] at HR2
          obtain ⟨_, _, _, _, _, _, _, _, _, _, _, _, _, _, _, dp⟩ := HK6.out X hBX
          go_upto_region 6 with fail
          go_quiet (fail)
          go_wp2
          go_ret
          exact ⟨ret_bool (by rw [HR2.out]; rfl), HD.out _ (below_drewN hBX _)⟩
      · have hR : R = true := by rw [HR2.out, h5]; rfl
        clear HR2
        subst hR
        go_wp2
        go_ret
        exact ⟨rfl, HD.out _ hBX⟩
    · have hBX : Below W.heap.size W (W.drewN nq) := below_drewN (Below.refl _ _) nq
      clear hz
      generalize W.drewN nq = X at *
      cases h6 : (po == 0)
      · have h6' : (po != 0) = true := by simp [bne, h6]
        rw [h6] at HR2
        go_upto_region 6 with fail
        have hBx : Below W.heap.size W X.drew := ⟨hBX.os, hBX.tape, hBX.output, hBX.size, hBX.block⟩
        go_region_held (fun w' => w'.cell? ⟨w.heap.size, 0, none⟩ = some (.int .i64 o.id) ∧ w'.cell? ⟨w.heap.size, 1, none⟩ = some (.string o.nm) ∧ w'.cell? ⟨w.heap.size, 2, none⟩ = some (.string o.ac) ∧ w'.cell? ⟨w.heap.size, 3, none⟩ = some (.string o.sy) ∧ w'.cell? ⟨w.heap.size, 4, none⟩ = some (.int .i64 o.sd) ∧ w'.cell? ⟨w.heap.size, 5, none⟩ = some (.int .i64 o.ty) ∧ w'.cell? ⟨w.heap.size, 6, none⟩ = some (.int .i64 o.lf) ∧ w'.cell? ⟨w.heap.size, 7, none⟩ = some (.int .i64 o.pr) ∧ w'.cell? ⟨w.heap.size, 8, none⟩ = some (.int .i64 o.sp) ∧ w'.cell? ⟨w.heap.size, 9, none⟩ = some (.int .i64 o.q) ∧ w'.cell? ⟨w.heap.size, 10, none⟩ = some (.int .i64 o.sh) ∧ w'.cell? ⟨w.heap.size, 11, none⟩ = some (.int .i64 o.dn) ∧ w'.cell? ⟨w.heap.size, 12, none⟩ = some (.int .i64 o.le) ∧ w'.cell? ⟨w.heap.size, 13, none⟩ = some (.int .i64 o.un) ∧ w'.cell? ⟨w.heap.size, 14, none⟩ = some (.int .i64 o.ow) ∧ w'.cell? ⟨w.heap.size + 1, 3, none⟩ = some (.int .i64 po)) (first | exact HK6.out _ hB5 | exact HK6.out _ hBx) (first | (go_at_call 42; refine (HRC.out _ (HD.out _ hBx)).mono ?_; rintro e w5 ⟨rfl, hb5⟩; have hB5 : Below W.heap.size W w5 := below_step hBx hb5) | (go_at_call 41; refine (hs2 _).mono ?_; rintro e w6 ⟨rfl, ew6⟩; replace ew6 := ew6.symm; subst ew6))
        go_wp2
        go_ret
        exact ⟨ret_bool (by rw [HR2.out]; rfl), HD.out _ hB5⟩
      · have h6' : (po != 0) = false := by simp [bne, h6]
        rw [h6] at HR2
        obtain ⟨_, _, _, _, _, _, _, _, _, _, _, _, _, _, _, dp⟩ := HK6.out X hBX
        go_upto_region 6 with fail
        go_quiet (fail)
        go_wp2
        go_ret
        exact ⟨ret_bool (by rw [HR2.out]; rfl), HD.out _ (below_drewN hBX _)⟩
    · have hBX : Below W.heap.size W w3 := hB3
      clear hB3 hb3 hz
      generalize w3 = X at *
      cases h5 : decide (op < s1)
      · rw [h5] at HR2
        cases h6 : (po == 0)
        · have h6' : (po != 0) = true := by simp [bne, h6]
          rw [h6] at HR2
          go_upto_region 6 with fail
          have hBx : Below W.heap.size W X.drew := ⟨hBX.os, hBX.tape, hBX.output, hBX.size, hBX.block⟩
          go_region_held (fun w' => w'.cell? ⟨w.heap.size, 0, none⟩ = some (.int .i64 o.id) ∧ w'.cell? ⟨w.heap.size, 1, none⟩ = some (.string o.nm) ∧ w'.cell? ⟨w.heap.size, 2, none⟩ = some (.string o.ac) ∧ w'.cell? ⟨w.heap.size, 3, none⟩ = some (.string o.sy) ∧ w'.cell? ⟨w.heap.size, 4, none⟩ = some (.int .i64 o.sd) ∧ w'.cell? ⟨w.heap.size, 5, none⟩ = some (.int .i64 o.ty) ∧ w'.cell? ⟨w.heap.size, 6, none⟩ = some (.int .i64 o.lf) ∧ w'.cell? ⟨w.heap.size, 7, none⟩ = some (.int .i64 o.pr) ∧ w'.cell? ⟨w.heap.size, 8, none⟩ = some (.int .i64 o.sp) ∧ w'.cell? ⟨w.heap.size, 9, none⟩ = some (.int .i64 o.q) ∧ w'.cell? ⟨w.heap.size, 10, none⟩ = some (.int .i64 o.sh) ∧ w'.cell? ⟨w.heap.size, 11, none⟩ = some (.int .i64 o.dn) ∧ w'.cell? ⟨w.heap.size, 12, none⟩ = some (.int .i64 o.le) ∧ w'.cell? ⟨w.heap.size, 13, none⟩ = some (.int .i64 o.un) ∧ w'.cell? ⟨w.heap.size, 14, none⟩ = some (.int .i64 o.ow) ∧ w'.cell? ⟨w.heap.size + 1, 3, none⟩ = some (.int .i64 po)) (first | exact HK6.out _ hB5 | exact HK6.out _ hBx) (first | (go_at_call 42; refine (HRC.out _ (HD.out _ hBx)).mono ?_; rintro e w5 ⟨rfl, hb5⟩; have hB5 : Below W.heap.size W w5 := below_step hBx hb5) | (go_at_call 41; refine (hs2 _).mono ?_; rintro e w6 ⟨rfl, ew6⟩; replace ew6 := ew6.symm; subst ew6))
          go_wp2
          go_ret
          exact ⟨ret_bool (by rw [HR2.out]; rfl), HD.out _ hB5⟩
        · have h6' : (po != 0) = false := by simp [bne, h6]
          rw [h6] at HR2
          obtain ⟨_, _, _, _, _, _, _, _, _, _, _, _, _, _, _, dp⟩ := HK6.out X hBX
          go_upto_region 6 with fail
          go_quiet (fail)
          go_wp2
          go_ret
          exact ⟨ret_bool (by rw [HR2.out]; rfl), HD.out _ (below_drewN hBX _)⟩
      · have hR : R = true := by rw [HR2.out, h5]; rfl
        clear HR2
        subst hR
        go_wp2
        go_ret
        exact ⟨rfl, HD.out _ hBX⟩
    · have hBX : Below W.heap.size W (W.drewN nq) := below_drewN (Below.refl _ _) nq
      clear hz
      generalize W.drewN nq = X at *
      cases h6 : (po == 0)
      · have h6' : (po != 0) = true := by simp [bne, h6]
        rw [h6] at HR2
        go_upto_region 6 with fail
        have hBx : Below W.heap.size W X.drew := ⟨hBX.os, hBX.tape, hBX.output, hBX.size, hBX.block⟩
        go_region_held (fun w' => w'.cell? ⟨w.heap.size, 0, none⟩ = some (.int .i64 o.id) ∧ w'.cell? ⟨w.heap.size, 1, none⟩ = some (.string o.nm) ∧ w'.cell? ⟨w.heap.size, 2, none⟩ = some (.string o.ac) ∧ w'.cell? ⟨w.heap.size, 3, none⟩ = some (.string o.sy) ∧ w'.cell? ⟨w.heap.size, 4, none⟩ = some (.int .i64 o.sd) ∧ w'.cell? ⟨w.heap.size, 5, none⟩ = some (.int .i64 o.ty) ∧ w'.cell? ⟨w.heap.size, 6, none⟩ = some (.int .i64 o.lf) ∧ w'.cell? ⟨w.heap.size, 7, none⟩ = some (.int .i64 o.pr) ∧ w'.cell? ⟨w.heap.size, 8, none⟩ = some (.int .i64 o.sp) ∧ w'.cell? ⟨w.heap.size, 9, none⟩ = some (.int .i64 o.q) ∧ w'.cell? ⟨w.heap.size, 10, none⟩ = some (.int .i64 o.sh) ∧ w'.cell? ⟨w.heap.size, 11, none⟩ = some (.int .i64 o.dn) ∧ w'.cell? ⟨w.heap.size, 12, none⟩ = some (.int .i64 o.le) ∧ w'.cell? ⟨w.heap.size, 13, none⟩ = some (.int .i64 o.un) ∧ w'.cell? ⟨w.heap.size, 14, none⟩ = some (.int .i64 o.ow) ∧ w'.cell? ⟨w.heap.size + 1, 3, none⟩ = some (.int .i64 po)) (first | exact HK6.out _ hB5 | exact HK6.out _ hBx) (first | (go_at_call 42; refine (HRC.out _ (HD.out _ hBx)).mono ?_; rintro e w5 ⟨rfl, hb5⟩; have hB5 : Below W.heap.size W w5 := below_step hBx hb5) | (go_at_call 41; refine (hs2 _).mono ?_; rintro e w6 ⟨rfl, ew6⟩; replace ew6 := ew6.symm; subst ew6))
        go_wp2
        go_ret
        exact ⟨ret_bool (by rw [HR2.out]; rfl), HD.out _ hB5⟩
      · have h6' : (po != 0) = false := by simp [bne, h6]
        rw [h6] at HR2
        obtain ⟨_, _, _, _, _, _, _, _, _, _, _, _, _, _, _, dp⟩ := HK6.out X hBX
        go_upto_region 6 with fail
        go_quiet (fail)
        go_wp2
        go_ret
        exact ⟨ret_bool (by rw [HR2.out]; rfl), HD.out _ (below_drewN hBX _)⟩
end Go.Proofs.Ytgioknkfppaaaaa
