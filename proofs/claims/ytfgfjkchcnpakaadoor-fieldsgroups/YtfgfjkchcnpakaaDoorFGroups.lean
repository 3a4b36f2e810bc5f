/-
  fields: Groups.
-/
import Derived.Test.YtfgfjkchcnpakaaDoorFCut
import Derived.Test.YtfgfjkchcnpakaaDoorFLast
namespace Go.Proofs.YtfgfjkchcnpakaaDoor
set_option linter.unusedVariables false
open Go.RowKit

def isT (t : Int) (f : Fld) : Bool := decide (f.1 = t)
theorem cfGroups (x c : Value) (w : World) : Sem.run Tryd.prog (callFunc 40 #[x, c]) w = .ok (.enter 40 #[x, c]) w := by kernel_rfl
set_option maxRecDepth 100000 in
theorem groups1_any (t : Int) (B : Nat) (g : Fld) (w : World) (hB : w.cell? ⟨B, 0, none⟩ = some (.int .i64 t)) :
    Calls Tryd.prog 40 #[.agg #[.int .i64 g.1, .string (bs g.2)], .pointer (some ⟨B, 0, none⟩)] w fun e w' => e = .returned (.bool (isT t g)) ∧ Below w.heap.size w w' := by
  obtain ⟨ft, V⟩ := g
  have hlt : B < w.heap.size := World.block_lt_of_cell? _ _ hB
  have hB2 : (w.alloc (.cells #[.int .i64 ft, .string (bs V)] 36)).cell? ⟨B, 0, none⟩ = some (.int .i64 t) := by
    rw [((Below.refl _ w).alloc (Nat.le_refl _) _).cell (p := ⟨B, 0, none⟩) hlt]; exact hB
  have HB : Hid (Below w.heap.size w (w.alloc (.cells #[.int .i64 ft, .string (bs V)] 36))) := (Below.refl _ w).alloc (Nat.le_refl _) _
  have HE : Hid (isT t (ft, V) = (ft == t)) := by
    show decide (ft = t) = (ft == t)
    by_cases h : ft = t <;> simp [h]
  show Calls Tryd.prog 40 #[.agg #[.int .i64 ft, .string (bs V)], .pointer (some ⟨B, 0, none⟩)] w fun e w' => e = .returned (.bool (isT t (ft, V))) ∧ Below w.heap.size w w'
  generalize isT t (ft, V) = d at *
  generalize bs V = S at *
  go_enter Tryd.func40, Tryd.ntmps40
  go_wp2
  go_ret
  exact ⟨ret_bool (by rw [HE.out]), HB.out⟩
/-- What Groups tells. -/
def grpAt (fs : List Fld) (a : Nat) (v : List UInt8) (first : Int) : Except Int (List (List Fld) × List Fld) :=
  if puE v 99 = 0 then
    (if ((findL first (fs.drop (a + 1))).length : Int) = puN v 99 ∧ stray (fs.drop (a + 1)) (findL first (fs.drop (a + 1))) = false then .ok (cutL (fs.drop (a + 1)) (findL first (fs.drop (a + 1))), fs.take a) else .error 41)
  else .error 42
def grpL (fs : List Fld) (count first : Int) : Except Int (List (List Fld) × List Fld) :=
  match ix (isT count) fs with
  | none => .ok ([], fs)
  | some a => grpAt fs a ((fs[a]?.map (·.2)).getD []) first
theorem ix_lt (p : Fld → Bool) : ∀ (fs : List Fld) (a : Nat), ix p fs = some a → a < fs.length
  | [], a, h => by simp [ix] at h
  | f :: fs, a, h => by
    unfold ix at h
    split at h
    · injection h with h; subst h; simp
    · cases hx : ix p fs with
      | none => rw [hx] at h; cases h
      | some b =>
        rw [hx] at h
        simp at h
        have := ix_lt p fs b hx
        simp; omega
def GrpRet (r : Except Int (List (List Fld) × List Fld)) (w : World) (x : Ending) (w' : World) : Prop :=
  Below w.heap.size w w' ∧ match r with
  | .ok (ps, a) => ∃ p u, x = .returned (.tuple #[p, u, .int .i64 0]) ∧ OwnPW w' w.heap.size p ps u ∧ OwnF w' w.heap.size u a
  | .error e => x = .returned (.tuple #[.slice none 0 0, .slice none 0 0, .int .i64 e])
theorem GrpRet.good {r : Except Int (List (List Fld) × List Fld)} {w w' : World} {x : Ending} {ps : List (List Fld)} {a : List Fld} {p u : Value} (h : r = .ok (ps, a)) (hb : Below w.heap.size w w') (hx : x = .returned (.tuple #[p, u, .int .i64 0])) (hp : OwnPW w' w.heap.size p ps u) (hu : OwnF w' w.heap.size u a) : GrpRet r w x w' := by
  refine ⟨hb, ?_⟩; rw [h]; exact ⟨p, u, hx, hp, hu⟩
theorem GrpRet.fail {r : Except Int (List (List Fld) × List Fld)} {w w' : World} {x : Ending} {e : Int} (h : r = .error e) (hb : Below w.heap.size w w') (hx : x = .returned (.tuple #[.slice none 0 0, .slice none 0 0, .int .i64 e])) : GrpRet r w x w' := by
  refine ⟨hb, ?_⟩; rw [h]; exact hx
set_option maxRecDepth 100000 in
set_option maxHeartbeats 800000 in
theorem Groups_any (v : Value) (fs : List Fld) (count first : Int) (w : World) (hs : SrcF w v fs) (hn : fs.length ≤ 5864062014634) (hvl : ∀ f ∈ fs, f.2.length ≤ maxLen) :
    Calls Tryd.prog 12 #[v, .int .i64 count, .int .i64 first] w fun x w' => GrpRet (grpL fs count first) w x w' := by
  have hB : (w.alloc (.cells #[.int .i64 count] 3)).cell? ⟨w.heap.size, 0, none⟩ = some (.int .i64 count) := cell_of_row _ _ 0 _ _ _ (heap_alloc_new w _)
  have hb0 : Below w.heap.size w (w.alloc (.cells #[.int .i64 count] 3)) := (Below.refl _ w).alloc (Nat.le_refl _) _
  have h1 := IndexFunc_any 40 (.pointer (some ⟨w.heap.size, 0, none⟩)) (isT count) v fs (w.alloc (.cells #[.int .i64 count] 3)) (fun x w' => cfGroups x _ w')
    (fun g hg w' hb => groups1_any count w.heap.size g w' (by rw [hb.cell (p := ⟨w.heap.size, 0, none⟩) (by simp)]; exact hB)) (by omega) (hs.below hb0)
  have hmf : ∀ (fn : Fn) (first cap : Array Value) (w : World), (Instr.makeFunc fn first cap).run Tryd.prog w = .ok (.func fn first cap) w := fun _ _ _ _ => rfl
  have HS : Hid (SrcF w v fs ∧ Below w.heap.size w (w.alloc (.cells #[.int .i64 count] 3)) ∧ ∀ f ∈ fs, f.2.length ≤ maxLen) := ⟨hs, hb0, hvl⟩
  obtain ⟨ao, cap, rfl, hc, _⟩ := hs
  clear hb0 hB hvl
  cases hix : ix (isT count) fs with
  | none =>
    have HR : Hid (grpL fs count first = .ok ([], fs)) := by show grpL _ _ _ = _; unfold grpL; rw [hix]
    have hI : ixI (isT count) fs = -1 := by unfold ixI; rw [hix]
    rw [hI] at h1
    generalize grpL fs count first = R at *
    clear hI hix
    go_enter Tryd.func12, Tryd.ntmps12
    go_wp2_with (go_at_call 39; fail)
    refine h1.mono ?_
    rintro e w2 ⟨rfl, hb2⟩
    have HB2 : Hid (Below w.heap.size w w2) := HS.out.2.1.trans (hb2.mono HS.out.2.1.size)
    clear hb2 h1
    go_wp2_with (go_at_call 41; fail)
    refine (Clone_any _ fs w2 (HS.out.1.below HB2.out) hn).mono ?_
    rintro e w3 ⟨u3, rfl, ho3, hb3⟩
    have HB3 : Hid (Below w.heap.size w w3 ∧ OwnF w3 w.heap.size u3 fs) := ⟨HB2.out.trans (hb3.mono HB2.out.size), ho3.mono HB2.out.size⟩
    clear hb3 ho3
    go_wp2
    go_ret3
    exact .good HR.out HB3.out.1 rfl (OwnPW.nil _ _ _) HB3.out.2
  | some a =>
    have halt := ix_lt _ _ _ hix
    have hfa : fs[a]? = some fs[a] := List.getElem?_eq_getElem halt
    have hR : grpL fs count first = grpAt fs a fs[a].2 first := by unfold grpL; rw [hix]; show grpAt fs a ((fs[a]?.map (·.2)).getD []) first = _; rw [hfa]; rfl
    have hI : ixI (isT count) fs = (a : Int) := by unfold ixI; rw [hix]
    rw [hI] at h1
    unfold grpAt at hR
    have h2 := fun w' => ParseUint_any (bs fs[a].2) 99 w' (by rw [bs_size]; exact HS.out.2.2 fs[a] (List.getElem_mem halt)) (by decide)
    simp only [bs_list] at h2
    have hp0 := pu_bd fs[a].2 99 (by decide)
    have hp1 := puN_le fs[a].2 99 (by decide)
    rcases HS.out.1 with ⟨ao', cap', e1, _, h0 | ⟨b, off, e2, hcell⟩⟩
    · rw [h0] at halt; simp at halt
    injection e1 with e1 _ e3
    subst e1 e2 e3
    have hca := (hcell a _ hfa).2
    have HCA : Hid (∀ w', Below w.heap.size w w' → w'.cell? ⟨b, off + a * 2 + 1, none⟩ = some (.string (bs fs[a].2))) := fun w' hb => by
      rw [hb.cell (p := ⟨b, off + a * 2 + 1, none⟩) (World.block_lt_of_cell? _ _ hca)]; exact hca
    generalize grpL fs count first = R at *
    clear hI hix hcell hca hfa
    generalize puE fs[a].2 99 = PE at *
    generalize puN fs[a].2 99 = PN at *
    generalize bs fs[a].2 = SV at *
    have halt' : (a : Int) < (fs.length : Int) := by omega
    have ha0 : ¬ (a : Int) < 0 := by omega
    by_cases hE : PE = 0
    · subst hE
      rw [if_pos rfl] at hR
      by_cases hcap : cap = a + 1
      · subst hcap
        have hfl0 : fs.length = a + 1 := by omega
        have HBsrc : Hid (∀ w', Below w.heap.size w w' → SrcF w' (.slice (some ⟨b, off, none⟩) 0 0) (fs.drop (a + 1))) := fun w' hb => by
          have hd : fs.drop (a + 1) = [] := List.drop_eq_nil_of_le (by omega)
          exact ⟨some ⟨b, off, none⟩, 0, by rw [hd]; rfl, by rw [hd]; exact Nat.le_refl _, .inl hd⟩
        clear hfl0
        have HAsrc : Hid (∀ w', Below w.heap.size w w' → SrcF w' (.slice (some ⟨b, off, none⟩) a (a + 1)) (fs.take a)) := fun w' hb => by
          have h := (HS.out.1.below hb).cut 0 a (by omega) (by omega) (a + 1) (by omega)
          rw [Nat.zero_mul, Nat.add_zero, Nat.sub_zero, List.drop_zero] at h
          exact h
        have hbl : (fs.drop (a + 1)).length = 0 := by simp; omega
        have hfb := findI_bound first (fs.drop (a + 1)) 0
        have hfs := findI_sorted first (fs.drop (a + 1)) 0
        have hfl := findI_len first (fs.drop (a + 1)) 0
        have HFB : Hid ((∀ x ∈ findL first (fs.drop (a + 1)), x < (fs.drop (a + 1)).length) ∧ (findL first (fs.drop (a + 1))).Pairwise (· < ·)) := ⟨fun x hx => by have := hfb x hx; omega, hfs⟩
        have hfl2 : (findL first (fs.drop (a + 1))).length ≤ fs.length := Nat.le_trans hfl (by rw [hbl]; omega)
        clear hfb hfs hfl
        have hF := fun w' (hb : Below w.heap.size w w') => Find_any _ (fs.drop (a + 1)) first w' (HBsrc.out w' hb) (by simp; omega)
        generalize findL first (fs.drop (a + 1)) = bg at *
        generalize fs.drop (a + 1) = bh at *
        have ha1 : (a : Int) + 1 ≤ (fs.length : Int) := by omega
        have ha2 : (a : Int) ≤ (a : Int) + 1 := by omega
        go_enter Tryd.func12, Tryd.ntmps12
        go_wp2_with (go_at_call 39; fail)
        refine h1.mono ?_
        rintro e w2 ⟨rfl, hb2⟩
        have HB2 : Hid (Below w.heap.size w w2) := HS.out.2.1.trans (hb2.mono HS.out.2.1.size)
        clear hb2 h1
        have c0 := HCA.out _ HB2.out
        go_wp2_with (go_at_call 42; fail)
        refine (h2 _).mono ?_
        rintro e w3 ⟨rfl, hw3⟩
        have hw3' := hw3.symm
        subst hw3'
        clear hw3 c0
        go_wp2_with (go_at_call 16; fail)
        refine (hF w2 HB2.out).mono ?_
        rintro e w4 ⟨u4, rfl, ho4, hb4⟩
        have HB4 : Hid (Below w.heap.size w w4 ∧ OwnN w4 w2.heap.size u4 bg) := ⟨HB2.out.trans (hb4.mono HB2.out.size), ho4⟩
        clear hb4 hF
        obtain ⟨au, cu, hu4, _⟩ := ho4.form
        subst hu4
        clear ho4
        by_cases hL : (bg.length : Int) = PN
        · have hLb : ((bg.length : Int) != PN) = false := by simp [hL]
          have h5 := strayAhead_any (some ⟨b, off, none⟩) 0 0 bh hbl (by omega) w2.heap.size (.slice au bg.length cu) bg w4 HB4.out.2 (fun x hx => by have := HFB.out.1 x hx; omega)
          have hb99 : bg.length ≤ 99 := by omega
          cases hSt : stray bh bg with
          | true =>
            have HR : Hid (R = .error 41) := by show R = _; rw [hR, if_neg (fun h => by rw [hSt] at h; cases h.2)]
            rw [hSt] at h5
            clear hR hSt
            go_wp2_with (go_at_call 43; fail)
            refine h5.mono ?_
            rintro e w5 ⟨rfl, hw5⟩
            have hw5' := hw5.symm
            subst hw5'
            clear hw5
            go_wp2
            go_ret3
            exact .fail HR.out HB4.out.1 rfl
          | false =>
            have HR : Hid (R = .ok (cutL bh bg, fs.take a)) := by show R = _; rw [hR, if_pos ⟨hL, hSt⟩]
            rw [hSt] at h5
            clear hR hSt
            go_wp2_with (go_at_call 43; fail)
            refine h5.mono ?_
            rintro e w5 ⟨rfl, hw5⟩
            have hw5' := hw5.symm
            subst hw5'
            clear hw5 h5
            have HC1 : Hid (∀ w', Below w4.heap.size w4 w' → Calls Tryd.prog 44 #[.slice (some ⟨b, off, none⟩) 0 0, .slice au bg.length cu] w' fun e w2 => ∃ p, e = .returned p ∧ OwnP w2 w'.heap.size p (cutL bh bg) ∧ Below w'.heap.size w' w2) := fun w' hb =>
              cutParts_any _ bh _ bg w2.heap.size w' (HBsrc.out w' (HB4.out.1.trans (hb.mono HB4.out.1.size))) (HB4.out.2.below hb) (by omega) hb99 HFB.out.1 HFB.out.2
            have HC2 : Hid (∀ w', Below w4.heap.size w4 w' → Calls Tryd.prog 41 #[.slice (some ⟨b, off, none⟩) a (a + 1)] w' fun e w2 => ∃ u, e = .returned u ∧ OwnF w2 w'.heap.size u (fs.take a) ∧ Below w'.heap.size w' w2) := fun w' hb =>
              Clone_any _ (fs.take a) w' (HAsrc.out w' (HB4.out.1.trans (hb.mono HB4.out.1.size))) (by simp; omega)
            go_upto_region 11 with fail
            have hB1 : Below w4.heap.size w4 w4.drew := (Below.refl _ w4).drew
            go_region_held (fun w' => Below w4.heap.size w4 w') (first | exact hB7 | exact hB6 | exact hB1) (first
              | (go_at_call 44; refine (HC1.out _ hB1).mono ?_; rintro e w6 ⟨p6, rfl, ho6, hb6⟩; have hB6 : Below w4.heap.size w4 w6 := hB1.trans (hb6.mono hB1.size); have HO6 : Hid (OwnP w6 w4.heap.size p6 (cutL bh bg)) := ho6; clear hb6 ho6)
              | (go_at_call 41; refine (HC2.out _ hB6).mono ?_; rintro e w7 ⟨u7, rfl, ho7, hb7⟩; have hB7 : Below w4.heap.size w4 w7 := hB6.trans (hb7.mono hB6.size); have HO7 : Hid (OwnPW w7 w4.heap.size p6 (cutL bh bg) u7 ∧ OwnF w7 w4.heap.size u7 (fs.take a)) := ⟨HO6.out.belowF hb7 ho7, ho7.mono hB6.size⟩; clear hb7 ho7))
            all_goals go_wp2
            all_goals go_ret3
            all_goals exact .good HR.out (HB4.out.1.trans (hB7.mono HB4.out.1.size)) rfl (HO7.out.1.mono HB4.out.1.size) (HO7.out.2.mono HB4.out.1.size)
        · have hLb : ((bg.length : Int) != PN) = true := by simpa using hL
          have HR : Hid (R = .error 41) := by show R = _; rw [hR, if_neg (fun h => hL h.1)]
          clear hR
          go_wp2
          go_ret3
          exact .fail HR.out HB4.out.1 rfl
      · have hcap0 : ¬ cap - (a + 1) = 0 := by omega
        have HBsrc : Hid (∀ w', Below w.heap.size w w' → SrcF w' (.slice (some ⟨b, off + (a + 1) * 2, none⟩) (fs.length - (a + 1)) (cap - (a + 1))) (fs.drop (a + 1))) := fun w' hb => by
          have h := (HS.out.1.below hb).cut (a + 1) fs.length (by omega) (Nat.le_refl _) (cap - (a + 1)) (by omega)
          rw [List.take_length] at h
          exact h
        have HAsrc : Hid (∀ w', Below w.heap.size w w' → SrcF w' (.slice (some ⟨b, off, none⟩) a cap) (fs.take a)) := fun w' hb => by
          have h := (HS.out.1.below hb).cut 0 a (by omega) (by omega) cap (by omega)
          rw [Nat.zero_mul, Nat.add_zero, Nat.sub_zero, List.drop_zero] at h
          exact h
        have hbl : (fs.drop (a + 1)).length = fs.length - (a + 1) := by simp
        have hfb := findI_bound first (fs.drop (a + 1)) 0
        have hfs := findI_sorted first (fs.drop (a + 1)) 0
        have hfl := findI_len first (fs.drop (a + 1)) 0
        have HFB : Hid ((∀ x ∈ findL first (fs.drop (a + 1)), x < (fs.drop (a + 1)).length) ∧ (findL first (fs.drop (a + 1))).Pairwise (· < ·)) := ⟨fun x hx => by have := hfb x hx; omega, hfs⟩
        have hfl2 : (findL first (fs.drop (a + 1))).length ≤ fs.length := Nat.le_trans hfl (by rw [hbl]; omega)
        clear hfb hfs hfl
        have hF := fun w' (hb : Below w.heap.size w w') => Find_any _ (fs.drop (a + 1)) first w' (HBsrc.out w' hb) (by simp; omega)
        generalize findL first (fs.drop (a + 1)) = bg at *
        generalize fs.drop (a + 1) = bh at *
        have ha1 : (a : Int) + 1 ≤ (fs.length : Int) := by omega
        have ha2 : (a : Int) ≤ (cap : Int) := by omega
        go_enter Tryd.func12, Tryd.ntmps12
        go_wp2_with (go_at_call 39; fail)
        refine h1.mono ?_
        rintro e w2 ⟨rfl, hb2⟩
        have HB2 : Hid (Below w.heap.size w w2) := HS.out.2.1.trans (hb2.mono HS.out.2.1.size)
        clear hb2 h1
        have c0 := HCA.out _ HB2.out
        go_wp2_with (go_at_call 42; fail)
        refine (h2 _).mono ?_
        rintro e w3 ⟨rfl, hw3⟩
        have hw3' := hw3.symm
        subst hw3'
        clear hw3 c0
        go_wp2_with (go_at_call 16; fail)
        refine (hF w2 HB2.out).mono ?_
        rintro e w4 ⟨u4, rfl, ho4, hb4⟩
        have HB4 : Hid (Below w.heap.size w w4 ∧ OwnN w4 w2.heap.size u4 bg) := ⟨HB2.out.trans (hb4.mono HB2.out.size), ho4⟩
        clear hb4 hF
        obtain ⟨au, cu, hu4, _⟩ := ho4.form
        subst hu4
        clear ho4
        by_cases hL : (bg.length : Int) = PN
        · have hLb : ((bg.length : Int) != PN) = false := by simp [hL]
          have h5 := strayAhead_any (some ⟨b, off + (a + 1) * 2, none⟩) (fs.length - (a + 1)) (cap - (a + 1)) bh hbl (by omega) w2.heap.size (.slice au bg.length cu) bg w4 HB4.out.2 (fun x hx => by have := HFB.out.1 x hx; omega)
          have hb99 : bg.length ≤ 99 := by omega
          cases hSt : stray bh bg with
          | true =>
            have HR : Hid (R = .error 41) := by show R = _; rw [hR, if_neg (fun h => by rw [hSt] at h; cases h.2)]
            rw [hSt] at h5
            clear hR hSt
            go_wp2_with (go_at_call 43; fail)
            refine h5.mono ?_
            rintro e w5 ⟨rfl, hw5⟩
            have hw5' := hw5.symm
            subst hw5'
            clear hw5
            go_wp2
            go_ret3
            exact .fail HR.out HB4.out.1 rfl
          | false =>
            have HR : Hid (R = .ok (cutL bh bg, fs.take a)) := by show R = _; rw [hR, if_pos ⟨hL, hSt⟩]
            rw [hSt] at h5
            clear hR hSt
            go_wp2_with (go_at_call 43; fail)
            refine h5.mono ?_
            rintro e w5 ⟨rfl, hw5⟩
            have hw5' := hw5.symm
            subst hw5'
            clear hw5 h5
            have HC1 : Hid (∀ w', Below w4.heap.size w4 w' → Calls Tryd.prog 44 #[.slice (some ⟨b, off + (a + 1) * 2, none⟩) (fs.length - (a + 1)) (cap - (a + 1)), .slice au bg.length cu] w' fun e w2 => ∃ p, e = .returned p ∧ OwnP w2 w'.heap.size p (cutL bh bg) ∧ Below w'.heap.size w' w2) := fun w' hb =>
              cutParts_any _ bh _ bg w2.heap.size w' (HBsrc.out w' (HB4.out.1.trans (hb.mono HB4.out.1.size))) (HB4.out.2.below hb) (by omega) hb99 HFB.out.1 HFB.out.2
            have HC2 : Hid (∀ w', Below w4.heap.size w4 w' → Calls Tryd.prog 41 #[.slice (some ⟨b, off, none⟩) a cap] w' fun e w2 => ∃ u, e = .returned u ∧ OwnF w2 w'.heap.size u (fs.take a) ∧ Below w'.heap.size w' w2) := fun w' hb =>
              Clone_any _ (fs.take a) w' (HAsrc.out w' (HB4.out.1.trans (hb.mono HB4.out.1.size))) (by simp; omega)
            go_upto_region 11 with fail
            have hB1 : Below w4.heap.size w4 w4.drew := (Below.refl _ w4).drew
            go_region_held (fun w' => Below w4.heap.size w4 w') (first | exact hB7 | exact hB6 | exact hB1) (first
              | (go_at_call 44; refine (HC1.out _ hB1).mono ?_; rintro e w6 ⟨p6, rfl, ho6, hb6⟩; have hB6 : Below w4.heap.size w4 w6 := hB1.trans (hb6.mono hB1.size); have HO6 : Hid (OwnP w6 w4.heap.size p6 (cutL bh bg)) := ho6; clear hb6 ho6)
              | (go_at_call 41; refine (HC2.out _ hB6).mono ?_; rintro e w7 ⟨u7, rfl, ho7, hb7⟩; have hB7 : Below w4.heap.size w4 w7 := hB6.trans (hb7.mono hB6.size); have HO7 : Hid (OwnPW w7 w4.heap.size p6 (cutL bh bg) u7 ∧ OwnF w7 w4.heap.size u7 (fs.take a)) := ⟨HO6.out.belowF hb7 ho7, ho7.mono hB6.size⟩; clear hb7 ho7))
            all_goals go_wp2
            all_goals go_ret3
            all_goals exact .good HR.out (HB4.out.1.trans (hB7.mono HB4.out.1.size)) rfl (HO7.out.1.mono HB4.out.1.size) (HO7.out.2.mono HB4.out.1.size)
        · have hLb : ((bg.length : Int) != PN) = true := by simpa using hL
          have HR : Hid (R = .error 41) := by show R = _; rw [hR, if_neg (fun h => hL h.1)]
          clear hR
          go_wp2
          go_ret3
          exact .fail HR.out HB4.out.1 rfl
    · have HR : Hid (R = .error 42) := by show R = _; rw [hR, if_neg hE]
      have hEb : (PE != 0) = true := by simpa using hE
      clear hR
      go_enter Tryd.func12, Tryd.ntmps12
      go_wp2_with (go_at_call 39; fail)
      refine h1.mono ?_
      rintro e w2 ⟨rfl, hb2⟩
      have HB2 : Hid (Below w.heap.size w w2) := HS.out.2.1.trans (hb2.mono HS.out.2.1.size)
      clear hb2 h1
      have c0 := HCA.out _ HB2.out
      go_wp2_with (go_at_call 42; fail)
      refine (h2 _).mono ?_
      rintro e w3 ⟨rfl, hw3⟩
      have hw3' := hw3.symm
      subst hw3'
      clear hw3 c0
      go_wp2
      go_ret3
      exact .fail HR.out HB2.out rfl
end Go.Proofs.YtfgfjkchcnpakaaDoor
