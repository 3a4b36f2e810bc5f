import Derived.Test.YtchkpggdndnpjabGreatDoorG25
import Derived.Test.YtchkpggdndnpjabGreatDoorG27
import Derived.Test.YtchkpggdndnpjabGreatDoorG18
import Derived.Test.YtchkpggdndnpjabGreatDoorG26

namespace Go.Proofs.YtchkpggdndnpjabGreatDoor
set_option linter.unusedVariables false
open Go.RowKit Go.Great

def cmT (fs : List Fld) (t : Slt) : Option (Int × Nat × Int) := cond (t.2.1 && (plN fs t.1 == fs.length)) (some (50, fs.length, t.1)) none
def cmE (fs : List Fld) (l : List Slt) : Option (Int × Nat × Int) := l.findSome? (cmT fs)
theorem findSome_hit {α β : Type} {F : α → Option β} {l : List α} {k : Nat} {t : α} {x : β} (h0 : (l.take k).findSome? F = none) (h : l[k]? = some t) (hx : F t = some x) : l.findSome? F = some x := by
  have hk := (List.getElem?_eq_some_iff.1 h).1
  rw [← List.take_append_drop k l, List.findSome?_append, h0, List.drop_eq_getElem_cons hk]
  have e : l[k] = t := by rw [List.getElem?_eq_getElem hk] at h; injection h
  simp [e, hx]
theorem findSome_next {α β : Type} {F : α → Option β} {l : List α} {k : Nat} {t : α} (h0 : (l.take k).findSome? F = none) (h : l[k]? = some t) (hx : F t = none) : (l.take (k + 1)).findSome? F = none := by
  rw [List.take_add_one, h, List.findSome?_append, h0]
  simp [hx]
set_option maxRecDepth 100000 in
set_option maxHeartbeats 1000000 in
theorem checkMissing_any (v sv : Value) (fs : List Fld) (l : List Slt) (w : World) (hs : SrcF w v fs) (hsl : SltAt w sv l) (hn : fs.length ≤ 1048576) (hl : l.length ≤ 45) :
    Calls Tryz.prog 65 #[v, sv] w fun x w' => ∃ ev, x = .returned ev ∧ ErrAt w' w.heap.size ev (cmE fs l) ∧ Below w.heap.size w w' := by
  have HS : Hid (SrcF w v fs ∧ SltAt w sv l) := ⟨hs, hsl⟩
  obtain ⟨ao, cap, rfl, hc, _⟩ := hs
  obtain ⟨sao, scap, rfl, hsc, _⟩ := hsl
  obtain ⟨R, hR⟩ : ∃ R, cmE fs l = R := ⟨_, rfl⟩
  have HR : Hid (cmE fs l = R) := hR
  rw [hR]
  clear hR
  obtain ⟨n, hn1⟩ : ∃ n, n = l.length := ⟨_, rfl⟩
  obtain ⟨m, hm1⟩ : ∃ m, m = fs.length := ⟨_, rfl⟩
  rw [← hn1] at hl hsc
  rw [← hm1] at hc hn
  have Hnm : Hid (n = l.length ∧ m = fs.length) := ⟨hn1, hm1⟩
  rw [← hn1, ← hm1]
  rw [← hn1, ← hm1] at HS
  clear hn1 hm1
  go_enter Tryz.func65, Tryz.ntmps65
  go_wp2
  go_loopw [9] (fun i wr => ∃ k : Nat, k ≤ n ∧ i = .int .i64 k ∧ Hid (Below w.heap.size w wr ∧ (l.take k).findSome? (cmT fs) = none)) (fun i _ => n - (intOf i).toNat)
  case atStart => exact ⟨0, by omega, rfl, Below.refl _ _, rfl⟩
  case round =>
    obtain ⟨k, hk, rfl, HG⟩ := hrel
    by_cases hlt : k < n
    · have hlt' : (k : Int) < (n : Int) := by omega
      have hk0 : (0 : Int) ≤ (k : Int) := by omega
      obtain ⟨t, htk⟩ : ∃ t, l[k]? = some t := ⟨_, List.getElem?_eq_getElem (by have := Hnm.out.1; omega)⟩
      obtain ⟨ax, cx, hxe, -, hcase⟩ := HS.out.2.below HG.out.1
      rcases hcase with hnil | ⟨b, off, rfl, hcel⟩
      · rw [hnil] at htk; simp at htk
      obtain ⟨rfl, rfl⟩ : sao = some ⟨b, off, none⟩ ∧ scap = cx := by injection hxe with q1 q2 q3; exact ⟨q1, q3⟩
      obtain ⟨c1, c2, c3⟩ := hcel k t htk
      clear hcel hxe
      have HCT : Hid (cmT fs t = cond (t.2.1 && (plN fs t.1 == m)) (some (50, m, t.1)) none) := by show _ = _; rw [Hnm.out.2]; rfl
      have HYE : Hid (∀ x, cmT fs t = some x → R = some x) := fun x hx => by rw [← HR.out]; exact findSome_hit HG.out.2 htk hx
      have HNO : Hid (cmT fs t = none → (l.take (k + 1)).findSome? (cmT fs) = none) := fun hx => findSome_next HG.out.2 htk hx
      have HP : Hid (∀ w', Below w.heap.size w w' → Calls Tryz.prog 214 #[.slice ao m cap, .int .i64 t.1] w' fun e w2 => e = .returned (.int .i64 (plN fs t.1 : Nat)) ∧ Below w'.heap.size w' w2) := fun w' hb => placeOf_any _ fs t.1 w' (HS.out.1.below hb) (by have := Hnm.out.2; omega)
      have HFA : Hid (∀ (e : Int) w', Calls Tryz.prog 212 #[.int .i64 e, .int .i64 m, .int .i64 t.1] w' fun x w2 => ∃ v, x = .returned v ∧ ErrAt w2 w'.heap.size v (some (e, m, t.1)) ∧ Below w'.heap.size w' w2) := fun e w' => ffault_any e m t.1 w'
      obtain ⟨tg, mu, r⟩ := t
      dsimp only at c1 c2 c3 HCT HP HFA
      generalize xFn.getD r 0 = F at *
      generalize plN fs tg = p at *
      clear htk
      have HB : Hid (Below w.heap.size w wr) := HG.out.1
      clear HG
      go_upto_region 4 with fail
      generalize hW4 : World.alloc wr _ = W4
      have hb4 : Below wr.heap.size wr W4 := by rw [← hW4]; exact (Below.refl _ wr).alloc (Nat.le_refl _) _
      have r0 : W4.cell? ⟨wr.heap.size, 0, none⟩ = some (.int .i64 tg) := by rw [← hW4]; exact World.cell?_alloc_new ..
      have r1 : W4.cell? ⟨wr.heap.size, 1, none⟩ = some (.bool mu) := by rw [← hW4]; exact World.cell?_alloc_new ..
      have HB4 : Hid (Below w.heap.size w W4) := HB.out.trans (hb4.mono HB.out.size)
      clear hW4 hb4 c1 c2 c3
      cases mu with
      | false =>
        have HX : Hid ((l.take (k + 1)).findSome? (cmT fs) = none) := HNO.out HCT.out
        clear HCT HYE HNO
        go_wp2
        exact ⟨⟨k + 1, by omega, by go_num, HB4.out, HX.out⟩, by simp [intOf]; omega⟩
      | true =>
        go_wp2_with (go_at_call 214; fail)
        refine (HP.out _ HB4.out).mono ?_
        rintro e w6 ⟨rfl, hb6⟩
        have s0 : w6.cell? ⟨wr.heap.size, 0, none⟩ = some (.int .i64 tg) := by rw [hb6.cell (p := ⟨wr.heap.size, 0, none⟩) (World.block_lt_of_cell? _ _ r0)]; exact r0
        have HB6 : Hid (Below w.heap.size w w6) := HB4.out.trans (hb6.mono HB4.out.size)
        clear r0 r1 hb6 HP HB4
        by_cases hpm : p = m
        · subst hpm
          have HRR : Hid (R = some (50, p, tg)) := HYE.out _ (by rw [HCT.out]; simp)
          clear HCT HYE HNO
          go_wp2_with (go_at_call 212; fail)
          refine (HFA.out _ _).mono ?_
          rintro e w7 ⟨ev, rfl, he, hb7⟩
          have HX : Hid (ErrAt w7 w.heap.size ev R ∧ Below w.heap.size w w7) := ⟨by rw [HRR.out]; exact he.below (Below.refl _ _) HB6.out.size, HB6.out.trans (hb7.mono HB6.out.size)⟩
          clear he hb7
          go_wp2
          go_ret
          exact ⟨_, rfl, HX.out⟩
        · have hpi : ((p : Int) == (m : Int)) = false := by simp; omega
          have hpn : (p == m) = false := by simpa using hpm
          have HX : Hid ((l.take (k + 1)).findSome? (cmT fs) = none) := HNO.out (by rw [HCT.out, hpn]; rfl)
          clear HCT HYE HNO hpm
          go_wp2
          exact ⟨⟨k + 1, by omega, by go_num, HB6.out, HX.out⟩, by simp [intOf]; omega⟩
    · obtain rfl : k = n := by omega
      have HX : Hid (R = none ∧ Below w.heap.size w wr) := by
        refine ⟨?_, HG.out.1⟩
        have h := HG.out.2
        rw [Hnm.out.1, List.take_length] at h
        rw [← HR.out]; exact h
      clear HG
      go_wp2
      go_ret
      exact ⟨_, rfl, by rw [HX.out.1]; rfl, HX.out.2⟩
end Go.Proofs.YtchkpggdndnpjabGreatDoor

namespace Go.Proofs.YtchkpggdndnpjabGreatDoor
set_option linter.unusedVariables false
open Go.RowKit Go.Great

/-- What does not fit together. -/
def cfE (fs : List Fld) (M : Msg) : Option (Int × Nat × Int) :=
  if plN fs 18 < fs.length ∧ M.z 25 ≠ 7 then some (31, plN fs 18, 18)
  else if (match fs[plN fs 530]? with | some f => !(eqB (bs f.2) (scS (M.s 22))) | none => false) = true then some (31, plN fs 530, 530)
  else if valE M = 0 then none else some (31, plN fs (tagR (M.z 0) (valN M)), tagR (M.z 0) (valN M))
set_option maxRecDepth 100000 in
set_option maxHeartbeats 1000000 in
theorem checkFit_any (v : Value) (fs : List Fld) (M : Msg) (w : World) (hs : SrcF w v fs) (hM : Mon w) (hz : M.ok) (hn : fs.length ≤ 1048576) :
    Calls Tryz.prog 66 #[v, .agg M.cs] w fun x w' => ∃ ev, x = .returned ev ∧ ErrAt w' w.heap.size ev (cfE fs M) ∧ Below w.heap.size w w' := by
  have HS : Hid (SrcF w v fs ∧ Mon w ∧ 2 < w.heap.size ∧ M.ok) := ⟨hs, hM, hM.lt, hz⟩
  have HP : Hid (∀ t w', Below w.heap.size w w' → Calls Tryz.prog 214 #[v, .int .i64 t] w' fun e w2 => e = .returned (.int .i64 (plN fs t : Nat)) ∧ Below w'.heap.size w' w2) := fun t w' hb => placeOf_any _ fs t w' (hs.below hb) hn
  have HFA : Hid (∀ (e : Int) (a : Nat) (t : Int) w', Calls Tryz.prog 212 #[.int .i64 e, .int .i64 a, .int .i64 t] w' fun x w2 => ∃ v, x = .returned v ∧ ErrAt w2 w'.heap.size v (some (e, a, t)) ∧ Below w'.heap.size w' w2) := fun e a t w' => ffault_any e a t w'
  have HO1 : Hid (GI w (w.alloc (.cells M.cs 23)) w.heap.size M) := ⟨heap_alloc_new w _, (Below.refl _ w).alloc (Nat.le_refl _) _⟩
  obtain ⟨ao, cap, rfl, hc, _⟩ := hs
  obtain ⟨R, hR⟩ : ∃ R, cfE fs M = R := ⟨_, rfl⟩
  have HR : Hid (cfE fs M = R) := hR
  rw [hR]
  clear hR hM hz
  obtain ⟨m, hm1⟩ : ∃ m, m = fs.length := ⟨_, rfl⟩
  rw [← hm1] at hc hn
  have Hm : Hid (m = fs.length) := hm1
  rw [← hm1]
  rw [← hm1] at HS HP
  clear hm1
  go_enter Tryz.func66, Tryz.ntmps66
  go_upto_region 1 with fail
  generalize w.alloc (.cells M.cs 23) = w1 at *
  generalize hcs : M.cs = CS at *
  go_wp2_with (go_at_call 214; fail)
  refine (HP.out _ _ HO1.out.below).mono ?_
  rintro e w2 ⟨rfl, hb2⟩
  have HG2 : Hid (GI w w2 w.heap.size M) := HO1.out.low hb2
  clear hb2 HO1
  have l2 : w2.cell? ⟨w.heap.size, 25, none⟩ = some (.int .i64 (M.z 25)) := HG2.out.msg.cell 25 (by decide)
  obtain ⟨p, hp⟩ : ∃ p, plN fs 18 = p := ⟨_, rfl⟩
  have Hp : Hid (plN fs 18 = p) := hp
  rw [hp]
  clear hp
  by_cases h18 : p < m ∧ M.z 25 ≠ 7
  · obtain ⟨hpm, h7⟩ := h18
    have hpm' : (p : Int) < (m : Int) := by omega
    have hb7 := bne_no h7
    have HRR : Hid (R = some (31, p, 18)) := by show _ = _; rw [← HR.out]; unfold cfE; rw [Hp.out, ← Hm.out, if_pos ⟨hpm, h7⟩]
    clear h7 HR
    go_wp2_with (go_at_call 212; fail)
    refine (HFA.out _ p _ _).mono ?_
    rintro e w7 ⟨ev, rfl, he, hb7⟩
    have HX : Hid (ErrAt w7 w.heap.size ev R ∧ Below w.heap.size w w7) := ⟨by rw [HRR.out]; exact he.below (Below.refl _ _) HG2.out.below.size, (HG2.out.low hb7).below⟩
    clear he hb7
    go_wp2
    go_ret
    exact ⟨_, rfl, HX.out⟩
  have HR2 : Hid (R = if (match fs[plN fs 530]? with | some f => !(eqB (bs f.2) (scS (M.s 22))) | none => false) = true then some (31, plN fs 530, 530) else if valE M = 0 then none else some (31, plN fs (tagR (M.z 0) (valN M)), tagR (M.z 0) (valN M))) := by show _ = _; rw [← HR.out]; unfold cfE; rw [Hp.out, ← Hm.out, if_neg h18]
  go_upto_region 2 with fail
  go_cut [20] (fun x wx => x = .bool false ∧ wx = w2)
  case first =>
    by_cases hpm : p < m
    · have hpm' : (p : Int) < (m : Int) := by omega
      have h7 : M.z 25 = 7 := by
        rcases Decidable.em (M.z 25 = 7) with h | h
        · exact h
        · exact absurd ⟨hpm, h⟩ h18
      rw [h7] at l2
      go_wp2_with fail
      go_meet
      exact ⟨rfl, rfl⟩
    · have hpm' : ¬ (p : Int) < (m : Int) := by omega
      go_wp2_with fail
      go_meet
      exact ⟨rfl, rfl⟩
  case rest =>
    obtain ⟨rfl, rfl⟩ := hcut
    clear h18 HR l2 Hp
    go_wp2_with (go_at_call 214; fail)
    refine (HP.out _ _ HG2.out.below).mono ?_
    rintro e w3 ⟨rfl, hb3⟩
    have HG3 : Hid (GI w w3 w.heap.size M) := HG2.out.low hb3
    clear hb3 HG2
    have l3 : w3.cell? ⟨w.heap.size, 22, none⟩ = some (.string (M.s 22)) := HG3.out.msg.cell 22 (by decide)
    have hple := plN_le fs 530
    obtain ⟨q, hq⟩ : ∃ q, plN fs 530 = q := ⟨_, rfl⟩
    rw [hq] at HR2 hple ⊢
    clear hq
    obtain ⟨X, hX⟩ : ∃ X, (match fs[q]? with | some f => !(eqB (bs f.2) (scS (M.s 22))) | none => false) = X := ⟨_, rfl⟩
    rw [hX] at HR2
    go_upto_region 5 with fail
    go_cut [39] (fun x wx => x = .bool X ∧ Below w3.heap.size w3 wx)
    case first =>
      have hB0 : Below w3.heap.size w3 w3.drew := below_drewN (Below.refl _ _) 1
      by_cases hqm : q < m
      · have hqm' : (q : Int) < (m : Int) := by omega
        have hq0 : (0 : Int) ≤ (q : Int) := by omega
        obtain ⟨f, hf⟩ : ∃ f, fs[q]? = some f := ⟨_, List.getElem?_eq_getElem (by have := Hm.out; omega)⟩
        rw [hf] at hX
        dsimp only at hX
        obtain ⟨ax, cx, hxe, -, hcase⟩ := HS.out.1.below HG3.out.below
        rcases hcase with hnil | ⟨b2, off2, rfl, hcel⟩
        · rw [hnil] at hf; simp at hf
        obtain ⟨rfl, rfl⟩ : ao = some ⟨b2, off2, none⟩ ∧ cap = cx := by injection hxe with q1 q2 q3; exact ⟨q1, q3⟩
        obtain ⟨-, d1⟩ := hcel q f hf
        clear hcel hxe hf
        have hsc := scopeOf_any (M.s 22)
        generalize scS (M.s 22) = sc at *
        generalize bs f.2 = sv at *
        generalize M.s 22 = sy at *
        have hXe : X = (sv.toList != sc.toList) := by rw [← hX]; unfold eqB; rw [← ByteArray.toList_eq]; rfl
        subst hXe
        clear hX
        go_quiet ((go_at_call 218; refine Calls.quiet_of_same (hsc _)))
        all_goals go_wp2_with fail
        all_goals go_meet
        all_goals exact ⟨rfl, below_drewN (Below.refl _ _) _⟩
      · have hqm' : ¬ (q : Int) < (m : Int) := by omega
        rw [List.getElem?_eq_none (by have := Hm.out; omega)] at hX
        dsimp only at hX
        subst hX
        go_quiet (fail)
        all_goals go_wp2_with fail
        all_goals go_meet
        all_goals exact ⟨rfl, below_drewN (Below.refl _ _) _⟩
    case rest =>
      obtain ⟨rfl, hb4⟩ := hcut
      have HG4 : Hid (GI w wc w.heap.size M) := HG3.out.low hb4
      clear hb4 HG3 hX l3
      cases X with
      | true =>
        have HRR : Hid (R = some (31, q, 530)) := by show _ = _; rw [HR2.out, if_pos rfl]
        clear HR2
        go_wp2_with (go_at_call 212; fail)
        refine (HFA.out _ q _ _).mono ?_
        rintro e w7 ⟨ev, rfl, he, hb7⟩
        have HX : Hid (ErrAt w7 w.heap.size ev R ∧ Below w.heap.size w w7) := ⟨by rw [HRR.out]; exact he.below (Below.refl _ _) HG4.out.below.size, (HG4.out.low hb7).below⟩
        clear he hb7
        go_wp2
        go_ret
        exact ⟨_, rfl, HX.out⟩
      | false =>
        have HR3 : Hid (R = if valE M = 0 then none else some (31, plN fs (tagR (M.z 0) (valN M)), tagR (M.z 0) (valN M))) := by show _ = _; rw [HR2.out, if_neg (by decide)]
        clear HR2
        go_upto_region 7 with fail
        refine wp_region_lit ?_
        refine wpList_loadM HG4.out.msg (.tmp 3) rfl rfl rfl ?_
        simp only [Act.put, List.setIfInBounds_toArray, List.set_cons_zero, List.set_cons_succ]
        rw [hcs]
        go_wp2_with (go_at_call 13; fail)
        have hvc := Valid_any M wc (HS.out.2.1.below HG4.out.below HS.out.2.2.1) HS.out.2.2.2
        rw [hcs] at hvc
        refine hvc.mono ?_
        clear hvc
        rintro e w5 ⟨rfl, hb5⟩
        have HG5 : Hid (GI w w5 w.heap.size M) := HG4.out.low hb5
        clear hb5 HG4
        have l5 : w5.cell? ⟨w.heap.size, 0, none⟩ = some (.int .i64 (M.z 0)) := HG5.out.msg.cell 0 (by decide)
        by_cases hv : valE M = 0
        · rw [hv]
          have HRR : Hid (R = none) := by show _ = _; rw [HR3.out, if_pos hv]
          clear HR3 hv
          go_wp2
          go_ret
          exact ⟨_, rfl, by rw [HRR.out]; rfl, HG5.out.below⟩
        · have hvb : (valE M != 0) = true := by simpa using hv
          have HRR : Hid (R = some (31, plN fs (tagR (M.z 0) (valN M)), tagR (M.z 0) (valN M))) := by show _ = _; rw [HR3.out, if_neg hv]
          have HT := fun w' => tagOf_any (M.z 0) (valN M) w'
          clear HR3 hv
          generalize valE M = E at *
          generalize valN M = N at *
          generalize tagR (M.z 0) N = T at *
          go_wp2_with (first | (go_at_call 37; refine (HT _).mono ?_; rintro e w6 ⟨rfl, rfl⟩) | (go_at_call 214; fail))
          refine (HP.out _ _ HG5.out.below).mono ?_
          rintro e w6 ⟨rfl, hb6⟩
          have HG6 : Hid (GI w w6 w.heap.size M) := HG5.out.low hb6
          clear hb6 HG5 l5
          go_wp2_with (go_at_call 212; fail)
          refine (HFA.out _ (plN fs T) _ _).mono ?_
          rintro e w7 ⟨ev, rfl, he, hb7⟩
          have HX : Hid (ErrAt w7 w.heap.size ev R ∧ Below w.heap.size w w7) := ⟨by rw [HRR.out]; exact he.below (Below.refl _ _) HG6.out.below.size, (HG6.out.low hb7).below⟩
          clear he hb7
          go_wp2
          go_ret
          exact ⟨_, rfl, HX.out⟩
end Go.Proofs.YtchkpggdndnpjabGreatDoor

namespace Go.Proofs.YtchkpggdndnpjabGreatDoor
set_option linter.unusedVariables false
open Go.RowKit Go.Great

theorem results_cr2 {P : Program} {fn : Func} {p u : Tmp} {ty : TypeId} (h : fn.results = #[.cell p ty, .tmp u]) (tmps : Array Value) (w : World) (g : Nat) (t : TypeId) (cs : Array Value) (fr : Nat × Nat) (d : TypeDesc)
    (hp : tmps.getD p undef = .pointer (some ⟨g, 0, none⟩)) (hg : w.heap[g]? = some (.cells cs t fr))
    (hu : P.underlying ty = some d) (hd : (match d with | .struct _ | .array _ _ => true | _ => false) = true) (hi : (P.info? ty).map (·.size) = some cs.size) :
    (results fn tmps).run P w = .ok (.tuple #[.agg cs, tmps.getD u undef]) w := by
  rw [results_cell_tmp h, hp]
  simp [asAddr, run_loadVar_row w g t ty cs fr d hg hu hd hi, Result.andThen]
theorem wpList_callF {P : Program} {ops : Array Oper} {rest : List Oper} {op : Oper} {a : Act} {w : World} {Q : Exit → Act → World → Prop} (hg : op.guard = none) (d : Option Tmp) (hd : op.dst = d)
    (f : FuncId) (args : Array Value) (hrun : (execOp a.eval op).run P w = .ok (.enter f args) w) {R : Ending → World → Prop} (hc : Calls P f args w R)
    (h : ∀ e w', R e w' → ∃ v, e = .returned v ∧ wpList P ops Q rest (a.put d v) w') : wpList P ops Q (op :: rest) a w := by
  subst hd
  refine wpList_plain hg fun K hK => ?_
  unfold Oper.wp
  rw [hrun, Oper.upon_enter]
  refine hc.mono fun e w'' hh => ?_
  obtain ⟨v, rfl, hw⟩ := h _ _ hh
  exact hK _ _ hw
/-- The message that is read of fields; what is wrong with them. -/
def rdM (fs : List Fld) : Msg := gaM fs (slts (rkK fs))
def orX (a b : Option (Int × Nat × Int)) : Option (Int × Nat × Int) := match a with | some x => some x | none => b
def rdX (fs : List Fld) : Option (Int × Nat × Int) := orX (rkE fs) (orX (ceE fs (slts (rkK fs))) (orX (cmE fs (slts (rkK fs))) (cfE fs (rdM fs))))
def FxRet (l : List UInt8) (w : World) (x : Ending) (w' : World) : Prop := Below w.heap.size w w' ∧ match splitL l with
  | .error (e, a) => ∃ g, w.heap.size ≤ g ∧ x = .returned (.tuple #[.agg zeroM.cs, .iface 62 (.pointer (some ⟨g, 0, none⟩))]) ∧ FaultAt w' g e a
  | .ok fs => ∃ ev, x = .returned (.tuple #[.agg (rdM fs).cs, ev]) ∧ ErrAt w' w.heap.size ev (rdX fs)
theorem FxRet.good {l : List UInt8} {w w' : World} {x : Ending} {fs : List Fld} (h : splitL l = .ok fs) (ev : Value) (hx : x = .returned (.tuple #[.agg (rdM fs).cs, ev])) (he : ErrAt w' w.heap.size ev (rdX fs)) (hb : Below w.heap.size w w') : FxRet l w x w' := by
  unfold FxRet
  rw [h]
  exact ⟨hb, ev, hx, he⟩
theorem ErrAt.row {w : World} {B C : Nat} {v : Value} {x : Option (Int × Nat × Int)} (h : ErrAt w C v x) (hB : B < C) (X : Array Value) : ErrAt (w.setRow B X) B v x := by
  cases x with
  | none => exact h
  | some x =>
    obtain ⟨e, a, t⟩ := x
    obtain ⟨h1, rfl, f, q1, q2, q3, q4⟩ := h
    exact ⟨h1, rfl, f, by omega, by omega, (setRow_other _ _ _ _ (by omega)).trans q3, (setRow_other _ _ _ _ (by omega)).trans q4⟩
structure RI (w wx : World) (g : Nat) (M : Msg) (v sv : Value) (fs : List Fld) (l : List Slt) : Prop where
  res : OwnM wx w.heap.size zeroM
  m : OwnM wx g M
  src : SrcF wx v fs
  slt : SltAt wx sv l
  below : Below w.heap.size w wx
theorem RI.low {w wx w' : World} {g : Nat} {M : Msg} {v sv : Value} {fs : List Fld} {l : List Slt} (h : RI w wx g M v sv fs l) (hb : Below wx.heap.size wx w') : RI w w' g M v sv fs l :=
  ⟨h.res.low hb, h.m.low hb, h.src.below hb, h.slt.below hb, h.below.trans (hb.mono h.below.size)⟩
set_option maxRecDepth 100000 in
set_option maxHeartbeats 1000000 in
theorem read_any (v : Value) (l : List UInt8) (w : World) (hl : l.length ≤ 9223372036854775807) (hv : SrcB w v l) (hM : Mon w) (hp : Pow w) :
    Calls Tryz.prog 29 #[v] w fun x w' => FxRet l w x w' := by
  have HM : Hid (Mon w ∧ 2 < w.heap.size) := ⟨hM, hM.lt⟩
  have HB1 : Hid (OwnM (w.alloc (.cells zeroM.cs 23)) w.heap.size zeroM ∧ Below w.heap.size w (w.alloc (.cells zeroM.cs 23))) := ⟨heap_alloc_new w _, (Below.refl _ w).alloc (Nat.le_refl _) _⟩
  have HSp := Split_any v l _ hl (hv.below HB1.out.2) (hp.below HB1.out.2)
  clear hM hp hv hl
  go_enter Tryz.func29, Tryz.ntmps29
  go_upto_region 1 with fail
  generalize hW : World.alloc w _ = w1
  have hW1 : w.alloc (.cells zeroM.cs 23) = w1 := hW
  rw [hW1] at HSp HB1
  clear hW hW1
  go_wp2_with (go_at_call 61; fail)
  refine HSp.mono ?_
  clear HSp
  rintro e w2 hsp
  obtain ⟨R, hR⟩ : ∃ R, splitL l = R := ⟨_, rfl⟩
  rw [hR] at hsp
  have HR : Hid (splitL l = R) := hR
  clear hR
  cases R with
  | error x =>
    obtain ⟨e0, a0⟩ := x
    obtain ⟨hb2, g, hg, rfl, hfa⟩ := hsp
    have HX : Hid (OwnM w2 w.heap.size zeroM ∧ Below w.heap.size w w2 ∧ w.heap.size < g ∧ FaultAt w2 g e0 a0) := ⟨HB1.out.1.low hb2, HB1.out.2.trans (hb2.mono HB1.out.2.size), Nat.lt_of_lt_of_le HB1.out.1.lt hg, hfa⟩
    clear hb2 hfa hg HB1
    go_upto_region 3 with fail
    rename_i K hK
    refine wp_region_lit ?_
    refine wpList_runTo rfl (some 16) rfl (.agg zeroM.cs) w2 (by kernel_rfl) ?_
    refine wpList_runTo rfl (some 17) rfl (.iface 62 (.pointer (some ⟨g, 0, none⟩))) w2 (by kernel_rfl) ?_
    refine wpList_store_row rfl 23 (.tmp 2) (.tmp 16) rfl w.heap.size zeroM.cs (by rfl) (by rfl) 23 _ HX.out.1 (by rw [Msg.cs_size]; kernel_rfl) (by rw [Msg.cs_size]) (Msg.cs_one _) ?_
    refine wpList_runTo rfl (some 3) rfl (.iface 62 (.pointer (some ⟨g, 0, none⟩))) (w2.setRow w.heap.size zeroM.cs) (by kernel_rfl) ?_
    refine wpList_nil ?_
    refine hK _ _ ?_
    apply wp_ret
    refine bodyPost_ret (results_cr2 (fn := Tryz.f29) (p := 2) (u := 3) (ty := 23) rfl _ _ w.heap.size 23 zeroM.cs (0, 0) _ (by rfl) (setRow_heap _ _ _ _ _ _ HX.out.1) Tryz.underlying23 rfl (by rw [Msg.cs_size]; kernel_rfl)) (by rfl) ?_
    unfold FxRet
    rw [HR.out]
    exact ⟨below_setRow HX.out.2.1 (Nat.le_refl _) _, g, Nat.le_of_lt HX.out.2.2.1, rfl, (setRow_other _ _ _ _ (Nat.ne_of_gt HX.out.2.2.1)).trans HX.out.2.2.2⟩
  | ok fs =>
    obtain ⟨hb2, v2, rfl, ho2⟩ := hsp
    have HSP : Hid (splitL l = .ok fs) := HR.out
    have hsm := split_small HR.out
    have HSM : Hid (fs.length ≤ 1048576 ∧ (∀ f ∈ fs, f.2.length ≤ maxLen)) := ⟨by omega, fun f hf => by have := (hsm.2.2 f hf).2.2; unfold maxLen; omega⟩
    have HX2 : Hid (OwnM w2 w.heap.size zeroM ∧ SrcF w2 v2 fs ∧ Below w.heap.size w w2 ∧ w.heap.size < w2.heap.size) := ⟨HB1.out.1.low hb2, ho2.src, HB1.out.2.trans (hb2.mono HB1.out.2.size), (HB1.out.1.low hb2).lt⟩
    clear hb2 ho2 HB1 hsm HR
    go_wp2_with (go_at_call 62; fail)
    refine (readKind_any v2 fs w2 HX2.out.2.1).mono ?_
    rintro e w3 ⟨ev, rfl, he3, hb3⟩
    have HX3 : Hid (OwnM w3 w.heap.size zeroM ∧ SrcF w3 v2 fs ∧ Below w.heap.size w w3 ∧ ErrAt w3 (w.heap.size + 1) ev (rkE fs)) := ⟨HX2.out.1.low hb3, HX2.out.2.1.below hb3, HX2.out.2.2.1.trans (hb3.mono HX2.out.2.2.1.size), he3.below (Below.refl _ _) HX2.out.2.2.2⟩
    clear hb3 he3 HX2
    go_wp2_with (go_at_call 14; fail)
    refine (layout_any (rkK fs) w3).mono ?_
    rintro e w4 ⟨sv, rfl, hsl, hb4⟩
    have HX4 : Hid (OwnM w4 w.heap.size zeroM ∧ SrcF w4 v2 fs ∧ SltAt w4 sv (slts (rkK fs)) ∧ Below w.heap.size w w4 ∧ ErrAt w4 (w.heap.size + 1) ev (rkE fs)) := ⟨HX3.out.1.low hb4, HX3.out.2.1.below hb4, SltAt.of hsl, HX3.out.2.2.1.trans (hb4.mono HX3.out.2.2.1.size), HX3.out.2.2.2.below hb4 (Nat.le_refl _)⟩
    clear hb4 hsl HX3
    have HSL : Hid ((slts (rkK fs)).length ≤ 45 ∧ ∀ t ∈ slts (rkK fs), t.2.2 < 45) := ⟨slU_len _ 45, fun t h => slts_row h⟩
    have HG := gather_any v2 sv fs (slts (rkK fs)) w4 HX4.out.2.1 HX4.out.2.2.1 (HM.out.1.below HX4.out.2.2.2.1 HM.out.2) HSM.out.1 HSL.out.1 HSL.out.2 HSM.out.2
    have HOK : Hid ((rdM fs).ok) := gaM_ok HSL.out.2
    have HRX : Hid (rdX fs = orX (rkE fs) (orX (ceE fs (slts (rkK fs))) (orX (cmE fs (slts (rkK fs))) (cfE fs (rdM fs))))) := rfl
    change Calls Tryz.prog 63 #[v2, sv] w4 fun x w' => x = .returned (.agg (rdM fs).cs) ∧ Below w4.heap.size w4 w' at HG
    obtain ⟨GM, hGM⟩ : ∃ GM, GM = rdM fs := ⟨_, rfl⟩
    have HGM : Hid (GM = rdM fs) := hGM
    rw [← hGM] at HG HOK HRX
    clear hGM
    generalize hsl : slts (rkK fs) = sl at *
    clear hsl
    obtain ⟨av2, cv2, rfl⟩ : ∃ a c, v2 = .slice a fs.length c := by obtain ⟨a, c, h, -⟩ := HX4.out.2.1; exact ⟨a, c, h⟩
    obtain ⟨asv, csv, rfl⟩ : ∃ a c, sv = .slice a sl.length c := by obtain ⟨a, c, h, -⟩ := HX4.out.2.2.1; exact ⟨a, c, h⟩
    generalize hnf : fs.length = nf at *
    generalize hns : sl.length = ns at *
    have Hns : Hid (fs.length = nf ∧ sl.length = ns) := ⟨hnf, hns⟩
    clear hnf hns
    go_upto_region 6 with fail
    rename_i K6 hK6
    refine wp_region_lit ?_
    refine wpList_runTo rfl (some 25) rfl (.slice av2 nf cv2) w4 (by kernel_rfl) ?_
    refine wpList_runTo rfl (some 26) rfl (.slice asv ns csv) w4 (by kernel_rfl) ?_
    refine wpList_callF rfl (some 27) rfl 63 #[.slice av2 nf cv2, .slice asv ns csv] (by kernel_rfl) HG ?_
    rintro e w5 ⟨rfl, hb5⟩
    refine ⟨_, rfl, ?_⟩
    have HX5 : Hid (OwnM w5 w.heap.size zeroM ∧ SrcF w5 (.slice av2 nf cv2) fs ∧ SltAt w5 (.slice asv ns csv) sl ∧ Below w.heap.size w w5 ∧ ErrAt w5 (w.heap.size + 1) ev (rkE fs)) := ⟨HX4.out.1.low hb5, HX4.out.2.1.below hb5, HX4.out.2.2.1.below hb5, HX4.out.2.2.2.1.trans (hb5.mono HX4.out.2.2.2.1.size), HX4.out.2.2.2.2.below hb5 (Nat.le_refl _)⟩
    clear hb5 HX4 HG
    refine wpList_runTo rfl (some 8) rfl (.pointer (some ⟨w5.heap.size, 0, none⟩)) (w5.alloc (.cells zeroM.cs 23)) (by kernel_rfl) ?_
    refine wpList_store_row rfl 23 (.tmp 8) (.tmp 27) rfl w5.heap.size GM.cs (by rfl) (by rfl) 23 _ (heap_alloc_new w5 _) (by rw [Msg.cs_size]; kernel_rfl) (by rw [Msg.cs_size, Msg.cs_size]) (Msg.cs_one _) ?_
    refine wpList_nil ?_
    refine hK6 _ _ ?_
    clear hK6
    simp only [Act.put, List.setIfInBounds_toArray, List.set_cons_zero, List.set_cons_succ]
    have hb6 : Below w5.heap.size w5 ((w5.alloc (.cells zeroM.cs 23)).setRow w5.heap.size GM.cs) := below_setRow ((Below.refl _ w5).alloc (Nat.le_refl _) _) (Nat.le_refl _) _
    have HX6 : Hid (RI w ((w5.alloc (.cells zeroM.cs 23)).setRow w5.heap.size GM.cs) w5.heap.size GM (.slice av2 nf cv2) (.slice asv ns csv) fs sl ∧ ErrAt ((w5.alloc (.cells zeroM.cs 23)).setRow w5.heap.size GM.cs) (w.heap.size + 1) ev (rkE fs)) :=
      ⟨⟨HX5.out.1.low hb6, setRow_heap _ _ _ _ _ _ (heap_alloc_new w5 _), HX5.out.2.1.below hb6, HX5.out.2.2.1.below hb6, HX5.out.2.2.2.1.trans (hb6.mono HX5.out.2.2.2.1.size)⟩, HX5.out.2.2.2.2.below hb6 (Nat.le_refl _)⟩
    clear hb6 HX5
    generalize (w5.alloc (.cells zeroM.cs 23)).setRow w5.heap.size GM.cs = w6 at *
    cases hk : rkE fs with
    | some x0 =>
      obtain ⟨x1, x2, x3⟩ := x0
      have HE : Hid (RI w w6 w5.heap.size GM (.slice av2 nf cv2) (.slice asv ns csv) fs sl ∧ ErrAt w6 (w.heap.size + 1) ev (rdX fs)) := ⟨HX6.out.1, by rw [HRX.out, hk]; have h := HX6.out.2; rw [hk] at h; exact h⟩
      obtain ⟨hh, rfl, -⟩ : ∃ hh, ev = .iface 103 (.pointer (some ⟨hh, 0, none⟩)) ∧ True := by have h := HX6.out.2; rw [hk] at h; obtain ⟨hh, e, -⟩ := h; exact ⟨hh, e, trivial⟩
      clear HX6 hk
      go_upto_region 13 with fail
      rename_i K hK
      refine wp_region_lit ?_
      refine wpList_loadM HE.out.1.m (.tmp 8) rfl rfl rfl ?_
      refine wpList_runTo rfl (some 44) rfl (.iface 103 (.pointer (some ⟨hh, 0, none⟩))) w6 (by kernel_rfl) ?_
      refine wpList_store_row rfl 23 (.tmp 2) (.tmp 43) rfl w.heap.size GM.cs (by rfl) (by rfl) 23 _ HE.out.1.res (by rw [Msg.cs_size]; kernel_rfl) (by rw [Msg.cs_size, Msg.cs_size]) (Msg.cs_one _) ?_
      refine wpList_runTo rfl (some 3) rfl (.iface 103 (.pointer (some ⟨hh, 0, none⟩))) (w6.setRow w.heap.size GM.cs) (by kernel_rfl) ?_
      refine wpList_nil ?_
      refine hK _ _ ?_
      apply wp_ret
      refine bodyPost_ret (results_cr2 (fn := Tryz.f29) (p := 2) (u := 3) (ty := 23) rfl _ _ w.heap.size 23 GM.cs (0, 0) _ (by rfl) (setRow_heap _ _ _ _ _ _ HE.out.1.res) Tryz.underlying23 rfl (by rw [Msg.cs_size]; kernel_rfl)) (by rfl) ?_
      exact FxRet.good HSP.out (.iface 103 (.pointer (some ⟨hh, 0, none⟩))) (by rw [HGM.out]; rfl) (HE.out.2.row (Nat.lt_succ_self _) _) (below_setRow HE.out.1.below (Nat.le_refl _) _)
    | none =>
      obtain rfl : ev = .nilIface := by have h := HX6.out.2; rw [hk] at h; exact h
      have HR1 : Hid (rdX fs = orX (ceE fs sl) (orX (cmE fs sl) (cfE fs GM))) := by show _ = _; rw [HRX.out, hk]; rfl
      have HI6 : Hid (RI w w6 w5.heap.size GM (.slice av2 nf cv2) (.slice asv ns csv) fs sl) := HX6.out.1
      clear HX6 HRX hk
      go_wp2_with (go_at_call 64; fail)
      refine (checkEach_any _ _ fs sl w6 HI6.out.src HI6.out.slt (HM.out.1.below HI6.out.below HM.out.2) (by have := HSM.out.1; have := Hns.out.1; omega) (by have := HSL.out.1; have := Hns.out.2; omega) HSL.out.2 HSM.out.2).mono ?_
      rintro e w7 ⟨ev, rfl, he7, hb7⟩
      have HI7 : Hid (RI w w7 w5.heap.size GM (.slice av2 nf cv2) (.slice asv ns csv) fs sl ∧ ErrAt w7 (w.heap.size + 1) ev (ceE fs sl)) := ⟨HI6.out.low hb7, he7.below (Below.refl _ _) HI6.out.res.lt⟩
      clear hb7 he7 HI6
      cases hk : ceE fs sl with
      | some x0 =>
        obtain ⟨x1, x2, x3⟩ := x0
        have HE : Hid (RI w w7 w5.heap.size GM (.slice av2 nf cv2) (.slice asv ns csv) fs sl ∧ ErrAt w7 (w.heap.size + 1) ev (rdX fs)) := ⟨HI7.out.1, by rw [HR1.out, hk]; have h := HI7.out.2; rw [hk] at h; exact h⟩
        obtain ⟨hh, rfl, -⟩ : ∃ hh, ev = .iface 103 (.pointer (some ⟨hh, 0, none⟩)) ∧ True := by have h := HI7.out.2; rw [hk] at h; obtain ⟨hh, e, -⟩ := h; exact ⟨hh, e, trivial⟩
        clear HI7 hk
        go_upto_region 13 with fail
        rename_i K hK
        refine wp_region_lit ?_
        refine wpList_loadM HE.out.1.m (.tmp 8) rfl rfl rfl ?_
        refine wpList_runTo rfl (some 44) rfl (.iface 103 (.pointer (some ⟨hh, 0, none⟩))) w7 (by kernel_rfl) ?_
        refine wpList_store_row rfl 23 (.tmp 2) (.tmp 43) rfl w.heap.size GM.cs (by rfl) (by rfl) 23 _ HE.out.1.res (by rw [Msg.cs_size]; kernel_rfl) (by rw [Msg.cs_size, Msg.cs_size]) (Msg.cs_one _) ?_
        refine wpList_runTo rfl (some 3) rfl (.iface 103 (.pointer (some ⟨hh, 0, none⟩))) (w7.setRow w.heap.size GM.cs) (by kernel_rfl) ?_
        refine wpList_nil ?_
        refine hK _ _ ?_
        apply wp_ret
        refine bodyPost_ret (results_cr2 (fn := Tryz.f29) (p := 2) (u := 3) (ty := 23) rfl _ _ w.heap.size 23 GM.cs (0, 0) _ (by rfl) (setRow_heap _ _ _ _ _ _ HE.out.1.res) Tryz.underlying23 rfl (by rw [Msg.cs_size]; kernel_rfl)) (by rfl) ?_
        exact FxRet.good HSP.out (.iface 103 (.pointer (some ⟨hh, 0, none⟩))) (by rw [HGM.out]; rfl) (HE.out.2.row (Nat.lt_succ_self _) _) (below_setRow HE.out.1.below (Nat.le_refl _) _)
      | none =>
        obtain rfl : ev = .nilIface := by have h := HI7.out.2; rw [hk] at h; exact h
        have HR2 : Hid (rdX fs = orX (cmE fs sl) (cfE fs GM)) := by show _ = _; rw [HR1.out, hk]; rfl
        have HJ7 : Hid (RI w w7 w5.heap.size GM (.slice av2 nf cv2) (.slice asv ns csv) fs sl) := HI7.out.1
        clear HI7 HR1 hk
        go_wp2_with (go_at_call 65; fail)
        refine (checkMissing_any _ _ fs sl w7 HJ7.out.src HJ7.out.slt (by have := HSM.out.1; have := Hns.out.1; omega) (by have := HSL.out.1; have := Hns.out.2; omega)).mono ?_
        rintro e w8 ⟨ev, rfl, he8, hb8⟩
        have HI8 : Hid (RI w w8 w5.heap.size GM (.slice av2 nf cv2) (.slice asv ns csv) fs sl ∧ ErrAt w8 (w.heap.size + 1) ev (cmE fs sl)) := ⟨HJ7.out.low hb8, he8.below (Below.refl _ _) HJ7.out.res.lt⟩
        clear hb8 he8 HJ7
        cases hk : cmE fs sl with
        | some x0 =>
          obtain ⟨x1, x2, x3⟩ := x0
          have HE : Hid (RI w w8 w5.heap.size GM (.slice av2 nf cv2) (.slice asv ns csv) fs sl ∧ ErrAt w8 (w.heap.size + 1) ev (rdX fs)) := ⟨HI8.out.1, by rw [HR2.out, hk]; have h := HI8.out.2; rw [hk] at h; exact h⟩
          obtain ⟨hh, rfl, -⟩ : ∃ hh, ev = .iface 103 (.pointer (some ⟨hh, 0, none⟩)) ∧ True := by have h := HI8.out.2; rw [hk] at h; obtain ⟨hh, e, -⟩ := h; exact ⟨hh, e, trivial⟩
          clear HI8 hk
          go_upto_region 13 with fail
          rename_i K hK
          refine wp_region_lit ?_
          refine wpList_loadM HE.out.1.m (.tmp 8) rfl rfl rfl ?_
          refine wpList_runTo rfl (some 44) rfl (.iface 103 (.pointer (some ⟨hh, 0, none⟩))) w8 (by kernel_rfl) ?_
          refine wpList_store_row rfl 23 (.tmp 2) (.tmp 43) rfl w.heap.size GM.cs (by rfl) (by rfl) 23 _ HE.out.1.res (by rw [Msg.cs_size]; kernel_rfl) (by rw [Msg.cs_size, Msg.cs_size]) (Msg.cs_one _) ?_
          refine wpList_runTo rfl (some 3) rfl (.iface 103 (.pointer (some ⟨hh, 0, none⟩))) (w8.setRow w.heap.size GM.cs) (by kernel_rfl) ?_
          refine wpList_nil ?_
          refine hK _ _ ?_
          apply wp_ret
          refine bodyPost_ret (results_cr2 (fn := Tryz.f29) (p := 2) (u := 3) (ty := 23) rfl _ _ w.heap.size 23 GM.cs (0, 0) _ (by rfl) (setRow_heap _ _ _ _ _ _ HE.out.1.res) Tryz.underlying23 rfl (by rw [Msg.cs_size]; kernel_rfl)) (by rfl) ?_
          exact FxRet.good HSP.out (.iface 103 (.pointer (some ⟨hh, 0, none⟩))) (by rw [HGM.out]; rfl) (HE.out.2.row (Nat.lt_succ_self _) _) (below_setRow HE.out.1.below (Nat.le_refl _) _)
        | none =>
          obtain rfl : ev = .nilIface := by have h := HI8.out.2; rw [hk] at h; exact h
          have HR3 : Hid (rdX fs = cfE fs GM) := by show _ = _; rw [HR2.out, hk]; rfl
          have HJ8 : Hid (RI w w8 w5.heap.size GM (.slice av2 nf cv2) (.slice asv ns csv) fs sl) := HI8.out.1
          clear HI8 HR2 hk
          have HCF := checkFit_any _ fs GM w8 HJ8.out.src (HM.out.1.below HJ8.out.below HM.out.2) HOK.out (by have := HSM.out.1; have := Hns.out.1; omega)
          go_upto_region 12 with fail
          rename_i K12 hK12
          refine wp_region_lit ?_
          refine wpList_runTo rfl (some 40) rfl (.slice av2 nf cv2) w8 (by kernel_rfl) ?_
          refine wpList_loadM HJ8.out.m (.tmp 8) rfl rfl rfl ?_
          refine wpList_callF rfl (some 42) rfl 66 #[.slice av2 nf cv2, .agg GM.cs] (by kernel_rfl) HCF ?_
          rintro e w9 ⟨ev, rfl, he9, hb9⟩
          refine ⟨_, rfl, ?_⟩
          refine wpList_runTo rfl (some 5) rfl ev w9 (by kernel_rfl) ?_
          refine wpList_nil ?_
          refine hK12 _ _ ?_
          clear hK12
          simp only [Act.put, List.setIfInBounds_toArray, List.set_cons_zero, List.set_cons_succ]
          have HE : Hid (RI w w9 w5.heap.size GM (.slice av2 nf cv2) (.slice asv ns csv) fs sl ∧ ErrAt w9 (w.heap.size + 1) ev (rdX fs)) := ⟨HJ8.out.low hb9, by rw [HR3.out]; exact he9.below (Below.refl _ _) HJ8.out.res.lt⟩
          clear hb9 he9 HJ8 HCF
          go_upto_region 13 with fail
          rename_i K hK
          refine wp_region_lit ?_
          refine wpList_loadM HE.out.1.m (.tmp 8) rfl rfl rfl ?_
          refine wpList_runTo rfl (some 44) rfl ev w9 (by kernel_rfl) ?_
          refine wpList_store_row rfl 23 (.tmp 2) (.tmp 43) rfl w.heap.size GM.cs (by rfl) (by rfl) 23 _ HE.out.1.res (by rw [Msg.cs_size]; kernel_rfl) (by rw [Msg.cs_size, Msg.cs_size]) (Msg.cs_one _) ?_
          refine wpList_runTo rfl (some 3) rfl ev (w9.setRow w.heap.size GM.cs) (by kernel_rfl) ?_
          refine wpList_nil ?_
          refine hK _ _ ?_
          apply wp_ret
          refine bodyPost_ret (results_cr2 (fn := Tryz.f29) (p := 2) (u := 3) (ty := 23) rfl _ _ w.heap.size 23 GM.cs (0, 0) _ (by rfl) (setRow_heap _ _ _ _ _ _ HE.out.1.res) Tryz.underlying23 rfl (by rw [Msg.cs_size]; kernel_rfl)) (by rfl) ?_
          exact FxRet.good HSP.out ev (by rw [HGM.out]; rfl) (HE.out.2.row (Nat.lt_succ_self _) _) (below_setRow HE.out.1.below (Nat.le_refl _) _)
end Go.Proofs.YtchkpggdndnpjabGreatDoor

namespace Go.Proofs.YtchkpggdndnpjabGreatDoor
set_option linter.unusedVariables false
set_option linter.unusedSimpArgs false
open Go.RowKit

set_option maxRecDepth 100000 in
theorem num_tab : ((List.range 45).all fun r => (List.range 45).all fun s => !(xNum.getD r 0 == xNum.getD s 0) || r == s) = true := by kernel_rfl
theorem num_inj {r s : Nat} (hr : r < 45) (hs : s < 45) (h : xNum.getD r 0 = xNum.getD s 0) : r = s := by
  have := List.all_eq_true.1 (List.all_eq_true.1 num_tab r (List.mem_range.2 hr)) s (List.mem_range.2 hs)
  rw [h] at this
  simpa using this
theorem num_not : ((List.range 45).all fun r => !(xNum.getD r 0 == 380) && !(xNum.getD r 0 == 102) && !(xNum.getD r 0 == 103) && !(xNum.getD r 0 == 532)) = true := by kernel_rfl
theorem tagR_373 (k : Int) : tagR k 373 = 373 ∨ tagR k 373 = 380 ∨ tagR k 373 = 102 ∨ tagR k 373 = 103 ∨ tagR k 373 = 532 := by
  unfold tagR
  rw [if_pos rfl]
  split
  · simp
  · split
    · simp
    · split
      · simp
      · split <;> simp
theorem tag_other {k n : Int} (h : n ≠ 373) : tagR k n = n := by unfold tagR; rw [if_neg h]
theorem tag_inj (k : Int) {r s : Nat} (hr : r < 45) (hs : s < 45) (h : tagR k (xNum.getD r 0) = tagR k (xNum.getD s 0)) : r = s := by
  have key : ∀ {u : Nat}, u < 45 → xNum.getD u 0 ≠ 373 → tagR k 373 = xNum.getD u 0 → False := fun {u} hu hne e => by
    have := List.all_eq_true.1 num_not u (List.mem_range.2 hu)
    simp only [Bool.and_eq_true, Bool.not_eq_true', beq_eq_false_iff_ne, ne_eq] at this
    rcases tagR_373 k with q | q | q | q | q <;> rw [q] at e
    · exact hne e.symm
    · exact this.1.1.1 e.symm
    · exact this.1.1.2 e.symm
    · exact this.1.2 e.symm
    · exact this.2 e.symm
  by_cases h1 : xNum.getD r 0 = 373
  · by_cases h2 : xNum.getD s 0 = 373
    · exact num_inj hr hs (h1.trans h2.symm)
    · rw [h1, tag_other h2] at h; exact (key hs h2 h).elim
  · by_cases h2 : xNum.getD s 0 = 373
    · rw [h2, tag_other h1] at h; exact (key hr h1 h.symm).elim
    · rw [tag_other h1, tag_other h2] at h; exact num_inj hr hs h
/-- A slot of a kind. -/
theorem slts_mem {k : Int} {t : Slt} : t ∈ slts k ↔ t.2.2 < 45 ∧ hasK k t.2.2 ≠ 0 ∧ t.1 = tagR k (xNum.getD t.2.2 0) ∧ t.2.1 = (hasK k t.2.2 == 2) := by
  unfold slts slU
  rw [List.mem_filterMap]
  constructor
  · rintro ⟨r, hr, e⟩
    unfold slotF at e
    split at e
    · cases e
    · rename_i h; cases e; exact ⟨List.mem_range.1 hr, h, rfl, rfl⟩
  · rintro ⟨h1, h2, h3, h4⟩
    refine ⟨t.2.2, List.mem_range.2 h1, ?_⟩
    unfold slotF
    rw [if_neg (show ¬ hasR k (xNum.getD t.2.2 0) = 0 from h2)]
    obtain ⟨a, b, c⟩ := t
    dsimp only at h3 h4 ⊢
    rw [h3, h4]; rfl
theorem slts_inj {k : Int} {t u : Slt} (ht : t ∈ slts k) (hu : u ∈ slts k) (h : t.1 = u.1) : t = u := by
  obtain ⟨a1, a2, a3, a4⟩ := slts_mem.1 ht
  obtain ⟨b1, b2, b3, b4⟩ := slts_mem.1 hu
  have e : t.2.2 = u.2.2 := tag_inj k a1 b1 (by rw [← a3, ← b3]; exact h)
  obtain ⟨x, y, z⟩ := t
  obtain ⟨x', y', z'⟩ := u
  dsimp only at *
  subst e h
  rw [a4, b4]
theorem ix_hit {p : Fld → Bool} : ∀ {fs : List Fld} {f : Fld}, f ∈ fs → p f = true → ∃ i, ix p fs = some i
  | [], f, h, _ => by simp at h
  | g :: fs, f, h, hp => by
    unfold ix
    cases hg : p g with
    | true => exact ⟨0, rfl⟩
    | false =>
      have hf : f ∈ fs := by
        rcases List.mem_cons.1 h with e | e
        · subst e; rw [hp] at hg; cases hg
        · exact e
      obtain ⟨i, hi⟩ := ix_hit hf hp
      exact ⟨i + 1, by rw [hi]; rfl⟩
/-- The field of a slot that is written; none of one that is not. -/
def wrt (M : Msg) (t : Slt) : Bool := t.2.1 || thB t.2.2 M
theorem mem_enc {M : Msg} {f : Fld} : f ∈ encF M ↔ ∃ t ∈ slts (M.z 0), wrt M t = true ∧ f = (t.1, (wrS t.2.2 M).data.toList) := by
  unfold encF
  rw [List.mem_filterMap]
  constructor
  · rintro ⟨t, ht, e⟩
    unfold fldF at e
    cases hb : (t.2.1 || thB t.2.2 M) with
    | true => rw [hb] at e; simp at e; exact ⟨t, ht, hb, e.symm⟩
    | false => rw [hb] at e; simp at e
  · rintro ⟨t, ht, hb, rfl⟩
    refine ⟨t, ht, ?_⟩
    unfold wrt at hb
    unfold fldF
    rw [hb]; rfl
theorem enc_yes {M : Msg} {t : Slt} (ht : t ∈ slts (M.z 0)) (hw : wrt M t = true) : (encF M)[plN (encF M) t.1]? = some (t.1, (wrS t.2.2 M).data.toList) := by
  obtain ⟨i, hi⟩ := ix_hit (p := tgB t.1) (mem_enc.2 ⟨t, ht, hw, rfl⟩) (by simp [tgB])
  obtain ⟨f, hf, hp⟩ := ix_lt _ _ _ hi
  unfold plN
  rw [hi]
  dsimp only
  rw [hf]
  obtain ⟨u, hu, -, rfl⟩ := mem_enc.1 (List.mem_of_getElem? hf)
  have : u = t := slts_inj hu ht (by simpa [tgB] using hp)
  rw [this]
theorem enc_no {M : Msg} {t : Slt} (ht : t ∈ slts (M.z 0)) (hw : wrt M t = false) : (encF M)[plN (encF M) t.1]? = none := by
  have : ix (tgB t.1) (encF M) = none := ix_none _ _ fun f hf => by
    obtain ⟨u, hu, hwu, rfl⟩ := mem_enc.1 hf
    by_cases e : u.1 = t.1
    · rw [slts_inj hu ht e, hw] at hwu; cases hwu
    · simp [tgB, e]
  unfold plN
  rw [this]
  exact List.getElem?_eq_none (Nat.le_refl _)
theorem good_ok {M : Msg} (h : Vld M) {t : Slt} (ht : t ∈ slts (M.z 0)) (hw : wrt M t = true) : rdBo t.2.2 (wrS t.2.2 M) = true ∧ wrOk t.2.2 M := by
  obtain ⟨a1, a2, a3, a4⟩ := slts_mem.1 ht
  unfold wrt at hw
  rw [a4] at hw
  generalize t.2.2 = r at *
  have h7 : rdBo 7 (wrS 7 M) = true := eqB_self _
  have h27 : rdBo 27 (wrS 27 M) = true := eqB_self _
  have h44 : rdBo 44 (wrS 44 M) = true := by
    show (eqB (scS (M.s 22)) ⟨#[49]⟩ || eqB (scS (M.s 22)) ⟨#[55]⟩) = true
    unfold scS
    cases (M.s 22).size == 0
    · show (eqB ⟨#[49]⟩ ⟨#[49]⟩ || _) = true; rw [eqB_self]; rfl
    · show (_ || eqB ⟨#[55]⟩ ⟨#[55]⟩) = true; rw [eqB_self, Bool.or_true]
  rcases cases45 a1 with rfl | rfl | rfl | rfl | rfl | rfl | rfl | rfl | rfl | rfl | rfl | rfl | rfl | rfl | rfl | rfl | rfl | rfl | rfl | rfl | rfl | rfl | rfl | rfl | rfl | rfl | rfl | rfl | rfl | rfl | rfl | rfl | rfl | rfl | rfl | rfl | rfl | rfl | rfl | rfl | rfl | rfl | rfl | rfl | rfl
  · exact (good_0 h).ok a2 hw
  · exact (good_1 h).ok a2 hw
  · exact (good_2 h).ok a2 hw
  · exact (good_3 h).ok a2 hw
  · exact (good_4 h).ok a2 hw
  · exact (good_5 h).ok a2 hw
  · exact (good_6 h).ok a2 hw
  · exact ⟨h7, trivial⟩
  · exact (good_8 h).ok a2 hw
  · exact (good_9 h).ok a2 hw
  · exact (good_10 h).ok a2 hw
  · exact (good_11 h).ok a2 hw
  · exact (good_12 h).ok a2 hw
  · exact (good_13 h).ok a2 hw
  · exact (good_14 h).ok a2 hw
  · exact (good_15 h).ok a2 hw
  · exact (good_16 h).ok a2 hw
  · exact (good_17 h).ok a2 hw
  · exact (good_18 h).ok a2 hw
  · exact (good_19 h).ok a2 hw
  · exact (good_20 h).ok a2 hw
  · exact (good_21 h).ok a2 hw
  · exact (good_22 h).ok a2 hw
  · exact (good_23 h).ok a2 hw
  · exact (good_24 h).ok a2 hw
  · exact (good_25 h).ok a2 hw
  · exact ⟨(good26 h a2 hw).1, (good26 h a2 hw).2.1⟩
  · exact ⟨h27, trivial⟩
  · exact (good_28 h).ok a2 hw
  · exact (good_29 h).ok a2 hw
  · exact (good_30 h).ok a2 hw
  · exact (good_31 h).ok a2 hw
  · exact (good_32 h).ok a2 hw
  · exact (good_33 h).ok a2 hw
  · exact (good_34 h).ok a2 hw
  · exact (good_35 h).ok a2 hw
  · exact (good_36 h).ok a2 hw
  · exact (good_37 h).ok a2 hw
  · exact (good_38 h).ok a2 hw
  · exact (good_39 h).ok a2 hw
  · exact (good_40 h).ok a2 hw
  · exact (good_41 h).ok a2 hw
  · exact (good_42 h).ok a2 hw
  · exact (good_43 h).ok a2 hw
  · exact ⟨h44, trivial⟩
theorem ga_step {M : Msg} (h : Vld M) (r : Nat) (hr : r < 45) (A : Msg) : (slotF (M.z 0) r).elim A (gaS (encF M) A) = stepR M r A := by
  unfold stepR slotF
  by_cases h0 : hasK (M.z 0) r = 0
  · rw [if_pos (show hasR (M.z 0) (xNum.getD r 0) = 0 from h0), if_pos h0]; rfl
  · rw [if_neg (show ¬ hasR (M.z 0) (xNum.getD r 0) = 0 from h0), if_neg h0]
    show gaS (encF M) A _ = _
    have ht : (tagR (M.z 0) (xNum.getD r 0), hasR (M.z 0) (xNum.getD r 0) == 2, r) ∈ slts (M.z 0) := slts_mem.2 ⟨hr, h0, rfl, rfl⟩
    unfold gaS
    cases hw : wrt M (tagR (M.z 0) (xNum.getD r 0), hasR (M.z 0) (xNum.getD r 0) == 2, r) with
    | true =>
      rw [enc_yes ht hw]
      have hk := (good_ok h ht hw).1
      dsimp only at hk ⊢
      rw [bs_data, hk]
      change (hasK (M.z 0) r == 2 || thB r M) = true at hw
      rw [hw]
    | false =>
      rw [enc_no ht hw]
      change (hasK (M.z 0) r == 2 || thB r M) = false at hw
      rw [hw]
      rfl
theorem foldl_filterMap {α β γ : Type} (f : α → Option β) (g : γ → β → γ) : ∀ (l : List α) (x : γ), (l.filterMap f).foldl g x = l.foldl (fun A a => (f a).elim A (g A)) x
  | [], x => rfl
  | a :: l, x => by
    rw [List.filterMap_cons]
    cases h : f a with
    | none => simp only [List.foldl_cons, h, Option.elim]; exact foldl_filterMap f g l x
    | some b => simp only [List.foldl_cons, h, Option.elim]; exact foldl_filterMap f g l _
theorem foldl_congr {α γ : Type} {f g : γ → α → γ} : ∀ (l : List α) (x : γ), (∀ A, ∀ a ∈ l, f A a = g A a) → l.foldl f x = l.foldl g x
  | [], x, _ => rfl
  | a :: l, x, h => by
    simp only [List.foldl_cons]
    rw [h x a (by simp), foldl_congr l _ (fun A b hb => h A b (by simp [hb]))]
theorem ga_all {M : Msg} (h : Vld M) : gaM (encF M) (slts (M.z 0)) = goAll M := by
  unfold gaM goAll slts slU
  rw [foldl_filterMap]
  exact foldl_congr _ _ fun A r hr => ga_step h r (List.mem_range.1 hr) A
end Go.Proofs.YtchkpggdndnpjabGreatDoor
