/-
  A stable sort over rows of k cells: two halves in order are merged in place.
-/
import Derived.Test.YtbhddfcdnpidkaaV12
import Derived.Test.YtbhddfcdnpidkaaU6
import Derived.Deep.CutBlock
namespace Go.Proofs.Ytbhddfcdnpidkaa
set_option linter.unusedVariables false
set_option linter.unusedSimpArgs false
set_option linter.unusedSectionVars false
open Go.RowKit Go.Great Go.Shelf Go.Lib Go.Sort
variable {P : Program} {k : Nat} {α : Type} [Inhabited α]

set_option maxHeartbeats 16000000 in
set_option maxRecDepth 1000000 in
theorem symMerge_any (L : Ly P k) (enc : α → List Value) (cf : α → α → Int) (g : Nat) (cb : Array Value) (blk off cap : Nat) (d0 : Array α) (w0 : World)
    (eg : ∀ args w, (callFunc g args).run P w = .ok (.enter g args) w) (hcmp : CmpLays P g cb enc k cf blk off d0.size w0) (R : RowK enc k w0 blk off d0) :
    ∀ (N a m b : Nat) (d : Array α) (w : World), b - a < N → d0.size = d.size → SWK enc k w0 blk off d w → a < m → m < b → b ≤ d.size → d.size < 4611686018427387904 →
    Calls P 70 #[.slice (some ⟨blk, off, none⟩) d.size cap, .int .i64 a, .int .i64 m, .int .i64 b, .func (.func g) #[] cb] w fun e w' => e = .returned (.tuple #[]) ∧ ∃ d', SWK enc k w0 blk off d' w' ∧ Mrg (ltOf cf) a m b d d' := by
  have mixed := L.mixed; have aE := L.aE; have zE := L.zE; have u58 := run_underlying L.t58; have t3 := L.t3; have a3 := L.a3; have z3 := L.z3; have v3 := L.v3; have t4 := L.t4; have a4 := L.a4; have z4 := L.z4; have v4 := L.v4; have t58 := L.t58; have a58 := L.a58; have z58 := L.z58; have v58 := L.v58; have t79 := L.t79; have a79 := L.a79; have z79 := L.z79; have v79 := L.v79; have t96 := L.t96; have a96 := L.a96; have z96 := L.z96; have v96 := L.v96
  have e84 : ∀ args w, (callFunc 84 args).run P w = .ok (.enter 84 args) w := enters_of L.f84 (by kernel_rfl) rfl
  have e70 : ∀ args w, (callFunc 70 args).run P w = .ok (.enter 70 args) w := enters_of L.f70 (by kernel_rfl) rfl
  have HC : Aside _ := hcmp
  clear hcmp
  intro N
  induction N with
  | zero => intro a m b d w hN; omega
  | succ N ih =>
  intro a m b d w hN hs S ham hmb hb hsz
  have IH : Aside _ := ih
  clear ih
  have S0 : Aside (SWK enc k w0 blk off d w) := S
  clear S
  go_enter L.f70, Try.ntmps70
  by_cases h1 : m = a + 1
  case pos => as_aux_lemma =>
    have q1 : (m : Int) - (a : Int) = 1 := by omega
    have H1 : Hid (m = a + 1) := h1
    clear h1
    have qb1 : ((m : Int) - (a : Int) == 1) = true := by simp [q1]
    have HS0 : Hid (Sc1 (ltOf cf) a m b d m b) := Sc1.start
    go_wp2
    go_loopg [10, 11] (b - m) (fun kx s10 s11 wr => ∃ i j : Nat, s10 = .int .i64 i ∧ s11 = .int .i64 j ∧ m ≤ i ∧ i ≤ j ∧ j ≤ b ∧ j - i ≤ kx ∧ Aside (SWK enc k w0 blk off d wr) ∧ Hid (Sc1 (ltOf cf) a m b d i j))
    case atStart => exact ⟨m, b, rfl, rfl, Nat.le_refl _, by omega, Nat.le_refl _, Nat.le_refl _, S0, HS0⟩
    case round =>
      clear S0 HS0
      obtain ⟨i, j, rfl, rfl, hmi, hij, hjb, hkx, S1, HS⟩ := hrel
      by_cases hlt : i < j
      · have hltz : (i : Int) < (j : Int) := by omega
        obtain ⟨h, hh⟩ : ∃ h, h = (i + j) / 2 := ⟨_, rfl⟩
        have zh : ((i : Int) + (j : Int)) / 2 = (h : Int) := by omega
        have hhi : i ≤ h := by omega
        have hhj : h < j := by omega
        clear hh
        cases hv : (ltOf cf) d[h]! d[a]! with
        | true =>
          have HS2 : Hid (Sc1 (ltOf cf) a m b d (h + 1) j) := HS.out.up ham (by omega) (by omega) hv
          clear HS
          have eap : ((h : Int) : Int).toNat = h := by omega
          have pap : (0 : Int) ≤ (h : Int) := by omega
          have bap : (h : Int) < (d.size : Int) := by omega
          have rap : IntKind.i64.wrap ((h : Int)) = (h : Int) := by rw [IntKind.wrap_i64]; omega
          have ecp : ((a : Int) : Int).toNat = a := by omega
          have pcp : (0 : Int) ≤ (a : Int) := by omega
          have bcp : (a : Int) < (d.size : Int) := by omega
          have rcp : IntKind.i64.wrap ((a : Int)) = (a : Int) := by rw [IntKind.wrap_i64]; omega
          obtain ⟨xp, hxp⟩ : ∃ x, x = d[h]! := ⟨_, rfl⟩
          obtain ⟨yp, hyp⟩ : ∃ x, x = d[a]! := ⟨_, rfl⟩
          have lpa := S1.out.ld R (by omega) P (h) (by omega)
          have lpb := S1.out.ld R (by omega) P (a) (by omega)
          rw [← hxp] at lpa
          rw [← hyp] at lpb
          have hcp := S1.out.cmp HC.out (by omega) xp yp
          have hvp : cf xp yp < 0 := by rw [hxp, hyp]; exact of_decide_eq_true hv
          have hdp : decide (cf xp yp < 0) = true := decide_eq_true hvp
          clear hxp hyp
          go_wp2_with fail
          go_quiet_grown (first | (go_at_fn g; refine Calls.grown_of (hcp _ _)))
          have S2 : Aside (SWK enc k w0 blk off d (grow (wr.drewN nq) osq)) := S1.out.grown nq osq
          clear lpa lpb hcp S1 hvp hdp
          generalize grow (wr.drewN nq) osq = w2 at S2 ⊢
          clear nq osq eap ecp pap pcp bap bcp rap rcp

          clear hv
          go_wp2
          go_roundg (j - (h + 1))
          case measure => omega
          case rel => exact ⟨h + 1, j, by first | rfl | go_num | (congr 1; omega), rfl, by omega, by omega, hjb, Nat.le_refl _, S2, HS2⟩
        | false =>
          have HS2 : Hid (Sc1 (ltOf cf) a m b d i h) := HS.out.down ham (by omega) (by omega) hv
          clear HS
          have eap : ((h : Int) : Int).toNat = h := by omega
          have pap : (0 : Int) ≤ (h : Int) := by omega
          have bap : (h : Int) < (d.size : Int) := by omega
          have rap : IntKind.i64.wrap ((h : Int)) = (h : Int) := by rw [IntKind.wrap_i64]; omega
          have ecp : ((a : Int) : Int).toNat = a := by omega
          have pcp : (0 : Int) ≤ (a : Int) := by omega
          have bcp : (a : Int) < (d.size : Int) := by omega
          have rcp : IntKind.i64.wrap ((a : Int)) = (a : Int) := by rw [IntKind.wrap_i64]; omega
          obtain ⟨xp, hxp⟩ : ∃ x, x = d[h]! := ⟨_, rfl⟩
          obtain ⟨yp, hyp⟩ : ∃ x, x = d[a]! := ⟨_, rfl⟩
          have lpa := S1.out.ld R (by omega) P (h) (by omega)
          have lpb := S1.out.ld R (by omega) P (a) (by omega)
          rw [← hxp] at lpa
          rw [← hyp] at lpb
          have hcp := S1.out.cmp HC.out (by omega) xp yp
          have hvp : ¬ cf xp yp < 0 := by rw [hxp, hyp]; exact of_decide_eq_false hv
          have hdp : decide (cf xp yp < 0) = false := decide_eq_false hvp
          clear hxp hyp
          go_wp2_with fail
          go_quiet_grown (first | (go_at_fn g; refine Calls.grown_of (hcp _ _)))
          have S2 : Aside (SWK enc k w0 blk off d (grow (wr.drewN nq) osq)) := S1.out.grown nq osq
          clear lpa lpb hcp S1 hvp hdp
          generalize grow (wr.drewN nq) osq = w2 at S2 ⊢
          clear nq osq eap ecp pap pcp bap bcp rap rcp

          clear hv
          go_wp2
          go_roundg (h - i)
          case measure => omega
          case rel => exact ⟨i, h, rfl, by first | rfl | go_num | (congr 1; omega), hmi, by omega, by omega, Nat.le_refl _, S2, HS2⟩
      · have hltz : ¬ (i : Int) < (j : Int) := by omega
        have e : j = i := by omega
        subst e
        have HR0 : Hid (Rot d d a m (a + 1) ∧ PermIn a b d d) := ⟨by rw [← H1.out]; exact Rot.right d, permIn_refl _ _ _⟩
        go_wp2
        go_loopg [13] (j - a) (fun kx s13 wr2 => ∃ (kk : Nat) (D : Array α), s13 = .int .i64 kk ∧ a ≤ kk ∧ kk + 1 ≤ j ∧ j - kk ≤ kx ∧ D.size = d.size ∧ Aside (SWK enc k w0 blk off D wr2) ∧ Hid (Rot d D a m (kk + 1) ∧ PermIn a b d D))
        case atStart => exact ⟨a, d, rfl, Nat.le_refl _, by omega, Nat.le_refl _, rfl, S1, HR0⟩
        case round =>
          clear S1 HR0
          obtain ⟨kk, D, rfl, hak, hkj, hkx2, hds, S1, HR⟩ := hrel
          by_cases hk2 : kk + 1 < j
          · have hkz : (kk : Int) < (j : Int) - 1 := by omega
            have HR2 : Hid (Rot d (swp D kk (kk + 1)) a m (kk + 1 + 1) ∧ PermIn a b d (swp D kk (kk + 1))) := by
              have r := HR.out.1
              rw [H1.out] at r ⊢
              exact ⟨rot_up hak (by omega) r, permIn_trans _ _ _ _ _ HR.out.2 (swp_permIn D a b kk (kk + 1) (by omega) (by omega) (by omega) (by omega) (by omega))⟩
            clear HR
            go_wp2_with fail
            have eaq : ((kk : Int) : Int).toNat = kk := by omega
            have paq : (0 : Int) ≤ (kk : Int) := by omega
            have baq : (kk : Int) < (d.size : Int) := by omega
            have raq : IntKind.i64.wrap ((kk : Int)) = (kk : Int) := by rw [IntKind.wrap_i64]; omega
            have ecq : ((kk : Int) + 1 : Int).toNat = kk + 1 := by omega
            have pcq : (0 : Int) ≤ (kk : Int) + 1 := by omega
            have bcq : (kk : Int) + 1 < (d.size : Int) := by omega
            have rcq : IntKind.i64.wrap ((kk : Int) + 1) = (kk : Int) + 1 := by rw [IntKind.wrap_i64]; omega
            have S2 : Aside (SWK enc k w0 blk off (swp D (kk) (kk + 1)) ((wr.drew.setCells blk (off + (kk) * k) (enc D[kk + 1]!)).setCells blk (off + (kk + 1) * k) (enc D[kk]!))) := S1.out.swapped R (kk) (kk + 1) (by omega) (by omega)
            have lqa := S1.out.ld1 R (by omega) P (kk) (by omega)
            have lqb := S1.out.ld1 R (by omega) P (kk + 1) (by omega)
            have sqa := S1.out.st1 R (by omega) P (kk) (by omega) D[kk + 1]!
            have sqb := S1.out.st2 R (by omega) P (kk) (kk + 1) (by omega) (by omega) D[kk + 1]! D[kk]!
            have nqa : (enc D[kk]!).length = k := R.hk _
            have nqb : (enc D[kk + 1]!).length = k := R.hk _
            generalize enc D[kk]! = cIq at S2 lqa sqb nqa
            generalize enc D[kk + 1]! = cJq at S2 lqb sqa sqb nqb
            clear S1
            go_wp2_with fail
            go_big_region_o
            clear lqa lqb sqa sqb nqa nqb
            generalize (wr.drew.setCells blk (off + (kk) * k) cJq).setCells blk (off + (kk + 1) * k) cIq = w3 at S2 ⊢
            clear eaq ecq paq pcq baq bcq raq rcq

            go_wp2
            go_roundg (j - (kk + 1))
            case measure => omega
            case rel => exact ⟨kk + 1, swp D kk (kk + 1), by first | rfl | go_num, by omega, by omega, Nat.le_refl _, by rw [size_swp]; exact hds, S2, HR2⟩
          · have hkz : ¬ (kk : Int) < (j : Int) - 1 := by omega
            have e : kk + 1 = j := by omega
            have HF : Hid (Mrg (ltOf cf) a m b d D) := mrg_left H1.out hmi hjb (by have := HR.out.1; rwa [e] at this) HR.out.2 HS.out
            clear HR HS e
            go_wp2
            try simp only [Exit.inBlock, Exit.then]
            refine bodyPost_ret (results_none rfl _ _ _) rfl ?_
            exact ⟨rfl, D, S1.out, HF.out⟩
  case neg =>
  by_cases h2 : b = m + 1
  case pos => as_aux_lemma =>
    have q1 : ¬ (m : Int) - (a : Int) = 1 := by omega
    have qb1 : ((m : Int) - (a : Int) == 1) = false := by simp; omega
    have q2 : (b : Int) - (m : Int) = 1 := by omega
    have H2 : Hid (b = m + 1) := h2
    clear h2 h1
    have qb2 : ((b : Int) - (m : Int) == 1) = true := by simp [q2]
    have HS0 : Hid (Sc2 (ltOf cf) a m b d a m) := Sc2.start
    go_wp2
    go_loopg [14, 15] (m - a) (fun kx s14 s15 wr => ∃ i j : Nat, s14 = .int .i64 i ∧ s15 = .int .i64 j ∧ a ≤ i ∧ i ≤ j ∧ j ≤ m ∧ j - i ≤ kx ∧ Aside (SWK enc k w0 blk off d wr) ∧ Hid (Sc2 (ltOf cf) a m b d i j))
    case atStart => exact ⟨a, m, rfl, rfl, Nat.le_refl _, by omega, Nat.le_refl _, Nat.le_refl _, S0, HS0⟩
    case round =>
      clear S0 HS0
      obtain ⟨i, j, rfl, rfl, hmi, hij, hjb, hkx, S1, HS⟩ := hrel
      by_cases hlt : i < j
      · have hltz : (i : Int) < (j : Int) := by omega
        obtain ⟨h, hh⟩ : ∃ h, h = (i + j) / 2 := ⟨_, rfl⟩
        have zh : ((i : Int) + (j : Int)) / 2 = (h : Int) := by omega
        have hhi : i ≤ h := by omega
        have hhj : h < j := by omega
        clear hh
        cases hv : (ltOf cf) d[m]! d[h]! with
        | false =>
          have HS2 : Hid (Sc2 (ltOf cf) a m b d (h + 1) j) := HS.out.up hmb (by omega) (by omega) hv
          clear HS
          have eap : ((m : Int) : Int).toNat = m := by omega
          have pap : (0 : Int) ≤ (m : Int) := by omega
          have bap : (m : Int) < (d.size : Int) := by omega
          have rap : IntKind.i64.wrap ((m : Int)) = (m : Int) := by rw [IntKind.wrap_i64]; omega
          have ecp : ((h : Int) : Int).toNat = h := by omega
          have pcp : (0 : Int) ≤ (h : Int) := by omega
          have bcp : (h : Int) < (d.size : Int) := by omega
          have rcp : IntKind.i64.wrap ((h : Int)) = (h : Int) := by rw [IntKind.wrap_i64]; omega
          obtain ⟨xp, hxp⟩ : ∃ x, x = d[m]! := ⟨_, rfl⟩
          obtain ⟨yp, hyp⟩ : ∃ x, x = d[h]! := ⟨_, rfl⟩
          have lpa := S1.out.ld R (by omega) P (m) (by omega)
          have lpb := S1.out.ld R (by omega) P (h) (by omega)
          rw [← hxp] at lpa
          rw [← hyp] at lpb
          have hcp := S1.out.cmp HC.out (by omega) xp yp
          have hvp : ¬ cf xp yp < 0 := by rw [hxp, hyp]; exact of_decide_eq_false hv
          have hdp : decide (cf xp yp < 0) = false := decide_eq_false hvp
          clear hxp hyp
          go_wp2_with fail
          go_quiet_grown (first | (go_at_fn g; refine Calls.grown_of (hcp _ _)))
          have S2 : Aside (SWK enc k w0 blk off d (grow (wr.drewN nq) osq)) := S1.out.grown nq osq
          clear lpa lpb hcp S1 hvp hdp
          generalize grow (wr.drewN nq) osq = w2 at S2 ⊢
          clear nq osq eap ecp pap pcp bap bcp rap rcp

          clear hv
          go_wp2
          go_roundg (j - (h + 1))
          case measure => omega
          case rel => exact ⟨h + 1, j, by first | rfl | go_num | (congr 1; omega), rfl, by omega, by omega, hjb, Nat.le_refl _, S2, HS2⟩
        | true =>
          have HS2 : Hid (Sc2 (ltOf cf) a m b d i h) := HS.out.down hmb (by omega) (by omega) hv
          clear HS
          have eap : ((m : Int) : Int).toNat = m := by omega
          have pap : (0 : Int) ≤ (m : Int) := by omega
          have bap : (m : Int) < (d.size : Int) := by omega
          have rap : IntKind.i64.wrap ((m : Int)) = (m : Int) := by rw [IntKind.wrap_i64]; omega
          have ecp : ((h : Int) : Int).toNat = h := by omega
          have pcp : (0 : Int) ≤ (h : Int) := by omega
          have bcp : (h : Int) < (d.size : Int) := by omega
          have rcp : IntKind.i64.wrap ((h : Int)) = (h : Int) := by rw [IntKind.wrap_i64]; omega
          obtain ⟨xp, hxp⟩ : ∃ x, x = d[m]! := ⟨_, rfl⟩
          obtain ⟨yp, hyp⟩ : ∃ x, x = d[h]! := ⟨_, rfl⟩
          have lpa := S1.out.ld R (by omega) P (m) (by omega)
          have lpb := S1.out.ld R (by omega) P (h) (by omega)
          rw [← hxp] at lpa
          rw [← hyp] at lpb
          have hcp := S1.out.cmp HC.out (by omega) xp yp
          have hvp : cf xp yp < 0 := by rw [hxp, hyp]; exact of_decide_eq_true hv
          have hdp : decide (cf xp yp < 0) = true := decide_eq_true hvp
          clear hxp hyp
          go_wp2_with fail
          go_quiet_grown (first | (go_at_fn g; refine Calls.grown_of (hcp _ _)))
          have S2 : Aside (SWK enc k w0 blk off d (grow (wr.drewN nq) osq)) := S1.out.grown nq osq
          clear lpa lpb hcp S1 hvp hdp
          generalize grow (wr.drewN nq) osq = w2 at S2 ⊢
          clear nq osq eap ecp pap pcp bap bcp rap rcp

          clear hv
          go_wp2
          go_roundg (h - i)
          case measure => omega
          case rel => exact ⟨i, h, rfl, by first | rfl | go_num | (congr 1; omega), hmi, by omega, by omega, Nat.le_refl _, S2, HS2⟩
      · have hltz : ¬ (i : Int) < (j : Int) := by omega
        have e : j = i := by omega
        subst e
        have HR0 : Hid (Rot d d m m b ∧ PermIn a b d d) := ⟨Rot.left d, permIn_refl _ _ _⟩
        go_wp2
        go_loopg [17] (m - j) (fun kx s17 wr2 => ∃ (kk : Nat) (D : Array α), s17 = .int .i64 kk ∧ j ≤ kk ∧ kk ≤ m ∧ kk - j ≤ kx ∧ D.size = d.size ∧ Aside (SWK enc k w0 blk off D wr2) ∧ Hid (Rot d D kk m b ∧ PermIn a b d D))
        case atStart => exact ⟨m, d, rfl, by omega, Nat.le_refl _, Nat.le_refl _, rfl, S1, HR0⟩
        case round =>
          clear S1 HR0
          obtain ⟨kk, D, rfl, hak, hkj, hkx2, hds, S1, HR⟩ := hrel
          by_cases hk2 : j < kk
          · have hkz : (j : Int) < (kk : Int) := by omega
            obtain ⟨kp, rfl⟩ : ∃ kp, kk = kp + 1 := ⟨kk - 1, by omega⟩
            have rkp : IntKind.i64.wrap (kp : Int) = (kp : Int) := by rw [IntKind.wrap_i64]; omega
            have HR2 : Hid (Rot d (swp D (kp + 1) kp) kp m b ∧ PermIn a b d (swp D (kp + 1) kp)) := by
              have r := HR.out.1
              rw [H2.out] at r ⊢
              exact ⟨rot_down hkj (by omega) r, by rw [← H2.out]; exact permIn_trans _ _ _ _ _ HR.out.2 (swp_permIn D a b (kp + 1) kp (by omega) (by omega) (by omega) (by omega) (by omega))⟩
            clear HR
            have hkz2 : (j : Int) < (kp : Int) + 1 := by omega
            go_wp2_with fail
            have eaq : ((kp : Int) + 1 : Int).toNat = kp + 1 := by omega
            have paq : (0 : Int) ≤ (kp : Int) + 1 := by omega
            have baq : (kp : Int) + 1 < (d.size : Int) := by omega
            have raq : IntKind.i64.wrap ((kp : Int) + 1) = (kp : Int) + 1 := by rw [IntKind.wrap_i64]; omega
            have ecq : ((kp : Int) : Int).toNat = kp := by omega
            have pcq : (0 : Int) ≤ (kp : Int) := by omega
            have bcq : (kp : Int) < (d.size : Int) := by omega
            have rcq : IntKind.i64.wrap ((kp : Int)) = (kp : Int) := by rw [IntKind.wrap_i64]; omega
            have S2 : Aside (SWK enc k w0 blk off (swp D (kp + 1) (kp)) ((wr.drew.setCells blk (off + (kp + 1) * k) (enc D[kp]!)).setCells blk (off + (kp) * k) (enc D[kp + 1]!))) := S1.out.swapped R (kp + 1) (kp) (by omega) (by omega)
            have lqa := S1.out.ld1 R (by omega) P (kp + 1) (by omega)
            have lqb := S1.out.ld1 R (by omega) P (kp) (by omega)
            have sqa := S1.out.st1 R (by omega) P (kp + 1) (by omega) D[kp]!
            have sqb := S1.out.st2 R (by omega) P (kp + 1) (kp) (by omega) (by omega) D[kp]! D[kp + 1]!
            have nqa : (enc D[kp + 1]!).length = k := R.hk _
            have nqb : (enc D[kp]!).length = k := R.hk _
            generalize enc D[kp + 1]! = cIq at S2 lqa sqb nqa
            generalize enc D[kp]! = cJq at S2 lqb sqa sqb nqb
            clear S1
            go_wp2_with fail
            go_big_region_o
            clear lqa lqb sqa sqb nqa nqb
            generalize (wr.drew.setCells blk (off + (kp + 1) * k) cJq).setCells blk (off + (kp) * k) cIq = w3 at S2 ⊢
            clear eaq ecq paq pcq baq bcq raq rcq

            go_wp2
            go_roundg (kp - j)
            case measure => omega
            case rel => exact ⟨kp, swp D (kp + 1) kp, by first | rfl | go_num | (congr 1; omega), by omega, by omega, Nat.le_refl _, by rw [size_swp]; exact hds, S2, HR2⟩
          · have hkz : ¬ (j : Int) < (kk : Int) := by omega
            have e : kk = j := by omega
            have HF : Hid (Mrg (ltOf cf) a m b d D) := mrg_right H2.out hmi hjb (by have := HR.out.1; rwa [e] at this) HR.out.2 HS.out
            clear HR HS e
            go_wp2
            try simp only [Exit.inBlock, Exit.then]
            refine bodyPost_ret (results_none rfl _ _ _) rfl ?_
            exact ⟨rfl, D, S1.out, HF.out⟩
  case neg => as_aux_lemma =>
    have q1 : ¬ (m : Int) - (a : Int) = 1 := by omega
    have qb1 : ((m : Int) - (a : Int) == 1) = false := by simp; omega
    have q2 : ¬ (b : Int) - (m : Int) = 1 := by omega
    have qb2 : ((b : Int) - (m : Int) == 1) = false := by simp; omega
    obtain ⟨mid, hmid⟩ : ∃ mid, mid = (a + b) / 2 := ⟨_, rfl⟩
    have zmid : ((a : Int) + (b : Int)) / 2 = (mid : Int) := by omega
    have hmid1 : 2 * mid ≤ a + b := by omega
    have hmid2 : a + b ≤ 2 * mid + 1 := by omega
    clear hmid
    have rn : IntKind.i64.wrap ((mid : Int) + (m : Int)) = (mid : Int) + (m : Int) := by rw [IntKind.wrap_i64]; omega
    have rlo : IntKind.i64.wrap ((mid : Int) + (m : Int) - (b : Int)) = (mid : Int) + (m : Int) - (b : Int) := by rw [IntKind.wrap_i64]; omega
    have rp : IntKind.i64.wrap ((mid : Int) + (m : Int) - 1) = (mid : Int) + (m : Int) - 1 := by rw [IntKind.wrap_i64]; omega
    go_upto_if 140 with fail
    go_cut [20, 21] (fun x20 x21 wx => ∃ lo hi : Nat, x20 = .int .i64 lo ∧ x21 = .int .i64 hi ∧ Hid (a ≤ lo ∧ lo ≤ hi ∧ hi ≤ m ∧ hi ≤ mid ∧ mid + m ≤ lo + b ∧ (lo = a ∨ lo + b = mid + m) ∧ (hi = m ∨ hi = mid)) ∧ wx = w)
    case first =>
      by_cases hc : mid < m
      · have hz : (mid : Int) < (m : Int) := by omega
        go_wp2
        go_meet
        exact ⟨mid + m - b, mid, by congr 1; omega, rfl, by refine ⟨?_, ?_, ?_, ?_, ?_, ?_, ?_⟩ <;> omega, rfl⟩
      · have hz : ¬ (mid : Int) < (m : Int) := by omega
        go_wp2
        go_meet
        exact ⟨a, m, rfl, rfl, by refine ⟨?_, ?_, ?_, ?_, ?_, ?_, ?_⟩ <;> omega, rfl⟩
    case rest => as_aux_lemma =>
    obtain ⟨lo, hi, rfl, rfl, HLH, rfl⟩ := hcut
    obtain ⟨p, hp⟩ : ∃ p, p + 1 = mid + m := ⟨mid + m - 1, by omega⟩
    have zp : (mid : Int) + (m : Int) - 1 = (p : Int) := by omega
    have HS0 : Hid (Sc3 (ltOf cf) a m b d p lo lo hi hi) := Sc3.start
    have hlh := HLH.out
    clear HLH
    go_wp2
    go_loopg [20, 21] (hi - lo) (fun kx s20 s21 wr => ∃ i j : Nat, s20 = .int .i64 i ∧ s21 = .int .i64 j ∧ lo ≤ i ∧ i ≤ j ∧ j ≤ hi ∧ j - i ≤ kx ∧ Aside (SWK enc k w0 blk off d wr) ∧ Hid (Sc3 (ltOf cf) a m b d p lo i j hi))
    case atStart => exact ⟨lo, hi, rfl, rfl, Nat.le_refl _, hlh.2.1, Nat.le_refl _, Nat.le_refl _, S0, HS0⟩
    case round =>
      clear S0 HS0
      obtain ⟨i, j, rfl, rfl, hmi, hij, hjb, hkx, S1, HS⟩ := hrel
      by_cases hlt : i < j
      · have hltz : (i : Int) < (j : Int) := by omega
        obtain ⟨h, hh⟩ : ∃ h, h = (i + j) / 2 := ⟨_, rfl⟩
        have zh : ((i : Int) + (j : Int)) / 2 = (h : Int) := by omega
        have hhi : i ≤ h := by omega
        have hhj : h < j := by omega
        clear hh
        obtain ⟨q, hq⟩ : ∃ q, q + h = p := ⟨p - h, by omega⟩
        have zq : (p : Int) - (h : Int) = (q : Int) := by omega
        have eq : p - h = q := by omega
        cases hv : (ltOf cf) d[q]! d[h]! with
        | false =>
          have HS2 : Hid (Sc3 (ltOf cf) a m b d p lo (h + 1) j hi) := HS.out.up hlh.1 (by omega) (by omega) (by omega) (by omega) (by omega) (by rw [eq]; exact hv)
          clear HS
          have eap : ((q : Int) : Int).toNat = q := by omega
          have pap : (0 : Int) ≤ (q : Int) := by omega
          have bap : (q : Int) < (d.size : Int) := by omega
          have rap : IntKind.i64.wrap ((q : Int)) = (q : Int) := by rw [IntKind.wrap_i64]; omega
          have ecp : ((h : Int) : Int).toNat = h := by omega
          have pcp : (0 : Int) ≤ (h : Int) := by omega
          have bcp : (h : Int) < (d.size : Int) := by omega
          have rcp : IntKind.i64.wrap ((h : Int)) = (h : Int) := by rw [IntKind.wrap_i64]; omega
          obtain ⟨xp, hxp⟩ : ∃ x, x = d[q]! := ⟨_, rfl⟩
          obtain ⟨yp, hyp⟩ : ∃ x, x = d[h]! := ⟨_, rfl⟩
          have lpa := S1.out.ld R (by omega) P (q) (by omega)
          have lpb := S1.out.ld R (by omega) P (h) (by omega)
          rw [← hxp] at lpa
          rw [← hyp] at lpb
          have hcp := S1.out.cmp HC.out (by omega) xp yp
          have hvp : ¬ cf xp yp < 0 := by rw [hxp, hyp]; exact of_decide_eq_false hv
          have hdp : decide (cf xp yp < 0) = false := decide_eq_false hvp
          clear hxp hyp
          go_wp2_with fail
          go_quiet_grown (first | (go_at_fn g; refine Calls.grown_of (hcp _ _)))
          have S2 : Aside (SWK enc k w0 blk off d (grow (wr.drewN nq) osq)) := S1.out.grown nq osq
          clear lpa lpb hcp S1 hvp hdp
          generalize grow (wr.drewN nq) osq = w2 at S2 ⊢
          clear nq osq eap ecp pap pcp bap bcp rap rcp

          clear hv
          go_wp2
          go_roundg (j - (h + 1))
          case measure => omega
          case rel => exact ⟨h + 1, j, by first | rfl | go_num | (congr 1; omega), rfl, by omega, by omega, hjb, Nat.le_refl _, S2, HS2⟩
        | true =>
          have HS2 : Hid (Sc3 (ltOf cf) a m b d p lo i h hi) := HS.out.down hlh.1 (by omega) (by omega) (by omega) (by omega) (by omega) (by rw [eq]; exact hv)
          clear HS
          have eap : ((q : Int) : Int).toNat = q := by omega
          have pap : (0 : Int) ≤ (q : Int) := by omega
          have bap : (q : Int) < (d.size : Int) := by omega
          have rap : IntKind.i64.wrap ((q : Int)) = (q : Int) := by rw [IntKind.wrap_i64]; omega
          have ecp : ((h : Int) : Int).toNat = h := by omega
          have pcp : (0 : Int) ≤ (h : Int) := by omega
          have bcp : (h : Int) < (d.size : Int) := by omega
          have rcp : IntKind.i64.wrap ((h : Int)) = (h : Int) := by rw [IntKind.wrap_i64]; omega
          obtain ⟨xp, hxp⟩ : ∃ x, x = d[q]! := ⟨_, rfl⟩
          obtain ⟨yp, hyp⟩ : ∃ x, x = d[h]! := ⟨_, rfl⟩
          have lpa := S1.out.ld R (by omega) P (q) (by omega)
          have lpb := S1.out.ld R (by omega) P (h) (by omega)
          rw [← hxp] at lpa
          rw [← hyp] at lpb
          have hcp := S1.out.cmp HC.out (by omega) xp yp
          have hvp : cf xp yp < 0 := by rw [hxp, hyp]; exact of_decide_eq_true hv
          have hdp : decide (cf xp yp < 0) = true := decide_eq_true hvp
          clear hxp hyp
          go_wp2_with fail
          go_quiet_grown (first | (go_at_fn g; refine Calls.grown_of (hcp _ _)))
          have S2 : Aside (SWK enc k w0 blk off d (grow (wr.drewN nq) osq)) := S1.out.grown nq osq
          clear lpa lpb hcp S1 hvp hdp
          generalize grow (wr.drewN nq) osq = w2 at S2 ⊢
          clear nq osq eap ecp pap pcp bap bcp rap rcp

          clear hv
          go_wp2
          go_roundg (h - i)
          case measure => omega
          case rel => exact ⟨i, h, rfl, by first | rfl | go_num | (congr 1; omega), hmi, by omega, by omega, Nat.le_refl _, S2, HS2⟩
      · have hltz : ¬ (i : Int) < (j : Int) := by omega
        have e : j = i := by omega
        subst e
        obtain ⟨e, he⟩ : ∃ e, e + j = mid + m := ⟨mid + m - j, by omega⟩
        have ze : (mid : Int) + (m : Int) - (j : Int) = (e : Int) := by omega
        have re : IntKind.i64.wrap (e : Int) = (e : Int) := by rw [IntKind.wrap_i64]; omega
        have hje : j + (e - m) = mid := by omega
        have hme : m ≤ e := by omega
        have heb : e ≤ b := by omega
        have hjm : j ≤ m := by omega
        have haj : a ≤ j := by omega
        go_upto_region 39 with fail
        go_cut [185] (fun x185 wx => x185 = .bool (decide (j < m ∧ m < e)) ∧ wx = wr)
        case first => as_aux_lemma =>
          by_cases c1 : j < m
          · have z1 : (j : Int) < (m : Int) := by omega
            have zb1 : decide ((j : Int) < (m : Int)) = true := decide_eq_true z1
            by_cases c2 : m < e
            · have z2 : (m : Int) < (e : Int) := by omega
              have zz : decide (j < m ∧ m < e) = true := decide_eq_true ⟨c1, c2⟩
              go_wp2
              go_meet
              exact ⟨by rw [zz], rfl⟩
            · have z2 : ¬ (m : Int) < (e : Int) := by omega
              have zz : decide (j < m ∧ m < e) = false := decide_eq_false (by omega)
              go_wp2
              go_meet
              exact ⟨by rw [zz], rfl⟩
          · have z1 : ¬ (j : Int) < (m : Int) := by omega
            have zb1 : decide ((j : Int) < (m : Int)) = false := decide_eq_false z1
            have zz : decide (j < m ∧ m < e) = false := decide_eq_false (by omega)
            go_wp2
            go_meet
            exact ⟨by rw [zz], rfl⟩
        case rest => as_aux_lemma =>
        obtain ⟨rfl, rfl⟩ := hcut
        go_upto_if 185 with fail
        go_cut [185] (fun x185 wx => ∃ (d1 : Array α), Aside (SWK enc k w0 blk off d1 wx) ∧ Hid (Rot d d1 j m e ∧ PermIn a b d d1))
        case first => as_aux_lemma =>
          by_cases c : j < m ∧ m < e
          · have zz : decide (j < m ∧ m < e) = true := decide_eq_true c
            rw [zz]
            have hc := rotate_any L enc g cb blk off cap j m e d0 d w0 wc R hs S1.out c.1 c.2 (by omega) hsz
            go_wp2_with (go_at_fn 84; refine hc.mono ?_; clear hc; rintro e w1 ⟨rfl, d1, k1, k2, k3⟩)
            go_meet
            exact ⟨d1, k1, k2, permIn_mono _ _ j e a b haj heb (by omega) k3⟩
          · have zz : decide (j < m ∧ m < e) = false := decide_eq_false c
            rw [zz]
            go_wp2
            go_meet
            refine ⟨d, S1, ?_, permIn_refl _ _ _⟩
            by_cases c1 : j < m
            · have : e = m := by omega
              rw [this]; exact Rot.right d
            · have : j = m := by omega
              rw [this]; exact Rot.left d
        case rest => as_aux_lemma =>
        obtain ⟨d1, S2, HR⟩ := hcut
        have hs1 : d1.size = d.size := HR.out.2.1
        clear S1
        obtain ⟨w1, hw1⟩ : ∃ w1, w1 = wc := ⟨_, rfl⟩
        rw [← hw1] at S2 ⊢
        clear hw1
        go_upto_region 41 with fail
        go_cut [199] (fun x199 wx => x199 = .bool (decide (a < j ∧ j < mid)) ∧ wx = w1)
        case first => as_aux_lemma =>
          by_cases c1 : a < j
          · have z1 : (a : Int) < (j : Int) := by omega
            have zb1 : decide ((a : Int) < (j : Int)) = true := decide_eq_true z1
            by_cases c2 : j < mid
            · have z2 : (j : Int) < (mid : Int) := by omega
              have zz : decide (a < j ∧ j < mid) = true := decide_eq_true ⟨c1, c2⟩
              go_wp2
              go_meet
              exact ⟨by rw [zz], rfl⟩
            · have z2 : ¬ (j : Int) < (mid : Int) := by omega
              have zz : decide (a < j ∧ j < mid) = false := decide_eq_false (by omega)
              go_wp2
              go_meet
              exact ⟨by rw [zz], rfl⟩
          · have z1 : ¬ (a : Int) < (j : Int) := by omega
            have zb1 : decide ((a : Int) < (j : Int)) = false := decide_eq_false z1
            have zz : decide (a < j ∧ j < mid) = false := decide_eq_false (by omega)
            go_wp2
            go_meet
            exact ⟨by rw [zz], rfl⟩
        case rest => as_aux_lemma =>
        obtain ⟨rfl, rfl⟩ := hcut
        go_upto_if 199 with fail
        go_cut [199] (fun x199 wx => ∃ (d2 : Array α), d2.size = d.size ∧ Aside (SWK enc k w0 blk off d2 wx) ∧ Hid ((a < j ∧ j < mid → Mrg (ltOf cf) a j mid d1 d2) ∧ (¬ (a < j ∧ j < mid) → d2 = d1)))
        case first => as_aux_lemma =>
          by_cases c : a < j ∧ j < mid
          · have zz : decide (a < j ∧ j < mid) = true := decide_eq_true c
            rw [zz]
            have hc := IH.out a j mid d1 wc (by omega) (by omega) S2.out c.1 c.2 (by omega) (by omega)
            rw [hs1] at hc
            go_wp2_with (go_at_fn 70; refine hc.mono ?_; clear hc; rintro e w2 ⟨rfl, d2, k1, k2⟩)
            go_meet
            exact ⟨d2, k2.perm.1.trans hs1, k1, fun _ => k2, fun h => absurd c h⟩
          · have zz : decide (a < j ∧ j < mid) = false := decide_eq_false c
            rw [zz]
            go_wp2
            go_meet
            exact ⟨d1, hs1, S2, fun h => absurd h c, fun _ => rfl⟩
        case rest => as_aux_lemma =>
        obtain ⟨d2, hs2, S3, HM1⟩ := hcut
        clear S2
        obtain ⟨w2, hw2⟩ : ∃ w2, w2 = wc := ⟨_, rfl⟩
        rw [← hw2] at S3 ⊢
        clear hw2
        go_upto_region 43 with fail
        go_cut [213] (fun x213 wx => x213 = .bool (decide (mid < e ∧ e < b)) ∧ wx = w2)
        case first => as_aux_lemma =>
          by_cases c1 : mid < e
          · have z1 : (mid : Int) < (e : Int) := by omega
            have zb1 : decide ((mid : Int) < (e : Int)) = true := decide_eq_true z1
            by_cases c2 : e < b
            · have z2 : (e : Int) < (b : Int) := by omega
              have zz : decide (mid < e ∧ e < b) = true := decide_eq_true ⟨c1, c2⟩
              go_wp2
              go_meet
              exact ⟨by rw [zz], rfl⟩
            · have z2 : ¬ (e : Int) < (b : Int) := by omega
              have zz : decide (mid < e ∧ e < b) = false := decide_eq_false (by omega)
              go_wp2
              go_meet
              exact ⟨by rw [zz], rfl⟩
          · have z1 : ¬ (mid : Int) < (e : Int) := by omega
            have zb1 : decide ((mid : Int) < (e : Int)) = false := decide_eq_false z1
            have zz : decide (mid < e ∧ e < b) = false := decide_eq_false (by omega)
            go_wp2
            go_meet
            exact ⟨by rw [zz], rfl⟩
        case rest => as_aux_lemma =>
        obtain ⟨rfl, rfl⟩ := hcut
        have HD : Aside (∀ d3, (mid < e ∧ e < b → Mrg (ltOf cf) mid e b d2 d3) → (¬ (mid < e ∧ e < b) → d3 = d2) → Mrg (ltOf cf) a m b d d3) := fun d3 m2 n2 =>
          mrg_all ham hmb hb HR.out.1 HR.out.2 HS.out haj hjm hme heb hje hlh.1 hmi hjb hlh.2.2.1 (by omega) (by omega) (by omega) (by omega) (by omega) HM1.out.1 HM1.out.2 m2 n2
        clear HR HS HM1
        by_cases c : mid < e ∧ e < b
        · have zz : decide (mid < e ∧ e < b) = true := decide_eq_true c
          rw [zz]
          have hc := IH.out mid e b d2 wc (by omega) (by omega) S3.out c.1 c.2 (by omega) (by omega)
          rw [hs2] at hc
          go_wp2_with (go_at_fn 70; refine hc.mono ?_; clear hc; rintro e w3 ⟨rfl, d3, k1, k2⟩)
          go_end0
          exact ⟨rfl, d3, k1, HD.out d3 (fun _ => k2) fun h => absurd c h⟩
        · have zz : decide (mid < e ∧ e < b) = false := decide_eq_false c
          rw [zz]
          go_wp2
          go_end0
          exact ⟨rfl, d2, S3.out, HD.out d2 (fun h => absurd h c) fun _ => rfl⟩
end Go.Proofs.Ytbhddfcdnpidkaa
