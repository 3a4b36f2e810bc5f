/-
  heap: sink, settle.
-/
import Derived.Test.YtdnhhcbabdoomaaHSink
namespace Go.Proofs.Ytdnhhcbabdoomaa
set_option linter.unusedVariables false
set_option linter.unusedSimpArgs false
open Go.RowKit Go.Great

section
variable {A : Ask} {w w' : World} {h : Nat} {v : Value} {t : List (It Th)} {N c : Nat}
/-- Who is right below, and goes ahead. -/
def lowP (A : Ask) (t : List (It Th)) (k : Nat) : Value := if 2 * k + 1 < t.length then (match t[lowI A.lt t k]? with
  | some b => ptr b.p
  | none => .pointer none) else .pointer none
def lowN (t : List (It Th)) (k : Nat) : Nat := if 2 * k + 2 < t.length then 1 else 0
theorem firstBelow_any (H : HpM A w h v t N c) (hA : A.Ok) {k : Nat} {it : It Th} (hk : t[k]? = some it) :
    Calls Try.prog 89 #[ptr h, ptr it.p] w fun e w' => e = .returned (lowP A t k) ∧ HpM A w' h v t N (c + lowN t k) ∧ Fr w w' A.ex := by
  by_cases h1 : 2 * k + 1 < t.length
  · obtain ⟨a, ha⟩ := get_some t h1
    by_cases h2 : 2 * k + 2 < t.length
    · obtain ⟨b, hb⟩ := get_some t h2
      refine (firstBelow_two H hA hk ha hb).mono ?_
      rintro e w1 ⟨rfl, hm, hf⟩
      refine ⟨?_, by unfold lowN; rw [if_pos h2]; exact hm, hf⟩
      unfold lowP lowI
      rw [if_pos h1, ahAt_eq hb ha]
      cases ahB A.lt b a with
      | false => show Ending.returned (ptr a.p) = _; rw [if_neg (by simp), ha]
      | true => show Ending.returned (ptr b.p) = _; rw [if_pos ⟨h2, rfl⟩, hb]
    · refine (firstBelow_one H hA hk (by omega) ha).mono ?_
      rintro e w1 ⟨rfl, hm, hf⟩
      refine ⟨?_, by unfold lowN; rw [if_neg h2]; exact hm, hf⟩
      unfold lowP lowI
      rw [if_pos h1, if_neg (fun q => h2 q.1), ha]
  · refine (firstBelow_none H hA hk h1).mono ?_
    rintro e w1 ⟨rfl, hm, hf⟩
    refine ⟨?_, by unfold lowN; rw [if_neg (by omega)]; exact hm, hf⟩
    unfold lowP
    rw [if_neg h1]
set_option maxRecDepth 100000 in
set_option maxHeartbeats 2000000 in
theorem sink_any (H : HpM A w h v t N c) (hA : A.Ok) {k : Nat} {it : It Th} (hk : t[k]? = some it) :
    Calls Try.prog 75 #[ptr h, ptr it.p] w fun e w' => e = .returned (.tuple #[]) ∧ HpM A w' h v (sinkL A.lt t k) N (c + sinkN A.lt t k) ∧ Fr w w' (fun b => ownH h v t b ∨ A.ex b) := by
  have HS : Hid (RS A w w h v t t N c c k it) := ⟨H, hk, List.Perm.refl _, Fr.refl _ _⟩
  have HO : Hid A.Ok := hA
  clear H hA hk
  generalize hR : sinkL A.lt t k = R at *
  generalize hC : sinkN A.lt t k = C at *
  have HR : Hid (sinkL A.lt t k = R ∧ sinkN A.lt t k = C) := ⟨hR, hC⟩
  clear hR hC
  go_enter Try.func75, Try.ntmps75
  go_wp2
  go_loopw [4] (fun x4 wr => ∃ (k1 c1 : Nat) (t1 : List (It Th)), Hid (RS A w wr h v t t1 N c c1 k1 it ∧ sinkL A.lt t1 k1 = R ∧ c1 + sinkN A.lt t1 k1 = c + C)) (fun _ wr => t.length - atN wr it.p)
  case atStart =>
    exact ⟨k, c, t, HS.out, HR.out.1, by rw [HR.out.2]⟩
  case round =>
    obtain ⟨k1, c1, t1, HQ⟩ := hrel
    have hfb := firstBelow_any HQ.out.1.m HO.out HQ.out.1.at1
    have HA3 : Hid (atN wr it.p = k1) := HQ.out.1.m.atN HQ.out.1.at1
    go_wp2_with (go_at_call 89; fail)
    refine hfb.mono ?_
    rintro e w1 ⟨rfl, hm, hf⟩
    have HQ3 : Hid (RS A w w1 h v t t1 N c (c1 + lowN t1 k1) k1 it) := HQ.out.1.ask hm hf
    clear hm hf hfb
    by_cases hl : 2 * k1 + 1 < t1.length
    · have hlo := lowI_lt (lt := A.lt) hl
      obtain ⟨b, hb⟩ := get_some t1 hlo.1
      have hlp : lowP A t1 k1 = ptr b.p := by unfold lowP; rw [if_pos hl, hb]
      rw [hlp]
      have HB : Hid (t1[lowI A.lt t1 k1]? = some b ∧ k1 < lowI A.lt t1 k1 ∧ lowI A.lt t1 k1 < t1.length) := ⟨hb, hlo.2.1, hlo.1⟩
      have HAH := ahead_any HQ3.out.m HO.out HB.out.1 HQ3.out.at1
      have HAB : Hid (ahAt A.lt t1 (lowI A.lt t1 k1) k1 = ahB A.lt b it) := ahAt_eq HB.out.1 HQ3.out.at1
      clear hlp hb hlo
      go_wp2_with (go_at_call 87; fail)
      refine HAH.mono ?_
      rintro e w2 ⟨rfl, hm, hf⟩
      have HQ4 : Hid (RS A w w2 h v t t1 N c (c1 + lowN t1 k1 + 1) k1 it) := HQ3.out.ask hm hf
      clear hm hf HAH HQ3
      generalize ahB A.lt b it = ab at *
      cases ab with
      | false =>
        go_wp2
        refine ⟨by rfl, .tuple #[], results_none (by rfl) _ _ _, rfl, ?_⟩
        obtain ⟨q1, q2, q3⟩ := HQ.out
        rw [sinkL, dif_pos hl, if_neg (by rw [HAB.out]; decide)] at q2
        have e3 : sinkN A.lt t1 k1 = lowN t1 k1 + 1 := by
          rw [sinkN, dif_pos hl]
          show lowN t1 k1 + 1 + (if ahAt A.lt t1 (lowI A.lt t1 k1) k1 then _ else 0) = _
          rw [if_neg (by rw [HAB.out]; decide)]
        rw [e3] at q3
        rw [← q3, ← Nat.add_assoc]
        subst q2
        exact ⟨HQ4.out.m, HQ4.out.fr⟩
      | true =>
        have HSW := swap_any HQ4.out.m HO.out HQ4.out.at1 HB.out.1 (by have := HB.out; omega)
        go_wp2_with (go_at_call 88; fail)
        refine HSW.mono ?_
        rintro e w3 ⟨rfl, hm, hf⟩
        have HQ5 : Hid (RS A w w3 h v t (swpL t1 k1 (lowI A.lt t1 k1)) N c (c1 + lowN t1 k1 + 1) (lowI A.lt t1 k1) it) := HQ4.out.swp hm hf HB.out.2.2 (by have := HB.out; omega)
        clear hm hf HSW HQ4
        go_wp2
        obtain ⟨q1, q2, q3⟩ := HQ.out
        rw [sinkL, dif_pos hl, if_pos HAB.out] at q2
        have e3 : sinkN A.lt t1 k1 = lowN t1 k1 + 1 + sinkN A.lt (swpL t1 k1 (lowI A.lt t1 k1)) (lowI A.lt t1 k1) := by
          rw [sinkN, dif_pos hl]
          show lowN t1 k1 + 1 + (if ahAt A.lt t1 (lowI A.lt t1 k1) k1 then _ else 0) = _
          rw [if_pos HAB.out]
        rw [e3] at q3
        refine ⟨⟨_, _, _, HQ5.out, q2, by omega⟩, ?_⟩
        rw [HA3.out, HQ5.out.m.atN HQ5.out.at1]
        have := HB.out
        have := q1.pm.length_eq
        omega
    · have hlp : lowP A t1 k1 = .pointer none := by unfold lowP; rw [if_neg hl]
      rw [hlp]
      go_wp2
      refine ⟨by rfl, .tuple #[], results_none (by rfl) _ _ _, rfl, ?_⟩
      obtain ⟨q1, q2, q3⟩ := HQ.out
      rw [sinkL, dif_neg hl] at q2
      rw [sinkN, dif_neg hl] at q3
      have h0 : lowN t1 k1 = 0 := by unfold lowN; rw [if_neg (by omega)]
      have q5 := HQ3.out
      rw [h0] at q5
      rw [← q3]
      subst q2
      exact ⟨q5.m, q5.fr⟩
set_option maxRecDepth 100000 in
set_option maxHeartbeats 2000000 in
theorem settle_any (H : HpM A w h v t N c) (hA : A.Ok) {k : Nat} {it : It Th} (hk : t[k]? = some it) :
    Calls Try.prog 46 #[ptr h, ptr it.p] w fun e w' => e = .returned (.tuple #[]) ∧ HpM A w' h v (setlL A.lt t k) N (c + setlN A.lt t k) ∧ Fr w w' (fun b => ownH h v t b ∨ A.ex b) := by
  have hr := rise_any H hA hk
  have HO : Hid A.Ok := hA
  have HK : Hid (t[k]? = some it) := hk
  have HP : Hid _ := riseL_perm (lt := A.lt) t k (get_lt hk)
  have HE : Hid ((riseL A.lt t k).2 = k → (riseL A.lt t k).1 = t) := by
    intro e
    have k0 := (get_lt hk)
    rw [riseL] at e ⊢
    split
    · rfl
    · rename_i h0
      rw [dif_neg h0] at e
      split
      · rename_i ha
        rw [if_pos ha] at e
        have hp := parI_lt (k := k) (by omega)
        have := (riseL_perm (lt := A.lt) (swpL t k (parI k)) (parI k) (by rw [swpL_len]; omega)).2.1
        omega
      · rfl
  clear hk hA H
  unfold setlL setlN
  by_cases hq : (riseL A.lt t k).2 = k
  · rw [if_pos hq, if_pos hq]
    have hb : ((riseL A.lt t k).2 == k) = true := by simpa using hq
    rw [hb] at hr
    have he := HE.out hq
    rw [he] at hr
    go_enter Try.func46, Try.ntmps46
    go_wp2_with (go_at_call 74; fail)
    refine hr.mono ?_
    rintro e w1 ⟨rfl, hm, hf⟩
    have hs := sink_any hm HO.out HK.out
    have HF : Hid (Fr w w1 (fun b => ownH h v t b ∨ A.ex b)) := hf
    clear hm hf hr
    go_wp2_with (go_at_call 75; fail)
    refine hs.mono ?_
    rintro e w2 ⟨rfl, hm, hf⟩
    have HM : Hid _ := And.intro hm (HF.out.trans hf (e3 := fun b => ownH h v t b ∨ A.ex b) fun _ _ q => by rcases q with q | q <;> exact q)
    clear hm hf
    go_wp2
    refine ⟨by rfl, .tuple #[], results_none (by rfl) _ _ _, rfl, ?_⟩
    rw [← Nat.add_assoc]
    exact HM.out
  · rw [if_neg hq, if_neg hq]
    have hb : ((riseL A.lt t k).2 == k) = false := by simpa using hq
    rw [hb] at hr
    go_enter Try.func46, Try.ntmps46
    go_wp2_with (go_at_call 74; fail)
    refine hr.mono ?_
    rintro e w1 ⟨rfl, hm, hf⟩
    have HM : Hid _ := And.intro hm hf
    clear hm hf hr
    go_wp2
    refine ⟨by rfl, .tuple #[], results_none (by rfl) _ _ _, rfl, ?_⟩
    exact HM.out
end
end Go.Proofs.Ytdnhhcbabdoomaa
