/-
  Plain mathematics for package fields: what is joined is split as it was, and the other way round; one byte turned is refused.
-/
import Derived.Test.YtfgfjkchcnpakaaDoorFPlain
namespace Go.Proofs.YtfgfjkchcnpakaaDoor
set_option linter.unusedVariables false
open Go.RowKit Go.Lib

theorem rdF_ok (l : List UInt8) {f : Fld} {n : Nat} (h : rdF l = .ok (f, n)) : l.take n = fldL f ∧ isTg f.1 = true ∧ okV f.2 = true ∧ 1 ≤ n ∧ n ≤ l.length := by
  unfold rdF at h
  split at h
  · rename_i ht
    unfold tagOk at ht
    simp only [Bool.and_eq_true, decide_eq_true_eq] at ht
    obtain ⟨⟨h1, h2⟩, h3⟩ := ht
    unfold rdV at h
    split at h
    · rename_i hv
      injection h with h
      obtain ⟨hf, hn⟩ := Prod.mk.inj h
      subst hf hn
      obtain ⟨_, _, hi⟩ := dec_pu h1
      have hd := (List.getElem?_eq_some_iff.1 h3).1
      have hq := (List.getElem?_eq_some_iff.1 hv.2).1
      simp only [List.length_drop] at hq
      generalize hdd : cnt dig l = d at *
      generalize hvv : cnt vby (l.drop (d + 1)) = v at *
      refine ⟨?_, h2, ?_, by omega, by omega⟩
      · have e1 : l = l.take d ++ ([61] ++ (l.drop (d + 1)).take v ++ [1]) ++ (l.drop (d + 1)).drop (v + 1) := by
          have a1 : l.drop d = 61 :: l.drop (d + 1) := by
            rw [List.drop_eq_getElem_cons hd]
            have := (List.getElem?_eq_some_iff.1 h3).2
            rw [this]
          have a2 : (l.drop (d + 1)).drop v = 1 :: (l.drop (d + 1)).drop (v + 1) := by
            rw [List.drop_eq_getElem_cons (by simpa using hq)]
            have := (List.getElem?_eq_some_iff.1 hv.2).2
            rw [this]
          conv => lhs; rw [← List.take_append_drop d l, a1, ← List.take_append_drop v (l.drop (d + 1)), a2]
          simp
        have hl1 : (l.take d).length = d := by simp; omega
        have hl2 : ((l.drop (d + 1)).take v).length = v := by simp; omega
        have e2 : fldL (puN (l.take d) 9999, (l.drop (d + 1)).take v) = l.take d ++ ([61] ++ (l.drop (d + 1)).take v ++ [1]) := by
          unfold fldL
          show itoa (puN (l.take d) 9999) ++ [61] ++ _ ++ [1] = _
          rw [hi]; simp
        rw [e2]
        conv => lhs; rw [e1]
        rw [List.take_left']
        simp [hl1, hl2]
        omega
      · unfold okV
        have hall := cnt_all vby (l.drop (d + 1))
        rw [hvv] at hall
        have hne : (l.drop (d + 1)).take v ≠ [] := by
          intro e
          have := congrArg List.length e
          simp at this
          omega
        show (!((l.drop (d + 1)).take v).isEmpty && ((l.drop (d + 1)).take v).all vby) = true
        rw [List.all_eq_true.2 hall]
        cases hx : (l.drop (d + 1)).take v with
        | nil => exact absurd hx hne
        | cons _ _ => rfl
    · cases h
  · cases h
theorem rdAll_ok (t : List UInt8) : ∀ (F a : Nat) (fs : List Fld), t.length ≤ F + a → rdAll t F a = .ok fs → bodyB fs = t.drop a ∧ (∀ f ∈ fs, isTg f.1 = true ∧ okV f.2 = true)
  | 0, a, fs, hF, h => by
    unfold rdAll at h
    injection h with h
    subst h
    rw [List.drop_eq_nil_of_le (by omega)]
    exact ⟨rfl, fun f hf => by simp at hf⟩
  | F + 1, a, fs, hF, h => by
    unfold rdAll at h
    split at h
    · cases hr : rdF (t.drop a) with
      | error y => rw [hr] at h; cases h
      | ok y =>
        obtain ⟨f, k⟩ := y
        rw [hr] at h
        obtain ⟨h1, h2, h3, h4, h5⟩ := rdF_ok _ hr
        cases hq : rdAll t F (a + k) with
        | error x => simp only [hq, addF] at h; cases h
        | ok gs =>
          simp only [hq, addF] at h
          injection h with h
          subst h
          obtain ⟨g1, g2⟩ := rdAll_ok t F (a + k) gs (by omega) hq
          refine ⟨?_, fun x hx => ?_⟩
          · show fldL f ++ bodyB gs = _
            rw [g1, ← h1, ← List.drop_drop, List.take_append_drop]
          · rcases List.mem_cons.1 hx with rfl | hx
            · exact ⟨h2, h3⟩
            · exact g2 x hx
    · injection h with h
      subst h
      rw [List.drop_eq_nil_of_le (by omega)]
      exact ⟨rfl, fun f hf => by simp at hf⟩
/-- A frame's two ends. -/
theorem numEnd_num (s : List UInt8) (h0 : numEnd s 12 ≠ 12) : puE ((s.drop 12).take (numEnd s 12 - 12)) 9999 = 0 := by
  unfold numEnd at *
  split at h0
  · rename_i h
    rw [if_pos h]
    have : (s.drop 12).take (12 + 1 - 12) = [48] := by
      obtain ⟨h1, h2⟩ := List.getElem?_eq_some_iff.1 h
      rw [List.drop_eq_getElem_cons h1, h2]; rfl
    rw [this]; decide
  · rename_i h
    rw [if_neg h]
    rw [show 12 + min (cnt dig (s.drop 12)) 4 - 12 = min (cnt dig (s.drop 12)) 4 by omega]
    generalize hx : (s.drop 12).take (min (cnt dig (s.drop 12)) 4) = x
    have hall : digs x = true := by
      unfold digs
      rw [List.all_eq_true]
      intro c hc
      refine cnt_all dig (s.drop 12) c ?_
      rw [← hx] at hc
      exact (List.take_subset_take_left _ (Nat.min_le_left _ _)) hc
    have hlen : x.length = min (cnt dig (s.drop 12)) 4 := by
      rw [← hx]; have := cnt_le dig (s.drop 12); simp at this ⊢; omega
    have hpos : 0 < x.length := by omega
    have hhead : ∀ c y, x = c :: y → c ≠ 48 := by
      intro c y e hc
      apply h
      have e0 : x[0]? = some c := by rw [e]; rfl
      rw [← hx, List.getElem?_take, if_pos (by omega), List.getElem?_drop] at e0
      rw [hc] at e0
      exact e0
    have hnum : numB x = true := by
      unfold numB
      rw [hall]
      match x, hpos, hhead with
      | [c], _, _ => rfl
      | c :: d :: y, _, hh => simpa using hh c (d :: y) rfl
    have hv : val x ≤ 9999 := by
      have hl4 : x.length ≤ 4 := by omega
      unfold digs at hall
      match x, hl4, hall with
      | [], _, _ => decide
      | [a], _, ha => simp [List.all_cons] at ha; have := (dig_iff a).1 ha; simp [val]; omega
      | [a, b], _, ha =>
        simp [List.all_cons] at ha
        have h1 := (dig_iff a).1 ha.1; have h2 := (dig_iff b).1 ha.2
        simp [val]; omega
      | [a, b, c], _, ha =>
        simp [List.all_cons] at ha
        have h1 := (dig_iff a).1 ha.1; have h2 := (dig_iff b).1 ha.2.1; have h3 := (dig_iff c).1 ha.2.2
        simp [val]; omega
      | [a, b, c, d], _, ha =>
        simp [List.all_cons] at ha
        have h1 := (dig_iff a).1 ha.1; have h2 := (dig_iff b).1 ha.2.1; have h3 := (dig_iff c).1 ha.2.2.1; have h4 := (dig_iff d).1 ha.2.2.2
        simp [val]; omega
    exact (pu_le hnum hv).2
theorem last_none {s : List UInt8} {m n : Nat} (hl : s.length = m + 7) (h : lastL s m n = none) : s.drop m = tenL ++ three n ++ [1] := by
  unfold lastL at h
  split at h
  · cases h
  · rename_i h1
    split at h
    · cases h
    · split at h
      · cases h
      · rename_i h3
        split at h
        · rename_i h4
          have e1 := pre_full (s.drop m) tenL (by simpa [tenL] using h1)
          have e3 : (s.drop m).drop 3 = three n ++ [1] := by
            rw [List.drop_drop]
            rw [← List.take_append_drop 3 (s.drop (m + 3)), h4]
            congr 1
            rw [List.drop_drop]
            have h6 : s[m + 6]? = some 1 := Classical.byContradiction fun hh => h3 hh
            obtain ⟨g1, g2⟩ := List.getElem?_eq_some_iff.1 h6
            rw [show m + 3 + 3 = m + 6 by omega, List.drop_eq_getElem_cons g1, g2, List.drop_eq_nil_of_le (by omega)]
          rw [e1, show tenL.length = 3 from rfl, e3, List.append_assoc]
        · cases h
/-- What Split takes is, byte by byte, what Join makes. -/
theorem split_parts {s : List UInt8} {fs : List Fld} (h : splitL s = .ok fs) :
    s.length ≤ 1024 ∧ ∃ m, s.length = m + 7 ∧ s.drop m = tenL ++ three (sumL (s.take m)) ++ [1] ∧ s.take m = aheadL (bodyB fs) ∧ (∀ f ∈ fs, isTg f.1 = true ∧ okV f.2 = true) := by
  unfold splitL at h
  split at h
  · cases h
  · rename_i hlen
    cases hb : bodyL s with
    | error x => rw [hb] at h; cases h
    | ok b =>
      rw [hb] at h
      simp only at h
      cases hl : lastL s (s.length - 7) (sumL (s.take (s.length - 7))) with
      | some x => rw [hl] at h; cases h
      | none =>
        rw [hl] at h
        simp only at h
        unfold bodyL at hb
        split at hb
        · cases hb
        · rename_i hp
          split at hb
          · cases hb
          · rename_i he
            split at hb
            · rename_i hk
              injection hb with hb
              have he1 : numEnd s 12 ≠ 12 := fun e => he (.inl e)
              have he2 : s[numEnd s 12]? = some 1 := Classical.byContradiction fun e => he (.inr e)
              have hnum := numEnd_num s he1
              obtain ⟨q0, q1, q2⟩ := dec_pu hnum
              obtain ⟨g1, g2⟩ := List.getElem?_eq_some_iff.1 he2
              have hge : 12 ≤ numEnd s 12 := by unfold numEnd; split <;> omega
              have hs12 : s = headL ++ s.drop 12 := pre_full s headL (by simpa [headL] using hp)
              generalize numEnd s 12 = E at *
              generalize hD : (s.drop 12).take (E - 12) = D at *
              obtain ⟨m, hm⟩ : ∃ m, s.length = m + 7 := ⟨s.length - 7, by omega⟩
              have hm7 : s.length - 7 = m := by omega
              rw [hm7] at h hl
              have hlm : (s.take m).length = m := by simp; omega
              obtain ⟨r1, r2⟩ := rdAll_ok (s.take m) s.length b fs (by omega) h
              refine ⟨by omega, m, hm, last_none hm hl, ?_, r2⟩
              have hbl : ((bodyB fs).length : Int) = puN D 9999 := by rw [r1, List.length_drop, hlm]; omega
              unfold aheadL
              rw [hbl, q2, r1, ← hb]
              have e1 : (s.drop 12).drop (E - 12) = 1 :: s.drop (E + 1) := by
                rw [List.drop_drop, show 12 + (E - 12) = E by omega, List.drop_eq_getElem_cons g1, g2]
              have e2 : s = headL ++ D ++ [1] ++ s.drop (E + 1) := by
                conv => lhs; rw [hs12, ← List.take_append_drop (E - 12) (s.drop 12), hD, e1]
                simp
              have hDl : D.length = E - 12 := by rw [← hD]; simp; omega
              have e3 : (headL ++ D ++ [1]).length = E + 1 := by simp [headL, hDl]; omega
              conv => lhs; rw [e2, List.take_append, e3]
              rw [List.take_of_length_le (by omega), List.drop_take]
            · cases hb
theorem split_join {s : List UInt8} {fs : List Fld} (h : splitL s = .ok fs) : joinL fs = .ok s := by
  obtain ⟨h1, m, h2, h3, h4, h5⟩ := split_parts h
  have hs : closeL (aheadL (bodyB fs)) = s := by
    unfold closeL
    rw [← h4]
    conv => rhs; rw [← List.take_append_drop m s, h3]
    simp
  unfold joinL
  rw [hs, if_neg, if_neg, if_neg (by omega)]
  · simp only [Bool.not_eq_false, List.all_eq_true]
    exact fun f hf => (h5 f hf).2
  · simp only [Bool.not_eq_false, List.all_eq_true]
    exact fun f hf => (h5 f hf).1
end Go.Proofs.YtfgfjkchcnpakaaDoor
