import Derived.Test.YtchkpggdndnpjaaGreatDoorG13
import Derived.Test.YtchkpggdndnpjaaGreatDoorG34
import Derived.Test.YtchkpggdndnpjaaGreatDoorG27
import Derived.Test.YtchkpggdndnpjaaGreatDoorG19
import Derived.Test.YtchkpggdndnpjaaGreatDoorG18
import Derived.Test.YtchkpggdndnpjaaGreatDoorG28
import Derived.Test.YtchkpggdndnpjaaGreatDoorG21

namespace Go.Proofs.YtchkpggdndnpjaaGreatDoor
set_option linter.unusedVariables false
open Go.RowKit Go.Lib

theorem rdF_ok (l : List UInt8) {f : Fld} {n : Nat} (h : rdF l = .ok (f, n)) : l.take n = fldL f ∧ isTg f.1 = true ∧ okV f.2 = true ∧ 1 ≤ n ∧ n ≤ l.length := by
  unfold rdF at h
  split at h
  · rename_i ht
    unfold tagOk at ht
    simp only [Bool.and_eq_true, decide_eq_true_eq] at ht
    obtain ⟨⟨h1, h2⟩, h3⟩ := ht
    unfold rdV at h
    split at h
    · rename_i hv
      injection h with h
      obtain ⟨hf, hn⟩ := Prod.mk.inj h
      subst hf hn
      obtain ⟨_, _, hi⟩ := dec_pu h1
      have hd := (List.getElem?_eq_some_iff.1 h3).1
      have hq := (List.getElem?_eq_some_iff.1 hv.2).1
      simp only [List.length_drop] at hq
      generalize hdd : cnt dig l = d at *
      generalize hvv : cnt vby (l.drop (d + 1)) = v at *
      refine ⟨?_, h2, ?_, by omega, by omega⟩
      · have e1 : l = l.take d ++ ([61] ++ (l.drop (d + 1)).take v ++ [1]) ++ (l.drop (d + 1)).drop (v + 1) := by
          have a1 : l.drop d = 61 :: l.drop (d + 1) := by
            rw [List.drop_eq_getElem_cons hd]
            have := (List.getElem?_eq_some_iff.1 h3).2
            rw [this]
          have a2 : (l.drop (d + 1)).drop v = 1 :: (l.drop (d + 1)).drop (v + 1) := by
            rw [List.drop_eq_getElem_cons (by simpa using hq)]
            have := (List.getElem?_eq_some_iff.1 hv.2).2
            rw [this]
          conv => lhs; rw [← List.take_append_drop d l, a1, ← List.take_append_drop v (l.drop (d + 1)), a2]
          simp
        have hl1 : (l.take d).length = d := by simp; omega
        have hl2 : ((l.drop (d + 1)).take v).length = v := by simp; omega
        have e2 : fldL (puN (l.take d) 9999, (l.drop (d + 1)).take v) = l.take d ++ ([61] ++ (l.drop (d + 1)).take v ++ [1]) := by
          unfold fldL
          show itoa (puN (l.take d) 9999) ++ [61] ++ _ ++ [1] = _
          rw [hi]; simp
        rw [e2]
        conv => lhs; rw [e1]
        rw [List.take_left']
        simp [hl1, hl2]
        omega
      · unfold okV
        have hall := cnt_all vby (l.drop (d + 1))
        rw [hvv] at hall
        have hne : (l.drop (d + 1)).take v ≠ [] := by
          intro e
          have := congrArg List.length e
          simp at this
          omega
        show (!((l.drop (d + 1)).take v).isEmpty && ((l.drop (d + 1)).take v).all vby) = true
        rw [List.all_eq_true.2 hall]
        cases hx : (l.drop (d + 1)).take v with
        | nil => exact absurd hx hne
        | cons _ _ => rfl
    · cases h
  · cases h
theorem rdAll_ok (t : List UInt8) : ∀ (F a : Nat) (fs : List Fld), t.length ≤ F + a → rdAll t F a = .ok fs → bodyB fs = t.drop a ∧ (∀ f ∈ fs, isTg f.1 = true ∧ okV f.2 = true)
  | 0, a, fs, hF, h => by
    unfold rdAll at h
    injection h with h
    subst h
    rw [List.drop_eq_nil_of_le (by omega)]
    exact ⟨rfl, fun f hf => by simp at hf⟩
  | F + 1, a, fs, hF, h => by
    unfold rdAll at h
    split at h
    · cases hr : rdF (t.drop a) with
      | error y => rw [hr] at h; cases h
      | ok y =>
        obtain ⟨f, k⟩ := y
        rw [hr] at h
        obtain ⟨h1, h2, h3, h4, h5⟩ := rdF_ok _ hr
        cases hq : rdAll t F (a + k) with
        | error x => simp only [hq, addF] at h; cases h
        | ok gs =>
          simp only [hq, addF] at h
          injection h with h
          subst h
          obtain ⟨g1, g2⟩ := rdAll_ok t F (a + k) gs (by omega) hq
          refine ⟨?_, fun x hx => ?_⟩
          · show fldL f ++ bodyB gs = _
            rw [g1, ← h1, ← List.drop_drop, List.take_append_drop]
          · rcases List.mem_cons.1 hx with rfl | hx
            · exact ⟨h2, h3⟩
            · exact g2 x hx
    · injection h with h
      subst h
      rw [List.drop_eq_nil_of_le (by omega)]
      exact ⟨rfl, fun f hf => by simp at hf⟩
/-- A frame's two ends. -/
theorem numEnd_num (s : List UInt8) (h0 : numEnd s 12 ≠ 12) : puE ((s.drop 12).take (numEnd s 12 - 12)) 9999 = 0 := by
  unfold numEnd at *
  split at h0
  · rename_i h
    rw [if_pos h]
    have : (s.drop 12).take (12 + 1 - 12) = [48] := by
      obtain ⟨h1, h2⟩ := List.getElem?_eq_some_iff.1 h
      rw [List.drop_eq_getElem_cons h1, h2]; rfl
    rw [this]; decide
  · rename_i h
    rw [if_neg h]
    rw [show 12 + min (cnt dig (s.drop 12)) 4 - 12 = min (cnt dig (s.drop 12)) 4 by omega]
    generalize hx : (s.drop 12).take (min (cnt dig (s.drop 12)) 4) = x
    have hall : digs x = true := by
      unfold digs
      rw [List.all_eq_true]
      intro c hc
      refine cnt_all dig (s.drop 12) c ?_
      rw [← hx] at hc
      exact (List.take_subset_take_left _ (Nat.min_le_left _ _)) hc
    have hlen : x.length = min (cnt dig (s.drop 12)) 4 := by
      rw [← hx]; have := cnt_le dig (s.drop 12); simp at this ⊢; omega
    have hpos : 0 < x.length := by omega
    have hhead : ∀ c y, x = c :: y → c ≠ 48 := by
      intro c y e hc
      apply h
      have e0 : x[0]? = some c := by rw [e]; rfl
      rw [← hx, List.getElem?_take, if_pos (by omega), List.getElem?_drop] at e0
      rw [hc] at e0
      exact e0
    have hnum : numB x = true := by
      unfold numB
      rw [hall]
      match x, hpos, hhead with
      | [c], _, _ => rfl
      | c :: d :: y, _, hh => simpa using hh c (d :: y) rfl
    have hv : val x ≤ 9999 := by
      have hl4 : x.length ≤ 4 := by omega
      unfold digs at hall
      match x, hl4, hall with
      | [], _, _ => decide
      | [a], _, ha => simp [List.all_cons] at ha; have := (dig_iff a).1 ha; simp [val]; omega
      | [a, b], _, ha =>
        simp [List.all_cons] at ha
        have h1 := (dig_iff a).1 ha.1; have h2 := (dig_iff b).1 ha.2
        simp [val]; omega
      | [a, b, c], _, ha =>
        simp [List.all_cons] at ha
        have h1 := (dig_iff a).1 ha.1; have h2 := (dig_iff b).1 ha.2.1; have h3 := (dig_iff c).1 ha.2.2
        simp [val]; omega
      | [a, b, c, d], _, ha =>
        simp [List.all_cons] at ha
        have h1 := (dig_iff a).1 ha.1; have h2 := (dig_iff b).1 ha.2.1; have h3 := (dig_iff c).1 ha.2.2.1; have h4 := (dig_iff d).1 ha.2.2.2
        simp [val]; omega
    exact (pu_le hnum hv).2
theorem last_none {s : List UInt8} {m n : Nat} (hl : s.length = m + 7) (h : lastL s m n = none) : s.drop m = tenL ++ three n ++ [1] := by
  unfold lastL at h
  split at h
  · cases h
  · rename_i h1
    split at h
    · cases h
    · split at h
      · cases h
      · rename_i h3
        split at h
        · rename_i h4
          have e1 := pre_full (s.drop m) tenL (by simpa [tenL] using h1)
          have e3 : (s.drop m).drop 3 = three n ++ [1] := by
            rw [List.drop_drop]
            rw [← List.take_append_drop 3 (s.drop (m + 3)), h4]
            congr 1
            rw [List.drop_drop]
            have h6 : s[m + 6]? = some 1 := Classical.byContradiction fun hh => h3 hh
            obtain ⟨g1, g2⟩ := List.getElem?_eq_some_iff.1 h6
            rw [show m + 3 + 3 = m + 6 by omega, List.drop_eq_getElem_cons g1, g2, List.drop_eq_nil_of_le (by omega)]
          rw [e1, show tenL.length = 3 from rfl, e3, List.append_assoc]
        · cases h
/-- What Split takes is, byte by byte, what Join makes. -/
theorem split_parts {s : List UInt8} {fs : List Fld} (h : splitL s = .ok fs) :
    s.length ≤ 1024 ∧ ∃ m, s.length = m + 7 ∧ s.drop m = tenL ++ three (sumL (s.take m)) ++ [1] ∧ s.take m = aheadL (bodyB fs) ∧ (∀ f ∈ fs, isTg f.1 = true ∧ okV f.2 = true) := by
  unfold splitL at h
  split at h
  · cases h
  · rename_i hlen
    cases hb : bodyL s with
    | error x => rw [hb] at h; cases h
    | ok b =>
      rw [hb] at h
      simp only at h
      cases hl : lastL s (s.length - 7) (sumL (s.take (s.length - 7))) with
      | some x => rw [hl] at h; cases h
      | none =>
        rw [hl] at h
        simp only at h
        unfold bodyL at hb
        split at hb
        · cases hb
        · rename_i hp
          split at hb
          · cases hb
          · rename_i he
            split at hb
            · rename_i hk
              injection hb with hb
              have he1 : numEnd s 12 ≠ 12 := fun e => he (.inl e)
              have he2 : s[numEnd s 12]? = some 1 := Classical.byContradiction fun e => he (.inr e)
              have hnum := numEnd_num s he1
              obtain ⟨q0, q1, q2⟩ := dec_pu hnum
              obtain ⟨g1, g2⟩ := List.getElem?_eq_some_iff.1 he2
              have hge : 12 ≤ numEnd s 12 := by unfold numEnd; split <;> omega
              have hs12 : s = headL ++ s.drop 12 := pre_full s headL (by simpa [headL] using hp)
              generalize numEnd s 12 = E at *
              generalize hD : (s.drop 12).take (E - 12) = D at *
              obtain ⟨m, hm⟩ : ∃ m, s.length = m + 7 := ⟨s.length - 7, by omega⟩
              have hm7 : s.length - 7 = m := by omega
              rw [hm7] at h hl
              have hlm : (s.take m).length = m := by simp; omega
              obtain ⟨r1, r2⟩ := rdAll_ok (s.take m) s.length b fs (by omega) h
              refine ⟨by omega, m, hm, last_none hm hl, ?_, r2⟩
              have hbl : ((bodyB fs).length : Int) = puN D 9999 := by rw [r1, List.length_drop, hlm]; omega
              unfold aheadL
              rw [hbl, q2, r1, ← hb]
              have e1 : (s.drop 12).drop (E - 12) = 1 :: s.drop (E + 1) := by
                rw [List.drop_drop, show 12 + (E - 12) = E by omega, List.drop_eq_getElem_cons g1, g2]
              have e2 : s = headL ++ D ++ [1] ++ s.drop (E + 1) := by
                conv => lhs; rw [hs12, ← List.take_append_drop (E - 12) (s.drop 12), hD, e1]
                simp
              have hDl : D.length = E - 12 := by rw [← hD]; simp; omega
              have e3 : (headL ++ D ++ [1]).length = E + 1 := by simp [headL, hDl]; omega
              conv => lhs; rw [e2, List.take_append, e3]
              rw [List.take_of_length_le (by omega), List.drop_take]
            · cases hb
theorem split_join {s : List UInt8} {fs : List Fld} (h : splitL s = .ok fs) : joinL fs = .ok s := by
  obtain ⟨h1, m, h2, h3, h4, h5⟩ := split_parts h
  have hs : closeL (aheadL (bodyB fs)) = s := by
    unfold closeL
    rw [← h4]
    conv => rhs; rw [← List.take_append_drop m s, h3]
    simp
  unfold joinL
  rw [hs, if_neg, if_neg, if_neg (by omega)]
  · simp only [Bool.not_eq_false, List.all_eq_true]
    exact fun f hf => (h5 f hf).2
  · simp only [Bool.not_eq_false, List.all_eq_true]
    exact fun f hf => (h5 f hf).1
end Go.Proofs.YtchkpggdndnpjaaGreatDoor

namespace Go.Proofs.YtchkpggdndnpjaaGreatDoor
set_option linter.unusedVariables false
open Go.RowKit Go.Lib

theorem okV_parts {v : List UInt8} (h : okV v = true) : v ≠ [] ∧ ∀ c ∈ v, vby c = true := by
  unfold okV at h
  rw [Bool.and_eq_true, List.all_eq_true] at h
  exact ⟨by intro e; rw [e] at h; simp at h, h.2⟩
theorem itoa_tag {t : Int} (h : isTg t = true) : itoa t = decDigits t.toNat ∧ (t.toNat : Int) = t := by
  have := (isTg_iff t).1 h
  have e : (t.toNat : Int) = t := by omega
  refine ⟨?_, e⟩
  rw [← itoa_nonneg, e]
theorem rdF_fld (f : Fld) (rest : List UInt8) (h1 : isTg f.1 = true) (h2 : okV f.2 = true) : rdF (fldL f ++ rest) = .ok (f, (fldL f).length) := by
  obtain ⟨t, v⟩ := f
  obtain ⟨hne, hall⟩ := okV_parts h2
  obtain ⟨e1, e2⟩ := itoa_tag h1
  have hT := (isTg_iff t).1 h1
  have hd : digs (itoa t) = true := by rw [e1]; exact digs_dec _
  have hds : ∀ c ∈ itoa t, dig c = true := by unfold digs at hd; rw [List.all_eq_true] at hd; exact hd
  have eL : fldL (t, v) ++ rest = itoa t ++ (61 :: (v ++ (1 :: rest))) := by simp [fldL]
  have hc : cnt dig (fldL (t, v) ++ rest) = (itoa t).length := by
    rw [eL]
    refine cnt_eq dig _ _ hds (fun c hc => ?_)
    simp at hc
    subst hc
    decide
  have hp := pu_dec (u := t.toNat) (m := 9999) (by rw [e2]; exact hT.2.1)
  rw [← e1, e2] at hp
  have ht : (fldL (t, v) ++ rest).take (cnt dig (fldL (t, v) ++ rest)) = itoa t := by rw [hc, eL, List.take_left']; rfl
  have hg : (fldL (t, v) ++ rest)[cnt dig (fldL (t, v) ++ rest)]? = some 61 := by rw [hc, eL, List.getElem?_append_right (Nat.le_refl _)]; simp
  have hr : (fldL (t, v) ++ rest).drop (cnt dig (fldL (t, v) ++ rest) + 1) = v ++ (1 :: rest) := by
    rw [hc, eL, ← List.drop_drop, List.drop_left']
    · rfl
    · rfl
  have hv : cnt vby (v ++ (1 :: rest)) = v.length := cnt_eq vby _ _ hall (fun c hc => by simp at hc; subst hc; decide)
  unfold rdF
  rw [if_pos]
  · rw [ht, hr, hc, hp.1]
    unfold rdV
    rw [hv, if_pos ⟨List.length_pos_iff.2 hne, by rw [List.getElem?_append_right (Nat.le_refl _)]; simp⟩, List.take_left' rfl]
    congr 1
    simp [fldL]; omega
  · unfold tagOk
    rw [ht, hg, hp.1, hp.2]
    simp [h1]
theorem rdAll_body (t : List UInt8) : ∀ (fs : List Fld) (F a : Nat), fs.length ≤ F → a + (bodyB fs).length = t.length → t.drop a = bodyB fs → (∀ f ∈ fs, isTg f.1 = true ∧ okV f.2 = true) → rdAll t F a = .ok fs
  | [], F, a, _, hl, hd, _ => by
    have ha : ¬ a < t.length := by simp [bodyB] at hl; omega
    cases F with
    | zero => rfl
    | succ F => unfold rdAll; rw [if_neg ha]
  | f :: fs, 0, a, hF, _, _, _ => by simp at hF
  | f :: fs, F + 1, a, hF, hl, hd, hok => by
    have eb : bodyB (f :: fs) = fldL f ++ bodyB fs := by simp [bodyB]
    obtain ⟨h1, h2⟩ := hok f (by simp)
    have hr := rdF_fld f (bodyB fs) h1 h2
    have hpos : 0 < (fldL f).length := by simp [fldL]; omega
    rw [eb, List.length_append] at hl
    unfold rdAll
    rw [if_pos (by omega), hd, eb, hr]
    show addF f (rdAll t F (a + (fldL f).length)) = _
    rw [rdAll_body t fs F (a + (fldL f).length) (by simpa using hF) (by omega) (by rw [← List.drop_drop, hd, eb, List.drop_left' rfl]) (fun g hg => hok g (by simp [hg]))]
    rfl
theorem dec_len4 {n : Nat} (h : n < 10000) : (decDigits n).length ≤ 4 := by
  by_cases h1 : n < 10
  · rw [decDigits_one h1]; simp
  · by_cases h2 : n < 100
    · rw [decDigits_two h1 h2]; simp
    · rw [decDigits, dif_neg h1]
      by_cases h3 : n < 1000
      · rw [decDigits_two (by omega) (by omega)]; simp
      · rw [decDigits, dif_neg (by omega), decDigits_two (by omega) (by omega)]; simp
theorem length_flds : ∀ fs : List Fld, fs.length ≤ (bodyB fs).length
  | [] => Nat.le_refl _
  | f :: fs => by
    have eb : bodyB (f :: fs) = fldL f ++ bodyB fs := by simp [bodyB]
    have := length_flds fs
    have hpos : 0 < (fldL f).length := by simp [fldL]; omega
    rw [eb, List.length_append]; simp; omega
/-- What Join makes: its parts. -/
theorem join_parts {fs : List Fld} {b : List UInt8} (h : joinL fs = .ok b) : b = closeL (aheadL (bodyB fs)) ∧ b.length ≤ 1024 ∧ (∀ f ∈ fs, isTg f.1 = true ∧ okV f.2 = true) := by
  unfold joinL at h
  split at h
  · cases h
  · rename_i h1
    split at h
    · cases h
    · rename_i h2
      split at h
      · cases h
      · rename_i h3
        injection h with h
        simp only [Bool.not_eq_false, List.all_eq_true] at h1 h2
        exact ⟨h.symm, by rw [← h]; omega, fun f hf => ⟨h1 f hf, h2 f hf⟩⟩
theorem join_split {fs : List Fld} {b : List UInt8} (h : joinL fs = .ok b) : splitL b = .ok fs := by
  obtain ⟨hb, hl, hok⟩ := join_parts h
  have hal : b.length = (aheadL (bodyB fs)).length + 7 := by rw [hb, close_length]
  have hA : (aheadL (bodyB fs)).length = 12 + (itoa ((bodyB fs).length : Int)).length + 1 + (bodyB fs).length := by unfold aheadL headL; simp; omega
  obtain ⟨n, hn⟩ : ∃ n, (bodyB fs).length = n := ⟨_, rfl⟩
  have hI : itoa (n : Int) = decDigits n := itoa_nonneg n
  have hn9 : n < 10000 := by omega
  have hI4 : (itoa (n : Int)).length ≤ 4 := by rw [hI]; exact dec_len4 hn9
  have hIn : 0 < (itoa (n : Int)).length := by
    rw [hI]; obtain ⟨c, l, e, _⟩ := head_dec n; rw [e]; simp
  have eb : b = headL ++ (itoa (n : Int) ++ (1 :: (bodyB fs ++ (tenL ++ three (sumL (aheadL (bodyB fs))) ++ [1])))) := by
    rw [hb]; unfold closeL aheadL; rw [hn]; simp
  have ed : b.drop 12 = itoa (n : Int) ++ (1 :: (bodyB fs ++ (tenL ++ three (sumL (aheadL (bodyB fs))) ++ [1]))) := by
    conv => lhs; rw [eb]
    rw [List.drop_left']; rfl
  have hE : numEnd b 12 = 12 + (itoa (n : Int)).length := by
    unfold numEnd
    have hds : ∀ c ∈ itoa (n : Int), dig c = true := by have := digs_dec n; rw [← hI] at this; unfold digs at this; rw [List.all_eq_true] at this; exact this
    have hb12 : b[12]? = (b.drop 12)[0]? := by rw [List.getElem?_drop]
    obtain ⟨c, l, ec, hc0, hc1⟩ := head_dec n
    split
    · rename_i h48
      rw [hb12, ed, hI, ec] at h48
      simp at h48
      by_cases h0 : 0 < n
      · exact absurd h48 (hc0 h0)
      · have : n = 0 := by omega
        have hl0 := hc1.1 (by omega)
        rw [hI, ec, hl0]; rfl
    · have hc : cnt dig (b.drop 12) = (itoa (n : Int)).length := by
        rw [ed]
        exact cnt_eq dig _ _ hds (fun c hc => by simp at hc; subst hc; decide)
      rw [hc]; omega
  have hD : (b.drop 12).take (numEnd b 12 - 12) = itoa (n : Int) := by rw [hE, ed, show 12 + (itoa (n : Int)).length - 12 = (itoa (n : Int)).length by omega, List.take_left' rfl]
  have h1 : b[numEnd b 12]? = some 1 := by
    rw [hE, ← List.getElem?_drop, ed, List.getElem?_append_right (Nat.le_refl _)]; simp
  have hp := pu_dec (u := n) (m := 9999) (by omega)
  rw [← hI] at hp
  rw [hn] at hA
  have hbody : bodyL b = .ok (numEnd b 12 + 1) := by
    unfold bodyL
    rw [if_neg, if_neg, if_pos]
    · rw [hD, hp.1, hE, hal, hA]; omega
    · intro hh
      rcases hh with hh | hh
      · omega
      · exact hh h1
    · have := pre_app headL (itoa (n : Int) ++ (1 :: (bodyB fs ++ (tenL ++ three (sumL (aheadL (bodyB fs))) ++ [1]))))
      rw [← eb] at this
      rw [this]; decide
  have hm : b.length - 7 = (aheadL (bodyB fs)).length := by omega
  have htk : b.take (aheadL (bodyB fs)).length = aheadL (bodyB fs) := by
    conv => lhs; rw [hb]
    unfold closeL
    rw [List.append_assoc, List.append_assoc, List.take_left' rfl]
  have hdr : b.drop (aheadL (bodyB fs)).length = tenL ++ (three (sumL (aheadL (bodyB fs))) ++ [1]) := by
    conv => lhs; rw [hb]
    unfold closeL
    rw [List.append_assoc, List.append_assoc, List.drop_left' rfl]
  have hlast : lastL b (b.length - 7) (sumL (b.take (b.length - 7))) = none := by
    rw [hm, htk]
    generalize aheadL (bodyB fs) = A at *
    have d3 : b.drop (A.length + 3) = three (sumL A) ++ [1] := by rw [← List.drop_drop, hdr]; rfl
    have t3 : (b.drop (A.length + 3)).take 3 = three (sumL A) := by rw [d3]; rfl
    have c3 : cnt dig (three (sumL A)) = 3 := by
      rw [cnt_whole dig _ (three_digs (by have := sumL_lt A; omega))]; rfl
    have g6 : b[A.length + 6]? = some 1 := by
      rw [← List.getElem?_drop, hdr]; rfl
    unfold lastL
    rw [hdr, pre_app, if_neg (by decide), t3, c3, if_neg (by omega), if_neg (fun hh => hh g6), if_pos rfl]
  unfold splitL
  rw [if_neg (by omega), hbody]
  simp only [hlast]
  rw [hm, htk]
  refine rdAll_body _ fs b.length _ ?_ ?_ ?_ hok
  · have := length_flds fs; omega
  · rw [hE, hA, hn]
  · rw [hE]
    unfold aheadL
    rw [hn, List.drop_left']
    simp [headL]; omega
theorem join_len {fs : List Fld} {b : List UInt8} (h : joinL fs = .ok b) : 21 ≤ b.length ∧ b.length ≤ 1024 := by
  obtain ⟨hb, hl, _⟩ := join_parts h
  refine ⟨?_, hl⟩
  have hA : (aheadL (bodyB fs)).length = 12 + (itoa ((bodyB fs).length : Int)).length + 1 + (bodyB fs).length := by unfold aheadL headL; simp; omega
  have hIn : 0 < (itoa ((bodyB fs).length : Int)).length := by
    rw [itoa_nonneg]; obtain ⟨c, l, e, _⟩ := head_dec (bodyB fs).length; rw [e]; simp
  rw [hb, close_length]; omega

/-- The sum of all. -/
def tot (l : List UInt8) : Nat := l.foldl (fun a c => a + c.toNat) 0
theorem tot_app (a b : List UInt8) : tot (a ++ b) = tot a + tot b := by unfold tot; rw [List.foldl_append, sum_from b]
theorem tot_cons (c : UInt8) (l : List UInt8) : tot (c :: l) = c.toNat + tot l := by unfold tot; rw [List.foldl_cons, sum_from l]; omega
theorem tot_set (l : List UInt8) (i : Nat) (x : UInt8) (h : i < l.length) : tot (l.set i x) + l[i].toNat = tot l + x.toNat := by
  rw [List.set_eq_take_append_cons_drop, if_pos h, tot_app, tot_cons]
  conv => rhs; rw [← List.take_append_drop i l, List.drop_eq_getElem_cons h, tot_app, tot_cons]
  omega
theorem turned_bad {b : List UInt8} {fs : List Fld} (h : splitL b = .ok fs) (i : Nat) (x : UInt8) (hi : i < b.length) (hx : x ≠ b[i]) : ∃ y, splitL (b.set i x) = .error y := by
  cases hc : splitL (b.set i x) with
  | error y => exact ⟨y, rfl⟩
  | ok gs =>
    exfalso
    obtain ⟨_, m, h2, h3, _, _⟩ := split_parts h
    obtain ⟨_, m', g2, g3, _, _⟩ := split_parts hc
    have hm : m' = m := by rw [List.length_set] at g2; omega
    subst hm
    by_cases him : i < m'
    · have hdr : (b.set i x).drop m' = b.drop m' := by rw [List.drop_set, if_pos him]
      rw [hdr, h3] at g3
      have ht : three (sumL (b.take m')) = three (sumL ((b.set i x).take m')) := by
        have g4 := List.append_cancel_right g3
        exact List.append_cancel_left g4
      have hs := three_inj (by have := sumL_lt (b.take m'); omega) (by have := sumL_lt ((b.set i x).take m'); omega) ht
      rw [List.take_set] at hs
      have hlt : i < (b.take m').length := by simp; omega
      have e := tot_set (b.take m') i x hlt
      have e2 : (b.take m')[i] = b[i] := List.getElem_take
      rw [e2] at e
      have hs' : tot (b.take m') % 256 = tot ((b.take m').set i x) % 256 := hs
      have hx1 := x.toNat_lt
      have hx2 := b[i].toNat_lt
      apply hx
      apply UInt8.toNat_inj.1
      omega
    · have htk : (b.set i x).take m' = b.take m' := by rw [List.take_set, List.set_eq_of_length_le (by simp; omega)]
      rw [htk, ← h3] at g3
      have he : b.set i x = b := by
        rw [← List.take_append_drop m' (b.set i x), htk, g3, List.take_append_drop]
      have : (b.set i x)[i]? = b[i]? := by rw [he]
      rw [List.getElem?_set_self hi, List.getElem?_eq_getElem hi] at this
      injection this with this
      exact hx this
end Go.Proofs.YtchkpggdndnpjaaGreatDoor

namespace Go.Proofs.YtchkpggdndnpjaaGreatDoor
set_option linter.unusedVariables false
open Go.RowKit

theorem setZ_ok {M : Msg} (hM : M.ok) {k : Nat} {z : Int} (h : -9223372036854775808 ≤ z ∧ z ≤ 9223372036854775807) : (M.setZ k z).ok := fun i => by
  unfold Msg.setZ
  dsimp only
  split
  · exact h
  · exact hM i
theorem zeroM_ok : zeroM.ok := fun i => by unfold zeroM; dsimp only; omega
theorem psV_bd (s : ByteArray) : 0 ≤ psV s ∧ psV s ≤ 9223372036854775807 := by
  by_cases h : psOk s = true
  · have e : psV s = dnV (part s 0 8) * 86400000 + part s 9 11 * 3600000 + part s 12 14 * 60000 + part s 15 17 * 1000 + (if 17 < s.size then part s 18 s.size else 0 : Nat) := by unfold psV; rw [if_pos h]
    unfold psOk at h
    simp only [Bool.and_eq_true, decide_eq_true_eq] at h
    obtain ⟨⟨⟨⟨hf, hd⟩, h9⟩, h12⟩, h15⟩ := h
    obtain ⟨n, -, hn, hle⟩ := dn_range hd
    have hms : (if 17 < s.size then part s 18 s.size else 0 : Nat) < 1000 := by
      split
      · rename_i h17
        unfold formOk at hf
        simp only [Bool.and_eq_true, Bool.or_eq_true, beq_iff_eq] at hf
        have hsz : s.size = 21 := by omega
        exact part_lt hf.2 18 s.size 3 (by omega) (Nat.le_refl _) (fun j hj hj2 => by
          rw [hsz] at hj2
          have : j = 18 ∨ j = 19 ∨ j = 20 := by omega
          rcases this with rfl | rfl | rfl <;> rfl)
      · omega
    rw [e, hn]
    generalize (if 17 < s.size then part s 18 s.size else 0 : Nat) = ms at *
    omega
  · have e : psV s = 0 := by unfold psV; rw [if_neg h]
    rw [e]; omega
theorem price_bd0 (s : ByteArray) : priceE s = 0 → 0 ≤ priceN s ∧ priceN s ≤ 1000000000 := by
  have key : ∀ wh r, digs r = true → prcE wh r = 0 → 0 ≤ prcN wh r ∧ prcN wh r ≤ 1000000000 := by
    intro wh r hr h
    by_cases h1 : puE wh 100000 = 0
    · by_cases h2 : puN wh 100000 * 10000 + restN r 4 ≤ 1000000000
      · rw [(prc_ok h1 h2).1]
        have := pu_bd wh 100000 (by decide)
        have := restN_bd r hr 4 (by decide)
        omega
      · rw [(prc_gt h1 h2).2] at h; cases h
    · rw [(prc_err h1).2] at h; exact absurd h h1
  intro h
  by_cases hd : dotAt s < 0
  · rw [(price_no hd).1]; rw [(price_no hd).2] at h
    exact key _ _ rfl h
  · by_cases hb : restB (restL s) = true
    · rw [(price_dot hd hb).1]; rw [(price_dot hd hb).2] at h
      exact key _ _ (restB_digs hb) h
    · rw [(price_bad hd hb).2] at h; cases h
theorem price_bd (s : ByteArray) (h : prB s = true) : -9223372036854775808 ≤ priceN s ∧ priceN s ≤ 9223372036854775807 := by
  unfold prB at h
  simp only [Bool.and_eq_true, decide_eq_true_eq] at h
  have := price_bd0 s h.1
  omega

theorem onV_bd (s : ByteArray) : -9223372036854775808 ≤ onV s ∧ onV s ≤ 9223372036854775807 := by
  have := pu_bd s.data.toList 999999999 (by decide)
  unfold onV
  cases eqB s noneS
  · exact ⟨by show _ ≤ puN s.data.toList 999999999; omega, this.2⟩
  · show _ ≤ (0 : Int) ∧ (0 : Int) ≤ _; omega
theorem ruM_ok (r : Nat) (hr : r < 45) (s : ByteArray) (M : Msg) (hM : M.ok) (hb : rdBo r s = true) : (ruM r s M).ok := by
  rcases cases45 hr with rfl | rfl | rfl | rfl | rfl | rfl | rfl | rfl | rfl | rfl | rfl | rfl | rfl | rfl | rfl | rfl | rfl | rfl | rfl | rfl | rfl | rfl | rfl | rfl | rfl | rfl | rfl | rfl | rfl | rfl | rfl | rfl | rfl | rfl | rfl | rfl | rfl | rfl | rfl | rfl | rfl | rfl | rfl | rfl | rfl
  · have := idS_bd (xwd 0) s (by decide); exact setZ_ok hM ⟨by show _ ≤ 1 + idS_ (xwd 0) s; omega, by show 1 + idS_ (xwd 0) s ≤ _; omega⟩
  · exact hM
  · exact hM
  · have := pu_bd s.data.toList 999999999 (by decide); exact setZ_ok hM ⟨by show _ ≤ puN s.data.toList 999999999; omega, this.2⟩
  · exact hM
  · have := psV_bd s; exact setZ_ok hM ⟨by omega, this.2⟩
  · have := psV_bd s; exact setZ_ok hM ⟨by omega, this.2⟩
  · exact hM
  · have := pu_bd s.data.toList 3600 (by decide); exact setZ_ok hM ⟨by show _ ≤ puN s.data.toList 3600; omega, this.2⟩
  · exact hM
  · exact hM
  · have := pu_bd s.data.toList 999999999 (by decide); exact setZ_ok hM ⟨by show _ ≤ puN s.data.toList 999999999; omega, this.2⟩
  · have := pu_bd s.data.toList 999999999 (by decide); exact setZ_ok hM ⟨by show _ ≤ puN s.data.toList 999999999; omega, this.2⟩
  · have := pu_bd s.data.toList 999999999 (by decide); exact setZ_ok hM ⟨by show _ ≤ puN s.data.toList 999999999; omega, this.2⟩
  · exact hM
  · have := pu_bd s.data.toList 999999999 (by decide); exact setZ_ok hM ⟨by show _ ≤ puN s.data.toList 999999999; omega, this.2⟩
  · have := idS_bd (xwd 16) s (by decide); exact setZ_ok hM ⟨by show _ ≤ 1 + idS_ (xwd 16) s; omega, by show 1 + idS_ (xwd 16) s ≤ _; omega⟩
  · have := pu_bd s.data.toList 9999 (by decide); exact setZ_ok hM ⟨by show _ ≤ puN s.data.toList 9999; omega, this.2⟩
  · have := pu_bd s.data.toList 999 (by decide); exact setZ_ok hM ⟨by show _ ≤ puN s.data.toList 999; omega, this.2⟩
  · exact hM
  · exact hM
  · exact hM
  · exact hM
  · exact hM
  · have := idS_bd (xwd 24) s (by decide); exact setZ_ok hM ⟨by show _ ≤ 1 + idS_ (xwd 24) s; omega, by show 1 + idS_ (xwd 24) s ≤ _; omega⟩
  · have := idS_bd (xwd 25) s (by decide); exact setZ_ok hM ⟨by show _ ≤ 1 + idS_ (xwd 25) s; omega, by show 1 + idS_ (xwd 25) s ≤ _; omega⟩
  · have := idS_bd (xwd 26) s (by decide); exact setZ_ok hM ⟨by show _ ≤ 1 + idS_ (xwd 26) s; omega, by show 1 + idS_ (xwd 26) s ≤ _; omega⟩
  · show (cond (M.z 25 == 1) (M.setZ 25 7) M).ok
    cases M.z 25 == 1
    · exact hM
    · exact setZ_ok hM (by omega)
  · exact setZ_ok hM (price_bd s hb)
  · exact setZ_ok hM (price_bd s hb)
  · have := pu_bd s.data.toList 1000000 (by decide); exact setZ_ok hM ⟨by show _ ≤ puN s.data.toList 1000000; omega, this.2⟩
  · have := pu_bd s.data.toList 1000000 (by decide); exact setZ_ok hM ⟨by show _ ≤ puN s.data.toList 1000000; omega, this.2⟩
  · have := pu_bd s.data.toList 1000000 (by decide); exact setZ_ok hM ⟨by show _ ≤ puN s.data.toList 1000000; omega, this.2⟩
  · have := pu_bd s.data.toList 99991231 (by decide); exact setZ_ok hM ⟨by omega, this.2⟩
  · exact setZ_ok hM (onV_bd s)
  · have := pu_bd s.data.toList 999999999 (by decide); exact setZ_ok hM ⟨by show _ ≤ puN s.data.toList 999999999; omega, this.2⟩
  · have := idS_bd (xwd 36) s (by decide); exact setZ_ok hM ⟨by show _ ≤ 1 + idS_ (xwd 36) s; omega, by show 1 + idS_ (xwd 36) s ≤ _; omega⟩
  · have := idS_bd (xwd 37) s (by decide); exact setZ_ok hM ⟨by show _ ≤ 1 + idS_ (xwd 37) s; omega, by show 1 + idS_ (xwd 37) s ≤ _; omega⟩
  · exact setZ_ok hM (price_bd s hb)
  · have := pu_bd s.data.toList 1000000 (by decide); exact setZ_ok hM ⟨by show _ ≤ puN s.data.toList 1000000; omega, this.2⟩
  · have := pu_bd s.data.toList 1000000 (by decide); exact setZ_ok hM ⟨by show _ ≤ puN s.data.toList 1000000; omega, this.2⟩
  · have := pu_bd s.data.toList 1000000 (by decide); exact setZ_ok hM ⟨by show _ ≤ puN s.data.toList 1000000; omega, this.2⟩
  · have := idS_bd (xwd 42) s (by decide); exact setZ_ok hM ⟨by show _ ≤ 0 + idS_ (xwd 42) s; omega, by show 0 + idS_ (xwd 42) s ≤ _; omega⟩
  · have := pu_bd s.data.toList 999999999 (by decide); exact setZ_ok hM ⟨by show _ ≤ puN s.data.toList 999999999; omega, this.2⟩
  · exact hM
theorem gaS_ok {fs : List Fld} {M : Msg} {t : Slt} (hM : M.ok) (hr : t.2.2 < 45) : (gaS fs M t).ok := by
  unfold gaS
  split
  · rename_i f hf
    cases hb : rdBo t.2.2 (bs f.2)
    · exact hM
    · exact ruM_ok _ hr _ _ hM hb
  · exact hM
theorem gaF_ok {fs : List Fld} : ∀ (l : List Slt) (M : Msg), M.ok → (∀ t ∈ l, t.2.2 < 45) → (l.foldl (gaS fs) M).ok
  | [], M, hM, _ => hM
  | t :: l, M, hM, h => gaF_ok l _ (gaS_ok hM (h t (by simp))) (fun u hu => h u (by simp [hu]))
theorem gaM_ok {fs : List Fld} {l : List Slt} (h : ∀ t ∈ l, t.2.2 < 45) : (gaM fs l).ok := gaF_ok l zeroM zeroM_ok h
theorem split_small {s : List UInt8} {fs : List Fld} (h : splitL s = .ok fs) : fs.length ≤ 1024 ∧ (bodyB fs).length ≤ 1024 ∧ ∀ f ∈ fs, isTg f.1 = true ∧ okV f.2 = true ∧ f.2.length ≤ 1024 := by
  obtain ⟨h1, m, h2, h3, h4, h5⟩ := split_parts h
  have hl : (s.take m).length ≤ 1024 := by simp; omega
  rw [h4] at hl
  have hA : (aheadL (bodyB fs)).length = 12 + (Lib.itoa ((bodyB fs).length : Int)).length + 1 + (bodyB fs).length := head_length _
  have hf := length_flds fs
  refine ⟨by omega, by omega, fun f hf => ⟨(h5 f hf).1, (h5 f hf).2, ?_⟩⟩
  have := val_le_body fs f hf
  omega
end Go.Proofs.YtchkpggdndnpjaaGreatDoor

namespace Go.Proofs.YtchkpggdndnpjaaGreatDoor
set_option linter.unusedVariables false
open Go.Lib

theorem digs_no_dot {l : List UInt8} (h : digs l = true) : ∀ c ∈ l, c ≠ 46 := by
  intro c hc e
  unfold digs at h
  rw [List.all_eq_true] at h
  have := (dig_iff c).1 (h c hc)
  rw [e] at this
  revert this
  decide
theorem ib_none : ∀ (l : List UInt8), (∀ c ∈ l, c ≠ 46) → indexByte l 46 = -1
  | [], _ => rfl
  | b :: l, h => by
    have ih := ib_none l (fun c hc => h c (by simp [hc]))
    have hb : (b == 46) = false := by simpa using h b (by simp)
    rw [indexByte, hb, ih]
    rfl
theorem ib_app : ∀ (l r : List UInt8), (∀ c ∈ l, c ≠ 46) → indexByte (l ++ 46 :: r) 46 = (l.length : Int)
  | [], r, _ => by simp [indexByte]
  | b :: l, r, h => by
    have ih := ib_app l r (fun c hc => h c (by simp [hc]))
    have hb : (b == 46) = false := by simpa using h b (by simp)
    rw [List.cons_append, indexByte, hb, ih]
    have hne : ((l.length : Int) == -1) = false := by simp
    rw [hne]
    simp
theorem dec_four {r : Nat} (h : r < 10000) : decDigits (10000 + r) = [49, UInt8.ofNat (48 + r / 1000), UInt8.ofNat (48 + r / 100 % 10), UInt8.ofNat (48 + r / 10 % 10), UInt8.ofNat (48 + r % 10)] := by
  rw [decDigits, dif_neg (by omega), decDigits, dif_neg (by omega), decDigits, dif_neg (by omega), decDigits, dif_neg (by omega), decDigits_one (by omega)]
  simp only [List.cons_append, List.nil_append]
  rw [show 48 + (10000 + r) / 10 / 10 / 10 / 10 = 49 by omega, show (10000 + r) / 10 / 10 / 10 % 10 = r / 1000 by omega, show (10000 + r) / 10 / 10 % 10 = r / 100 % 10 by omega, show (10000 + r) / 10 % 10 = r / 10 % 10 by omega, show (10000 + r) % 10 = r % 10 by omega]
  rfl
theorem plc_chr {i : Nat} (h : i < 10) : plc (some (UInt8.ofNat (48 + i))) = (i : Int) := by
  show (((UInt8.ofNat (48 + i)).toNat : Nat) : Int) - 48 = _
  rw [chr_nat h]
  omega
theorem chr_eq {i : Nat} (h : i < 10) : (UInt8.ofNat (48 + i) == 48) = decide (i = 0) := by
  by_cases e : i = 0
  · subst e; rfl
  · have : UInt8.ofNat (48 + i) ≠ 48 := fun h' => by
      have := congrArg UInt8.toNat h'
      rw [chr_nat h] at this
      have h48 : (48 : UInt8).toNat = 48 := rfl
      omega
    rw [decide_eq_false e]
    exact beq_eq_false_iff_ne.2 this
/-- The digits behind the point, without the noughts at their end. -/
theorem trim_bytes {a b c d : Nat} {A B C D : UInt8} (da : dig A = true) (db : dig B = true) (dc : dig C = true) (dd : dig D = true) (pa : plc (some A) = (a : Int)) (pb : plc (some B) = (b : Int)) (pc : plc (some C) = (c : Int)) (pd : plc (some D) = (d : Int))
    (ea : (A == 48) = decide (a = 0)) (eb : (B == 48) = decide (b = 0)) (ec : (C == 48) = decide (c = 0)) (ed : (D == 48) = decide (d = 0)) (h : ¬ (a = 0 ∧ b = 0 ∧ c = 0 ∧ d = 0)) :
    restB (trimRightB [A, B, C, D] 48) = true ∧ restN (trimRightB [A, B, C, D] 48) 4 = (a * 1000 + b * 100 + c * 10 + d : Nat) := by
  have pn : plc none = 0 := rfl
  have t : trimRightB [A, B, C, D] 48 = if d = 0 then (if c = 0 then (if b = 0 then [A] else [A, B]) else [A, B, C]) else [A, B, C, D] := by
    have r : [A, B, C, D].reverse = [D, C, B, A] := rfl
    unfold trimRightB
    rw [r]
    by_cases d0 : d = 0
    · rw [if_pos d0, List.dropWhile_cons, ed, decide_eq_true d0, if_pos rfl]
      by_cases c0 : c = 0
      · rw [if_pos c0, List.dropWhile_cons, ec, decide_eq_true c0, if_pos rfl]
        by_cases b0 : b = 0
        · rw [if_pos b0, List.dropWhile_cons, eb, decide_eq_true b0, if_pos rfl, List.dropWhile_cons, ea, decide_eq_false (by omega), if_neg (by decide)]
          rfl
        · rw [if_neg b0, List.dropWhile_cons, eb, decide_eq_false b0, if_neg (by decide)]
          rfl
      · rw [if_neg c0, List.dropWhile_cons, ec, decide_eq_false c0, if_neg (by decide)]
        rfl
    · rw [if_neg d0, List.dropWhile_cons, ed, decide_eq_false d0, if_neg (by decide)]
      rfl
  rw [t]
  by_cases d0 : d = 0
  · rw [if_pos d0]
    by_cases c0 : c = 0
    · rw [if_pos c0]
      by_cases b0 : b = 0
      · rw [if_pos b0]
        exact ⟨by simp [restB, digs, da], by simp [restN, pa, pn]; omega⟩
      · rw [if_neg b0]
        exact ⟨by simp [restB, digs, da, db], by simp [restN, pa, pb, pn]; omega⟩
    · rw [if_neg c0]
      exact ⟨by simp [restB, digs, da, db, dc], by simp [restN, pa, pb, pc, pn]; omega⟩
  · rw [if_neg d0]
    exact ⟨by simp [restB, digs, da, db, dc, dd], by simp [restN, pa, pb, pc, pd]; omega⟩
theorem trim_four {a b c d : Nat} (ha : a < 10) (hb : b < 10) (hc : c < 10) (hd : d < 10) (h : ¬ (a = 0 ∧ b = 0 ∧ c = 0 ∧ d = 0)) :
    restB (trimRightB [UInt8.ofNat (48 + a), UInt8.ofNat (48 + b), UInt8.ofNat (48 + c), UInt8.ofNat (48 + d)] 48) = true ∧ restN (trimRightB [UInt8.ofNat (48 + a), UInt8.ofNat (48 + b), UInt8.ofNat (48 + c), UInt8.ofNat (48 + d)] 48) 4 = (a * 1000 + b * 100 + c * 10 + d : Nat) :=
  trim_bytes (dig_chr ha) (dig_chr hb) (dig_chr hc) (dig_chr hd) (plc_chr ha) (plc_chr hb) (plc_chr hc) (plc_chr hd) (chr_eq ha) (chr_eq hb) (chr_eq hc) (chr_eq hd) h
/-- ParsePrice of PrintPrice. -/
theorem price_back (q : Nat) (hq : q ≤ 1000000000) : priceN (ppB q) = (q : Int) ∧ priceE (ppB q) = 0 := by
  have hm : magI (q : Int) = q := magI_pos (by omega)
  have hW : q / 10000 ≤ 100000 := by omega
  have hS : ppS (q : Int) = ⟨(decDigits (q / 10000)).toArray⟩ := by
    unfold ppS
    rw [if_neg (by omega), hm]
    unfold decI
    rw [show ((q : Int) / 10000).toNat = q / 10000 by omega]
  have hpu := pu_dec (u := q / 10000) (m := 100000) (by omega)
  have hdot := digs_no_dot (digs_dec (q / 10000))
  by_cases hr : q % 10000 = 0
  · have hB : ppB (q : Int) = ⟨(decDigits (q / 10000)).toArray⟩ := by
      unfold ppB
      rw [hm, if_pos (by omega), hS]
    rw [hB]
    have hd : dotAt ⟨(decDigits (q / 10000)).toArray⟩ < 0 := by
      unfold dotAt
      rw [show (⟨(decDigits (q / 10000)).toArray⟩ : ByteArray).data.toList = decDigits (q / 10000) from rfl, ib_none _ hdot]
      decide
    rw [(price_no hd).1, (price_no hd).2]
    have := prc_ok (wh := decDigits (q / 10000)) (r := []) hpu.2 (by rw [hpu.1, restN_nil]; omega)
    rw [show (⟨(decDigits (q / 10000)).toArray⟩ : ByteArray).data.toList = decDigits (q / 10000) from rfl, this.1, this.2, hpu.1, restN_nil]
    exact ⟨by omega, rfl⟩
  · have hT := trim_four (a := q % 10000 / 1000) (b := q % 10000 / 100 % 10) (c := q % 10000 / 10 % 10) (d := q % 10000 % 10) (by omega) (by omega) (by omega) (by omega) (by omega)
    have hB : (ppB (q : Int)).data.toList = decDigits (q / 10000) ++ 46 :: trimRightB [UInt8.ofNat (48 + q % 10000 / 1000), UInt8.ofNat (48 + q % 10000 / 100 % 10), UInt8.ofNat (48 + q % 10000 / 10 % 10), UInt8.ofNat (48 + q % 10000 % 10)] 48 := by
      unfold ppB
      rw [hm, if_neg (by omega), hS]
      unfold trim0 decI
      rw [show ((10000 : Int) + (q : Int) % 10000).toNat = 10000 + q % 10000 by omega, dec_four (Nat.mod_lt _ (by decide))]
      simp only [ByteArray.data_append, Array.toList_append, List.append_assoc]
      rfl
    generalize ppB (q : Int) = S at *
    generalize trimRightB [UInt8.ofNat (48 + q % 10000 / 1000), UInt8.ofNat (48 + q % 10000 / 100 % 10), UInt8.ofNat (48 + q % 10000 / 10 % 10), UInt8.ofNat (48 + q % 10000 % 10)] 48 = T at *
    have hd : dotAt S = ((decDigits (q / 10000)).length : Int) := by
      unfold dotAt
      rw [hB, ib_app _ _ hdot]
    have hw : wholeL S = decDigits (q / 10000) := by
      unfold wholeL
      rw [hd, Int.toNat_natCast, hB, List.take_left]
    have hre : restL S = T := by
      unfold restL
      rw [hd, Int.toNat_natCast, hB]
      rw [show decDigits (q / 10000) ++ 46 :: T = (decDigits (q / 10000) ++ [46]) ++ T by simp]
      rw [show (decDigits (q / 10000)).length + 1 = (decDigits (q / 10000) ++ [46]).length by simp, List.drop_left]
    have hb : restB (restL S) = true := by rw [hre]; exact hT.1
    rw [(price_dot (by omega) hb).1, (price_dot (by omega) hb).2, hw, hre]
    have := prc_ok (wh := decDigits (q / 10000)) (r := T) hpu.2 (by rw [hpu.1, hT.2]; omega)
    rw [this.1, this.2, hpu.1, hT.2]
    exact ⟨by omega, rfl⟩
theorem price_list (q : Nat) (hq : q ≤ 1000000000) : ∃ T, (ppB (q : Int)).data.toList = decDigits (q / 10000) ++ T ∧ (T = [] ∨ ∃ T', T = 46 :: T' ∧ restB T' = true) := by
  have hm : magI (q : Int) = q := magI_pos (by omega)
  have hW : q / 10000 ≤ 100000 := by omega
  have hS : ppS (q : Int) = ⟨(decDigits (q / 10000)).toArray⟩ := by
    unfold ppS
    rw [if_neg (by omega), hm]
    unfold decI
    rw [show ((q : Int) / 10000).toNat = q / 10000 by omega]
  by_cases hr : q % 10000 = 0
  · have hB : ppB (q : Int) = ⟨(decDigits (q / 10000)).toArray⟩ := by
      unfold ppB
      rw [hm, if_pos (by omega), hS]
    refine ⟨[], ?_, .inl rfl⟩
    rw [hB, List.append_nil]
  · have hT := trim_four (a := q % 10000 / 1000) (b := q % 10000 / 100 % 10) (c := q % 10000 / 10 % 10) (d := q % 10000 % 10) (by omega) (by omega) (by omega) (by omega) (by omega)
    have hB : (ppB (q : Int)).data.toList = decDigits (q / 10000) ++ 46 :: trimRightB [UInt8.ofNat (48 + q % 10000 / 1000), UInt8.ofNat (48 + q % 10000 / 100 % 10), UInt8.ofNat (48 + q % 10000 / 10 % 10), UInt8.ofNat (48 + q % 10000 % 10)] 48 := by
      unfold ppB
      rw [hm, if_neg (by omega), hS]
      unfold trim0 decI
      rw [show ((10000 : Int) + (q : Int) % 10000).toNat = 10000 + q % 10000 by omega, dec_four (Nat.mod_lt _ (by decide))]
      simp only [ByteArray.data_append, Array.toList_append, List.append_assoc]
      rfl
    exact ⟨_, hB, .inr ⟨_, rfl, hT.1⟩⟩
end Go.Proofs.YtchkpggdndnpjaaGreatDoor

namespace Go.Proofs.YtchkpggdndnpjaaGreatDoor
set_option linter.unusedVariables false
open Go.Shelf Go.RowKit Go.Sort Go.Lib

def u8 (n : Int) : UInt8 := UInt8.ofNat n.toNat
def digB (n k : Nat) : List UInt8 := (digI n k).map u8
theorem digB_length (n k : Nat) : (digB n k).length = k := by simp [digB, digI]
theorem u8_dig {x : Nat} (h : x < 10) : (u8 ((48 + x : Nat) : Int)).toNat = 48 + x := by
  unfold u8
  rw [Int.toNat_natCast]
  simp
  omega
theorem digI_snoc (n k : Nat) : digI n (k + 1) = digI (n / 10) k ++ [((48 + n % 10 : Nat) : Int)] := by
  unfold digI
  rw [List.range_succ, List.map_append]
  congr 1
  · refine List.map_congr_left fun i hi => ?_
    have hi' : i < k := by simpa using hi
    rw [Nat.div_div_eq_div_mul, show k + 1 - 1 - i = (k - 1 - i) + 1 by omega, Nat.pow_succ, Nat.mul_comm (10 ^ (k - 1 - i)) 10]
  · simp
theorem digB_snoc (n k : Nat) : digB n (k + 1) = digB (n / 10) k ++ [u8 ((48 + n % 10 : Nat) : Int)] := by
  unfold digB
  rw [digI_snoc, List.map_append]
  rfl
theorem rd_digB (k : Nat) : ∀ n, rdNc (digB n k) = n % 10 ^ k := by
  induction k with
  | zero => intro n; simp [digB, digI, rdNc, Nat.mod_one]
  | succ k ih =>
    intro n
    rw [digB_snoc, rdNc_snoc, ih, u8_dig (Nat.mod_lt _ (by decide)), Nat.pow_succ, Nat.mul_comm (10 ^ k) 10, Nat.mod_mul]
    omega
theorem digB_dig (k : Nat) : ∀ n, ∀ c ∈ digB n k, isDig c = true := by
  induction k with
  | zero => intro n c hc; simp [digB, digI] at hc
  | succ k ih =>
    intro n c hc
    rw [digB_snoc, List.mem_append] at hc
    rcases hc with hc | hc
    · exact ih _ c hc
    · simp only [List.mem_singleton] at hc
      subst hc
      have := u8_dig (x := n % 10) (Nat.mod_lt _ (by decide))
      unfold isDig
      rw [this]
      have : n % 10 < 10 := Nat.mod_lt _ (by decide)
      simp
      omega
theorem mid {α : Type} (A B C : List α) {a n : Nat} (hA : A.length = a) (hB : B.length = n) : ((A ++ B ++ C).drop a).take n = B := by
  subst hA hB
  rw [List.append_assoc, List.drop_left, List.take_left]
/-- The text of a stamp, of numbers. -/
def txt (d h m s x : Nat) : List UInt8 := digB d 8 ++ [45] ++ digB h 2 ++ [58] ++ digB m 2 ++ [58] ++ digB s 2 ++ [46] ++ digB x 3
theorem txt_length (d h m s x : Nat) : (txt d h m s x).length = 21 := by simp [txt, digB_length]
theorem txt_d (d h m s x : Nat) : ((txt d h m s x).drop 0).take 8 = digB d 8 := by
  have := mid [] (digB d 8) ([45] ++ digB h 2 ++ [58] ++ digB m 2 ++ [58] ++ digB s 2 ++ [46] ++ digB x 3) rfl (digB_length d 8)
  simpa [txt] using this
theorem txt_h (d h m s x : Nat) : ((txt d h m s x).drop 9).take 2 = digB h 2 := by
  have := mid (digB d 8 ++ [45]) (digB h 2) ([58] ++ digB m 2 ++ [58] ++ digB s 2 ++ [46] ++ digB x 3) (a := 9) (by simp [digB_length]) (digB_length h 2)
  simpa [txt] using this
theorem txt_m (d h m s x : Nat) : ((txt d h m s x).drop 12).take 2 = digB m 2 := by
  have := mid (digB d 8 ++ [45] ++ digB h 2 ++ [58]) (digB m 2) ([58] ++ digB s 2 ++ [46] ++ digB x 3) (a := 12) (by simp [digB_length]) (digB_length m 2)
  simpa [txt] using this
theorem txt_s (d h m s x : Nat) : ((txt d h m s x).drop 15).take 2 = digB s 2 := by
  have := mid (digB d 8 ++ [45] ++ digB h 2 ++ [58] ++ digB m 2 ++ [58]) (digB s 2) ([46] ++ digB x 3) (a := 15) (by simp [digB_length]) (digB_length s 2)
  simpa [txt] using this
theorem txt_x (d h m s x : Nat) : ((txt d h m s x).drop 18).take 3 = digB x 3 := by
  have := mid (digB d 8 ++ [45] ++ digB h 2 ++ [58] ++ digB m 2 ++ [58] ++ digB s 2 ++ [46]) (digB x 3) [] (a := 18) (by simp [digB_length]) (digB_length x 3)
  simpa [txt] using this
/-- A digit's place. -/
theorem get_of_part {l : List UInt8} {a n : Nat} {B : List UInt8} (h : (l.drop a).take n = B) (hB : ∀ c ∈ B, isDig c = true) (hl : a + n ≤ l.length) {j : Nat} (h0 : a ≤ j) (h1 : j < a + n) : isDig (l.getD j 0) = true := by
  refine hB _ ?_
  rw [← h, List.getD_eq_getElem?_getD, List.getElem?_eq_getElem (by omega)]
  simp only [Option.getD_some]
  have : l[j] = ((l.drop a).take n)[j - a]'(by simp; omega) := by
    simp only [List.getElem_take, List.getElem_drop]
    congr 1
    omega
  rw [this]
  exact List.getElem_mem _
theorem txt_sign (d h m s x : Nat) : (txt d h m s x).getD 8 0 = 45 ∧ (txt d h m s x).getD 11 0 = 58 ∧ (txt d h m s x).getD 14 0 = 58 ∧ (txt d h m s x).getD 17 0 = 46 := by
  have e1 := mid (digB d 8) [45] (digB h 2 ++ [58] ++ digB m 2 ++ [58] ++ digB s 2 ++ [46] ++ digB x 3) (digB_length d 8) rfl
  have e2 := mid (digB d 8 ++ [45] ++ digB h 2) [58] (digB m 2 ++ [58] ++ digB s 2 ++ [46] ++ digB x 3) (a := 11) (by simp [digB_length]) rfl
  have e3 := mid (digB d 8 ++ [45] ++ digB h 2 ++ [58] ++ digB m 2) [58] (digB s 2 ++ [46] ++ digB x 3) (a := 14) (by simp [digB_length]) rfl
  have e4 := mid (digB d 8 ++ [45] ++ digB h 2 ++ [58] ++ digB m 2 ++ [58] ++ digB s 2) [46] (digB x 3) (a := 17) (by simp [digB_length]) rfl
  have key : ∀ (l : List UInt8) (a : Nat) (c : UInt8), (l.drop a).take 1 = [c] → l.getD a 0 = c := fun l a c h => by
    have h2 : (l.drop a).head? = some c := by
      cases hd : l.drop a with
      | nil => rw [hd] at h; simp at h
      | cons y ys => rw [hd] at h; simp at h; simp [h]
    rw [List.head?_drop] at h2
    rw [List.getD_eq_getElem?_getD, h2]
    rfl
  refine ⟨key _ _ _ ?_, key _ _ _ ?_, key _ _ _ ?_, key _ _ _ ?_⟩
  · simpa [txt] using e1
  · simpa [txt] using e2
  · simpa [txt] using e3
  · simpa [txt] using e4
theorem txt_form (t : ByteArray) (d h m s x : Nat) (ht : t.data.toList = txt d h m s x) : formTo t 21 = true := by
  have hl := txt_length d h m s x
  simp only [formTo, List.all_eq_true, List.mem_range]
  intro j hj
  rw [ht]
  have hs := txt_sign d h m s x
  by_cases h48 : formAt j = 48
  · rw [okAt_dig h48]
    have hc : (0 ≤ j ∧ j < 0 + 8) ∨ (9 ≤ j ∧ j < 9 + 2) ∨ (12 ≤ j ∧ j < 12 + 2) ∨ (15 ≤ j ∧ j < 15 + 2) ∨ (18 ≤ j ∧ j < 18 + 3) :=
      (by decide : ∀ j, j < 21 → formAt j = 48 → (0 ≤ j ∧ j < 0 + 8) ∨ (9 ≤ j ∧ j < 9 + 2) ∨ (12 ≤ j ∧ j < 12 + 2) ∨ (15 ≤ j ∧ j < 15 + 2) ∨ (18 ≤ j ∧ j < 18 + 3)) j hj h48
    rcases hc with hc | hc | hc | hc | hc
    · exact get_of_part (txt_d d h m s x) (digB_dig 8 d) (by omega) hc.1 hc.2
    · exact get_of_part (txt_h d h m s x) (digB_dig 2 h) (by omega) hc.1 hc.2
    · exact get_of_part (txt_m d h m s x) (digB_dig 2 m) (by omega) hc.1 hc.2
    · exact get_of_part (txt_s d h m s x) (digB_dig 2 s) (by omega) hc.1 hc.2
    · exact get_of_part (txt_x d h m s x) (digB_dig 3 x) (by omega) hc.1 hc.2
  · rw [okAt_sign h48]
    have hc : j = 8 ∨ j = 11 ∨ j = 14 ∨ j = 17 := (by decide : ∀ j, j < 21 → ¬ formAt j = 48 → j = 8 ∨ j = 11 ∨ j = 14 ∨ j = 17) j hj h48
    rcases hc with rfl | rfl | rfl | rfl
    · rw [hs.1]; rfl
    · rw [hs.2.1]; rfl
    · rw [hs.2.2.1]; rfl
    · rw [hs.2.2.2]; rfl
theorem stamp_txt (t : Nat) : (strOfNums (stampI t)).data.toList = txt (dateN (t / 86400000)) (t % 86400000 / 3600000) (t % 3600000 / 60000) (t % 60000 / 1000) (t % 1000) := by
  rw [strOfNums_data]
  unfold stampI txt digB
  simp only [List.map_append]
  rfl
theorem stamp_size (t : Nat) : (strOfNums (stampI t)).size = 21 := by
  rw [strOfNums_size]
  simp [stampI, digI_length]
/-- What Stamp writes is read. -/
theorem ps_stamp (t : Nat) (ht : t ≤ 253402300799999) : psV (strOfNums (stampI t)) = (t : Int) ∧ psE (strOfNums (stampI t)) = 0 := by
  have hx := stamp_txt t
  have hz := stamp_size t
  generalize strOfNums (stampI t) = S at *
  have hd := dateN_bounds (n := t / 86400000) (by omega)
  have hnum := dnum_date (n := t / 86400000) (by omega)
  have p1 : part S 0 8 = dateN (t / 86400000) := by
    unfold part rdBc; rw [extract_list, hx, txt_d, rd_digB]; exact Nat.mod_eq_of_lt (by omega)
  have p2 : part S 9 11 = t % 86400000 / 3600000 := by
    unfold part rdBc; rw [extract_list, hx, txt_h, rd_digB]; exact Nat.mod_eq_of_lt (by omega)
  have p3 : part S 12 14 = t % 3600000 / 60000 := by
    unfold part rdBc; rw [extract_list, hx, txt_m, rd_digB]; exact Nat.mod_eq_of_lt (by omega)
  have p4 : part S 15 17 = t % 60000 / 1000 := by
    unfold part rdBc; rw [extract_list, hx, txt_s, rd_digB]; exact Nat.mod_eq_of_lt (by omega)
  have p5 : part S 18 21 = t % 1000 := by
    unfold part rdBc; rw [extract_list, hx, txt_x, rd_digB]; exact Nat.mod_eq_of_lt (by omega)
  have hb : dnB (dateN (t / 86400000) : Int) = true := by unfold dnB; rw [hnum]; rfl
  have hv : dnV (dateN (t / 86400000) : Int) = ((t / 86400000 : Nat) : Int) := by unfold dnV; rw [hnum]
  have hok : psOk S = true := by
    unfold psOk formOk
    rw [p1, p2, p3, p4, hb, hz, txt_form S _ _ _ _ _ hx, decide_eq_true (by omega), decide_eq_true (by omega), decide_eq_true (by omega)]
    rfl
  unfold psV psE
  rw [hok, if_pos rfl, if_pos rfl, hz, if_pos (by decide), p1, p2, p3, p4, p5, hv]
  exact ⟨by omega, rfl⟩
theorem cut_part (S : ByteArray) (a b : Nat) (hb : b ≤ 17) : part (S.extract 0 17) a b = part S a b := by
  unfold part rdBc
  rw [extract_list, extract_list, extract_list, List.drop_zero, List.drop_take, List.take_take]
  congr 2
  omega
theorem cut_form (S : ByteArray) (h : formTo S 21 = true) (hz : S.size = 21) : formTo (S.extract 0 17) 17 = true := by
  simp only [formTo, List.all_eq_true, List.mem_range] at h ⊢
  intro j hj
  have := h j (by omega)
  rw [extract_list, List.drop_zero, List.getD_eq_getElem?_getD, List.getElem?_take_of_lt (by omega), ← List.getD_eq_getElem?_getD]
  exact this
/-- .. without the milliseconds as the second. -/
theorem ps_cut (t : Nat) (ht : t ≤ 253402300799999) : psV ((strOfNums (stampI t)).extract 0 17) = (t : Int) - (t : Int) % 1000 ∧ psE ((strOfNums (stampI t)).extract 0 17) = 0 := by
  have hx := stamp_txt t
  have hz := stamp_size t
  generalize strOfNums (stampI t) = S at *
  have hd := dateN_bounds (n := t / 86400000) (by omega)
  have hnum := dnum_date (n := t / 86400000) (by omega)
  have p1 : part S 0 8 = dateN (t / 86400000) := by
    unfold part rdBc; rw [extract_list, hx, txt_d, rd_digB]; exact Nat.mod_eq_of_lt (by omega)
  have p2 : part S 9 11 = t % 86400000 / 3600000 := by
    unfold part rdBc; rw [extract_list, hx, txt_h, rd_digB]; exact Nat.mod_eq_of_lt (by omega)
  have p3 : part S 12 14 = t % 3600000 / 60000 := by
    unfold part rdBc; rw [extract_list, hx, txt_m, rd_digB]; exact Nat.mod_eq_of_lt (by omega)
  have p4 : part S 15 17 = t % 60000 / 1000 := by
    unfold part rdBc; rw [extract_list, hx, txt_s, rd_digB]; exact Nat.mod_eq_of_lt (by omega)
  have hb : dnB (dateN (t / 86400000) : Int) = true := by unfold dnB; rw [hnum]; rfl
  have hv : dnV (dateN (t / 86400000) : Int) = ((t / 86400000 : Nat) : Int) := by unfold dnV; rw [hnum]
  have hz2 : (S.extract 0 17).size = 17 := by rw [ByteArray.size_extract]; omega
  have hok : psOk (S.extract 0 17) = true := by
    unfold psOk formOk
    rw [cut_part S 0 8 (by omega), cut_part S 9 11 (by omega), cut_part S 12 14 (by omega), cut_part S 15 17 (by omega), p1, p2, p3, p4, hb, hz2, cut_form S (txt_form S _ _ _ _ _ hx) hz, decide_eq_true (by omega), decide_eq_true (by omega), decide_eq_true (by omega)]
    rfl
  unfold psV psE
  rw [hok, if_pos rfl, if_pos rfl, hz2, if_neg (by decide), cut_part S 0 8 (by omega), cut_part S 9 11 (by omega), cut_part S 12 14 (by omega), cut_part S 15 17 (by omega), p1, p2, p3, p4, hv]
  exact ⟨by omega, rfl⟩
end Go.Proofs.YtchkpggdndnpjaaGreatDoor
