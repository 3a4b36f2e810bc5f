/-
  Plain mathematics for package fields: what is joined is split as it was; one byte turned is refused.
-/
import Derived.Test.YtfgfjkchcnpakaaDoorFMath
namespace Go.Proofs.YtfgfjkchcnpakaaDoor
set_option linter.unusedVariables false
open Go.RowKit Go.Lib

theorem okV_parts {v : List UInt8} (h : okV v = true) : v ≠ [] ∧ ∀ c ∈ v, vby c = true := by
  unfold okV at h
  rw [Bool.and_eq_true, List.all_eq_true] at h
  exact ⟨by intro e; rw [e] at h; simp at h, h.2⟩
theorem itoa_tag {t : Int} (h : isTg t = true) : itoa t = decDigits t.toNat ∧ (t.toNat : Int) = t := by
  have := (isTg_iff t).1 h
  have e : (t.toNat : Int) = t := by omega
  refine ⟨?_, e⟩
  rw [← itoa_nonneg, e]
theorem rdF_fld (f : Fld) (rest : List UInt8) (h1 : isTg f.1 = true) (h2 : okV f.2 = true) : rdF (fldL f ++ rest) = .ok (f, (fldL f).length) := by
  obtain ⟨t, v⟩ := f
  obtain ⟨hne, hall⟩ := okV_parts h2
  obtain ⟨e1, e2⟩ := itoa_tag h1
  have hT := (isTg_iff t).1 h1
  have hd : digs (itoa t) = true := by rw [e1]; exact digs_dec _
  have hds : ∀ c ∈ itoa t, dig c = true := by unfold digs at hd; rw [List.all_eq_true] at hd; exact hd
  have eL : fldL (t, v) ++ rest = itoa t ++ (61 :: (v ++ (1 :: rest))) := by simp [fldL]
  have hc : cnt dig (fldL (t, v) ++ rest) = (itoa t).length := by
    rw [eL]
    refine cnt_eq dig _ _ hds (fun c hc => ?_)
    simp at hc
    subst hc
    decide
  have hp := pu_dec (u := t.toNat) (m := 9999) (by rw [e2]; exact hT.2.1)
  rw [← e1, e2] at hp
  have ht : (fldL (t, v) ++ rest).take (cnt dig (fldL (t, v) ++ rest)) = itoa t := by rw [hc, eL, List.take_left']; rfl
  have hg : (fldL (t, v) ++ rest)[cnt dig (fldL (t, v) ++ rest)]? = some 61 := by rw [hc, eL, List.getElem?_append_right (Nat.le_refl _)]; simp
  have hr : (fldL (t, v) ++ rest).drop (cnt dig (fldL (t, v) ++ rest) + 1) = v ++ (1 :: rest) := by
    rw [hc, eL, ← List.drop_drop, List.drop_left']
    · rfl
    · rfl
  have hv : cnt vby (v ++ (1 :: rest)) = v.length := cnt_eq vby _ _ hall (fun c hc => by simp at hc; subst hc; decide)
  unfold rdF
  rw [if_pos]
  · rw [ht, hr, hc, hp.1]
    unfold rdV
    rw [hv, if_pos ⟨List.length_pos_iff.2 hne, by rw [List.getElem?_append_right (Nat.le_refl _)]; simp⟩, List.take_left' rfl]
    congr 1
    simp [fldL]; omega
  · unfold tagOk
    rw [ht, hg, hp.1, hp.2]
    simp [h1]
theorem rdAll_body (t : List UInt8) : ∀ (fs : List Fld) (F a : Nat), fs.length ≤ F → a + (bodyB fs).length = t.length → t.drop a = bodyB fs → (∀ f ∈ fs, isTg f.1 = true ∧ okV f.2 = true) → rdAll t F a = .ok fs
  | [], F, a, _, hl, hd, _ => by
    have ha : ¬ a < t.length := by simp [bodyB] at hl; omega
    cases F with
    | zero => rfl
    | succ F => unfold rdAll; rw [if_neg ha]
  | f :: fs, 0, a, hF, _, _, _ => by simp at hF
  | f :: fs, F + 1, a, hF, hl, hd, hok => by
    have eb : bodyB (f :: fs) = fldL f ++ bodyB fs := by simp [bodyB]
    obtain ⟨h1, h2⟩ := hok f (by simp)
    have hr := rdF_fld f (bodyB fs) h1 h2
    have hpos : 0 < (fldL f).length := by simp [fldL]; omega
    rw [eb, List.length_append] at hl
    unfold rdAll
    rw [if_pos (by omega), hd, eb, hr]
    show addF f (rdAll t F (a + (fldL f).length)) = _
    rw [rdAll_body t fs F (a + (fldL f).length) (by simpa using hF) (by omega) (by rw [← List.drop_drop, hd, eb, List.drop_left' rfl]) (fun g hg => hok g (by simp [hg]))]
    rfl
theorem dec_len4 {n : Nat} (h : n < 10000) : (decDigits n).length ≤ 4 := by
  by_cases h1 : n < 10
  · rw [decDigits_one h1]; simp
  · by_cases h2 : n < 100
    · rw [decDigits_two h1 h2]; simp
    · rw [decDigits, dif_neg h1]
      by_cases h3 : n < 1000
      · rw [decDigits_two (by omega) (by omega)]; simp
      · rw [decDigits, dif_neg (by omega), decDigits_two (by omega) (by omega)]; simp
theorem length_flds : ∀ fs : List Fld, fs.length ≤ (bodyB fs).length
  | [] => Nat.le_refl _
  | f :: fs => by
    have eb : bodyB (f :: fs) = fldL f ++ bodyB fs := by simp [bodyB]
    have := length_flds fs
    have hpos : 0 < (fldL f).length := by simp [fldL]; omega
    rw [eb, List.length_append]; simp; omega
/-- What Join makes: its parts. -/
theorem join_parts {fs : List Fld} {b : List UInt8} (h : joinL fs = .ok b) : b = closeL (aheadL (bodyB fs)) ∧ b.length ≤ 1024 ∧ (∀ f ∈ fs, isTg f.1 = true ∧ okV f.2 = true) := by
  unfold joinL at h
  split at h
  · cases h
  · rename_i h1
    split at h
    · cases h
    · rename_i h2
      split at h
      · cases h
      · rename_i h3
        injection h with h
        simp only [Bool.not_eq_false, List.all_eq_true] at h1 h2
        exact ⟨h.symm, by rw [← h]; omega, fun f hf => ⟨h1 f hf, h2 f hf⟩⟩
theorem join_split {fs : List Fld} {b : List UInt8} (h : joinL fs = .ok b) : splitL b = .ok fs := by
  obtain ⟨hb, hl, hok⟩ := join_parts h
  have hal : b.length = (aheadL (bodyB fs)).length + 7 := by rw [hb, close_length]
  have hA : (aheadL (bodyB fs)).length = 12 + (itoa ((bodyB fs).length : Int)).length + 1 + (bodyB fs).length := by unfold aheadL headL; simp; omega
  obtain ⟨n, hn⟩ : ∃ n, (bodyB fs).length = n := ⟨_, rfl⟩
  have hI : itoa (n : Int) = decDigits n := itoa_nonneg n
  have hn9 : n < 10000 := by omega
  have hI4 : (itoa (n : Int)).length ≤ 4 := by rw [hI]; exact dec_len4 hn9
  have hIn : 0 < (itoa (n : Int)).length := by
    rw [hI]; obtain ⟨c, l, e, _⟩ := head_dec n; rw [e]; simp
  have eb : b = headL ++ (itoa (n : Int) ++ (1 :: (bodyB fs ++ (tenL ++ three (sumL (aheadL (bodyB fs))) ++ [1])))) := by
    rw [hb]; unfold closeL aheadL; rw [hn]; simp
  have ed : b.drop 12 = itoa (n : Int) ++ (1 :: (bodyB fs ++ (tenL ++ three (sumL (aheadL (bodyB fs))) ++ [1]))) := by
    conv => lhs; rw [eb]
    rw [List.drop_left']; rfl
  have hE : numEnd b 12 = 12 + (itoa (n : Int)).length := by
    unfold numEnd
    have hds : ∀ c ∈ itoa (n : Int), dig c = true := by have := digs_dec n; rw [← hI] at this; unfold digs at this; rw [List.all_eq_true] at this; exact this
    have hb12 : b[12]? = (b.drop 12)[0]? := by rw [List.getElem?_drop]
    obtain ⟨c, l, ec, hc0, hc1⟩ := head_dec n
    split
    · rename_i h48
      rw [hb12, ed, hI, ec] at h48
      simp at h48
      by_cases h0 : 0 < n
      · exact absurd h48 (hc0 h0)
      · have : n = 0 := by omega
        have hl0 := hc1.1 (by omega)
        rw [hI, ec, hl0]; rfl
    · have hc : cnt dig (b.drop 12) = (itoa (n : Int)).length := by
        rw [ed]
        exact cnt_eq dig _ _ hds (fun c hc => by simp at hc; subst hc; decide)
      rw [hc]; omega
  have hD : (b.drop 12).take (numEnd b 12 - 12) = itoa (n : Int) := by rw [hE, ed, show 12 + (itoa (n : Int)).length - 12 = (itoa (n : Int)).length by omega, List.take_left' rfl]
  have h1 : b[numEnd b 12]? = some 1 := by
    rw [hE, ← List.getElem?_drop, ed, List.getElem?_append_right (Nat.le_refl _)]; simp
  have hp := pu_dec (u := n) (m := 9999) (by omega)
  rw [← hI] at hp
  rw [hn] at hA
  have hbody : bodyL b = .ok (numEnd b 12 + 1) := by
    unfold bodyL
    rw [if_neg, if_neg, if_pos]
    · rw [hD, hp.1, hE, hal, hA]; omega
    · intro hh
      rcases hh with hh | hh
      · omega
      · exact hh h1
    · have := pre_app headL (itoa (n : Int) ++ (1 :: (bodyB fs ++ (tenL ++ three (sumL (aheadL (bodyB fs))) ++ [1]))))
      rw [← eb] at this
      rw [this]; decide
  have hm : b.length - 7 = (aheadL (bodyB fs)).length := by omega
  have htk : b.take (aheadL (bodyB fs)).length = aheadL (bodyB fs) := by
    conv => lhs; rw [hb]
    unfold closeL
    rw [List.append_assoc, List.append_assoc, List.take_left' rfl]
  have hdr : b.drop (aheadL (bodyB fs)).length = tenL ++ (three (sumL (aheadL (bodyB fs))) ++ [1]) := by
    conv => lhs; rw [hb]
    unfold closeL
    rw [List.append_assoc, List.append_assoc, List.drop_left' rfl]
  have hlast : lastL b (b.length - 7) (sumL (b.take (b.length - 7))) = none := by
    rw [hm, htk]
    generalize aheadL (bodyB fs) = A at *
    have d3 : b.drop (A.length + 3) = three (sumL A) ++ [1] := by rw [← List.drop_drop, hdr]; rfl
    have t3 : (b.drop (A.length + 3)).take 3 = three (sumL A) := by rw [d3]; rfl
    have c3 : cnt dig (three (sumL A)) = 3 := by
      rw [cnt_whole dig _ (three_digs (by have := sumL_lt A; omega))]; rfl
    have g6 : b[A.length + 6]? = some 1 := by
      rw [← List.getElem?_drop, hdr]; rfl
    unfold lastL
    rw [hdr, pre_app, if_neg (by decide), t3, c3, if_neg (by omega), if_neg (fun hh => hh g6), if_pos rfl]
  unfold splitL
  rw [if_neg (by omega), hbody]
  simp only [hlast]
  rw [hm, htk]
  refine rdAll_body _ fs b.length _ ?_ ?_ ?_ hok
  · have := length_flds fs; omega
  · rw [hE, hA, hn]
  · rw [hE]
    unfold aheadL
    rw [hn, List.drop_left']
    simp [headL]; omega
theorem join_len {fs : List Fld} {b : List UInt8} (h : joinL fs = .ok b) : 21 ≤ b.length ∧ b.length ≤ 1024 := by
  obtain ⟨hb, hl, _⟩ := join_parts h
  refine ⟨?_, hl⟩
  have hA : (aheadL (bodyB fs)).length = 12 + (itoa ((bodyB fs).length : Int)).length + 1 + (bodyB fs).length := by unfold aheadL headL; simp; omega
  have hIn : 0 < (itoa ((bodyB fs).length : Int)).length := by
    rw [itoa_nonneg]; obtain ⟨c, l, e, _⟩ := head_dec (bodyB fs).length; rw [e]; simp
  rw [hb, close_length]; omega

/-- The sum of all. -/
def tot (l : List UInt8) : Nat := l.foldl (fun a c => a + c.toNat) 0
theorem tot_app (a b : List UInt8) : tot (a ++ b) = tot a + tot b := by unfold tot; rw [List.foldl_append, sum_from b]
theorem tot_cons (c : UInt8) (l : List UInt8) : tot (c :: l) = c.toNat + tot l := by unfold tot; rw [List.foldl_cons, sum_from l]; omega
theorem tot_set (l : List UInt8) (i : Nat) (x : UInt8) (h : i < l.length) : tot (l.set i x) + l[i].toNat = tot l + x.toNat := by
  rw [List.set_eq_take_append_cons_drop, if_pos h, tot_app, tot_cons]
  conv => rhs; rw [← List.take_append_drop i l, List.drop_eq_getElem_cons h, tot_app, tot_cons]
  omega
theorem turned_bad {b : List UInt8} {fs : List Fld} (h : splitL b = .ok fs) (i : Nat) (x : UInt8) (hi : i < b.length) (hx : x ≠ b[i]) : ∃ y, splitL (b.set i x) = .error y := by
  cases hc : splitL (b.set i x) with
  | error y => exact ⟨y, rfl⟩
  | ok gs =>
    exfalso
    obtain ⟨_, m, h2, h3, _, _⟩ := split_parts h
    obtain ⟨_, m', g2, g3, _, _⟩ := split_parts hc
    have hm : m' = m := by rw [List.length_set] at g2; omega
    subst hm
    by_cases him : i < m'
    · have hdr : (b.set i x).drop m' = b.drop m' := by rw [List.drop_set, if_pos him]
      rw [hdr, h3] at g3
      have ht : three (sumL (b.take m')) = three (sumL ((b.set i x).take m')) := by
        have g4 := List.append_cancel_right g3
        exact List.append_cancel_left g4
      have hs := three_inj (by have := sumL_lt (b.take m'); omega) (by have := sumL_lt ((b.set i x).take m'); omega) ht
      rw [List.take_set] at hs
      have hlt : i < (b.take m').length := by simp; omega
      have e := tot_set (b.take m') i x hlt
      have e2 : (b.take m')[i] = b[i] := List.getElem_take
      rw [e2] at e
      have hs' : tot (b.take m') % 256 = tot ((b.take m').set i x) % 256 := hs
      have hx1 := x.toNat_lt
      have hx2 := b[i].toNat_lt
      apply hx
      apply UInt8.toNat_inj.1
      omega
    · have htk : (b.set i x).take m' = b.take m' := by rw [List.take_set, List.set_eq_of_length_le (by simp; omega)]
      rw [htk, ← h3] at g3
      have he : b.set i x = b := by
        rw [← List.take_append_drop m' (b.set i x), htk, g3, List.take_append_drop]
      have : (b.set i x)[i]? = b[i]? := by rw [he]
      rw [List.getElem?_set_self hi, List.getElem?_eq_getElem hi] at this
      injection this with this
      exact hx this
end Go.Proofs.YtfgfjkchcnpakaaDoor
