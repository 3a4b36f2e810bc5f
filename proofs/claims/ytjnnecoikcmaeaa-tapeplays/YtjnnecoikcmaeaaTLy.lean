import Derived.Test.YtjnnecoikcmaeaaTLx
import Derived.Test.YtjnnecoikcmaeaaTOa
import Derived.Test.YtjnnecoikcmaeaaTRb

namespace Go.Proofs.Ytjnnecoikcmaeaa
set_option linter.unusedVariables false
set_option linter.unusedSimpArgs false
open Go.RowKit Go.Great

/-- The program's tape, of these commands. -/
structure PT (w : World) (t : Tp) (L : List Cm) : Prop where
  tp : TpAt w t
  tl : t.l = tpL (csL L) L.length
  te : t.es = ensL (csL L) L.length
  ok : ∀ c ∈ L, encE c = 0 ∧ c.ok
  ln : L.length ≤ 1000
theorem PT.fr {w w' : World} {t : Tp} {L : List Cm} {ex : Nat → Prop} (h : PT w t L) (hf : Fr w w' ex) (hn : ∀ b, t.own b → ¬ ex b) : PT w' t L := ⟨h.tp.fr hf hn, h.tl, h.te, h.ok, h.ln⟩
theorem PT.below {w w' : World} {t : Tp} {L : List Cm} (h : PT w t L) (hb : Below w.heap.size w w') : PT w' t L := ⟨h.tp.below hb, h.tl, h.te, h.ok, h.ln⟩
theorem PT.mk0 {w : World} {t : Tp} (h : TpAt w t) (h1 : t.l = magic) (h2 : t.es = []) : PT w t [] := ⟨h, h1, h2, (fun c hc => absurd hc (List.not_mem_nil)), Nat.zero_le _⟩
theorem PT.bd {w : World} {t : Tp} {L : List Cm} (h : PT w t L) : t.l ≠ [] ∧ t.l.length ≤ 700000000 ∧ t.es.length = L.length := by
  have hb := csL_len h.ok (by have := h.ln; omega) (Nat.le_refl _)
  have h0 := enN_le (csL L) (j := 0) (m := L.length) (Nat.zero_le _)
  rw [enN_zero] at h0
  refine ⟨fun e => ?_, by rw [h.tl]; exact hb, by rw [h.te, ensL_len]⟩
  have h1 := congrArg List.length e
  rw [h.tl] at h1
  unfold enN at h0
  rw [h1] at h0
  simp at h0
theorem PT.len {w : World} {t : Tp} {L : List Cm} (h : PT w t L) : Calls Try.prog 15 #[.pointer (some ⟨t.g, 0, none⟩)] w fun e w' => e = .returned (.int .i64 (L.length : Int)) ∧ w' = w := by
  have := Len_any h.tp (by have := h.bd.2.2; have := h.ln; omega)
  rw [h.bd.2.2] at this
  exact this
theorem PT.bytes {w : World} {t : Tp} {L : List Cm} (h : PT w t L) : Calls Try.prog 13 #[.pointer (some ⟨t.g, 0, none⟩)] w fun e w' => ∃ v', e = .returned v' ∧ Hid (RowB w w' v' (tpL (csL L) L.length)) := by
  have := Bytes_any h.tp h.bd.1 (by have := h.bd.2.1; omega)
  rw [h.tl] at this
  exact this
/-- What Command answers. -/
def cmdA (L : List Cm) (i : Int) : Cm × Int := if 0 ≤ i ∧ i < (L.length : Int) then (csL L i.toNat, 0) else (zeroC, 1)
theorem PT.cmd {w : World} {t : Tp} {L : List Cm} (h : PT w t L) (i : Int) : Calls Try.prog 16 #[.pointer (some ⟨t.g, 0, none⟩), .int .i64 i] w fun e w' => e = .returned (.tuple #[.agg (cmdA L i).1.cs, .int .i64 (cmdA L i).2]) ∧ Hid (Below w.heap.size w w') := by
  obtain ⟨_, hbd, hel⟩ := h.bd
  have hln := h.ln
  by_cases hi : 0 ≤ i ∧ i < (L.length : Int)
  · obtain ⟨j, rfl⟩ := Int.eq_ofNat_of_zero_le hi.1
    have hlt : j < L.length := by omega
    obtain ⟨d, hj⟩ : ∃ d, L[j]? = some d := ⟨_, List.getElem?_eq_getElem hlt⟩
    have hE := (h.ok d (List.mem_of_getElem? hj)).1
    have hcs := csL_get hj
    have hlj := enN_le (csL L) (j := j + 1) (m := L.length) (by omega)
    have hs := enN_succ (csL L) j
    rw [hcs] at hs
    have hl2 := encL_len hE
    have hlen : t.l.length = enN (csL L) L.length := by rw [h.tl]; rfl
    obtain ⟨d', hd, hdc⟩ := dec_enc hE
    have := Command_yes h.tp j (enN (csL L) (j + 1)) (by rw [h.te]; exact ensL_get _ hlt) (by rw [h.te, begE_ens _ hlt]; omega) (by rw [hlen]; exact hlj) (by omega) (by omega) (by rw [h.te, begE_ens _ hlt]; omega) d' (by
      rw [h.te, begE_ens _ hlt, h.tl]
      obtain ⟨t', ht⟩ := drop_at (cs := csL L) (L := tpL (csL L) L.length) (t := []) (q := L.length) (by rw [List.append_nil]) hlt
      rw [ht, hcs, List.take_append_of_le_length (by rw [recL_len]; omega), List.take_of_length_le (by rw [recL_len]; omega), recL_drop]
      exact hd)
    rw [hdc] at this
    have e : cmdA L (j : Int) = (d, 0) := by unfold cmdA; rw [if_pos hi, Int.toNat_natCast, hcs]
    rw [e]
    exact this
  · have e : cmdA L i = (zeroC, 1) := if_neg hi
    rw [e]
    exact Command_no h.tp (by omega) (by omega)
theorem RtAt.cmd {w : World} {g : Nat} {lv : Value} {L : List Cm} (h : RtAt w g lv L) (hl : L.length ≤ 1000000) (i : Int) : Calls Try.prog 26 #[.pointer (some ⟨g, 0, none⟩), .int .i64 i] w fun e w' => e = .returned (.tuple #[.agg (cmdA L i).1.cs, .int .i64 (cmdA L i).2]) ∧ Hid (Below w.heap.size w w') := by
  by_cases hi : 0 ≤ i ∧ i < (L.length : Int)
  · obtain ⟨j, rfl⟩ := Int.eq_ofNat_of_zero_le hi.1
    have hlt : j < L.length := by omega
    obtain ⟨d, hj⟩ : ∃ d, L[j]? = some d := ⟨_, List.getElem?_eq_getElem hlt⟩
    have e : cmdA L (j : Int) = (d, 0) := by unfold cmdA; rw [if_pos hi, Int.toNat_natCast, csL_get hj]
    rw [e]
    exact refCommand_yes h hl hj
  · have e : cmdA L i = (zeroC, 1) := if_neg hi
    rw [e]
    exact refCommand_no h (by omega)
/-- The commands behind an Append. -/
def addL (L : List Cm) (c : Cm) : List Cm := if encE c = 0 then L ++ [c] else L
theorem addL_len (L : List Cm) (c : Cm) : (addL L c).length ≤ L.length + 1 := by unfold addL; split <;> simp
theorem PT.add {w : World} {t : Tp} {L : List Cm} (h : PT w t L) (hL : L.length < 1000) (c : Cm) (hc : c.ok) : Calls Try.prog 12 #[.pointer (some ⟨t.g, 0, none⟩), .agg c.cs] w fun e w' => e = .returned (.int .i64 (encE c)) ∧ Hid (∃ t', PT w' t' (addL L c) ∧ t'.g = t.g ∧ Fr w w' t.own ∧ ∀ b, t'.own b → t.own b ∨ w.heap.size ≤ b) := by
  obtain ⟨_, hbd, hel⟩ := h.bd
  refine (Append_any h.tp c hc (by omega) (by omega)).mono fun e w' hr => ?_
  rcases hr with ⟨h1, h2, h3⟩ | ⟨h1, h2, h3⟩
  · refine ⟨h2, t, ?_, rfl, Fr.of_below h3.out _, fun b hb => .inl hb⟩
    rw [show addL L c = L from if_neg h1]
    exact h.below h3.out
  · obtain ⟨wv, ev, k1, k2, k3⟩ := h3.out
    refine ⟨by rw [h2, h1], t.more (recL t.es.length (encL c)) wv ev, ?_, rfl, k2, k3⟩
    rw [show addL L c = L ++ [c] from if_pos h1]
    have hl : t.l ++ recL t.es.length (encL c) = tpL (csL (L ++ [c])) (L ++ [c]).length := by rw [csL_app, h.tl, hel]
    refine ⟨k1, hl, ?_, fun d hd => ?_, by rw [List.length_append]; show L.length + 1 ≤ _; omega⟩
    · have e1 : ensL (csL (L ++ [c])) L.length = ensL (csL L) L.length := ensL_ext fun j hj => by
        unfold csL
        rw [List.getD_eq_getElem?_getD, List.getD_eq_getElem?_getD, List.getElem?_append_left hj]
      have e2 : enN (csL (L ++ [c])) (L.length + 1) = (t.l ++ recL t.es.length (encL c)).length := by rw [hl, List.length_append]; rfl
      rw [show (L ++ [c]).length = L.length + 1 by simp, ensL_succ, e1, e2, ← h.te, List.length_append]
      rfl
    · rcases List.mem_append.1 hd with hd | hd
      · exact h.ok d hd
      · have : d = c := by simpa using hd
        subst this
        exact ⟨h1, hc⟩
theorem RtAt.add {w : World} {g : Nat} {lv : Value} {L : List Cm} (h : RtAt w g lv L) (hL : L.length < 1000000) (c : Cm) (hc : c.ok) : Calls Try.prog 21 #[.pointer (some ⟨g, 0, none⟩), .agg c.cs] w fun e w' => e = .returned (.int .i64 (encE c)) ∧ Hid (∃ lv', RtAt w' g lv' (addL L c) ∧ Fr w w' (rtOwn g lv) ∧ ∀ b, rtOwn g lv' b → rtOwn g lv b ∨ w.heap.size ≤ b) := by
  refine (refAppend_any h c hc hL).mono fun e w' hr => ?_
  rcases hr with ⟨h1, h2, h3⟩ | ⟨h1, h2, h3⟩
  · refine ⟨h2, lv, ?_, Fr.of_below h3.out _, fun b hb => .inl hb⟩
    rw [show addL L c = L from if_neg h1]
    exact h.below h3.out
  · obtain ⟨lv', k1, k2, k3⟩ := h3.out
    refine ⟨by rw [h2, h1], lv', ?_, k2, k3⟩
    rw [show addL L c = L ++ [c] from if_pos h1]
    exact k1
end Go.Proofs.Ytjnnecoikcmaeaa

namespace Go.Proofs.Ytjnnecoikcmaeaa
set_option linter.unusedVariables false
set_option linter.unusedSimpArgs false
open Go.RowKit Go.Great

def Ap5 (a b c d e : Nat → Prop) : Prop := ∀ n, (a n → ¬ b n ∧ ¬ c n ∧ ¬ d n ∧ ¬ e n) ∧ (b n → ¬ c n ∧ ¬ d n ∧ ¬ e n) ∧ (c n → ¬ d n ∧ ¬ e n) ∧ (d n → ¬ e n)
section
variable {a b c d e x : Nat → Prop} {N : Nat}
theorem Ap5.s1 (h : Ap5 a b c d e) (hx : ∀ n, x n → a n ∨ N ≤ n) (hb : ∀ n, b n → n < N) (hc : ∀ n, c n → n < N) (hd : ∀ n, d n → n < N) (he : ∀ n, e n → n < N) : Ap5 x b c d e := fun n => by
  obtain ⟨h1, h2, h3, h4⟩ := h n
  refine ⟨fun k => ?_, h2, h3, h4⟩
  rcases hx n k with k | k
  · exact h1 k
  · exact ⟨fun q => Nat.not_lt.2 k (hb n q), fun q => Nat.not_lt.2 k (hc n q), fun q => Nat.not_lt.2 k (hd n q), fun q => Nat.not_lt.2 k (he n q)⟩
theorem Ap5.s2 (h : Ap5 a b c d e) (hx : ∀ n, x n → b n ∨ N ≤ n) (ha : ∀ n, a n → n < N) (hc : ∀ n, c n → n < N) (hd : ∀ n, d n → n < N) (he : ∀ n, e n → n < N) : Ap5 a x c d e := fun n => by
  obtain ⟨h1, h2, h3, h4⟩ := h n
  refine ⟨fun k => ⟨fun q => ?_, (h1 k).2⟩, fun k => ?_, h3, h4⟩
  · rcases hx n q with q | q
    · exact (h1 k).1 q
    · exact Nat.not_lt.2 q (ha n k)
  · rcases hx n k with k | k
    · exact h2 k
    · exact ⟨fun q => Nat.not_lt.2 k (hc n q), fun q => Nat.not_lt.2 k (hd n q), fun q => Nat.not_lt.2 k (he n q)⟩
theorem Ap5.s3 (h : Ap5 a b c d e) (hx : ∀ n, x n → c n ∨ N ≤ n) (ha : ∀ n, a n → n < N) (hb : ∀ n, b n → n < N) (hd : ∀ n, d n → n < N) (he : ∀ n, e n → n < N) : Ap5 a b x d e := fun n => by
  obtain ⟨h1, h2, h3, h4⟩ := h n
  refine ⟨fun k => ⟨(h1 k).1, fun q => ?_, (h1 k).2.2⟩, fun k => ⟨fun q => ?_, (h2 k).2⟩, fun k => ?_, h4⟩
  · rcases hx n q with q | q
    · exact (h1 k).2.1 q
    · exact Nat.not_lt.2 q (ha n k)
  · rcases hx n q with q | q
    · exact (h2 k).1 q
    · exact Nat.not_lt.2 q (hb n k)
  · rcases hx n k with k | k
    · exact h3 k
    · exact ⟨fun q => Nat.not_lt.2 k (hd n q), fun q => Nat.not_lt.2 k (he n q)⟩
theorem Ap5.s4 (h : Ap5 a b c d e) (hx : ∀ n, x n → d n ∨ N ≤ n) (ha : ∀ n, a n → n < N) (hb : ∀ n, b n → n < N) (hc : ∀ n, c n → n < N) (he : ∀ n, e n → n < N) : Ap5 a b c x e := fun n => by
  obtain ⟨h1, h2, h3, h4⟩ := h n
  refine ⟨fun k => ⟨(h1 k).1, (h1 k).2.1, fun q => ?_, (h1 k).2.2.2⟩, fun k => ⟨(h2 k).1, fun q => ?_, (h2 k).2.2⟩, fun k => ⟨fun q => ?_, (h3 k).2⟩, fun k => ?_⟩
  · rcases hx n q with q | q
    · exact (h1 k).2.2.1 q
    · exact Nat.not_lt.2 q (ha n k)
  · rcases hx n q with q | q
    · exact (h2 k).2.1 q
    · exact Nat.not_lt.2 q (hb n k)
  · rcases hx n q with q | q
    · exact (h3 k).1 q
    · exact Nat.not_lt.2 q (hc n k)
  · rcases hx n k with k | k
    · exact h4 k
    · exact fun q => Nat.not_lt.2 k (he n q)
theorem Ap5.s5 (h : Ap5 a b c d e) (hx : ∀ n, x n → e n ∨ ¬ (a n ∨ b n ∨ c n ∨ d n)) : Ap5 a b c d x := fun n => by
  obtain ⟨h1, h2, h3, h4⟩ := h n
  refine ⟨fun k => ⟨(h1 k).1, (h1 k).2.1, (h1 k).2.2.1, fun q => ?_⟩, fun k => ⟨(h2 k).1, (h2 k).2.1, fun q => ?_⟩, fun k => ⟨(h3 k).1, fun q => ?_⟩, fun k q => ?_⟩
  · rcases hx n q with q | q
    · exact (h1 k).2.2.2 q
    · exact q (.inl k)
  · rcases hx n q with q | q
    · exact (h2 k).2.2 q
    · exact q (.inr (.inl k))
  · rcases hx n q with q | q
    · exact (h3 k).2 q
    · exact q (.inr (.inr (.inl k)))
  · rcases hx n q with q | q
    · exact h4 k q
    · exact q (.inr (.inr (.inr k)))
end
/-- The blocks of what is kept. -/
def kOwn (hv : Value) (l : List Ent) (b : Nat) : Prop := hv.ownBlock = some b ∨ ∃ e ∈ l, e.len ≠ 0 ∧ ∃ off, e.a = some ⟨b, off, none⟩
/-- Where the law stands. -/
structure PL (w : World) (t1 t2 : Tp) (A B : List Cm) (g1 g2 : Nat) (v1 v2 : Value) (A' B' : List Cm) (hv : Value) (l : List Ent) : Prop where
  p1 : PT w t1 A
  p2 : PT w t2 B
  r1 : RtAt w g1 v1 A'
  r2 : RtAt w g2 v2 B'
  row : RowAt w 93 2 hv l.length (holdV l)
  ok : KeptOK w l
  ap : Ap5 t1.own t2.own (rtOwn g1 v1) (rtOwn g2 v2) (kOwn hv l)
section
variable {w w' : World} {t1 t2 : Tp} {A B : List Cm} {g1 g2 : Nat} {v1 v2 : Value} {A' B' : List Cm} {hv : Value} {l : List Ent}
theorem kOwn_lt (hr : RowAt w 93 2 hv l.length (holdV l)) (hk : KeptOK w l) : ∀ n, kOwn hv l n → n < w.heap.size := fun n q => by
  rcases q with q | ⟨e, he, h0, off, ha⟩
  · exact (hr.lt q).1
  · obtain ⟨cur, hc, _⟩ := (hk e he).lt h0 ha
    exact (Array.getElem?_eq_some_iff.1 hc).1
theorem kept_fr {ex : Nat → Prop} (hr : RowAt w 93 2 hv l.length (holdV l)) (hk : KeptOK w l) (hf : Fr w w' ex) (hn : ∀ b, kOwn hv l b → ¬ ex b) : RowAt w' 93 2 hv l.length (holdV l) ∧ KeptOK w' l :=
  ⟨hr.fr hf fun g hg => hn g (.inl hg), fun e he => (hk e he).keep fun h0 g off cur ha hg => hf.block g (Array.getElem?_eq_some_iff.1 hg).1 (hn g (.inr ⟨e, he, h0, off, ha⟩))⟩
theorem PL.below (h : PL w t1 t2 A B g1 g2 v1 v2 A' B' hv l) (hb : Below w.heap.size w w') : PL w' t1 t2 A B g1 g2 v1 v2 A' B' hv l := by
  have hk := kept_fr h.row h.ok (Fr.of_below hb (fun _ => False)) fun _ _ => id
  exact ⟨h.p1.below hb, h.p2.below hb, h.r1.below hb, h.r2.below hb, hk.1, hk.2, h.ap⟩
theorem PL.l1 (h : PL w t1 t2 A B g1 g2 v1 v2 A' B' hv l) : ∀ n, t1.own n → n < w.heap.size := fun n q => h.p1.tp.ltO q
theorem PL.l2 (h : PL w t1 t2 A B g1 g2 v1 v2 A' B' hv l) : ∀ n, t2.own n → n < w.heap.size := fun n q => h.p2.tp.ltO q
theorem PL.l3 (h : PL w t1 t2 A B g1 g2 v1 v2 A' B' hv l) : ∀ n, rtOwn g1 v1 n → n < w.heap.size := fun n q => h.r1.ltO q
theorem PL.l4 (h : PL w t1 t2 A B g1 g2 v1 v2 A' B' hv l) : ∀ n, rtOwn g2 v2 n → n < w.heap.size := fun n q => h.r2.ltO q
theorem PL.l5 (h : PL w t1 t2 A B g1 g2 v1 v2 A' B' hv l) : ∀ n, kOwn hv l n → n < w.heap.size := kOwn_lt h.row h.ok
theorem PL.a1 (h : PL w t1 t2 A B g1 g2 v1 v2 A' B' hv l) {t : Tp} {X : List Cm} (hp : PT w' t X) (hf : Fr w w' t1.own) (hx : ∀ b, t.own b → t1.own b ∨ w.heap.size ≤ b) : PL w' t t2 X B g1 g2 v1 v2 A' B' hv l := by
  have hk := kept_fr h.row h.ok hf fun b q k => ((h.ap b).1 k).2.2.2 q
  exact ⟨hp, h.p2.fr hf fun b q k => ((h.ap b).1 k).1 q, h.r1.fr hf fun b q k => ((h.ap b).1 k).2.1 q, h.r2.fr hf fun b q k => ((h.ap b).1 k).2.2.1 q, hk.1, hk.2, h.ap.s1 hx h.l2 h.l3 h.l4 h.l5⟩
theorem PL.a2 (h : PL w t1 t2 A B g1 g2 v1 v2 A' B' hv l) {t : Tp} {X : List Cm} (hp : PT w' t X) (hf : Fr w w' t2.own) (hx : ∀ b, t.own b → t2.own b ∨ w.heap.size ≤ b) : PL w' t1 t A X g1 g2 v1 v2 A' B' hv l := by
  have hk := kept_fr h.row h.ok hf fun b q k => ((h.ap b).2.1 k).2.2 q
  exact ⟨h.p1.fr hf fun b q k => ((h.ap b).1 q).1 k, hp, h.r1.fr hf fun b q k => ((h.ap b).2.1 k).1 q, h.r2.fr hf fun b q k => ((h.ap b).2.1 k).2.1 q, hk.1, hk.2, h.ap.s2 hx h.l1 h.l3 h.l4 h.l5⟩
theorem PL.a3 (h : PL w t1 t2 A B g1 g2 v1 v2 A' B' hv l) {v : Value} {X : List Cm} (hp : RtAt w' g1 v X) (hf : Fr w w' (rtOwn g1 v1)) (hx : ∀ b, rtOwn g1 v b → rtOwn g1 v1 b ∨ w.heap.size ≤ b) : PL w' t1 t2 A B g1 g2 v v2 X B' hv l := by
  have hk := kept_fr h.row h.ok hf fun b q k => ((h.ap b).2.2.1 k).2 q
  exact ⟨h.p1.fr hf fun b q k => ((h.ap b).1 q).2.1 k, h.p2.fr hf fun b q k => ((h.ap b).2.1 q).1 k, hp, h.r2.fr hf fun b q k => ((h.ap b).2.2.1 k).1 q, hk.1, hk.2, h.ap.s3 hx h.l1 h.l2 h.l4 h.l5⟩
theorem PL.a4 (h : PL w t1 t2 A B g1 g2 v1 v2 A' B' hv l) {v : Value} {X : List Cm} (hp : RtAt w' g2 v X) (hf : Fr w w' (rtOwn g2 v2)) (hx : ∀ b, rtOwn g2 v b → rtOwn g2 v2 b ∨ w.heap.size ≤ b) : PL w' t1 t2 A B g1 g2 v1 v A' X hv l := by
  have hk := kept_fr h.row h.ok hf fun b q k => ((h.ap b).2.2.2 k) q
  exact ⟨h.p1.fr hf fun b q k => ((h.ap b).1 q).2.2.1 k, h.p2.fr hf fun b q k => ((h.ap b).2.1 q).2.1 k, h.r1.fr hf fun b q k => ((h.ap b).2.2.1 q).1 k, hp, hk.1, hk.2, h.ap.s4 hx h.l1 h.l2 h.l3 h.l5⟩
/-- No one's bytes. -/
def Free (t1 t2 : Tp) (g1 g2 : Nat) (v1 v2 hv : Value) (l : List Ent) (bv : Value) : Prop := ∀ n, bv.ownBlock = some n → ¬ (t1.own n ∨ t2.own n ∨ rtOwn g1 v1 n ∨ rtOwn g2 v2 n) ∧ ¬ kOwn hv l n
theorem PL.apt (h : PL w t1 t2 A B g1 g2 v1 v2 A' B' hv l) {bv : Value} (hf : Free t1 t2 g1 g2 v1 v2 hv l bv) : Apt w l bv := fun e he h0 g off ha => ⟨h.l5 g (.inr ⟨e, he, h0, off, ha⟩), fun q => (hf g q).2 (.inr ⟨e, he, h0, off, ha⟩)⟩
theorem PL.keep (h : PL w t1 t2 A B g1 g2 v1 v2 A' B' hv l) {bv vK bt : Value} {mk nb t : Nat} {es : List Ent} (hf : Free t1 t2 g1 g2 v1 v2 hv l bv) (k : KS w mk nb l hv bv t vK bt w' es) : PL w' t1 t2 A B g1 g2 v1 v2 A' B' vK (l ++ es) ∧ ∀ n, n < w.heap.size → bv.ownBlock ≠ some n → kOwn vK (l ++ es) n → kOwn hv l n := by
  have hx : ∀ n, kOwn vK (l ++ es) n → kOwn hv l n ∨ bv.ownBlock = some n ∨ w.heap.size ≤ n := fun n q => by
    rcases q with q | ⟨e, he, h0, off, ha⟩
    · rcases k.kown with ho | ⟨g, ho, hge⟩
      · exact .inl (.inl (ho.symm.trans q))
      · rw [q] at ho
        injection ho with ho
        exact .inr (.inr (by omega))
    · rcases List.mem_append.1 he with he | he
      · exact .inl (.inr ⟨e, he, h0, off, ha⟩)
      · exact .inr ((k.new e he).2.2 h0 n off ha)
  have hrow := k.row
  rw [← List.length_append] at hrow
  refine ⟨⟨h.p1.fr k.fr ?_, h.p2.fr k.fr ?_, h.r1.fr k.fr ?_, h.r2.fr k.fr ?_, hrow, k.ok, h.ap.s5 fun n q => ?_⟩, fun n hn hne q => ?_⟩
  · intro b q c
    rcases c with c | c
    · exact (hf b c).1 (.inl q)
    · exact ((h.ap b).1 q).2.2.2 (.inl c)
  · intro b q c
    rcases c with c | c
    · exact (hf b c).1 (.inr (.inl q))
    · exact ((h.ap b).2.1 q).2.2 (.inl c)
  · intro b q c
    rcases c with c | c
    · exact (hf b c).1 (.inr (.inr (.inl q)))
    · exact ((h.ap b).2.2.1 q).2 (.inl c)
  · intro b q c
    rcases c with c | c
    · exact (hf b c).1 (.inr (.inr (.inr q)))
    · exact (h.ap b).2.2.2 q (.inl c)
  · rcases hx n q with q | q | q
    · exact .inl q
    · exact .inr (hf n q).1
    · refine .inr fun c => ?_
      rcases c with c | c | c | c
      · exact Nat.not_lt.2 q (h.l1 n c)
      · exact Nat.not_lt.2 q (h.l2 n c)
      · exact Nat.not_lt.2 q (h.l3 n c)
      · exact Nat.not_lt.2 q (h.l4 n c)
  · rcases hx n q with q | q | q
    · exact q
    · exact absurd q hne
    · omega
end
end Go.Proofs.Ytjnnecoikcmaeaa

namespace Go.Proofs.Ytjnnecoikcmaeaa
set_option linter.unusedVariables false
set_option linter.unusedSimpArgs false
open Go.RowKit Go.Great

/-- The bytes at hand: those from a on are no one's yet. -/
structure FB (w : World) (t1 t2 : Tp) (g1 g2 : Nat) (v1 v2 hv : Value) (l : List Ent) (b23 b24 : Nat) (vs : List Value) (cs : List (List Nat)) (a : Nat) : Prop where
  k23 : Blk w b23 28 vs.toArray
  k24 : Blk w b24 9 (cs.map fun c => Value.string (ofN c)).toArray
  len : vs.length = cs.length
  rw' : ∀ j v c, a ≤ j → vs[j]? = some v → cs[j]? = some c → RowAt w 5 1 v c.length (bvals c) ∧ BB c ∧ c.length ≤ 700000000 ∧ Free t1 t2 g1 g2 v1 v2 hv l v
  ne : ∀ i j v u n, a ≤ i → i < j → vs[i]? = some v → vs[j]? = some u → v.ownBlock = some n → u.ownBlock ≠ some n
section
variable {w w' : World} {t1 t2 : Tp} {A B : List Cm} {g1 g2 : Nat} {v1 v2 : Value} {A' B' : List Cm} {hv : Value} {l : List Ent} {b23 b24 : Nat} {vs : List Value} {cs : List (List Nat)} {a : Nat}
theorem FB.below (f : FB w t1 t2 g1 g2 v1 v2 hv l b23 b24 vs cs a) (hb : Below w.heap.size w w') : FB w' t1 t2 g1 g2 v1 v2 hv l b23 b24 vs cs a :=
  ⟨f.k23.fr (Fr.of_below hb (fun _ => False)) id, f.k24.fr (Fr.of_below hb (fun _ => False)) id, f.len, fun j v c hj h1 h2 => by
    obtain ⟨k1, k2⟩ := f.rw' j v c hj h1 h2
    exact ⟨k1.fr (Fr.of_below hb (fun _ => False)) fun _ _ => id, k2⟩, f.ne⟩
theorem FB.keep (h : PL w t1 t2 A B g1 g2 v1 v2 A' B' hv l) (f : FB w t1 t2 g1 g2 v1 v2 hv l b23 b24 vs cs a) {bv : Value} {xs : List Nat} (h1 : vs[a]? = some bv) (h2 : cs[a]? = some xs) {mk t : Nat} {vK bt : Value} {es : List Ent} (k : KS w mk xs.length l hv bv t vK bt w' es) : PL w' t1 t2 A B g1 g2 v1 v2 A' B' vK (l ++ es) ∧ FB w' t1 t2 g1 g2 v1 v2 vK (l ++ es) b23 b24 vs cs (a + 1) := by
  obtain ⟨r1, r2, r3, r4⟩ := f.rw' a bv xs (Nat.le_refl _) h1 h2
  obtain ⟨q1, q2⟩ := h.keep r4 k
  refine ⟨q1, ⟨f.k23.fr k.fr fun c => ?_, f.k24.fr k.fr fun c => ?_, f.len, fun j v c hj e1 e2 => ?_, fun i j v u n hi hj => f.ne i j v u n (by omega) hj⟩⟩
  · rcases c with c | c
    · exact r1.ne_type f.k23 (by decide) c
    · exact h.row.ne_type f.k23 (by decide) c
  · rcases c with c | c
    · exact r1.ne_type f.k24 (by decide) c
    · exact h.row.ne_type f.k24 (by decide) c
  · obtain ⟨s1, s2, s3, s4⟩ := f.rw' j v c (by omega) e1 e2
    refine ⟨s1.fr k.fr fun g hg q => ?_, s2, s3, fun n hn => ⟨(s4 n hn).1, fun q => ?_⟩⟩
    · rcases q with q | q
      · exact f.ne a j bv v g (Nat.le_refl _) (by omega) h1 e1 q hg
      · obtain ⟨_, cur, hc⟩ := s1.lt hg
        exact h.row.ne_type hc (by decide) q
    · exact (s4 n hn).2 (q2 n (s1.lt hn).1 (fun hb => f.ne a j bv v n (Nat.le_refl _) (by omega) h1 e1 hb hn) q)
/-- keep, called on the next of the bytes. -/
theorem FB.call (h : PL w t1 t2 A B g1 g2 v1 v2 A' B' hv l) (f : FB w t1 t2 g1 g2 v1 v2 hv l b23 b24 vs cs a) {bv : Value} {xs : List Nat} (h1 : vs[a]? = some bv) (h2 : cs[a]? = some xs) (hl : l.length ≤ 1000000) :
    Calls Try.prog 25 #[hv, bv] w fun e w' => ∃ vK, e = .returned vK ∧ Hid (∃ es, es.length ≤ 72 ∧ PL w' t1 t2 A B g1 g2 v1 v2 A' B' vK (l ++ es) ∧ FB w' t1 t2 g1 g2 v1 v2 vK (l ++ es) b23 b24 vs cs (a + 1) ∧ Fr w w' (fun b => bv.ownBlock = some b ∨ hv.ownBlock = some b)) := by
  obtain ⟨r1, r2, r3, r4⟩ := f.rw' a bv xs (Nat.le_refl _) h1 h2
  refine (keep_any l hv bv xs w (by omega) h.row h.ok r1 (by omega) (h.apt r4)).mono ?_
  rintro e w' ⟨vK, bt, es, mk, rfl, hes, k⟩
  obtain ⟨q1, q2⟩ := FB.keep h f h1 h2 k
  exact ⟨vK, rfl, es, hes, q1, q2, k.fr⟩
end
end Go.Proofs.Ytjnnecoikcmaeaa

namespace Go.Proofs.Ytjnnecoikcmaeaa
set_option linter.unusedVariables false
set_option linter.unusedSimpArgs false
open Go.RowKit Go.Great

structure PW (w W : World) (t1 t2 : Tp) (A B : List Cm) (g1 g2 : Nat) (v1 v2 : Value) (A' B' : List Cm) (hv : Value) (l : List Ent) : Prop where
  pl : PL W t1 t2 A B g1 g2 v1 v2 A' B' hv l
  bel : Below w.heap.size w W
  o1 : ∀ n, t1.own n → w.heap.size ≤ n
  o2 : ∀ n, t2.own n → w.heap.size ≤ n
  o3 : ∀ n, rtOwn g1 v1 n → w.heap.size ≤ n
  o4 : ∀ n, rtOwn g2 v2 n → w.heap.size ≤ n
  o5 : ∀ n, kOwn hv l n → w.heap.size ≤ n
section
variable {w W W' : World} {t1 t2 : Tp} {A B : List Cm} {g1 g2 : Nat} {v1 v2 : Value} {A' B' : List Cm} {hv : Value} {l : List Ent}
theorem bel_fr {ex : Nat → Prop} (h : Below w.heap.size w W) (hf : Fr W W' ex) (he : ∀ n, ex n → w.heap.size ≤ n) : Below w.heap.size w W' := h.trans (hf.below h.size fun b hb q => Nat.not_lt.2 (he b q) hb)
theorem PW.below (h : PW w W t1 t2 A B g1 g2 v1 v2 A' B' hv l) (hb : Below W.heap.size W W') : PW w W' t1 t2 A B g1 g2 v1 v2 A' B' hv l := ⟨h.pl.below hb, below_step h.bel hb, h.o1, h.o2, h.o3, h.o4, h.o5⟩
theorem PW.add1 (h : PW w W t1 t2 A B g1 g2 v1 v2 A' B' hv l) (hL : A.length < 1000) (c : Cm) (hc : c.ok) : Calls Try.prog 12 #[.pointer (some ⟨t1.g, 0, none⟩), .agg c.cs] W fun e w' => e = .returned (.int .i64 (encE c)) ∧ Hid (∃ t', t'.g = t1.g ∧ PW w w' t' t2 (addL A c) B g1 g2 v1 v2 A' B' hv l ∧ Fr W w' t1.own ∧ ∀ b, t'.own b → t1.own b ∨ W.heap.size ≤ b) := by
  refine (h.pl.p1.add hL c hc).mono ?_
  rintro e w' ⟨h1, h2⟩
  obtain ⟨t', k1, k2, k3, k4⟩ := h2.out
  refine ⟨h1, t', k2, ⟨h.pl.a1 k1 k3 k4, bel_fr h.bel k3 h.o1, fun n q => ?_, h.o2, h.o3, h.o4, h.o5⟩, k3, k4⟩
  rcases k4 n q with q | q
  · exact h.o1 n q
  · exact Nat.le_trans h.bel.size q
theorem PW.add2 (h : PW w W t1 t2 A B g1 g2 v1 v2 A' B' hv l) (hL : B.length < 1000) (c : Cm) (hc : c.ok) : Calls Try.prog 12 #[.pointer (some ⟨t2.g, 0, none⟩), .agg c.cs] W fun e w' => e = .returned (.int .i64 (encE c)) ∧ Hid (∃ t', t'.g = t2.g ∧ PW w w' t1 t' A (addL B c) g1 g2 v1 v2 A' B' hv l ∧ Fr W w' t2.own ∧ ∀ b, t'.own b → t2.own b ∨ W.heap.size ≤ b) := by
  refine (h.pl.p2.add hL c hc).mono ?_
  rintro e w' ⟨h1, h2⟩
  obtain ⟨t', k1, k2, k3, k4⟩ := h2.out
  refine ⟨h1, t', k2, ⟨h.pl.a2 k1 k3 k4, bel_fr h.bel k3 h.o2, h.o1, fun n q => ?_, h.o3, h.o4, h.o5⟩, k3, k4⟩
  rcases k4 n q with q | q
  · exact h.o2 n q
  · exact Nat.le_trans h.bel.size q
theorem PW.add3 (h : PW w W t1 t2 A B g1 g2 v1 v2 A' B' hv l) (hL : A'.length < 1000) (c : Cm) (hc : c.ok) : Calls Try.prog 21 #[.pointer (some ⟨g1, 0, none⟩), .agg c.cs] W fun e w' => e = .returned (.int .i64 (encE c)) ∧ Hid (∃ v', PW w w' t1 t2 A B g1 g2 v' v2 (addL A' c) B' hv l ∧ Fr W w' (rtOwn g1 v1) ∧ ∀ b, rtOwn g1 v' b → rtOwn g1 v1 b ∨ W.heap.size ≤ b) := by
  refine (h.pl.r1.add (by omega) c hc).mono ?_
  rintro e w' ⟨h1, h2⟩
  obtain ⟨v', k1, k3, k4⟩ := h2.out
  refine ⟨h1, v', ⟨h.pl.a3 k1 k3 k4, bel_fr h.bel k3 h.o3, h.o1, h.o2, fun n q => ?_, h.o4, h.o5⟩, k3, k4⟩
  rcases k4 n q with q | q
  · exact h.o3 n q
  · exact Nat.le_trans h.bel.size q
theorem PW.add4 (h : PW w W t1 t2 A B g1 g2 v1 v2 A' B' hv l) (hL : B'.length < 1000) (c : Cm) (hc : c.ok) : Calls Try.prog 21 #[.pointer (some ⟨g2, 0, none⟩), .agg c.cs] W fun e w' => e = .returned (.int .i64 (encE c)) ∧ Hid (∃ v', PW w w' t1 t2 A B g1 g2 v1 v' A' (addL B' c) hv l ∧ Fr W w' (rtOwn g2 v2) ∧ ∀ b, rtOwn g2 v' b → rtOwn g2 v2 b ∨ W.heap.size ≤ b) := by
  refine (h.pl.r2.add (by omega) c hc).mono ?_
  rintro e w' ⟨h1, h2⟩
  obtain ⟨v', k1, k3, k4⟩ := h2.out
  refine ⟨h1, v', ⟨h.pl.a4 k1 k3 k4, bel_fr h.bel k3 h.o4, h.o1, h.o2, h.o3, fun n q => ?_, h.o5⟩, k3, k4⟩
  rcases k4 n q with q | q
  · exact h.o4 n q
  · exact Nat.le_trans h.bel.size q
/-- Bytes that were made after all owners are no one's. -/
theorem PW.free (h : PW w W t1 t2 A B g1 g2 v1 v2 A' B' hv l) {bv : Value} (hb : ∀ n, bv.ownBlock = some n → W.heap.size ≤ n) : Free t1 t2 g1 g2 v1 v2 hv l bv := fun n q => by
  have hn := hb n q
  refine ⟨fun c => ?_, fun c => Nat.not_lt.2 hn (h.pl.l5 n c)⟩
  rcases c with c | c | c | c
  · exact Nat.not_lt.2 hn (h.pl.l1 n c)
  · exact Nat.not_lt.2 hn (h.pl.l2 n c)
  · exact Nat.not_lt.2 hn (h.pl.l3 n c)
  · exact Nat.not_lt.2 hn (h.pl.l4 n c)
/-- keep, as a step: the bytes' block lies above the world that the law began in. -/
theorem PW.keep (h : PW w W t1 t2 A B g1 g2 v1 v2 A' B' hv l) {b23 b24 a : Nat} {vs : List Value} {cs : List (List Nat)} (f : FB W t1 t2 g1 g2 v1 v2 hv l b23 b24 vs cs a) {bv : Value} {xs : List Nat} (h1 : vs[a]? = some bv) (h2 : cs[a]? = some xs) (hb : ∀ n, bv.ownBlock = some n → w.heap.size ≤ n) (hl : l.length ≤ 1000000) :
    Calls Try.prog 25 #[hv, bv] W fun e w' => ∃ vK, e = .returned vK ∧ Hid (∃ es, es.length ≤ 72 ∧ PW w w' t1 t2 A B g1 g2 v1 v2 A' B' vK (l ++ es) ∧ FB w' t1 t2 g1 g2 v1 v2 vK (l ++ es) b23 b24 vs cs (a + 1)) := by
  obtain ⟨r1, r2, r3, r4⟩ := f.rw' a bv xs (Nat.le_refl _) h1 h2
  refine (keep_any l hv bv xs W (by omega) h.pl.row h.pl.ok r1 (by omega) (h.pl.apt r4)).mono ?_
  rintro e w' ⟨vK, bt, es, mk, rfl, hes, k⟩
  obtain ⟨q1, q2⟩ := FB.keep h.pl f h1 h2 k
  refine ⟨vK, rfl, es, hes, ⟨q1, bel_fr h.bel k.fr fun n q => q.elim (hb n) fun q => h.o5 n (.inl q), h.o1, h.o2, h.o3, h.o4, fun n q => ?_⟩, q2⟩
  by_cases hn : n < W.heap.size
  · by_cases hbn : bv.ownBlock = some n
    · exact hb n hbn
    · exact h.o5 n ((h.pl.keep r4 k).2 n hn hbn q)
  · exact Nat.le_trans h.bel.size (Nat.not_lt.1 hn)
/-- The same, and the round's command in a block of its own. -/
structure PC (w W : World) (t1 t2 : Tp) (A B : List Cm) (g1 g2 : Nat) (v1 v2 : Value) (A' B' : List Cm) (hv : Value) (l : List Ent) (cb : Nat) (c : Cm) : Prop where
  pw : PW w W t1 t2 A B g1 g2 v1 v2 A' B' hv l
  blk : Blk W cb 27 c.cs
  n1 : ¬ t1.own cb
  n2 : ¬ t2.own cb
  n3 : ¬ rtOwn g1 v1 cb
  n4 : ¬ rtOwn g2 v2 cb
  n5 : ¬ kOwn hv l cb
theorem PC.below {cb : Nat} {c : Cm} (h : PC w W t1 t2 A B g1 g2 v1 v2 A' B' hv l cb c) (hb : Below W.heap.size W W') : PC w W' t1 t2 A B g1 g2 v1 v2 A' B' hv l cb c := ⟨h.pw.below hb, h.blk.below hb h.blk.lt, h.n1, h.n2, h.n3, h.n4, h.n5⟩
theorem PC.add1 {cb : Nat} {c : Cm} (h : PC w W t1 t2 A B g1 g2 v1 v2 A' B' hv l cb c) (hL : A.length < 1000) (hc : c.ok) : Calls Try.prog 12 #[.pointer (some ⟨t1.g, 0, none⟩), .agg c.cs] W fun e w' => e = .returned (.int .i64 (encE c)) ∧ Hid (∃ t', t'.g = t1.g ∧ PC w w' t' t2 (addL A c) B g1 g2 v1 v2 A' B' hv l cb c) := by
  refine (h.pw.add1 hL c hc).mono ?_
  rintro e w' ⟨h1, h2⟩
  obtain ⟨t', k1, k2, k3, k4⟩ := h2.out
  exact ⟨h1, t', k1, k2, h.blk.fr k3 h.n1, fun q => (k4 _ q).elim h.n1 fun q => Nat.not_lt.2 q h.blk.lt, h.n2, h.n3, h.n4, h.n5⟩
theorem PC.add2 {cb : Nat} {c : Cm} (h : PC w W t1 t2 A B g1 g2 v1 v2 A' B' hv l cb c) (hL : B.length < 1000) (hc : c.ok) : Calls Try.prog 12 #[.pointer (some ⟨t2.g, 0, none⟩), .agg c.cs] W fun e w' => e = .returned (.int .i64 (encE c)) ∧ Hid (∃ t', t'.g = t2.g ∧ PC w w' t1 t' A (addL B c) g1 g2 v1 v2 A' B' hv l cb c) := by
  refine (h.pw.add2 hL c hc).mono ?_
  rintro e w' ⟨h1, h2⟩
  obtain ⟨t', k1, k2, k3, k4⟩ := h2.out
  exact ⟨h1, t', k1, k2, h.blk.fr k3 h.n2, h.n1, fun q => (k4 _ q).elim h.n2 fun q => Nat.not_lt.2 q h.blk.lt, h.n3, h.n4, h.n5⟩
theorem PC.add3 {cb : Nat} {c : Cm} (h : PC w W t1 t2 A B g1 g2 v1 v2 A' B' hv l cb c) (hL : A'.length < 1000) (hc : c.ok) : Calls Try.prog 21 #[.pointer (some ⟨g1, 0, none⟩), .agg c.cs] W fun e w' => e = .returned (.int .i64 (encE c)) ∧ Hid (∃ v', PC w w' t1 t2 A B g1 g2 v' v2 (addL A' c) B' hv l cb c) := by
  refine (h.pw.add3 hL c hc).mono ?_
  rintro e w' ⟨h1, h2⟩
  obtain ⟨v', k2, k3, k4⟩ := h2.out
  exact ⟨h1, v', k2, h.blk.fr k3 h.n3, h.n1, h.n2, fun q => (k4 _ q).elim h.n3 fun q => Nat.not_lt.2 q h.blk.lt, h.n4, h.n5⟩
theorem PC.add4 {cb : Nat} {c : Cm} (h : PC w W t1 t2 A B g1 g2 v1 v2 A' B' hv l cb c) (hL : B'.length < 1000) (hc : c.ok) : Calls Try.prog 21 #[.pointer (some ⟨g2, 0, none⟩), .agg c.cs] W fun e w' => e = .returned (.int .i64 (encE c)) ∧ Hid (∃ v', PC w w' t1 t2 A B g1 g2 v1 v' A' (addL B' c) hv l cb c) := by
  refine (h.pw.add4 hL c hc).mono ?_
  rintro e w' ⟨h1, h2⟩
  obtain ⟨v', k2, k3, k4⟩ := h2.out
  exact ⟨h1, v', k2, h.blk.fr k3 h.n4, h.n1, h.n2, h.n3, fun q => (k4 _ q).elim h.n4 fun q => Nat.not_lt.2 q h.blk.lt, h.n5⟩
/-- A round's command, loaded and laid into its block. -/
theorem PC.of (h : PW w W t1 t2 A B g1 g2 v1 v2 A' B' hv l) (c : Cm) : PC w ((W.alloc (.cells zeroC.cs 27)).setRow W.heap.size c.cs) t1 t2 A B g1 g2 v1 v2 A' B' hv l W.heap.size c :=
  ⟨h.below (below_setRow ((Below.refl _ W).alloc (Nat.le_refl _) _) (Nat.le_refl _) _), (Blk.new W _ _).row, fun q => Nat.lt_irrefl _ (h.pl.l1 _ q), fun q => Nat.lt_irrefl _ (h.pl.l2 _ q), fun q => Nat.lt_irrefl _ (h.pl.l3 _ q), fun q => Nat.lt_irrefl _ (h.pl.l4 _ q), fun q => Nat.lt_irrefl _ (h.pl.l5 _ q)⟩
/-- Where it starts: two tapes of each, nothing kept. -/
theorem PW.start {w W1 W2 W3 W4 W5 : World} {t1 t2 : Tp} {g1 g2 : Nat} (h0 : Below w.heap.size w W1) (ha : TpAt W2 t1 ∧ t1.l = magic ∧ t1.es = [] ∧ Below W1.heap.size W1 W2 ∧ ∀ b, t1.own b → W1.heap.size ≤ b) (hb : TpAt W3 t2 ∧ t2.l = magic ∧ t2.es = [] ∧ Below W2.heap.size W2 W3 ∧ ∀ b, t2.own b → W2.heap.size ≤ b)
    (hc : RtAt W4 g1 (.slice none 0 0) [] ∧ Below W3.heap.size W3 W4 ∧ W3.heap.size ≤ g1) (hd : RtAt W5 g2 (.slice none 0 0) [] ∧ Below W4.heap.size W4 W5 ∧ W4.heap.size ≤ g2) : PW w W5 t1 t2 [] [] g1 g2 (.slice none 0 0) (.slice none 0 0) [] [] (.slice none 0 0) [] := by
  obtain ⟨a1, a2, a3, a4, a5⟩ := ha
  obtain ⟨b1, b2, b3, b4, b5⟩ := hb
  obtain ⟨c1, c2, c3⟩ := hc
  obtain ⟨d1, d2, d3⟩ := hd
  have s1 := h0.size
  have s2 := a4.size
  have s3 := b4.size
  have s4 := c2.size
  have r : ∀ g n, rtOwn g (.slice none 0 0) n → n = g := fun g n q => q.elim id fun q => by cases q
  have k : ∀ n, ¬ kOwn (.slice none 0 0) [] n := fun n q => by
    rcases q with q | ⟨e, he, _⟩
    · cases q
    · cases he
  have la : ∀ n, t1.own n → n < W2.heap.size := fun n q => a1.ltO q
  have lb : ∀ n, t2.own n → n < W3.heap.size := fun n q => b1.ltO q
  have lc : g1 < W4.heap.size := c1.ltO (.inl rfl)
  refine ⟨⟨(((PT.mk0 a1 a2 a3).below b4).below c2).below d2, ((PT.mk0 b1 b2 b3).below c2).below d2, c1.below d2, d1, RowAt.none0 _ _ _, (fun e he => absurd he (List.not_mem_nil)), fun n => ⟨fun q => ?_, fun q => ?_, fun q => ?_, fun _ => k n⟩⟩, below_step (below_step (below_step (below_step h0 a4) b4) c2) d2, fun n q => ?_, fun n q => ?_, fun n q => ?_, fun n q => ?_, fun n q => absurd q (k n)⟩
  · have := la n q
    exact ⟨fun p => (by have := b5 n p; omega), fun p => (by have := r _ n p; omega), fun p => (by have := r _ n p; omega), k n⟩
  · have := lb n q
    exact ⟨fun p => (by have := r _ n p; omega), fun p => (by have := r _ n p; omega), k n⟩
  · have := r _ n q
    exact ⟨fun p => (by have := r _ n p; omega), k n⟩
  · have := a5 n q; omega
  · have := b5 n q; omega
  · have := r _ n q; omega
  · have := r _ n q; omega
end
end Go.Proofs.Ytjnnecoikcmaeaa

namespace Go.Proofs.Ytjnnecoikcmaeaa
set_option linter.unusedVariables false
set_option linter.unusedSimpArgs false
open Go.RowKit Go.Great

/-- Bytes whose block, if they have one, lies between two marks. -/
structure BA (W : World) (lo hi : Nat) (v : Value) (l : List Nat) : Prop where
  row : RowAt W 5 1 v l.length (bvals l)
  bb : BB l
  len : l.length ≤ 700000000
  own : ∀ n, v.ownBlock = some n → lo ≤ n ∧ n < hi
theorem BA.below {W W' : World} {lo hi : Nat} {v : Value} {l : List Nat} (h : BA W lo hi v l) (hb : Below W.heap.size W W') : BA W' lo hi v l := ⟨h.row.fr (Fr.of_below hb (fun _ => False)) fun _ _ => id, h.bb, h.len, h.own⟩
theorem BA.of {w W : World} {v : Value} {l : List Nat} (h : RowB w W v l) (hl : l.length ≤ 700000000) : BA W w.heap.size W.heap.size v l := ⟨h.row, h.bb, hl, fun n q => ⟨h.low n q, (h.row.lt q).1⟩⟩
theorem BA.by' {W : World} {lo hi : Nat} {v : Value} {l : List Nat} (h : BA W lo hi v l) : By W v l := h.row.by' h.bb
theorem BA.sl {W : World} {lo hi : Nat} {v : Value} {l : List Nat} (h : BA W lo hi v l) : ∃ a n c, v = .slice a n c := by
  obtain ⟨a, c, e, _⟩ := h.row.form
  exact ⟨a, _, c, e⟩
/-- What Encode gives, of whatever command. -/
def encX (c : Cm) : List Nat := if encE c = 0 then encL c else []
theorem encX_len (c : Cm) : (encX c).length ≤ 700000000 := by
  unfold encX
  split
  · rename_i h
    have := (encL_len h).2
    omega
  · exact Nat.zero_le _
theorem encX_row {w w' : World} {c : Cm} {v : Value} (h : Below w.heap.size w w' ∧ (encE c = 0 → RowB w w' v (encL c)) ∧ (encE c ≠ 0 → v = .slice none 0 0)) : RowB w w' v (encX c) := by
  obtain ⟨h1, h2, h3⟩ := h
  unfold encX
  split
  · rename_i h
    exact h2 h
  · rename_i h
    rw [h3 h]
    exact ⟨RowAt.none0 _ _ _, (fun x hx => absurd hx (List.not_mem_nil)), h1, fun g hg => by cases hg⟩
theorem get5 {α : Type} {a b c d e x : α} {j : Nat} (h : [a, b, c, d, e][j]? = some x) : (j = 0 ∧ x = a) ∨ (j = 1 ∧ x = b) ∨ (j = 2 ∧ x = c) ∨ (j = 3 ∧ x = d) ∨ (j = 4 ∧ x = e) := by
  match j, h with
  | 0, h => exact .inl ⟨rfl, by simpa using h.symm⟩
  | 1, h => exact .inr (.inl ⟨rfl, by simpa using h.symm⟩)
  | 2, h => exact .inr (.inr (.inl ⟨rfl, by simpa using h.symm⟩))
  | 3, h => exact .inr (.inr (.inr (.inl ⟨rfl, by simpa using h.symm⟩)))
  | 4, h => exact .inr (.inr (.inr (.inr ⟨rfl, by simpa using h.symm⟩)))
  | n + 5, h => simp at h
/-- Five bytes, made one behind the other after all owners. -/
theorem FB.mk5 {w W9 W : World} {t1 t2 : Tp} {A B : List Cm} {g1 g2 : Nat} {v1 v2 : Value} {A' B' : List Cm} {hv : Value} {l : List Ent} (h : PW w W9 t1 t2 A B g1 g2 v1 v2 A' B' hv l) {b23 b24 m0 m1 m2 m3 m4 m5 : Nat} {u0 u1 u2 u3 u4 : Value} {x0 x1 x2 x3 x4 : List Nat} (hm : W9.heap.size ≤ m0)
    (k0 : BA W m0 m1 u0 x0) (k1 : BA W m1 m2 u1 x1) (k2 : BA W m2 m3 u2 x2) (k3 : BA W m3 m4 u3 x3) (k4 : BA W m4 m5 u4 x4) (hs : m0 ≤ m1 ∧ m1 ≤ m2 ∧ m2 ≤ m3 ∧ m3 ≤ m4)
    (h23 : Blk W b23 28 #[u0, u1, u2, u3, u4]) (h24 : Blk W b24 9 #[.string (ofN x0), .string (ofN x1), .string (ofN x2), .string (ofN x3), .string (ofN x4)]) :
    FB W t1 t2 g1 g2 v1 v2 hv l b23 b24 [u0, u1, u2, u3, u4] [x0, x1, x2, x3, x4] 0 ∧ ∀ (j : Nat) (v : Value), [u0, u1, u2, u3, u4][j]? = some v → ∀ n, v.ownBlock = some n → w.heap.size ≤ n := by
  obtain ⟨s0, s1, s2, s3⟩ := hs
  have hw := h.bel.size
  have fr : ∀ {lo hi v x}, BA W lo hi v x → W9.heap.size ≤ lo → RowAt W 5 1 v x.length (bvals x) ∧ BB x ∧ x.length ≤ 700000000 ∧ Free t1 t2 g1 g2 v1 v2 hv l v := fun k hl => ⟨k.row, k.bb, k.len, h.free fun n q => Nat.le_trans hl (k.own n q).1⟩
  refine ⟨⟨h23, h24, rfl, fun j v c _ e1 e2 => ?_, fun i j v u n _ hij e1 e2 q p => ?_⟩, fun j v e1 n q => ?_⟩
  · rcases get5 e1 with ⟨rfl, rfl⟩ | ⟨rfl, rfl⟩ | ⟨rfl, rfl⟩ | ⟨rfl, rfl⟩ | ⟨rfl, rfl⟩ <;> (have e3 : _ = c := Option.some.inj e2; subst e3)
    · exact fr k0 hm
    · exact fr k1 (by omega)
    · exact fr k2 (by omega)
    · exact fr k3 (by omega)
    · exact fr k4 (by omega)
  · rcases get5 e1 with ⟨rfl, rfl⟩ | ⟨rfl, rfl⟩ | ⟨rfl, rfl⟩ | ⟨rfl, rfl⟩ | ⟨rfl, rfl⟩ <;> rcases get5 e2 with ⟨rfl, rfl⟩ | ⟨rfl, rfl⟩ | ⟨rfl, rfl⟩ | ⟨rfl, rfl⟩ | ⟨rfl, rfl⟩ <;> first | omega | (first | have a1 := k0.own n q | have a1 := k1.own n q | have a1 := k2.own n q | have a1 := k3.own n q | have a1 := k4.own n q) <;> (first | have a2 := k4.own n p | have a2 := k3.own n p | have a2 := k2.own n p | have a2 := k1.own n p | have a2 := k0.own n p) <;> omega
  · rcases get5 e1 with ⟨rfl, rfl⟩ | ⟨rfl, rfl⟩ | ⟨rfl, rfl⟩ | ⟨rfl, rfl⟩ | ⟨rfl, rfl⟩
    · have := k0.own n q; omega
    · have := k1.own n q; omega
    · have := k2.own n q; omega
    · have := k3.own n q; omega
    · have := k4.own n q; omega
theorem BA.mono {W : World} {lo hi hi' : Nat} {v : Value} {l : List Nat} (h : BA W lo hi v l) (hh : hi ≤ hi') : BA W lo hi' v l := ⟨h.row, h.bb, h.len, fun n q => ⟨(h.own n q).1, Nat.lt_of_lt_of_le (h.own n q).2 hh⟩⟩
/-- Where the round stands with all its bytes come. -/
structure T26 (w W : World) (t1 t2 : Tp) (A B : List Cm) (g1 g2 : Nat) (v1 v2 hv : Value) (l : List Ent) (cb : Nat) (c : Cm) (b23 m0 m1 m2 m3 m4 m5 : Nat) (u0 u1 u2 u3 u4 : Value) (X LA LB : List Nat) (d0 : Value) : Prop where
  pc : PC w W t1 t2 A B g1 g2 v1 v2 A B hv l cb c
  blk : Blk W b23 28 #[u0, u1, u2, u3, u4]
  k0 : BA W m0 m1 u0 X
  k1 : BA W m1 m2 u1 X
  k2 : BA W m2 m3 u2 LA
  k3 : BA W m3 m4 u3 LA
  k4 : BA W m4 m5 u4 LB
  dd : By W d0 X
section
variable {w W W' : World} {t1 t2 : Tp} {A B : List Cm} {g1 g2 : Nat} {v1 v2 hv : Value} {l : List Ent} {cb : Nat} {c : Cm} {b23 m0 m1 m2 m3 m4 m5 : Nat} {u0 u1 u2 u3 u4 : Value} {X LA LB : List Nat} {d0 : Value}
theorem T26.below (h : T26 w W t1 t2 A B g1 g2 v1 v2 hv l cb c b23 m0 m1 m2 m3 m4 m5 u0 u1 u2 u3 u4 X LA LB d0) (hb : Below W.heap.size W W') : T26 w W' t1 t2 A B g1 g2 v1 v2 hv l cb c b23 m0 m1 m2 m3 m4 m5 u0 u1 u2 u3 u4 X LA LB d0 :=
  ⟨h.pc.below hb, h.blk.below hb h.blk.lt, h.k0.below hb, h.k1.below hb, h.k2.below hb, h.k3.below hb, h.k4.below hb, h.dd.below hb⟩
/-- The round's bytes, no one's, and what is wanted of them. -/
structure T27 (w W : World) (t1 t2 : Tp) (A B : List Cm) (g1 g2 : Nat) (v1 v2 hv : Value) (l : List Ent) (b23 b24 : Nat) (vs : List Value) (cs : List (List Nat)) (a : Nat) : Prop where
  pw : PW w W t1 t2 A B g1 g2 v1 v2 A B hv l
  fb : FB W t1 t2 g1 g2 v1 v2 hv l b23 b24 vs cs a
  lo : ∀ (j : Nat) (v : Value), vs[j]? = some v → ∀ n, v.ownBlock = some n → w.heap.size ≤ n
theorem T26.fin {W9 : World} (h : T26 w W t1 t2 A B g1 g2 v1 v2 hv l cb c b23 m0 m1 m2 m3 m4 m5 u0 u1 u2 u3 u4 X LA LB d0) (h9 : PW w W9 t1 t2 A B g1 g2 v1 v2 A B hv l) (hm : W9.heap.size ≤ m0) (hs : m0 ≤ m1 ∧ m1 ≤ m2 ∧ m2 ≤ m3 ∧ m3 ≤ m4) :
    T27 w (W.alloc (.cells #[.string (ofN X), .string (ofN X), .string (ofN LA), .string (ofN LA), .string (ofN LB)] 9)) t1 t2 A B g1 g2 v1 v2 hv l b23 W.heap.size [u0, u1, u2, u3, u4] [X, X, LA, LA, LB] 0 := by
  have hb : Below W.heap.size W (W.alloc (.cells #[.string (ofN X), .string (ofN X), .string (ofN LA), .string (ofN LA), .string (ofN LB)] 9)) := (Below.refl _ W).alloc (Nat.le_refl _) _
  have h2 := h.below hb
  obtain ⟨f1, f2⟩ := FB.mk5 h9 hm h2.k0 h2.k1 h2.k2 h2.k3 h2.k4 hs h2.blk (Blk.new W _ _)
  exact ⟨h2.pc.pw, f1, f2⟩
theorem T27.below {b24 a : Nat} {vs : List Value} {cs : List (List Nat)} (h : T27 w W t1 t2 A B g1 g2 v1 v2 hv l b23 b24 vs cs a) (hb : Below W.heap.size W W') : T27 w W' t1 t2 A B g1 g2 v1 v2 hv l b23 b24 vs cs a := ⟨h.pw.below hb, h.fb.below hb, h.lo⟩
end
theorem ix5_run {op : Oper} {a : Act} {g i : Nat} {T : TypeId} (hT : T = 62 ∨ T = 63) (x y : Operand) (ho : op.op = .indexAddr T x y) (hx : a.eval x = .slice (some ⟨g, 0, none⟩) 5 5) (hy : a.eval y = .int .i64 (i : Int)) (hi : i < 5) (w : World) : (execOp a.eval op).run Try.prog w = .ok (.value (.pointer (some ⟨g, i, none⟩))) w := by
  have h1 : (i : Int) < ((5 : Nat) : Int) := by omega
  have h2 : ¬ ((5 : Nat) : Int) ≤ (i : Int) := by omega
  have h3 : (i : Int) < 5 := by omega
  have h4 : ¬ (5 : Int) ≤ (i : Int) := by omega
  have h0 : (0 : Int) ≤ (i : Int) := by omega
  unfold execOp
  simp only [ho, hx, hy]
  rcases hT with rfl | rfl <;> go_simp
theorem ldV_run {op : Oper} {a : Act} {w : World} {g o : Nat} {v : Value} (x : Operand) (ho : op.op = .load 28 x) (hx : a.eval x = .pointer (some ⟨g, o, none⟩)) (h : w.cell? ⟨g, o, none⟩ = some v) : (execOp a.eval op).run Try.prog w = .ok (.value v) w := by
  unfold execOp
  simp only [ho, hx]
  go_simp

theorem build62_run {op : Oper} {a : Act} {v0 v1 v2 v3 v4 : Value} (h0 : ∃ a n c, v0 = .slice a n c) (h1 : ∃ a n c, v1 = .slice a n c) (h2 : ∃ a n c, v2 = .slice a n c) (h3 : ∃ a n c, v3 = .slice a n c) (h4 : ∃ a n c, v4 = .slice a n c) (x0 x1 x2 x3 x4 : Operand) (ho : op.op = .buildSlice 62 5 #[(0, x0), (1, x1), (2, x2), (3, x3), (4, x4)]) (e0 : a.eval x0 = v0) (e1 : a.eval x1 = v1) (e2 : a.eval x2 = v2) (e3 : a.eval x3 = v3) (e4 : a.eval x4 = v4) (w : World) : (execOp a.eval op).run Try.prog w = .ok (.value (.slice (some ⟨w.heap.size, 0, none⟩) 5 5)) (w.alloc (.cells #[v0, v1, v2, v3, v4] 28)) := by
  obtain ⟨_, _, _, rfl⟩ := h0
  obtain ⟨_, _, _, rfl⟩ := h1
  obtain ⟨_, _, _, rfl⟩ := h2
  obtain ⟨_, _, _, rfl⟩ := h3
  obtain ⟨_, _, _, rfl⟩ := h4
  unfold execOp
  simp only [ho, List.map_toArray, List.map_cons, List.map_nil, e0, e1, e2, e3, e4]
  kernel_rfl
theorem build63_run {op : Oper} {a : Act} {s0 s1 s2 s3 s4 : ByteArray} (x0 x1 x2 x3 x4 : Operand) (ho : op.op = .buildSlice 63 5 #[(0, x0), (1, x1), (2, x2), (3, x3), (4, x4)]) (e0 : a.eval x0 = .string s0) (e1 : a.eval x1 = .string s1) (e2 : a.eval x2 = .string s2) (e3 : a.eval x3 = .string s3) (e4 : a.eval x4 = .string s4) (w : World) : (execOp a.eval op).run Try.prog w = .ok (.value (.slice (some ⟨w.heap.size, 0, none⟩) 5 5)) (w.alloc (.cells #[.string s0, .string s1, .string s2, .string s3, .string s4] 9)) := by
  unfold execOp
  simp only [ho, List.map_toArray, List.map_cons, List.map_nil, e0, e1, e2, e3, e4]
  kernel_rfl
theorem neI2_run {op : Oper} {a : Act} {z : Int} {T : TypeId} (hT : T = 30 ∨ T = 3) (x y : Operand) (ho : op.op = .binOp .neq T x y T) (hx : a.eval x = .int .i64 z) (hy : a.eval y = .int .i64 z) (w : World) : (execOp a.eval op).run Try.prog w = .ok (.value (.bool false)) w := by
  unfold execOp
  simp only [ho, hx, hy]
  rcases hT with rfl | rfl <;> go_simp
theorem and_def (z : Int) : ∃ r : Int, ∀ (op : Oper) (a : Act) (x : Operand) (w : World), op.op = .binOp .and 3 x (.const (.int .i64 1)) 3 → a.eval x = .int .i64 z → (execOp a.eval op).run Try.prog w = .ok (.value (.int .i64 r)) w := by
  refine ⟨?r, fun op a x w ho hx => ?_⟩
  rotate_left
  unfold execOp
  simp only [ho, hx]
  go_simp
  rfl
theorem eq1_run {op : Oper} {a : Act} {z y0 : Int} {b : Bool} (x y : Operand) (ho : op.op = .binOp .eql 3 x y 3) (hx : a.eval x = .int .i64 z) (hy : a.eval y = .int .i64 y0) (hb : (z == y0) = b) (w : World) : (execOp a.eval op).run Try.prog w = .ok (.value (.bool b)) w := by
  subst hb
  unfold execOp
  simp only [ho, hx, hy]
  go_simp
end Go.Proofs.Ytjnnecoikcmaeaa

namespace Go.Proofs.Ytjnnecoikcmaeaa
set_option linter.unusedVariables false
set_option linter.unusedSimpArgs false
open Go.RowKit Go.Great

theorem newC3 (W : World) (c : Cm) : Below W.heap.size W ((W.alloc (.cells zeroC.cs 27)).setRow W.heap.size c.cs) ∧ Blk ((W.alloc (.cells zeroC.cs 27)).setRow W.heap.size c.cs) W.heap.size 27 c.cs := ⟨below_setRow ((Below.refl _ W).alloc (Nat.le_refl _) _) (Nat.le_refl _) _, (Blk.new W _ _).row⟩
theorem rem3_run {op : Oper} {a : Act} {p : Nat} (x y : Operand) (ho : op.op = .binOp .rem 3 x y 3) (hx : a.eval x = .int .i64 (p : Int)) (hy : a.eval y = .int .i64 2) (hp : p ≤ 40) (w : World) : (execOp a.eval op).run Try.prog w = .ok (.value (.int .i64 ((p % 2 : Nat) : Int))) w := by
  have hm : (p : Int).tmod 2 = ((p % 2 : Nat) : Int) := by rw [Int.tmod_eq_emod_of_nonneg (by omega)]; rfl
  have hlt : p % 2 ≤ 40 := Nat.le_trans (Nat.mod_le _ _) hp
  have hw1 : IntKind.i64.wrap ((p : Int).tmod 2) = ((p % 2 : Nat) : Int) := by rw [hm, IntKind.wrap_i64]; omega
  have hw2 : wrap64 ((p : Int).tmod 2) = ((p % 2 : Nat) : Int) := by rw [hm]; unfold wrap64; omega
  generalize p % 2 = r at *
  unfold execOp
  simp only [ho, hx, hy]
  go_simp
section
variable {w W : World} {t1 t2 : Tp} {A B : List Cm} {g1 g2 : Nat} {v1 v2 hv : Value} {l : List Ent} {b23 b24 : Nat} {vs : List Value} {cs : List (List Nat)} {a : Nat}
theorem T27.c23 (h : T27 w W t1 t2 A B g1 g2 v1 v2 hv l b23 b24 vs cs a) {j : Nat} {v : Value} (hj : vs[j]? = some v) : W.cell? ⟨b23, j, none⟩ = some v := by
  rw [h.fb.k23.cell j, List.getElem?_toArray]
  exact hj
theorem T27.c24 (h : T27 w W t1 t2 A B g1 g2 v1 v2 hv l b23 b24 vs cs a) {j : Nat} {x : List Nat} (hj : cs[j]? = some x) : W.cell? ⟨b24, j, none⟩ = some (.string (ofN x)) := by
  rw [h.fb.k24.cell j, List.getElem?_toArray, List.getElem?_map, hj]
  rfl
theorem T27.by' (h : T27 w W t1 t2 A B g1 g2 v1 v2 hv l b23 b24 vs cs a) {j : Nat} {v : Value} {x : List Nat} (ha : a ≤ j) (hv : vs[j]? = some v) (hx : cs[j]? = some x) : By W v x := by
  obtain ⟨h1, h2, _⟩ := h.fb.rw' j v x ha hv hx
  exact h1.by' h2
end
end Go.Proofs.Ytjnnecoikcmaeaa
