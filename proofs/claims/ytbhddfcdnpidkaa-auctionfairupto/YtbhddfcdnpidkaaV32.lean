/-
  auction, plain: the fills are fair: all that AuctionFair asks of them.
-/
import Derived.Test.YtbhddfcdnpidkaaV30
import Derived.Test.YtbhddfcdnpidkaaV28
namespace Go.Proofs.Ytbhddfcdnpidkaa
set_option linter.unusedVariables false
set_option linter.unusedSimpArgs false

/-- What the one of number i gets of the fills, as the one who buys, or as the one who sells. -/
def gotF (buy : Bool) (i : Int) : List Fl → Int
  | [] => 0
  | f :: l => (if (if buy = true then f.b else f.s) = i then f.q else 0) + gotF buy i l
def totF : List Fl → Int
  | [] => 0
  | f :: l => f.q + totF l
/-- What the one of number i gets of a row to whom T is given in all. -/
def clW (i : Int) : Int → List Wn → Int
  | _, [] => 0
  | T, v :: l => (if v.id = i then mn2 T v.q else 0) + clW i (T - mn2 T v.q) l
def smW : List Wn → Int
  | [] => 0
  | v :: l => v.q + smW l
theorem mn2_le1 (a b : Int) : mn2 a b ≤ a := by unfold mn2; split <;> omega
theorem mn2_le2 (a b : Int) : mn2 a b ≤ b := by unfold mn2; split <;> omega
theorem mn2_or (a b : Int) : mn2 a b = a ∨ mn2 a b = b := by unfold mn2; split <;> simp
theorem smW_nn : ∀ {l : List Wn}, okQ l → 0 ≤ smW l
  | [], _ => by simp [smW]
  | v :: l, h => by
    have := smW_nn (l := l) fun x hx => h x (List.mem_cons_of_mem _ hx)
    have := h v List.mem_cons_self
    simp only [smW]
    omega
theorem clW_zero (i : Int) : ∀ {l : List Wn}, okQ l → clW i 0 l = 0
  | [], _ => rfl
  | v :: l, h => by
    have h1 := h v List.mem_cons_self
    have e : mn2 0 v.q = 0 := by unfold mn2; rw [if_pos (by omega)]
    have := clW_zero i (l := l) fun x hx => h x (List.mem_cons_of_mem _ hx)
    simp only [clW, e, Int.sub_zero, this]
    split <;> rfl
theorem clW_less (i : Int) {T q : Int} {v : Wn} {l : List Wn} (h1 : 1 ≤ q) (hT : q ≤ T) (hq : q ≤ v.q) : clW i T (v :: l) = (if v.id = i then q else 0) + clW i (T - q) (lessL q (v :: l)) := by
  rw [lessL_eq]
  have a1 := mn2_le1 T v.q
  have a2 := mn2_le2 T v.q
  have a3 := mn2_or T v.q
  by_cases e : v.q - q = 0
  · rw [if_pos e]
    have : mn2 T v.q = q := by unfold mn2 at *; split at * <;> omega
    simp only [clW, this]
  · rw [if_neg e]
    have : mn2 (T - q) (v.q - q) = mn2 T v.q - q := by
      by_cases h : T ≤ v.q
      · unfold mn2; rw [if_pos h, if_pos (by omega)]
      · unfold mn2; rw [if_neg h, if_neg (by omega)]
    simp only [clW, this]
    rw [show T - q - (mn2 T v.q - q) = T - mn2 T v.q by omega]
    split <;> omega
theorem smW_less {q : Int} {v : Wn} {l : List Wn} : smW (lessL q (v :: l)) = smW (v :: l) - q := by
  rw [lessL_eq]
  split
  · simp only [smW]; omega
  · simp only [smW]; omega
/-- All that the filling gives. -/
theorem fills_got (p i : Int) : ∀ (k : Nat) {left : Int} {B S : List Wn}, okQ B → okQ S → 0 ≤ left → (left = 0 ∨ B.length + S.length ≤ k) →
    gotF true i (fillsF p k left B S) = clW i (mn2 left (mn2 (smW B) (smW S))) B ∧ gotF false i (fillsF p k left B S) = clW i (mn2 left (mn2 (smW B) (smW S))) S ∧ totF (fillsF p k left B S) = mn2 left (mn2 (smW B) (smW S)) ∧ ∀ f ∈ fillsF p k left B S, 1 ≤ f.q ∧ f.q ≤ 1000000 ∧ f.p = p := by
  intro k
  induction k with
  | zero =>
    intro left B S hB hS h0 hk
    have n1 := smW_nn hB
    have n2 := smW_nn hS
    have e : mn2 left (mn2 (smW B) (smW S)) = 0 := by
      rcases hk with hk | hk
      · unfold mn2; split <;> split at * <;> omega
      · have : B = [] := List.eq_nil_of_length_eq_zero (by omega)
        subst this
        simp only [smW] at *
        unfold mn2; split <;> split at * <;> omega
    rw [e, clW_zero i hB, clW_zero i hS]
    exact ⟨rfl, rfl, rfl, fun f hf => by simp [fillsF] at hf⟩
  | succ k ih =>
    intro left B S hB hS h0 hk
    have n1 := smW_nn hB
    have n2 := smW_nn hS
    by_cases hg : 0 < left ∧ B ≠ [] ∧ S ≠ []
    · obtain ⟨hl, hb, hs⟩ := hg
      obtain ⟨b, B, rfl⟩ := List.exists_cons_of_ne_nil hb
      obtain ⟨s, S, rfl⟩ := List.exists_cons_of_ne_nil hs
      have qb := hB b List.mem_cons_self
      have qs := hS s List.mem_cons_self
      obtain ⟨m1, m2, m3, m4, m5⟩ := mnF_bd hl qb.1 qs.1
      have l1 := lessL_len (q := mnF left b s) (v := b) (l := B)
      have l2 := lessL_len (q := mnF left b s) (v := s) (l := S)
      have nB := smW_nn (l := B) fun x hx => hB x (List.mem_cons_of_mem _ hx)
      have nS := smW_nn (l := S) fun x hx => hS x (List.mem_cons_of_mem _ hx)
      have hk' : (b :: B).length + (s :: S).length ≤ k + 1 := hk.resolve_left (by omega)
      simp only [List.length_cons] at hk'
      have ih' := ih (left := left - mnF left b s) (lessL_ok hB m1 m3) (lessL_ok hS m1 m4) (by omega) (by
        rcases m5 with m5 | m5 | m5
        · exact .inl (by omega)
        · have := l1.2 m5
          exact .inr (by omega)
        · have := l2.2 m5
          exact .inr (by omega))
      have eF : fillsF p (k + 1) left (b :: B) (s :: S) = ⟨b.id, s.id, p, mnF left b s⟩ :: fillsF p k (left - mnF left b s) (lessL (mnF left b s) (b :: B)) (lessL (mnF left b s) (s :: S)) := by
        show (if 0 < left then _ else _) = _
        rw [if_pos hl]
      rw [eF]
      rw [smW_less, smW_less] at ih'
      have hq1 : mnF left b s ≤ smW (b :: B) := by simp only [smW]; omega
      have hq2 : mnF left b s ≤ smW (s :: S) := by simp only [smW]; omega
      generalize mnF left b s = q at *
      generalize fillsF p k (left - q) (lessL q (b :: B)) (lessL q (s :: S)) = F at *
      have eT : mn2 (left - q) (mn2 (smW (b :: B) - q) (smW (s :: S) - q)) = mn2 left (mn2 (smW (b :: B)) (smW (s :: S))) - q := by
        generalize smW (b :: B) = x
        generalize smW (s :: S) = y
        unfold mn2
        split <;> split <;> split <;> split <;> omega
      have hT : q ≤ mn2 left (mn2 (smW (b :: B)) (smW (s :: S))) := by
        generalize smW (b :: B) = x at *
        generalize smW (s :: S) = y at *
        unfold mn2
        split <;> split <;> omega
      rw [eT] at ih'
      obtain ⟨i1, i2, i3, i4⟩ := ih'
      generalize mn2 left (mn2 (smW (b :: B)) (smW (s :: S))) = T at *
      refine ⟨?_, ?_, ?_, ?_⟩
      · rw [clW_less i m1 hT m3, ← i1]; rfl
      · rw [clW_less i m1 hT m4, ← i2]; rfl
      · simp only [totF, i3]; omega
      · intro f hf
        rcases List.mem_cons.1 hf with rfl | hf
        · exact ⟨m1, by show q ≤ 1000000; omega, rfl⟩
        · exact i4 f hf
    · rw [fillsF_none p _ _ _ _ hg]
      have e : mn2 left (mn2 (smW B) (smW S)) = 0 := by
        have hd : left = 0 ∨ smW B = 0 ∨ smW S = 0 := by
          by_cases h1 : 0 < left
          · by_cases h2 : B = []
            · exact .inr (.inl (by rw [h2]; rfl))
            · by_cases h3 : S = []
              · exact .inr (.inr (by rw [h3]; rfl))
              · exact absurd ⟨h1, h2, h3⟩ hg
          · exact .inl (by omega)
        generalize smW B = x at *
        generalize smW S = y at *
        unfold mn2
        split <;> split at * <;> omega
      rw [e, clW_zero i hB, clW_zero i hS]
      exact ⟨rfl, rfl, rfl, fun f hf => by simp at hf⟩
theorem clW_non {i : Int} : ∀ {l : List Wn} {T : Int}, (∀ v ∈ l, v.id ≠ i) → clW i T l = 0
  | [], _, _ => rfl
  | v :: l, T, h => by
    simp only [clW, if_neg (h v List.mem_cons_self), clW_non (l := l) fun x hx => h x (List.mem_cons_of_mem _ hx)]
    rfl
theorem clW_bd {l : List Wn} (h : okQ l) (hn : (l.map (·.id)).Nodup) : ∀ {T : Int} {v : Wn}, 0 ≤ T → v ∈ l → 0 ≤ clW v.id T l ∧ clW v.id T l ≤ v.q := by
  induction l with
  | nil => intro T v _ hv; simp at hv
  | cons w l ih =>
    intro T v h0 hv
    have hq := h w List.mem_cons_self
    have hl : okQ l := fun x hx => h x (List.mem_cons_of_mem _ hx)
    simp only [List.map_cons, List.nodup_cons] at hn
    have a1 := mn2_le1 T w.q
    have a2 := mn2_le2 T w.q
    have a3 := mn2_or T w.q
    rcases List.mem_cons.1 hv with rfl | hv
    · have : clW v.id (T - mn2 T v.q) l = 0 := clW_non fun x hx e => hn.1 (List.mem_map.2 ⟨x, hx, e⟩)
      simp only [clW, if_true, this]
      omega
    · have hne : ¬ w.id = v.id := fun e => hn.1 (List.mem_map.2 ⟨v, hv, e.symm⟩)
      have := ih hl hn.2 (T := T - mn2 T w.q) (v := v) (by omega) hv
      simp only [clW, if_neg hne]
      omega
/-- Nobody who gets something stands behind one of whom something is left. -/
theorem clW_fair {R : Wn → Wn → Prop} {l : List Wn} (h : okQ l) (hn : (l.map (·.id)).Nodup) (hR : l.Pairwise R) : ∀ {T : Int} {u v : Wn}, 0 ≤ T → u ∈ l → v ∈ l → 0 < clW u.id T l → clW v.id T l < v.q → u = v ∨ R u v := by
  induction l with
  | nil => intro T u v _ hu; simp at hu
  | cons w l ih =>
    intro T u v h0 hu hv hgu hgv
    have hq := h w List.mem_cons_self
    have hl : okQ l := fun x hx => h x (List.mem_cons_of_mem _ hx)
    simp only [List.map_cons, List.nodup_cons] at hn
    rw [List.pairwise_cons] at hR
    have a1 := mn2_le1 T w.q
    have a3 := mn2_or T w.q
    rcases List.mem_cons.1 hu with rfl | hu
    · rcases List.mem_cons.1 hv with rfl | hv
      · exact .inl rfl
      · exact .inr (hR.1 v hv)
    · have hne : ¬ w.id = u.id := fun e => hn.1 (List.mem_map.2 ⟨u, hu, e.symm⟩)
      simp only [clW, if_neg hne] at hgu
      have hT : T - mn2 T w.q ≠ 0 := fun e => by rw [e, clW_zero _ hl] at hgu; omega
      have hm : mn2 T w.q = w.q := a3.resolve_left (by omega)
      rcases List.mem_cons.1 hv with rfl | hv
      · exfalso
        have : clW v.id (T - mn2 T v.q) l = 0 := clW_non fun x hx e => hn.1 (List.mem_map.2 ⟨x, hx, e⟩)
        rw [hm] at this
        simp only [clW, if_true, hm, this] at hgv
        omega
      · have hne' : ¬ w.id = v.id := fun e => hn.1 (List.mem_map.2 ⟨v, hv, e.symm⟩)
        simp only [clW, if_neg hne'] at hgv
        exact ih hl hn.2 hR.2 (T := T - mn2 T w.q) (by omega) hu hv (by omega) (by omega)
theorem tw_mem {R : Wn → Wn → Prop} {A : Wn → Bool} (hA : ∀ a b, R a b → A b = true → A a = true) : ∀ {l : List Wn}, l.Pairwise R → ∀ {v : Wn}, v ∈ l.takeWhile A ↔ v ∈ l ∧ A v = true
  | [], _, v => by simp
  | w :: l, h, v => by
    rw [List.pairwise_cons] at h
    cases e : A w with
    | true =>
      simp only [List.takeWhile, e, List.mem_cons, tw_mem hA h.2]
      constructor
      · rintro (rfl | ⟨h1, h2⟩)
        · exact ⟨.inl rfl, e⟩
        · exact ⟨.inr h1, h2⟩
      · rintro ⟨rfl | h1, h2⟩
        · exact .inl rfl
        · exact .inr ⟨h1, h2⟩
    | false =>
      simp only [List.takeWhile, e, List.not_mem_nil, false_iff, List.mem_cons]
      rintro ⟨rfl | h1, h2⟩
      · rw [e] at h2; cases h2
      · rw [hA w v (h.1 v h1) h2] at e; cases e
theorem tw_sum {R : Wn → Wn → Prop} {A : Wn → Bool} (hA : ∀ a b, R a b → A b = true → A a = true) : ∀ {l : List Wn}, l.Pairwise R → smW (l.takeWhile A) = sumW A l
  | [], _ => rfl
  | w :: l, h => by
    rw [List.pairwise_cons] at h
    cases e : A w with
    | true => simp only [List.takeWhile, e, smW, sumW, if_true, tw_sum hA h.2]
    | false =>
      have hz : ∀ {m : List Wn}, (∀ v ∈ m, A v = false) → sumW A m = 0 := fun {m} => by
        induction m with
        | nil => intro _; rfl
        | cons x m ih =>
          intro hm
          simp only [sumW, hm x List.mem_cons_self, ih fun v hv => hm v (List.mem_cons_of_mem _ hv)]
          simp
      have := hz (m := l) fun v hv => by
        cases e2 : A v with
        | false => rfl
        | true => rw [hA w v (h.1 v hv) e2] at e; cases e
      simp only [List.takeWhile, e, smW, sumW, this]
      simp
/-! ### What the law asks. -/
def wG (o : Od) : Wn := ⟨o.id, decide (o.ty = 2), o.pr, o.qt⟩
theorem wnO_G {o : Od} (h : Gd o) : wnO o = some (wG o) := by
  have h1 := h.qt
  have h2 := h.pr
  unfold wnO wG
  rw [if_neg (by omega)]
  by_cases e : o.ty = 2
  · rw [if_pos e, h.ty.1 e, decide_eq_true e]
  · have : o.pr ≠ 0 := fun k => e (h.ty.2 k)
    rw [if_neg e, if_pos (by omega), decide_eq_false e]
theorem wns_map : ∀ {l : List Od}, (∀ o ∈ l, Gd o) → wns l = l.map wG
  | [], _ => rfl
  | o :: l, h => by
    have := wns_map (l := l) fun x hx => h x (List.mem_cons_of_mem _ hx)
    unfold wns at *
    rw [List.filterMap_cons, wnO_G (h o List.mem_cons_self), this, List.map_cons]
theorem gd_q {l : List Od} (h : ∀ o ∈ l, Gd o) : okQ (l.map wG) := fun v hv => by
  obtain ⟨o, ho, rfl⟩ := List.mem_map.1 hv
  have := (h o ho).qt
  show 1 ≤ o.qt ∧ o.qt ≤ 1000000
  omega
def betR (buy : Bool) (a b : Od) : Bool := if a.ty = 2 ∨ b.ty = 2 then decide (a.ty = 2 ∧ (b.ty ≠ 2 ∨ a.id < b.id)) else if a.pr ≠ b.pr then (decide (b.pr < a.pr) == buy) else decide (a.id < b.id)
def suitF (buy : Bool) (p : Int) (o : Od) : Bool := decide (o.ty = 2) || (if buy = true then decide (p ≤ o.pr) else decide (o.pr ≤ p))
structure FairP (buy : Bool) (p : Int) (l : List Od) (F : List Fl) : Prop where
  le : ∀ o ∈ l, gotF buy o.id F ≤ o.qt
  suit : ∀ o ∈ l, 0 < gotF buy o.id F → suitF buy p o = true
  first : ∀ o ∈ l, ∀ o' ∈ l, gotF buy o.id F ≠ o.qt → suitF buy p o = true → betR buy o o' = true → ¬ 0 < gotF buy o'.id F
theorem FairP.nil (buy : Bool) (p : Int) {l : List Od} (h : ∀ o ∈ l, Gd o) : FairP buy p l [] := ⟨fun o ho => by have := (h o ho).qt; show 0 ≤ o.qt; omega, fun o ho h => absurd h (Int.lt_irrefl 0), fun o _ o' _ _ _ _ h => absurd h (Int.lt_irrefl 0)⟩
theorem bet_B {a b : Od} (ha : Gd a) (hb : Gd b) (h : betR true a b = true) : ¬ leB (wG b) (wG a) := by
  have p1 := ha.ty
  have p2 := hb.ty
  unfold betR at h
  unfold leB wG
  simp only [decide_eq_true_eq, decide_eq_false_iff_not, decide_eq_decide]
  by_cases e : a.ty = 2 ∨ b.ty = 2
  · rw [if_pos e] at h
    have h := of_decide_eq_true h
    omega
  · rw [if_neg e] at h
    by_cases e2 : a.pr ≠ b.pr
    · rw [if_pos e2] at h
      have h : b.pr < a.pr := by simpa using h
      omega
    · rw [if_neg e2] at h
      have h := of_decide_eq_true h
      omega
theorem bet_S {a b : Od} (ha : Gd a) (hb : Gd b) (h : betR false a b = true) : ¬ leS (wG b) (wG a) := by
  have p1 := ha.ty
  have p2 := hb.ty
  unfold betR at h
  unfold leS wG
  simp only [decide_eq_true_eq, decide_eq_false_iff_not, decide_eq_decide]
  by_cases e : a.ty = 2 ∨ b.ty = 2
  · rw [if_pos e] at h
    have h := of_decide_eq_true h
    omega
  · rw [if_neg e] at h
    by_cases e2 : a.pr ≠ b.pr
    · rw [if_pos e2] at h
      have h : ¬ b.pr < a.pr := by simpa using h
      omega
    · rw [if_neg e2] at h
      have h := of_decide_eq_true h
      omega
/-- One side. -/
theorem fair_side {buy : Bool} {p : Int} {R : Wn → Wn → Prop} {A : Wn → Bool} {l : List Od} {B : List Wn} {F : List Fl} {T : Int} (hg : ∀ o ∈ l, Gd o) (hn : (l.map (·.id)).Nodup) (hp : B.Perm (l.map wG)) (hs : B.Pairwise R) (hA : ∀ a b, R a b → A b = true → A a = true) (hsu : ∀ o, suitF buy p o = A (wG o)) (hbe : ∀ a ∈ l, ∀ b ∈ l, betR buy a b = true → ¬ R (wG b) (wG a)) (hre : ∀ v, R v v) (h0 : 0 ≤ T) (hF : ∀ i, gotF buy i F = clW i T (B.takeWhile A)) : FairP buy p l F := by
  have hq : okQ (B.takeWhile A) := fun v hv => gd_q hg v (hp.mem_iff.1 (List.takeWhile_prefix A |>.subset hv))
  have hnB : (B.map (·.id)).Nodup := by
    refine (hp.map _).nodup_iff.2 ?_
    rw [List.map_map]
    exact hn
  have hnd : ((B.takeWhile A).map (·.id)).Nodup := hnB.sublist ((List.takeWhile_prefix A).sublist.map _)
  have hsr : (B.takeWhile A).Pairwise R := hs.sublist (List.takeWhile_prefix A).sublist
  have hin : ∀ o ∈ l, wG o ∈ B := fun o ho => hp.mem_iff.2 (List.mem_map.2 ⟨o, ho, rfl⟩)
  have same : ∀ o ∈ l, ∀ v ∈ B, v.id = o.id → v = wG o := fun o ho v hv e => by
    have inj : ∀ {m : List Wn}, (m.map (·.id)).Nodup → ∀ x ∈ m, ∀ y ∈ m, x.id = y.id → x = y := fun {m} => by
      induction m with
      | nil => intro _ x hx; simp at hx
      | cons z m ih =>
        intro hn x hx y hy e
        simp only [List.map_cons, List.nodup_cons] at hn
        rcases List.mem_cons.1 hx with rfl | hx <;> rcases List.mem_cons.1 hy with rfl | hy
        · rfl
        · exact absurd (List.mem_map.2 ⟨y, by assumption, e.symm⟩ : _ ∈ List.map (fun v : Wn => v.id) _) hn.1
        · exact absurd (List.mem_map.2 ⟨x, by assumption, e⟩ : _ ∈ List.map (fun v : Wn => v.id) _) hn.1
        · exact ih hn.2 x hx y hy e
    exact inj hnB v hv (wG o) (hin o ho) e
  have pos : ∀ o ∈ l, 0 < gotF buy o.id F → wG o ∈ B.takeWhile A := fun o ho hgt => by
    by_cases hex : ∃ v ∈ B.takeWhile A, v.id = o.id
    · obtain ⟨v, hv, e⟩ := hex
      rw [← same o ho v (List.takeWhile_prefix A |>.subset hv) e]
      exact hv
    · rw [hF, clW_non fun v hv e => hex ⟨v, hv, e⟩] at hgt
      omega
  refine ⟨fun o ho => ?_, fun o ho hgt => ?_, fun o ho o' ho' hne hsu' hbt hgt => ?_⟩
  · by_cases hgt : 0 < gotF buy o.id F
    · have := (clW_bd hq hnd h0 (pos o ho hgt)).2
      rw [hF]
      exact this
    · have := (hg o ho).qt
      omega
  · rw [hsu]
    exact ((tw_mem hA hs).1 (pos o ho hgt)).2
  · have m' := pos o' ho' hgt
    have m : wG o ∈ B.takeWhile A := (tw_mem hA hs).2 ⟨hin o ho, by rw [← hsu]; exact hsu'⟩
    have hle := (clW_bd hq hnd h0 m).2
    rw [hF] at hgt hne
    have hlt : clW (wG o).id T (B.takeWhile A) < (wG o).q := by
      have hne' : clW (wG o).id T (B.takeWhile A) ≠ (wG o).q := hne
      omega
    rcases clW_fair hq hnd hsr h0 m' m hgt hlt with e | e
    · exact hbe o ho o' ho' hbt (e ▸ hre _)
    · exact hbe o ho o' ho' hbt e
theorem leB_re (v : Wn) : leB v v := .inr ⟨rfl, .inr ⟨rfl, Int.le_refl _⟩⟩
theorem leS_re (v : Wn) : leS v v := .inr ⟨rfl, .inr ⟨rfl, Int.le_refl _⟩⟩
/-- All that the law asks of the fills of its own result. -/
structure FairA (b s : List Od) (r : Rs) (F : List Fl) : Prop where
  one : FairP true r.price b F
  two : FairP false r.price s F
  tot : totF F = r.qty
  each : ∀ f ∈ F, 1 ≤ f.q ∧ f.q ≤ 1000000 ∧ f.p = r.price
theorem fair_of {b s : List Od} {r : Rs} {F : List Fl} {ref : Int} (hb : ∀ o ∈ b, Gd o) (hs : ∀ o ∈ s, Gd o) (nb : (b.map (·.id)).Nodup) (ns : (s.map (·.id)).Nodup) (ha : Ans b s ref r) (h0 : 0 ≤ r.qty) (hpr : r.price ≤ 1000000000) (h : FV b s r F) : FairA b s r F := by
  rcases h with ⟨h1, rfl⟩ | ⟨h1, h2, B, S, h3, rfl⟩
  · refine ⟨FairP.nil _ _ hb, FairP.nil _ _ hs, ?_, fun f hf => by simp at hf⟩
    show 0 = r.qty
    have := ha.iff
    omega
  · have eb := wns_map hb
    have es := wns_map hs
    have hpb := h3.pb
    have hps := h3.ps
    rw [eb] at hpb
    rw [es] at hps
    have qB : okQ (B.takeWhile (atB r.price)) := fun v hv => gd_q hb v (hpb.mem_iff.1 (List.takeWhile_prefix _ |>.subset hv))
    have qS : okQ (S.takeWhile (atS r.price)) := fun v hv => gd_q hs v (hps.mem_iff.1 (List.takeWhile_prefix _ |>.subset hv))
    have hAB : ∀ a b, leB a b → atB r.price b = true → atB r.price a = true := fun a b h k => leB_at h k
    have hAS : ∀ a b, leS a b → atS r.price b = true → atS r.price a = true := fun a b h k => leS_at h k
    have sB : smW (B.takeWhile (atB r.price)) = bo (wns b) r.price := (tw_sum hAB h3.sb).trans (sumW_perm h3.pb)
    have sS : smW (S.takeWhile (atS r.price)) = so (wns s) r.price := (tw_sum hAS h3.ss).trans (sumW_perm h3.ps)
    have key := fun i => fills_got r.price i ((B.takeWhile (atB r.price)).length + (S.takeWhile (atS r.price)).length) qB qS h0 (.inr (Nat.le_refl _))
    have htr := (ha.at' (by omega)).1
    have eT : mn2 r.qty (mn2 (smW (B.takeWhile (atB r.price))) (smW (S.takeWhile (atS r.price)))) = r.qty := by
      rw [sB, sS, ← htr]
      unfold tr mn2
      split <;> split <;> omega
    rw [eT] at key
    refine ⟨?_, ?_, (key 0).2.2.1, (key 0).2.2.2⟩
    · exact fair_side hb nb hpb h3.sb hAB (fun o => rfl) (fun a ha' c hc k => bet_B (hb a ha') (hb c hc) k) leB_re h0 fun i => (key i).1
    · exact fair_side hs ns hps h3.ss hAS (fun o => rfl) (fun a ha' c hc k => bet_S (hs a ha') (hs c hc) k) leS_re h0 fun i => (key i).2.1
/-- Rows in order of alike lists are one row. -/
theorem rows_one {b b' s s' : List Od} {B B' S S' : List Wn} (hb : ∀ o ∈ b, Gd o) (hs : ∀ o ∈ s, Gd o) (nb : (b.map (·.id)).Nodup) (ns : (s.map (·.id)).Nodup) (pb : b'.Perm b) (ps : s'.Perm s) (h : Rws b s B S) (h' : Rws b' s' B' S') : B' = B ∧ S' = S := by
  have inj : ∀ {m : List Wn}, (m.map (·.id)).Nodup → ∀ x ∈ m, ∀ y ∈ m, x.id = y.id → x = y := fun {m} => by
    induction m with
    | nil => intro _ x hx; simp at hx
    | cons z m ih =>
      intro hn x hx y hy e
      simp only [List.map_cons, List.nodup_cons] at hn
      rcases List.mem_cons.1 hx with rfl | hx <;> rcases List.mem_cons.1 hy with rfl | hy
      · rfl
      · exact absurd (List.mem_map.2 ⟨y, by assumption, e.symm⟩ : _ ∈ List.map (fun v : Wn => v.id) _) hn.1
      · exact absurd (List.mem_map.2 ⟨x, by assumption, e⟩ : _ ∈ List.map (fun v : Wn => v.id) _) hn.1
      · exact ih hn.2 x hx y hy e
  have pB : B'.Perm B := (h'.pb.trans (pb.filterMap _)).trans h.pb.symm
  have pS : S'.Perm S := (h'.ps.trans (ps.filterMap _)).trans h.ps.symm
  have nB : (B'.map (·.id)).Nodup := by
    refine ((pB.trans h.pb).map _).nodup_iff.2 ?_
    rw [wns_map hb, List.map_map]
    exact nb
  have nS : (S'.map (·.id)).Nodup := by
    refine ((pS.trans h.ps).map _).nodup_iff.2 ?_
    rw [wns_map hs, List.map_map]
    exact ns
  refine ⟨pB.eq_of_pairwise (le := leB) (fun x y hx hy h1 h2 => ?_) h'.sb h.sb, pS.eq_of_pairwise (le := leS) (fun x y hx hy h1 h2 => ?_) h'.ss h.ss⟩
  · refine inj nB x hx y (pB.mem_iff.2 hy) ?_
    rcases h1 with ⟨k1, k2⟩ | ⟨k1, k2⟩ <;> rcases h2 with ⟨k3, k4⟩ | ⟨k3, k4⟩
    · rw [k1] at k4; cases k4
    · rw [k1, k2] at k3; cases k3
    · rw [k3, k4] at k1; cases k1
    · omega
  · refine inj nS x hx y (pS.mem_iff.2 hy) ?_
    rcases h1 with ⟨k1, k2⟩ | ⟨k1, k2⟩ <;> rcases h2 with ⟨k3, k4⟩ | ⟨k3, k4⟩
    · rw [k1] at k4; cases k4
    · rw [k1, k2] at k3; cases k3
    · rw [k3, k4] at k1; cases k1
    · omega
theorem FV_one {b b' s s' : List Od} {r : Rs} {F F' : List Fl} (hb : ∀ o ∈ b, Gd o) (hs : ∀ o ∈ s, Gd o) (nb : (b.map (·.id)).Nodup) (ns : (s.map (·.id)).Nodup) (pb : b'.Perm b) (ps : s'.Perm s) (h : FV b s r F) (h' : FV b' s' r F') : F' = F := by
  rcases h with ⟨h1, rfl⟩ | ⟨h1, h2, B, S, h3, rfl⟩
  · rcases h' with ⟨_, rfl⟩ | ⟨k1, k2, _⟩
    · rfl
    · exfalso; omega
  · rcases h' with ⟨k1, _⟩ | ⟨k1, k2, B', S', h4, rfl⟩
    · exfalso; omega
    · obtain ⟨rfl, rfl⟩ := rows_one hb hs nb ns pb ps h3 h4
      rfl
theorem odsL_ids : ∀ (l : List Rw) (f : Int), (∀ i ∈ (odsL f l).map (·.id), f ≤ i) ∧ ((odsL f l).map (·.id)).Nodup
  | [], _ => ⟨fun i h => by simp [odsL] at h, by simp [odsL]⟩
  | r :: l, f => by
    obtain ⟨h1, h2⟩ := odsL_ids l (f + 1)
    have e : (odR f r).id = f := rfl
    simp only [odsL, List.map_cons, e, List.nodup_cons]
    refine ⟨fun i hi => ?_, fun hi => ?_, h2⟩
    · rcases List.mem_cons.1 hi with rfl | hi
      · exact Int.le_refl _
      · have := h1 i hi; omega
    · have := h1 f hi
      omega
end Go.Proofs.Ytbhddfcdnpidkaa
