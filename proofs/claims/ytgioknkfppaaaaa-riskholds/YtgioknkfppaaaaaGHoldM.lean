/-
  risk: what is open, and a position, never above their limits (plain).
-/
import Derived.Test.YtgioknkfppaaaaaGShown
namespace Go.Proofs.Ytgioknkfppaaaaa
set_option linter.unusedVariables false
set_option linter.unusedSimpArgs false

structure Od where
  id : Int
  sd : Int
  pr : Int
  q : Int
def Od.o (x : Od) : Ord := ordO x.id x.sd x.pr x.q
def Od.oo (x : Od) : Oo := x.o.oo 0
theorem Od.val {x : Od} (h : 1 ≤ x.pr) : valI x.o 0 = x.q * x.pr := by
  unfold valI Od.o ordO
  simp only
  rw [if_neg (by omega)]
def sumL : List Od → Int
  | [] => 0
  | x :: l => x.q * x.pr + sumL l
def sdQ (s : Int) : List Od → Int
  | [] => 0
  | x :: l => (if x.sd = s then x.q else 0) + sdQ s l
theorem sumL_app (a b : List Od) : sumL (a ++ b) = sumL a + sumL b := by
  induction a with
  | nil => simp [sumL]
  | cons x t ih => simp only [List.cons_append, sumL, ih]; omega
theorem sdQ_app (s : Int) (a b : List Od) : sdQ s (a ++ b) = sdQ s a + sdQ s b := by
  induction a with
  | nil => simp [sdQ]
  | cons x t ih => simp only [List.cons_append, sdQ, ih]; omega
structure Od.ok (N : Nat) (x : Od) : Prop where
  i0 : 1 ≤ x.id
  i1 : x.id ≤ N
  sd : x.sd = 1 ∨ x.sd = 2
  p0 : 1 ≤ x.pr
  p1 : x.pr ≤ 50
  q0 : 1 ≤ x.q
  q1 : x.q ≤ 60
theorem mul_small {x : Od} {N : Nat} (h : x.ok N) : 1 ≤ x.q * x.pr ∧ x.q * x.pr ≤ 3000 := by
  have h1 := h.p0; have h2 := h.p1; have h3 := h.q0; have h4 := h.q1
  constructor
  · have := Int.mul_le_mul_of_nonneg_right h3 (show 0 ≤ x.pr by omega)
    rw [Int.one_mul] at this; omega
  · exact Int.le_trans (Int.mul_le_mul h4 h2 (by omega) (by omega)) (by decide)
theorem sumL_nonneg {N : Nat} : ∀ {l : List Od}, (∀ x ∈ l, Od.ok N x) → 0 ≤ sumL l
  | [], _ => Int.le_refl _
  | x :: l, h => by
    have h1 := mul_small (h x List.mem_cons_self)
    have h2 := sumL_nonneg (l := l) fun y hy => h y (List.mem_cons_of_mem _ hy)
    simp only [sumL]; omega
theorem sdQ_nonneg {N : Nat} (s : Int) : ∀ {l : List Od}, (∀ x ∈ l, Od.ok N x) → 0 ≤ sdQ s l
  | [], _ => Int.le_refl _
  | x :: l, h => by
    have h1 := (h x List.mem_cons_self).q0
    have h2 := sdQ_nonneg s (l := l) fun y hy => h y (List.mem_cons_of_mem _ hy)
    simp only [sdQ]; split <;> omega
/-- Where the deeds have led. -/
structure HM (op po : Int) (N : Nat) (l : List Od) (O : List Oo) (has : Int) : Prop where
  perm : O.Perm (l.map Od.oo)
  ids : l.Pairwise fun x y => x.id ≠ y.id
  each : ∀ x ∈ l, Od.ok N x
  opn : sumL l ≤ op
  buy : has + sdQ 1 l ≤ po
  sell : -has + sdQ 2 l ≤ po
theorem HM.start {op po : Int} (h1 : 0 ≤ op) (h2 : 0 ≤ po) : HM op po 0 [] [] 0 := ⟨List.Perm.refl _, List.Pairwise.nil, fun x hx => (List.not_mem_nil hx).elim, h1, by simpa [sdQ] using h2, by simpa [sdQ] using h2⟩
theorem Od.ok.mono {N M : Nat} {x : Od} (h : x.ok N) (hm : N ≤ M) : x.ok M := ⟨h.i0, by have := h.i1; omega, h.sd, h.p0, h.p1, h.q0, h.q1⟩
theorem HM.mono {op po has : Int} {N M : Nat} {l : List Od} {O : List Oo} (h : HM op po N l O has) (hm : N ≤ M) : HM op po M l O has := ⟨h.perm, h.ids, fun x hx => (h.each x hx).mono hm, h.opn, h.buy, h.sell⟩
theorem sumV_od : ∀ {N : Nat} {l : List Od}, (∀ x ∈ l, Od.ok N x) → sumV (l.map Od.oo) = sumL l
  | _, [], _ => rfl
  | N, x :: l, h => by
    rw [List.map_cons, sumV_cons, sumV_od (N := N) fun y hy => h y (List.mem_cons_of_mem _ hy)]
    show valI x.o 0 + _ = _
    rw [Od.val (h x List.mem_cons_self).p0]; rfl
/-- All are of the account A, and of X. -/
theorem ovL_od (l : List Od) (but : Int) (h : ∀ x ∈ l, x.id ≠ but) : ovL (l.map Od.oo) sA but = l.map Od.oo := by
  unfold ovL
  rw [List.filter_eq_self]
  intro y hy
  obtain ⟨x, hx, rfl⟩ := List.mem_map.1 hy
  have : (x.oo.id == but) = false := by rw [beq_eq_false_iff_ne]; exact h x hx
  rw [this]
  show (!false && (sA.toList == sA.toList)) = true
  rw [str_self]; rfl
theorem HM.ov {op po has : Int} {N : Nat} {l : List Od} {O : List Oo} (h : HM op po N l O has) (hop : op ≤ 5000) (but : Int) (hb : ∀ x ∈ l, x.id ≠ but) : ovI O sA but = sumL l := by
  unfold ovI
  rw [sumV_perm (ovL_perm h.perm sA but), ovL_od l but hb, sumV_od h.each]
  have := h.opn
  omega
theorem rcQ : ∀ {l : List Od} {o : Ord}, o.ac = sA → o.sy = sX → (∀ x ∈ l, x.id ≠ o.id) → sumQ (rcL (l.map Od.oo) o) = sdQ o.sd l
  | [], _, _, _, _ => rfl
  | x :: l, o, h1, h2, h => by
    have ih := rcQ (l := l) h1 h2 fun y hy => h y (List.mem_cons_of_mem _ hy)
    have hx : (x.oo.id == o.id) = false := by rw [beq_eq_false_iff_ne]; exact h x List.mem_cons_self
    have e : rcC o x.oo = (x.sd == o.sd) := by
      unfold rcC
      rw [hx]
      show (((!false && (sA.toList == o.ac.toList)) && (sX.toList == o.sy.toList)) && _) = _
      rw [h1, h2, str_self, str_self]; rfl
    rw [List.map_cons, show x.oo :: l.map Od.oo = [x.oo] ++ l.map Od.oo from rfl, rcL_app, sumQ_app, ih, rcL_one, e]
    simp only [sdQ]
    by_cases hs : x.sd = o.sd
    · rw [if_pos (by simp [hs]), if_pos hs, sumQ_cons]
      show x.q + sumQ [] + _ = _
      simp [sumQ]
    · rw [if_neg (by simp [hs]), if_neg hs]; simp [sumQ]
theorem HM.rc {op po has : Int} {N : Nat} {l : List Od} {O : List Oo} (h : HM op po N l O has) {o : Ord} (h1 : o.ac = sA) (h2 : o.sy = sX) (h3 : ∀ x ∈ l, x.id ≠ o.id) : sumQ (rcL O o) = sdQ o.sd l := by
  rw [sumQ_perm (rcL_perm h.perm o)]; exact rcQ h1 h2 h3
theorem doO_new {O : List Oo} {id : Int} (h : ∀ x ∈ O, x.id ≠ id) : doO O id = O := by
  unfold doO
  rw [List.filter_eq_self]
  intro x hx
  have : (x.id == id) = false := by rw [beq_eq_false_iff_ne]; exact h x hx
  rw [this]; rfl
/-- An order that was checked comes. -/
theorem HM.more {op po has : Int} {N : Nat} {l : List Od} {O : List Oo} (h : HM op po N l O has) (o0 : 1 ≤ op) (o1 : op ≤ 5000) (p0 : 1 ≤ po) (p1 : po ≤ 200) {x : Od} (hid : x.id = (N : Int) + 1) (hx : x.ok (N + 1)) {a : Ac} (ha1 : a.op = op) (ha2 : a.po = po) (hpos : posI a sX = has)
    (hc : abB a O x.o (valI x.o 0) = false) : HM op po (N + 1) (l ++ [x]) (x.oo :: doO O x.id) has := by
  have hnew : ∀ y ∈ l, y.id ≠ x.id := fun y hy => by have := (h.each y hy).i1; omega
  have hnO : ∀ y ∈ O, y.id ≠ x.id := fun y hy => by
    obtain ⟨z, hz, rfl⟩ := List.mem_map.1 (h.perm.mem_iff.1 hy)
    exact hnew z hz
  have hv := Od.val hx.p0
  have hm := mul_small hx
  unfold abB at hc
  rw [show ovI O x.o.ac x.o.id = sumL l from h.ov o1 x.id hnew, hv, ha1, ha2] at hc
  have hrc : rcI a O x.o = clI ((if x.sd = 2 then -has else has) + min (sdQ x.sd l) 1000000000000000000) := by
    unfold rcI
    rw [show x.o.sd = x.sd from rfl, show x.o.sy = sX from rfl, hpos, h.rc (o := x.o) rfl rfl hnew]; rfl
  rw [hrc] at hc
  simp only [Bool.or_eq_false_iff, Bool.and_eq_false_iff, Bool.not_eq_false', beq_iff_eq, decide_eq_false_iff_not] at hc
  obtain ⟨⟨_, hc1⟩, hc2⟩ := hc
  have hs0 := sumL_nonneg h.each
  have b0 := sdQ_nonneg 1 h.each
  have b1 := sdQ_nonneg 2 h.each
  have hb := h.buy
  have hsl := h.sell
  have hop := h.opn
  have e1 : sumL l + x.q * x.pr ≤ op := by
    rcases hc1 with hc1 | hc1
    · omega
    · unfold clI at hc1
      generalize x.q * x.pr = V at *
      omega
  have hq := hx.q0
  have hq1 := hx.q1
  have hqq : x.o.q = x.q := rfl
  rw [hqq] at hc2
  refine ⟨?_, ?_, ?_, ?_, ?_, ?_⟩
  · rw [doO_new hnO, List.map_append]
    exact (List.Perm.cons _ h.perm).trans (List.perm_append_singleton _ _).symm
  · refine List.pairwise_append.2 ⟨h.ids, List.pairwise_singleton _ _, fun y hy z hz => ?_⟩
    rw [List.mem_singleton.1 hz]; exact hnew y hy
  · intro y hy
    rcases List.mem_append.1 hy with hy | hy
    · exact (h.each y hy).mono (Nat.le_succ _)
    · rw [List.mem_singleton.1 hy]; exact hx
  · rw [sumL_app]; simp only [sumL]; omega
  · rw [sdQ_app]; simp only [sdQ]
    rcases hx.sd with hsd | hsd
    · rw [if_pos hsd]
      rw [hsd] at hc2
      simp only [show (1 : Int) ≠ 2 by decide, if_false] at hc2
      rcases hc2 with hc2 | hc2
      · omega
      · unfold clI at hc2; omega
    · rw [if_neg (by omega)]; omega
  · rw [sdQ_app]; simp only [sdQ]
    rcases hx.sd with hsd | hsd
    · rw [if_neg (by omega)]; omega
    · rw [if_pos hsd]
      rw [hsd] at hc2
      simp only [if_true] at hc2
      rcases hc2 with hc2 | hc2
      · omega
      · unfold clI at hc2; omega
theorem doO_mid {O : List Oo} {l1 l2 : List Od} {x : Od} (hp : O.Perm ((l1 ++ x :: l2).map Od.oo)) (hi : (l1 ++ x :: l2).Pairwise fun x y => x.id ≠ y.id) : (doO O x.id).Perm ((l1 ++ l2).map Od.oo) := by
  have hf := hp.filter fun y => !(y.id == x.id)
  obtain ⟨h1, h2, h3⟩ := List.pairwise_append.1 hi
  obtain ⟨h4, h5⟩ := List.pairwise_cons.1 h2
  rw [List.map_append, List.map_cons, List.filter_append, List.filter_cons] at hf
  have e0 : (!(x.oo.id == x.id)) = false := by
    show (!(x.id == x.id)) = false
    simp
  rw [e0] at hf
  simp only [Bool.false_eq_true, if_false] at hf
  have k1 : (l1.map Od.oo).filter (fun y => !(y.id == x.id)) = l1.map Od.oo := by
    rw [List.filter_eq_self]
    intro y hy
    obtain ⟨z, hz, rfl⟩ := List.mem_map.1 hy
    have : (z.oo.id == x.id) = false := by rw [beq_eq_false_iff_ne]; exact h3 z hz x List.mem_cons_self
    rw [this]; rfl
  have k2 : (l2.map Od.oo).filter (fun y => !(y.id == x.id)) = l2.map Od.oo := by
    rw [List.filter_eq_self]
    intro y hy
    obtain ⟨z, hz, rfl⟩ := List.mem_map.1 hy
    have : (z.oo.id == x.id) = false := by rw [beq_eq_false_iff_ne]; exact fun e => h4 z hz e.symm
    rw [this]; rfl
  rw [k1, k2, ← List.map_append] at hf
  exact hf
/-- What a deed takes away: d of the order's quantity; n is what was bought by it. -/
def trN (x : Od) (d : Int) (tr : Bool) : Int := if tr then (if x.sd = 2 then -d else d) else 0
theorem HM.gone {op po has : Int} {N : Nat} {l1 l2 : List Od} {x : Od} {O : List Oo} (h : HM op po N (l1 ++ x :: l2) O has) (tr : Bool) : HM op po N (l1 ++ l2) (doO O x.id) (has + trN x x.q tr) := by
  have hx := h.each x (List.mem_append_right _ List.mem_cons_self)
  have hm := mul_small hx
  have hb := h.buy; have hs := h.sell; have ho := h.opn
  rw [sdQ_app] at hb hs
  rw [sumL_app] at ho
  simp only [sdQ, sumL] at hb hs ho
  have hq := hx.q0
  refine ⟨doO_mid h.perm h.ids, ?_, fun y hy => h.each y ?_, ?_, ?_, ?_⟩
  · obtain ⟨h1, h2, h3⟩ := List.pairwise_append.1 h.ids
    exact List.pairwise_append.2 ⟨h1, (List.pairwise_cons.1 h2).2, fun a ha b hb => h3 a ha b (List.mem_cons_of_mem _ hb)⟩
  · rcases List.mem_append.1 hy with hy | hy
    · exact List.mem_append_left _ hy
    · exact List.mem_append_right _ (List.mem_cons_of_mem _ hy)
  · rw [sumL_app]; omega
  · rw [sdQ_app]
    unfold trN
    rcases hx.sd with hsd | hsd
    · rw [if_pos hsd] at hb
      rw [if_neg (by omega : ¬ x.sd = 2)]
      cases tr <;> simp <;> omega
    · rw [if_neg (by omega)] at hb
      rw [if_pos hsd]
      cases tr <;> simp <;> omega
  · rw [sdQ_app]
    unfold trN
    rcases hx.sd with hsd | hsd
    · rw [if_neg (by omega)] at hs
      rw [if_neg (by omega : ¬ x.sd = 2)]
      cases tr <;> simp <;> omega
    · rw [if_pos hsd] at hs
      rw [if_pos hsd]
      cases tr <;> simp <;> omega
theorem HM.less {op po has : Int} {N : Nat} {l1 l2 : List Od} {x : Od} {O : List Oo} (h : HM op po N (l1 ++ x :: l2) O has) {d : Int} (d0 : 1 ≤ d) (d1 : d < x.q) (tr : Bool) : HM op po N (l1 ++ { x with q := x.q - d } :: l2) (Od.oo { x with q := x.q - d } :: doO O x.id) (has + trN x d tr) := by
  have hx := h.each x (List.mem_append_right _ List.mem_cons_self)
  have hp := hx.p0
  have hb := h.buy; have hs := h.sell; have ho := h.opn
  rw [sdQ_app] at hb hs
  rw [sumL_app] at ho
  simp only [sdQ, sumL] at hb hs ho
  have hq := hx.q0
  have hq1 := hx.q1
  have hmul : (x.q - d) * x.pr ≤ x.q * x.pr := Int.mul_le_mul_of_nonneg_right (by omega) (by omega)
  refine ⟨?_, ?_, fun y hy => ?_, ?_, ?_, ?_⟩
  · refine (List.Perm.cons _ (doO_mid h.perm h.ids)).trans ?_
    rw [List.map_append, List.map_append, List.map_cons]
    exact List.perm_middle.symm
  · obtain ⟨h1, h2, h3⟩ := List.pairwise_append.1 h.ids
    obtain ⟨h4, h5⟩ := List.pairwise_cons.1 h2
    refine List.pairwise_append.2 ⟨h1, List.pairwise_cons.2 ⟨h4, h5⟩, fun a ha b hb => ?_⟩
    rcases List.mem_cons.1 hb with rfl | hb
    · exact h3 a ha x List.mem_cons_self
    · exact h3 a ha b (List.mem_cons_of_mem _ hb)
  · rcases List.mem_append.1 hy with hy | hy
    · exact h.each y (List.mem_append_left _ hy)
    · rcases List.mem_cons.1 hy with rfl | hy
      · exact ⟨hx.i0, hx.i1, hx.sd, hx.p0, hx.p1, by show 1 ≤ x.q - d; omega, by show x.q - d ≤ 60; omega⟩
      · exact h.each y (List.mem_append_right _ (List.mem_cons_of_mem _ hy))
  · rw [sumL_app]; simp only [sumL]; omega
  · rw [sdQ_app]; simp only [sdQ]
    unfold trN
    rcases hx.sd with hsd | hsd
    · simp only [hsd, if_true, show ¬ (1 : Int) = 2 by decide, if_false] at hb ⊢
      cases tr <;> simp <;> omega
    · simp only [hsd, if_true, show ¬ (2 : Int) = 1 by decide, if_false] at hb ⊢
      cases tr <;> simp <;> omega
  · rw [sdQ_app]; simp only [sdQ]
    unfold trN
    rcases hx.sd with hsd | hsd
    · simp only [hsd, if_true, show ¬ (1 : Int) = 2 by decide, if_false] at hs ⊢
      cases tr <;> simp <;> omega
    · simp only [hsd, if_true, show ¬ (2 : Int) = 1 by decide, if_false] at hs ⊢
      cases tr <;> simp <;> omega
/-- The account's position, of one instrument alone. -/
structure PosX (a : Ac) (has : Int) : Prop where
  pos : posI a sX = has
  len : a.pos.length ≤ 1
  all : ∀ p ∈ a.pos, p.1 = sX
theorem PosX.trade {a : Ac} {has n : Int} (h : PosX a has) (b0 : -1000 ≤ has ∧ has ≤ 1000) (n0 : -1000 ≤ n ∧ n ≤ 1000) : PosX { a with pos := mvL a sX n } (has + n) := by
  have hf : a.pos.filter (fun p => !(p.1.toList == sX.toList)) = [] := by
    rw [List.filter_eq_nil_iff]
    intro p hp
    rw [h.all p hp, str_self]; simp
  have hc : clI (has + n) = has + n := by unfold clI; omega
  have e : mvL a sX n = if has + n = 0 then [] else [(sX, has + n)] := by
    unfold mvL
    rw [h.pos, hc, hf]
  by_cases h0 : has + n = 0
  · rw [if_pos h0] at e
    refine ⟨?_, by show (mvL a sX n).length ≤ 1; rw [e]; decide, fun p hp => ?_⟩
    · unfold posI; simp only; rw [e, h0]; rfl
    · simp only at hp; rw [e] at hp; cases hp
  · rw [if_neg h0] at e
    refine ⟨?_, by show (mvL a sX n).length ≤ 1; rw [e]; exact Nat.le_refl _, fun p hp => ?_⟩
    · unfold posI; simp only; rw [e, List.find?_cons, str_self]; rfl
    · simp only at hp; rw [e] at hp; rw [List.mem_singleton.1 hp]
end Go.Proofs.Ytgioknkfppaaaaa
