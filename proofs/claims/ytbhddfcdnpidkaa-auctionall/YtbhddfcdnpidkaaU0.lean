/-
  auction, plain: who wants what, what is bought and sold at a price; no price trades more than the candidates do.
-/
import Derived.Test.YtbhddfcdnpidkaaPlain
namespace Go.Proofs.Ytbhddfcdnpidkaa
set_option linter.unusedVariables false

/-- What counts of an order. -/
structure Wn where
  id : Int
  m : Bool
  p : Int
  q : Int
def sumW (f : Wn → Bool) : List Wn → Int
  | [] => 0
  | w :: l => (if f w then w.q else 0) + sumW f l
theorem sumW_mono {f g : Wn → Bool} : ∀ {l : List Wn}, (∀ w ∈ l, 0 ≤ w.q) → (∀ w ∈ l, f w = true → g w = true) → sumW f l ≤ sumW g l
  | [], _, _ => by simp [sumW]
  | w :: l, hq, h => by
    have ih := sumW_mono (l := l) (f := f) (g := g) (fun x hx => hq x (List.mem_cons_of_mem _ hx)) fun x hx => h x (List.mem_cons_of_mem _ hx)
    have h0 := hq w List.mem_cons_self
    have h1 := h w List.mem_cons_self
    simp only [sumW]
    cases hf : f w <;> cases hg : g w <;> simp_all <;> omega
theorem sumW_congr {f g : Wn → Bool} : ∀ {l : List Wn}, (∀ w ∈ l, f w = g w) → sumW f l = sumW g l
  | [], _ => rfl
  | w :: l, h => by
    simp only [sumW]
    rw [h w List.mem_cons_self, sumW_congr (l := l) fun x hx => h x (List.mem_cons_of_mem _ hx)]
theorem sumW_nn {f : Wn → Bool} {l : List Wn} (hq : ∀ w ∈ l, 0 ≤ w.q) : 0 ≤ sumW f l := by
  have h := sumW_mono (f := fun _ => false) (g := f) hq (fun _ _ h => by cases h)
  have e : sumW (fun _ => false) l = 0 := by
    clear h hq
    induction l with
    | nil => rfl
    | cons w l ih => simp only [sumW]; rw [ih]; rfl
  omega
theorem sumW_app (f : Wn → Bool) : ∀ a b : List Wn, sumW f (a ++ b) = sumW f a + sumW f b
  | [], b => by simp [sumW]
  | w :: a, b => by
    simp only [List.cons_append, sumW]
    rw [sumW_app f a b]
    omega
theorem sumW_perm {f : Wn → Bool} {a b : List Wn} (h : a.Perm b) : sumW f a = sumW f b := by
  induction h with
  | nil => rfl
  | cons x _ ih => simp only [sumW]; rw [ih]
  | swap x y l => simp only [sumW]; omega
  | trans _ _ i1 i2 => exact i1.trans i2
/-- Would one who buys, or sells, trade at a price? -/
def atB (p : Int) (w : Wn) : Bool := w.m || decide (p ≤ w.p)
def atS (p : Int) (w : Wn) : Bool := w.m || decide (w.p ≤ p)
def bo (B : List Wn) (p : Int) : Int := sumW (atB p) B
def so (S : List Wn) (p : Int) : Int := sumW (atS p) S
theorem bo_anti {B : List Wn} (hq : ∀ w ∈ B, 0 ≤ w.q) {p c : Int} (h : c ≤ p) : bo B p ≤ bo B c := sumW_mono hq fun w _ hw => by
  unfold atB at *
  rcases Bool.or_eq_true _ _ ▸ hw with e | e
  · rw [e]; rfl
  · have := of_decide_eq_true e
    rw [decide_eq_true (by omega : c ≤ w.p), Bool.or_true]
theorem so_mono {S : List Wn} (hq : ∀ w ∈ S, 0 ≤ w.q) {p c : Int} (h : p ≤ c) : so S p ≤ so S c := sumW_mono hq fun w _ hw => by
  unfold atS at *
  rcases Bool.or_eq_true _ _ ▸ hw with e | e
  · rw [e]; rfl
  · have := of_decide_eq_true e
    rw [decide_eq_true (by omega : w.p ≤ c), Bool.or_true]
theorem least_of : ∀ {C : List Int}, C ≠ [] → ∃ c ∈ C, ∀ x ∈ C, c ≤ x
  | [], h => absurd rfl h
  | [c], _ => ⟨c, List.mem_cons_self, fun x hx => by rcases List.mem_cons.1 hx with rfl | hx; exact Int.le_refl _; cases hx⟩
  | a :: b :: C, _ => by
    obtain ⟨c, h1, h2⟩ := least_of (C := b :: C) (by simp)
    by_cases h : a ≤ c
    · exact ⟨a, List.mem_cons_self, fun x hx => by
        rcases List.mem_cons.1 hx with rfl | hx
        · exact Int.le_refl _
        · exact Int.le_trans h (h2 x hx)⟩
    · exact ⟨c, List.mem_cons_of_mem _ h1, fun x hx => by
        rcases List.mem_cons.1 hx with rfl | hx
        · omega
        · exact h2 x hx⟩
theorem most_of {C : List Int} (h : C ≠ []) : ∃ c ∈ C, ∀ x ∈ C, x ≤ c := by
  obtain ⟨c, h1, h2⟩ := least_of (C := C.map fun x => -x) (by simpa using h)
  obtain ⟨d, hd, rfl⟩ := List.mem_map.1 h1
  exact ⟨d, hd, fun x hx => by have := h2 (-x) (List.mem_map.2 ⟨x, hx, rfl⟩); omega⟩
def tr (B S : List Wn) (p : Int) : Int := if bo B p ≤ so S p then bo B p else so S p
/-- No price trades more than some candidate does. -/
theorem tr_cand {B S : List Wn} {C : List Int} (hb : ∀ w ∈ B, 0 ≤ w.q) (hs : ∀ w ∈ S, 0 ≤ w.q) (cb : ∀ w ∈ B, w.m = false → w.p ∈ C) (cs : ∀ w ∈ S, w.m = false → w.p ∈ C) (hC : C ≠ []) (p : Int) : ∃ c ∈ C, tr B S p ≤ tr B S c := by
  have key : ∀ c, bo B p ≤ bo B c → so S p ≤ so S c → tr B S p ≤ tr B S c := fun c h1 h2 => by
    unfold tr
    split <;> split <;> omega
  by_cases h : C.filter (fun c => decide (p ≤ c)) = []
  · obtain ⟨c, h1, h2⟩ := most_of hC
    have hlt : ∀ x ∈ C, x < p := fun x hx => by
      by_cases e : p ≤ x
      · have : x ∈ C.filter (fun c => decide (p ≤ c)) := List.mem_filter.2 ⟨hx, by simp [e]⟩
        rw [h] at this; cases this
      · omega
    refine ⟨c, h1, key c (bo_anti hb (by have := hlt c h1; omega)) (Int.le_of_eq (sumW_congr fun w hw => ?_))⟩
    unfold atS
    cases hm : w.m with
    | true => rfl
    | false =>
      have k1 := cs w hw hm
      have k2 := hlt _ k1
      have k3 := h2 _ k1
      rw [decide_eq_true (by omega : w.p ≤ p), decide_eq_true k3]
  · obtain ⟨c, h1, h2⟩ := least_of h
    obtain ⟨h3, h4⟩ := List.mem_filter.1 h1
    have h5 : p ≤ c := by simpa using h4
    refine ⟨c, h3, key c (Int.le_of_eq (sumW_congr fun w hw => ?_)) (so_mono hs h5)⟩
    unfold atB
    cases hm : w.m with
    | true => rfl
    | false =>
      have k1 := cb w hw hm
      by_cases e : p ≤ w.p
      · have := h2 _ (List.mem_filter.2 ⟨k1, by simp [e]⟩)
        rw [decide_eq_true e, decide_eq_true this]
      · rw [decide_eq_false e, decide_eq_false (by omega : ¬ c ≤ w.p)]
end Go.Proofs.Ytbhddfcdnpidkaa
