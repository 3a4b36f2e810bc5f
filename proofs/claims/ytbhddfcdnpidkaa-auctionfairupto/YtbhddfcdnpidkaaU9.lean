/-
  auction, plain: who trades with whom.
-/
import Derived.Test.YtbhddfcdnpidkaaV26
namespace Go.Proofs.Ytbhddfcdnpidkaa
set_option linter.unusedVariables false

/-- A fill: who buys, who sells, the price, how much. -/
structure Fl where
  b : Int
  s : Int
  p : Int
  q : Int
def mn2 (a b : Int) : Int := if a ≤ b then a else b
/-- How much the first two trade, of what is left. -/
def mnF (left : Int) (b s : Wn) : Int := mn2 (mn2 left b.q) s.q
def fillsF (p : Int) : Nat → Int → List Wn → List Wn → List Fl
  | 0, _, _, _ => []
  | _ + 1, _, [], _ => []
  | _ + 1, _, _ :: _, [] => []
  | k + 1, left, b :: B, s :: S => if 0 < left then ⟨b.id, s.id, p, mnF left b s⟩ :: fillsF p k (left - mnF left b s) (lessL (mnF left b s) (b :: B)) (lessL (mnF left b s) (s :: S)) else []
theorem fillsF_none (p : Int) : ∀ (k : Nat) (left : Int) (B S : List Wn), ¬ (0 < left ∧ B ≠ [] ∧ S ≠ []) → fillsF p k left B S = []
  | 0, _, _, _, _ => rfl
  | _ + 1, _, [], _, _ => rfl
  | _ + 1, _, _ :: _, [], _ => rfl
  | k + 1, left, b :: B, s :: S, h => by
    unfold fillsF
    rw [if_neg fun h0 => h ⟨h0, by simp, by simp⟩]
def okQ (B : List Wn) : Prop := ∀ v ∈ B, 1 ≤ v.q ∧ v.q ≤ 1000000
theorem mnF_bd {left : Int} {b s : Wn} (h0 : 0 < left) (hb : 1 ≤ b.q) (hs : 1 ≤ s.q) : 1 ≤ mnF left b s ∧ mnF left b s ≤ left ∧ mnF left b s ≤ b.q ∧ mnF left b s ≤ s.q ∧ (mnF left b s = left ∨ mnF left b s = b.q ∨ mnF left b s = s.q) := by
  unfold mnF mn2
  split <;> split <;> omega
theorem lessL_eq (q : Int) (v : Wn) (l : List Wn) : lessL q (v :: l) = if v.q - q = 0 then l else ⟨v.id, v.m, v.p, v.q - q⟩ :: l := rfl
theorem lessL_ok {q : Int} {v : Wn} {l : List Wn} (h : okQ (v :: l)) (h1 : 1 ≤ q) (hq : q ≤ v.q) : okQ (lessL q (v :: l)) := by
  rw [lessL_eq]
  split
  · exact fun x hx => h x (List.mem_cons_of_mem _ hx)
  · intro x hx
    rcases List.mem_cons.1 hx with rfl | hx
    · have := h v List.mem_cons_self
      show 1 ≤ v.q - q ∧ v.q - q ≤ 1000000
      omega
    · exact h x (List.mem_cons_of_mem _ hx)
theorem lessL_len {q : Int} {v : Wn} {l : List Wn} : (lessL q (v :: l)).length ≤ l.length + 1 ∧ (q = v.q → (lessL q (v :: l)).length = l.length) := by
  rw [lessL_eq]
  constructor
  · split <;> simp
  · intro h
    rw [if_pos (by omega)]
/-- Where the filling stands: done so far, and to come. -/
structure FS (p : Int) (T : List Fl) (N : Nat) (left : Int) (B S : List Wn) (F : List Fl) : Prop where
  eq : ∃ k, (left = 0 ∨ B.length + S.length ≤ k) ∧ T = F ++ fillsF p k left B S
  len : (left = 0 ∧ F.length ≤ N) ∨ F.length + (B.length + S.length) ≤ N
  ob : okQ B
  os : okQ S
  nn : 0 ≤ left
theorem FS.start (p : Int) {left : Int} {B S : List Wn} (hb : okQ B) (hs : okQ S) (h0 : 0 ≤ left) : FS p (fillsF p (B.length + S.length) left B S) (B.length + S.length) left B S [] := ⟨⟨_, .inr (Nat.le_refl _), rfl⟩, .inr (by simp), hb, hs, h0⟩
theorem FS.done {p : Int} {T : List Fl} {N : Nat} {left : Int} {B S : List Wn} {F : List Fl} (h : FS p T N left B S F) (hd : ¬ (0 < left ∧ B ≠ [] ∧ S ≠ [])) : F = T := by
  obtain ⟨k, _, e⟩ := h.eq
  rw [e, fillsF_none p k left B S hd, List.append_nil]
theorem FS.step {p : Int} {T : List Fl} {N : Nat} {left : Int} {b s : Wn} {B S : List Wn} {F : List Fl} (h : FS p T N left (b :: B) (s :: S) F) (h0 : 0 < left) : FS p T N (left - mnF left b s) (lessL (mnF left b s) (b :: B)) (lessL (mnF left b s) (s :: S)) (F ++ [⟨b.id, s.id, p, mnF left b s⟩]) := by
  have hb := h.ob b List.mem_cons_self
  have hs := h.os s List.mem_cons_self
  obtain ⟨m1, m2, m3, m4, m5⟩ := mnF_bd h0 hb.1 hs.1
  obtain ⟨k, hk, e⟩ := h.eq
  have l1 := lessL_len (q := mnF left b s) (v := b) (l := B)
  have l2 := lessL_len (q := mnF left b s) (v := s) (l := S)
  have hk' : (b :: B).length + (s :: S).length ≤ k := hk.resolve_left (by omega)
  have hlen : F.length + ((b :: B).length + (s :: S).length) ≤ N := h.len.resolve_left (by omega)
  simp only [List.length_cons] at hk' hlen
  obtain ⟨k, rfl⟩ : ∃ j, k = j + 1 := ⟨k - 1, by omega⟩
  refine ⟨⟨k, ?_, ?_⟩, ?_, lessL_ok h.ob m1 m3, lessL_ok h.os m1 m4, by omega⟩
  · rcases m5 with m5 | m5 | m5
    · exact .inl (by omega)
    · have := l1.2 m5
      exact .inr (by omega)
    · have := l2.2 m5
      exact .inr (by omega)
  · rw [e]
    show F ++ (if 0 < left then _ else _) = _
    rw [if_pos h0, List.append_assoc]
    rfl
  · simp only [List.length_append, List.length_cons, List.length_nil]
    rcases m5 with m5 | m5 | m5
    · exact .inl ⟨by omega, by omega⟩
    · have := l1.2 m5
      exact .inr (by omega)
    · have := l2.2 m5
      exact .inr (by omega)
end Go.Proofs.Ytbhddfcdnpidkaa
