/-
  tape: records of commands; two of them, one behind the other (plain).
-/
import Derived.Test.YtjnnecoikcmaeaaTR0
import Derived.Test.YtjnnecoikcmaeaaTQ7
namespace Go.Proofs.Ytjnnecoikcmaeaa
set_option linter.unusedVariables false
set_option linter.unusedSimpArgs false
open Go.RowKit Go.Great

theorem recL_drop (k : Nat) (l : List Nat) : (recL k l).drop 6 = l := by
  unfold recL
  rw [List.drop_append_of_le_length (by rw [List.length_append, putTo_length, putTo_length]; exact Nat.le_refl _)]
  rw [List.drop_eq_nil_of_le (by rw [List.length_append, putTo_length, putTo_length]; exact Nat.le_refl _), List.nil_append]
theorem frOk_of {c : Cm} (h : encE c = 0) (k : Nat) (r : List Nat) : FrOk k (recL k (encL c) ++ r) (encL c).length := by
  obtain ⟨h1, h2⟩ := encL_len h
  have hlen := recL_len k (encL c)
  have ht : (recL k (encL c) ++ r).take (6 + (encL c).length) = recL k (encL c) := by
    rw [List.take_append_of_le_length (by omega), List.take_of_length_le (by omega)]
  have hc : cmdL (encL c).length (recL k (encL c) ++ r) = encL c := by
    unfold cmdL
    rw [ht, recL_drop]
  refine ⟨by rw [List.length_append]; omega, ?_, h1, h2, by rw [List.length_append]; omega, by rw [ht, hc], ?_⟩
  · have := getN_put (dN (recL k (encL c) ++ r)) (encL c).length 2 2 (Nat.le_refl _) (fun j hj => by
      unfold recL
      rw [List.append_assoc, List.append_assoc, dN_app (by rw [putTo_length]; exact hj)]
      simp [putTo, List.getD_eq_getElem?_getD, hj])
    rw [this]
    simp
    omega
  · rw [hc]
    obtain ⟨d, hd, _⟩ := dec_enc h
    rw [hd]; rfl
def two (a b : Cm) : List Nat := magic ++ recL 0 (encL a) ++ recL 1 (encL b)
theorem two_len (a b : Cm) : (two a b).length = 16 + (encL a).length + (encL b).length := by
  unfold two
  rw [List.length_append, List.length_append, recL_len, recL_len]
  have : magic.length = 4 := rfl
  omega
theorem two_drop4 (a b : Cm) : (two a b).drop 4 = recL 0 (encL a) ++ recL 1 (encL b) := by
  unfold two
  rw [List.append_assoc]
  rfl
theorem two_drop1 (a b : Cm) : (two a b).drop (10 + (encL a).length) = recL 1 (encL b) := by
  rw [show 10 + (encL a).length = 4 + (recL 0 (encL a)).length by rw [recL_len]; omega, ← List.drop_drop, two_drop4, List.drop_append_of_le_length (Nat.le_refl _), List.drop_length, List.nil_append]
theorem two_chR {a b : Cm} (ha : encE a = 0) (hb : encE b = 0) : ∀ {r : List Nat} {p : Nat}, ChR (two a b) r p → (r = [] ∧ p = 4) ∨ (r = [10 + (encL a).length] ∧ p = 10 + (encL a).length) ∨ (r = [16 + (encL a).length + (encL b).length, 10 + (encL a).length] ∧ p = 16 + (encL a).length + (encL b).length)
  | [], p, h => .inl ⟨rfl, h⟩
  | e :: r, p, h => by
    obtain ⟨h1, q, n, h2, h3, h4⟩ := h
    subst h1
    rcases two_chR ha hb h2 with ⟨rfl, rfl⟩ | ⟨rfl, rfl⟩ | ⟨rfl, rfl⟩
    · have := frOk_of ha 0 (recL 1 (encL b))
      rw [two_drop4] at h3
      have e : n = (encL a).length := h3.len.symm.trans this.len
      subst e
      exact .inr (.inl ⟨by rw [h4]; congr 1; omega, by omega⟩)
    · have := frOk_of hb 1 []
      rw [List.append_nil] at this
      rw [two_drop1] at h3
      have e : n = (encL b).length := h3.len.symm.trans this.len
      subst e
      exact .inr (.inr ⟨by rw [h4]; congr 1; omega, by omega⟩)
    · have := h3.two
      rw [List.length_drop, two_len] at this
      omega
theorem two_open {a b : Cm} (ha : encE a = 0) (hb : encE b = 0) {es : List Nat} {p : Nat} (h : Chain (two a b) es p) (hm : es.length = 1000000 ∨ ∀ n, ¬ FrOk es.length ((two a b).drop p) n) : es = [10 + (encL a).length, 16 + (encL a).length + (encL b).length] ∧ p = (two a b).length := by
  have hr : ∀ (x y : List Nat), es.reverse = x → y = x.reverse → es = y := fun x y e1 e2 => by rw [e2, ← e1, List.reverse_reverse]
  rcases two_chR ha hb h with ⟨e1, e2⟩ | ⟨e1, e2⟩ | ⟨e1, e2⟩
  · have he := hr _ [] e1 rfl
    subst he e2
    rcases hm with hm | hm
    · cases hm
    · exact absurd (frOk_of ha 0 (recL 1 (encL b))) (by rw [two_drop4] at hm; exact hm _)
  · have he := hr _ [10 + (encL a).length] e1 rfl
    subst he e2
    rcases hm with hm | hm
    · cases hm
    · have := frOk_of hb 1 []
      rw [List.append_nil] at this
      exact absurd this (by rw [two_drop1] at hm; exact hm _)
  · exact ⟨hr _ _ e1 rfl, by rw [e2, two_len]⟩
/-- The two commands that are shown. -/
def exA : Cm := ⟨5, fun i => if i = 0 then 300 else 0, fun _ => ⟨#[]⟩⟩
def exB : Cm := ⟨1, fun i => if i = 1 then 1 else if i = 7 then 1 else if i = 12 then 5 else 0, fun i => if i = 4 then ⟨#[120]⟩ else ⟨#[]⟩⟩
set_option maxRecDepth 100000 in
theorem exA_E : encE exA = 0 := by decide
set_option maxRecDepth 100000 in
theorem exB_E : encE exB = 0 := by decide
theorem exA_L : encL exA = [10, 2, 216, 4] := by
  have h1 : mkU exA 24 = 1 := by decide
  have h2 : vlU exA 24 = varL 600 := by
    have : ∀ i, i < 23 → pZer exA (i + 1) = true := by decide
    have h3 : ∀ n, n ≤ 23 → vlU exA (n + 1) = varL 600 := fun n => by
      induction n with
      | zero => intro _; rfl
      | succ n ih =>
        intro hn
        show vlU exA (n + 1) ++ _ = _
        rw [ih (by omega), this n (by omega), if_pos rfl, List.append_nil]
    exact h3 23 (by omega)
  unfold encL
  rw [h1, h2, varL_big (u := 600) (by omega), varL_small (u := 600 / 128) (by omega), varL_small (u := foldN ((1 : Nat) : Int)) (by decide), varL_small (u := foldN exA.k) (by decide)]
  decide
theorem exA_ok : exA.ok := ⟨by decide, by decide, by decide, by decide, by decide⟩
theorem exB_ok : exB.ok := ⟨by decide, by decide, by decide, by decide, by decide⟩
end Go.Proofs.Ytjnnecoikcmaeaa
