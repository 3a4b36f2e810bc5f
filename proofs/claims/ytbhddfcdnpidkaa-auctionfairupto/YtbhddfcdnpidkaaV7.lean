/-
  auction's law: orders that are all Market orders; a price that one of them has.
-/
import Derived.Test.YtbhddfcdnpidkaaV6
namespace Go.Proofs.Ytbhddfcdnpidkaa
set_option linter.unusedVariables false
set_option linter.unusedSimpArgs false
open Go.RowKit Go.Great

def bareL (l : List Od) : Bool := l.all fun o => decide (o.ty = 2)
def pricedL (p : Int) (l : List Od) : Bool := l.any fun o => decide (o.ty ≠ 2 ∧ o.pr = p)
theorem all_take {f : Od → Bool} {l : List Od} {i : Nat} {o : Od} (h : l[i]? = some o) (ha : (l.take i).all f = true) (ho : f o = true) : (l.take (i + 1)).all f = true := by
  rw [List.take_add_one, h, List.all_append, ha]
  simpa using ho
theorem any_take {f : Od → Bool} {l : List Od} {i : Nat} {o : Od} (h : l[i]? = some o) (ha : (l.take i).any f = false) (ho : f o = false) : (l.take (i + 1)).any f = false := by
  rw [List.take_add_one, h, List.any_append, ha]
  simpa using ho
/-- An order's cells in a row. -/
theorem od_cell {w : World} {g of c n i j : Nat} {l : List Od} {o : Od} {u : Value} (h : RowAt w 42 15 (.slice (some ⟨g, of, none⟩) n c) n (flatL (fun o => o.cs.toList) l)) (hok : ∀ o ∈ l, o.ok) (ho : l[i]? = some o) (hj : j < 15) (hu : o.cs[j]? = some u) : w.cell? ⟨g, of + i * 15 + j, none⟩ = some u := by
  have hlen : ∀ o ∈ l, ((fun o : Od => o.cs.toList) o).length = 15 := fun o h => (Array.length_toList).trans (hok o h).sz
  have := h.cell rfl (j := i * 15 + j) (u := u) (by rw [flatL_getM hlen ho hj]; simpa using hu)
  rw [← Nat.add_assoc] at this
  exact this
set_option maxRecDepth 100000 in
theorem bare_any {w : World} {l : List Od} {a : Option Addr} {c : Nat} (hr : RowAt w 42 15 (.slice a l.length c) l.length (flatL (fun o => o.cs.toList) l)) (hok : ∀ o ∈ l, o.ok) (hl : l.length ≤ 9223372036854775807) :
    Calls Try.prog 12 #[.slice a l.length c] w fun e w' => e = .returned (.bool (bareL l)) ∧ w' = w := by
  obtain ⟨n, hn⟩ : ∃ n, n = l.length := ⟨_, rfl⟩
  have HR : Hid (RowAt w 42 15 (.slice a n c) n (flatL (fun o => o.cs.toList) l) ∧ (∀ o ∈ l, o.ok) ∧ n = l.length) := ⟨by rw [hn]; exact hr, hok, hn⟩
  obtain ⟨R, hR⟩ : ∃ R, R = bareL l := ⟨_, rfl⟩
  have HB : Hid (R = bareL l) := hR
  rw [← hn] at hl ⊢
  rw [← hR]
  clear hr hok hn hR
  go_enter Try.func12, Try.ntmps12
  go_upto_region 2 with fail
  go_loopw [3] (fun x3 wr => ∃ i : Nat, i ≤ n ∧ x3 = .int .i64 (i : Int) ∧ wr = w ∧ Hid ((l.take i).all (fun o => decide (o.ty = 2)) = true)) (fun x3 _ => n - (RowKit.intOf x3).toNat)
  case atStart => exact ⟨0, Nat.zero_le _, rfl, rfl, rfl⟩
  case round =>
    obtain ⟨i, hi, rfl, hw, HA⟩ := hrel
    subst hw
    by_cases hlt : i < n
    · have hlt' : (i : Int) < (n : Int) := by omega
      obtain ⟨o, ho⟩ : ∃ o, l[i]? = some o := ⟨_, List.getElem?_eq_getElem (by rw [← HR.out.2.2]; exact hlt)⟩
      obtain ⟨g, of, c', cur, ea, _⟩ := HR.out.1.more (by omega)
      injection ea with ea1 _ ea2
      subst ea1 ea2
      have q5 := od_cell HR.out.1 HR.out.2.1 ho (j := 5) (by decide) (HR.out.2.1 o (List.mem_of_getElem? ho)).c5
      by_cases ht : o.ty = 2
      · have HA2 : Hid ((l.take (i + 1)).all (fun o => decide (o.ty = 2)) = true) := all_take ho HA.out (by simp [ht])
        have e : (o.ty != 2) = false := by simp [ht]
        clear HA ho
        generalize o.ty = ty at *
        go_wp2
        exact ⟨⟨i + 1, by omega, by go_num, by first | rfl | trivial, HA2.out⟩, by simp [RowKit.intOf]; omega⟩
      · have hf : R = false := by
          rw [HB.out]
          unfold bareL
          rw [List.all_eq_false]
          exact ⟨o, List.mem_of_getElem? ho, by simp [ht]⟩
        have e : (o.ty != 2) = true := by simp [ht]
        clear HA ho HB
        subst hf
        generalize o.ty = ty at *
        go_wp2
        go_ret
        exact ⟨rfl, rfl⟩
    · have hin : i = n := by omega
      have hf : R = true := by
        rw [HB.out]
        have h := HA.out
        rw [hin, HR.out.2.2, List.take_length] at h
        exact h
      have hlt' : ¬ (i : Int) < (n : Int) := by omega
      clear HA HB
      subst hf
      go_wp2
      go_ret
      exact ⟨rfl, rfl⟩
set_option maxRecDepth 100000 in
theorem priced_any {w : World} {l : List Od} {a : Option Addr} {c : Nat} (hr : RowAt w 42 15 (.slice a l.length c) l.length (flatL (fun o => o.cs.toList) l)) (hok : ∀ o ∈ l, o.ok) (hl : l.length ≤ 9223372036854775807) (p : Int) :
    Calls Try.prog 13 #[.slice a l.length c, .int .i64 p] w fun e w' => e = .returned (.bool (pricedL p l)) ∧ w' = w := by
  obtain ⟨n, hn⟩ : ∃ n, n = l.length := ⟨_, rfl⟩
  have HR : Hid (RowAt w 42 15 (.slice a n c) n (flatL (fun o => o.cs.toList) l) ∧ (∀ o ∈ l, o.ok) ∧ n = l.length) := ⟨by rw [hn]; exact hr, hok, hn⟩
  obtain ⟨R, hR⟩ : ∃ R, R = pricedL p l := ⟨_, rfl⟩
  have HB : Hid (R = pricedL p l) := hR
  rw [← hn] at hl ⊢
  rw [← hR]
  clear hr hok hn hR
  go_enter Try.func13, Try.ntmps13
  go_upto_region 2 with fail
  go_loopw [5] (fun x5 wr => ∃ i : Nat, i ≤ n ∧ x5 = .int .i64 (i : Int) ∧ wr = w ∧ Hid ((l.take i).any (fun o => decide (o.ty ≠ 2 ∧ o.pr = p)) = false)) (fun x5 _ => n - (RowKit.intOf x5).toNat)
  case atStart => exact ⟨0, Nat.zero_le _, rfl, rfl, rfl⟩
  case round =>
    obtain ⟨i, hi, rfl, hw, HA⟩ := hrel
    subst hw
    by_cases hlt : i < n
    · have hlt' : (i : Int) < (n : Int) := by omega
      obtain ⟨o, ho⟩ : ∃ o, l[i]? = some o := ⟨_, List.getElem?_eq_getElem (by rw [← HR.out.2.2]; exact hlt)⟩
      obtain ⟨g, of, c', cur, ea, _⟩ := HR.out.1.more (by omega)
      injection ea with ea1 _ ea2
      subst ea1 ea2
      have q5 := od_cell HR.out.1 HR.out.2.1 ho (j := 5) (by decide) (HR.out.2.1 o (List.mem_of_getElem? ho)).c5
      have q7 := od_cell HR.out.1 HR.out.2.1 ho (j := 7) (by decide) (HR.out.2.1 o (List.mem_of_getElem? ho)).c7
      by_cases ht : o.ty = 2
      · have HA2 : Hid ((l.take (i + 1)).any (fun o => decide (o.ty ≠ 2 ∧ o.pr = p)) = false) := any_take ho HA.out (by simp [ht])
        have e : (o.ty != 2) = false := by simp [ht]
        clear HA ho
        generalize o.ty = ty at *
        generalize o.pr = pr at *
        go_wp2
        exact ⟨⟨i + 1, by omega, by go_num, by first | rfl | trivial, HA2.out⟩, by simp [RowKit.intOf]; omega⟩
      · have e : (o.ty != 2) = true := by simp [ht]
        by_cases hp : o.pr = p
        · have hf : R = true := by
            rw [HB.out]
            unfold pricedL
            rw [List.any_eq_true]
            exact ⟨o, List.mem_of_getElem? ho, by simp [ht, hp]⟩
          have e2 : (o.pr == p) = true := by simp [hp]
          clear HA ho HB
          subst hf
          generalize o.ty = ty at *
          generalize o.pr = pr at *
          go_wp2
          go_ret
          exact ⟨rfl, rfl⟩
        · have HA2 : Hid ((l.take (i + 1)).any (fun o => decide (o.ty ≠ 2 ∧ o.pr = p)) = false) := any_take ho HA.out (by simp [hp])
          have e2 : (o.pr == p) = false := by simp [hp]
          clear HA ho
          generalize o.ty = ty at *
          generalize o.pr = pr at *
          go_wp2
          exact ⟨⟨i + 1, by omega, by go_num, by first | rfl | trivial, HA2.out⟩, by simp [RowKit.intOf]; omega⟩
    · have hin : i = n := by omega
      have hf : R = false := by
        rw [HB.out]
        have h := HA.out
        rw [hin, HR.out.2.2, List.take_length] at h
        exact h
      have hlt' : ¬ (i : Int) < (n : Int) := by omega
      clear HA HB
      subst hf
      go_wp2
      go_ret
      exact ⟨rfl, rfl⟩
end Go.Proofs.Ytbhddfcdnpidkaa
