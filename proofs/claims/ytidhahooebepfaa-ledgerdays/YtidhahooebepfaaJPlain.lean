/-
  ledger: bookings, lines and totals (plain).
-/
import Derived.Test.YtidhahooebepfaaGMap
namespace Go.Proofs.Ytidhahooebepfaa
set_option linter.unusedVariables false
open Go.RowKit Go.Maps

/-- A booking; a line of what is booked. -/
structure Bk where
  ac : ByteArray
  sy : ByteArray
  q : Int
  c : Int
  f : Int
structure Am where
  q : Int
  c : Int
  f : Int
def Bk.cs (b : Bk) : Array Value := #[.string b.ac, .string b.sy, .int .i64 b.q, .int .i64 b.c, .int .i64 b.f]
def Bk.cl (b : Bk) : List Value := b.cs.toList
theorem Bk.cl_len (b : Bk) : b.cl.length = 5 := rfl
def Am.cs (a : Am) : Array Value := #[.int .i64 a.q, .int .i64 a.c, .int .i64 a.f]
def Bk.am (b : Bk) : Am := ⟨b.q, b.c, b.f⟩
def Am.add (a b : Am) : Am := ⟨a.q + b.q, a.c + b.c, a.f + b.f⟩
def Am.zero : Am := ⟨0, 0, 0⟩
abbrev Am.nil (a : Am) : Prop := a.q = 0 ∧ a.c = 0 ∧ a.f = 0
theorem Am.of_nil {a : Am} (h : a.nil) : a = Am.zero := by
  obtain ⟨q, c, f⟩ := a
  obtain ⟨h1, h2, h3⟩ := h
  simp only at h1 h2 h3
  subst h1 h2 h3; rfl
def hasK (ac sy : ByteArray) (b : Bk) : Bool := decide (b.ac = ac) && decide (b.sy = sy)
theorem hasK_iff {ac sy : ByteArray} {b : Bk} : hasK ac sy b = true ↔ b.ac = ac ∧ b.sy = sy := by unfold hasK; simp
def amt (L : List Bk) (ac sy : ByteArray) : Am := ((L.find? (hasK ac sy)).map Bk.am).getD Am.zero
def but (L : List Bk) (ac sy : ByteArray) : List Bk := L.filter fun b => !hasK ac sy b
def mkB (ac sy : ByteArray) (s : Am) : Bk := ⟨ac, sy, s.q, s.c, s.f⟩
/-- A booking is added to the lines; a line that is nothing goes. -/
def lnAdd (L : List Bk) (b : Bk) : List Bk :=
  if ((amt L b.ac b.sy).add b.am).nil then but L b.ac b.sy else mkB b.ac b.sy ((amt L b.ac b.sy).add b.am) :: but L b.ac b.sy
theorem find_but_same (L : List Bk) (ac sy : ByteArray) : (but L ac sy).find? (hasK ac sy) = none := by
  rw [List.find?_eq_none]
  intro x hx
  have := (List.mem_filter.1 hx).2
  simpa using this
theorem find_but_other (L : List Bk) {ac sy ac' sy' : ByteArray} (h : ¬ (ac' = ac ∧ sy' = sy)) : (but L ac sy).find? (hasK ac' sy') = L.find? (hasK ac' sy') := by
  unfold but
  rw [List.find?_filter]
  congr 1
  funext x
  by_cases hx : hasK ac' sy' x = true
  · have h1 := hasK_iff.1 hx
    have h2 : hasK ac sy x = false := by
      rw [← Bool.not_eq_true]
      intro h3
      have h4 := hasK_iff.1 h3
      exact h ⟨h1.1.symm.trans h4.1, h1.2.symm.trans h4.2⟩
    rw [hx, h2]; rfl
  · rw [Bool.not_eq_true] at hx
    rw [hx]; simp
theorem amt_add (L : List Bk) (b : Bk) (ac sy : ByteArray) : amt (lnAdd L b) ac sy = if ac = b.ac ∧ sy = b.sy then (amt L b.ac b.sy).add b.am else amt L ac sy := by
  unfold lnAdd
  by_cases hk : ac = b.ac ∧ sy = b.sy
  · obtain ⟨rfl, rfl⟩ := hk
    rw [if_pos (show b.ac = b.ac ∧ b.sy = b.sy from ⟨rfl, rfl⟩)]
    by_cases hn : ((amt L b.ac b.sy).add b.am).nil
    · rw [if_pos hn, Am.of_nil hn]
      unfold amt
      rw [find_but_same]; rfl
    · rw [if_neg hn]
      generalize (amt L b.ac b.sy).add b.am = s
      unfold amt
      rw [List.find?_cons, show hasK b.ac b.sy (mkB b.ac b.sy s) = true from hasK_iff.2 ⟨rfl, rfl⟩]
      rfl
  · rw [if_neg hk]
    by_cases hn : ((amt L b.ac b.sy).add b.am).nil
    · rw [if_pos hn]
      unfold amt
      rw [find_but_other L hk]
    · rw [if_neg hn]
      generalize (amt L b.ac b.sy).add b.am = s
      unfold amt
      have h0 : hasK ac sy (mkB b.ac b.sy s) = false := by
        rw [← Bool.not_eq_true]
        intro h
        have := hasK_iff.1 h
        exact hk ⟨this.1.symm, this.2.symm⟩
      rw [List.find?_cons, h0]
      simp only
      rw [find_but_other L hk]
/-- No two lines of one place; no line that is nothing. -/
def DK (L : List Bk) : Prop := L.Pairwise fun a b => ¬ (a.ac = b.ac ∧ a.sy = b.sy)
def NZ (L : List Bk) : Prop := ∀ b ∈ L, ¬ b.am.nil
theorem DK.add {L : List Bk} (h : DK L) (b : Bk) : DK (lnAdd L b) := by
  have hb : DK (but L b.ac b.sy) := h.filter _
  unfold lnAdd
  split
  · exact hb
  · refine List.pairwise_cons.2 ⟨fun x hx e => ?_, hb⟩
    have := (List.mem_filter.1 hx).2
    have h2 : hasK b.ac b.sy x = true := hasK_iff.2 ⟨e.1.symm, e.2.symm⟩
    rw [h2] at this
    cases this
theorem NZ.add {L : List Bk} (h : NZ L) (b : Bk) : NZ (lnAdd L b) := by
  have hb : NZ (but L b.ac b.sy) := fun x hx => h x (List.mem_filter.1 hx).1
  unfold lnAdd
  split
  · exact hb
  · rename_i hn
    intro x hx
    rcases List.mem_cons.1 hx with rfl | hx
    · exact hn
    · exact hb x hx
/-- Texts that may be keys. -/
def Bk.sz (b : Bk) : Prop := b.ac.size ≤ maxLen ∧ b.sy.size ≤ maxLen
def SzL (L : List Bk) : Prop := ∀ b ∈ L, b.sz
theorem SzL.add {L : List Bk} (h : SzL L) {b : Bk} (hb : b.sz) : SzL (lnAdd L b) := by
  have h1 : SzL (but L b.ac b.sy) := fun x hx => h x (List.mem_filter.1 hx).1
  unfold lnAdd
  split
  · exact h1
  · intro x hx
    rcases List.mem_cons.1 hx with rfl | hx
    · exact hb
    · exact h1 x hx
theorem but_len (L : List Bk) (ac sy : ByteArray) : (but L ac sy).length ≤ L.length := List.length_filter_le _ _
theorem lnAdd_len (L : List Bk) (b : Bk) : (lnAdd L b).length ≤ L.length + 1 := by
  have := but_len L b.ac b.sy
  unfold lnAdd
  split
  · omega
  · simp; omega
/-- Sums over all lines. -/
def sumB (g : Bk → Int) : List Bk → Int
  | [] => 0
  | b :: l => g b + sumB g l
theorem sumB_app (g : Bk → Int) (a b : List Bk) : sumB g (a ++ b) = sumB g a + sumB g b := by
  induction a with
  | nil => simp [sumB]
  | cons x t ih => simp only [List.cons_append, sumB, ih]; omega
theorem sumB_perm {g : Bk → Int} {a b : List Bk} (h : a.Perm b) : sumB g a = sumB g b := by
  induction h with
  | nil => rfl
  | cons x _ ih => simp only [sumB, ih]
  | swap x y l => simp only [sumB]; omega
  | trans _ _ h1 h2 => exact h1.trans h2
/-- A sum is that of the others and what stands at a place. -/
theorem sumB_but (g : Am → Int) (g0 : g Am.zero = 0) : ∀ {L : List Bk}, DK L → ∀ (ac sy : ByteArray), sumB (fun b => g b.am) L = g (amt L ac sy) + sumB (fun b => g b.am) (but L ac sy)
  | [], _, ac, sy => by simp [sumB, amt, but, g0]
  | b :: l, h, ac, sy => by
    obtain ⟨h1, h2⟩ := List.pairwise_cons.1 h
    by_cases hk : hasK ac sy b = true
    · have hn : but l ac sy = l := by
        unfold but
        rw [List.filter_eq_self]
        intro x hx
        have h3 := h1 x hx
        have h4 := hasK_iff.1 hk
        have : hasK ac sy x = false := by
          rw [← Bool.not_eq_true]
          intro h5
          have h6 := hasK_iff.1 h5
          exact h3 ⟨h4.1.trans h6.1.symm, h4.2.trans h6.2.symm⟩
        rw [this]; rfl
      have e1 : but (b :: l) ac sy = l := by
        unfold but at hn ⊢
        rw [List.filter_cons, hk]
        simpa using hn
      have e2 : amt (b :: l) ac sy = b.am := by unfold amt; rw [List.find?_cons, hk]; rfl
      rw [e1, e2]; rfl
    · rw [Bool.not_eq_true] at hk
      have e1 : but (b :: l) ac sy = b :: but l ac sy := by unfold but; rw [List.filter_cons, hk]; rfl
      have e2 : amt (b :: l) ac sy = amt l ac sy := by unfold amt; rw [List.find?_cons, hk]
      rw [e1, e2]
      simp only [sumB]
      rw [sumB_but g g0 h2 ac sy]
      omega
theorem sumB_add (g : Am → Int) (g0 : g Am.zero = 0) (ga : ∀ a b, g (Am.add a b) = g a + g b) {L : List Bk} (h : DK L) (b : Bk) : sumB (fun b => g b.am) (lnAdd L b) = sumB (fun b => g b.am) L + g b.am := by
  have h1 := sumB_but g g0 h b.ac b.sy
  have h2 := ga (amt L b.ac b.sy) b.am
  unfold lnAdd
  split
  · rename_i hn
    rw [Am.of_nil hn, g0] at h2
    omega
  · simp only [sumB]
    rw [show (mkB b.ac b.sy ((amt L b.ac b.sy).add b.am)).am = (amt L b.ac b.sy).add b.am from rfl]
    omega
/-- What an account has over all symbols. -/
structure To where
  ac : ByteArray
  m : Int
  f : Int
def To.cs (t : To) : Array Value := #[.int .i64 t.m, .int .i64 t.f]
def tot (O : List To) (ac : ByteArray) : Int × Int := ((O.find? fun t => decide (t.ac = ac)).map fun t => (t.m, t.f)).getD (0, 0)
def butT (O : List To) (ac : ByteArray) : List To := O.filter fun t => !decide (t.ac = ac)
def toAdd (O : List To) (b : Bk) : List To :=
  if (tot O b.ac).1 + (b.c - b.f) = 0 ∧ (tot O b.ac).2 + b.f = 0 then butT O b.ac else ⟨b.ac, (tot O b.ac).1 + (b.c - b.f), (tot O b.ac).2 + b.f⟩ :: butT O b.ac
theorem tot_add (O : List To) (b : Bk) (ac : ByteArray) : tot (toAdd O b) ac = if ac = b.ac then ((tot O b.ac).1 + (b.c - b.f), (tot O b.ac).2 + b.f) else tot O ac := by
  have hs : (butT O b.ac).find? (fun t => decide (t.ac = b.ac)) = none := by
    rw [List.find?_eq_none]
    intro x hx
    have := (List.mem_filter.1 hx).2
    simpa using this
  unfold toAdd
  by_cases hk : ac = b.ac
  · subst hk
    rw [if_pos rfl]
    split
    · rename_i hn
      rw [hn.1, hn.2]
      unfold tot
      rw [hs]; rfl
    · generalize (tot O b.ac).1 + (b.c - b.f) = x
      generalize (tot O b.ac).2 + b.f = y
      unfold tot
      rw [List.find?_cons]
      simp
  · rw [if_neg hk]
    have ho : (butT O b.ac).find? (fun t => decide (t.ac = ac)) = O.find? (fun t => decide (t.ac = ac)) := by
      unfold butT
      rw [List.find?_filter]
      congr 1
      funext x
      by_cases hx : x.ac = ac
      · have : ¬ x.ac = b.ac := fun e => hk (hx.symm.trans e)
        simp [hx, hk]
      · simp [hx]
    split
    · unfold tot; rw [ho]
    · generalize (tot O b.ac).1 + (b.c - b.f) = x
      generalize (tot O b.ac).2 + b.f = y
      unfold tot
      rw [List.find?_cons]
      have : (decide (b.ac = ac)) = false := by simp; exact fun e => hk e.symm
      simp only [this]
      rw [ho]
def SzT (O : List To) : Prop := ∀ t ∈ O, t.ac.size ≤ maxLen
theorem SzT.add {O : List To} (h : SzT O) {b : Bk} (hb : b.ac.size ≤ maxLen) : SzT (toAdd O b) := by
  have h1 : SzT (butT O b.ac) := fun x hx => h x (List.mem_filter.1 hx).1
  unfold toAdd
  split
  · exact h1
  · intro x hx
    rcases List.mem_cons.1 hx with rfl | hx
    · exact hb
    · exact h1 x hx
theorem toAdd_len (O : List To) (b : Bk) : (toAdd O b).length ≤ O.length + 1 := by
  have : (butT O b.ac).length ≤ O.length := List.length_filter_le _ _
  unfold toAdd
  split
  · omega
  · simp; omega
end Go.Proofs.Ytidhahooebepfaa
