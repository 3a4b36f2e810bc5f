/-
  LedgerConserves: the sums over the accounts (plain); account, symbol.
-/
import Derived.Test.YtidhahooebepfaaJMany
namespace Go.Proofs.Ytidhahooebepfaa
set_option linter.unusedVariables false
set_option linter.unusedSimpArgs false
open Go.RowKit Go.Great Go.Maps

def sc : ByteArray := ⟨#[99]⟩
def sab : ByteArray := ⟨#[97, 98]⟩
def sY : ByteArray := ⟨#[89]⟩
def sXY : ByteArray := ⟨#[88, 89]⟩
def accOf (k : Nat) : ByteArray := match k with
  | 0 => sa
  | 1 => sb
  | 2 => sc
  | 3 => sE
  | _ => sab
def syOf (k : Nat) : ByteArray := match k with
  | 0 => sX
  | 1 => sY
  | _ => sXY
def isAcc (x : ByteArray) : Prop := x = sa ∨ x = sb ∨ x = sc ∨ x = sE ∨ x = sab
theorem accOf_is (k : Nat) : isAcc (accOf k) := by
  unfold accOf isAcc
  split <;> simp
theorem accOf_sz (k : Nat) : (accOf k).size ≤ maxLen := by
  unfold accOf
  split <;> decide
theorem syOf_sz (k : Nat) : (syOf k).size ≤ maxLen := by
  unfold syOf
  split <;> decide
def sum5 (f : ByteArray → Int) : Int := f sa + f sb + f sc + f sE + f sab
theorem sum5_add (f g : ByteArray → Int) : sum5 (fun x => f x + g x) = sum5 f + sum5 g := by simp only [sum5]; omega
theorem sum5_zero : sum5 (fun _ => 0) = 0 := by simp only [sum5]; omega
theorem sum5_one {a : ByteArray} (h : isAcc a) (v : Int) : sum5 (fun x => if x = a then v else 0) = v := by
  have e1 : sa ≠ sb := by decide
  have e2 : sa ≠ sc := by decide
  have e3 : sa ≠ sE := by decide
  have e4 : sa ≠ sab := by decide
  have e5 : sb ≠ sc := by decide
  have e6 : sb ≠ sE := by decide
  have e7 : sb ≠ sab := by decide
  have e8 : sc ≠ sE := by decide
  have e9 : sc ≠ sab := by decide
  have e10 : sE ≠ sab := by decide
  unfold sum5
  rcases h with rfl | rfl | rfl | rfl | rfl <;> simp [e1, e2, e3, e4, e5, e6, e7, e8, e9, e10, e1.symm, e2.symm, e3.symm, e4.symm, e5.symm, e6.symm, e7.symm, e8.symm, e9.symm, e10.symm]
theorem sum5_sel (g : Am → Int) (s sy : ByteArray) : ∀ l : List Bk, (∀ b ∈ l, isAcc b.ac) → (∀ b ∈ l, b.sy = s) → sum5 (fun x => selB g x sy l) = if sy = s then sumB (fun b => g b.am) l else 0
  | [], _, _ => by simp only [selB, sumB, sum5_zero, ite_self]
  | b :: l, h, k => by
    have ih := sum5_sel g s sy l (fun x hx => h x (.tail _ hx)) (fun x hx => k x (.tail _ hx))
    simp only [selB, sum5_add, sumB, ih, k b (.head _)]
    by_cases hs : sy = s
    · simp only [hs, and_true, if_true, sum5_one (h b (.head _))]
    · simp only [hs, and_false, if_false, sum5_zero]; rfl
theorem sum5_selT (g : Bk → Int) : ∀ l : List Bk, (∀ b ∈ l, isAcc b.ac) → sum5 (fun x => selT g x l) = sumB g l
  | [], _ => by simp only [selT, sumB, sum5_zero]
  | b :: l, h => by
    have ih := sum5_selT g l (fun x hx => h x (.tail _ hx))
    simp only [selT, sum5_add, sumB, ih, sum5_one (h b (.head _))]
theorem sumB_sub (f g : Bk → Int) : ∀ l : List Bk, sumB (fun b => f b - g b) l = sumB f l - sumB g l
  | [] => by simp only [sumB]; omega
  | b :: l => by simp only [sumB, sumB_sub f g l]; omega
/-- Bookings of one symbol, of known accounts, that sum up to nothing. -/
structure Zb (l : List Bk) (s : ByteArray) : Prop where
  ac : ∀ b ∈ l, isAcc b.ac
  sy : ∀ b ∈ l, b.sy = s
  q : sumB (fun b => b.am.q) l = 0
  c : sumB (fun b => b.am.c) l = 0
  f : sumB (fun b => b.am.f) l = 0
/-- Nothing is made and nothing is lost. -/
structure ZS (A T : List Bk) (O : List To) : Prop where
  a1 : ∀ sy, sum5 (fun x => (amt A x sy).q) = 0
  a2 : ∀ sy, sum5 (fun x => (amt A x sy).c) = 0
  o1 : sum5 (fun x => (tot O x).1) = 0
  o2 : sum5 (fun x => (tot O x).2) = 0
  t1 : sumB (fun b => b.am.q) T = 0
  t2 : sumB (fun b => b.am.c) T = 0
  t3 : sumB (fun b => b.am.f) T = 0
  dk : DK T
  nz : NZ T
theorem ZS.start : ZS [] [] [] := ⟨fun sy => sum5_zero, fun sy => sum5_zero, sum5_zero, sum5_zero, rfl, rfl, rfl, List.Pairwise.nil, fun b hb => by cases hb⟩
theorem ZS.adds {A T : List Bk} {O : List To} {l : List Bk} {s : ByteArray} (h : ZS A T O) (hl : Zb l s) : ZS (l.foldl lnAdd A) (l.foldl lnAdd T) (l.foldl toAdd O) := by
  refine ⟨fun sy => ?_, fun sy => ?_, ?_, ?_, ?_, ?_, ?_, h.dk.adds l, h.nz.adds l⟩
  · have e : (fun x => (amt (l.foldl lnAdd A) x sy).q) = fun x => (amt A x sy).q + selB Am.q x sy l := funext fun x => amt_adds Am.q (fun _ _ => rfl) x sy l A
    rw [e, sum5_add, h.a1 sy, sum5_sel Am.q s sy l hl.ac hl.sy, hl.q, ite_self]; rfl
  · have e : (fun x => (amt (l.foldl lnAdd A) x sy).c) = fun x => (amt A x sy).c + selB Am.c x sy l := funext fun x => amt_adds Am.c (fun _ _ => rfl) x sy l A
    rw [e, sum5_add, h.a2 sy, sum5_sel Am.c s sy l hl.ac hl.sy, hl.c, ite_self]; rfl
  · have e : (fun x => (tot (l.foldl toAdd O) x).1) = fun x => (tot O x).1 + selT (fun b => b.c - b.f) x l := funext fun x => tot_adds1 x l O
    have h1 := hl.c
    have h2 := hl.f
    have e2 := sumB_sub (fun b => b.am.c) (fun b => b.am.f) l
    rw [h1, h2] at e2
    rw [e, sum5_add, h.o1, sum5_selT _ l hl.ac]
    exact (show (0 : Int) + sumB (fun b => b.am.c - b.am.f) l = 0 by rw [e2]; rfl)
  · have e : (fun x => (tot (l.foldl toAdd O) x).2) = fun x => (tot O x).2 + selT (fun b => b.f) x l := funext fun x => tot_adds2 x l O
    have h2 := hl.f
    rw [e, sum5_add, h.o2, sum5_selT _ l hl.ac]
    exact (show (0 : Int) + sumB (fun b => b.am.f) l = 0 by rw [h2]; rfl)
  · rw [sumB_adds Am.q rfl (fun _ _ => rfl) l h.dk, h.t1, hl.q]; rfl
  · rw [sumB_adds Am.c rfl (fun _ _ => rfl) l h.dk, h.t2, hl.c]; rfl
  · rw [sumB_adds Am.f rfl (fun _ _ => rfl) l h.dk, h.t3, hl.f]; rfl
theorem ZS.closed {A T : List Bk} {O : List To} (h : ZS A T O) : ZS A [] O := ⟨h.a1, h.a2, h.o1, h.o2, rfl, rfl, rfl, List.Pairwise.nil, fun b hb => by cases hb⟩
theorem Zb.trade (t : Tr) (h1 : isAcc t.bu) (h2 : isAcc t.se) : Zb (bkL t) t.sy := by
  refine ⟨bkL_all (P := fun b => isAcc b.ac) (fun b p h _ _ => h) h1 h2 (.inr (.inr (.inr (.inl rfl)))), bkL_sy t, ?_, ?_, ?_⟩
  · rw [bkL_sum (fun b => b.am.q) (fun _ _ => rfl) t]
    exact (show t.qt + -t.qt + 0 = 0 by omega)
  · rw [bkL_sum (fun b => b.am.c) (fun _ _ => rfl) t]
    exact (show -(t.pr * t.qt) + t.pr * t.qt + 0 = 0 by omega)
  · rw [bkL_sum (fun b => b.am.f) (fun _ _ => rfl) t]
    exact (show t.bf + t.sf + (-t.bf - t.sf) = 0 by omega)
theorem sumB_opp (g : Bk → Int) (hg : ∀ b : Bk, g b.opp = -g b) : ∀ l : List Bk, sumB g (l.map Bk.opp) = -sumB g l
  | [] => by simp only [List.map_nil, sumB]; rfl
  | b :: l => by simp only [List.map_cons, sumB, sumB_opp g hg l, hg]; omega
theorem Zb.opp {l : List Bk} {s : ByteArray} (h : Zb l s) : Zb (l.map Bk.opp) s := by
  refine ⟨fun b hb => ?_, fun b hb => ?_, ?_, ?_, ?_⟩
  · obtain ⟨x, hx, rfl⟩ := List.mem_map.1 hb
    exact h.ac x hx
  · obtain ⟨x, hx, rfl⟩ := List.mem_map.1 hb
    exact h.sy x hx
  · rw [sumB_opp _ (fun b => rfl), h.q]; rfl
  · rw [sumB_opp _ (fun b => rfl), h.c]; rfl
  · rw [sumB_opp _ (fun b => rfl), h.f]; rfl
set_option maxRecDepth 100000 in
set_option maxHeartbeats 1000000 in
theorem account_any (c : Int) (w : World) (h0 : -9223372036854775808 ≤ c) (h1 : c ≤ 9223372036854775807) :
    Calls Try.prog 16 #[.int .i64 c] w fun e w' => e = .returned (.string (accOf (pickN c 5))) ∧ Below w.heap.size w w' := by
  have hpk := fun w => pick_any c 5 5 rfl w (by omega) (by omega) h0 h1
  have hpl := pickN_lt c (show 0 < 5 by omega)
  have HB : Hid (∀ cs, Below w.heap.size w (w.alloc cs)) := fun cs => (Below.refl _ w).alloc (Nat.le_refl _) _
  generalize pickN c 5 = p at *
  have h5 : p = 0 ∨ p = 1 ∨ p = 2 ∨ p = 3 ∨ p = 4 := by omega
  clear hpl h0 h1
  rcases h5 with rfl | rfl | rfl | rfl | rfl
  all_goals
    go_enter Try.func16, Try.ntmps16
    go_wp2_with (go_at_call 11; fail)
    refine (hpk _).mono ?_
    rintro e w4 ⟨rfl, ew⟩
    replace ew := ew.symm
    subst ew
    go_wp2
    go_ret
    exact ⟨rfl, HB.out _⟩
set_option maxRecDepth 100000 in
set_option maxHeartbeats 1000000 in
theorem symbol_any (c : Int) (w : World) (h0 : -9223372036854775808 ≤ c) (h1 : c ≤ 9223372036854775807) :
    Calls Try.prog 17 #[.int .i64 c] w fun e w' => e = .returned (.string (syOf (pickN c 3))) ∧ Below w.heap.size w w' := by
  have hpk := fun w => pick_any c 3 3 rfl w (by omega) (by omega) h0 h1
  have hpl := pickN_lt c (show 0 < 3 by omega)
  have HB : Hid (∀ cs, Below w.heap.size w (w.alloc cs)) := fun cs => (Below.refl _ w).alloc (Nat.le_refl _) _
  generalize pickN c 3 = p at *
  have h5 : p = 0 ∨ p = 1 ∨ p = 2 := by omega
  clear hpl h0 h1
  rcases h5 with rfl | rfl | rfl
  all_goals
    go_enter Try.func17, Try.ntmps17
    go_wp2_with (go_at_call 11; fail)
    refine (hpk _).mono ?_
    rintro e w4 ⟨rfl, ew⟩
    replace ew := ew.symm
    subst ew
    go_wp2
    go_ret
    exact ⟨rfl, HB.out _⟩
end Go.Proofs.Ytidhahooebepfaa
