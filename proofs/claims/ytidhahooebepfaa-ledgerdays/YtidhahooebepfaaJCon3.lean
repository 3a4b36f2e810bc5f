/-
  LedgerConserves: sums by parts; the Net's own loop (plain and memory).
-/
import Derived.Test.YtidhahooebepfaaJCon2
namespace Go.Proofs.Ytidhahooebepfaa
set_option linter.unusedVariables false
set_option linter.unusedSimpArgs false
open Go.RowKit Go.Great Go.Maps

theorem pickN_small {c n : Nat} (h : c < n) : pickN (c : Int) n = c := by
  unfold pickN
  rw [if_neg (by omega), Int.emod_eq_of_lt (by omega) (by omega)]
  exact Int.toNat_natCast c
def part (f : ByteArray → Int) : Nat → Int
  | 0 => 0
  | j + 1 => part f j + f (accOf j)
theorem part_five (f : ByteArray → Int) : part f 5 = sum5 f := by
  show 0 + f (accOf 0) + f (accOf 1) + f (accOf 2) + f (accOf 3) + f (accOf 4) = sum5 f
  show 0 + f sa + f sb + f sc + f sE + f sab = f sa + f sb + f sc + f sE + f sab
  omega
theorem part_bd {f : ByteArray → Int} {B : Int} (h : ∀ x, -B ≤ f x ∧ f x ≤ B) : ∀ j : Nat, -((j : Int) * B) ≤ part f j ∧ part f j ≤ (j : Int) * B
  | 0 => by simp [part]
  | j + 1 => by
    have ih := part_bd h j
    have h1 := h (accOf j)
    have e : ((j + 1 : Nat) : Int) * B = (j : Int) * B + B := by rw [Int.natCast_succ, Int.add_mul, Int.one_mul]
    rw [e]
    simp only [part]
    constructor <;> omega
theorem part_in {f : ByteArray → Int} (h : ∀ x, -1000000000000000000 ≤ f x ∧ f x ≤ 1000000000000000000) {j : Nat} (hj : j ≤ 5) : -5000000000000000000 ≤ part f j ∧ part f j ≤ 5000000000000000000 := by
  have := part_bd h j
  omega
theorem CI.inA {w W : World} {G : Lg} {i : Nat} (h : CI w W G i) (hi : i ≤ 300) (sy : ByteArray) : (∀ x, -1000000000000000000 ≤ (amt G.A x sy).q ∧ (amt G.A x sy).q ≤ 1000000000000000000) ∧ ∀ x, -1000000000000000000 ≤ (amt G.A x sy).c ∧ (amt G.A x sy).c ≤ 1000000000000000000 := by
  refine ⟨fun x => ?_, fun x => ?_⟩
  all_goals
    have h1 := h.bd.a x sy
    unfold Am.inn mM at h1
    constructor <;> omega
theorem CI.inO {w W : World} {G : Lg} {i : Nat} (h : CI w W G i) (hi : i ≤ 300) : (∀ x, -1000000000000000000 ≤ (tot G.O x).1 ∧ (tot G.O x).1 ≤ 1000000000000000000) ∧ ∀ x, -1000000000000000000 ≤ (tot G.O x).2 ∧ (tot G.O x).2 ≤ 1000000000000000000 := by
  refine ⟨fun x => ?_, fun x => ?_⟩
  all_goals
    have h1 := h.bd.o x
    unfold mM at h1
    constructor <;> omega
/-- The accounts' sums, as the law reads them. -/
theorem CI.cash {w W : World} {G : Lg} {i j : Nat} (h : CI w W G i) (hi : i ≤ 300) (hj : j < 5) :
    (-5000000000000000000 ≤ part (fun x => (tot G.O x).1) j ∧ part (fun x => (tot G.O x).1) j ≤ 5000000000000000000) ∧ (-5000000000000000000 ≤ part (fun x => (tot G.O x).2) j ∧ part (fun x => (tot G.O x).2) j ≤ 5000000000000000000) ∧ (-1000000000000000000 ≤ (tot G.O (accOf j)).1 ∧ (tot G.O (accOf j)).1 ≤ 1000000000000000000) ∧ (-1000000000000000000 ≤ (tot G.O (accOf j)).2 ∧ (tot G.O (accOf j)).2 ≤ 1000000000000000000) :=
  ⟨part_in (h.inO hi).1 (by omega), part_in (h.inO hi).2 (by omega), (h.inO hi).1 _, (h.inO hi).2 _⟩
theorem CI.bal {w W : World} {G : Lg} {i j : Nat} (h : CI w W G i) (hi : i ≤ 300) (hj : j < 5) (sy : ByteArray) :
    (-5000000000000000000 ≤ part (fun x => (amt G.A x sy).q) j ∧ part (fun x => (amt G.A x sy).q) j ≤ 5000000000000000000) ∧ (-5000000000000000000 ≤ part (fun x => (amt G.A x sy).c) j ∧ part (fun x => (amt G.A x sy).c) j ≤ 5000000000000000000) ∧ (-1000000000000000000 ≤ (amt G.A (accOf j) sy).q ∧ (amt G.A (accOf j) sy).q ≤ 1000000000000000000) ∧ (-1000000000000000000 ≤ (amt G.A (accOf j) sy).c ∧ (amt G.A (accOf j) sy).c ≤ 1000000000000000000) :=
  ⟨part_in (h.inA hi sy).1 (by omega), part_in (h.inA hi sy).2 (by omega), (h.inA hi sy).1 _, (h.inA hi sy).2 _⟩
/-- What Net tells stands in strict order. -/
theorem net_lt {T net : List Bk} (hp : net.Perm T) (hd : DK T) (hs : net.Pairwise (fun a b => ¬ ltB b a)) {j : Nat} {a b : Bk} (ha : net[j]? = some a) (hb : net[j + 1]? = some b) : ltB a b := by
  obtain ⟨h1, rfl⟩ := List.getElem?_eq_some_iff.1 ha
  obtain ⟨h2, rfl⟩ := List.getElem?_eq_some_iff.1 hb
  have hk : net.Pairwise (fun a b => ¬ (a.ac = b.ac ∧ a.sy = b.sy)) := (hp.pairwise_iff (fun {x y} h => fun e => h ⟨e.1.symm, e.2.symm⟩)).2 hd
  have k1 := List.pairwise_iff_getElem.1 hs j (j + 1) h1 h2 (by omega)
  have k2 := List.pairwise_iff_getElem.1 hk j (j + 1) h1 h2 (by omega)
  exact Classical.byContradiction fun hn => k2 (ltB_tri hn k1)
theorem sumB_snoc (g : Bk → Int) {l : List Bk} {j : Nat} {b : Bk} (h : l[j]? = some b) : sumB g (l.take (j + 1)) = sumB g (l.take j) + g b := by
  obtain ⟨h1, rfl⟩ := List.getElem?_eq_some_iff.1 h
  rw [← List.take_append_getElem h1, sumB_app]
  simp only [sumB]; omega
theorem sumB_bd {g : Bk → Int} {B : Int} : ∀ {l : List Bk}, (∀ b ∈ l, -B ≤ g b ∧ g b ≤ B) → -((l.length : Int) * B) ≤ sumB g l ∧ sumB g l ≤ (l.length : Int) * B
  | [], _ => by simp [sumB]
  | b :: l, h => by
    have ih := sumB_bd (l := l) fun x hx => h x (.tail _ hx)
    have h1 := h b (.head _)
    have e : (((b :: l).length : Nat) : Int) * B = (l.length : Int) * B + B := by rw [List.length_cons, Int.natCast_succ, Int.add_mul, Int.one_mul]
    rw [e]
    simp only [sumB]
    constructor <;> omega
end Go.Proofs.Ytidhahooebepfaa
