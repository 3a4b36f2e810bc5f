/-
  ListingPhases: the turns that are made.
-/
import Derived.Test.YtnhkmfofkhhnaaaDoorLShown
namespace Go.Proofs.YtnhkmfofkhhnaaaDoor
set_option linter.unusedVariables false
set_option linter.unusedSimpArgs false
open Go.Shelf Go.RowKit Go.Sort Go.Lib

def phI (T : List (Int × Int)) : Ins := ⟨⟨#[65, 66, 67]⟩, 10, 1000, [(0, 1), (10000, 10)], 1000, 10000, T, -20, 30⟩
theorem fN_app {T : List (Int × Int)} {x : Int × Int} {j : Nat} : (j < T.length → fN (T ++ [x]) j = fN T j ∧ gN (T ++ [x]) j = gN T j) ∧ (j = T.length → fN (T ++ [x]) j = x.1 ∧ gN (T ++ [x]) j = x.2) := by
  constructor
  · intro h
    unfold fN gN
    rw [List.getD_eq_getElem?_getD, List.getD_eq_getElem?_getD, List.getElem?_append_left h]
    exact ⟨rfl, rfl⟩
  · intro h
    subst h
    unfold fN gN
    rw [List.getD_eq_getElem?_getD, List.getElem?_append_right (Nat.le_refl _)]
    simp
/-- One turn more. -/
theorem OkT.app {T : List (Int × Int)} {m p : Int} (h : OkT (fN T) (gN T) T.length) (hl : T.length < 10) (hm0 : 0 ≤ m) (hm1 : m ≤ 1439) (hu : ∀ j, j + 1 = T.length → fN T j < m) (hp : p = 0 ∨ p = 1 ∨ p = 3 ∨ p = 5) : OkT (fN (T ++ [(m, p)])) (gN (T ++ [(m, p)])) (T ++ [(m, p)]).length := by
  have el : (T ++ [(m, p)]).length = T.length + 1 := by simp
  have e0 := fun j => (fN_app (T := T) (x := (m, p)) (j := j)).1
  have e1 := (fN_app (T := T) (x := (m, p)) (j := T.length)).2 rfl
  rw [el]
  refine ⟨by omega, fun j hj => ?_, fun j hj => ?_, fun j hj => ?_⟩
  · rcases Nat.lt_or_ge j T.length with h1 | h1
    · rw [(e0 j h1).1]; exact h.mn j h1
    · rw [show j = T.length by omega, e1.1]; exact ⟨hm0, hm1⟩
  · rcases Nat.lt_or_ge (j + 1) T.length with h1 | h1
    · rw [(e0 j (by omega)).1, (e0 (j + 1) h1).1]; exact h.up j h1
    · rw [show j + 1 = T.length by omega, e1.1, (e0 j (by omega)).1]; exact hu j (by omega)
  · rcases Nat.lt_or_ge j T.length with h1 | h1
    · rw [(e0 j h1).2]; exact h.ph j h1
    · rw [show j = T.length by omega, e1.2]; exact hp
theorem OkT.nil : OkT (fN []) (gN []) 0 := ⟨by decide, fun j hj => by omega, fun j hj => by omega, fun j hj => by omega⟩
/-- The last minute so far. -/
def laV (T : List (Int × Int)) : Int := leaV (fN T) T.length - 1
theorem laV_app (T : List (Int × Int)) (m p : Int) : laV (T ++ [(m, p)]) = m := by
  unfold laV
  rw [show (T ++ [(m, p)]).length = T.length + 1 by simp, leaV, ((fN_app (T := T) (x := (m, p)) (j := T.length)).2 rfl).1]
  omega
theorem laV_bd {T : List (Int × Int)} (h : OkT (fN T) (gN T) T.length) : -1 ≤ laV T ∧ laV T ≤ 1439 ∧ ∀ j, j + 1 = T.length → fN T j = laV T := by
  unfold laV
  cases hl : T.length with
  | zero => exact ⟨by simp [leaV], by simp [leaV], fun j hj => by omega⟩
  | succ k =>
    have := h.mn k (by omega)
    rw [leaV]
    exact ⟨by omega, by omega, fun j hj => by rw [show j = k by omega]; omega⟩
/-- What stands while turns are made. -/
structure TS (w wx : World) (g : Nat) (vS : Value) (aT : Option Addr) (cT : Nat) (T : List (Int × Int)) : Prop where
  below : Below w.heap.size w wx
  low : w.heap.size ≤ g
  blk : Blk wx g 31 ((phI T).cs vS (.slice aT T.length cT))
  tur : OwnT 35 wx w.heap.size (.slice aT T.length cT) T
  ok : OkT (fN T) (gN T) T.length
theorem TS.drew {w wx : World} {g : Nat} {vS : Value} {aT : Option Addr} {cT : Nat} {T : List (Int × Int)} (h : TS w wx g vS aT cT T) : TS w wx.drew g vS aT cT T := ⟨h.below.drew, h.low, h.blk, h.tur, h.ok⟩
theorem OwnT.ne_blk {T T' : TypeId} {w : World} {B g : Nat} {v : Value} {l : List (Int × Int)} {cs : Array Value} (h : OwnT T w B v l) (hb : Blk w g T' cs) (hne : T ≠ T') : v.ownBlock ≠ some g := fun e => by
  obtain ⟨_, h2⟩ := h
  rcases h2 with ⟨rfl, _⟩ | ⟨g', cap, cur, rfl, r1, r2, _⟩
  · cases e
  · have : g' = g := by simpa [Value.ownBlock] using e
    subst this
    rw [show w.heap[g']? = some (.cells cs T' (0, 0)) from hb] at r2
    injection r2 with r2
    injection r2 with _ r2
    exact hne r2.symm
theorem TS.app {w wx W w2 : World} {g g2 cap : Nat} {vS : Value} {aT : Option Addr} {cT : Nat} {T : List (Int × Int)} {m p : Int} {o1 o2 : Obj} (h : TS w wx g vS aT cT T) (hW : W = (wx.alloc o1).alloc o2) (hl : T.length < 10) (hm0 : 0 ≤ m) (hm1 : m ≤ 1439) (hu : laV T < m) (hp : p = 0 ∨ p = 1 ∨ p = 3 ∨ p = 5)
    (ho : w2.ownsRow w.heap.size 35 2 (.slice (some ⟨g2, 0, none⟩) (T.length + 1) cap) (T.length + 1) (tcs T ++ [.int .i64 m, .int .i64 p])) (hg : W.grownBy w2 (Value.slice aT T.length cT).ownBlock) :
    TS w (w2.setCell ⟨g, 6, none⟩ (.slice (some ⟨g2, 0, none⟩) (T.length + 1) cap)) g vS (some ⟨g2, 0, none⟩) cap (T ++ [(m, p)]) ∧ w2.cell? ⟨g, 6, none⟩ = some (.slice aT T.length cT) ∧ w2.frozen? ⟨g, 6, none⟩ = false := by
  subst hW
  have hsz := h.below.size
  have hgl := h.blk.lt
  have hne := h.tur.ne_blk h.blk (by decide)
  have hb2 : Blk w2 g 31 ((phI T).cs vS (.slice aT T.length cT)) := (hg.block g (by simp; omega) (fun e => hne e.symm)).trans ((h.blk.alloc _).alloc _)
  have hB : Below w.heap.size w w2 := Below.grown ((h.below.alloc hsz _).alloc (by simp; omega) _) hg (by simp; omega) (fun q hq => (h.tur.lt q hq).1)
  have hel : (T ++ [(m, p)]).length = T.length + 1 := by simp
  have ho' : OwnT 35 w2 w.heap.size (.slice (some ⟨g2, 0, none⟩) (T.length + 1) cap) (T ++ [(m, p)]) := by
    unfold OwnT; rw [hel, tcs_app]; exact ho
  have hne2 := ho'.ne_blk hb2 (by decide)
  refine ⟨⟨below_set hB h.low _ _, h.low, ?_, ?_, h.ok.app hl hm0 hm1 (fun j hj => by rw [(laV_bd h.ok).2.2 j hj]; exact hu) hp⟩, hb2.cell 6, hb2.frozen 6⟩
  · rw [hel]; exact hb2.set 6 _
  · rw [hel]
    refine ownsRow_of_block ho' fun q hq => Below.heap_setCell _ _ _ _ (fun e => ?_)
    have : q = g := e
    subst this
    exact hne2 hq
theorem phs4 (k : Nat) (hk : k < 4) : (#[Value.int .i64 0, .int .i64 1, .int .i64 3, .int .i64 5] : Array Value)[k]? = some (.int .i64 ([0, 1, 3, 5].getD k 0)) ∧ ([0, 1, 3, 5].getD k 0 = (0 : Int) ∨ [0, 1, 3, 5].getD k 0 = (1 : Int) ∨ [0, 1, 3, 5].getD k 0 = (3 : Int) ∨ [0, 1, 3, 5].getD k 0 = (5 : Int)) := by
  have : k = 0 ∨ k = 1 ∨ k = 2 ∨ k = 3 := by omega
  rcases this with rfl | rfl | rfl | rfl <;> exact ⟨rfl, by simp⟩
theorem insB_phI {T : List (Int × Int)} (h : OkT (fN T) (gN T) T.length) : insB (phI T) = true := by
  have h0 := exI_ok
  unfold insB at h0 ⊢
  rw [Bool.and_eq_true, Bool.and_eq_true] at h0 ⊢
  exact ⟨⟨h0.1.1, tuB_of h⟩, h0.2⟩
def pjV (g : Int) (j k : Nat) : Int := if j < k then g else -1
theorem tm_bd (z : Int) : -253402300799999 ≤ z.tmod 253402300800000 ∧ z.tmod 253402300800000 ≤ 253402300799999 := by
  rcases Int.le_total 0 z with h | h
  · rw [Int.tmod_eq_emod_of_nonneg h]; omega
  · have : z.tmod 253402300800000 = -((-z).tmod 253402300800000) := by rw [Int.neg_tmod, Int.neg_neg]
    rw [this, Int.tmod_eq_emod_of_nonneg (by omega)]; omega
/-- What is told of a time. -/
theorem told_time {z : Int} (h : isT z = true) : doV z = (dateN (dyN z) : Int) ∧ stE z = 0 := ⟨by unfold doV dyN; rw [h]; rfl, by unfold stE; rw [h]; rfl⟩
/-- Where the next turn lies, and what is told there. -/
theorem nx_told {M P : Nat → Int} {m : Nat} {z : Int} (hT : isT z = true) (hO : OkT M P m) (hm : 0 < m) :
    (nxF noS M m z = 0 ∧ 253401436799999 < z) ∨
    ∃ (K j : Nat), nxF noS M m z = (K : Int) * 86400000 + M j * 60000 ∧ K ≤ 2932896 ∧ isOpen noS K = true ∧ j < m ∧ z < (K : Int) * 86400000 + M j * 60000 ∧ phF noS M P m ((K : Int) * 86400000 + M j * 60000) = P j ∧ (0 < K ∨ 0 < M j) ∧
      ((K = dyN z ∧ phF noS M P m ((K : Int) * 86400000 + M j * 60000 - 1) = phF noS M P m z) ∨
       (dyN z < K ∧ j = 0 ∧ ((M j = 0 ∧ (nxF noS M m ((K : Int) * 86400000) = 0 ∨ (K : Int) * 86400000 + M j * 60000 < nxF noS M m ((K : Int) * 86400000))) ∨ (M j ≠ 0 ∧ nxF noS M m ((K : Int) * 86400000) = (K : Int) * 86400000 + M j * 60000 ∧ phF noS M P m ((K : Int) * 86400000) = 0)))) := by
  obtain ⟨hd, r, r0, r1, hz, hmz⟩ := time_parts hT
  rcases nx_cases (S := noS) hT hO hm with ⟨h1, h2, h3⟩ | ⟨h1, h2⟩ | ⟨K, h1, h2⟩
  · right
    obtain ⟨x, hx, e, g1, g2, g3⟩ := ph_same (S := noS) hT hO h1 h2
    rw [← e] at h3
    refine ⟨dyN z, x, h3, hd, h1, hx, g1, g2, ?_, .inl ⟨rfl, g3⟩⟩
    have := hO.mn x hx
    omega
  · left
    have := goUp_end3 noS_no h2
    exact ⟨h1, by omega⟩
  · right
    obtain ⟨a1, a2, a3⟩ := goUp_some h1
    obtain ⟨b1, b2⟩ := ph_other (S := noS) hO hm a2 a3
    have := hO.mn 0 hm
    exact ⟨K, 0, h2, a2, a3, hm, by omega, b1, .inl (by omega), .inr ⟨a1, rfl, b2⟩⟩
end Go.Proofs.YtnhkmfofkhhnaaaDoor
