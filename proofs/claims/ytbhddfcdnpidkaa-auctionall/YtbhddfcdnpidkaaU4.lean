/-
  auction, plain: the result, and why nothing trades more.
-/
import Derived.Test.YtbhddfcdnpidkaaU3
namespace Go.Proofs.Ytbhddfcdnpidkaa
set_option linter.unusedVariables false

structure Rs where
  price : Int
  qty : Int
  over : Int
  side : Int
def Rs.nil : Rs := ⟨0, 0, 0, 0⟩
def Pt.res (p : Pt) : Rs := ⟨p.c, p.tr, p.ov, p.sd⟩
def resOf (ref : Int) (l : List Pt) : Rs := match chsV ref (bestL l) with
  | none => Rs.nil
  | some p => p.res
theorem chsV_none {ref : Int} {l : List Pt} (h : chsV ref l = none) : l = [] := by
  cases l with
  | nil => rfl
  | cons a l =>
    exfalso
    unfold chsV at h
    split at h
    · simp at h
    · split at h
      · simp at h
      · simp at h
theorem resOf_cases (ref : Int) {l : List Pt} (hs : l.Pairwise fun a b => a.c < b.c) : (bestL l = [] ∧ resOf ref l = Rs.nil) ∨ ∃ p, Chs l ref p ∧ resOf ref l = p.res := by
  unfold resOf
  cases h : chsV ref (bestL l) with
  | none => exact .inl ⟨chsV_none h, rfl⟩
  | some p => exact .inr ⟨p, chsV_spec hs h, rfl⟩
def ptsOf (B S : List Wn) (C : List Int) : List Pt := C.map fun c => ⟨c, bo B c, so S c⟩
/-- The candidates of two rows. -/
structure Cnd (B S : List Wn) (ref : Int) (C : List Int) : Prop where
  asc : C.Pairwise fun a b => a < b
  mem : ∀ c, c ∈ C ↔ (c = ref ∧ ref ≠ 0) ∨ (∃ w ∈ B, w.m = false ∧ w.p = c) ∨ ∃ w ∈ S, w.m = false ∧ w.p = c
section
variable {B S : List Wn} {ref : Int} {C : List Int}
theorem pts_asc (h : Cnd B S ref C) : (ptsOf B S C).Pairwise fun a b => a.c < b.c := List.pairwise_map.2 h.asc
theorem pt_tr (c : Int) : (⟨c, bo B c, so S c⟩ : Pt).tr = tr B S c := rfl
theorem tr_nn (hb : ∀ w ∈ B, 0 ≤ w.q) (hs : ∀ w ∈ S, 0 ≤ w.q) (p : Int) : 0 ≤ tr B S p := by
  have h1 : 0 ≤ bo B p := sumW_nn hb
  have h2 : 0 ≤ so S p := sumW_nn hs
  unfold tr
  split <;> omega
/-- No price trades more. -/
theorem most_no (h : Cnd B S ref C) (hb : ∀ w ∈ B, 0 ≤ w.q) (hs : ∀ w ∈ S, 0 ≤ w.q) (hC : C ≠ []) (p : Int) : tr B S p ≤ (resOf ref (ptsOf B S C)).qty := by
  obtain ⟨c, hc, hle⟩ := tr_cand hb hs (fun w hw hm => (h.mem _).2 (.inr (.inl ⟨w, hw, hm, rfl⟩))) (fun w hw hm => (h.mem _).2 (.inr (.inr ⟨w, hw, hm, rfl⟩))) hC p
  have hin : (⟨c, bo B c, so S c⟩ : Pt) ∈ ptsOf B S C := List.mem_map.2 ⟨c, hc, rfl⟩
  rcases resOf_cases ref (pts_asc h) with ⟨e1, e2⟩ | ⟨q, hq, e⟩
  · rw [e2]
    have := bestL_none (l := ptsOf B S C) (fun q hq => by
      obtain ⟨d, _, rfl⟩ := List.mem_map.1 hq
      exact tr_nn hb hs d) e1 _ hin
    rw [pt_tr] at this
    show _ ≤ (0 : Int)
    omega
  · rw [e]
    have h1 := (bestL_mem.1 hq.1).2.2 _ hin
    show _ ≤ q.tr
    unfold Pt.lt at h1
    rw [pt_tr] at h1
    omega
/-- Of those that trade as much none leaves less over. -/
theorem most_over (h : Cnd B S ref C) {p : Int} (hp : p ∈ C) (hq : tr B S p = (resOf ref (ptsOf B S C)).qty) (h0 : 0 < tr B S p) : (resOf ref (ptsOf B S C)).over ≤ bo B p + so S p - 2 * tr B S p := by
  have hin : (⟨p, bo B p, so S p⟩ : Pt) ∈ ptsOf B S C := List.mem_map.2 ⟨p, hp, rfl⟩
  rcases resOf_cases ref (pts_asc h) with ⟨_, e2⟩ | ⟨q, hq2, e⟩
  · rw [e2] at hq
    have : tr B S p = 0 := hq
    omega
  · rw [e] at hq ⊢
    have h1 := (bestL_mem.1 hq2.1).2.2 _ hin
    have h2 : tr B S p = q.tr := hq
    show q.ov ≤ _
    unfold Pt.lt at h1
    rw [pt_tr] at h1
    have h3 : (⟨p, bo B p, so S p⟩ : Pt).ov = bo B p + so S p - 2 * tr B S p := by
      show (if bo B p ≤ so S p then so S p else bo B p) - (if bo B p ≤ so S p then bo B p else so S p) = _
      unfold tr
      split <;> omega
    rw [h3] at h1
    omega
/-- The result says what is traded and over at its price. -/
theorem most_at (h : Cnd B S ref C) (h0 : (resOf ref (ptsOf B S C)).price ≠ 0) : (resOf ref (ptsOf B S C)).price ∈ C ∧ 0 < (resOf ref (ptsOf B S C)).qty ∧ tr B S (resOf ref (ptsOf B S C)).price = (resOf ref (ptsOf B S C)).qty ∧ bo B (resOf ref (ptsOf B S C)).price + so S (resOf ref (ptsOf B S C)).price - 2 * tr B S (resOf ref (ptsOf B S C)).price = (resOf ref (ptsOf B S C)).over ∧ ((resOf ref (ptsOf B S C)).side = 1 ↔ so S (resOf ref (ptsOf B S C)).price < bo B (resOf ref (ptsOf B S C)).price) ∧ ((resOf ref (ptsOf B S C)).side = 2 ↔ bo B (resOf ref (ptsOf B S C)).price < so S (resOf ref (ptsOf B S C)).price) := by
  rcases resOf_cases ref (pts_asc h) with ⟨_, e2⟩ | ⟨q, hq2, e⟩
  · rw [e2] at h0; exact absurd rfl h0
  · rw [e]
    obtain ⟨h1, h2, _⟩ := bestL_mem.1 hq2.1
    obtain ⟨c, hc, rfl⟩ := List.mem_map.1 h1
    refine ⟨hc, h2, rfl, ?_, ?_, ?_⟩
    · show bo B c + so S c - 2 * tr B S c = (if bo B c ≤ so S c then so S c else bo B c) - (if bo B c ≤ so S c then bo B c else so S c)
      unfold tr
      split <;> omega
    · show (if so S c < bo B c then (1 : Int) else if bo B c < so S c then 2 else 0) = 1 ↔ so S c < bo B c
      split
      · simp_all
      · split <;> simp_all
    · show (if so S c < bo B c then (1 : Int) else if bo B c < so S c then 2 else 0) = 2 ↔ bo B c < so S c
      split
      · simp; omega
      · split <;> simp_all
/-- There is a price where something is traded, and nowhere else. -/
theorem most_iff (h : Cnd B S ref C) (hpos : ∀ c ∈ C, 0 < c) : (0 < (resOf ref (ptsOf B S C)).qty ↔ 0 < (resOf ref (ptsOf B S C)).price) := by
  rcases resOf_cases ref (pts_asc h) with ⟨_, e2⟩ | ⟨q, hq2, e⟩
  · rw [e2]; exact Iff.rfl
  · rw [e]
    obtain ⟨h1, h2, _⟩ := bestL_mem.1 hq2.1
    obtain ⟨c, hc, rfl⟩ := List.mem_map.1 h1
    exact ⟨fun _ => hpos c hc, fun _ => h2⟩
end
/-- Alike rows give alike results, in whatever order they stand. -/
theorem resOf_perm {B S B' S' : List Wn} {ref : Int} {C C' : List Int} (hB : B.Perm B') (hS : S.Perm S') (h : Cnd B S ref C) (h' : Cnd B' S' ref C') : resOf ref (ptsOf B S C) = resOf ref (ptsOf B' S' C') := by
  have hm : ∀ c, c ∈ C ↔ c ∈ C' := fun c => by
    rw [h.mem, h'.mem]
    exact ⟨fun k => k.imp id fun k => k.imp (fun ⟨w, a, b⟩ => ⟨w, hB.mem_iff.1 a, b⟩) fun ⟨w, a, b⟩ => ⟨w, hS.mem_iff.1 a, b⟩, fun k => k.imp id fun k => k.imp (fun ⟨w, a, b⟩ => ⟨w, hB.mem_iff.2 a, b⟩) fun ⟨w, a, b⟩ => ⟨w, hS.mem_iff.2 a, b⟩⟩
  have nd : ∀ {D : List Int}, D.Pairwise (fun a b => a < b) → D.Nodup := fun h => h.imp fun h => by omega
  have hp : C.Perm C' := (List.perm_ext_iff_of_nodup (nd h.asc) (nd h'.asc)).2 hm
  have he : C = C' := hp.eq_of_pairwise (le := fun a b => a ≤ b) (fun a b _ _ h1 h2 => Int.le_antisymm h1 h2) (h.asc.imp fun h => Int.le_of_lt h) (h'.asc.imp fun h => Int.le_of_lt h)
  subst he
  congr 1
  unfold ptsOf
  refine List.map_congr_left fun c _ => ?_
  unfold bo so
  rw [sumW_perm hB, sumW_perm hS]
end Go.Proofs.Ytbhddfcdnpidkaa
