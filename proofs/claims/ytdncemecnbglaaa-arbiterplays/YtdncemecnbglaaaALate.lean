/-
  A region that draws its order and whose last operation writes over what its loads read: what is held need not hold behind that one.
-/
import Derived.Test.YtdncemecnbglaaaAMem
namespace Go.Proofs.Ytdncemecnbglaaa
set_option linter.unusedVariables false
set_option linter.unusedSimpArgs false
open Go.RowKit Go.Great

section
variable {P : Program} {ops : Array Oper} {Q : Exit → Act → World → Prop} {md : Region.Mode} {S : World → Prop} {x : Nat}
/-- What has come up had all that it waits for ahead of it. -/
def Closed (md : Region.Mode) (ops : Array Oper) (l : Array Bool) : Prop := ∀ k o, ops[k]? = some o → l.getD k false = true → ∀ e ∈ o.after, Region.binds md e = true → l.getD e.on false = true
/-- x waits for i, by f steps at most. -/
def waits (md : Region.Mode) (ops : Array Oper) (i : Nat) : Nat → Nat → Bool
  | 0, _ => false
  | f + 1, x => match ops[x]? with
    | none => false
    | some o => o.after.any fun e => Region.binds md e && (e.on == i || waits md ops i f e.on)
theorem getD_put (l : Array Bool) (j k : Nat) (h : l.getD k false = true) : (l.setIfInBounds j true).getD k false = true := by
  by_cases hk : k < l.size
  · simp only [Array.getD, Array.size_setIfInBounds, hk, dif_pos, Array.getInternal_eq_getElem] at h ⊢
    rw [Array.getElem_setIfInBounds]
    split
    · rfl
    · exact h
  · simp [Array.getD, hk] at h
theorem getD_put_ne (l : Array Bool) {j k : Nat} (hn : j ≠ k) (h : (l.setIfInBounds j true).getD k false = true) : l.getD k false = true := by
  by_cases hk : k < l.size
  · simp only [Array.getD, Array.size_setIfInBounds, hk, dif_pos, Array.getInternal_eq_getElem] at h ⊢
    rw [Array.getElem_setIfInBounds, if_neg hn] at h
    exact h
  · simp [Array.getD, hk] at h
theorem Closed.put {l : Array Bool} (h : Closed md ops l) {j : Nat} (hj : j ∈ Region.ready md ops l) : Closed md ops (l.setIfInBounds j true) := by
  intro k o hk hl e he hb
  refine getD_put _ _ _ ?_
  by_cases hkj : j = k
  · subst hkj
    obtain ⟨_, o', ho', hall⟩ := mem_ready.1 hj
    rw [hk] at ho'
    injection ho' with ho'
    subst ho'
    exact hall e he hb
  · exact h k o hk (getD_put_ne l hkj hl) e he hb
theorem Closed.start (n : Nat) : Closed md ops (Array.replicate n false) := fun k o _ h => by
  by_cases hk : k < n
  · simp [Array.getD, hk] at h
  · simp [Array.getD, hk] at h
theorem waits_spec {i : Nat} {l : Array Bool} (hc : Closed md ops l) (hi : l.getD i false = false) : ∀ (f x : Nat), waits md ops i f x = true → l.getD x false = false ∧ x ∉ Region.ready md ops l
  | 0, x, h => by cases h
  | f + 1, x, h => by
    unfold waits at h
    split at h
    · cases h
    · rename_i o ho
      have hex : ∃ e, e ∈ o.after ∧ Region.binds md e = true ∧ l.getD e.on false = false := by
        simp only [List.any_eq_true, Array.any_eq_true', Bool.and_eq_true, Bool.or_eq_true, beq_iff_eq] at h
        obtain ⟨e, he, hb, q | q⟩ := h
        · exact ⟨e, he, hb, by rw [q]; exact hi⟩
        · exact ⟨e, he, hb, (waits_spec hc hi f e.on q).1⟩
      obtain ⟨e, he, hb, hun⟩ := hex
      refine ⟨?_, fun hr => ?_⟩
      · cases hx : l.getD x false with
        | false => rfl
        | true => have := hc x o ho hx e he hb; rw [hun] at this; cases this
      · obtain ⟨_, o', ho', hall⟩ := mem_ready.1 hr
        rw [ho] at ho'
        injection ho' with ho'
        subst ho'
        have := hall e he hb
        rw [hun] at this; cases this
/-- Whatever order is picked; S holds behind all but x. -/
def wpAnyL (P : Program) (md : Region.Mode) (ops : Array Oper) (Q : Exit → Act → World → Prop) (S : World → Prop) (x : Nat) : Nat → Array Bool → Act → World → Prop
  | 0, l, a, w => Region.ready md ops l = [] ∧ Q .normal a w
  | f + 1, l, a, w => (Region.ready md ops l = [] → Q .normal a w) ∧ ∀ i ∈ Region.ready md ops l, wpOp P ops Q i (fun a' w' => (i ≠ x → S w') ∧ wpAnyL P md ops Q S x f (l.setIfInBounds i true) a' w') a w
theorem wpAny_of_late : ∀ (f : Nat) (l : Array Bool) (a : Act) (w : World), wpAnyL P md ops Q S x f l a w → wpAny P md ops Q f l a w
  | 0, _, _, _, h => h
  | f + 1, _, _, _, h => ⟨h.1, fun i hi => wpOp_mono (fun a' w' h' => wpAny_of_late f _ a' w' h'.2) (h.2 i hi)⟩
theorem wp_region_late {id : Nat} {a : Act} {w : World} (S : World → Prop) (x : Nat) (hm : P.follows .mixedOrders = true)
    (h : Closed .any ops (Array.replicate ops.size false) → wpAnyL P .any ops Q S x ops.size (Array.replicate ops.size false) a w.drew) : (Code.region id ops true).wp P Q a w :=
  wp_region_any hm (wpAny_of_late _ _ _ _ (h (Closed.start _)))
theorem unlisted {i : Nat} {l : Array Bool} (h : i ∈ Region.ready md ops l) : l.getD i false = false := by
  have h0 := (mem_ready.1 h).1
  by_cases hk : i < l.size
  · simp only [Array.getD, hk, dif_pos] at h0 ⊢; exact h0
  · simp [Array.getD, hk]
theorem wpAnyL_first {i : Nat} {oi : Oper} {v : Value} {n : Nat} (hi : ops[i]? = some oi) (hsel : ∀ (j : Nat) (o : Oper) cs b, ops[j]? = some o → o.op ≠ .select cs b)
    (hQ : ∀ c a w, Q (.panic c) (a.put oi.dst v) w → Q (.panic c) a w) (hx : waits md ops i n x = true) :
    ∀ (f : Nat) (l : Array Bool) (a : Act) (w : World), Closed md ops l →
      (∀ j oj, ops[j]? = some oj → j ≠ i → l.getD j true = false → (∀ e ∈ oj.after, Region.binds md e = true → e.on ≠ i) → oi.apart ops oj = true) →
      i ∈ Region.ready md ops l → YieldsIf P ops S oi v a → S w →
      wpAnyL P md ops Q S x f (l.setIfInBounds i true) (a.put oi.dst v) w → wpAnyL P md ops Q S x (f + 1) l a w := by
  intro f
  induction f with
  | zero =>
    intro l a w _ _ hr hy hS H
    refine ⟨fun h => absurd hr (by rw [h]; simp), fun j hj => ?_⟩
    by_cases hji : j = i
    · subst hji; exact hy.wpOp hi hS ⟨fun _ => hS, H⟩
    · have h2 := ready_mono hj hji
      rw [H.1] at h2
      cases h2
  | succ f ih =>
    intro l a w hc hfree hr hy hS H
    refine ⟨fun h => absurd hr (by rw [h]; simp), fun j hj => ?_⟩
    by_cases hji : j = i
    · subst hji; exact hy.wpOp hi hS ⟨fun _ => hS, H⟩
    · have hjx : j ≠ x := fun e => (waits_spec hc (unlisted hr) n x hx).2 (e ▸ hj)
      obtain ⟨hjun, oj, hoj, hall⟩ := mem_ready.1 hj
      have hnot : ∀ e ∈ oj.after, Region.binds md e = true → e.on ≠ i := fun e he hb q => by
        have h5 := hall e he hb
        rw [q, unlisted hr] at h5
        cases h5
      have h2 := wpOp_putIf hoj (hfree j oj hoj hji hjun hnot) (fun cs b => hsel i oi cs b hi) (fun cs b => hsel j oj cs b hoj) hQ hy (H.2 j (ready_mono hj hji))
      refine wpOp_mono (fun a' w' h3 => ⟨h3.2.1, ih (l.setIfInBounds j true) a' w' (hc.put hj) (fun k ok hk hki hun hno => hfree k ok hk hki ?_ hno) (ready_mono hr (Ne.symm hji)) h3.1 (h3.2.1 hjx) ?_⟩) h2
      · by_cases hjk : j = k
        · subst hjk; exact hjun
        · rw [getD_set_ne true hjk] at hun; exact hun
      · rw [Array.setIfInBounds_comm _ _ hji]; exact h3.2.2
/-- Take i first. -/
theorem takeL {i : Nat} {oi : Oper} {v : Value} {f : Nat} {l : Array Bool} {a : Act} {w : World} (n : Nat) (d : Option Tmp) (hi : ops[i]? = some oi) (hd : oi.dst = d)
    (hs : Region.noSelect ops = true) (hf : Region.free md ops l i = true) (hr : (Region.ready md ops l).contains i = true) (hx : waits md ops i n x = true) (hc : Closed md ops l)
    (hQ : ∀ c a w, Q (.panic c) (a.put d v) w → Q (.panic c) a w) (hy : YieldsIf P ops S oi v a) (hS : S w)
    (h : Closed md ops (l.setIfInBounds i true) → wpAnyL P md ops Q S x f (l.setIfInBounds i true) (a.put d v) w) : wpAnyL P md ops Q S x (f + 1) l a w := by
  subst hd
  have hr' : i ∈ Region.ready md ops l := by simpa using hr
  exact wpAnyL_first hi (Region.noSelect_spec hs) hQ hx f l a w hc (Region.free_spec hi hf) hr' hy hS (h (hc.put hr'))
/-- One alone may come up. -/
theorem oneL {i : Nat} {oi : Oper} {f : Nat} {l : Array Bool} {a : Act} {w : World} (hi : ops[i]? = some oi) (hr : Region.ready md ops l = [i]) (hc : Closed md ops l) (hw : Region.wanted oi (yielded ops a.tmps) = true)
    (h : ∀ K : Act → World → Prop, Shut (∀ a w, (i ≠ x → S w) → (Closed md ops (l.setIfInBounds i true) → wpAnyL P md ops Q S x f (l.setIfInBounds i true) a w) → K a w) → Oper.wp P oi a w K Q) : wpAnyL P md ops Q S x (f + 1) l a w := by
  refine ⟨fun h0 => absurd (hr ▸ h0) (by simp), fun j hj => ?_⟩
  have hj' := hj
  rw [hr] at hj
  obtain rfl := List.mem_singleton.1 hj
  refine wpOp_step hi (fun K' hK => ?_)
  rw [if_pos hw]
  exact h K' (fun a w hS hW => hK a w ⟨hS, hW (hc.put hj')⟩)
theorem doneL {f : Nat} {l : Array Bool} {a : Act} {w : World} (hr : Region.ready md ops l = []) (h : Q .normal a w) : wpAnyL P md ops Q S x f l a w := by
  cases f with
  | zero => exact ⟨hr, h⟩
  | succ f => exact ⟨fun _ => h, fun i hi => by rw [hr] at hi; cases hi⟩
end
end Go.Proofs.Ytdncemecnbglaaa
