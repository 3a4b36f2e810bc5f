/-
  A great region that draws its order, each of whose operations but the last writes a slot of its own, by the slots ahead of it, and yields the same value in every world: whatever the order, the slots are as in the order of the text.
-/
import Derived.Test.YtjnnecoikcmaeaaTP0
import Derived.Great.Walk
import Derived.Deep.RegionHeld3
import Derived.Deep.Quiet
namespace Go.Proofs.Ytjnnecoikcmaeaa
set_option linter.unusedVariables false
open Go.RowKit Go.Great

/-- Operation i writes slot b + i; it looks at slots below b, and at those of operations that it waits for. -/
def ssaB (ops : Array Oper) (b i : Nat) (last : Bool) (o : Oper) : Bool :=
  o.guard.isNone && (match o.op with | .select .. => false | _ => true) && (if last then o.dst.isNone else o.dst == some (b + i)) &&
  ((o.looksAt ops).all fun t => decide (t < b) || (decide (t < b + i) && o.after.any fun e => Region.binds .any e && e.on == t - b)) && o.after.all (fun e => decide (e.on < i))
def ssaL (ops : Array Oper) (b n : Nat) : Nat → List Oper → Bool
  | _, [] => true
  | i, o :: l => ssaB ops b i (i == n) o && ssaL ops b n (i + 1) l
theorem ssaL_at {ops : Array Oper} {b n : Nat} : ∀ (l : List Oper) (i : Nat), ssaL ops b n i l = true → ∀ j o, l[j]? = some o → ssaB ops b (i + j) (i + j == n) o = true
  | [], i, h, j, o, hj => by simp at hj
  | x :: l, i, h, j, o, hj => by
    simp only [ssaL, Bool.and_eq_true] at h
    cases j with
    | zero => simp at hj; subst hj; exact h.1
    | succ j =>
      have := ssaL_at l (i + 1) h.2 j o (by simpa using hj)
      rw [show i + (j + 1) = i + 1 + j by omega]
      exact this
structure Ssa (ops : Array Oper) (b n : Nat) : Prop where
  size : ops.size = n + 1
  at_ : ∀ i o, ops[i]? = some o → ssaB ops b i (i == n) o = true
theorem ssa_of {ops : Array Oper} {b n : Nat} (hn : ops.size = n + 1) (h : ssaL ops b n 0 ops.toList = true) : Ssa ops b n :=
  ⟨hn, fun i o hi => by simpa using ssaL_at ops.toList 0 h i o (by simpa using hi)⟩
theorem ssaB_spec {ops : Array Oper} {b i : Nat} {last : Bool} {o : Oper} (h : ssaB ops b i last o = true) :
    o.guard = none ∧ (∀ cs d, o.op ≠ .select cs d) ∧ o.dst = (if last then none else some (b + i)) ∧ (∀ t : Nat, t ∈ o.looksAt ops → t < b ∨ (t < b + i ∧ ∃ e ∈ o.after, Region.binds .any e = true ∧ e.on = t - b)) ∧ ∀ e ∈ o.after, e.on < i := by
  simp only [ssaB, Bool.and_eq_true] at h
  obtain ⟨⟨⟨⟨h1, h2⟩, h3⟩, h4⟩, h5⟩ := h
  refine ⟨by simpa using h1, (fun cs d e => by rw [e] at h2; cases h2), ?_, fun t ht => ?_, fun e he => ?_⟩
  · cases last
    · simpa using h3
    · simpa using h3
  · have := List.all_eq_true.1 h4 t ht
    simp only [Bool.or_eq_true, Bool.and_eq_true, decide_eq_true_eq] at this
    rcases this with h | ⟨h, h'⟩
    · exact .inl h
    · obtain ⟨e, he, hb⟩ := Array.any_eq_true'.1 h'
      simp only [Bool.and_eq_true, beq_iff_eq] at hb
      exact .inr ⟨h, e, he, hb.1, hb.2⟩
  · have := Array.all_eq_true_iff_forall_mem.1 h5 e he
    simpa using this
/-- The first i are done. -/
structure Lst (N i : Nat) (listed : Array Bool) : Prop where
  size : listed.size = N
  at_ : ∀ j, j < N → listed[j]? = some (decide (j < i))
theorem Lst.no {N i j : Nat} {listed : Array Bool} (h : Lst N i listed) (hj : listed.getD j true = false) : i ≤ j ∧ j < N := by
  by_cases hN : j < N
  · have e : listed.getD j true = decide (j < i) := by rw [Array.getD_eq_getD_getElem?, h.at_ j hN]; rfl
    rw [e] at hj
    have := of_decide_eq_false hj
    omega
  · rw [Array.getD_eq_getD_getElem?, Array.getElem?_eq_none (by rw [h.size]; omega)] at hj
    cases hj
theorem Lst.yes {N i j : Nat} {listed : Array Bool} (h : Lst N i listed) (hj : j < i) (hi : i ≤ N) : listed.getD j false = true := by
  rw [Array.getD_eq_getD_getElem?, h.at_ j (by omega)]; simpa using hj
theorem Lst.un {N i : Nat} {listed : Array Bool} (h : Lst N i listed) (hi : i < N) : listed.getD i true = false := by
  rw [Array.getD_eq_getD_getElem?, h.at_ i hi]; simp
theorem Lst.next {N i : Nat} {listed : Array Bool} (h : Lst N i listed) (hi : i < N) : Lst N (i + 1) (listed.setIfInBounds i true) := by
  refine ⟨by simp [h.size], fun j hj => ?_⟩
  by_cases e : i = j
  · subst e
    rw [Array.getElem?_setIfInBounds_self_of_lt (by rw [h.size]; exact hi)]; simp
  · rw [Array.getElem?_setIfInBounds_ne e, h.at_ j hj]
    congr 1
    by_cases h2 : j < i
    · simp [h2, Nat.lt_succ_of_lt h2]
    · have : ¬ j < i + 1 := by omega
      simp [h2, this]
/-- The slots when the first i are done. -/
def ssaA (T : List Value) (b n i : Nat) : Act := ⟨(T.take (b + i) ++ List.replicate (n - i) undef).toArray, []⟩
theorem ssaA_put (T : List Value) (b n i : Nat) (v : Value) (hi : i < n) (hv : T[b + i]? = some v) : (ssaA T b n i).put (some (b + i)) v = ssaA T b n (i + 1) := by
  have hlt := (List.getElem?_eq_some_iff.1 hv).1
  unfold ssaA Act.put
  simp only [List.setIfInBounds_toArray, Act.mk.injEq, and_true]
  congr 1
  rw [List.set_append_right _ _ (by rw [List.length_take]; omega), List.length_take, show b + i - min (b + i) T.length = 0 by omega, show n - i = (n - (i + 1)) + 1 by omega, List.replicate_succ, List.set_cons_zero, show b + (i + 1) = b + i + 1 by omega, List.take_add_one, hv]
  simp
theorem ssaA_eval (T : List Value) (b n i : Nat) (x : Operand) (hT : b + n ≤ T.length) (hi : i ≤ n) (h : ∀ t : Nat, x = .tmp t → t < b + i) : (ssaA T b n i).eval x = (⟨T.toArray, []⟩ : Act).eval x := by
  cases x with
  | tmp t =>
    have : @LT.lt Nat _ t (b + i) := h t rfl
    simp only [Act.eval, ssaA, Array.getD_eq_getD_getElem?, List.getElem?_toArray]
    rw [List.getElem?_append_left (by rw [List.length_take]; omega), List.getElem?_take_of_lt this]
  | _ => rfl
theorem wpAny_ssa {P : Program} {ops : Array Oper} {Q : Exit → Act → World → Prop} {b n : Nat} (hS : Ssa ops b n) (T : List Value) (hT : T.length = b + n)
    (hrun : ∀ i o v, i < n → ops[i]? = some o → T[b + i]? = some v → ∀ w, (execOp (⟨T.toArray, []⟩ : Act).eval o).run P w = .ok (.value v) w) (z : Oper) (hz : ops[n]? = some z) (w : World)
    (h : z.wp P (⟨T.toArray, []⟩ : Act) w (fun a w => Q .normal a w) (NoPanic Q)) : ∀ m i listed, i + m = n → Lst (n + 1) i listed → wpAny P .any ops (NoPanic Q) (m + 1) listed (ssaA T b n i) w := by
  have hsel : ∀ (j : Nat) (o : Oper) cs d, ops[j]? = some o → o.op ≠ .select cs d := fun j o cs d ho => (ssaB_spec (hS.at_ j o ho)).2.1 cs d
  intro m
  induction m with
  | zero =>
    intro i listed hi hL
    obtain rfl : i = n := by omega
    have e : ssaA T b i i = ⟨T.toArray, []⟩ := by unfold ssaA; rw [List.take_of_length_le (by omega)]; simp
    rw [e]
    have hL' := hL.next (by omega)
    have hE : Region.ready .any ops (listed.setIfInBounds i true) = [] := by
      apply List.eq_nil_iff_forall_not_mem.2
      intro j hj
      have := hL'.no (mem_ready.1 hj).1
      omega
    have hin : i ∈ Region.ready .any ops listed := mem_ready.2 ⟨hL.un (by omega), z, hz, fun e he hb => hL.yes ((ssaB_spec (hS.at_ i z hz)).2.2.2.2 e he) (by omega)⟩
    refine ⟨(fun h0 => by rw [h0] at hin; cases hin), fun j hj => ?_⟩
    have := hL.no (mem_ready.1 hj).1
    obtain rfl : j = i := by omega
    unfold wpOp
    simp only [hz]
    rw [if_pos (by simp [Region.wanted, (ssaB_spec (hS.at_ j z hz)).1])]
    exact .inl (Oper.wp_mono (fun a w hq => ⟨hE, NoPanic.normal hq⟩) h)
  | succ m ih =>
    intro i listed hi hL
    have hlt : i < ops.size := by rw [hS.size]; omega
    have hiN : i < n := by omega
    obtain ⟨o, ho⟩ : ∃ o, ops[i]? = some o := ⟨_, Array.getElem?_eq_getElem hlt⟩
    obtain ⟨v, hv⟩ : ∃ v, T[b + i]? = some v := ⟨_, List.getElem?_eq_getElem (by omega)⟩
    obtain ⟨g1, g2, g3, g4, g5⟩ := ssaB_spec (hS.at_ i o ho)
    have hd : o.dst = some (b + i) := by rw [g3, if_neg (by simp; omega)]
    have hex : execOp (ssaA T b n i).eval o = execOp (⟨T.toArray, []⟩ : Act).eval o := execOp_congr o g2 fun x hx => ssaA_eval T b n i x (by omega) (by omega) fun t ht => by
      subst ht
      have g4' := g4 t (List.mem_append_left _ (List.mem_filterMap.2 ⟨.tmp t, by simpa using hx, rfl⟩))
      rcases g4' with h | ⟨h, _⟩
      · exact Nat.lt_of_lt_of_le h (Nat.le_add_right _ _)
      · exact h
    refine wpAny_first ho hsel (fun c a w hc => hc) (m + 1) listed _ w (fun j oj hj hji hun hno => ?_) (mem_ready.2 ⟨hL.un (by omega), o, ho, fun e he hb => hL.yes (g5 e he) (by omega)⟩) (.inl ⟨by simp [Region.wanted, g1], fun w => by rw [hex]; exact hrun i o v hiN ho hv w⟩) ?_
    · obtain ⟨k1, k2, k3, k4, k5⟩ := ssaB_spec (hS.at_ j oj hj)
      have hij := (hL.no hun).1
      unfold Oper.apart
      rw [hd]
      simp only [Bool.and_eq_true]
      refine ⟨⟨?_, ?_⟩, ?_⟩
      · simp only [Bool.not_eq_true', List.contains_eq_mem, decide_eq_false_iff_not]
        intro hm
        rcases k4 (b + i) hm with h | ⟨h, e, he, hb, hon⟩
        · omega
        · exact hno e he hb (by rw [hon]; omega)
      · rw [k3]
        split
        · rfl
        · simp; omega
      · rw [k3]
        split
        · rename_i d hd'
          split at hd'
          · cases hd'
          · cases hd'
            simp only [Bool.not_eq_true', List.contains_eq_mem, decide_eq_false_iff_not]
            intro hm
            rcases g4 (b + j) hm with h | ⟨h, _⟩ <;> omega
        · rfl
    · rw [hd, ssaA_put T b n i v hiN hv]
      exact ih (i + 1) _ (by omega) (hL.next (by omega))
theorem wp_region_ssa {P : Program} {id : Nat} {ops : Array Oper} {Q : Exit → Act → World → Prop} {a : Act} {w : World} (hm : P.follows .mixedOrders = true) (b n : Nat) (hn : ops.size = n + 1) (hS : ssaL ops b n 0 ops.toList = true) (T : List Value) (hT : T.length = b + n) (ha : a = ssaA T b n 0)
    (hrun : ∀ w, (ops.toList.take n).map (fun o => (execOp (⟨T.toArray, []⟩ : Act).eval o).run P w) = (T.drop b).map fun v => .ok (.value v) w)
    (z : Oper) (hz : ops[n]? = some z) (h : z.wp P (⟨T.toArray, []⟩ : Act) w.drew (fun a w => Q .normal a w) (NoPanic Q)) : (Code.region id ops true).wp P Q a w := by
  subst ha
  refine wp_region_noPanic (wp_region_any hm ?_)
  have := wpAny_ssa (P := P) (Q := Q) (ssa_of hn hS) T hT (fun i o v hi ho hv w => by
    have e := congrArg (·[i]?) (hrun w)
    simp only [List.getElem?_map, List.getElem?_take_of_lt hi, Array.getElem?_toList, ho, List.getElem?_drop, hv, Option.map_some] at e
    exact Option.some.inj e) z hz w.drew h n 0 (Array.replicate ops.size false) (by omega) ⟨by simp [hn], fun j hj => by simp [hn, hj]⟩
  rw [hn] at this ⊢
  exact this
end Go.Proofs.Ytjnnecoikcmaeaa
