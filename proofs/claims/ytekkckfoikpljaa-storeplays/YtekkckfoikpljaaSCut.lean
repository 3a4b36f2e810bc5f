/-
  store: lostOf, keptOf, whole.
-/
import Derived.Test.YtekkckfoikpljaaSSearch
namespace Go.Proofs.Ytekkckfoikpljaa
set_option linter.unusedVariables false
set_option linter.unusedSimpArgs false
open Go.Shelf Go.RowKit Go.Sort Go.Lib Go.Great

theorem search_at (f : FuncId) (caps : Array Value) (N : Nat) (hN : N ≤ 1000000000) (pr : Nat → Bool) (k : Nat) (h1 : k ≤ N) (h2 : ∀ i, i < k → pr i = false) (h3 : ∀ i, k ≤ i → i < N → pr i = true) (W : World) (hf : ∀ args w, (callFunc f args).run Try.prog w = .ok (.enter f args) w)
    (hcall : ∀ w' i, i < N → Below W.heap.size W w' → Calls Try.prog f (#[.int .i64 (i : Int)] ++ caps) w' fun e w2 => e = .returned (.bool (pr i)) ∧ ∃ q, w2 = w'.drewN q) :
      Calls Try.prog 29 #[.int .i64 (N : Int), .func (.func f) #[] caps] W fun e w' => e = .returned (.int .i64 (k : Int)) ∧ Below W.heap.size W w' := by
  obtain ⟨k', g1, g2, g3, g4⟩ := search_gen f caps N hN pr W hf hcall fun a b hab hb ha => by
    by_cases hk : b < k
    · rw [h2 a (by omega)] at ha; cases ha
    · exact h3 b (by omega) hb
  have : k' = k := by
    rcases Nat.lt_trichotomy k' k with h | h | h
    · have := g3 k' (Nat.le_refl _) (by omega); rw [h2 k' h] at this; cases this
    · exact h
    · have := h3 k (Nat.le_refl _) (by omega); rw [g2 k h] at this; cases this
  rw [this] at g4
  exact g4

set_option maxRecDepth 100000 in
set_option maxHeartbeats 4000000 in
theorem lostOf_any {w : World} {p a b : Nat} {ao : Option Addr} {n cap : Nat} {X : List (Nat × Nat)} (hX : X.length = n) (hn : n ≤ 1000000000) (hr : RowAt w 62 2 (.slice ao n cap) n (flatL rowV X)) (hz1 : ∀ x, x ∈ X → (rowV x)[1]? = some (.int .i64 ((Prod.snd x : Nat) : Int))) (hz2 : ∀ x, x ∈ X → (rowV x)[0]? = some (.int .i64 ((Prod.fst x : Nat) : Int)))
    (c3 : w.cell? ⟨p, 4, none⟩ = some (.slice ao n cap)) (hp : p < w.heap.size) (hab : a ≤ b)
    (m1 : ∀ (i j : Nat) (x y : (Nat × Nat)), i < j → X[i]? = some x → X[j]? = some y → Prod.snd x ≤ Prod.snd y) (m2 : ∀ (i j : Nat) (x y : (Nat × Nat)), i < j → X[i]? = some x → X[j]? = some y → Prod.fst x ≤ Prod.fst y) (h12 : ∀ x, x ∈ X → Prod.fst x ≤ Prod.snd x) :
    ∃ f k, f ≤ k ∧ k ≤ n ∧ (∀ (i : Nat) (x : (Nat × Nat)), X[i]? = some x → (i < f ↔ Prod.snd x < a)) ∧ (∀ (i : Nat) (x : (Nat × Nat)), X[i]? = some x → (i < k ↔ Prod.fst x ≤ b)) ∧
    Calls Try.prog 18 #[.pointer (some ⟨p, 0, none⟩), .int .i64 (a : Int), .int .i64 (b : Int)] w fun e w' => ∃ ao', e = .returned (.slice ao' (k - f) (k - f)) ∧ RowAt w' 62 2 (.slice ao' (k - f) (k - f)) (k - f) (flatL rowV ((X.drop f).take (k - f))) ∧ Below w.heap.size w w' ∧ ((Value.slice ao' (k - f) (k - f)).ownBlock = none ∨ (Value.slice ao' (k - f) (k - f)).ownBlock = (Value.slice ao n cap).ownBlock) := by
  obtain ⟨pr1, hpr1⟩ : ∃ pr1 : Nat → Bool, ∀ i x, X[i]? = some x → pr1 i = decide (a ≤ Prod.snd x) := ⟨fun i => match X[i]? with | some x => decide (a ≤ Prod.snd x) | none => true, fun i x h => by simp [h]⟩
  obtain ⟨pr2, hpr2⟩ : ∃ pr2 : Nat → Bool, ∀ i x, X[i]? = some x → pr2 i = decide (b < Prod.fst x) := ⟨fun i => match X[i]? with | some x => decide (b < Prod.fst x) | none => true, fun i x h => by simp [h]⟩
  have get : ∀ i, i < n → ∃ x, X[i]? = some x := fun i hi => ⟨X[i], List.getElem?_eq_getElem (by omega)⟩
  obtain ⟨f, f1, f2, f3⟩ := mono_cut pr1 n fun u v huv hv hu => by
    obtain ⟨x, hx⟩ := get u (by omega)
    obtain ⟨y, hy⟩ := get v hv
    rw [hpr1 u x hx] at hu
    rw [hpr1 v y hy]
    rcases Nat.lt_or_eq_of_le huv with h | h
    · have := m1 u v x y h hx hy
      simp only [decide_eq_true_eq] at hu ⊢
      omega
    · subst h; rw [hx] at hy; injection hy with hy; rw [← hy]; exact hu
  obtain ⟨k, k1, k2, k3⟩ := mono_cut pr2 n fun u v huv hv hu => by
    obtain ⟨x, hx⟩ := get u (by omega)
    obtain ⟨y, hy⟩ := get v hv
    rw [hpr2 u x hx] at hu
    rw [hpr2 v y hy]
    rcases Nat.lt_or_eq_of_le huv with h | h
    · have := m2 u v x y h hx hy
      simp only [decide_eq_true_eq] at hu ⊢
      omega
    · subst h; rw [hx] at hy; injection hy with hy; rw [← hy]; exact hu
  have hF : ∀ (i : Nat) (x : (Nat × Nat)), X[i]? = some x → (i < f ↔ Prod.snd x < a) := fun i x hx => by
    have hi : i < n := by rw [← hX]; exact (List.getElem?_eq_some_iff.1 hx).1
    constructor
    · intro h; have := f2 i h; rw [hpr1 i x hx] at this; simpa using this
    · intro h; refine Decidable.byContradiction fun hc => ?_
      have := f3 i (by omega) hi; rw [hpr1 i x hx] at this; simp only [decide_eq_true_eq] at this; omega
  have hK : ∀ (i : Nat) (x : (Nat × Nat)), X[i]? = some x → (i < k ↔ Prod.fst x ≤ b) := fun i x hx => by
    have hi : i < n := by rw [← hX]; exact (List.getElem?_eq_some_iff.1 hx).1
    constructor
    · intro h; have := k2 i h; rw [hpr2 i x hx] at this; simpa using this
    · intro h; refine Decidable.byContradiction fun hc => ?_
      have := k3 i (by omega) hi; rw [hpr2 i x hx] at this; simp only [decide_eq_true_eq] at this; omega
  have hfk : f ≤ k := by
    refine Decidable.byContradiction fun hc => ?_
    obtain ⟨x, hx⟩ := get k (by omega)
    have h1 := (hF k x hx).1 (by omega)
    have h2 := h12 x (List.mem_of_getElem? hx)
    have h3 := (hK k x hx).2 (by omega)
    omega
  refine ⟨f, k, hfk, k1, hF, hK, ?_⟩
  obtain ⟨ao', hao, hpc⟩ := hr.piece hfk k1
  have hmf : ∀ (fn : Fn) (first cap : Array Value) (w : World), (Instr.makeFunc fn first cap).run Try.prog w = .ok (.func fn first cap) w := fun _ _ _ _ => rfl
  have hW : ∀ w0 : World, Below w.heap.size w w0 → w0.cell? ⟨w.heap.size, 0, none⟩ = some (.pointer (some ⟨p, 0, none⟩)) → w0.cell? ⟨w.heap.size + 1, 0, none⟩ = some (.int .i64 (a : Int)) →
      Calls Try.prog 29 #[.int .i64 (n : Int), .func (.func 30) #[] #[.pointer (some ⟨w.heap.size, 0, none⟩), .pointer (some ⟨w.heap.size + 1, 0, none⟩)]] w0 fun e w' => e = .returned (.int .i64 (f : Int)) ∧ Below w0.heap.size w0 w' := fun w0 hb q1 q2 =>
    search_at 30 _ n hn pr1 f f1 f2 f3 w0 (fun args w => by kernel_rfl) fun w' i hi hB => by
      have l1 := World.block_lt_of_cell? _ _ q1
      have l2 := World.block_lt_of_cell? _ _ q2
      have hb' : Below w.heap.size w w' := hb.trans (hB.mono hb.size)
      exact lost1_any hi hX (hr.keep fun g hg => hb'.block g (hr.lt hg).1) hz1 ((hB.cell l1).trans q1) ((hB.cell l2).trans q2) ((hb'.cell hp).trans c3) pr1 fun x hx => hpr1 i x hx
  have hW2 : ∀ w0 : World, Below w.heap.size w w0 → w0.cell? ⟨w.heap.size, 0, none⟩ = some (.pointer (some ⟨p, 0, none⟩)) → w0.cell? ⟨w.heap.size + 1 + 1, 0, none⟩ = some (.int .i64 (b : Int)) →
      Calls Try.prog 29 #[.int .i64 (n : Int), .func (.func 31) #[] #[.pointer (some ⟨w.heap.size, 0, none⟩), .pointer (some ⟨w.heap.size + 1 + 1, 0, none⟩)]] w0 fun e w' => e = .returned (.int .i64 (k : Int)) ∧ Below w0.heap.size w0 w' := fun w0 hb q1 q2 =>
    search_at 31 _ n hn pr2 k k1 k2 k3 w0 (fun args w => by kernel_rfl) fun w' i hi hB => by
      have l1 := World.block_lt_of_cell? _ _ q1
      have l2 := World.block_lt_of_cell? _ _ q2
      have hb' : Below w.heap.size w w' := hb.trans (hB.mono hb.size)
      exact lost2_any hi hX (hr.keep fun g hg => hb'.block g (hr.lt hg).1) hz2 ((hB.cell l1).trans q1) ((hB.cell l2).trans q2) ((hb'.cell hp).trans c3) pr2 fun x hx => hpr2 i x hx
  have HR : Hid (RowAt w 62 2 (.slice ao n cap) n (flatL rowV X) ∧ RowAt w 62 2 (.slice ao' (k - f) (k - f)) (k - f) (((flatL rowV X).drop (f * 2)).take ((k - f) * 2))) := ⟨hr, hpc⟩
  have HW : Hid _ := hW
  have HW2 : Hid _ := hW2
  have ⟨_, hncap⟩ : True ∧ n ≤ cap := ⟨trivial, by obtain ⟨_, _, e, h⟩ := hr.form; injection e with _ _ e; omega⟩
  have HAO : Hid _ := hao
  clear hW hW2 hr hpc f1 f2 f3 k2 k3 hpr1 hpr2 get hF hK m1 m2 h12 hz1 hz2 hao
  obtain ⟨W, hWe⟩ : ∃ W, W = ((w.alloc (.cells #[.pointer (some ⟨p, 0, none⟩)] 24)).alloc (.cells #[.int .i64 (a : Int)] 3)).alloc (.cells #[.int .i64 (b : Int)] 3) := ⟨_, rfl⟩
  have bW : Below w.heap.size w W := by rw [hWe]; exact (((Below.refl _ w).alloc (Nat.le_refl _) _).alloc (by simp) _).alloc (by simp; omega) _
  have d1 : W.cell? ⟨w.heap.size, 0, none⟩ = some (.pointer (some ⟨p, 0, none⟩)) := by
    rw [hWe]
    exact cell_at (cur := #[.pointer (some ⟨p, 0, none⟩)]) (e := 24) ((Below.heap_alloc _ _ _ (by simp; omega)).trans ((Below.heap_alloc _ _ _ (by simp)).trans (heap_alloc_new w _))) rfl
  have d2 : W.cell? ⟨w.heap.size + 1, 0, none⟩ = some (.int .i64 (a : Int)) := by
    rw [hWe]
    refine cell_at (cur := #[.int .i64 (a : Int)]) (e := 3) ((Below.heap_alloc _ _ _ (by simp)).trans ?_) rfl
    have := heap_alloc_new (w.alloc (.cells #[.pointer (some ⟨p, 0, none⟩)] 24)) (.cells #[.int .i64 (a : Int)] 3)
    rw [show (w.alloc (.cells #[.pointer (some ⟨p, 0, none⟩)] 24)).heap.size = w.heap.size + 1 by simp] at this
    exact this
  have d3 : W.cell? ⟨w.heap.size + 1 + 1, 0, none⟩ = some (.int .i64 (b : Int)) := by
    rw [hWe]
    have := heap_alloc_new ((w.alloc (.cells #[.pointer (some ⟨p, 0, none⟩)] 24)).alloc (.cells #[.int .i64 (a : Int)] 3)) (.cells #[.int .i64 (b : Int)] 3)
    rw [show ((w.alloc (.cells #[.pointer (some ⟨p, 0, none⟩)] 24)).alloc (.cells #[.int .i64 (a : Int)] 3)).heap.size = w.heap.size + 1 + 1 by simp] at this
    exact cell_at this rfl
  have d4 : W.cell? ⟨p, 4, none⟩ = some (.slice ao n cap) := (bW.cell hp).trans c3
  have HB : Hid (Below w.heap.size w W ∧ p < w.heap.size ∧ w.cell? ⟨p, 4, none⟩ = some (.slice ao n cap)) := ⟨bW, hp, c3⟩
  clear bW c3 hp
  go_enter Try.func18, Try.ntmps18
  go_upto_region 1 with fail
  rw [← hWe]
  clear hWe
  go_wp2_with (go_at_call 29; fail)
  refine (HW.out W HB.out.1 d1 d2).mono ?_
  rintro e w1 ⟨rfl, hb1⟩
  have e1 := (hb1.cell (World.block_lt_of_cell? _ _ d1)).trans d1
  have e3 := (hb1.cell (World.block_lt_of_cell? _ _ d3)).trans d3
  have HB1 : Hid (Below w.heap.size w w1) := HB.out.1.trans (hb1.mono HB.out.1.size)
  have e4 : w1.cell? ⟨p, 4, none⟩ = some (.slice ao n cap) := (HB1.out.cell HB.out.2.1).trans HB.out.2.2
  clear d1 d2 d3 d4 hb1 HW
  go_wp2_with (go_at_call 29; fail)
  refine (HW2.out w1 HB1.out e1 e3).mono ?_
  rintro e w2 ⟨rfl, hb2⟩
  have g1 := (hb2.cell (World.block_lt_of_cell? _ _ e1)).trans e1
  have HB2 : Hid (Below w.heap.size w w2) := HB1.out.trans (hb2.mono HB1.out.size)
  have g4 : w2.cell? ⟨p, 4, none⟩ = some (.slice ao n cap) := (HB2.out.cell HB.out.2.1).trans HB.out.2.2
  clear e1 e3 e4 hb2 HW2 HB1 HB
  have hfk' : (f : Int) ≤ (k : Int) := by omega
  have hkc : (k : Int) ≤ (cap : Int) := by omega
  have hf0 : (0 : Int) ≤ (f : Int) := by omega
  have hdd : (k : Int) - (f : Int) = ((k - f : Nat) : Int) := by omega
  have HX : Hid (flatL rowV ((X.drop f).take (k - f)) = ((flatL rowV X).drop (f * 2)).take ((k - f) * 2)) := by
    show flatL rowV ((X.drop f).take (k - f)) = _
    rw [flatL_drop rowV_len, flatL_take rowV_len]
  clear hX
  cases ao with
  | none =>
    have hao' : ao' = none := HAO.out.symm
    subst hao'
    go_wp2
    go_ret
    exact ⟨_, rfl, by rw [HX.out]; exact HR.out.2.keep fun g hg => HB2.out.block g (HR.out.2.lt hg).1, HB2.out, .inl rfl⟩
  | some A =>
    obtain ⟨g, off, spot⟩ := A
    have hsp : spot = none := by
      rcases HR.out.1.2 with ⟨q, _⟩ | ⟨g', off', cap', cur, q, _⟩
      · cases q
      · injection q with q _ _; injection q with q; injection q with _ _ q
    subst hsp
    have hao := HAO.out
    unfold pieceA at hao
    by_cases hkf : k - f = 0
    · simp only [hkf, if_true] at hao
      subst hao
      have hk0 : k = f := by omega
      subst hk0
      go_wp2
      go_ret
      refine ⟨some ⟨g, off, none⟩, by simp, by rw [HX.out]; exact HR.out.2.keep fun g hg => HB2.out.block g (HR.out.2.lt hg).1, HB2.out, .inr rfl⟩
    · simp only [hkf, if_false] at hao
      subst hao
      have hkf' : ¬ (k : Int) - (f : Int) = 0 := by omega
      have hkf2 : ¬ k = f := by omega
      have hkf3 : ¬ (k : Int) = (f : Int) := by omega
      have hkf4 : ¬ k ≤ f := by omega
      go_wp2
      go_ret
      exact ⟨_, rfl, by rw [HX.out]; exact HR.out.2.keep fun g hg => HB2.out.block g (HR.out.2.lt hg).1, HB2.out, .inr rfl⟩

set_option maxRecDepth 100000 in
set_option maxHeartbeats 4000000 in
theorem keptOf_any {w : World} {p a b : Nat} {ao : Option Addr} {n cap : Nat} {X : List Msg} (hX : X.length = n) (hn : n ≤ 1000000000) (hr : RowAt w 34 42 (.slice ao n cap) n (flatL msgV X)) (hz1 : ∀ x, x ∈ X → (msgV x)[3]? = some (.int .i64 ((seqM x : Nat) : Int))) (hz2 : ∀ x, x ∈ X → (msgV x)[3]? = some (.int .i64 ((seqM x : Nat) : Int)))
    (c3 : w.cell? ⟨p, 3, none⟩ = some (.slice ao n cap)) (hp : p < w.heap.size) (hab : a ≤ b)
    (m1 : ∀ (i j : Nat) (x y : Msg), i < j → X[i]? = some x → X[j]? = some y → seqM x ≤ seqM y) (m2 : ∀ (i j : Nat) (x y : Msg), i < j → X[i]? = some x → X[j]? = some y → seqM x ≤ seqM y) (h12 : ∀ x, x ∈ X → seqM x ≤ seqM x) :
    ∃ f k, f ≤ k ∧ k ≤ n ∧ (∀ (i : Nat) (x : Msg), X[i]? = some x → (i < f ↔ seqM x < a)) ∧ (∀ (i : Nat) (x : Msg), X[i]? = some x → (i < k ↔ seqM x ≤ b)) ∧
    Calls Try.prog 20 #[.pointer (some ⟨p, 0, none⟩), .int .i64 (a : Int), .int .i64 (b : Int)] w fun e w' => ∃ ao', e = .returned (.slice ao' (k - f) (k - f)) ∧ RowAt w' 34 42 (.slice ao' (k - f) (k - f)) (k - f) (flatL msgV ((X.drop f).take (k - f))) ∧ Below w.heap.size w w' ∧ ((Value.slice ao' (k - f) (k - f)).ownBlock = none ∨ (Value.slice ao' (k - f) (k - f)).ownBlock = (Value.slice ao n cap).ownBlock) := by
  obtain ⟨pr1, hpr1⟩ : ∃ pr1 : Nat → Bool, ∀ i x, X[i]? = some x → pr1 i = decide (a ≤ seqM x) := ⟨fun i => match X[i]? with | some x => decide (a ≤ seqM x) | none => true, fun i x h => by simp [h]⟩
  obtain ⟨pr2, hpr2⟩ : ∃ pr2 : Nat → Bool, ∀ i x, X[i]? = some x → pr2 i = decide (b < seqM x) := ⟨fun i => match X[i]? with | some x => decide (b < seqM x) | none => true, fun i x h => by simp [h]⟩
  have get : ∀ i, i < n → ∃ x, X[i]? = some x := fun i hi => ⟨X[i], List.getElem?_eq_getElem (by omega)⟩
  obtain ⟨f, f1, f2, f3⟩ := mono_cut pr1 n fun u v huv hv hu => by
    obtain ⟨x, hx⟩ := get u (by omega)
    obtain ⟨y, hy⟩ := get v hv
    rw [hpr1 u x hx] at hu
    rw [hpr1 v y hy]
    rcases Nat.lt_or_eq_of_le huv with h | h
    · have := m1 u v x y h hx hy
      simp only [decide_eq_true_eq] at hu ⊢
      omega
    · subst h; rw [hx] at hy; injection hy with hy; rw [← hy]; exact hu
  obtain ⟨k, k1, k2, k3⟩ := mono_cut pr2 n fun u v huv hv hu => by
    obtain ⟨x, hx⟩ := get u (by omega)
    obtain ⟨y, hy⟩ := get v hv
    rw [hpr2 u x hx] at hu
    rw [hpr2 v y hy]
    rcases Nat.lt_or_eq_of_le huv with h | h
    · have := m2 u v x y h hx hy
      simp only [decide_eq_true_eq] at hu ⊢
      omega
    · subst h; rw [hx] at hy; injection hy with hy; rw [← hy]; exact hu
  have hF : ∀ (i : Nat) (x : Msg), X[i]? = some x → (i < f ↔ seqM x < a) := fun i x hx => by
    have hi : i < n := by rw [← hX]; exact (List.getElem?_eq_some_iff.1 hx).1
    constructor
    · intro h; have := f2 i h; rw [hpr1 i x hx] at this; simpa using this
    · intro h; refine Decidable.byContradiction fun hc => ?_
      have := f3 i (by omega) hi; rw [hpr1 i x hx] at this; simp only [decide_eq_true_eq] at this; omega
  have hK : ∀ (i : Nat) (x : Msg), X[i]? = some x → (i < k ↔ seqM x ≤ b) := fun i x hx => by
    have hi : i < n := by rw [← hX]; exact (List.getElem?_eq_some_iff.1 hx).1
    constructor
    · intro h; have := k2 i h; rw [hpr2 i x hx] at this; simpa using this
    · intro h; refine Decidable.byContradiction fun hc => ?_
      have := k3 i (by omega) hi; rw [hpr2 i x hx] at this; simp only [decide_eq_true_eq] at this; omega
  have hfk : f ≤ k := by
    refine Decidable.byContradiction fun hc => ?_
    obtain ⟨x, hx⟩ := get k (by omega)
    have h1 := (hF k x hx).1 (by omega)
    have h2 := h12 x (List.mem_of_getElem? hx)
    have h3 := (hK k x hx).2 (by omega)
    omega
  refine ⟨f, k, hfk, k1, hF, hK, ?_⟩
  obtain ⟨ao', hao, hpc⟩ := hr.piece hfk k1
  have hmf : ∀ (fn : Fn) (first cap : Array Value) (w : World), (Instr.makeFunc fn first cap).run Try.prog w = .ok (.func fn first cap) w := fun _ _ _ _ => rfl
  have hW : ∀ w0 : World, Below w.heap.size w w0 → w0.cell? ⟨w.heap.size, 0, none⟩ = some (.pointer (some ⟨p, 0, none⟩)) → w0.cell? ⟨w.heap.size + 1, 0, none⟩ = some (.int .i64 (a : Int)) →
      Calls Try.prog 29 #[.int .i64 (n : Int), .func (.func 32) #[] #[.pointer (some ⟨w.heap.size, 0, none⟩), .pointer (some ⟨w.heap.size + 1, 0, none⟩)]] w0 fun e w' => e = .returned (.int .i64 (f : Int)) ∧ Below w0.heap.size w0 w' := fun w0 hb q1 q2 =>
    search_at 32 _ n hn pr1 f f1 f2 f3 w0 (fun args w => by kernel_rfl) fun w' i hi hB => by
      have l1 := World.block_lt_of_cell? _ _ q1
      have l2 := World.block_lt_of_cell? _ _ q2
      have hb' : Below w.heap.size w w' := hb.trans (hB.mono hb.size)
      exact kept1_any hi hX (hr.keep fun g hg => hb'.block g (hr.lt hg).1) hz1 ((hB.cell l1).trans q1) ((hB.cell l2).trans q2) ((hb'.cell hp).trans c3) pr1 fun x hx => hpr1 i x hx
  have hW2 : ∀ w0 : World, Below w.heap.size w w0 → w0.cell? ⟨w.heap.size, 0, none⟩ = some (.pointer (some ⟨p, 0, none⟩)) → w0.cell? ⟨w.heap.size + 1 + 1, 0, none⟩ = some (.int .i64 (b : Int)) →
      Calls Try.prog 29 #[.int .i64 (n : Int), .func (.func 33) #[] #[.pointer (some ⟨w.heap.size, 0, none⟩), .pointer (some ⟨w.heap.size + 1 + 1, 0, none⟩)]] w0 fun e w' => e = .returned (.int .i64 (k : Int)) ∧ Below w0.heap.size w0 w' := fun w0 hb q1 q2 =>
    search_at 33 _ n hn pr2 k k1 k2 k3 w0 (fun args w => by kernel_rfl) fun w' i hi hB => by
      have l1 := World.block_lt_of_cell? _ _ q1
      have l2 := World.block_lt_of_cell? _ _ q2
      have hb' : Below w.heap.size w w' := hb.trans (hB.mono hb.size)
      exact kept2_any hi hX (hr.keep fun g hg => hb'.block g (hr.lt hg).1) hz2 ((hB.cell l1).trans q1) ((hB.cell l2).trans q2) ((hb'.cell hp).trans c3) pr2 fun x hx => hpr2 i x hx
  have HR : Hid (RowAt w 34 42 (.slice ao n cap) n (flatL msgV X) ∧ RowAt w 34 42 (.slice ao' (k - f) (k - f)) (k - f) (((flatL msgV X).drop (f * 42)).take ((k - f) * 42))) := ⟨hr, hpc⟩
  have HW : Hid _ := hW
  have HW2 : Hid _ := hW2
  have ⟨_, hncap⟩ : True ∧ n ≤ cap := ⟨trivial, by obtain ⟨_, _, e, h⟩ := hr.form; injection e with _ _ e; omega⟩
  have HAO : Hid _ := hao
  clear hW hW2 hr hpc f1 f2 f3 k2 k3 hpr1 hpr2 get hF hK m1 m2 h12 hz1 hz2 hao
  obtain ⟨W, hWe⟩ : ∃ W, W = ((w.alloc (.cells #[.pointer (some ⟨p, 0, none⟩)] 24)).alloc (.cells #[.int .i64 (a : Int)] 3)).alloc (.cells #[.int .i64 (b : Int)] 3) := ⟨_, rfl⟩
  have bW : Below w.heap.size w W := by rw [hWe]; exact (((Below.refl _ w).alloc (Nat.le_refl _) _).alloc (by simp) _).alloc (by simp; omega) _
  have d1 : W.cell? ⟨w.heap.size, 0, none⟩ = some (.pointer (some ⟨p, 0, none⟩)) := by
    rw [hWe]
    exact cell_at (cur := #[.pointer (some ⟨p, 0, none⟩)]) (e := 24) ((Below.heap_alloc _ _ _ (by simp; omega)).trans ((Below.heap_alloc _ _ _ (by simp)).trans (heap_alloc_new w _))) rfl
  have d2 : W.cell? ⟨w.heap.size + 1, 0, none⟩ = some (.int .i64 (a : Int)) := by
    rw [hWe]
    refine cell_at (cur := #[.int .i64 (a : Int)]) (e := 3) ((Below.heap_alloc _ _ _ (by simp)).trans ?_) rfl
    have := heap_alloc_new (w.alloc (.cells #[.pointer (some ⟨p, 0, none⟩)] 24)) (.cells #[.int .i64 (a : Int)] 3)
    rw [show (w.alloc (.cells #[.pointer (some ⟨p, 0, none⟩)] 24)).heap.size = w.heap.size + 1 by simp] at this
    exact this
  have d3 : W.cell? ⟨w.heap.size + 1 + 1, 0, none⟩ = some (.int .i64 (b : Int)) := by
    rw [hWe]
    have := heap_alloc_new ((w.alloc (.cells #[.pointer (some ⟨p, 0, none⟩)] 24)).alloc (.cells #[.int .i64 (a : Int)] 3)) (.cells #[.int .i64 (b : Int)] 3)
    rw [show ((w.alloc (.cells #[.pointer (some ⟨p, 0, none⟩)] 24)).alloc (.cells #[.int .i64 (a : Int)] 3)).heap.size = w.heap.size + 1 + 1 by simp] at this
    exact cell_at this rfl
  have d4 : W.cell? ⟨p, 3, none⟩ = some (.slice ao n cap) := (bW.cell hp).trans c3
  have HB : Hid (Below w.heap.size w W ∧ p < w.heap.size ∧ w.cell? ⟨p, 3, none⟩ = some (.slice ao n cap)) := ⟨bW, hp, c3⟩
  clear bW c3 hp
  go_enter Try.func20, Try.ntmps20
  go_upto_region 1 with fail
  rw [← hWe]
  clear hWe
  go_wp2_with (go_at_call 29; fail)
  refine (HW.out W HB.out.1 d1 d2).mono ?_
  rintro e w1 ⟨rfl, hb1⟩
  have e1 := (hb1.cell (World.block_lt_of_cell? _ _ d1)).trans d1
  have e3 := (hb1.cell (World.block_lt_of_cell? _ _ d3)).trans d3
  have HB1 : Hid (Below w.heap.size w w1) := HB.out.1.trans (hb1.mono HB.out.1.size)
  have e4 : w1.cell? ⟨p, 3, none⟩ = some (.slice ao n cap) := (HB1.out.cell HB.out.2.1).trans HB.out.2.2
  clear d1 d2 d3 d4 hb1 HW
  go_wp2_with (go_at_call 29; fail)
  refine (HW2.out w1 HB1.out e1 e3).mono ?_
  rintro e w2 ⟨rfl, hb2⟩
  have g1 := (hb2.cell (World.block_lt_of_cell? _ _ e1)).trans e1
  have HB2 : Hid (Below w.heap.size w w2) := HB1.out.trans (hb2.mono HB1.out.size)
  have g4 : w2.cell? ⟨p, 3, none⟩ = some (.slice ao n cap) := (HB2.out.cell HB.out.2.1).trans HB.out.2.2
  clear e1 e3 e4 hb2 HW2 HB1 HB
  have hfk' : (f : Int) ≤ (k : Int) := by omega
  have hkc : (k : Int) ≤ (cap : Int) := by omega
  have hf0 : (0 : Int) ≤ (f : Int) := by omega
  have hdd : (k : Int) - (f : Int) = ((k - f : Nat) : Int) := by omega
  have HX : Hid (flatL msgV ((X.drop f).take (k - f)) = ((flatL msgV X).drop (f * 42)).take ((k - f) * 42)) := by
    show flatL msgV ((X.drop f).take (k - f)) = _
    rw [flatL_drop msgV_len, flatL_take msgV_len]
  clear hX
  cases ao with
  | none =>
    have hao' : ao' = none := HAO.out.symm
    subst hao'
    go_wp2
    go_ret
    exact ⟨_, rfl, by rw [HX.out]; exact HR.out.2.keep fun g hg => HB2.out.block g (HR.out.2.lt hg).1, HB2.out, .inl rfl⟩
  | some A =>
    obtain ⟨g, off, spot⟩ := A
    have hsp : spot = none := by
      rcases HR.out.1.2 with ⟨q, _⟩ | ⟨g', off', cap', cur, q, _⟩
      · cases q
      · injection q with q _ _; injection q with q; injection q with _ _ q
    subst hsp
    have hao := HAO.out
    unfold pieceA at hao
    by_cases hkf : k - f = 0
    · simp only [hkf, if_true] at hao
      subst hao
      have hk0 : k = f := by omega
      subst hk0
      go_wp2
      go_ret
      refine ⟨some ⟨g, off, none⟩, by simp, by rw [HX.out]; exact HR.out.2.keep fun g hg => HB2.out.block g (HR.out.2.lt hg).1, HB2.out, .inr rfl⟩
    · simp only [hkf, if_false] at hao
      subst hao
      have hkf' : ¬ (k : Int) - (f : Int) = 0 := by omega
      have hkf2 : ¬ k = f := by omega
      have hkf3 : ¬ (k : Int) = (f : Int) := by omega
      have hkf4 : ¬ k ≤ f := by omega
      go_wp2
      go_ret
      exact ⟨_, rfl, by rw [HX.out]; exact HR.out.2.keep fun g hg => HB2.out.block g (HR.out.2.lt hg).1, HB2.out, .inr rfl⟩
end Go.Proofs.Ytekkckfoikpljaa
