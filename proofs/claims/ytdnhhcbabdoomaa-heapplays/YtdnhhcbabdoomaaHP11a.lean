/-
  HeapPlays: the world made; the steps that come in.
-/
import Derived.Test.YtdnhhcbabdoomaaHP10
namespace Go.Proofs.Ytdnhhcbabdoomaa
set_option linter.unusedVariables false
set_option linter.unusedSimpArgs false
open Go.RowKit Go.Great

structure Dd where
  d : Int
  o : Int
  i : Int
  n : Int
  k : Int
  g : Int
def i64B (x : Int) : Prop := -9223372036854775808 ≤ x ∧ x ≤ 9223372036854775807
def SrcD (w : World) (a : Option Addr) (n : Nat) (t : Nat → Dd) : Prop := n = 0 ∨ ∃ b off, a = some ⟨b, off, none⟩ ∧ ∀ j, j < n → (w.cell? ⟨b, off + j * 6, none⟩ = some (.int .i64 (t j).d) ∧ w.cell? ⟨b, off + j * 6 + 1, none⟩ = some (.int .i64 (t j).o) ∧ w.cell? ⟨b, off + j * 6 + 2, none⟩ = some (.int .i64 (t j).i) ∧ w.cell? ⟨b, off + j * 6 + 3, none⟩ = some (.int .i64 (t j).n) ∧ w.cell? ⟨b, off + j * 6 + 4, none⟩ = some (.int .i64 (t j).k) ∧ w.cell? ⟨b, off + j * 6 + 5, none⟩ = some (.int .i64 (t j).g)) ∧ i64B (t j).d ∧ i64B (t j).o ∧ i64B (t j).i ∧ i64B (t j).n ∧ i64B (t j).k ∧ i64B (t j).g
theorem SrcD.below {w w' : World} {a : Option Addr} {n : Nat} {t : Nat → Dd} (h : SrcD w a n t) (hb : Below w.heap.size w w') : SrcD w' a n t := by
  rcases h with h | ⟨b, off, e, h⟩
  · exact .inl h
  · refine .inr ⟨b, off, e, fun j hj => ?_⟩
    obtain ⟨⟨h0, h1, h2, h3, h4, h5⟩, h6⟩ := h j hj
    have hlt : b < w.heap.size := World.block_lt_of_cell? _ _ h0
    exact ⟨⟨(hb.cell (p := ⟨b, _, none⟩) hlt).trans h0, (hb.cell (p := ⟨b, _, none⟩) hlt).trans h1, (hb.cell (p := ⟨b, _, none⟩) hlt).trans h2, (hb.cell (p := ⟨b, _, none⟩) hlt).trans h3, (hb.cell (p := ⟨b, _, none⟩) hlt).trans h4, (hb.cell (p := ⟨b, _, none⟩) hlt).trans h5⟩, h6⟩
def Dd.cs (d : Dd) : Array Value := #[.int .i64 d.d, .int .i64 d.o, .int .i64 d.i, .int .i64 d.n, .int .i64 d.k, .int .i64 d.g]
theorem SrcD.rng {w : World} {b off n : Nat} {t : Nat → Dd} (h : ∀ j, j < n → (w.cell? ⟨b, off + j * 6, none⟩ = some (.int .i64 (t j).d) ∧ w.cell? ⟨b, off + j * 6 + 1, none⟩ = some (.int .i64 (t j).o) ∧ w.cell? ⟨b, off + j * 6 + 2, none⟩ = some (.int .i64 (t j).i) ∧ w.cell? ⟨b, off + j * 6 + 3, none⟩ = some (.int .i64 (t j).n) ∧ w.cell? ⟨b, off + j * 6 + 4, none⟩ = some (.int .i64 (t j).k) ∧ w.cell? ⟨b, off + j * 6 + 5, none⟩ = some (.int .i64 (t j).g)) ∧ i64B (t j).d ∧ i64B (t j).o ∧ i64B (t j).i ∧ i64B (t j).n ∧ i64B (t j).k ∧ i64B (t j).g) {j : Nat} (hj : j < n) : w.rangeAt b (off + j * 6) (t j).cs.toList := fun q u hu => by
  obtain ⟨⟨h0, h1, h2, h3, h4, h5⟩, _⟩ := h j hj
  have hq : q < 6 := (List.getElem?_eq_some_iff.1 hu).1
  match q, hq with
  | 0, _ => exact h0.trans hu
  | 1, _ => exact h1.trans hu
  | 2, _ => exact h2.trans hu
  | 3, _ => exact h3.trans hu
  | 4, _ => exact h4.trans hu
  | 5, _ => exact h5.trans hu
/-- The world while its heaps are made: i of the program's, j of the reference's. -/
structure MW (w W : World) (wb i j : Nat) (h r : Nat → Nat) : Prop where
  hp : ∀ k, k < i → HpO k w.heap.size W (h k) (.slice none 0 0) [] 0
  rh : ∀ k, k < j → RH W k (r k) (.slice none 0 0) []
  bw : ∃ cs, Blk W wb 89 cs ∧ cs.size = 8 ∧ (∀ k, k < i → cs[k]? = some (ptr (h k))) ∧ (∀ k, k < j → cs[3 + k]? = some (ptr (r k))) ∧ (∀ k, k < 6 → ∃ p, cs[k]? = some (.pointer p)) ∧ cs[6]? = some (.slice none 0 0) ∧ cs[7]? = some (.slice none 0 0)
  lw : w.heap.size ≤ wb
  lr : ∀ k, k < j → w.heap.size ≤ r k
  dh : ∀ a b, a < b → b < i → h a ≠ h b
  dr : ∀ a b, a < b → b < j → r a ≠ r b
  fr : Fr w W (fun b => w.heap.size ≤ b)
theorem ownH_nil {h b : Nat} (q : ownH h (.slice none 0 0) ([] : List (It Th)) b) : b = h := by
  rcases q with q | q | ⟨_, q, _⟩
  · exact q
  · cases q
  · cases q
theorem ownR_nil {h b : Nat} (q : ownR h (.slice none 0 0) [] b) : b = h := by
  rcases q with q | q | ⟨_, q, _⟩
  · exact q
  · cases q
  · cases q
section
variable {w W W1 : World} {wb i j : Nat} {h r : Nat → Nat}
theorem MW.sm (M : MW w W wb i j h r) (f : Fr W W1 (fun _ => False)) : MW w W1 wb i j h r := by
  obtain ⟨cs, hb, hc⟩ := M.bw
  exact ⟨fun k hk => (M.hp k hk).sm f, fun k hk => (M.rh k hk).sm f, ⟨cs, hb.fr f fun q => q, hc⟩, M.lw, M.lr, M.dh, M.dr, M.fr.trans f fun _ _ q => by rcases q with q | q; exact q; exact q.elim⟩
theorem MW.put (M : MW w W wb i j h r) {k : Nat} (hk : k < 6) (p : Nat) (hi : ∀ q, q < i → q ≠ k) (hj : ∀ q, q < j → 3 + q ≠ k) :
    MW w (W.setCell ⟨wb, k, none⟩ (ptr p)) wb i j h r ∧ (W.setCell ⟨wb, k, none⟩ (ptr p)).cell? ⟨wb, k, none⟩ = some (ptr p) := by
  obtain ⟨cs, hb, h8, h1, h2, h3, h4, h5⟩ := M.bw
  have f : Fr W (W.setCell ⟨wb, k, none⟩ (ptr p)) (fun b => b = wb) := Fr.setCell _ _ _ _ rfl
  have hb' := hb.set k (ptr p)
  have g : ∀ q, q ≠ k → (cs.setIfInBounds k (ptr p))[q]? = cs[q]? := fun q hq => by rw [Array.getElem?_setIfInBounds_ne (Ne.symm hq)]
  have g0 : (cs.setIfInBounds k (ptr p))[k]? = some (ptr p) := by rw [Array.getElem?_setIfInBounds_self_of_lt (by omega)]
  refine ⟨⟨fun q hq => (M.hp q hq).fr f fun b hb2 e => (M.hp q hq).other hb (by decide) (by decide) (by decide) (e ▸ hb2), fun q hq => (M.rh q hq).fr f fun b hb2 e => (M.rh q hq).other hb (by decide) (by decide) (by decide) (e ▸ hb2), ⟨_, hb', by rw [Array.size_setIfInBounds]; exact h8, fun q hq => (g q (hi q hq)).trans (h1 q hq), fun q hq => (g _ (hj q hq)).trans (h2 q hq), fun q hq => ?_, (g 6 (by omega)).trans h4, (g 7 (by omega)).trans h5⟩, M.lw, M.lr, M.dh, M.dr, M.fr.trans f fun b _ q => ?_⟩, (hb'.cell k).trans g0⟩
  · by_cases hqk : q = k
    · subst hqk; exact ⟨_, g0⟩
    · obtain ⟨v, hv⟩ := h3 q hq
      exact ⟨v, (g q hqk).trans hv⟩
  · rcases q with q | q
    · exact q
    · rw [q]; exact M.lw
theorem MW.addH (M : MW w W wb i j h r) (hi : i < 3) (f : Fr W W1 (fun _ => False)) {p : Nat} (h1 : HpO i w.heap.size W1 p (.slice none 0 0) [] 0) (hp : W.heap.size ≤ p) : MW w (W1.setCell ⟨wb, i, none⟩ (ptr p)) wb (i + 1) j (fset h i p) r := by
  obtain ⟨M2, hc⟩ := (M.sm f).put (k := i) (by omega) p (fun q hq => by omega) (fun q hq => by omega)
  obtain ⟨cs1, hb1, _⟩ := (M.sm f).bw
  have h2 : HpO i w.heap.size (W1.setCell ⟨wb, i, none⟩ (ptr p)) p (.slice none 0 0) [] 0 := h1.fr (Fr.setCell _ _ _ (fun b => b = wb) rfl) fun b hb2 e => h1.other hb1 (by decide) (by decide) (by decide) (e ▸ hb2)
  obtain ⟨cs, hb, h8, q1, q2, q3⟩ := M2.bw
  refine ⟨fun k hk => ?_, M2.rh, ⟨cs, hb, h8, fun k hk => ?_, q2, q3⟩, M2.lw, M2.lr, fun a b hab hb2 => ?_, M2.dr, M2.fr⟩
  · by_cases hki : k = i
    · subst hki; rw [fset_eq]; exact h2
    · rw [fset_ne _ _ hki]; exact M2.hp k (by omega)
  · by_cases hki : k = i
    · subst hki; rw [fset_eq, ← hb.cell]; exact hc
    · rw [fset_ne _ _ hki]; exact q1 k (by omega)
  · rw [fset_ne h p (k := i) (j := a) (by omega)]
    by_cases hki : b = i
    · subst hki
      rw [fset_eq]
      have := (M.hp a hab).lt (b := h a) (.inl rfl)
      omega
    · rw [fset_ne _ _ hki]; exact M2.dh a b hab (by omega)
theorem MW.addR (M : MW w W wb i j h r) (hj : j < 3) (hij : i ≤ 3) (f : Fr W W1 (fun _ => False)) {p : Nat} (h1 : RH W1 j p (.slice none 0 0) []) (hp : W.heap.size ≤ p) : MW w (W1.setCell ⟨wb, 3 + j, none⟩ (ptr p)) wb i (j + 1) h (fset r j p) := by
  obtain ⟨M2, hc⟩ := (M.sm f).put (k := 3 + j) (by omega) p (fun q hq => by omega) (fun q hq => by omega)
  obtain ⟨cs1, hb1, _⟩ := (M.sm f).bw
  have h2 : RH (W1.setCell ⟨wb, 3 + j, none⟩ (ptr p)) j p (.slice none 0 0) [] := h1.fr (Fr.setCell _ _ _ (fun b => b = wb) rfl) fun b hb2 e => h1.other hb1 (by decide) (by decide) (by decide) (e ▸ hb2)
  obtain ⟨cs, hb, h8, q1, q2, q3⟩ := M2.bw
  refine ⟨M2.hp, fun k hk => ?_, ⟨cs, hb, h8, q1, fun k hk => ?_, q3⟩, M2.lw, fun k hk => ?_, M2.dh, fun a b hab hb2 => ?_, M2.fr⟩
  · by_cases hki : k = j
    · subst hki; rw [fset_eq]; exact h2
    · rw [fset_ne _ _ hki]; exact M2.rh k (by omega)
  · by_cases hki : k = j
    · subst hki; rw [fset_eq, ← hb.cell]; exact hc
    · rw [fset_ne _ _ hki]; exact q2 k (by omega)
  · by_cases hki : k = j
    · subst hki; rw [fset_eq]; exact Nat.le_trans M.fr.size hp
    · rw [fset_ne _ _ hki]; exact M2.lr k (by omega)
  · rw [fset_ne r p (k := j) (j := a) (by omega)]
    by_cases hki : b = j
    · subst hki
      rw [fset_eq]
      have := (M.rh a hab).lt (b := r a) (.inl rfl)
      omega
    · rw [fset_ne _ _ hki]; exact M2.dr a b hab (by omega)
def colM (B wb : Nat) (h r : Nat → Nat) (b : Nat) : Nat := if b < B then 9 else if b = wb then 8 else if b = h 0 then 0 else if b = h 1 then 1 else if b = h 2 then 2 else if b = r 0 then 3 else if b = r 1 then 4 else if b = r 2 then 5 else 10
def stM (h r : Nat → Nat) : St := ⟨h, fun _ => .slice none 0 0, fun _ => 0, r, fun _ => .slice none 0 0, .slice none 0 0, .slice none 0 0, []⟩
set_option maxHeartbeats 4000000 in
theorem MW.pw (M : MW w W wb 3 3 h r) : PW w W wb (stM h r) (colM w.heap.size wb h r) := by
  obtain ⟨cs, hb, h8, q1, q2, q3, q4, q5⟩ := M.bw
  have hw : ∀ k, k < 3 → h k ≠ wb := fun k hk e => (M.hp k hk).other hb (by decide) (by decide) (by decide) (.inl e.symm)
  have rw' : ∀ k, k < 3 → r k ≠ wb := fun k hk e => (M.rh k hk).other hb (by decide) (by decide) (by decide) (.inl e.symm)
  have hr : ∀ a b, a < 3 → b < 3 → r b ≠ h a := fun a b ha hb2 e => (M.hp a ha).other (M.rh b hb2).blk (by decide) (by decide) (by decide) (.inl e)
  have hlo : ∀ k, k < 3 → w.heap.size ≤ h k := fun k hk => (M.hp k hk).lo _ (.inl rfl)
  have lw := M.lw
  have a0 := hw 0 (by decide); have a1 := hw 1 (by decide); have a2 := hw 2 (by decide)
  have b0 := rw' 0 (by decide); have b1 := rw' 1 (by decide); have b2 := rw' 2 (by decide)
  have c00 := hr 0 0 (by decide) (by decide); have c01 := hr 0 1 (by decide) (by decide); have c02 := hr 0 2 (by decide) (by decide)
  have c10 := hr 1 0 (by decide) (by decide); have c11 := hr 1 1 (by decide) (by decide); have c12 := hr 1 2 (by decide) (by decide)
  have c20 := hr 2 0 (by decide) (by decide); have c21 := hr 2 1 (by decide) (by decide); have c22 := hr 2 2 (by decide) (by decide)
  have d0 := hlo 0 (by decide); have d1 := hlo 1 (by decide); have d2 := hlo 2 (by decide)
  have e0 := M.lr 0 (by decide); have e1 := M.lr 1 (by decide); have e2 := M.lr 2 (by decide)
  have f01 := M.dh 0 1 (by decide) (by decide); have f02 := M.dh 0 2 (by decide) (by decide); have f12 := M.dh 1 2 (by decide) (by decide)
  have g01 := M.dr 0 1 (by decide) (by decide); have g02 := M.dr 0 2 (by decide) (by decide); have g12 := M.dr 1 2 (by decide) (by decide)
  refine ⟨M.hp, M.rh, fun e he => (by cases he), RowAt.none0 _ _ _, RowAt.none0 _ _ _, ?_, fun k hk b hb2 => ?_, fun k hk b hb2 => ?_, fun e he => (by cases he), fun b hb2 => (by cases hb2), fun b hb2 => (by cases hb2), ?_, fun b hb2 => ?_, fun k hk => Nat.le_refl _, fun i j a b hi => (by cases hi), M.fr, Nat.zero_le _⟩
  · have e : cs = (stM h r).cs := by
      refine Array.ext_getElem? fun q => ?_
      match q with
      | 0 => exact q1 0 (by decide)
      | 1 => exact q1 1 (by decide)
      | 2 => exact q1 2 (by decide)
      | 3 => exact q2 0 (by decide)
      | 4 => exact q2 1 (by decide)
      | 5 => exact q2 2 (by decide)
      | 6 => exact q4
      | 7 => exact q5
      | q + 8 => rw [Array.getElem?_eq_none (by omega), Array.getElem?_eq_none (by show 8 ≤ q + 8; omega)]
    rw [← e]; exact hb
  · have e : b = h k := ownH_nil hb2
    subst e
    obtain rfl | rfl | rfl : k = 0 ∨ k = 1 ∨ k = 2 := by omega
    all_goals (unfold colM; repeat' split) <;> omega
  · have e : b = r k := ownR_nil hb2
    subst e
    obtain rfl | rfl | rfl : k = 0 ∨ k = 1 ∨ k = 2 := by omega
    all_goals (unfold colM; repeat' split) <;> omega
  · unfold colM; repeat' split
    all_goals omega
  · unfold colM; rw [if_pos hb2]
end
theorem stP_run {op : Oper} {a : Act} {w : World} {g o p : Nat} {p0 : Option Addr} {T : TypeId} (hT : T = 25 ∨ T = 85) (x y : Operand) (ho : op.op = .store T x y) (hx : a.eval x = .pointer (some ⟨g, o, none⟩)) (hy : a.eval y = ptr p) (h : w.cell? ⟨g, o, none⟩ = some (.pointer p0)) (hf : w.frozen? ⟨g, o, none⟩ = false) : (execOp a.eval op).run Try.prog w = .ok .skip (w.setCell ⟨g, o, none⟩ (ptr p)) := by
  unfold execOp
  simp only [ho, hx, hy]
  rcases hT with rfl | rfl <;> go_simp
theorem eqNil_run {op : Oper} {a : Act} {g : Nat} (x y : Operand) (ho : op.op = .binOp .eql 25 x y 25) (hx : a.eval x = ptr g) (hy : a.eval y = .pointer none) (w : World) : (execOp a.eval op).run Try.prog w = .ok (.value (.bool false)) w := by
  unfold execOp
  simp only [ho, hx, hy]
  go_simp
theorem ixD_run {op : Oper} {a : Act} {g o n c i : Nat} (x y : Operand) (ho : op.op = .indexAddr 82 x y) (hx : a.eval x = .slice (some ⟨g, o, none⟩) n c) (hy : a.eval y = .int .i64 (i : Int)) (hi : i < n) (w : World) : (execOp a.eval op).run Try.prog w = .ok (.value (.pointer (some ⟨g, o + i * 6, none⟩))) w := by
  have h1 : (i : Int) < (n : Int) := by omega
  have h2 : ¬ (n : Int) ≤ (i : Int) := by omega
  unfold execOp
  simp only [ho, hx, hy]
  go_simp
end Go.Proofs.Ytdnhhcbabdoomaa
