import Derived.Test.YtbhddfcdnpidkaaV24

namespace Go.Proofs.Ytbhddfcdnpidkaa
set_option linter.unusedVariables false
set_option linter.unusedSimpArgs false
open Go.RowKit Go.Great
attribute [local irreducible] wpList

/-- The first of a row gives q. -/
def lessL (q : Int) : List Wn → List Wn
  | [] => []
  | v :: l => if v.q - q = 0 then l else ⟨v.id, v.m, v.p, v.q - q⟩ :: l
theorem wpList_skipW' {P : Program} {ops : Array Oper} {rest : List Oper} {op : Oper} {a : Act} {w w' : World} {Q : Exit → Act → World → Prop} (hg : op.guard = none) (d : Option Tmp) (hd : op.dst = d) (hrun : (execOp a.eval op).run P w = .ok .skip w') (h : wpList P ops Q rest (a.put d undef) w') : wpList P ops Q (op :: rest) a w := by
  subst hd
  refine wpList_plain hg fun K hK => ?_
  unfold Oper.wp
  rw [hrun]
  exact hK _ _ h
theorem stN_run' {op : Oper} {a : Act} {w : World} {g o : Nat} {z z0 : Int} {T : TypeId} (hT : T = 2 ∨ T = 3) (x y : Operand) (ho : op.op = .store T x y) (hx : a.eval x = .pointer (some ⟨g, o, none⟩)) (hy : a.eval y = .int .i64 z) (h : w.cell? ⟨g, o, none⟩ = some (.int .i64 z0)) (hf : w.frozen? ⟨g, o, none⟩ = false) : (execOp a.eval op).run Try.prog w = .ok .skip (w.setCell ⟨g, o, none⟩ (.int .i64 z)) := by
  unfold execOp
  simp only [ho, hx, hy]
  rcases hT with rfl | rfl <;> go_simp
set_option maxRecDepth 100000 in
set_option maxHeartbeats 1000000 in
theorem less_any {w : World} {g o n c : Nat} {v : Wn} {l : List Wn} (h : RowAt w 69 4 (.slice (some ⟨g, o, none⟩) n c) n (flatL wL (v :: l))) (hn : n = l.length + 1) (q : Int) (hq : -9223372036854775808 ≤ v.q - q ∧ v.q - q ≤ 9223372036854775807) :
    Calls Try.prog 34 #[.slice (some ⟨g, o, none⟩) n c, .int .i64 q] w fun e w' => ∃ v', e = .returned v' ∧ Hid (RowAt w' 69 4 v' (lessL q (v :: l)).length (flatL wL (lessL q (v :: l))) ∧ Fr w w' (fun b => b = g) ∧ v'.ownBlock = some g) := by
  have c3 : w.cell? ⟨g, o + 3, none⟩ = some (.int .i64 v.q) := h.cell rfl (j := 3) rfl
  have f3 : w.frozen? ⟨g, o + 3, none⟩ = false := h.frozen rfl _
  have h2 := h.set (j := 3) (by simp [flatL, wL]) (.int .i64 (v.q - q))
  rw [show (flatL wL (v :: l)).set 3 (.int .i64 (v.q - q)) = flatL wL (⟨v.id, v.m, v.p, v.q - q⟩ :: l) from rfl] at h2
  have hfr : Fr w (w.setCell ⟨g, o + 3, none⟩ (.int .i64 (v.q - q))) (fun b => b = g) := Fr.setCell w ⟨g, o + 3, none⟩ _ _ rfl
  have c4 : (w.setCell ⟨g, o + 3, none⟩ (.int .i64 (v.q - q))).cell? ⟨g, o + 3, none⟩ = some (.int .i64 (v.q - q)) := h2.cell rfl (j := 3) rfl
  have H2 : Hid (RowAt (w.setCell ⟨g, o + 3, none⟩ (.int .i64 (v.q - q))) 69 4 (.slice (some ⟨g, o, none⟩) n c) n (flatL wL (⟨v.id, v.m, v.p, v.q - q⟩ :: l)) ∧ Fr w (w.setCell ⟨g, o + 3, none⟩ (.int .i64 (v.q - q))) (fun b => b = g)) := ⟨h2, hfr⟩
  have hn0 : 0 < n := by omega
  clear h h2 hfr
  generalize hvq : v.q = vq at *
  have HV : Hid (v.q = vq) := hvq
  clear hvq
  generalize hZ : w.setCell ⟨g, o + 3, none⟩ (.int .i64 (vq - q)) = Z at *
  go_enter Try.func34, Try.ntmps34
  go_upto_region 1 with fail
  rename_i K hK
  refine wp_region_lit ?_
  refine wpList_runTo rfl (some 5) rfl (.slice (some ⟨g, o, none⟩) n c) w (by kernel_rfl) ?_
  simp only [Act.put, List.setIfInBounds_toArray, List.set_cons_zero, List.set_cons_succ]
  refine wpList_runTo rfl (some 6) rfl (.pointer (some ⟨g, o + 0 * 4, none⟩)) w (by exact ixW_run (i := 0) (n := n) (c := c) (.tmp 5) (.const (.int .i64 0)) rfl (by kernel_rfl) rfl hn0 _) ?_
  simp only [Act.put, List.setIfInBounds_toArray, List.set_cons_zero, List.set_cons_succ]
  refine wpList_runTo rfl (some 7) rfl (.pointer (some ⟨g, o + 3, none⟩)) w (by kernel_rfl) ?_
  simp only [Act.put, List.setIfInBounds_toArray, List.set_cons_zero, List.set_cons_succ]
  refine wpList_runTo rfl (some 8) rfl (.int .i64 vq) w (by exact ldN_run (.inl rfl) (.tmp 7) rfl (by kernel_rfl) c3) ?_
  simp only [Act.put, List.setIfInBounds_toArray, List.set_cons_zero, List.set_cons_succ]
  refine wpList_runTo rfl (some 9) rfl (.int .i64 q) w (by kernel_rfl) ?_
  simp only [Act.put, List.setIfInBounds_toArray, List.set_cons_zero, List.set_cons_succ]
  refine wpList_runTo rfl (some 10) rfl (.int .i64 (vq - q)) w (by exact subW_run (.tmp 8) (.tmp 9) rfl (by kernel_rfl) (by kernel_rfl) hq _) ?_
  simp only [Act.put, List.setIfInBounds_toArray, List.set_cons_zero, List.set_cons_succ]
  refine wpList_runTo rfl (some 11) rfl (.pointer (some ⟨g, o + 0 * 4, none⟩)) w (by exact ixW_run (i := 0) (n := n) (c := c) (.tmp 5) (.const (.int .i64 0)) rfl (by kernel_rfl) rfl hn0 _) ?_
  simp only [Act.put, List.setIfInBounds_toArray, List.set_cons_zero, List.set_cons_succ]
  refine wpList_runTo rfl (some 12) rfl (.pointer (some ⟨g, o + 3, none⟩)) w (by kernel_rfl) ?_
  simp only [Act.put, List.setIfInBounds_toArray, List.set_cons_zero, List.set_cons_succ]
  refine wpList_skipW' rfl none rfl (w' := w.setCell ⟨g, o + 3, none⟩ (.int .i64 (vq - q))) (stN_run' (.inl rfl) (.tmp 12) (.tmp 10) rfl (by kernel_rfl) (by kernel_rfl) c3 f3) ?_
  simp only [Act.put, List.setIfInBounds_toArray, List.set_cons_zero, List.set_cons_succ]
  rw [hZ]
  clear hZ c3 f3
  refine wpList_nil ?_
  refine hK _ _ ?_
  clear hK
  go_upto_region 2 with fail
  rename_i K hK
  refine wp_region_lit ?_
  refine wpList_runTo rfl (some 13) rfl (.slice (some ⟨g, o, none⟩) n c) Z (by kernel_rfl) ?_
  simp only [Act.put, List.setIfInBounds_toArray, List.set_cons_zero, List.set_cons_succ]
  refine wpList_runTo rfl (some 14) rfl (.pointer (some ⟨g, o + 0 * 4, none⟩)) Z (by exact ixW_run (i := 0) (n := n) (c := c) (.tmp 13) (.const (.int .i64 0)) rfl (by kernel_rfl) rfl hn0 _) ?_
  simp only [Act.put, List.setIfInBounds_toArray, List.set_cons_zero, List.set_cons_succ]
  refine wpList_runTo rfl (some 15) rfl (.pointer (some ⟨g, o + 3, none⟩)) Z (by kernel_rfl) ?_
  simp only [Act.put, List.setIfInBounds_toArray, List.set_cons_zero, List.set_cons_succ]
  refine wpList_runTo rfl (some 16) rfl (.int .i64 (vq - q)) Z (by exact ldN_run (.inl rfl) (.tmp 15) rfl (by kernel_rfl) c4) ?_
  simp only [Act.put, List.setIfInBounds_toArray, List.set_cons_zero, List.set_cons_succ]
  clear c4
  by_cases hz : vq - q = 0
  ·
    refine wpList_runTo rfl (some 17) rfl (.bool true) Z (by exact eq0_run (.inl rfl) (.tmp 16) rfl (by kernel_rfl) (decide_eq_true hz) _) ?_
    simp only [Act.put, List.setIfInBounds_toArray, List.set_cons_zero, List.set_cons_succ]
    refine wpList_nil ?_
    refine hK _ _ ?_
    clear hK
    have HF : Hid (RowAt Z 69 4 (.slice (if c = 1 then some ⟨g, o, none⟩ else some ⟨g, o + 4, none⟩) (n - 1) (c - 1)) (lessL q (v :: l)).length (flatL wL (lessL q (v :: l))) ∧ Fr w Z (fun b => b = g) ∧ (Value.slice (if c = 1 then some ⟨g, o, none⟩ else some ⟨g, o + 4, none⟩) (n - 1) (c - 1)).ownBlock = some g) := by
      have hz' : v.q - q = 0 := by rw [HV.out]; exact hz
      have e : lessL q (v :: l) = l := if_pos hz'
      rw [e]
      have := rowW_from H2.out.1 hn0
      rw [show n - 1 = l.length by omega] at this ⊢
      exact ⟨this, H2.out.2, by split <;> rfl⟩
    clear H2
    go_upto_region 3 with fail
    rename_i K hK
    refine wp_region_lit ?_
    refine wpList_runTo rfl (some 18) rfl (.slice (some ⟨g, o, none⟩) n c) Z (by kernel_rfl) ?_
    simp only [Act.put, List.setIfInBounds_toArray, List.set_cons_zero, List.set_cons_succ]
    refine wpList_runTo rfl (some 19) rfl (.slice (if c = 1 then some ⟨g, o, none⟩ else some ⟨g, o + 4, none⟩) (n - 1) (c - 1)) Z (by exact fromW_run (.tmp 18) rfl (by kernel_rfl) hn0 _) ?_
    simp only [Act.put, List.setIfInBounds_toArray, List.set_cons_zero, List.set_cons_succ]
    generalize Value.slice (if c = 1 then some (⟨g, o, none⟩ : Addr) else some ⟨g, o + 4, none⟩) (n - 1) (c - 1) = v9 at *
    refine wpList_runTo rfl (some 4) rfl (v9) Z (by kernel_rfl) ?_
    simp only [Act.put, List.setIfInBounds_toArray, List.set_cons_zero, List.set_cons_succ]
    refine wpList_nil ?_
    refine hK _ _ ?_
    clear hK
    go_wp2
    go_ret
    exact ⟨_, rfl, HF⟩
  ·
    refine wpList_runTo rfl (some 17) rfl (.bool false) Z (by exact eq0_run (.inl rfl) (.tmp 16) rfl (by kernel_rfl) (decide_eq_false hz) _) ?_
    simp only [Act.put, List.setIfInBounds_toArray, List.set_cons_zero, List.set_cons_succ]
    refine wpList_nil ?_
    refine hK _ _ ?_
    clear hK
    have HF : Hid (RowAt Z 69 4 (.slice (some ⟨g, o, none⟩) n c) (lessL q (v :: l)).length (flatL wL (lessL q (v :: l))) ∧ Fr w Z (fun b => b = g) ∧ (Value.slice (some ⟨g, o, none⟩) n c).ownBlock = some g) := by
      have hz' : ¬ v.q - q = 0 := by rw [HV.out]; exact hz
      have e : lessL q (v :: l) = ⟨v.id, v.m, v.p, v.q - q⟩ :: l := if_neg hz'
      rw [e]
      have := H2.out.1
      rw [← HV.out] at this
      exact ⟨by rw [List.length_cons, ← hn]; exact this, H2.out.2, rfl⟩
    clear H2
    go_wp2
    go_ret
    exact ⟨_, rfl, HF⟩
end Go.Proofs.Ytbhddfcdnpidkaa

namespace Go.Proofs.Ytbhddfcdnpidkaa
set_option linter.unusedVariables false

/-- A fill: who buys, who sells, the price, how much. -/
structure Fl where
  b : Int
  s : Int
  p : Int
  q : Int
def mn2 (a b : Int) : Int := if a ≤ b then a else b
/-- How much the first two trade, of what is left. -/
def mnF (left : Int) (b s : Wn) : Int := mn2 (mn2 left b.q) s.q
def fillsF (p : Int) : Nat → Int → List Wn → List Wn → List Fl
  | 0, _, _, _ => []
  | _ + 1, _, [], _ => []
  | _ + 1, _, _ :: _, [] => []
  | k + 1, left, b :: B, s :: S => if 0 < left then ⟨b.id, s.id, p, mnF left b s⟩ :: fillsF p k (left - mnF left b s) (lessL (mnF left b s) (b :: B)) (lessL (mnF left b s) (s :: S)) else []
theorem fillsF_none (p : Int) : ∀ (k : Nat) (left : Int) (B S : List Wn), ¬ (0 < left ∧ B ≠ [] ∧ S ≠ []) → fillsF p k left B S = []
  | 0, _, _, _, _ => rfl
  | _ + 1, _, [], _, _ => rfl
  | _ + 1, _, _ :: _, [], _ => rfl
  | k + 1, left, b :: B, s :: S, h => by
    unfold fillsF
    rw [if_neg fun h0 => h ⟨h0, by simp, by simp⟩]
def okQ (B : List Wn) : Prop := ∀ v ∈ B, 1 ≤ v.q ∧ v.q ≤ 1000000
theorem mnF_bd {left : Int} {b s : Wn} (h0 : 0 < left) (hb : 1 ≤ b.q) (hs : 1 ≤ s.q) : 1 ≤ mnF left b s ∧ mnF left b s ≤ left ∧ mnF left b s ≤ b.q ∧ mnF left b s ≤ s.q ∧ (mnF left b s = left ∨ mnF left b s = b.q ∨ mnF left b s = s.q) := by
  unfold mnF mn2
  split <;> split <;> omega
theorem lessL_eq (q : Int) (v : Wn) (l : List Wn) : lessL q (v :: l) = if v.q - q = 0 then l else ⟨v.id, v.m, v.p, v.q - q⟩ :: l := rfl
theorem lessL_ok {q : Int} {v : Wn} {l : List Wn} (h : okQ (v :: l)) (h1 : 1 ≤ q) (hq : q ≤ v.q) : okQ (lessL q (v :: l)) := by
  rw [lessL_eq]
  split
  · exact fun x hx => h x (List.mem_cons_of_mem _ hx)
  · intro x hx
    rcases List.mem_cons.1 hx with rfl | hx
    · have := h v List.mem_cons_self
      show 1 ≤ v.q - q ∧ v.q - q ≤ 1000000
      omega
    · exact h x (List.mem_cons_of_mem _ hx)
theorem lessL_len {q : Int} {v : Wn} {l : List Wn} : (lessL q (v :: l)).length ≤ l.length + 1 ∧ (q = v.q → (lessL q (v :: l)).length = l.length) := by
  rw [lessL_eq]
  constructor
  · split <;> simp
  · intro h
    rw [if_pos (by omega)]
/-- Where the filling stands: done so far, and to come. -/
structure FS (p : Int) (T : List Fl) (N : Nat) (left : Int) (B S : List Wn) (F : List Fl) : Prop where
  eq : ∃ k, (left = 0 ∨ B.length + S.length ≤ k) ∧ T = F ++ fillsF p k left B S
  len : (left = 0 ∧ F.length ≤ N) ∨ F.length + (B.length + S.length) ≤ N
  ob : okQ B
  os : okQ S
  nn : 0 ≤ left
theorem FS.start (p : Int) {left : Int} {B S : List Wn} (hb : okQ B) (hs : okQ S) (h0 : 0 ≤ left) : FS p (fillsF p (B.length + S.length) left B S) (B.length + S.length) left B S [] := ⟨⟨_, .inr (Nat.le_refl _), rfl⟩, .inr (by simp), hb, hs, h0⟩
theorem FS.done {p : Int} {T : List Fl} {N : Nat} {left : Int} {B S : List Wn} {F : List Fl} (h : FS p T N left B S F) (hd : ¬ (0 < left ∧ B ≠ [] ∧ S ≠ [])) : F = T := by
  obtain ⟨k, _, e⟩ := h.eq
  rw [e, fillsF_none p k left B S hd, List.append_nil]
theorem FS.step {p : Int} {T : List Fl} {N : Nat} {left : Int} {b s : Wn} {B S : List Wn} {F : List Fl} (h : FS p T N left (b :: B) (s :: S) F) (h0 : 0 < left) : FS p T N (left - mnF left b s) (lessL (mnF left b s) (b :: B)) (lessL (mnF left b s) (s :: S)) (F ++ [⟨b.id, s.id, p, mnF left b s⟩]) := by
  have hb := h.ob b List.mem_cons_self
  have hs := h.os s List.mem_cons_self
  obtain ⟨m1, m2, m3, m4, m5⟩ := mnF_bd h0 hb.1 hs.1
  obtain ⟨k, hk, e⟩ := h.eq
  have l1 := lessL_len (q := mnF left b s) (v := b) (l := B)
  have l2 := lessL_len (q := mnF left b s) (v := s) (l := S)
  have hk' : (b :: B).length + (s :: S).length ≤ k := hk.resolve_left (by omega)
  have hlen : F.length + ((b :: B).length + (s :: S).length) ≤ N := h.len.resolve_left (by omega)
  simp only [List.length_cons] at hk' hlen
  obtain ⟨k, rfl⟩ : ∃ j, k = j + 1 := ⟨k - 1, by omega⟩
  refine ⟨⟨k, ?_, ?_⟩, ?_, lessL_ok h.ob m1 m3, lessL_ok h.os m1 m4, by omega⟩
  · rcases m5 with m5 | m5 | m5
    · exact .inl (by omega)
    · have := l1.2 m5
      exact .inr (by omega)
    · have := l2.2 m5
      exact .inr (by omega)
  · rw [e]
    show F ++ (if 0 < left then _ else _) = _
    rw [if_pos h0, List.append_assoc]
    rfl
  · simp only [List.length_append, List.length_cons, List.length_nil]
    rcases m5 with m5 | m5 | m5
    · exact .inl ⟨by omega, by omega⟩
    · have := l1.2 m5
      exact .inr (by omega)
    · have := l2.2 m5
      exact .inr (by omega)
end Go.Proofs.Ytbhddfcdnpidkaa

namespace Go.Proofs.Ytbhddfcdnpidkaa
set_option linter.unusedVariables false
set_option linter.unusedSimpArgs false
open Go.RowKit Go.Great
attribute [local irreducible] wpList

def flL (f : Fl) : List Value := [.int .i64 f.b, .int .i64 f.s, .int .i64 0, .int .i64 f.p, .int .i64 f.q]
theorem infoFl : (Try.prog.info? 39).map (fun i => (i.zero, i.size, i.bytes)) = some (some (.agg #[.int .i64 0, .int .i64 0, .int .i64 0, .int .i64 0, .int .i64 0]), 5, 40) := by kernel_rfl
theorem lt1_run {op : Oper} {a : Act} {p : Int} {r : Bool} (x : Operand) (ho : op.op = .binOp .lss 2 x (.const (.int .i64 1)) 2) (hx : a.eval x = .int .i64 p) (hr : decide (p < 1) = r) (w : World) : (execOp a.eval op).run Try.prog w = .ok (.value (.bool r)) w := by
  have e : a.eval (.const (.int .i64 1)) = .int .i64 1 := rfl
  subst hr
  unfold execOp
  simp only [ho, hx, e]
  go_simp
theorem gt02_run {op : Oper} {a : Act} {p : Int} {r : Bool} (x : Operand) (ho : op.op = .binOp .gtr 2 x (.const (.int .i64 0)) 2) (hx : a.eval x = .int .i64 p) (hr : decide (0 < p) = r) (w : World) : (execOp a.eval op).run Try.prog w = .ok (.value (.bool r)) w := by
  have e : a.eval (.const (.int .i64 0)) = .int .i64 0 := rfl
  subst hr
  unfold execOp
  simp only [ho, hx, e]
  go_simp
theorem pickN_run {op : Oper} {a : Act} {c : Bool} (x y : Operand) (ho : op.op = .pick x (.const (.bool true)) y) (hx : a.eval x = .bool false) (hy : a.eval y = .bool c) (w : World) : (execOp a.eval op).run Try.prog w = .ok (.value (.bool c)) w := by
  have e : a.eval (.const (.bool true)) = .bool true := rfl
  unfold execOp
  simp only [ho, hx, hy, e]
  go_simp
theorem min3_run {op : Oper} {a : Act} {p q r : Int} (x y z : Operand) (ho : op.op = .call { callee := .builtin .min, args := #[x, y, z], argTypes := #[2, 2, 2] }) (hx : a.eval x = .int .i64 p) (hy : a.eval y = .int .i64 q) (hz : a.eval z = .int .i64 r) (w : World) : (execOp a.eval op).run Try.prog w = .ok (.value (.int .i64 (mn2 (mn2 p q) r))) w := by
  have hm : (Builtin.min_ #[2, 2, 2] op.type #[.int .i64 p, .int .i64 q, .int .i64 r]).run Try.prog w = .ok (.int .i64 (if r < (if q < p then q else p) then r else (if q < p then q else p))) w := by simp [Builtin.min_, Builtin.min2]
  have e : (if r < (if q < p then q else p) then r else (if q < p then q else p)) = mn2 (mn2 p q) r := by
    unfold mn2
    by_cases h1 : p ≤ q
    · rw [if_pos h1, if_neg (by omega : ¬ q < p)]
      by_cases h2 : p ≤ r
      · rw [if_pos h2, if_neg (by omega)]
      · rw [if_neg h2, if_pos (by omega)]
    · rw [if_neg h1, if_pos (by omega : q < p)]
      by_cases h2 : q ≤ r
      · rw [if_pos h2, if_neg (by omega)]
      · rw [if_neg h2, if_pos (by omega)]
  rw [e] at hm
  unfold execOp
  simp only [ho, resolve, invoke, builtin, Sem.run_bind, Sem.run_pure, Result.andThen_ok, List.map_toArray, List.map_cons, List.map_nil, hx, hy, hz, hm]
theorem buildFl_run {op : Oper} {a : Act} {b s p q : Int} (x y z u : Operand) (ho : op.op = .build 39 #[(0, x), (1, y), (3, z), (4, u)]) (hx : a.eval x = .int .i64 b) (hy : a.eval y = .int .i64 s) (hz : a.eval z = .int .i64 p) (hu : a.eval u = .int .i64 q) (w : World) : (execOp a.eval op).run Try.prog w = .ok (.value (.agg #[.int .i64 b, .int .i64 s, .int .i64 0, .int .i64 p, .int .i64 q])) w := by
  unfold execOp
  simp only [ho, List.map_toArray, List.map_cons, List.map_nil, hx, hy, hz, hu]
  kernel_rfl
theorem buildFs_run {op : Oper} {a : Act} {b s t p q : Int} (x : Operand) (ho : op.op = .buildSlice 36 1 #[(0, x)]) (hx : a.eval x = .agg #[.int .i64 b, .int .i64 s, .int .i64 t, .int .i64 p, .int .i64 q]) (w : World) : (execOp a.eval op).run Try.prog w = .ok (.value (.slice (some ⟨w.heap.size, 0, none⟩) 1 1)) (w.alloc (.cells #[.int .i64 b, .int .i64 s, .int .i64 t, .int .i64 p, .int .i64 q] 39)) := by
  unfold execOp
  simp only [ho, List.map_toArray, List.map_cons, List.map_nil, hx]
  kernel_rfl
/-- A row of fills, one's own. -/
structure FR (w W : World) (v : Value) (F : List Fl) : Prop where
  row : RowAt W 39 5 v F.length (flatL flL F)
  bel : Below w.heap.size w W
  own : ∀ q, v.ownBlock = some q → w.heap.size ≤ q
/-- Where Fills stands in memory. -/
structure FI (w W : World) (b5 : Nat) (r : Rs) (v7 v8 v9 : Value) (B S : List Wn) (F : List Fl) : Prop where
  bel : Below w.heap.size w W
  k5 : Blk W b5 28 r.cs
  l5 : w.heap.size ≤ b5
  rB : RowAt W 69 4 v7 B.length (flatL wL B)
  rS : RowAt W 69 4 v8 S.length (flatL wL S)
  rF : RowAt W 39 5 v9 F.length (flatL flL F)
  o7 : ∀ q, v7.ownBlock = some q → w.heap.size ≤ q ∧ q ≠ b5
  o8 : ∀ q, v8.ownBlock = some q → w.heap.size ≤ q ∧ q ≠ b5
  o9 : ∀ q, v9.ownBlock = some q → w.heap.size ≤ q ∧ q ≠ b5
  d78 : ∀ q, v7.ownBlock = some q → v8.ownBlock ≠ some q
  d79 : ∀ q, v7.ownBlock = some q → v9.ownBlock ≠ some q
  d89 : ∀ q, v8.ownBlock = some q → v9.ownBlock ≠ some q
theorem FI.below {w W W' : World} {b5 : Nat} {r : Rs} {v7 v8 v9 : Value} {B S : List Wn} {F : List Fl} (h : FI w W b5 r v7 v8 v9 B S F) (hb : Below W.heap.size W W') : FI w W' b5 r v7 v8 v9 B S F :=
  have f := Fr.of_below hb (fun _ => False)
  ⟨below_step h.bel hb, h.k5.below hb h.k5.lt, h.l5, h.rB.fr f fun _ _ => id, h.rS.fr f fun _ _ => id, h.rF.fr f fun _ _ => id, h.o7, h.o8, h.o9, h.d78, h.d79, h.d89⟩
theorem bel_fr {w W W' : World} {g : Nat} (h : Below w.heap.size w W) (f : Fr W W' (fun b => b = g)) (hg : w.heap.size ≤ g) : Below w.heap.size w W' := ⟨f.os.trans h.os, f.tape.trans h.tape, f.output.trans h.output, Nat.le_trans h.size f.size, fun q hq => (f.block q (Nat.lt_of_lt_of_le hq h.size) (fun e => by omega)).trans (h.block q hq)⟩
/-- One row gives what it gives. -/
theorem FI.lessB {w W W' : World} {b5 : Nat} {r : Rs} {v7 v8 v9 v7' : Value} {B S B' : List Wn} {F : List Fl} {g : Nat} (h : FI w W b5 r v7 v8 v9 B S F) (hg : v7.ownBlock = some g) (hr : RowAt W' 69 4 v7' B'.length (flatL wL B')) (f : Fr W W' (fun b => b = g)) (ho : v7'.ownBlock = some g) : FI w W' b5 r v7' v8 v9 B' S F := by
  have e : ∀ q, v7'.ownBlock = some q → v7.ownBlock = some q := fun q hq => by rw [hg, ← hq, ho]
  exact ⟨bel_fr h.bel f (h.o7 g hg).1, (f.block b5 h.k5.lt (fun x => (h.o7 g hg).2 x.symm)).trans h.k5, h.l5, hr, h.rS.fr f (fun q hq x => h.d78 g hg (x ▸ hq)), h.rF.fr f (fun q hq x => h.d79 g hg (x ▸ hq)), fun q hq => h.o7 q (e q hq), h.o8, h.o9, fun q hq => h.d78 q (e q hq), fun q hq => h.d79 q (e q hq), h.d89⟩
theorem FI.lessS {w W W' : World} {b5 : Nat} {r : Rs} {v7 v8 v9 v8' : Value} {B S S' : List Wn} {F : List Fl} {g : Nat} (h : FI w W b5 r v7 v8 v9 B S F) (hg : v8.ownBlock = some g) (hr : RowAt W' 69 4 v8' S'.length (flatL wL S')) (f : Fr W W' (fun b => b = g)) (ho : v8'.ownBlock = some g) : FI w W' b5 r v7 v8' v9 B S' F := by
  have e : ∀ q, v8'.ownBlock = some q → v8.ownBlock = some q := fun q hq => by rw [hg, ← hq, ho]
  exact ⟨bel_fr h.bel f (h.o8 g hg).1, (f.block b5 h.k5.lt (fun x => (h.o8 g hg).2 x.symm)).trans h.k5, h.l5, h.rB.fr f (fun q hq x => h.d78 q hq (by rw [x]; exact hg)), hr, h.rF.fr f (fun q hq x => h.d89 g hg (x ▸ hq)), h.o7, fun q hq => h.o8 q (e q hq), h.o9, fun q hq k => h.d78 q hq (e q k), h.d79, fun q hq => h.d89 q (e q hq)⟩
theorem FI.app {w W W' : World} {b5 : Nat} {r : Rs} {v7 v8 v9 v' : Value} {B S : List Wn} {F : List Fl} {p : Fl} (h : FI w W b5 r v7 v8 v9 B S F) (hrow : RowAt W' 39 5 v' (F.length + 1) (flatL flL F ++ flL p)) (hfr : Fr W W' (fun b => v9.ownBlock = some b)) (hnew : v'.ownBlock = v9.ownBlock ∨ v'.ownBlock = some W.heap.size ∧ ∀ k, k < W.heap.size → W'.heap[k]? = W.heap[k]?) : FI w W' b5 r v7 v8 v' B S (F ++ [p]) := by
  have hnn : ∀ q, v'.ownBlock = some q → v9.ownBlock = some q ∨ q = W.heap.size := fun q hq => by
    rcases hnew with e | ⟨e, _⟩
    · exact .inl (e ▸ hq)
    · rw [e] at hq; injection hq with hq; exact .inr hq.symm
  refine ⟨⟨hfr.os.trans h.bel.os, hfr.tape.trans h.bel.tape, hfr.output.trans h.bel.output, Nat.le_trans h.bel.size hfr.size, fun q hq => (hfr.block q (Nat.lt_of_lt_of_le hq h.bel.size) (fun e => by have := (h.o9 q e).1; omega)).trans (h.bel.block q hq)⟩, (hfr.block b5 h.k5.lt (fun e => (h.o9 b5 e).2 rfl)).trans h.k5, h.l5, h.rB.fr hfr (fun q hq e => h.d79 q hq e), h.rS.fr hfr (fun q hq e => h.d89 q hq e), ?_, h.o7, h.o8, fun q hq => ?_, h.d78, fun q hq e => ?_, fun q hq e => ?_⟩
  · rw [List.length_append, flatL_app, flatL_one]
    exact hrow
  · rcases hnn q hq with e | e
    · exact h.o9 q e
    · have := h.bel.size
      have := h.k5.lt
      omega
  · rcases hnn q e with e | e
    · exact h.d79 q hq e
    · have := (h.rB.lt hq).1
      omega
  · rcases hnn q e with e | e
    · exact h.d89 q hq e
    · have := (h.rS.lt hq).1
      omega
end Go.Proofs.Ytbhddfcdnpidkaa
