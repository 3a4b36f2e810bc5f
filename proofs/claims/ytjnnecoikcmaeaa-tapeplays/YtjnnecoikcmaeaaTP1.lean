/-
  tape: rows of bytes; numbers written and read.
-/
import Derived.Test.YtjnnecoikcmaeaaTP0
import Derived.Laws.AppendOwnNone
import Derived.Lib.ConvBytes
namespace Go.Proofs.Ytjnnecoikcmaeaa
set_option linter.unusedVariables false
set_option linter.unusedSimpArgs false
open Go.RowKit Go.Great

def dN (l : List Nat) (j : Nat) : Nat := l.getD j 0
theorem rowL_dN (l : List Nat) : rowL (dN l) l.length = l := by
  apply List.ext_getElem
  · simp [rowL]
  · intro j h1 h2
    simp [rowL, dN, h2]
def BB (l : List Nat) : Prop := ∀ x ∈ l, x < 256
theorem BB.app {a b : List Nat} (h : BB a) (k : BB b) : BB (a ++ b) := fun x hx => by
  rcases List.mem_append.1 hx with q | q
  · exact h x q
  · exact k x q
theorem BB.take {a : List Nat} (h : BB a) (n : Nat) : BB (a.take n) := fun x hx => h x (List.mem_of_mem_take hx)
theorem BB.drop {a : List Nat} (h : BB a) (n : Nat) : BB (a.drop n) := fun x hx => h x (List.mem_of_mem_drop hx)
/-- Bytes that can be read. -/
structure By (w : World) (v : Value) (l : List Nat) : Prop where
  ex : ∃ a cap, v = .slice a l.length cap ∧ l.length ≤ cap ∧ (a = none → cap = 0) ∧ (l = [] ∨ ∃ b off, a = some ⟨b, off, none⟩ ∧ ∀ (j x : Nat), l[j]? = some x → w.cell? ⟨b, off + j, none⟩ = some (.int .u8 (x : Int)))
  bb : BB l
theorem By.nil (w : World) : By w (.slice none 0 0) [] := ⟨⟨none, 0, rfl, Nat.le_refl _, fun _ => rfl, .inl rfl⟩, fun x hx => by cases hx⟩
theorem By.form {w : World} {v : Value} {l : List Nat} (h : By w v l) : ∃ a cap, v = .slice a l.length cap ∧ l.length ≤ cap := by
  obtain ⟨a, cap, e, h1, _⟩ := h.ex
  exact ⟨a, cap, e, h1⟩
theorem By.src {w : World} {a : Option Addr} {n cap : Nat} {l : List Nat} (h : By w (.slice a n cap) l) : n = l.length ∧ n ≤ cap ∧ Src w a n (dN l) ∧ (a = none → n = 0 ∧ cap = 0) := by
  obtain ⟨a', cap', e, h1, h2, h3⟩ := h.ex
  injection e with e1 e2 e3
  subst e1 e2 e3
  refine ⟨rfl, h1, ?_, fun e => ⟨by have := h2 e; omega, h2 e⟩⟩
  rcases h3 with h3 | ⟨b, off, e, h3⟩
  · exact .inl (by rw [h3]; rfl)
  · refine .inr ⟨b, off, e, fun j hj => ?_⟩
    have hg : l[j]? = some l[j] := List.getElem?_eq_getElem hj
    have hd : dN l j = l[j] := by simp [dN, hj]
    rw [hd]
    exact ⟨h3 j _ hg, h.bb _ (List.getElem_mem hj)⟩
theorem By.fr {w w' : World} {v : Value} {l : List Nat} {ex : Nat → Prop} (h : By w v l) (hf : Fr w w' ex) (hn : ∀ q, v.ownBlock = some q → ¬ ex q) : By w' v l := by
  obtain ⟨a, cap, rfl, h1, h2, h3⟩ := h.ex
  refine ⟨⟨a, cap, rfl, h1, h2, ?_⟩, h.bb⟩
  rcases h3 with h3 | ⟨b, off, rfl, h3⟩
  · exact .inl h3
  · exact .inr ⟨b, off, rfl, fun j x hj => hf.cell (h3 j x hj) (hn b rfl)⟩
theorem By.below {w w' : World} {v : Value} {l : List Nat} (h : By w v l) (hb : Below w.heap.size w w') : By w' v l := h.fr (Fr.of_below hb (fun _ => False)) fun _ _ => id
theorem RowAt.by' {w : World} {v : Value} {l : List Nat} (h : RowAt w 5 1 v l.length (bvals l)) (hb : BB l) : By w v l := by
  refine ⟨?_, hb⟩
  rcases h.2 with ⟨e1, e2⟩ | ⟨g, off, cap, cur, e1, _, e3, _⟩
  · exact ⟨none, 0, by rw [e1, e2], by omega, fun _ => rfl, .inl (List.eq_nil_of_length_eq_zero e2)⟩
  · refine ⟨_, cap, e1, e3, fun e => (by cases e), ?_⟩
    by_cases h0 : l = []
    · exact .inl h0
    · refine .inr ⟨g, off, rfl, fun j x hj => h.cell e1 ?_⟩
      simp [bvals, hj]
theorem own_rowAt {w : World} {B n : Nat} {v : Value} {l : List Nat} (h : w.ownsRow B 5 1 v n (bvals l)) : RowAt w 5 1 v n (bvals l) ∧ (∀ g, v.ownBlock = some g → B ≤ g) ∧ n = l.length := by
  have hn : n = l.length := by have := h.1; rw [bvals_length] at this; omega
  refine ⟨⟨h.1, ?_⟩, ?_, hn⟩
  · rcases h.2 with h2 | ⟨g, cap, cur, e1, e2, e3, e4, e5, e6, e7⟩
    · exact .inl h2
    · exact .inr ⟨g, 0, cap, cur, e1, e3, e4, e5, by omega, by rw [List.drop_zero]; exact e7⟩
  · intro g hg
    rcases h.2 with ⟨h2, _⟩ | ⟨g', cap, cur, e1, e2, _⟩
    · rw [h2] at hg; cases hg
    · rw [e1] at hg
      have e : g' = g := by injection hg
      subst e; exact e2
/-- Bytes of one's own. -/
structure OwnB (w w' : World) (v : Value) (l : List Nat) : Prop where
  own : w'.ownsRow w.heap.size 5 1 v l.length (bvals l)
  bb : BB l
  bel : Below w.heap.size w w'
theorem OwnB.row {w w' : World} {v : Value} {l : List Nat} (h : OwnB w w' v l) : RowAt w' 5 1 v l.length (bvals l) := (own_rowAt h.own).1
theorem OwnB.low {w w' : World} {v : Value} {l : List Nat} (h : OwnB w w' v l) : ∀ g, v.ownBlock = some g → w.heap.size ≤ g := (own_rowAt h.own).2.1
theorem OwnB.by' {w w' : World} {v : Value} {l : List Nat} (h : OwnB w w' v l) : By w' v l := h.row.by' h.bb
theorem own_mono {w : World} {base base' size n : Nat} {e : TypeId} {v : Value} {xs : List Value} (h : w.ownsRow base e size v n xs) (hb : base' ≤ base) : w.ownsRow base' e size v n xs := by
  refine ⟨h.1, ?_⟩
  rcases h.2 with h2 | ⟨g, cap, cur, e1, e2, e3⟩
  · exact .inl h2
  · exact .inr ⟨g, cap, cur, e1, Nat.le_trans hb e2, e3⟩
theorem OwnB.since {w0 w w' : World} {v : Value} {l : List Nat} (h : OwnB w w' v l) (hb : Below w0.heap.size w0 w) : OwnB w0 w' v l := ⟨own_mono h.own hb.size, h.bb, below_step hb h.bel⟩
theorem OwnB.of {w w' : World} {n : Nat} {v : Value} {l : List Nat} (h : w'.ownsRow w.heap.size 5 1 v n (bvals l)) (hb : Below w.heap.size w w') (hl : BB l) : OwnB w w' v l := by
  obtain ⟨h1, h2, rfl⟩ := own_rowAt h
  exact ⟨h, hl, hb⟩
theorem varL_bb (u : Nat) : BB (varL u) := varL_lt u
/-- A number written behind bytes. -/
theorem PutVar_by {w : World} {v : Value} {l : List Nat} (h : By w v l) (hl : l.length ≤ 1000000) (m : Int) (hm0 : -9223372036854775808 ≤ m) (hm1 : m ≤ 9223372036854775807) :
    Calls Try.prog 30 #[v, .int .i64 m] w fun e w' => ∃ v', e = .returned v' ∧ Hid (OwnB w w' v' (l ++ varL (foldN m))) := by
  obtain ⟨a, cap, rfl, _⟩ := h.form
  obtain ⟨_, _, hs, ha⟩ := h.src
  refine (PutVar_any a l.length cap (dN l) m w (by omega) hm0 hm1 hs ha).mono fun e w' ⟨v', e1, h2, h3⟩ => ⟨v', e1, ?_⟩
  rw [rowL_dN] at h2
  exact OwnB.of h2 h3 (h.bb.app (varL_bb _))
theorem putTo_bb (n s m : Nat) : BB (putTo n s m) := fun x hx => putTo_lt hx
/-- So many bytes of a number, highest first. -/
theorem Put_by (w : World) (u s : Nat) (hs8 : s ≤ 8) (hu : u < 18446744073709551616) :
    Calls Try.prog 46 #[.slice none 0 0, .int .u64 (u : Int), .int .i64 (s : Int)] w fun e w' => ∃ v', e = .returned v' ∧ Hid (OwnB w w' v' (putTo u s s)) := by
  obtain ⟨_, _, hs, ha⟩ := (By.nil w).src
  refine (Put_any none 0 0 (dN []) u s hs8 w (by omega) hu hs ha).mono fun e w' ⟨v', e1, h2, h3⟩ => ⟨v', e1, ?_⟩
  exact OwnB.of (l := putTo u s s) h2 h3 (putTo_bb _ _ _)
/-- A part of bytes. -/
def cutV (v : Value) (lo hi mx : Nat) : Value := match v with
  | .slice a _ _ => .slice (if mx = lo then a else a.map (·.add lo)) (hi - lo) (mx - lo)
  | x => x
theorem By.cut {w : World} {a : Option Addr} {n cap : Nat} {l : List Nat} (h : By w (.slice a n cap) l) {lo hi mx : Nat} (h1 : lo ≤ hi) (h2 : hi ≤ l.length) (h3 : hi ≤ mx) (h4 : mx ≤ cap) : By w (cutV (.slice a n cap) lo hi mx) ((l.drop lo).take (hi - lo)) := by
  have hlen : ((l.drop lo).take (hi - lo)).length = hi - lo := by rw [List.length_take, List.length_drop]; omega
  obtain ⟨a', cap', e, k1, k2, k3⟩ := h.ex
  injection e with e1 e2 e3
  subst e1 e2 e3
  refine ⟨⟨_, mx - lo, by rw [hlen]; rfl, by rw [hlen]; omega, fun e => ?_, ?_⟩, (h.bb.drop lo).take _⟩
  · have : a = none := by
      split at e
      · exact e
      · cases a with
        | none => rfl
        | some x => cases e
    have := k2 this
    omega
  · rcases k3 with k3 | ⟨b, off, rfl, k3⟩
    · subst k3; left; simp
    · by_cases h0 : lo = hi
      · left
        apply List.eq_nil_of_length_eq_zero
        rw [hlen]; omega
      · refine .inr ⟨b, off + lo, ?_, fun j x hj => ?_⟩
        · rw [if_neg (by omega)]
          show some ((⟨b, off, none⟩ : Addr).add lo) = some _
          rw [Addr.add_mid]
        · rw [List.getElem?_take] at hj
          split at hj
          · rw [List.getElem?_drop] at hj
            rw [Nat.add_assoc]
            exact k3 _ _ hj
          · cases hj
theorem By.cutV {w : World} {v : Value} {l : List Nat} (h : By w v l) {lo hi : Nat} (h1 : lo ≤ hi) (h2 : hi ≤ l.length) : By w (cutV v lo hi hi) ((l.drop lo).take (hi - lo)) := by
  obtain ⟨a, cap, rfl, k⟩ := h.form
  exact h.cut h1 h2 (Nat.le_refl _) (by omega)
theorem size5' : (sizeOf (Try.prog.elem 28)).run Try.prog = fun w => .ok 1 w := by funext w; kernel_rfl
theorem undB : Try.prog.underlying 28 = some (.slice (Try.prog.elem 28)) := by kernel_rfl
theorem wpList_callW {P : Program} {ops : Array Oper} {rest : List Oper} {op : Oper} {a : Act} {w : World} {Q : Exit → Act → World → Prop} (hg : op.guard = none) (d : Option Tmp) (hd : op.dst = d)
    (f : FuncId) (args : Array Value) (hrun : (execOp a.eval op).run P w = .ok (.enter f args) w) {R : Ending → World → Prop} (hc : Calls P f args w R)
    (h : ∀ e w', R e w' → ∃ v, e = .returned v ∧ wpList P ops Q rest (a.put d v) w') : wpList P ops Q (op :: rest) a w := by
  subst hd
  refine wpList_plain hg fun K hK => ?_
  unfold Oper.wp
  rw [hrun, Oper.upon_enter]
  refine hc.mono fun e w'' hh => ?_
  obtain ⟨v, rfl, hw⟩ := h _ _ hh
  exact hK _ _ hw
theorem sliceL_run {op : Oper} {a : Act} {ao : Option Addr} {n cap lo : Nat} (x y : Operand) (ho : op.op = .slice 28 x (some y) none none) (hx : a.eval x = .slice ao n cap) (hy : a.eval y = .int .i64 (lo : Int)) (h : lo ≤ n) (w : World) : (execOp a.eval op).run Try.prog w = .ok (.value (cutV (.slice ao n cap) lo n cap)) w := by
  have HS : (Instr.sliceAt 28 (.slice ao n cap) (some (.int .i64 (lo : Int))) none none).run Try.prog w = .ok (cutV (.slice ao n cap) lo n cap) w := by
    rw [run_sliceAt_slice _ _ _ _ _ _ undB, run_slice_l _ _ _ _ _ undB .i64 (lo : Int) (by omega) (by omega), size5']
    show Result.ok _ w = _
    unfold sliced cutV
    simp
  unfold execOp
  simp only [ho, hx, hy, Option.map_some, Option.map_none]
  simp only [HS, Sem.run_bind, Result.andThen_ok]
  rfl
/-- What stands at a place of bytes: a number, and where it ends. -/
def rn (l : List Nat) (at_ : Nat) (lo hi : Int) : Option (Int × Nat) := match gvr (dN (l.drop at_)) (l.length - at_) with
  | some (u, k) => if lo ≤ unf u ∧ unf u ≤ hi then some (unf u, at_ + k) else none
  | none => none
def rnV (at_ : Nat) : Option (Int × Nat) → Value
  | some (v, e) => .tuple #[.int .i64 v, .int .i64 (e : Int), .bool true]
  | none => .tuple #[.int .i64 0, .int .i64 (at_ : Int), .bool false]
set_option maxRecDepth 100000 in
set_option maxHeartbeats 1000000 in
theorem readNumber_any {w : World} {v : Value} {l : List Nat} (h : By w v l) (hl : l.length ≤ 9223372036854775807) (at_ : Nat) (lo hi : Int) (ha : at_ ≤ l.length) (hlo : 0 ≤ lo) :
    Calls Try.prog 45 #[v, .int .i64 (at_ : Int), .int .i64 lo, .int .i64 hi] w fun e w' => e = .returned (rnV at_ (rn l at_ lo hi)) ∧ w' = w := by
  obtain ⟨a, cap, rfl, hc⟩ := h.form
  have hcut := h.cut ha (Nat.le_refl _) hc (Nat.le_refl _)
  obtain ⟨_, _, hs, _⟩ := hcut.src
  have hd : (l.drop at_).take (l.length - at_) = l.drop at_ := List.take_of_length_le (by rw [List.length_drop]; omega)
  rw [hd] at hs
  have hG : Calls Try.prog 56 #[cutV (.slice a l.length cap) at_ l.length cap] w fun e w' => e = .returned (.tuple #[.int .i64 (gvV (gvr (dN (l.drop at_)) (l.length - at_))), .int .i64 (gvK (gvr (dN (l.drop at_)) (l.length - at_)) : Int)]) ∧ w' = w := GetVar_any _ _ (cap - at_) _ w hs (by omega)
  have ha' : (at_ : Int) ≤ (l.length : Int) := by omega
  have hR : ∀ u k, gvr (dN (l.drop at_)) (l.length - at_) = some (u, k) → 0 < k ∧ k ≤ l.length - at_ := fun u k e => by
    have := var_of_gvr _ _ u k (fun j hj => hs.lt j hj) e
    exact ⟨this.2.1, this.2.2.1⟩
  clear hs hd h
  obtain ⟨X, hX⟩ : ∃ X, X = rnV at_ (rn l at_ lo hi) := ⟨_, rfl⟩
  rw [← hX]
  unfold rn at hX
  generalize gvr (dN (l.drop at_)) (l.length - at_) = R at *
  have HX : Hid _ := hX
  clear hX
  generalize hC : cutV (.slice a l.length cap) at_ l.length cap = C at *
  have hsl := fun (op : Oper) (A : Act) (x y : Operand) ho hx hy => sliceL_run (op := op) (a := A) (ao := a) (n := l.length) (cap := cap) (lo := at_) x y ho hx hy ha w
  rw [hC] at hsl
  clear hC
  go_enter Try.func45, Try.ntmps45
  go_upto_region 1 with fail
  rename_i K hK
  refine wp_region_lit ?_
  refine wpList_runTo rfl (some 14) rfl (.slice a l.length cap) w (by kernel_rfl) ?_
  simp only [Act.put, List.setIfInBounds_toArray, List.set_cons_zero, List.set_cons_succ]
  refine wpList_runTo rfl (some 15) rfl (.int .i64 (at_ : Int)) w (by kernel_rfl) ?_
  simp only [Act.put, List.setIfInBounds_toArray, List.set_cons_zero, List.set_cons_succ]
  refine wpList_runTo rfl (some 16) rfl (C) w (by exact hsl _ _ (.tmp 14) (.tmp 15) rfl (by kernel_rfl) (by kernel_rfl)) ?_
  simp only [Act.put, List.setIfInBounds_toArray, List.set_cons_zero, List.set_cons_succ]
  refine wpList_callW rfl (some 17) rfl 56 #[C] (by kernel_rfl) hG ?_
  rintro e w1 ⟨rfl, ew⟩
  replace ew := ew.symm
  subst ew
  refine ⟨_, rfl, ?_⟩
  simp only [Act.put, List.setIfInBounds_toArray, List.set_cons_zero, List.set_cons_succ]
  refine wpList_runTo rfl (some 13) rfl (.tuple #[.int .i64 (gvV R), .int .i64 (gvK R : Int)]) w (by kernel_rfl) ?_
  simp only [Act.put, List.setIfInBounds_toArray, List.set_cons_zero, List.set_cons_succ]
  refine wpList_runTo rfl (some 18) rfl (.int .i64 (gvV R)) w (by kernel_rfl) ?_
  simp only [Act.put, List.setIfInBounds_toArray, List.set_cons_zero, List.set_cons_succ]
  refine wpList_runTo rfl (some 19) rfl (.int .i64 (gvK R : Int)) w (by kernel_rfl) ?_
  simp only [Act.put, List.setIfInBounds_toArray, List.set_cons_zero, List.set_cons_succ]
  refine wpList_runTo rfl (some 11) rfl (.int .i64 (gvV R)) w (by kernel_rfl) ?_
  simp only [Act.put, List.setIfInBounds_toArray, List.set_cons_zero, List.set_cons_succ]
  refine wpList_runTo rfl (some 12) rfl (.int .i64 (gvK R : Int)) w (by kernel_rfl) ?_
  simp only [Act.put, List.setIfInBounds_toArray, List.set_cons_zero, List.set_cons_succ]
  refine wpList_nil ?_
  refine hK _ _ ?_
  clear hK hG hsl
  cases R with
  | none =>
    have hx : X = _ := HX.out
    simp only [rnV] at hx
    subst hx
    clear HX
    simp only [gvV, gvK]
    go_wp2
    go_ret3
    exact ⟨rfl, rfl⟩
  | some p =>
    obtain ⟨u, k⟩ := p
    obtain ⟨h1, h2⟩ := hR u k rfl
    have hx : X = _ := HX.out
    clear hR HX
    simp only [gvV, gvK] at hx ⊢
    generalize unf u = z at *
    have hk0 : ¬ (k : Int) = 0 := by omega
    by_cases h3 : lo ≤ z
    · have h3' : ¬ z < lo := by omega
      by_cases h4 : z ≤ hi
      · have h4' : ¬ hi < z := by omega
        rw [if_pos ⟨h3, h4⟩] at hx
        simp only [rnV] at hx
        subst hx
        have hov : (at_ : Int) + (k : Int) ≤ 9223372036854775807 := by omega
        go_wp2
        go_ret3
        exact ⟨by go_num, rfl⟩
      · have h4' : hi < z := by omega
        rw [if_neg (fun e => h4 e.2)] at hx
        simp only [rnV] at hx
        subst hx
        go_wp2
        go_ret3
        exact ⟨rfl, rfl⟩
    · have h3' : z < lo := by omega
      rw [if_neg (fun e => h3 e.1)] at hx
      simp only [rnV] at hx
      subst hx
      go_wp2
      go_ret3
      exact ⟨rfl, rfl⟩
end Go.Proofs.Ytjnnecoikcmaeaa
