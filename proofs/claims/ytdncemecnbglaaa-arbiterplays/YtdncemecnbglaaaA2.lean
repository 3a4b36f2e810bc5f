/-
  arbiter: what was heard, whether it has waited, New; giving.
-/
import Derived.Test.YtdncemecnbglaaaA1
namespace Go.Proofs.Ytdncemecnbglaaa
set_option linter.unusedVariables false
set_option linter.unusedSimpArgs false
open Go.RowKit Go.Great Go.Maps

theorem wpList_skipU {P : Program} {ops : Array Oper} {rest : List Oper} {o : Oper} {a : Act} {w : World} {Q : Exit → Act → World → Prop} {un : Value} (hun : un = undef) (hw : Region.wanted o (yielded ops a.tmps) = false) (dst : Option Tmp) (hdst : o.dst = dst) (h : wpList P ops Q rest (a.put dst un) w) : wpList P ops Q (o :: rest) a w := by
  subst hdst hun
  exact wpList_skip hw h
/-- Which of n things a raw number speaks of. -/
def pickN (c : Int) (n : Nat) : Nat := (if c < 0 then (-(c + 1)) % (n : Int) else c % (n : Int)).toNat
theorem pickN_lt (c : Int) {n : Nat} (h : 0 < n) : pickN c n < n := by
  unfold pickN
  have h1 := Int.emod_lt_of_pos (-(c + 1)) (show (0 : Int) < n by omega)
  have h2 := Int.emod_nonneg (-(c + 1)) (show (n : Int) ≠ 0 by omega)
  have h3 := Int.emod_lt_of_pos c (show (0 : Int) < n by omega)
  have h4 := Int.emod_nonneg c (show (n : Int) ≠ 0 by omega)
  split <;> omega
set_option maxRecDepth 100000 in
set_option maxHeartbeats 400000 in
theorem pick_any (c x : Int) (n : Nat) (hx : x = n) (w : World) (hn : 0 < n) (hn1 : n ≤ 9223372036854775807) (h0 : -9223372036854775808 ≤ c) (h1 : c ≤ 9223372036854775807) :
    Calls Try.prog 8 #[.int .i64 c, .int .i64 x] w fun e w' => e = .returned (.int .i64 (pickN c n : Int)) ∧ w' = w := by
  subst hx
  have hp := pickN_lt c hn
  have hn' : ¬ (n : Int) = 0 := by omega
  by_cases hc : c < 0
  · have e : (c + 1).tmod (n : Int) = -(pickN c n : Int) := by
      have h2 := Int.emod_nonneg (-(c + 1)) (show (n : Int) ≠ 0 by omega)
      unfold pickN
      rw [if_pos hc, Int.toNat_of_nonneg h2, ← Int.tmod_eq_emod_of_nonneg (by omega), Int.neg_tmod, Int.neg_neg]
    generalize pickN c n = p at *
    go_enter Try.func8, Try.ntmps8
    go_wp2
    go_ret
    exact ⟨rfl, rfl⟩
  · have hc' : 0 ≤ c := by omega
    have e : c % (n : Int) = (pickN c n : Int) := by
      have h2 := Int.emod_nonneg c (show (n : Int) ≠ 0 by omega)
      unfold pickN
      rw [if_neg hc, Int.toNat_of_nonneg h2]
    generalize pickN c n = p at *
    go_enter Try.func8, Try.ntmps8
    go_wp2
    go_ret
    exact ⟨rfl, rfl⟩
theorem lk_run {op : Oper} {a : Act} {w : World} {T : TypeId} {m k v : Value} (x y : Operand) (ho : op.op = .lookup T x y true) (hx : a.eval x = m) (hy : a.eval y = k) (hr : (Instr.lookup T m k true).run Try.prog w = .ok v w) : (execOp a.eval op).run Try.prog w = .ok (.value v) w := by
  unfold execOp
  simp only [ho, hx, hy, Sem.run_bind, hr, Result.andThen_ok]
  rfl
theorem ln_run {op : Oper} {a : Act} {w : World} {T : TypeId} {m v : Value} (x : Operand) (ho : op.op = .call { callee := .builtin .len, args := #[x], argTypes := #[T] }) (hx : a.eval x = m) (hr : (Builtin.len_ #[T] op.type #[m]).run Try.prog w = .ok v w) : (execOp a.eval op).run Try.prog w = .ok (.value v) w := by
  unfold execOp
  simp only [ho, resolve, invoke, builtin, Sem.run_bind, Sem.run_pure, Result.andThen_ok, List.map_toArray, List.map_cons, List.map_nil, hx, hr]
theorem de_run {op : Oper} {a : Act} {w w' : World} {T U : TypeId} {m k : Value} (x y : Operand) (ho : op.op = .call { callee := .builtin .delete, args := #[x, y], argTypes := #[T, U] }) (hx : a.eval x = m) (hy : a.eval y = k) (hr : (Builtin.delete_ #[T, U] op.type #[m, k]).run Try.prog w = .ok (.tuple #[]) w') : (execOp a.eval op).run Try.prog w = .ok (.value (.tuple #[])) w' := by
  unfold execOp
  simp only [ho, resolve, invoke, builtin, Sem.run_bind, Sem.run_pure, Result.andThen_ok, List.map_toArray, List.map_cons, List.map_nil, hx, hy, hr]
theorem AbAt.look {w : World} {g b : Nat} {a : Ab} (h : AbAt w g b a) {n : Nat} (hn : n ≤ 9223372036854775807) : (Instr.lookup 65 (.map (some b)) (.int .i64 (n : Int)) true).run Try.prog w = .ok (.tuple #[((fnd a.ks n).map (·.v)).getD (.slice none 0 0), .bool (fnd a.ks n).isSome]) w := by
  have := (h.map.look law3 Try.underlying65 (zeroB w) (keyI hn)).1
  rw [atL_kL, Option.isSome_map] at this
  exact this
/-- Whether a number was heard. -/
def hrB (a : Ab) (n : Nat) : Bool := (fnd a.ks n).isSome || decide (n < a.nx)
set_option maxRecDepth 100000 in
set_option maxHeartbeats 1000000 in
theorem hasHeard_any {w : World} {g b : Nat} {a : Ab} (h : AbAt w g b a) (n : Nat) (hn : n ≤ 9223372036854775807) : Calls Try.prog 21 #[.pointer (some ⟨g, 0, none⟩), .int .i64 (n : Int)] w fun e w' => e = .returned (.bool (hrB a n)) ∧ w' = w := by
  have c2 : w.cell? ⟨g, 2, none⟩ = some (.int .i64 (a.nx : Int)) := h.blk.cell 2
  have c3 : w.cell? ⟨g, 3, none⟩ = some (.map (some b)) := h.blk.cell 3
  have hlk := h.look hn
  unfold hrB
  obtain ⟨vl, hvl⟩ : ∃ vl, vl = ((fnd a.ks n).map (·.v)).getD (.slice none 0 0) := ⟨_, rfl⟩
  obtain ⟨hb, hhb⟩ : ∃ hb, hb = (fnd a.ks n).isSome := ⟨_, rfl⟩
  rw [← hvl, ← hhb] at hlk
  rw [← hhb]
  obtain ⟨X, hX⟩ : ∃ X, X = a.nx := ⟨_, rfl⟩
  rw [← hX] at c2 ⊢
  clear h hvl hhb hX
  obtain ⟨r, hr⟩ : ∃ r : Bool, decide (n < X) = r := ⟨_, rfl⟩
  rw [hr]
  obtain ⟨R, hR⟩ : ∃ R : Bool, R = (hb || r) := ⟨_, rfl⟩
  rw [← hR]
  go_enter Try.func21, Try.ntmps21
  go_upto_region 1 with fail
  rename_i K hK
  refine wp_region_lit ?_
  refine wpList_runTo rfl (some 8) rfl (.pointer (some ⟨g, 0, none⟩)) w (by kernel_rfl) ?_
  simp only [Act.put, List.setIfInBounds_toArray, List.set_cons_zero, List.set_cons_succ]
  refine wpList_runTo rfl (some 9) rfl (.pointer (some ⟨g, 0, none⟩)) w (by kernel_rfl) ?_
  simp only [Act.put, List.setIfInBounds_toArray, List.set_cons_zero, List.set_cons_succ]
  refine wpList_runTo rfl (some 10) rfl (.pointer (some ⟨g, 3, none⟩)) w (by kernel_rfl) ?_
  simp only [Act.put, List.setIfInBounds_toArray, List.set_cons_zero, List.set_cons_succ]
  refine wpList_runTo rfl (some 11) rfl (.map (some b)) w (by exact ldM_run (.tmp 10) rfl (by kernel_rfl) (c3)) ?_
  simp only [Act.put, List.setIfInBounds_toArray, List.set_cons_zero, List.set_cons_succ]
  refine wpList_runTo rfl (some 12) rfl (.int .i64 (n : Int)) w (by kernel_rfl) ?_
  simp only [Act.put, List.setIfInBounds_toArray, List.set_cons_zero, List.set_cons_succ]
  refine wpList_runTo rfl (some 13) rfl (.tuple #[vl, .bool hb]) w (by exact lk_run (.tmp 11) (.tmp 12) rfl (by kernel_rfl) (by kernel_rfl) hlk) ?_
  simp only [Act.put, List.setIfInBounds_toArray, List.set_cons_zero, List.set_cons_succ]
  refine wpList_runTo rfl (some 7) rfl (.tuple #[vl, .bool hb]) w (by kernel_rfl) ?_
  simp only [Act.put, List.setIfInBounds_toArray, List.set_cons_zero, List.set_cons_succ]
  refine wpList_runTo rfl (some 14) rfl (vl) w (by kernel_rfl) ?_
  simp only [Act.put, List.setIfInBounds_toArray, List.set_cons_zero, List.set_cons_succ]
  refine wpList_runTo rfl (some 15) rfl (.bool hb) w (by kernel_rfl) ?_
  simp only [Act.put, List.setIfInBounds_toArray, List.set_cons_zero, List.set_cons_succ]
  refine wpList_runTo rfl (some 5) rfl (vl) w (by kernel_rfl) ?_
  simp only [Act.put, List.setIfInBounds_toArray, List.set_cons_zero, List.set_cons_succ]
  refine wpList_runTo rfl (some 6) rfl (.bool hb) w (by kernel_rfl) ?_
  simp only [Act.put, List.setIfInBounds_toArray, List.set_cons_zero, List.set_cons_succ]
  refine wpList_nil ?_
  refine hK _ _ ?_
  clear hK
  clear hlk
  cases hb
  case false =>
    have e : R = r := by rw [hR]; rfl
    subst e
    go_upto_region 2 with fail
    rename_i K hK
    refine wp_region_lit ?_
    refine wpList_runTo rfl (some 16) rfl (.bool false) w (by kernel_rfl) ?_
    simp only [Act.put, List.setIfInBounds_toArray, List.set_cons_zero, List.set_cons_succ]
    refine wpList_runTo rfl (some 17) rfl (.bool false) w (by kernel_rfl) ?_
    simp only [Act.put, List.setIfInBounds_toArray, List.set_cons_zero, List.set_cons_succ]
    refine wpList_runToG (by kernel_rfl) (some 18) rfl (.int .i64 (n : Int)) w (by kernel_rfl) ?_
    simp only [Act.put, List.setIfInBounds_toArray, List.set_cons_zero, List.set_cons_succ]
    refine wpList_runToG (by kernel_rfl) (some 19) rfl (.pointer (some ⟨g, 0, none⟩)) w (by kernel_rfl) ?_
    simp only [Act.put, List.setIfInBounds_toArray, List.set_cons_zero, List.set_cons_succ]
    refine wpList_runToG (by kernel_rfl) (some 20) rfl (.pointer (some ⟨g, 0, none⟩)) w (by kernel_rfl) ?_
    simp only [Act.put, List.setIfInBounds_toArray, List.set_cons_zero, List.set_cons_succ]
    refine wpList_runToG (by kernel_rfl) (some 21) rfl (.pointer (some ⟨g, 2, none⟩)) w (by kernel_rfl) ?_
    simp only [Act.put, List.setIfInBounds_toArray, List.set_cons_zero, List.set_cons_succ]
    refine wpList_runToG (by kernel_rfl) (some 22) rfl (.int .i64 (X : Int)) w (by exact ldN_run (.inr rfl) (.tmp 21) rfl (by kernel_rfl) (c2)) ?_
    simp only [Act.put, List.setIfInBounds_toArray, List.set_cons_zero, List.set_cons_succ]
    refine wpList_runToG (by kernel_rfl) (some 23) rfl (.bool R) w (by exact ltN_run (n := n) (k := X) (.tmp 18) (.tmp 22) rfl (by kernel_rfl) (by kernel_rfl) hr _) ?_
    simp only [Act.put, List.setIfInBounds_toArray, List.set_cons_zero, List.set_cons_succ]
    refine wpList_runTo rfl (some 24) rfl (.bool R) w (by kernel_rfl) ?_
    simp only [Act.put, List.setIfInBounds_toArray, List.set_cons_zero, List.set_cons_succ]
    refine wpList_runTo rfl (some 4) rfl (.bool R) w (by kernel_rfl) ?_
    simp only [Act.put, List.setIfInBounds_toArray, List.set_cons_zero, List.set_cons_succ]
    refine wpList_nil ?_
    refine hK _ _ ?_
    clear hK
    go_wp2
    go_ret
    exact ⟨rfl, rfl⟩
  case true =>
    have e : R = true := by rw [hR]; rfl
    subst e
    go_upto_region 2 with fail
    rename_i K hK
    refine wp_region_lit ?_
    refine wpList_runTo rfl (some 16) rfl (.bool true) w (by kernel_rfl) ?_
    simp only [Act.put, List.setIfInBounds_toArray, List.set_cons_zero, List.set_cons_succ]
    refine wpList_runTo rfl (some 17) rfl (.bool true) w (by kernel_rfl) ?_
    simp only [Act.put, List.setIfInBounds_toArray, List.set_cons_zero, List.set_cons_succ]
    refine wpList_skipG (by kernel_rfl) ?_
    simp only [Act.put, List.setIfInBounds_toArray, List.set_cons_zero, List.set_cons_succ]
    refine wpList_skipG (by kernel_rfl) ?_
    simp only [Act.put, List.setIfInBounds_toArray, List.set_cons_zero, List.set_cons_succ]
    refine wpList_skipG (by kernel_rfl) ?_
    simp only [Act.put, List.setIfInBounds_toArray, List.set_cons_zero, List.set_cons_succ]
    refine wpList_skipG (by kernel_rfl) ?_
    simp only [Act.put, List.setIfInBounds_toArray, List.set_cons_zero, List.set_cons_succ]
    refine wpList_skipG (by kernel_rfl) ?_
    simp only [Act.put, List.setIfInBounds_toArray, List.set_cons_zero, List.set_cons_succ]
    refine wpList_skipG (by kernel_rfl) ?_
    simp only [Act.put, List.setIfInBounds_toArray, List.set_cons_zero, List.set_cons_succ]
    refine wpList_runTo rfl (some 24) rfl (.bool true) w (by kernel_rfl) ?_
    simp only [Act.put, List.setIfInBounds_toArray, List.set_cons_zero, List.set_cons_succ]
    refine wpList_runTo rfl (some 4) rfl (.bool true) w (by kernel_rfl) ?_
    simp only [Act.put, List.setIfInBounds_toArray, List.set_cons_zero, List.set_cons_succ]
    refine wpList_nil ?_
    refine hK _ _ ?_
    clear hK
    go_wp2
    go_ret
    exact ⟨rfl, rfl⟩
/-- Whether packets are kept, and the gap ahead of them has lasted so long. -/
def wtB (a : Ab) (now span : Int) : Bool := decide (0 < a.ks.length) && decide (span ≤ now - a.si)
theorem subI_run {op : Oper} {a : Act} {p q : Int} (x y : Operand) (ho : op.op = .binOp .sub 2 x y 2) (hx : a.eval x = .int .i64 p) (hy : a.eval y = .int .i64 q) (h : -9223372036854775808 ≤ p - q ∧ p - q ≤ 9223372036854775807) (w : World) : (execOp a.eval op).run Try.prog w = .ok (.value (.int .i64 (p - q))) w := by
  have hw : IntKind.i64.wrap (p - q) = p - q := by rw [IntKind.wrap_i64]; omega
  have hw' : wrap64 (p - q) = p - q := by unfold wrap64; omega
  unfold execOp
  simp only [ho, hx, hy]
  go_simp
theorem geI_run {op : Oper} {a : Act} {p q : Int} {r : Bool} (x y : Operand) (ho : op.op = .binOp .geq 2 x y 2) (hx : a.eval x = .int .i64 p) (hy : a.eval y = .int .i64 q) (hr : decide (q ≤ p) = r) (w : World) : (execOp a.eval op).run Try.prog w = .ok (.value (.bool r)) w := by
  unfold execOp
  simp only [ho, hx, hy]
  go_simp
set_option maxRecDepth 100000 in
set_option maxHeartbeats 1000000 in
theorem hasWaited_any {w : World} {g b : Nat} {a : Ab} (h : AbAt w g b a) (now span : Int) (h0 : 0 ≤ now) (h1 : now ≤ 253402300799999) : Calls Try.prog 25 #[.pointer (some ⟨g, 0, none⟩), .int .i64 now, .int .i64 span] w fun e w' => e = .returned (.bool (wtB a now span)) ∧ w' = w := by
  have c4 : w.cell? ⟨g, 4, none⟩ = some (.int .i64 a.si) := h.blk.cell 4
  have c3 : w.cell? ⟨g, 3, none⟩ = some (.map (some b)) := h.blk.cell 3
  have hln := fun ty => h.map.len Try.underlying65 ty
  have e0 : (kL a.ks).length = a.ks.length := by unfold kL; rw [List.length_map]
  rw [e0] at hln
  have hs0 := h.bd.s0
  have hs1 := h.bd.s1
  unfold wtB
  generalize a.si = si at *
  generalize a.ks.length = NN at *
  clear h e0
  obtain ⟨hb, hhb⟩ : ∃ hb : Bool, decide (0 < NN) = hb := ⟨_, rfl⟩
  obtain ⟨r, hr⟩ : ∃ r : Bool, decide (span ≤ now - si) = r := ⟨_, rfl⟩
  rw [hhb, hr]
  obtain ⟨R, hR⟩ : ∃ R : Bool, R = (hb && r) := ⟨_, rfl⟩
  rw [← hR]
  go_enter Try.func25, Try.ntmps25
  cases hb
  case false =>
    have e : R = false := by rw [hR]; cases r <;> rfl
    subst e
    obtain ⟨bf, hbf⟩ : ∃ bf : Bool, bf = false := ⟨_, rfl⟩
    rw [← hbf] at hhb
    obtain ⟨un, hun⟩ : ∃ un : Value, un = undef := ⟨_, rfl⟩
    go_upto_region 1 with fail
    rename_i K hK
    refine wp_region_lit ?_
    refine wpList_runTo rfl (some 7) rfl (.pointer (some ⟨g, 0, none⟩)) w (by kernel_rfl) ?_
    simp only [Act.put, List.setIfInBounds_toArray, List.set_cons_zero, List.set_cons_succ]
    refine wpList_runTo rfl (some 8) rfl (.pointer (some ⟨g, 0, none⟩)) w (by kernel_rfl) ?_
    simp only [Act.put, List.setIfInBounds_toArray, List.set_cons_zero, List.set_cons_succ]
    refine wpList_runTo rfl (some 9) rfl (.pointer (some ⟨g, 3, none⟩)) w (by kernel_rfl) ?_
    simp only [Act.put, List.setIfInBounds_toArray, List.set_cons_zero, List.set_cons_succ]
    refine wpList_runTo rfl (some 10) rfl (.map (some b)) w (by exact ldM_run (.tmp 9) rfl (by kernel_rfl) (c3)) ?_
    simp only [Act.put, List.setIfInBounds_toArray, List.set_cons_zero, List.set_cons_succ]
    refine wpList_runTo rfl (some 11) rfl (.int .i64 (NN : Int)) w (by exact ln_run (.tmp 10) rfl (by kernel_rfl) (hln _)) ?_
    simp only [Act.put, List.setIfInBounds_toArray, List.set_cons_zero, List.set_cons_succ]
    refine wpList_runTo rfl (some 12) rfl (.bool bf) w (by exact gtN_run (n := NN) (k := 0) (.tmp 11) (.const (.int .i64 0)) rfl (by kernel_rfl) rfl hhb _) ?_
    simp only [Act.put, List.setIfInBounds_toArray, List.set_cons_zero, List.set_cons_succ]
    refine wpList_runTo rfl (some 13) rfl (.bool bf) w (by kernel_rfl) ?_
    simp only [Act.put, List.setIfInBounds_toArray, List.set_cons_zero, List.set_cons_succ]
    refine wpList_skipU hun (by subst hbf; kernel_rfl) (some 14) rfl ?_
    simp only [Act.put, List.setIfInBounds_toArray, List.set_cons_zero, List.set_cons_succ]
    refine wpList_skipU hun (by subst hbf; kernel_rfl) (some 15) rfl ?_
    simp only [Act.put, List.setIfInBounds_toArray, List.set_cons_zero, List.set_cons_succ]
    refine wpList_skipU hun (by subst hbf; kernel_rfl) (some 16) rfl ?_
    simp only [Act.put, List.setIfInBounds_toArray, List.set_cons_zero, List.set_cons_succ]
    refine wpList_skipU hun (by subst hbf; kernel_rfl) (some 17) rfl ?_
    simp only [Act.put, List.setIfInBounds_toArray, List.set_cons_zero, List.set_cons_succ]
    refine wpList_skipU hun (by subst hbf; kernel_rfl) (some 18) rfl ?_
    simp only [Act.put, List.setIfInBounds_toArray, List.set_cons_zero, List.set_cons_succ]
    refine wpList_skipU hun (by subst hbf; kernel_rfl) (some 19) rfl ?_
    simp only [Act.put, List.setIfInBounds_toArray, List.set_cons_zero, List.set_cons_succ]
    refine wpList_skipU hun (by subst hbf; kernel_rfl) (some 20) rfl ?_
    simp only [Act.put, List.setIfInBounds_toArray, List.set_cons_zero, List.set_cons_succ]
    refine wpList_skipU hun (by subst hbf; kernel_rfl) (some 21) rfl ?_
    simp only [Act.put, List.setIfInBounds_toArray, List.set_cons_zero, List.set_cons_succ]
    refine wpList_runTo rfl (some 22) rfl (.bool false) w (by subst hbf; kernel_rfl) ?_
    simp only [Act.put, List.setIfInBounds_toArray, List.set_cons_zero, List.set_cons_succ]
    refine wpList_runTo rfl (some 6) rfl (.bool false) w (by kernel_rfl) ?_
    simp only [Act.put, List.setIfInBounds_toArray, List.set_cons_zero, List.set_cons_succ]
    refine wpList_nil ?_
    refine hK _ _ ?_
    clear hK
    clear hhb hln c3 c4
    go_wp2
    go_ret
    exact ⟨rfl, rfl⟩
  case true =>
    have e : R = r := by rw [hR]; cases r <;> rfl
    subst e
    go_upto_region 1 with fail
    rename_i K hK
    refine wp_region_lit ?_
    refine wpList_runTo rfl (some 7) rfl (.pointer (some ⟨g, 0, none⟩)) w (by kernel_rfl) ?_
    simp only [Act.put, List.setIfInBounds_toArray, List.set_cons_zero, List.set_cons_succ]
    refine wpList_runTo rfl (some 8) rfl (.pointer (some ⟨g, 0, none⟩)) w (by kernel_rfl) ?_
    simp only [Act.put, List.setIfInBounds_toArray, List.set_cons_zero, List.set_cons_succ]
    refine wpList_runTo rfl (some 9) rfl (.pointer (some ⟨g, 3, none⟩)) w (by kernel_rfl) ?_
    simp only [Act.put, List.setIfInBounds_toArray, List.set_cons_zero, List.set_cons_succ]
    refine wpList_runTo rfl (some 10) rfl (.map (some b)) w (by exact ldM_run (.tmp 9) rfl (by kernel_rfl) (c3)) ?_
    simp only [Act.put, List.setIfInBounds_toArray, List.set_cons_zero, List.set_cons_succ]
    refine wpList_runTo rfl (some 11) rfl (.int .i64 (NN : Int)) w (by exact ln_run (.tmp 10) rfl (by kernel_rfl) (hln _)) ?_
    simp only [Act.put, List.setIfInBounds_toArray, List.set_cons_zero, List.set_cons_succ]
    refine wpList_runTo rfl (some 12) rfl (.bool true) w (by exact gtN_run (n := NN) (k := 0) (.tmp 11) (.const (.int .i64 0)) rfl (by kernel_rfl) rfl hhb _) ?_
    simp only [Act.put, List.setIfInBounds_toArray, List.set_cons_zero, List.set_cons_succ]
    refine wpList_runTo rfl (some 13) rfl (.bool true) w (by kernel_rfl) ?_
    simp only [Act.put, List.setIfInBounds_toArray, List.set_cons_zero, List.set_cons_succ]
    refine wpList_runToG (by kernel_rfl) (some 14) rfl (.int .i64 now) w (by kernel_rfl) ?_
    simp only [Act.put, List.setIfInBounds_toArray, List.set_cons_zero, List.set_cons_succ]
    refine wpList_runToG (by kernel_rfl) (some 15) rfl (.pointer (some ⟨g, 0, none⟩)) w (by kernel_rfl) ?_
    simp only [Act.put, List.setIfInBounds_toArray, List.set_cons_zero, List.set_cons_succ]
    refine wpList_runToG (by kernel_rfl) (some 16) rfl (.pointer (some ⟨g, 0, none⟩)) w (by kernel_rfl) ?_
    simp only [Act.put, List.setIfInBounds_toArray, List.set_cons_zero, List.set_cons_succ]
    refine wpList_runToG (by kernel_rfl) (some 17) rfl (.pointer (some ⟨g, 4, none⟩)) w (by kernel_rfl) ?_
    simp only [Act.put, List.setIfInBounds_toArray, List.set_cons_zero, List.set_cons_succ]
    refine wpList_runToG (by kernel_rfl) (some 18) rfl (.int .i64 si) w (by exact ldN_run (.inl rfl) (.tmp 17) rfl (by kernel_rfl) (c4)) ?_
    simp only [Act.put, List.setIfInBounds_toArray, List.set_cons_zero, List.set_cons_succ]
    refine wpList_runToG (by kernel_rfl) (some 19) rfl (.int .i64 (now - si)) w (by exact subI_run (.tmp 14) (.tmp 18) rfl (by kernel_rfl) (by kernel_rfl) (by omega) _) ?_
    simp only [Act.put, List.setIfInBounds_toArray, List.set_cons_zero, List.set_cons_succ]
    refine wpList_runToG (by kernel_rfl) (some 20) rfl (.int .i64 span) w (by kernel_rfl) ?_
    simp only [Act.put, List.setIfInBounds_toArray, List.set_cons_zero, List.set_cons_succ]
    refine wpList_runToG (by kernel_rfl) (some 21) rfl (.bool R) w (by exact geI_run (.tmp 19) (.tmp 20) rfl (by kernel_rfl) (by kernel_rfl) hr _) ?_
    simp only [Act.put, List.setIfInBounds_toArray, List.set_cons_zero, List.set_cons_succ]
    refine wpList_runTo rfl (some 22) rfl (.bool R) w (by kernel_rfl) ?_
    simp only [Act.put, List.setIfInBounds_toArray, List.set_cons_zero, List.set_cons_succ]
    refine wpList_runTo rfl (some 6) rfl (.bool R) w (by kernel_rfl) ?_
    simp only [Act.put, List.setIfInBounds_toArray, List.set_cons_zero, List.set_cons_succ]
    refine wpList_nil ?_
    refine hK _ _ ?_
    clear hK
    go_wp2
    go_ret
    exact ⟨rfl, rfl⟩
/-- One to which nothing came. -/
def new0 (win : Nat) (pat : Int) : Ab := ⟨win, pat, 1, [], 0, 0, fun _ => 0⟩
set_option maxRecDepth 100000 in
set_option maxHeartbeats 1000000 in
theorem New_yes (w : World) (win : Nat) (pat : Int) (h1 : 1 ≤ win) (h2 : win ≤ 1000) (h3 : 0 ≤ pat) (h4 : pat ≤ 253402300799999) : Calls Try.prog 7 #[.int .i64 (win : Int), .int .i64 pat] w fun e w' => ∃ g b, e = .returned (.tuple #[.pointer (some ⟨g, 0, none⟩), .int .i64 0]) ∧ Hid (AbAt w' g b (new0 win pat) ∧ w.heap.size ≤ g ∧ w.heap.size ≤ b ∧ Below w.heap.size w w') := by
  have hmm := @run_makeMap Try.prog
  have a1 : ¬ (win : Int) < 1 := by omega
  have a2 : ¬ 1000 < (win : Int) := by omega
  have a3 : ¬ pat < 0 := by omega
  have a4 : ¬ 253402300799999 < pat := by omega
  have HX : Hid (AbAt ((w.alloc (.map #[] 0)).alloc (.cells ((new0 win pat).cs w.heap.size) 67)) (w.heap.size + 1) w.heap.size (new0 win pat) ∧ Below w.heap.size w ((w.alloc (.map #[] 0)).alloc (.cells ((new0 win pat).cs w.heap.size) 67))) := by
    refine ⟨⟨by have := Blk.new (w.alloc (.map #[] 0)) 67 ((new0 win pat).cs w.heap.size); rw [show (w.alloc (.map #[] 0)).heap.size = w.heap.size + 1 by simp] at this; exact this, (MapL.made Try.prog w 3).alloc _, fun k hk => (List.not_mem_nil hk).elim, ⟨h1, h2, h3, h4, by show (1 : Nat) ≤ _; omega, by show (0 : Int) ≤ 0; omega, by show (0 : Int) ≤ _; omega, by show (0 : Int) ≤ 0; omega, by show (0 : Int) ≤ _; omega, fun k hk => (List.not_mem_nil hk).elim, fun i => Nat.zero_le _, Nat.zero_le _⟩⟩, ((Below.refl _ w).alloc (Nat.le_refl _) _).trans (((Below.refl _ (w.alloc (.map #[] 0))).alloc (Nat.le_refl _) _).mono (by simp))⟩
  unfold new0 Ab.cs at HX
  dsimp only at HX
  go_enter Try.func7, Try.ntmps7
  go_wp2
  go_ret2
  exact ⟨w.heap.size + 1, rfl, w.heap.size, HX.out.1, Nat.le_succ _, Nat.le_refl _, HX.out.2⟩
set_option maxRecDepth 100000 in
set_option maxHeartbeats 1000000 in
theorem New_no (w : World) (win pat : Int) (h : ¬ (1 ≤ win ∧ win ≤ 1000 ∧ 0 ≤ pat ∧ pat ≤ 253402300799999)) : Calls Try.prog 7 #[.int .i64 win, .int .i64 pat] w fun e w' => e = .returned (.tuple #[.pointer none, .int .i64 1]) ∧ w' = w := by
  by_cases a1 : win < 1
  · go_enter Try.func7, Try.ntmps7
    go_wp2
    go_ret2
    exact ⟨rfl, rfl⟩
  · by_cases a2 : 1000 < win
    · go_enter Try.func7, Try.ntmps7
      go_wp2
      go_ret2
      exact ⟨rfl, rfl⟩
    · by_cases a3 : pat < 0
      · go_enter Try.func7, Try.ntmps7
        go_wp2
        go_ret2
        exact ⟨rfl, rfl⟩
      · have a4 : 253402300799999 < pat := by omega
        go_enter Try.func7, Try.ntmps7
        go_wp2
        go_ret2
        exact ⟨rfl, rfl⟩
end Go.Proofs.Ytdncemecnbglaaa
