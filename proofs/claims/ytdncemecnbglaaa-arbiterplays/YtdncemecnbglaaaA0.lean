/-
  arbiter: its state, plain and in memory; what is small.
-/
import Derived.Test.YtdncemecnbglaaaAMap
import Derived.Test.YtdncemecnbglaaaALate
namespace Go.Proofs.Ytdncemecnbglaaa
set_option linter.unusedVariables false
set_option linter.unusedSimpArgs false
open Go.RowKit Go.Great Go.Maps

/-- A packet that is kept: its number, where it lies, its bytes. -/
structure Kp where
  n : Nat
  v : Value
  l : List Nat
/-- An arbiter. -/
structure Ab where
  win : Nat
  pat : Int
  nx : Nat
  ks : List Kp
  si : Int
  la : Int
  cn : Nat → Nat
def Ab.cs (a : Ab) (b : Nat) : Array Value := #[.int .i64 (a.win : Int), .int .i64 a.pat, .int .i64 (a.nx : Int), .map (some b), .int .i64 a.si, .int .i64 a.la, .int .i64 (a.cn 0 : Int), .int .i64 (a.cn 1 : Int), .int .i64 (a.cn 2 : Int), .int .i64 (a.cn 3 : Int), .int .i64 (a.cn 4 : Int), .int .i64 (a.cn 5 : Int), .int .i64 (a.cn 6 : Int), .int .i64 (a.cn 7 : Int)]
def kLit (n : Nat) : Lit := .int .i64 (n : Int)
def kL (ks : List Kp) : List (Lit × Value) := ks.map fun k => (kLit k.n, k.v)
/-- A packet in memory. -/
def PkAt (w : World) (k : Kp) : Prop := RowAt w 5 1 k.v k.l.length (bvals k.l) ∧ BB k.l ∧ k.l ≠ []
/-- What the numbers of an arbiter keep to. -/
structure Bd (a : Ab) : Prop where
  w1 : 1 ≤ a.win
  w2 : a.win ≤ 1000
  p0 : 0 ≤ a.pat
  p1 : a.pat ≤ 253402300799999
  nx : a.nx ≤ 1000000000
  s0 : 0 ≤ a.si
  s1 : a.si ≤ 253402300799999
  l0 : 0 ≤ a.la
  l1 : a.la ≤ 253402300799999
  kn : ∀ k ∈ a.ks, k.n ≤ 999999999
  cn : ∀ i, a.cn i ≤ 1000000000000
  len : a.ks.length ≤ a.cn 1 + a.cn 5
structure AbAt (w : World) (g b : Nat) (a : Ab) : Prop where
  blk : Blk w g 67 (a.cs b)
  map : MapL Try.prog w 3 b (kL a.ks)
  pk : ∀ k ∈ a.ks, PkAt w k
  bd : Bd a
theorem law3 : Keyed Try.prog 3 := int_keyed Try.underlying3
theorem wf_i64' {x : Int} (h : -9223372036854775808 ≤ x ∧ x ≤ 9223372036854775807) : (Lit.int .i64 x).wf = true := by
  simp [Lit.wf, IntKind.min, IntKind.max, IntKind.signed, IntKind.bits]; omega
theorem keyI {x : Nat} (h : x ≤ 9223372036854775807) : keyOf Try.prog 3 (.int .i64 (x : Int)) = some (kLit x) := keyOf_int_mk Try.underlying3 (wf_i64' (by omega))
theorem zeroB (w : World) : (zeroValue 35).run Try.prog w = .ok (.slice none 0 0) w := by kernel_rfl
theorem kLit_same (m n : Nat) : (kLit m).sameKey (kLit n) = (m == n) := by
  by_cases h : m = n
  · subst h
    have : (kLit m).sameKey (kLit m) = true := WideAt.sameKey_self (by unfold kLit; exact trivial)
    rw [this]; simp
  · have : (kLit m).sameKey (kLit n) = false := sameKey_ne (fun e => h (by unfold kLit at e; injection e with _ e; omega))
    rw [this]; simp [h]
def fnd (ks : List Kp) (n : Nat) : Option Kp := ks.find? fun k => k.n == n
theorem atL_kL (ks : List Kp) (n : Nat) : atL (kL ks) (kLit n) = (fnd ks n).map (·.v) := by
  unfold atL kL fnd
  rw [List.find?_map, Option.map_map]
  have : ((fun p : Lit × Value => p.1.sameKey (kLit n)) ∘ fun k : Kp => (kLit k.n, k.v)) = fun k => k.n == n := by
    funext k
    exact kLit_same _ _
  rw [this]
  rfl
theorem butL_kL (ks : List Kp) (n : Nat) : butL (kL ks) (kLit n) = kL (ks.filter fun k => !(k.n == n)) := by
  unfold butL kL
  rw [List.filter_map]
  have : ((fun p : Lit × Value => !p.1.sameKey (kLit n)) ∘ fun k : Kp => (kLit k.n, k.v)) = fun k => !(k.n == n) := by
    funext k
    show (!(kLit k.n).sameKey (kLit n)) = _
    rw [kLit_same]
  rw [this]
theorem fnd_some {ks : List Kp} {n : Nat} {k : Kp} (h : fnd ks n = some k) : k ∈ ks ∧ k.n = n := ⟨List.mem_of_find?_eq_some h, by simpa using List.find?_some h⟩
theorem fnd_none {ks : List Kp} {n : Nat} (h : fnd ks n = none) : ∀ k ∈ ks, k.n ≠ n := fun k hk e => by
  have := List.find?_eq_none.1 h k hk
  simp [e] at this
theorem fnd_of {ks : List Kp} {n : Nat} (h : ∀ k ∈ ks, k.n ≠ n) : fnd ks n = none := List.find?_eq_none.2 fun k hk => by simpa using h k hk
theorem fnd_is {ks : List Kp} {n : Nat} (h : ∃ k ∈ ks, k.n = n) : ∃ k, fnd ks n = some k := by
  cases e : fnd ks n with
  | some k => exact ⟨k, rfl⟩
  | none =>
    obtain ⟨k, h1, h2⟩ := h
    exact absurd h2 (fnd_none e k h1)
theorem PkAt.fr {w w' : World} {k : Kp} {ex : Nat → Prop} (h : PkAt w k) (hf : Fr w w' ex) (hn : ∀ q, k.v.ownBlock = some q → ¬ ex q) : PkAt w' k := ⟨h.1.fr hf hn, h.2⟩
theorem PkAt.by' {w : World} {k : Kp} (h : PkAt w k) : By w k.v k.l := h.1.by' h.2.1
/-- A packet's block is neither the arbiter's nor the map's. -/
theorem PkAt.ne {w : World} {k : Kp} (h : PkAt w k) {g b : Nat} {cs : Array Value} {L : List (Lit × Value)} (hg : Blk w g 67 cs) (hb : MapL Try.prog w 3 b L) : ∀ q, k.v.ownBlock = some q → ¬ (q = g ∨ q = b) := fun q hq e => by
  obtain ⟨_, cur, hc⟩ := h.1.lt hq
  rcases e with rfl | rfl
  · have : Blk w q 5 cur := hc
    unfold Blk at hg
    rw [hg] at hc
    injection hc with hc
    injection hc with _ hc _
    exact absurd hc (by decide)
  · obtain ⟨es, c, h1⟩ := hb.is
    rw [h1] at hc
    cases hc
theorem AbAt.gb {w : World} {g b : Nat} {a : Ab} (h : AbAt w g b a) : b ≠ g := h.map.ne_blk h.blk
theorem AbAt.fr {w w' : World} {g b : Nat} {a : Ab} {ex : Nat → Prop} (h : AbAt w g b a) (hf : Fr w w' ex) (hg : ¬ ex g) (hb : ¬ ex b) (hk : ∀ k ∈ a.ks, ∀ q, k.v.ownBlock = some q → ¬ ex q) : AbAt w' g b a := ⟨h.blk.fr hf hg, h.map.fr hf hb, fun k hk' => (h.pk k hk').fr hf (hk k hk'), h.bd⟩
theorem AbAt.below {w w' : World} {g b : Nat} {a : Ab} (h : AbAt w g b a) (hb : Below w.heap.size w w') : AbAt w' g b a := h.fr (Fr.of_below hb (fun _ => False)) id id fun _ _ _ _ => id
theorem wpList_wanted {P : Program} {ops : Array Oper} {rest : List Oper} {o : Oper} {a : Act} {w : World} {Q : Exit → Act → World → Prop} (hw : Region.wanted o (yielded ops a.tmps) = true)
    (h : ∀ K : Act → World → Prop, (∀ a w, wpList P ops Q rest a w → K a w) → o.wp P a w K Q) : wpList P ops Q (o :: rest) a w :=
  wpList_step fun K hK => by rw [if_pos hw]; exact h K hK
theorem wpList_runToG {P : Program} {ops : Array Oper} {rest : List Oper} {o : Oper} {a : Act} {w : World} {Q : Exit → Act → World → Prop} (hw : Region.wanted o (yielded ops a.tmps) = true) (dst : Option Tmp) (hdst : o.dst = dst)
    (v : Value) (w' : World) (hrun : (execOp a.eval o).run P w = .ok (.value v) w')
    (h : wpList P ops Q rest (a.put dst v) w') : wpList P ops Q (o :: rest) a w := by
  subst hdst
  refine wpList_wanted hw fun K hK => ?_
  unfold Oper.wp
  rw [hrun, Oper.upon_value]
  exact hK _ _ h
theorem wpList_skipG {P : Program} {ops : Array Oper} {rest : List Oper} {o : Oper} {a : Act} {w : World} {Q : Exit → Act → World → Prop} (hw : Region.wanted o (yielded ops a.tmps) = false)
    (h : wpList P ops Q rest (a.put o.dst undef) w) : wpList P ops Q (o :: rest) a w :=
  wpList_step fun K hK => by rw [if_neg (by rw [hw]; exact Bool.false_ne_true)]; exact hK _ _ h
theorem wpList_skipW {P : Program} {ops : Array Oper} {rest : List Oper} {op : Oper} {a : Act} {w w' : World} {Q : Exit → Act → World → Prop} (hg : op.guard = none) (d : Option Tmp) (hd : op.dst = d) (hrun : (execOp a.eval op).run P w = .ok .skip w') (h : wpList P ops Q rest (a.put d undef) w') : wpList P ops Q (op :: rest) a w := by
  subst hd
  refine wpList_plain hg fun K hK => ?_
  unfold Oper.wp
  rw [hrun]
  exact hK _ _ h
theorem wpList_callG {P : Program} {ops : Array Oper} {rest : List Oper} {op : Oper} {a : Act} {w : World} {Q : Exit → Act → World → Prop} (hw : Region.wanted op (yielded ops a.tmps) = true) (d : Option Tmp) (hd : op.dst = d)
    (f : FuncId) (args : Array Value) (hrun : (execOp a.eval op).run P w = .ok (.enter f args) w) {R : Ending → World → Prop} (hc : Calls P f args w R)
    (h : ∀ e w', R e w' → ∃ v, e = .returned v ∧ wpList P ops Q rest (a.put d v) w') : wpList P ops Q (op :: rest) a w := by
  subst hd
  refine wpList_wanted hw fun K hK => ?_
  unfold Oper.wp
  rw [hrun, Oper.upon_enter]
  refine hc.mono fun e w'' hh => ?_
  obtain ⟨v, rfl, hw⟩ := h _ _ hh
  exact hK _ _ hw
theorem ldN_run {op : Oper} {a : Act} {w : World} {g o : Nat} {z : Int} {T : TypeId} (hT : T = 2 ∨ T = 3) (x : Operand) (ho : op.op = .load T x) (hx : a.eval x = .pointer (some ⟨g, o, none⟩)) (h : w.cell? ⟨g, o, none⟩ = some (.int .i64 z)) : (execOp a.eval op).run Try.prog w = .ok (.value (.int .i64 z)) w := by
  unfold execOp
  simp only [ho, hx]
  rcases hT with rfl | rfl <;> go_simp
theorem ldM_run {op : Oper} {a : Act} {w : World} {g o b : Nat} (x : Operand) (ho : op.op = .load 65 x) (hx : a.eval x = .pointer (some ⟨g, o, none⟩)) (h : w.cell? ⟨g, o, none⟩ = some (.map (some b))) : (execOp a.eval op).run Try.prog w = .ok (.value (.map (some b))) w := by
  unfold execOp
  simp only [ho, hx]
  go_simp
theorem ldY_run {op : Oper} {a : Act} {w : World} {g o x0 : Nat} (x : Operand) (ho : op.op = .load 5 x) (hx : a.eval x = .pointer (some ⟨g, o, none⟩)) (h : w.cell? ⟨g, o, none⟩ = some (.int .u8 (x0 : Int))) : (execOp a.eval op).run Try.prog w = .ok (.value (.int .u8 (x0 : Int))) w := by
  unfold execOp
  simp only [ho, hx]
  go_simp
theorem stN_run {op : Oper} {a : Act} {w : World} {g o : Nat} {z z0 : Int} {T : TypeId} (hT : T = 2 ∨ T = 3) (x y : Operand) (ho : op.op = .store T x y) (hx : a.eval x = .pointer (some ⟨g, o, none⟩)) (hy : a.eval y = .int .i64 z) (h : w.cell? ⟨g, o, none⟩ = some (.int .i64 z0)) (hf : w.frozen? ⟨g, o, none⟩ = false) : (execOp a.eval op).run Try.prog w = .ok .skip (w.setCell ⟨g, o, none⟩ (.int .i64 z)) := by
  unfold execOp
  simp only [ho, hx, hy]
  rcases hT with rfl | rfl <;> go_simp
/-- May that be a time? -/
def tmB (t : Int) : Bool := decide (0 ≤ t) && decide (t ≤ 253402300799999)
set_option maxRecDepth 100000 in
theorem isTime_any (t : Int) (w : World) : Calls Try.prog 19 #[.int .i64 t] w fun e w' => e = .returned (.bool (tmB t)) ∧ w' = w := by
  unfold tmB
  by_cases h1 : 0 ≤ t
  · by_cases h2 : t ≤ 253402300799999
    · have e : (decide (0 ≤ t) && decide (t ≤ 253402300799999)) = true := by simp [h1, h2]
      rw [e]
      go_enter Try.func19, Try.ntmps19
      go_wp2
      go_ret
      exact ⟨rfl, rfl⟩
    · have e : (decide (0 ≤ t) && decide (t ≤ 253402300799999)) = false := by simp [h2]
      rw [e]
      go_enter Try.func19, Try.ntmps19
      go_wp2
      go_ret
      exact ⟨rfl, rfl⟩
  · have e : (decide (0 ≤ t) && decide (t ≤ 253402300799999)) = false := by simp [h1]
    rw [e]
    go_enter Try.func19, Try.ntmps19
    go_wp2
    go_ret
    exact ⟨rfl, rfl⟩
set_option maxRecDepth 100000 in
theorem Next_any {w : World} {g b : Nat} {a : Ab} (h : AbAt w g b a) : Calls Try.prog 13 #[.pointer (some ⟨g, 0, none⟩)] w fun e w' => e = .returned (.int .i64 (a.nx : Int)) ∧ w' = w := by
  have c2 : w.cell? ⟨g, 2, none⟩ = some (.int .i64 (a.nx : Int)) := h.blk.cell 2
  clear h
  go_enter Try.func13, Try.ntmps13
  go_wp2
  go_ret
  exact ⟨rfl, rfl⟩
end Go.Proofs.Ytdncemecnbglaaa
