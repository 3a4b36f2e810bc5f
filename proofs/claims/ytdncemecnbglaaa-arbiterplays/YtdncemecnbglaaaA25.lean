/-
  ArbiterPlays: whose a block is, and what its owner has marked it with; steps that keep to that.
-/
import Derived.Test.YtdncemecnbglaaaA24
namespace Go.Proofs.Ytdncemecnbglaaa
set_option linter.unusedVariables false
set_option linter.unusedSimpArgs false
open Go.RowKit Go.Great Go.Maps

/-- What a block is: (0, 0) whatever; (1, s) the pair s's packet or list, that nobody writes; (2, m) marked by its owner with m; (3, m) two bytes of the mark m. -/
abbrev Gh := Nat → Nat × Nat
def hotT (T : TypeId) : Prop := T = 5 ∨ T = 61 ∨ T = 35
/-- What may stand in a marked block. -/
def Cm (G : Gh) (T : TypeId) (m : Nat) (x : Value) : Prop :=
  (T = 5 ∧ (x = .int .u8 (m : Int) ∧ m < 256 ∨ m = 300 ∧ ∃ y : Nat, y < 256 ∧ x = .int .u8 (y : Int))) ∨ (T = 61 ∧ x = .int .i64 (m : Int)) ∨ (T = 35 ∧ ∃ q, G q = (3, m) ∧ x = .slice (some ⟨q, 0, none⟩) 2 2)
theorem Cm.one {G : Gh} {T : TypeId} {m : Nat} {x : Value} (h : Cm G T m x) : x.oneCell' = true := by
  rcases h with ⟨_, ⟨rfl, _⟩ | ⟨_, y, _, rfl⟩⟩ | ⟨_, rfl⟩ | ⟨_, q, _, rfl⟩ <;> rfl
def twoB (m : Nat) : Array Value := #[.int .u8 ((m % 256 : Nat) : Int), .int .u8 ((m / 256 % 256 : Nat) : Int)]
structure Gi (G : Gh) (w : World) : Prop where
  ty : ∀ q, G q ≠ (0, 0) → ∃ cur T, w.heap[q]? = some (.cells cur T (0, 0)) ∧ hotT T
  inn : ∀ q m, G q = (3, m) → w.heap[q]? = some (.cells (twoB m) 5 (0, 0))
theorem Gi.lt {G : Gh} {w : World} (h : Gi G w) {q : Nat} (hq : G q ≠ (0, 0)) : q < w.heap.size := by
  obtain ⟨cur, T, h1, _⟩ := h.ty q hq
  exact (Array.getElem?_eq_some_iff.1 h1).1
theorem Gi.zero {G : Gh} {w : World} (h : Gi G w) {q : Nat} (hq : w.heap.size ≤ q) : G q = (0, 0) := Classical.byContradiction fun hn => by
  have := h.lt hn
  omega
/-- The colours that a step may change. -/
def Sc (s : Nat) (c : Nat × Nat) : Prop := c.1 = 1 ∧ (c.2 = s ∨ 1000 ≤ s ∧ s < 2000 ∧ (c.2 = 2 * (s - 1000) ∨ c.2 = 2 * (s - 1000) + 1 ∨ c.2 = 1000 + s ∨ c.2 = 2000 + s))
theorem Sc.self (s : Nat) : Sc s (1, s) := ⟨rfl, .inl rfl⟩
/-- A step: blocks stay, but for some, and those that are marked: there marks are written. -/
structure Stp (s : Nat) (ex : Nat → Prop) (G : Gh) (w : World) (G' : Gh) (w' : World) : Prop where
  os : w'.os = w.os
  tape : w'.tape = w.tape
  output : w'.output = w.output
  size : w.heap.size ≤ w'.heap.size
  gi0 : Gi G w
  gi : Gi G' w'
  col : ∀ q, q < w.heap.size → G' q = G q ∨ Sc s (G q)
  exT : ∀ q cur T, ex q → w.heap[q]? = some (.cells cur T (0, 0)) → ¬ hotT T
  block : ∀ q, q < w.heap.size → ¬ ex q → w'.heap[q]? = w.heap[q]? ∨ ∃ m cur cur' T, G' q = (2, m) ∧ w.heap[q]? = some (.cells cur T (0, 0)) ∧ w'.heap[q]? = some (.cells cur' T (0, 0)) ∧ cur'.size = cur.size ∧ ∀ (j : Nat) x, cur'[j]? = some x → cur[j]? = some x ∨ Cm G' T m x
section
variable {s : Nat} {ex e2 : Nat → Prop} {G G1 G2 G' : Gh} {w w1 w2 w' : World}
theorem Stp.inn (h : Stp s ex G w G' w') {q m : Nat} (hq : G q = (3, m)) : G' q = (3, m) := by
  rcases h.col q (h.gi0.lt (by rw [hq]; simp)) with e | ⟨e, _⟩
  · rw [e, hq]
  · rw [hq] at e; simp at e
theorem Stp.hot (h : Stp s ex G w G' w') {q m : Nat} (hq : G q = (2, m)) : G' q = (2, m) := by
  rcases h.col q (h.gi0.lt (by rw [hq]; simp)) with e | ⟨e, _⟩
  · rw [e, hq]
  · rw [hq] at e; simp at e
theorem Cm.to {G G' : Gh} (h : ∀ q m, G q = (3, m) → G' q = (3, m)) {T : TypeId} {m : Nat} {x : Value} (hc : Cm G T m x) : Cm G' T m x := by
  rcases hc with a | a | ⟨a, q, b, c⟩
  · exact .inl a
  · exact .inr (.inl a)
  · exact .inr (.inr ⟨a, q, h q m b, c⟩)
theorem Stp.cm (h : Stp s ex G w G' w') {T : TypeId} {m : Nat} {x : Value} (hc : Cm G T m x) : Cm G' T m x := hc.to fun _ _ => h.inn
theorem Stp.refl (gi : Gi G w) (hx : ∀ q cur T, ex q → w.heap[q]? = some (.cells cur T (0, 0)) → ¬ hotT T) : Stp s ex G w G w :=
  ⟨rfl, rfl, rfl, Nat.le_refl _, gi, gi, fun _ _ => .inl rfl, hx, fun _ _ _ => .inl rfl⟩
theorem Stp.refl0 (gi : Gi G w) : Stp s (fun _ => False) G w G w := Stp.refl gi fun _ _ _ h => h.elim
theorem Stp.trans (h : Stp s ex G w G1 w1) (k : Stp s e2 G1 w1 G2 w2) (he : ∀ q, q < w.heap.size → e2 q → ex q) : Stp s ex G w G2 w2 := by
  refine ⟨k.os.trans h.os, k.tape.trans h.tape, k.output.trans h.output, Nat.le_trans h.size k.size, h.gi0, k.gi, fun q hq => ?_, h.exT, fun q hq hn => ?_⟩
  · rcases h.col q hq with a | a
    · rcases k.col q (Nat.lt_of_lt_of_le hq h.size) with c | c
      · exact .inl (c.trans a)
      · exact .inr (a ▸ c)
    · exact .inr a
  · rcases h.block q hq hn with a | ⟨m, c0, c1, T, g1, a1, a2, a3, a4⟩ <;> rcases k.block q (Nat.lt_of_lt_of_le hq h.size) (fun z => hn (he q hq z)) with b | ⟨m2, d0, d1, T2, g2, b1, b2, b3, b4⟩
    · exact .inl (b.trans a)
    · exact .inr ⟨m2, d0, d1, T2, g2, a ▸ b1, b2, b3, b4⟩
    · exact .inr ⟨m, c0, c1, T, k.hot g1, a1, b.trans a2, a3, fun j x hx => (a4 j x hx).imp id fun z => k.cm z⟩
    · have e := k.hot g1
      rw [g2] at e
      injection e with _ e
      subst e
      rw [a2] at b1
      injection b1 with b1
      injection b1 with b1 b1' _
      subst b1 b1'
      refine .inr ⟨m2, c0, d1, T, g2, a1, b2, b3.trans a3, fun j x hx => ?_⟩
      rcases b4 j x hx with z | z
      · exact (a4 j x z).imp id fun z => k.cm z
      · exact .inr z
theorem Stp.trans0 (h : Stp s ex G w G1 w1) (k : Stp s (fun _ => False) G1 w1 G2 w2) : Stp s ex G w G2 w2 := h.trans k fun _ _ h => h.elim
theorem Stp.mono (h : Stp s e2 G w G1 w1) (he : ∀ q, q < w.heap.size → e2 q → ex q) (hx : ∀ q cur T, ex q → w.heap[q]? = some (.cells cur T (0, 0)) → ¬ hotT T) : Stp s ex G w G1 w1 := (Stp.refl h.gi0 hx).trans h he
theorem Gi.fr {ex : Nat → Prop} (gi : Gi G w) (hf : Fr w w' ex) (hx : ∀ q cur T, ex q → w.heap[q]? = some (.cells cur T (0, 0)) → ¬ hotT T) : Gi G w' := by
  have key : ∀ q, G q ≠ (0, 0) → w'.heap[q]? = w.heap[q]? := fun q hq => by
    obtain ⟨cur, T, h1, h2⟩ := gi.ty q hq
    exact hf.block q (gi.lt hq) fun e => hx q cur T e h1 h2
  refine ⟨fun q hq => ?_, fun q m hq => (key q (by rw [hq]; simp)).trans (gi.inn q m hq)⟩
  obtain ⟨cur, T, h1, h2⟩ := gi.ty q hq
  exact ⟨cur, T, (key q hq).trans h1, h2⟩
theorem Stp.of_fr (gi : Gi G w) (hf : Fr w w' ex) (hx : ∀ q cur T, ex q → w.heap[q]? = some (.cells cur T (0, 0)) → ¬ hotT T) : Stp s ex G w G w' :=
  ⟨hf.os, hf.tape, hf.output, hf.size, gi, gi.fr hf hx, fun _ _ => .inl rfl, hx, fun q hq hn => .inl (hf.block q hq hn)⟩
theorem Stp.below (gi : Gi G w) (hb : Below w.heap.size w w') : Stp s (fun _ => False) G w G w' := Stp.of_fr gi (Fr.of_below hb _) fun _ _ _ h => h.elim
theorem Stp.alloc (gi : Gi G w) (o : Obj) : Stp s (fun _ => False) G w G (w.alloc o) := Stp.of_fr gi (Fr.alloc w o _) fun _ _ _ h => h.elim
theorem Stp.drew (gi : Gi G w) : Stp s (fun _ => False) G w G w.drew := Stp.of_fr gi (Fr.drew (Fr.refl w _)) fun _ _ _ h => h.elim
def pnt (G : Gh) (q : Nat) (c : Nat × Nat) : Gh := fun x => if x = q then c else G x
theorem pnt_at (G : Gh) (q : Nat) (c : Nat × Nat) : pnt G q c q = c := if_pos rfl
theorem pnt_ne (G : Gh) {q x : Nat} (c : Nat × Nat) (h : x ≠ q) : pnt G q c x = G x := if_neg h
/-- A new block gets its colour. -/
theorem Stp.paint (h : Stp s ex G w G1 w1) {q : Nat} {c : Nat × Nat} {cur : Array Value} {T : TypeId} (hq : w.heap.size ≤ q) (h0 : G1 q = (0, 0)) (hb : w1.heap[q]? = some (.cells cur T (0, 0))) (hT : hotT T) (hc : ∀ m, c = (3, m) → cur = twoB m ∧ T = 5) : Stp s ex G w (pnt G1 q c) w1 := by
  have h3 : ∀ x m, G1 x = (3, m) → pnt G1 q c x = (3, m) := fun x m hx => by
    rw [pnt_ne _ _ fun e => by subst e; rw [h0] at hx; simp at hx]
    exact hx
  refine ⟨h.os, h.tape, h.output, h.size, h.gi0, ⟨fun x hx => ?_, fun x m hx => ?_⟩, fun x hx => ?_, h.exT, fun x hx hn => ?_⟩
  · by_cases e : x = q
    · subst e; exact ⟨cur, T, hb, hT⟩
    · rw [pnt_ne _ _ e] at hx; exact h.gi.ty x hx
  · by_cases e : x = q
    · subst e
      rw [pnt_at] at hx
      obtain ⟨a, b⟩ := hc m hx
      rw [hb, a, b]
    · rw [pnt_ne _ _ e] at hx; exact h.gi.inn x m hx
  · rw [pnt_ne _ _ (by omega)]; exact h.col x hx
  · rw [pnt_ne _ _ (by omega)]
    rcases h.block x hx hn with a | ⟨m, c0, c1, U, g1, a1, a2, a3, a4⟩
    · exact .inl a
    · exact .inr ⟨m, c0, c1, U, g1, a1, a2, a3, fun j y hy => (a4 j y hy).imp id fun z => z.to h3⟩
/-- The pair's own packet or list gets another colour. -/
theorem Stp.turnC (gi : Gi G w) {q : Nat} (hq : Sc s (G q)) (c : Nat × Nat) (hc : ∀ m, c ≠ (3, m)) : Stp s (fun _ => False) G w (pnt G q c) w := by
  refine ⟨rfl, rfl, rfl, Nat.le_refl _, gi, ⟨fun x hx => ?_, fun x k hx => ?_⟩, fun x hx => ?_, fun _ _ _ h => h.elim, fun _ _ _ => .inl rfl⟩
  · by_cases e : x = q
    · subst e
      refine gi.ty x fun e => ?_
      have := hq.1
      rw [e] at this; simp at this
    · rw [pnt_ne _ _ e] at hx; exact gi.ty x hx
  · by_cases e : x = q
    · subst e; rw [pnt_at] at hx; exact absurd hx (hc k)
    · rw [pnt_ne _ _ e] at hx; exact gi.inn x k hx
  · by_cases e : x = q
    · subst e; exact .inr hq
    · exact .inl (pnt_ne _ _ e)
/-- It is marked now. -/
theorem Stp.turn (gi : Gi G w) {q : Nat} (hq : G q = (1, s)) (m : Nat) : Stp s (fun _ => False) G w (pnt G q (2, m)) w := Stp.turnC gi (by rw [hq]; exact Sc.self s) _ fun k e => by simp at e
theorem Stp.wide {t : Nat} (h : Stp s ex G w G1 w1) (ht : s = 2 * t ∨ s = 2 * t + 1 ∨ s = 2000 + t ∨ s = 3000 + t) (hs : t < 400) : Stp (1000 + t) ex G w G1 w1 :=
  ⟨h.os, h.tape, h.output, h.size, h.gi0, h.gi, fun q hq => (h.col q hq).imp id fun k => ⟨k.1, .inr ⟨by omega, by omega, by have := k.2; omega⟩⟩, h.exT, h.block⟩
/-- A mark is written. -/
theorem Stp.set {g k m : Nat} {cur : Array Value} {T : TypeId} {x : Value} (gi : Gi G w) (hg : G g = (2, m)) (hb : w.heap[g]? = some (.cells cur T (0, 0))) (hx : Cm G T m x) : Stp s (fun _ => False) G w G (w.setCell ⟨g, k, none⟩ x) := by
  have hne : ∀ q, q ≠ g → (w.setCell ⟨g, k, none⟩ x).heap[q]? = w.heap[q]? := fun q hq => Below.heap_setCell _ _ _ _ hq
  have hn : (w.setCell ⟨g, k, none⟩ x).heap[g]? = some (.cells (cur.setIfInBounds k x) T (0, 0)) := by
    rw [setCell_eq_setRow w g k cur T (0, 0) x hb]; exact setRow_heap _ _ _ _ _ _ hb
  refine ⟨rfl, rfl, rfl, by simp [World.setCell], gi, ⟨fun q hq => ?_, fun q j hq => ?_⟩, fun _ _ => .inl rfl, fun _ _ _ h => h.elim, fun q hq _ => ?_⟩
  · obtain ⟨c, U, h1, h2⟩ := gi.ty q hq
    by_cases e : q = g
    · subst e
      rw [hb] at h1
      injection h1 with h1
      injection h1 with _ h1 _
      subst h1
      exact ⟨_, T, hn, h2⟩
    · exact ⟨c, U, (hne q e).trans h1, h2⟩
  · exact (hne q fun e => by subst e; rw [hg] at hq; simp at hq).trans (gi.inn q j hq)
  · by_cases e : q = g
    · subst e
      refine .inr ⟨m, cur, _, T, hg, hb, hn, by simp, fun j y hy => ?_⟩
      rw [Array.getElem?_setIfInBounds] at hy
      split at hy
      · split at hy
        · injection hy with hy; subst hy; exact .inr hx
        · cases hy
      · exact .inl hy
    · exact .inl (hne q e)
theorem Stp.sets {g m : Nat} {T : TypeId} : ∀ (xs : List Value) (o : Nat) (w : World) (cur : Array Value), Gi G w → G g = (2, m) → w.heap[g]? = some (.cells cur T (0, 0)) → (∀ x ∈ xs, Cm G T m x) → Stp s (fun _ => False) G w G (w.setCells g o xs)
  | [], o, w, cur, gi, _, _, _ => Stp.refl0 gi
  | x :: r, o, w, cur, gi, hg, hb, hx => by
    have h1 : Stp s (fun _ => False) G w G (w.setCell ⟨g, o, none⟩ x) := Stp.set gi hg hb (hx x (List.mem_cons_self ..))
    have hn : (w.setCell ⟨g, o, none⟩ x).heap[g]? = some (.cells (cur.setIfInBounds o x) T (0, 0)) := by
      rw [setCell_eq_setRow w g o cur T (0, 0) x hb]; exact setRow_heap _ _ _ _ _ _ hb
    exact h1.trans0 (Stp.sets r (o + 1) _ _ h1.gi hg hn fun y hy => hx y (List.mem_cons_of_mem _ hy))
/-- What is not marked stays. -/
theorem Stp.cold (h : Stp s ex G w G' w') {q : Nat} (hq : q < w.heap.size) (hn : ¬ ex q) (hc : ∀ m, G' q ≠ (2, m)) : w'.heap[q]? = w.heap[q]? := by
  rcases h.block q hq hn with a | ⟨m, _, _, _, g, _⟩
  · exact a
  · exact absurd g (hc m)
theorem Stp.other (h : Stp s ex G w G' w') {q : Nat} {cur : Array Value} {T : TypeId} (hq : w.heap[q]? = some (.cells cur T (0, 0))) (hT : ¬ hotT T) (hn : ¬ ex q) : w'.heap[q]? = w.heap[q]? := by
  rcases h.block q (Array.getElem?_eq_some_iff.1 hq).1 hn with a | ⟨m, c0, c1, U, g, a1, a2, _⟩
  · exact a
  · exfalso
    rw [hq] at a1
    injection a1 with a1
    injection a1 with _ a1 _
    subst a1
    obtain ⟨c, V, b1, b2⟩ := h.gi.ty q (by rw [g]; simp)
    rw [a2] at b1
    injection b1 with b1
    injection b1 with _ b1 _
    subst b1
    exact hT b2
theorem Stp.nocell (h : Stp s ex G w G' w') {q : Nat} (hq : q < w.heap.size) (hc : ∀ cur T, w.heap[q]? ≠ some (.cells cur T (0, 0))) (hn : ¬ ex q) : w'.heap[q]? = w.heap[q]? := by
  rcases h.block q hq hn with a | ⟨m, c0, c1, U, g, a1, _⟩
  · exact a
  · exact absurd a1 (hc _ _)
theorem RowAt.stpO {e : TypeId} {size n : Nat} {v : Value} {xs : List Value} (r : RowAt w e size v n xs) (h : Stp s ex G w G' w') (he : ¬ hotT e) (hn : ∀ q, v.ownBlock = some q → ¬ ex q) : RowAt w' e size v n xs := r.keep fun q hq => by
  obtain ⟨_, cur, hc⟩ := r.lt hq
  exact h.other hc he (hn q hq)
theorem RowAt.stpC {e : TypeId} {size n : Nat} {v : Value} {xs : List Value} (r : RowAt w e size v n xs) (h : Stp s ex G w G' w') (he : hotT e) (hn : ∀ q, v.ownBlock = some q → ∀ m, G' q ≠ (2, m)) : RowAt w' e size v n xs := r.keep fun q hq => by
  obtain ⟨hl, cur, hc⟩ := r.lt hq
  exact h.cold hl (fun z => h.exT q cur e z hc he) (hn q hq)
theorem Blk.stp {g : Nat} {T : TypeId} {cs : Array Value} (b : Blk w g T cs) (h : Stp s ex G w G' w') (hT : ¬ hotT T) (hn : ¬ ex g) : Blk w' g T cs := (h.other b hT hn).trans b
theorem PkAt.stp {k : Kp} (p : PkAt w k) (h : Stp s ex G w G' w') (hn : ∀ q, k.v.ownBlock = some q → ∀ m, G' q ≠ (2, m)) : PkAt w' k := ⟨p.1.stpC h (.inl rfl) hn, p.2⟩
/-- A row that its owner marked. -/
def MkA (w : World) (G : Gh) (T : TypeId) (size m : Nat) (v : Value) (n : Nat) : Prop := ∃ xs, RowAt w T size v n xs ∧ (∀ x ∈ xs, Cm G T m x) ∧ ∀ q, v.ownBlock = some q → G q = (2, m)
theorem MkA.stp {T : TypeId} {size m n : Nat} {v : Value} (k : MkA w G T size m v n) (h : Stp s ex G w G' w') : MkA w' G' T size m v n := by
  obtain ⟨xs, r, hx, hq⟩ := k
  rcases r.2 with h0 | ⟨g, off, cap, cur, e1, e2, e3, e4, e5, e6⟩
  · exact ⟨xs, ⟨r.1, .inl h0⟩, fun x hm => h.cm (hx x hm), fun q hv => h.hot (hq q hv)⟩
  · have hg : G g = (2, m) := hq g (by rw [e1]; rfl)
    have hT : hotT T := by
      obtain ⟨c, U, b1, b2⟩ := h.gi0.ty g (by rw [hg]; simp)
      rw [e2] at b1
      injection b1 with b1
      injection b1 with _ b1 _
      subst b1
      exact b2
    rcases h.block g (Array.getElem?_eq_some_iff.1 e2).1 (fun z => h.exT g cur T z e2 hT) with a | ⟨m2, c0, c1, U, g1, a1, a2, a3, a4⟩
    · exact ⟨xs, ⟨r.1, .inr ⟨g, off, cap, cur, e1, a.trans e2, e3, e4, e5, e6⟩⟩, fun x hm => h.cm (hx x hm), fun q hv => h.hot (hq q hv)⟩
    · rw [h.hot hg] at g1
      injection g1 with _ g1
      subst g1
      rw [e2] at a1
      injection a1 with a1
      injection a1 with a1 a1' _
      subst a1 a1'
      have hle : n * size ≤ cap * size := Nat.mul_le_mul_right _ e3
      refine ⟨(c1.toList.drop off).take (n * size), ⟨by rw [List.length_take, List.length_drop, Array.length_toList]; omega, .inr ⟨g, off, cap, c1, e1, a2, e3, e4, by omega, rfl⟩⟩, fun x hm => ?_, fun q hv => h.hot (hq q hv)⟩
      obtain ⟨j, hj⟩ := List.getElem?_of_mem hm
      rw [List.getElem?_take] at hj
      split at hj
      · next hlt =>
        rw [List.getElem?_drop, Array.getElem?_toList] at hj
        rcases a4 _ _ hj with z | z
        · refine h.cm (hx x ?_)
          rw [← e6]
          refine List.mem_of_getElem? (i := j) ?_
          rw [List.getElem?_take, if_pos hlt, List.getElem?_drop, Array.getElem?_toList]
          exact z
        · exact z
      · cases hj
theorem MkA.nil (w : World) (G : Gh) (T : TypeId) (size m : Nat) : MkA w G T size m (.slice none 0 0) 0 := ⟨[], RowAt.none0 _ _ _, fun x hx => (by cases hx), fun q hq => (by cases hq)⟩
theorem MkA.form {T : TypeId} {size m n : Nat} {v : Value} (k : MkA w G T size m v n) : ∃ ao cap, v = .slice ao n cap ∧ n ≤ cap := by
  obtain ⟨xs, r, _⟩ := k
  exact r.form
/-- What stands in it. -/
theorem MkA.cell {T : TypeId} {size m n g off cap j : Nat} {v : Value} (k : MkA w G T size m v n) (hv : v = .slice (some ⟨g, off, none⟩) n cap) (hj : j < n * size) : ∃ x, w.cell? ⟨g, off + j, none⟩ = some x ∧ Cm G T m x := by
  obtain ⟨xs, r, hx, hq⟩ := k
  have hl : j < xs.length := by rw [r.1]; exact hj
  exact ⟨xs[j], r.cell hv (List.getElem?_eq_getElem hl), hx _ (List.getElem_mem hl)⟩
theorem MkA.at' {T : TypeId} {size m n j : Nat} {v : Value} (k : MkA w G T size m v n) (hj : j < n) : ∃ g off cap, v = .slice (some ⟨g, off, none⟩) n cap := by
  obtain ⟨xs, r, hx, hq⟩ := k
  obtain ⟨g, off, cap, cur, e, _⟩ := r.more (by omega)
  exact ⟨g, off, cap, e⟩
theorem AbAt.stp {g b : Nat} {a : Ab} (k : AbAt w g b a) (h : Stp s ex G w G' w') (hg : ¬ ex g) (hb : ¬ ex b) (hk : ∀ p ∈ a.ks, ∀ q, p.v.ownBlock = some q → ∀ m, G' q ≠ (2, m)) : AbAt w' g b a := by
  refine ⟨k.blk.stp h (by unfold hotT; decide) hg, ?_, fun p hp => (k.pk p hp).stp h (hk p hp), k.bd⟩
  obtain ⟨es, c, h1⟩ := k.map.is
  have hl : b < w.heap.size := (Array.getElem?_eq_some_iff.1 h1).1
  have hs : w'.heap[b]? = w.heap[b]? := h.nocell hl (fun cur T e => by rw [h1] at e; cases e) hb
  exact k.map.keep hs
theorem RbAt.stp {g : Nat} {kv : Value} {a : Ab} (k : RbAt w g kv a) (h : Stp s ex G w G' w') (hg : ∀ q, rOwn g kv q → ¬ ex q) (hk : ∀ p ∈ a.ks, ∀ q, p.v.ownBlock = some q → ∀ m, G' q ≠ (2, m)) : RbAt w' g kv a :=
  ⟨k.blk.stp h (by unfold hotT; decide) (hg g (.inl rfl)), k.row.stpO h (by unfold hotT; decide) fun q hq => hg q (.inr hq), fun p hp => (k.pk p hp).stp h (hk p hp), k.bd, k.so⟩
end
end Go.Proofs.Ytdncemecnbglaaa
