/-
  tape: reading a command (plain); a part read.
-/
import Derived.Test.YtjnnecoikcmaeaaTP6
namespace Go.Proofs.Ytjnnecoikcmaeaa
set_option linter.unusedVariables false
set_option linter.unusedSimpArgs false
open Go.RowKit Go.Great

def Cm.setN (c : Cm) (i : Nat) (z : Int) : Cm := { c with n := fun j => if j = i then z else c.n j }
def Cm.setS (c : Cm) (i : Nat) (s : ByteArray) : Cm := { c with s := fun j => if j = i then s else c.s j }
def zeroC : Cm := ⟨0, fun _ => 0, fun _ => ⟨#[]⟩⟩
theorem setN_cs (c : Cm) {i : Nat} (h : i < 24) (ht : isT i = false) (z : Int) : (c.setN i z).cs = c.cs.setIfInBounds (cOf i) (.int .i64 z) := by
  rcases cases24 h with rfl | rfl | rfl | rfl | rfl | rfl | rfl | rfl | rfl | rfl | rfl | rfl | rfl | rfl | rfl | rfl | rfl | rfl | rfl | rfl | rfl | rfl | rfl | rfl <;> first | rfl | cases ht
theorem setS_cs (c : Cm) {i : Nat} (h : i < 24) (ht : isT i = true) (s : ByteArray) : (c.setS i s).cs = c.cs.setIfInBounds (cOf i) (.string s) := by
  rcases cases24 h with rfl | rfl | rfl | rfl | rfl | rfl | rfl | rfl | rfl | rfl | rfl | rfl | rfl | rfl | rfl | rfl | rfl | rfl | rfl | rfl | rfl | rfl | rfl | rfl <;> first | rfl | cases ht
/-- One part read: where it ends, and the command with it. -/
def rdF (l : List Nat) (i at_ : Nat) (c : Cm) : Except Nat (Nat × Cm) :=
  if isT i then (match rt l at_ with
    | .error p => .error p
    | .ok q => .ok (q.1, c.setS i (ofN q.2)))
  else (match rn l at_ 1 1000000000000000000 with
    | none => .error at_
    | some (z, e) => .ok (e, c.setN i z))
def rdU (l : List Nat) (m at0 : Nat) (c0 : Cm) : Nat → Except Nat (Nat × Cm)
  | 0 => .ok (at0, c0)
  | i + 1 => match rdU l m at0 c0 i with
    | .error p => .error p
    | .ok (a, c) => if m / 2 ^ i % 2 = 0 then .ok (a, c) else rdF l i a c
def rdC (l : List Nat) : Except Nat (Nat × Cm) := match rn l 0 1 9 with
  | none => .error 0
  | some (k, a1) => match rn l a1 0 16777215 with
    | none => .error a1
    | some (m, a2) => rdU l m.toNat a2 { zeroC with k := k } 24
/-- What Decode answers. -/
def dec (l : List Nat) : Except Nat Cm := match rdC l with
  | .error p => .error p
  | .ok (a, c) => if a < l.length then .error a else .ok c
theorem rt_bd {l : List Nat} {at_ : Nat} {q : Nat × List Nat} (hb : BB l) (h : rt l at_ = .ok q) : at_ < q.1 ∧ q.1 ≤ l.length := by
  unfold rt at h
  cases hr : rn l at_ 1 60 with
  | none => rw [hr] at h; cases h
  | some p =>
    obtain ⟨n, b⟩ := p
    rw [hr] at h
    simp only at h
    have := rn_bd hb hr
    split at h
    · injection h with h
      subst h
      exact ⟨by show at_ < b + n.toNat; omega, by show b + n.toNat ≤ _; omega⟩
    · cases h
theorem rdF_bd {l : List Nat} {i at_ a : Nat} {c c' : Cm} (hb : BB l) (h : rdF l i at_ c = .ok (a, c')) : at_ < a ∧ a ≤ l.length := by
  unfold rdF at h
  split at h
  · cases hr : rt l at_ with
    | error p => rw [hr] at h; cases h
    | ok q =>
      rw [hr] at h
      injection h with h
      injection h with h1 h2
      subst h1
      exact rt_bd hb hr
  · cases hr : rn l at_ 1 1000000000000000000 with
    | none => rw [hr] at h; cases h
    | some p =>
      obtain ⟨z, e⟩ := p
      rw [hr] at h
      injection h with h
      injection h with h1 h2
      subst h1
      have := rn_bd hb hr
      exact ⟨this.2.2.1, this.2.2.2⟩
theorem rdF_bd70 {l : List Nat} {i at_ a : Nat} {c c' : Cm} (hb : BB l) (h : rdF l i at_ c = .ok (a, c')) : a ≤ at_ + 70 := by
  unfold rdF at h
  split at h
  · unfold rt at h
    cases hr : rn l at_ 1 60 with
    | none => rw [hr] at h; cases h
    | some p =>
      obtain ⟨n, b⟩ := p
      rw [hr] at h
      simp only at h
      have h1 := rn_bd10 hb hr
      have h2 := rn_bd hb hr
      by_cases hle : b + n.toNat ≤ l.length
      · rw [if_pos hle] at h
        simp only at h
        injection h with h
        injection h with h3 h4
        omega
      · rw [if_neg hle] at h
        cases h
  · cases hr : rn l at_ 1 1000000000000000000 with
    | none => rw [hr] at h; cases h
    | some p =>
      obtain ⟨z, e⟩ := p
      rw [hr] at h
      injection h with h
      injection h with h1 h2
      have := rn_bd10 hb hr
      omega
theorem rdU_bd70 {l : List Nat} {m at0 : Nat} {c0 : Cm} (hb : BB l) : ∀ {i a : Nat} {c : Cm}, rdU l m at0 c0 i = .ok (a, c) → a ≤ at0 + 70 * i
  | 0, a, c, h => by
    injection h with h
    injection h with h1 h2
    omega
  | i + 1, a, c, h => by
    simp only [rdU] at h
    cases hr : rdU l m at0 c0 i with
    | error p => rw [hr] at h; cases h
    | ok q =>
      obtain ⟨a1, c1⟩ := q
      have ih := rdU_bd70 hb hr
      rw [hr] at h
      simp only at h
      by_cases hm : m / 2 ^ i % 2 = 0
      · rw [if_pos hm] at h
        injection h with h
        injection h with h1 h2
        omega
      · rw [if_neg hm] at h
        have := rdF_bd70 hb h
        omega
theorem By.lt {w : World} {v : Value} {l : List Nat} (h : By w v l) {q : Nat} (hq : v.ownBlock = some q) : l = [] ∨ q < w.heap.size := by
  obtain ⟨a, cap, rfl, _, _, h3⟩ := h.ex
  rcases h3 with h3 | ⟨b, off, rfl, h3⟩
  · exact .inl h3
  · cases l with
    | nil => exact .inl rfl
    | cons x t =>
      have e : b = q := by injection hq
      subst e
      exact .inr (World.block_lt_of_cell? _ _ (h3 0 x rfl))
theorem By.frE {w w' : World} {v : Value} {l : List Nat} {ex : Nat → Prop} (h : By w v l) (hf : Fr w w' ex) (hn : l = [] ∨ ∀ q, v.ownBlock = some q → ¬ ex q) : By w' v l := by
  rcases hn with hn | hn
  · subst hn
    obtain ⟨a, cap, e, h1, h2, _⟩ := h.ex
    exact ⟨⟨a, cap, e, h1, h2, .inl rfl⟩, h.bb⟩
  · exact h.fr hf hn
theorem Wrote.fr {w w' : World} {B k : Nat} {v : Value} (h : Wrote w w' ⟨B, k, none⟩ v) : Fr w w' (fun b => b = B) := by
  obtain ⟨w1, hb, rfl⟩ := h
  exact (Fr.of_below hb _).trans (Fr.setCell w1 ⟨B, k, none⟩ v (fun b => b = B) rfl) fun i _ q => by rcases q with q | q <;> exact q
theorem Wrote.blk {w w' : World} {B k : Nat} {v : Value} {T : TypeId} {cs : Array Value} (h : Wrote w w' ⟨B, k, none⟩ v) (hb : Blk w B T cs) : Blk w' B T (cs.setIfInBounds k v) := by
  obtain ⟨w1, h1, rfl⟩ := h
  exact (hb.below h1 hb.lt).set k v
/-- What a part's read leaves. -/
def ReaR (w : World) (B : Nat) (x : Except Nat (Nat × Cm)) (e : Ending) (w' : World) : Prop := match x with
  | .error p => e = .returned (.tuple #[.int .i64 (p : Int), .bool false]) ∧ Hid (Fr w w' (fun b => b = B))
  | .ok q => e = .returned (.tuple #[.int .i64 (q.1 : Int), .bool true]) ∧ Hid (Blk w' B 27 q.2.cs ∧ Fr w w' (fun b => b = B))
theorem rea_at {w : World} {B : Nat} {c : Cm} (hb : Blk w B 27 c.cs) {i : Nat} (h : i < 24) {v : Value} {l : List Nat} (hv : By w v l) (hl : l.length ≤ 9223372036854775807) {at_ : Nat} (hat : at_ ≤ 1000000) (ha : at_ ≤ l.length) : Calls Try.prog (fRea i) #[fVal i B, v, .int .i64 (at_ : Int)] w fun e w' => ReaR w B (rdF l i at_ c) e w' := by
  have hp := part_cell hb h
  have hf : w.frozen? ⟨B, cOf i, none⟩ = false := hb.frozen _
  cases ht : isT i with
  | true =>
    have e1 : rdF l i at_ c = (match rt l at_ with
      | .error p => .error p
      | .ok q => .ok (q.1, c.setS i (ofN q.2))) := by unfold rdF; rw [ht]; rfl
    have e2 : fRea i = 87 := by unfold fRea; rw [ht]; rfl
    have e3 : c.v i = .string (c.s i) := by unfold Cm.v; rw [ht]; rfl
    rw [e1, e2]
    rw [e3] at hp
    refine (tx_rea B (cOf i) _ w v l hp hf hv hl at_ hat ha).mono fun e w' hh => ?_
    cases hr : rt l at_ with
    | error p =>
      rw [hr] at hh
      exact ⟨hh.1, Fr.of_below hh.2.out _⟩
    | ok q =>
      rw [hr] at hh
      refine ⟨hh.1, ?_, hh.2.out.fr⟩
      rw [setS_cs c h ht]
      exact hh.2.out.blk hb
  | false =>
    have e1 : rdF l i at_ c = (match rn l at_ 1 1000000000000000000 with
      | none => .error at_
      | some (z, e) => .ok (e, c.setN i z)) := by unfold rdF; rw [ht]; rfl
    have e3 : c.v i = .int .i64 (c.n i) := by unfold Cm.v; rw [ht]; rfl
    rw [e1]
    rw [e3] at hp
    have key : ∀ e w', (e = .returned (.tuple #[.int .i64 ((((rn l at_ 1 1000000000000000000).map (·.2)).getD at_ : Nat) : Int), .bool (rn l at_ 1 1000000000000000000).isSome]) ∧ Hid (Wrote w w' ⟨B, cOf i, none⟩ (.int .i64 (((rn l at_ 1 1000000000000000000).map (·.1)).getD 0)))) → ReaR w B (match rn l at_ 1 1000000000000000000 with
      | none => .error at_
      | some (z, e) => .ok (e, c.setN i z)) e w' := fun e w' hh => by
      cases hr : rn l at_ 1 1000000000000000000 with
      | none =>
        rw [hr] at hh
        exact ⟨hh.1, hh.2.out.fr⟩
      | some p =>
        obtain ⟨z, q⟩ := p
        rw [hr] at hh
        refine ⟨hh.1, ?_, hh.2.out.fr⟩
        show Blk w' B _ (c.setN i z).cs
        rw [setN_cs c h ht]
        exact hh.2.out.blk hb
    cases hL : isL i with
    | true =>
      have e2 : fRea i = 79 := by unfold fRea; rw [ht, hL]; rfl
      rw [e2]
      exact (nl_rea B (cOf i) _ w v l hp hf hv (by omega) at_ ha).mono key
    | false =>
      have e2 : fRea i = 83 := by unfold fRea; rw [ht, hL]; rfl
      rw [e2]
      exact (ni_rea B (cOf i) _ w v l hp hf hv (by omega) at_ ha).mono key
end Go.Proofs.Ytjnnecoikcmaeaa
