/-
  maps: what they hold, as a list in whatever order; elements are told as they are.
-/
import Derived.Test.YtdncemecnbglaaaAMem
import Derived.Maps.OwnSet
import Derived.Maps.RangeWalk
namespace Go.Proofs.Ytdncemecnbglaaa
set_option linter.unusedVariables false
set_option linter.unusedSectionVars false
open Go.RowKit Go.Maps

def heldE (v : Value) : Option (DataW Value × List MemPlace) := some (.held v, [])
def hE (p : Lit × Value) : Lit × DataW Value := (p.1, .held p.2)
/-- A map that holds these, in whatever order. -/
def MapL (P : Program) (w : World) (k : TypeId) (b : Nat) (L : List (Lit × Value)) : Prop :=
  ∃ es n, w.ownsMap P k heldE b n (.map es) ∧ es.Perm (L.map hE)
/-- What is at a key. -/
def atL (L : List (Lit × Value)) (kl : Lit) : Option Value := (L.find? fun p => p.1.sameKey kl).map (·.2)
/-- All but a key's. -/
def butL (L : List (Lit × Value)) (kl : Lit) : List (Lit × Value) := L.filter fun p => !p.1.sameKey kl
theorem find_one {α : Type} {f : α → Bool} {l l' : List α} (hp : l.Perm l') (hu : ∀ a ∈ l, ∀ b ∈ l, f a = true → f b = true → a = b) : l.find? f = l'.find? f := by
  cases h : l.find? f with
  | none =>
    refine Eq.symm (List.find?_eq_none.2 fun a ha => ?_)
    exact List.find?_eq_none.1 h a (hp.mem_iff.2 ha)
  | some x =>
    have hx := List.mem_of_find?_eq_some h
    have fx := List.find?_some h
    cases h' : l'.find? f with
    | none => exact absurd fx (List.find?_eq_none.1 h' x (hp.mem_iff.1 hx))
    | some y => rw [hu x hx y (hp.mem_iff.2 (List.mem_of_find?_eq_some h')) fx (List.find?_some h')]
theorem eq_of_key {β : Type} : ∀ {l : List (Lit × β)}, l.Pairwise (fun p q => p.1 ≠ q.1) → ∀ {a b : Lit × β}, a ∈ l → b ∈ l → a.1 = b.1 → a = b
  | [], _, _, _, ha, _, _ => by simp at ha
  | x :: r, hp, a, b, ha, hb, he => by
    obtain ⟨h1, h2⟩ := List.pairwise_cons.1 hp
    rcases List.mem_cons.1 ha with rfl | ha' <;> rcases List.mem_cons.1 hb with rfl | hb'
    · rfl
    · exact absurd he (h1 _ hb')
    · exact absurd he.symm (h1 _ ha')
    · exact eq_of_key h2 ha' hb' he
theorem perm_insert (x : Lit × DataW Value) : ∀ l : List (Lit × DataW Value), (DataW.insert x l).Perm (x :: l)
  | [] => List.Perm.refl _
  | y :: r => by
    unfold DataW.insert
    split
    · exact List.Perm.refl _
    · exact ((perm_insert x r).cons y).trans (List.Perm.swap x y r)
theorem perm_one : ∀ {l : List (Lit × Value)}, l.Pairwise (fun p q => p.1 ≠ q.1) → (∀ p ∈ l, WideAt.IsKeyLit p.1) → ∀ {x : Lit × Value}, x ∈ l → l.Perm (x :: l.filter fun p => !p.1.sameKey x.1)
  | [], _, _, _, h => by simp at h
  | y :: r, hp, hk, x, hx => by
    obtain ⟨h1, h2⟩ := List.pairwise_cons.1 hp
    rcases List.mem_cons.1 hx with rfl | hx'
    · rw [List.filter_cons]
      simp only [WideAt.sameKey_self (hk x List.mem_cons_self), Bool.not_true, Bool.false_eq_true, if_false]
      rw [List.filter_eq_self.2 (fun p hp' => by
        have : p.1.sameKey x.1 = false := sameKey_ne (Ne.symm (h1 p hp'))
        simp [this])]
    · have hne : y.1.sameKey x.1 = false := sameKey_ne (h1 x hx')
      rw [List.filter_cons]
      simp only [hne, Bool.not_false, if_true]
      exact ((perm_one h2 (fun p hp' => hk p (List.mem_cons_of_mem _ hp')) hx').cons y).trans (List.Perm.swap x y _)
section
variable {P : Program} {w w' : World} {k : TypeId} {b : Nat} {L L' : List (Lit × Value)}
theorem MapL.perm (h : MapL P w k b L) (hp : L.Perm L') : MapL P w k b L' := by
  obtain ⟨es, n, h1, h2⟩ := h
  exact ⟨es, n, h1, h2.trans (hp.map hE)⟩
theorem MapL.keep (h : MapL P w k b L) (hb : w'.heap[b]? = w.heap[b]?) : MapL P w' k b L := by
  obtain ⟨es, n, ⟨e1, c, h1, h2⟩, h3⟩ := h
  exact ⟨es, n, ⟨e1, c, hb.trans h1, h2⟩, h3⟩
theorem MapL.lt (h : MapL P w k b L) : b < w.heap.size := by
  obtain ⟨es, n, h1, _⟩ := h
  exact h1.lt
theorem MapL.fr {ex : Nat → Prop} (h : MapL P w k b L) (hf : Fr w w' ex) (hn : ¬ ex b) : MapL P w' k b L := h.keep (hf.block b h.lt hn)
theorem MapL.alloc (h : MapL P w k b L) (o : Obj) : MapL P (w.alloc o) k b L := h.keep (heap_alloc_old w o h.lt)
theorem MapL.is (h : MapL P w k b L) : ∃ es c, w.heap[b]? = some (.map es c) := by
  obtain ⟨_, _, ⟨e1, c, h1, _⟩, _⟩ := h
  exact ⟨e1, c, h1⟩
theorem MapL.ne_blk {g : Nat} {T : TypeId} {cs : Array Value} (h : MapL P w k b L) (hg : Blk w g T cs) : b ≠ g := fun e => by
  obtain ⟨es, c, h1⟩ := h.is
  rw [e, hg] at h1
  cases h1
theorem MapL.other (h : MapL P w k b L) {g : Nat} (hne : b ≠ g) (j : Nat) (v : Value) : MapL P (w.setCell ⟨g, j, none⟩ v) k b L := h.keep (Below.heap_setCell _ _ _ _ (fun e => hne e))
theorem MapL.made (P : Program) (w : World) (k : TypeId) : MapL P (w.alloc (.map #[] 0)) k w.heap.size [] := ⟨[], 0, World.ownsMap_made w P k heldE, List.Perm.refl _⟩
theorem MapL.apart (h : MapL P w k b L) (K : Keyed P k) : L.Pairwise (fun p q => p.1 ≠ q.1) ∧ ∀ p ∈ L, WideAt.IsKeyLit p.1 := by
  obtain ⟨es, n, h1, h2⟩ := h
  obtain ⟨es', e, h3, h4⟩ := h1.entries K
  injection e with e
  subst e
  have h5 : (L.map hE).Pairwise (fun p q => p.1 ≠ q.1) := (h2.pairwise_iff (fun {_ _} hne => Ne.symm hne)).1 h3
  refine ⟨?_, fun p hp => h4 (hE p) (h2.mem_iff.2 (List.mem_map_of_mem hp))⟩
  rw [List.pairwise_map] at h5
  exact h5
/-- At most as many as there are. -/
theorem MapL.owns (h : MapL P w k b L) : ∃ es, w.ownsMap P k heldE b L.length (.map es) ∧ es.Perm (L.map hE) := by
  obtain ⟨es, n, ⟨e1, c, h1, h2, h3, h4⟩, h5⟩ := h
  refine ⟨es, ⟨e1, c, h1, h2, ?_, h4⟩, h5⟩
  injection h4 with h4
  have e2 := h5.length_eq
  rw [h4, length_sorted] at e2
  simp at e2
  omega
theorem MapL.find (h : MapL P w k b L) (K : Keyed P k) {es : List (Lit × DataW Value)} (hp : es.Perm (L.map hE)) (kl : Lit) : es.find? (fun p => p.1.sameKey kl) = (L.find? fun p => p.1.sameKey kl).map hE := by
  have ha := (h.apart K).1
  have h5 : (L.map hE).Pairwise (fun p q => p.1 ≠ q.1) := by rw [List.pairwise_map]; exact ha
  have h6 : es.Pairwise (fun p q => p.1 ≠ q.1) := (hp.pairwise_iff (fun {_ _} hne => Ne.symm hne)).2 h5
  rw [find_one hp (fun a ha b hb fa fb => eq_of_key h6 ha hb ((WideAt.sameKey_eq fa).trans (WideAt.sameKey_eq fb).symm)), List.find?_map]
  rfl
theorem MapL.has (h : MapL P w k b L) (K : Keyed P k) {es : List (Lit × DataW Value)} (hp : es.Perm (L.map hE)) (kl : Lit) : Maps.has (.map es) kl = (atL L kl).isSome := by
  rw [has_eq]
  have := h.find K hp kl
  unfold atL
  cases hf : L.find? (fun p => p.1.sameKey kl) with
  | none =>
    rw [hf] at this
    have h0 := List.find?_eq_none.1 this
    simp only [Option.map_none, Option.isSome_none]
    rw [List.any_eq_false]
    exact h0
  | some x =>
    rw [hf] at this
    simp only [Option.map_some, Option.isSome_some]
    rw [List.any_eq_true]
    exact ⟨hE x, List.mem_of_find?_eq_some this, by simpa using List.find?_some this⟩
theorem MapL.atK (h : MapL P w k b L) (K : Keyed P k) {es : List (Lit × DataW Value)} (hp : es.Perm (L.map hE)) (kl : Lit) (z : Value) : (DataW.map es).atKey kl (.held z) = .held ((atL L kl).getD z) := by
  unfold DataW.atKey atL
  simp only
  rw [h.find K hp kl]
  cases L.find? (fun p => p.1.sameKey kl) with
  | none => rfl
  | some x => rfl
theorem MapL.look {t e : TypeId} (h : MapL P w k b L) (K : Keyed P k) (ht : P.underlying t = some (.map k e)) {z : Value} (hz : (zeroValue e).run P w = .ok z w) {key : Value} {kl : Lit} (hkey : keyOf P k key = some kl) :
    (Instr.lookup t (.map (some b)) key true).run P w = .ok (.tuple #[(atL L kl).getD z, .bool (atL L kl).isSome]) w ∧ (Instr.lookup t (.map (some b)) key false).run P w = .ok ((atL L kl).getD z) w := by
  have h' := h
  obtain ⟨es, n, h1, h2⟩ := h
  refine ⟨?_, ?_⟩
  · obtain ⟨v, ps, hrun, hv⟩ := h1.look_ok K ht hz (zd := .held z) (zp := []) rfl hkey
    rw [h'.atK K h2] at hv
    injection hv with hv
    injection hv with hv _
    injection hv with hv
    rw [hrun, h'.has K h2, hv]
  · obtain ⟨v, ps, hrun, hv⟩ := h1.lookup K ht hz (zd := .held z) (zp := []) rfl hkey
    rw [h'.atK K h2] at hv
    injection hv with hv
    injection hv with hv _
    injection hv with hv
    rw [hrun, hv]
theorem MapL.len {t e : TypeId} (h : MapL P w k b L) (ht : P.underlying t = some (.map k e)) (ty : TypeId) : (Builtin.len_ #[t] ty #[.map (some b)]).run P w = .ok (.int .i64 L.length) w := by
  obtain ⟨es, n, h1, h2⟩ := h
  rw [h1.len ht, size_eq, h2.length_eq, List.length_map]
theorem fr_turned {b : Nat} (h : w.mapTurned w' b) : Fr w w' (fun x => x = b) := by
  have g := h.grown
  exact ⟨g.os, g.tape, g.output, g.size, fun i hi hn => g.block i hi (fun e => hn (by injection e))⟩
theorem MapL.store {t e : TypeId} (h : MapL P w k b L) (K : Keyed P k) (ht : P.underlying t = some (.map k e)) (hn : L.length < maxLen) {key val : Value} {kl : Lit} (hkey : keyOf P k key = some kl) :
    ∃ w', (Instr.mapUpdate t (.map (some b)) key val).run P w = .ok () w' ∧ MapL P w' k b ((kl, val) :: butL L kl) ∧ Fr w w' (fun x => x = b) ∧ w'.heap.size = w.heap.size := by
  obtain ⟨es, h1, h2⟩ := h.owns
  obtain ⟨w', hrun, h3, h4⟩ := h1.store K ht hn (val := val) (d := .held val) (ps := []) hkey rfl
  refine ⟨w', hrun, ⟨_, _, h3, ?_⟩, fr_turned h4, ?_⟩
  · refine (perm_insert _ _).trans ?_
    show List.Perm _ (hE (kl, val) :: (butL L kl).map hE)
    refine List.Perm.cons _ ?_
    have := h2.filter (fun p => !p.1.sameKey kl)
    rw [List.filter_map] at this
    exact this
  · obtain ⟨_, _, _, _, _, rfl⟩ := h4
    simp [ChangeMaps.setBlock]
theorem MapL.drop {t e : TypeId} (h : MapL P w k b L) (K : Keyed P k) (ht : P.underlying t = some (.map k e)) {key : Value} {kl : Lit} (hkey : keyOf P k key = some kl) (ty : TypeId) :
    ∃ w', (Builtin.delete_ #[t, k] ty #[.map (some b), key]).run P w = .ok (.tuple #[]) w' ∧ MapL P w' k b (butL L kl) ∧ Fr w w' (fun x => x = b) ∧ w'.heap.size = w.heap.size := by
  obtain ⟨es, n, h1, h2⟩ := h
  obtain ⟨w', hrun, h3, h4⟩ := h1.drop K ht hkey ty
  refine ⟨w', hrun, ⟨_, _, h3, ?_⟩, fr_turned h4, ?_⟩
  · have := h2.filter (fun p => !p.1.sameKey kl)
    rw [List.filter_map] at this
    exact this
  · obtain ⟨_, _, _, _, _, rfl⟩ := h4
    simp [ChangeMaps.setBlock]
/-- A range over a map that holds L: these are still to come. -/
def RgL (P : Program) (w : World) (k : TypeId) (b r : Nat) (L todo : List (Lit × Value)) : Prop :=
  ∃ es n left cnt, w.ranges P k heldE b r n (.map es) left cnt ∧ es.Perm (L.map hE) ∧ todo.Perm (L.filter fun p => left p.1) ∧ cnt = w.rangeLeft b r
theorem RgL.map {r : Nat} {todo : List (Lit × Value)} (h : RgL P w k b r L todo) : MapL P w k b L := by
  obtain ⟨es, n, left, cnt, h1, h2, _⟩ := h
  exact ⟨es, n, h1.owns, h2⟩
theorem RgL.lt {r : Nat} {todo : List (Lit × Value)} (h : RgL P w k b r L todo) : r < w.heap.size := by
  obtain ⟨es, n, left, cnt, h1, h2, _⟩ := h
  exact h1.lt
theorem RgL.todo_perm {r : Nat} {todo todo' : List (Lit × Value)} (h : RgL P w k b r L todo) (hp : todo.Perm todo') : RgL P w k b r L todo' := by
  obtain ⟨es, n, left, cnt, h1, h2, h3, h4⟩ := h
  exact ⟨es, n, left, cnt, h1, h2, hp.symm.trans h3, h4⟩
theorem MapL.range {t e : TypeId} (h : MapL P w k b L) (K : Keyed P k) (ht : P.underlying t = some (.map k e)) :
    ∃ w', (Instr.range t (.map (some b))).run P w = .ok (.pointer (some ⟨w.heap.size, 0, none⟩)) w' ∧ RgL P w' k b w.heap.size L L ∧ Below w.heap.size w w' ∧ w'.heap.size = w.heap.size + 1 := by
  have h' := h
  obtain ⟨es, n, h1, h2⟩ := h
  obtain ⟨w', hrun, h3, h4, h5⟩ := h1.range K ht
  refine ⟨w', hrun, ⟨es, n, _, _, h3, h2, ?_, h3.left_eq.symm⟩, ⟨h4.os, h4.tape, h4.output, h4.size, fun q hq => h4.block q hq (by simp)⟩, h5⟩
  rw [List.filter_eq_self.2]
  intro p hp
  rw [h'.has K h2]
  unfold atL
  cases hf : L.find? (fun q => q.1.sameKey p.1) with
  | none => exact absurd (WideAt.sameKey_self ((h'.apart K).2 p hp)) (by simpa using List.find?_eq_none.1 hf p hp)
  | some x => rfl
theorem RgL.next {r : Nat} {todo : List (Lit × Value)} (h : RgL P w k b r L todo) (K : Keyed P k) (ty : TypeId) :
    (todo = [] ∧ (Instr.next (.pointer (some ⟨r, 0, none⟩)) false ty).run P w = .ok (.tuple #[.bool false]) w) ∨
    ∃ key v kl w' todo', keyOf P k key = some kl ∧ (kl, v) ∈ L ∧ todo.Perm ((kl, v) :: todo') ∧ (Instr.next (.pointer (some ⟨r, 0, none⟩)) false ty).run P w = .ok (.tuple #[.bool true, key, v]) w' ∧
      RgL P w' k b r L todo' ∧ w'.rangeLeft b r < w.rangeLeft b r ∧ Fr w w' (fun x => x = r) ∧ w'.heap.size = w.heap.size ∧ (Instr.entry (.pointer (some ⟨r, 0, none⟩))).run P w' = .ok (.tuple #[key, v]) w' := by
  have hm := h.map
  obtain ⟨es, n, left, cnt, h1, h2, h3, h4⟩ := h
  rcases h1.next K ty with ⟨h5, h6, h7⟩ | ⟨key, v, kl, y, w', cnt', g1, g2, g3, g4, g5, g6, g7, g8, g9, g10⟩
  · refine .inl ⟨?_, h7⟩
    rw [List.filter_eq_nil_iff.2 (fun p _ => by simp [h6])] at h3
    exact h3.eq_nil
  · injection g3 with g3
    have hy : (DataW.map es).atKey kl .nil = .held v := by rw [g4, ← g3]
    have hin : (kl, v) ∈ L := by
      unfold DataW.atKey at hy
      simp only at hy
      cases hf : es.find? (fun p => p.1.sameKey kl) with
      | none => rw [hf] at hy; cases hy
      | some x =>
        rw [hf] at hy
        have hx := List.mem_of_find?_eq_some hf
        have hk := WideAt.sameKey_eq (a := x.1) (b := kl) (by have := List.find?_some hf; simpa using this)
        obtain ⟨p, hp, rfl⟩ := List.mem_map.1 (h2.mem_iff.1 hx)
        obtain ⟨p1, p2⟩ := p
        simp only [hE] at hy hk
        injection hy with hy
        rw [← hk, ← hy]
        exact hp
    refine .inr ⟨key, v, kl, w', L.filter (fun p => left p.1 && !p.1.sameKey kl), g1, hin, ?_, g5, ⟨es, n, _, _, g6, h2, List.Perm.refl _, g6.left_eq.symm⟩, ?_, ⟨g8.os, g8.tape, g8.output, g8.size, fun i hi hn => g8.block i hi (fun e => hn (by injection e))⟩, g9, g10⟩
    · obtain ⟨a1, a2⟩ := hm.apart K
      have := perm_one (l := L.filter fun p => left p.1) (a1.filter _) (fun p hp => a2 p (List.mem_filter.1 hp).1) (x := (kl, v)) (List.mem_filter.2 ⟨hin, g2⟩)
      rw [List.filter_filter] at this
      refine h3.trans (this.trans (List.Perm.cons _ ?_))
      rw [List.filter_congr (fun p _ => Bool.and_comm _ _)]
    · rw [g6.left_eq, h1.left_eq]; exact g7
theorem RgL.fr {r : Nat} {todo : List (Lit × Value)} {ex : Nat → Prop} (h : RgL P w k b r L todo) (hf : Fr w w' ex) (hb : ¬ ex b) (hr : ¬ ex r) : RgL P w' k b r L todo := by
  have h0 := h.map.lt
  have h00 := h.lt
  obtain ⟨es, n, left, cnt, ⟨e1, c, s, sn, c0, h1, h5, h6, h7, h8, h9⟩, h2, h3, h4⟩ := h
  refine ⟨es, n, left, cnt, ⟨e1, c, s, sn, c0, (hf.block b h0 hb).trans h1, h5, h6, h7, (hf.block r h00 hr).trans h8, h9⟩, h2, h3, ?_⟩
  rw [h4]
  unfold World.rangeLeft
  rw [hf.block b h0 hb, hf.block r h00 hr]
end
theorem RgL.left_fr {P : Program} {w w' : World} {k : TypeId} {b : Nat} {L : List (Lit × Value)} {r : Nat} {todo : List (Lit × Value)} {ex : Nat → Prop} (h : RgL P w k b r L todo) (hf : Fr w w' ex) (hb : ¬ ex b) (hr : ¬ ex r) : w'.rangeLeft b r = w.rangeLeft b r := by
  unfold World.rangeLeft
  rw [hf.block b h.map.lt hb, hf.block r h.lt hr]
/-- The entries of things. -/
theorem RgL.nextF {P : Program} {w : World} {k : TypeId} {b r : Nat} {L : List (Lit × Value)} {α : Type} (f : α → Lit × Value) {T : List α} (h : RgL P w k b r L (T.map f)) (K : Keyed P k) (ty : TypeId) :
    (T = [] ∧ (Instr.next (.pointer (some ⟨r, 0, none⟩)) false ty).run P w = .ok (.tuple #[.bool false]) w) ∨
    ∃ x T' key w', keyOf P k key = some (f x).1 ∧ x ∈ T ∧ T.Perm (x :: T') ∧ (Instr.next (.pointer (some ⟨r, 0, none⟩)) false ty).run P w = .ok (.tuple #[.bool true, key, (f x).2]) w' ∧
      RgL P w' k b r L (T'.map f) ∧ w'.rangeLeft b r < w.rangeLeft b r ∧ Fr w w' (fun x => x = r) ∧ w'.heap.size = w.heap.size ∧ (Instr.entry (.pointer (some ⟨r, 0, none⟩))).run P w' = .ok (.tuple #[key, (f x).2]) w' := by
  rcases h.next K ty with ⟨h0, hrun⟩ | ⟨key, v, kl, w', todo', h1, h2, h3, hrun, h4, h5, h6, h7, h8⟩
  · exact .inl ⟨List.map_eq_nil_iff.1 h0, hrun⟩
  · obtain ⟨x, hx, e⟩ := List.mem_map.1 (h3.mem_iff.2 List.mem_cons_self)
    obtain ⟨s, t, rfl⟩ := List.append_of_mem hx
    have hp : (s ++ x :: t).Perm (x :: (s ++ t)) := List.perm_middle
    have e1 : kl = (f x).1 := by rw [e]
    have e2 : v = (f x).2 := by rw [e]
    subst e1 e2
    refine .inr ⟨x, s ++ t, key, w', h1, hx, hp, hrun, h4.todo_perm ?_, h5, h6, h7, h8⟩
    have := h3.symm.trans (hp.map f)
    exact List.Perm.cons_inv this
/-! At the operations. -/
section
variable {P : Program} (w : World) {ops : Array Oper} {rest : List Oper} {o : Oper} {a : Act} {Q : Exit → Act → World → Prop}
theorem wpL_range (hg : o.guard = none) (m : Operand) (t : TypeId) (hop : o.op = Op.range t m) (k e : TypeId) (K : Keyed P k) (ht : P.underlying t = some (.map k e)) (b : Nat) (L : List (Lit × Value))
    (hm : a.eval m = .map (some b)) (hown : MapL P w k b L)
    (hK : ∀ w', RgL P w' k b w.heap.size L L → Below w.heap.size w w' → w'.heap.size = w.heap.size + 1 → wpList P ops Q rest (a.put o.dst (.pointer (some ⟨w.heap.size, 0, none⟩))) w') :
    wpList P ops Q (o :: rest) a w := by
  refine wpList_plain hg fun K' hK' => ?_
  obtain ⟨w', hrun, r1, r2, r3⟩ := hown.range K ht
  unfold Oper.wp
  simp [execOp, hop, hm, hrun, Result.andThen]
  exact hK' _ _ (hK w' r1 r2 r3)
theorem wpL_next (hg : o.guard = none) (it : Operand) (hop : o.op = Op.next it false) (k : TypeId) (K : Keyed P k) (b r : Nat) (L todo : List (Lit × Value))
    (hit : a.eval it = .pointer (some ⟨r, 0, none⟩)) (h : RgL P w k b r L todo)
    (hDone : todo = [] → wpList P ops Q rest (a.put o.dst (.tuple #[.bool false])) w)
    (hMore : ∀ (key v : Value) (kl : Lit) (w' : World) (todo' : List (Lit × Value)), keyOf P k key = some kl → (kl, v) ∈ L → todo.Perm ((kl, v) :: todo') → RgL P w' k b r L todo' → w'.rangeLeft b r < w.rangeLeft b r →
      Fr w w' (fun x => x = r) → w'.heap.size = w.heap.size → (Instr.entry (.pointer (some ⟨r, 0, none⟩))).run P w' = .ok (.tuple #[key, v]) w' → wpList P ops Q rest (a.put o.dst (.tuple #[.bool true, key, v])) w') :
    wpList P ops Q (o :: rest) a w := by
  refine wpList_plain hg fun K' hK' => ?_
  unfold Oper.wp
  rcases h.next K o.type with ⟨h0, hrun⟩ | ⟨key, v, kl, w', todo', h1, h2, h3, hrun, h4, h5, h6, h7, h8⟩
  · simp [execOp, hop, hit, hrun, Result.andThen]
    exact hK' _ _ (hDone h0)
  · simp [execOp, hop, hit, hrun, Result.andThen]
    exact hK' _ _ (hMore key v kl w' todo' h1 h2 h3 h4 h5 h6 h7 h8)
theorem wpL_nextF {α : Type} (f : α → Lit × Value) (kv vv : α → Value) (hvv : ∀ x, (f x).2 = vv x) (hg : o.guard = none) (it : Operand) (hop : o.op = Op.next it false) (k : TypeId) (K : Keyed P k) (hkv : ∀ x key, keyOf P k key = some (f x).1 → key = kv x) (b r : Nat) (L : List (Lit × Value)) (T : List α)
    (hit : a.eval it = .pointer (some ⟨r, 0, none⟩)) (h : RgL P w k b r L (T.map f))
    (hDone : T = [] → wpList P ops Q rest (a.put o.dst (.tuple #[.bool false])) w)
    (hMore : ∀ (x : α) (T' : List α) (w' : World), x ∈ T → T.Perm (x :: T') → RgL P w' k b r L (T'.map f) → w'.rangeLeft b r < w.rangeLeft b r →
      Fr w w' (fun x => x = r) → w'.heap.size = w.heap.size → (Instr.entry (.pointer (some ⟨r, 0, none⟩))).run P w' = .ok (.tuple #[kv x, vv x]) w' → wpList P ops Q rest (a.put o.dst (.tuple #[.bool true, kv x, vv x])) w') :
    wpList P ops Q (o :: rest) a w := by
  refine wpList_plain hg fun K' hK' => ?_
  unfold Oper.wp
  rcases h.nextF f K o.type with ⟨h0, hrun⟩ | ⟨x, T', key, w', h1, h2, h3, hrun, h4, h5, h6, h7, h8⟩
  · simp [execOp, hop, hit, hrun, Result.andThen]
    exact hK' _ _ (hDone h0)
  · obtain rfl := hkv x key h1
    rw [hvv] at hrun h8
    simp [execOp, hop, hit, hrun, Result.andThen]
    exact hK' _ _ (hMore x T' w' h2 h3 h4 h5 h6 h7 h8)
theorem wpL_update (hg : o.guard = none) (m x v : Operand) (t : TypeId) (hop : o.op = Op.mapUpdate t m x v) (k e : TypeId) (K : Keyed P k) (ht : P.underlying t = some (.map k e)) (b : Nat) (L : List (Lit × Value))
    (hm : a.eval m = .map (some b)) (hown : MapL P w k b L) (hn : L.length < maxLen) (key val : Value) (kl : Lit) (hx : a.eval x = key) (hv : a.eval v = val) (hkey : keyOf P k key = some kl)
    (hK : ∀ w', MapL P w' k b ((kl, val) :: butL L kl) → Fr w w' (fun x => x = b) → w'.heap.size = w.heap.size → wpList P ops Q rest (a.put o.dst undef) w') :
    wpList P ops Q (o :: rest) a w := by
  refine wpList_plain hg fun K' hK' => ?_
  obtain ⟨w', hrun, r1, r2, r3⟩ := hown.store K ht hn (val := val) hkey
  unfold Oper.wp
  simp [execOp, hop, hm, hx, hv, hrun, Result.andThen]
  exact hK' _ _ (hK w' r1 r2 r3)
theorem wpL_delete (hg : o.guard = none) (m x : Operand) (t k : TypeId) (hop : o.op = Op.call { callee := Callee.builtin Builtin.delete, args := #[m, x], argTypes := #[t, k] })
    (e : TypeId) (K : Keyed P k) (ht : P.underlying t = some (.map k e)) (b : Nat) (L : List (Lit × Value))
    (hm : a.eval m = .map (some b)) (hown : MapL P w k b L) (key : Value) (kl : Lit) (hx : a.eval x = key) (hkey : keyOf P k key = some kl)
    (hK : ∀ w', MapL P w' k b (butL L kl) → Fr w w' (fun x => x = b) → w'.heap.size = w.heap.size → wpList P ops Q rest (a.put o.dst (.tuple #[])) w') :
    wpList P ops Q (o :: rest) a w := by
  refine wpList_plain hg fun K' hK' => ?_
  obtain ⟨w', hrun, r1, r2, r3⟩ := hown.drop K ht hkey o.type
  unfold Oper.wp
  simp [execOp, hop, resolve, invoke, builtin, hm, hx, hrun, Result.andThen]
  exact hK' _ _ (hK w' r1 r2 r3)
end
/-- A text as a key. -/
def sK (s : ByteArray) : Lit := .string s.data.toList
theorem sK_inj {s t : ByteArray} (h : sK s = sK t) : s = t := by
  unfold sK at h
  injection h with h
  cases s; cases t
  simp at h
  rw [h]
theorem keyS {P : Program} {k : TypeId} (hk : P.underlying k = some .string) {s : ByteArray} (h : s.size ≤ maxLen) : keyOf P k (.string s) = some (sK s) := by
  simp [keyOf, hk, mapKey, h, sK]
theorem keyS_inv {P : Program} {k : TypeId} (hk : P.underlying k = some .string) {key : Value} {kl : Lit} (h : keyOf P k key = some kl) : ∃ s, key = .string s ∧ kl = sK s ∧ s.size ≤ maxLen := by
  cases key <;> simp [keyOf, hk, mapKey] at h
  obtain ⟨hw, rfl⟩ := h
  exact ⟨_, rfl, rfl, hw⟩
end Go.Proofs.Ytdncemecnbglaaa
