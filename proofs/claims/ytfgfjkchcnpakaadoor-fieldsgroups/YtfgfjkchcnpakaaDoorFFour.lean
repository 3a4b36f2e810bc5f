/-
  Three lists of bytes of one's own, and one that is only read, apart from one another.
-/
import Derived.Test.YtfgfjkchcnpakaaDoorFLawBack
import Derived.Test.YtfgfjkchcnpakaaDoorFRefJoin
import Derived.Test.YtfgfjkchcnpakaaDoorFLent
namespace Go.Proofs.YtfgfjkchcnpakaaDoor
set_option linter.unusedVariables false
open Go.RowKit

def Ap (a b : Value) : Prop := ∀ k, a.ownBlock = some k → b.ownBlock ≠ some k
theorem Ap.symm {a b : Value} (h : Ap a b) : Ap b a := fun k hk e => h k e hk
theorem SrcB.of_block {w w' : World} {v : Value} {l : List UInt8} (h : SrcB w v l) (hk : ∀ k, v.ownBlock = some k → w'.heap[k]? = w.heap[k]?) : SrcB w' v l := by
  obtain ⟨ao, cap, rfl, hc, h⟩ := h
  refine ⟨ao, cap, rfl, hc, ?_⟩
  rcases h with h | ⟨b, off, rfl, h⟩
  · exact .inl h
  · exact .inr ⟨b, off, rfl, fun j c hj => by rw [World.cell?_of_block (w := w) (hk b rfl)]; exact h j c hj⟩
structure T4 (w0 wr : World) (v1 : Value) (l1 : List UInt8) (v2 : Value) (l2 : List UInt8) (v3 : Value) (l3 : List UInt8) (vc : Value) (lc : List UInt8) : Prop where
  bel : Below w0.heap.size w0 wr
  o1 : OwnB wr w0.heap.size v1 l1
  o2 : OwnB wr w0.heap.size v2 l2
  o3 : OwnB wr w0.heap.size v3 l3
  oc : SrcB wr vc lc
  a12 : Ap v1 v2
  a13 : Ap v1 v3
  a23 : Ap v2 v3
  a1c : Ap v1 vc
  a2c : Ap v2 vc
  a3c : Ap v3 vc
  ltc : ∀ k, vc.ownBlock = some k → k < wr.heap.size
theorem T4.rot {w0 wr : World} {v1 : Value} {l1 : List UInt8} {v2 : Value} {l2 : List UInt8} {v3 : Value} {l3 : List UInt8} {vc : Value} {lc : List UInt8} (h : T4 w0 wr v1 l1 v2 l2 v3 l3 vc lc) : T4 w0 wr v2 l2 v3 l3 v1 l1 vc lc :=
  ⟨h.bel, h.o2, h.o3, h.o1, h.oc, h.a23, h.a12.symm, h.a13.symm, h.a2c, h.a3c, h.a1c, h.ltc⟩
theorem T4.drew {w0 wr : World} {v1 : Value} {l1 : List UInt8} {v2 : Value} {l2 : List UInt8} {v3 : Value} {l3 : List UInt8} {vc : Value} {lc : List UInt8} (h : T4 w0 wr v1 l1 v2 l2 v3 l3 vc lc) (q : Nat) : T4 w0 (wr.drewN q) v1 l1 v2 l2 v3 l3 vc lc := by
  have hb : Below wr.heap.size wr (wr.drewN q) := below_drewN (Below.refl _ wr) q
  exact ⟨below_drewN h.bel q, h.o1.below hb, h.o2.below hb, h.o3.below hb, h.oc.below hb, h.a12, h.a13, h.a23, h.a1c, h.a2c, h.a3c, h.ltc⟩
theorem T4.set {w0 wr : World} {g c : Nat} {l1 : List UInt8} {v2 : Value} {l2 : List UInt8} {v3 : Value} {l3 : List UInt8} {vc : Value} {lc : List UInt8} (h : T4 w0 wr (.slice (some ⟨g, 0, none⟩) l1.length c) l1 v2 l2 v3 l3 vc lc) (i : Nat) (x : UInt8) :
    T4 w0 (wr.setCell ⟨g, i, none⟩ (.int .u8 (x.toNat : Int))) (.slice (some ⟨g, 0, none⟩) (l1.set i x).length c) (l1.set i x) v2 l2 v3 l3 vc lc := by
  have hk : ∀ v : Value, Ap (.slice (some ⟨g, 0, none⟩) l1.length c) v → ∀ k, v.ownBlock = some k → (wr.setCell ⟨g, i, none⟩ (.int .u8 (x.toNat : Int))).heap[k]? = wr.heap[k]? := fun v ha k hk => by
    rw [Below.heap_setCell]
    intro e
    have e' : k = g := e
    subst e'
    exact ha k rfl hk
  refine ⟨h.bel.setCell ?_ _, h.o1.set i x, ownsRow_of_block h.o2 (hk _ h.a12), ownsRow_of_block h.o3 (hk _ h.a13), h.oc.of_block (hk _ h.a1c), h.a12, h.a13, h.a23, h.a1c, h.a2c, h.a3c, fun k hk => by simpa using h.ltc k hk⟩
  exact (h.o1.lt g rfl).1
theorem T4.app {w0 wr w' : World} {v1 : Value} {l1 : List UInt8} {v2 : Value} {l2 : List UInt8} {v3 : Value} {l3 : List UInt8} {vc : Value} {lc : List UInt8} (h : T4 w0 wr v1 l1 v2 l2 v3 l3 vc lc) (x : UInt8) (g cap : Nat)
    (ho : w'.ownsRow w0.heap.size 5 1 (.slice (some ⟨g, 0, none⟩) (l1.length + 1) cap) (l1.length + 1) (bcs l1 ++ [.int .u8 (x.toNat : Int)])) (hg : (wr.alloc (.cells #[.int .u8 (x.toNat : Int)] 5)).grownBy w' v1.ownBlock) (hat : v1.ownBlock = some g ∨ g = (wr.alloc (.cells #[.int .u8 (x.toNat : Int)] 5)).heap.size) :
    T4 w0 w' (.slice (some ⟨g, 0, none⟩) (l1 ++ [x]).length cap) (l1 ++ [x]) v2 l2 v3 l3 vc lc := by
  have hsz : (wr.alloc (.cells #[.int .u8 (x.toNat : Int)] 5)).heap.size = wr.heap.size + 1 := by simp
  have hb0 : Below wr.heap.size wr (wr.alloc (.cells #[.int .u8 (x.toNat : Int)] 5)) := (Below.refl _ wr).alloc (Nat.le_refl _) _
  have hk : ∀ v : Value, Ap v1 v → (∀ k, v.ownBlock = some k → k < wr.heap.size) → ∀ k, v.ownBlock = some k → w'.heap[k]? = wr.heap[k]? := fun v ha hl k hk => by
    have h1 := hl k hk
    rw [hg.block k (by omega) (fun e => ha k e.symm hk), hb0.block k h1]
  have ha : ∀ v : Value, Ap v1 v → (∀ k, v.ownBlock = some k → k < wr.heap.size) → Ap (.slice (some ⟨g, 0, none⟩) (l1 ++ [x]).length cap) v := fun v ha hl k hk e => by
    have e1 : g = k := by simpa [Value.ownBlock] using hk
    subst e1
    rcases hat with hat | hat
    · exact ha g hat e
    · have := hl g e; omega
  have l2' := fun k hk => (h.o2.lt k hk).2
  have l3' := fun k hk => (h.o3.lt k hk).2
  refine ⟨?_, ?_, ownsRow_of_block h.o2 (hk _ h.a12 l2'), ownsRow_of_block h.o3 (hk _ h.a13 l3'), h.oc.of_block (hk _ h.a1c h.ltc), ha _ h.a12 l2', ha _ h.a13 l3', h.a23, ha _ h.a1c h.ltc, h.a2c, h.a3c, fun k hk => ?_⟩
  · exact grow_ok (World.ownsRow.alloc h.o1 _) hg (h.bel.alloc h.bel.size _) (Nat.le_refl _)
  · unfold OwnB
    rw [bcs_app, List.length_append]
    exact ho
  · have := h.ltc k hk
    have h2 := hg.size
    omega
/-- So many at the head written over. -/
def fillL (l : List UInt8) (c : UInt8) (k : Nat) : List UInt8 := List.replicate k c ++ l.drop k
theorem fillL_length (l : List UInt8) (c : UInt8) (k : Nat) (h : k ≤ l.length) : (fillL l c k).length = l.length := by simp [fillL]; omega
theorem fillL_zero (l : List UInt8) (c : UInt8) : fillL l c 0 = l := by simp [fillL]
theorem fillL_set (l : List UInt8) (c : UInt8) (k : Nat) (h : k < l.length) : (fillL l c k).set k c = fillL l c (k + 1) := by
  unfold fillL
  rw [List.set_append, if_neg (by simp), List.drop_eq_getElem_cons h, List.length_replicate, Nat.sub_self, List.set_cons_zero, List.replicate_succ']
  simp
theorem fillL_all (l : List UInt8) (c : UInt8) : fillL l c l.length = List.replicate l.length c := by simp [fillL]
def joinB (fs : List Fld) : List UInt8 := match joinL fs with | .ok l => l | .error _ => []
def joinE (fs : List Fld) : Int := match joinL fs with | .ok _ => 0 | .error e => e
theorem JoinRet.one {fs : List Fld} {w w' : World} {x : Ending} (h : JoinRet (joinL fs) w x w') : ∃ v, x = .returned (.tuple #[v, .int .i64 (joinE fs)]) ∧ OwnB w' w.heap.size v (joinB fs) ∧ Below w.heap.size w w' := by
  obtain ⟨hb, h⟩ := h
  unfold joinB joinE
  cases hj : joinL fs with
  | ok l => rw [hj] at h; obtain ⟨v, h1, h2⟩ := h; exact ⟨v, h1, h2, hb⟩
  | error e => rw [hj] at h; exact ⟨_, h, World.ownsRow_nil _ _ _ _, hb⟩
theorem RefJoinRet.one {fs : List Fld} {w w' : World} {x : Ending} (h : RefJoinRet (joinL fs) w x w') : ∃ v, x = .returned (.tuple #[v, .int .i64 (joinE fs)]) ∧ SrcB w' v (joinB fs) ∧ (∀ k, v.ownBlock = some k → w.heap.size ≤ k ∧ k < w'.heap.size) ∧ Below w.heap.size w w' := by
  obtain ⟨hb, h⟩ := h
  unfold joinB joinE
  cases hj : joinL fs with
  | ok l => rw [hj] at h; obtain ⟨v, h1, h2, h3⟩ := h; exact ⟨v, h1, h2, h3, hb⟩
  | error e => rw [hj] at h; exact ⟨_, h, ⟨none, 0, rfl, Nat.le_refl _, .inl rfl⟩, (fun k hk => by cases hk), hb⟩
theorem joinB_len (fs : List Fld) : (joinB fs).length ≤ 1024 := by
  unfold joinB
  cases hj : joinL fs with
  | ok l => exact (join_len hj).2
  | error e => exact Nat.zero_le _

theorem T4.fill {w0 wr : World} {g c n k : Nat} {x : UInt8} {l : List UInt8} {v2 : Value} {l2 : List UInt8} {v3 : Value} {l3 : List UInt8} {vc : Value} {lc : List UInt8} (h : T4 w0 wr (.slice (some ⟨g, 0, none⟩) n c) (fillL l x k) v2 l2 v3 l3 vc lc) (hn : n = l.length) (hk : k < n) :
    T4 w0 (wr.setCell ⟨g, k, none⟩ (.int .u8 (x.toNat : Int))) (.slice (some ⟨g, 0, none⟩) n c) (fillL l x (k + 1)) v2 l2 v3 l3 vc lc := by
  subst hn
  have e1 := fillL_length l x k (by omega)
  have e2 := fillL_length l x (k + 1) (by omega)
  rw [← e1] at h
  have h2 := h.set k x
  rw [fillL_set l x k hk, e2] at h2
  exact h2
theorem T4.cell {w0 wr : World} {g c n : Nat} {l : List UInt8} {v2 : Value} {l2 : List UInt8} {v3 : Value} {l3 : List UInt8} {vc : Value} {lc : List UInt8} (h : T4 w0 wr (.slice (some ⟨g, 0, none⟩) n c) l v2 l2 v3 l3 vc lc) (hn : n = l.length) (k : Nat) (hk : k < n) :
    ∃ y : UInt8, l[k]? = some y ∧ wr.cell? ⟨g, k, none⟩ = some (.int .u8 (y.toNat : Int)) ∧ wr.frozen? ⟨g, k, none⟩ = false := by
  subst hn
  obtain ⟨a, b⟩ := h.o1.cell k hk
  exact ⟨l[k], List.getElem?_eq_getElem hk, a, b⟩
theorem T4.grow {w0 wr w' : World} {n g cap : Nat} {x : UInt8} {v1 v2 : Value} {l2 : List UInt8} {v3 : Value} {l3 : List UInt8} {vc : Value} {lc : List UInt8} (h : T4 w0 wr v1 (List.replicate n x) v2 l2 v3 l3 vc lc)
    (ho : w'.ownsRow w0.heap.size 5 1 (.slice (some ⟨g, 0, none⟩) (n + 1) cap) (n + 1) (bcs (List.replicate n x) ++ [.int .u8 (x.toNat : Int)])) (hg : (wr.alloc (.cells #[.int .u8 (x.toNat : Int)] 5)).grownBy w' v1.ownBlock) (hat : v1.ownBlock = some g ∨ g = (wr.alloc (.cells #[.int .u8 (x.toNat : Int)] 5)).heap.size) :
    T4 w0 w' (.slice (some ⟨g, 0, none⟩) (n + 1) cap) (List.replicate (n + 1) x) v2 l2 v3 l3 vc lc := by
  have e : (List.replicate n x).length = n := List.length_replicate
  have h2 := h.app x g cap (by rw [e]; exact ho) hg hat
  rw [List.length_append, e, ← List.replicate_succ'] at h2
  exact h2
theorem T4.addr {w0 wr : World} {ao : Option Addr} {c n : Nat} {l : List UInt8} {v2 : Value} {l2 : List UInt8} {v3 : Value} {l3 : List UInt8} {vc : Value} {lc : List UInt8} (h : T4 w0 wr (.slice ao n c) l v2 l2 v3 l3 vc lc) (hn : 0 < n) : ∃ g, ao = some ⟨g, 0, none⟩ ∧ n ≤ c := by
  rcases h.o1.2 with ⟨e, h0⟩ | ⟨g, cap, cur, e, _, _, r3, _⟩
  · injection e with _ e2 _; omega
  · injection e with e1 e2 e3; exact ⟨g, e1, by omega⟩
end Go.Proofs.YtfgfjkchcnpakaaDoor
