/-
  turned: bytes of one's own are written over, and gathered.
-/
import Derived.Test.YtnnfepapnimlcabDoorOwn
import Derived.OwnWalk
import Derived.Maps.AppendAt
import Derived.Laws.OwnMore
import Derived.BigRegion
namespace Go.Proofs.YtnnfepapnimlcabDoor
set_option linter.unusedVariables false
open Go.RowKit

/-- All blocks that were there stay, but g. -/
structure Apart (g : Nat) (w w' : World) : Prop where
  os : w'.os = w.os
  tape : w'.tape = w.tape
  output : w'.output = w.output
  size : w.heap.size ≤ w'.heap.size
  block : ∀ k, k < w.heap.size → k ≠ g → w'.heap[k]? = w.heap[k]?
theorem Apart.refl (g : Nat) (w : World) : Apart g w w := ⟨rfl, rfl, rfl, Nat.le_refl _, fun _ _ _ => rfl⟩
theorem Apart.below {g B : Nat} {w w' : World} (h : Apart g w w') (hB : B ≤ w.heap.size) (hg : B ≤ g) : Below B w w' := ⟨h.os, h.tape, h.output, h.size, fun k hk => h.block k (by omega) (by omega)⟩
theorem Apart.alloc {g : Nat} {w w' : World} (h : Apart g w w') (o : Obj) : Apart g w (w'.alloc o) :=
  ⟨h.os, h.tape, h.output, Nat.le_trans h.size (by simp), fun k hk hg => (Below.heap_alloc _ _ _ (by have := h.size; omega)).trans (h.block k hk hg)⟩
theorem Apart.set {g : Nat} {w w' : World} (h : Apart g w w') (k : Nat) (v : Value) : Apart g w (w'.setCell ⟨g, k, none⟩ v) :=
  ⟨h.os, h.tape, h.output, Nat.le_trans h.size (by simp), fun j hj hg => (Below.heap_setCell _ _ _ _ hg).trans (h.block j hj hg)⟩
theorem Apart.grown {g : Nat} {a w w' : World} {row : Option Nat} (h : Apart g a w) (hg : w.grownBy w' row) (hr : ∀ k, row = some k → a.heap.size ≤ k) : Apart g a w' :=
  ⟨hg.os.trans h.os, hg.tape.trans h.tape, hg.output.trans h.output, Nat.le_trans h.size hg.size, fun k hk hne => (hg.block k (by have := h.size; omega) (fun e => by have := hr k e.symm; omega)).trans (h.block k hk hne)⟩
theorem Apart.drew {g : Nat} {w w' : World} (h : Apart g w w') : Apart g w w'.drew := ⟨h.os, h.tape, h.output, h.size, h.block⟩

/-- What turned has gathered. -/
def bytesUp (f : Nat → Nat) (k : Nat) : List Value := (List.range k).map fun j => .int .u8 (((f j + 1) % 256 : Nat) : Int)
def upD (f : Nat → Nat) (k : Nat) : Nat → Nat := fun j => if j < k then (f j + 1) % 256 else f j
theorem bytesUp_succ (f : Nat → Nat) (k : Nat) : bytesUp f (k + 1) = bytesUp f k ++ [.int .u8 (((f k + 1) % 256 : Nat) : Int)] := by simp [bytesUp, List.range_succ]

set_option maxRecDepth 100000 in
set_option maxHeartbeats 400000 in
theorem turned_any (g n : Nat) (f : Nat → Nat) (w : World) (hn : n ≤ 140737488351232) (ho : OwnA w g (n + 8) f) :
    Calls Tryd.prog 31 #[.slice (some ⟨g, 0, none⟩) n (n + 8)] w fun e w' => ∃ v, e = .returned v ∧ w'.ownsRow w.heap.size 5 1 v n (bytesUp f n) ∧ OwnA w' g (n + 8) (upD f n) ∧ Apart g w w' := by
  obtain ⟨i0, hi, hz0, hz1, hz2⟩ := info_parts info5
  have HG : Hid (g < w.heap.size) := ho.lt
  have HO : Hid (OwnA w g (n + 8) f) := ho
  clear ho
  go_enter Tryd.func31, Tryd.ntmps31
  go_wp2
  go_loopw [3, 4] (fun v i wr => ∃ (k : Nat) (ao : Option Addr) (cv : Nat), k ≤ n ∧ i = .int .i64 k ∧ v = .slice ao k cv ∧ wr.ownsRow w.heap.size 5 1 v k (bytesUp f k) ∧ OwnA wr g (n + 8) (upD f k) ∧ Apart g w wr) (fun _ i _ => n - (intOf i).toNat)
  case atStart => exact ⟨0, none, 0, Nat.zero_le _, rfl, rfl, World.ownsRow_nil _ _ _ _, HO.out.ext fun j hj => by simp [upD], Apart.refl _ _⟩
  case round =>
    obtain ⟨k, ao, cv, hk, rfl, rfl, hown, ho, hap⟩ := hrel
    have HA : Hid (OwnA wr g (n + 8) (upD f k) ∧ Apart g w wr) := ⟨ho, hap⟩
    clear HO
    by_cases hlt : k < n
    · have hlt' : (k : Int) < (n : Int) := by omega
      have hc := ho.cell k (by omega)
      rw [show upD f k k = f k by simp [upD]] at hc
      have hf := ho.froz k
      have HV : Hid (f k < 256) := by
        have h := ho.val k (by omega)
        rw [show upD f k k = f k by simp [upD]] at h
        exact h
      clear ho hap
      have hB : Hid (w.heap.size ≤ wr.heap.size) := HA.out.2.size
      have hown2 : Hid ((wr.setCell ⟨g, k, none⟩ (.int .u8 (((f k : Int) + 1) % 256))).ownsRow w.heap.size 5 1 (.slice ao k cv) k (bytesUp f k)) := ownsRow_setCell_below hown HG.out _
      have hlt2 : Hid (∀ q, (Value.slice ao k cv).ownBlock = some q → w.heap.size ≤ q) := fun q hq => (hown.lt q hq).1
      clear hown
      have hnew : Hid (∀ j u, [Value.int .u8 (((f k : Int) + 1) % 256)][j]? = some u → ((wr.setCell ⟨g, k, none⟩ (.int .u8 (((f k : Int) + 1) % 256))).alloc (.cells #[.int .u8 (((f k : Int) + 1) % 256)] 5)).cell? ((⟨wr.heap.size, 0, none⟩ : Addr).add j) = some u) := by
        have h := cell_one_new (wr.setCell ⟨g, k, none⟩ (.int .u8 (((f k : Int) + 1) % 256))) (.int .u8 (((f k : Int) + 1) % 256)) 5
        rw [show (wr.setCell ⟨g, k, none⟩ (.int .u8 (((f k : Int) + 1) % 256))).heap.size = wr.heap.size by simp] at h
        exact h
      go_wp2_with (at_builtin; refine wpList_append_own _ rfl _ _ 29 rfl w.heap.size 5 i0 (.int .u8 0) 1 1 Tryd.underlying29 hi hz0 hz1 hz2 rfl (by decide) _ k (bytesUp f k) rfl (hown2.out.alloc _) ⟨wr.heap.size, 0, none⟩ 1 1 [.int .u8 (((f k : Int) + 1) % 256)] rfl rfl hnew.out (fun x hx => by simp at hx; subst hx; rfl) (by unfold maxLen; omega) (by omega) (by have := hB.out; simp; omega) ?_; intro v' w3 hown' hgrow3 hnil3)
      have hg3 : ((wr.setCell ⟨g, k, none⟩ (.int .u8 (((f k : Int) + 1) % 256))).alloc (.cells #[.int .u8 (((f k : Int) + 1) % 256)] 5)).grownBy w3 (Value.slice ao k cv).ownBlock := hgrow3
      have e1 : ((f k : Int) + 1) % 256 = (((f k + 1) % 256 : Nat) : Int) := by simp
      rw [e1] at hg3 hown'
      rw [← bytesUp_succ] at hown'
      obtain ⟨a3, c3, rfl⟩ : ∃ a3 c3, v' = .slice a3 (k + 1) c3 := by
        rcases hown'.2 with ⟨_, h⟩ | ⟨g3, cap3, _, h, _⟩
        · omega
        · exact ⟨_, _, h⟩
      have hs := HA.out.1.set k ((f k + 1) % 256) (by omega) (Nat.mod_lt _ (by decide))
      refine ⟨⟨k + 1, a3, c3, by omega, by go_num, rfl, hown', ?_, ((HA.out.2.set k _).alloc _).grown hg3 hlt2.out⟩, by simp [intOf]; omega⟩
      have hkeep : w3.heap[g]? = (wr.setCell ⟨g, k, none⟩ (.int .u8 (((f k + 1) % 256 : Nat) : Int))).heap[g]? :=
        (hg3.block g (by have := hs.lt; simp at this ⊢; omega) (fun e => by have := hlt2.out g e.symm; have := HG.out; omega)).trans (Below.heap_alloc _ _ _ hs.lt)
      refine (hs.keep hkeep).ext fun j hj => ?_
      unfold upD
      by_cases e : j = k
      · rw [if_pos e, if_pos (by omega), e]
      · rw [if_neg e]
        by_cases e2 : j < k
        · rw [if_pos e2, if_pos (by omega)]
        · rw [if_neg e2, if_neg (by omega)]
    · obtain rfl : k = n := by omega
      clear ho hap
      have HW : Hid (wr.ownsRow w.heap.size 5 1 (.slice ao k cv) k (bytesUp f k)) := hown
      clear hown
      go_wp2
      go_ret
      exact ⟨_, rfl, HW.out, HA.out.1, HA.out.2⟩
end Go.Proofs.YtnnfepapnimlcabDoor
