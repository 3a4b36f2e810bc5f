/-
  auction: rowOf.
-/
import Derived.Test.YtbhddfcdnpidkaaV16T
namespace Go.Proofs.Ytbhddfcdnpidkaa
set_option linter.unusedVariables false
set_option linter.unusedSimpArgs false
open Go.RowKit Go.Great

set_option maxRecDepth 100000 in
theorem SortStable_any (s : Int) (sb : Nat) (D : List Wn) (a : Option Addr) (c : Nat) (w : World) (h : RowAt w 69 4 (.slice a D.length c) D.length (flatL wL D)) (hb : Blk w sb 3 #[.int .i64 s]) (hne : ∀ q, (Value.slice a D.length c).ownBlock = some q → sb ≠ q) (hl : D.length ≤ 1152921504606846976) :
    Calls Try.prog 46 #[.slice a D.length c, .func (.func 60) #[] #[.pointer (some ⟨sb, 0, none⟩)]] w fun e w' => e = .returned (.tuple #[]) ∧ Hid (∃ net : List Wn, RowAt w' 69 4 (.slice a D.length c) net.length (flatL wL net) ∧ net.Perm D ∧ net.Pairwise (fun a b => ¬ ltW s b a) ∧ Fr w w' (fun b => (Value.slice a D.length c).ownBlock = some b) ∧ StW s D net) := by
  have hc := stableWT_any s sb D (.slice a D.length c) w h hb hne hl
  clear h hne hb
  generalize hX : (fun (e : Ending) (w' : World) => e = .returned (.tuple #[]) ∧ Hid (∃ net : List Wn, RowAt w' 69 4 (.slice a D.length c) net.length (flatL wL net) ∧ net.Perm D ∧ net.Pairwise (fun a b => ¬ ltW s b a) ∧ Fr w w' (fun b => (Value.slice a D.length c).ownBlock = some b) ∧ StW s D net)) = X at *
  have HX : Hid (∀ e w', X e w' → e = .returned (.tuple #[]) ∧ X (.returned (.tuple #[])) w') := fun e w' hx => by
    rw [← hX] at hx ⊢
    exact ⟨hx.1, rfl, hx.2⟩
  clear hX
  generalize D.length = n at *
  go_enter Try.func46, Try.ntmps46
  go_wp2_with (go_at_call 59; fail)
  refine hc.mono ?_
  intro e w1 hx
  obtain ⟨rfl, hx1⟩ := HX.out e w1 hx
  clear hx hc
  have HX1 : Hid (X (.returned (.tuple #[])) w1) := hx1
  clear hx1 HX
  go_wp2
  go_end0
  exact HX1.out
theorem ahead_any (s : Int) (w : World) : Calls Try.prog 47 #[.int .i64 s] w fun e w' => e = .returned (.func (.func 60) #[] #[.pointer (some ⟨w.heap.size, 0, none⟩)]) ∧ w' = w.alloc (.cells #[.int .i64 s] 3) := by
  go_enter Try.func47, Try.ntmps47
  go_wp2
  go_ret
  exact ⟨rfl, rfl⟩
/-- A row in order. -/
structure RO (s : Int) (w W : World) (v : Value) (l : List Od) (R : List Wn) : Prop where
  co : CO w W v R
  perm : R.Perm (wns l)
  srt : R.Pairwise (fun a b => ¬ ltW s b a)
  stb : StW s (wns l) R
set_option maxRecDepth 100000 in
set_option maxHeartbeats 1000000 in
theorem rowOf_any {w : World} {l : List Od} {a : Option Addr} {c : Nat} (s : Int) (hr : RowAt w 42 15 (.slice a l.length c) l.length (flatL (fun o => o.cs.toList) l)) (hok : ∀ o ∈ l, o.ok) (hl : l.length ≤ 4398046511104) :
    Calls Try.prog 26 #[.slice a l.length c, .int .i64 s] w fun e w' => ∃ v, e = .returned v ∧ Hid (∃ R, RO s w w' v l R) := by
  have h1 := counted_any hr hok hl
  have HL : Hid ((wns l).length ≤ 4398046511104) := Nat.le_trans (List.length_filterMap_le _ _) hl
  generalize l.length = n at *
  clear hr hok hl
  go_enter Try.func26, Try.ntmps26
  go_wp2_with (go_at_call 32; fail)
  refine h1.mono ?_
  clear h1
  rintro e w1 ⟨v1, rfl, H1⟩
  obtain ⟨a1, c1, rfl⟩ := H1.out.form
  go_wp2_with (go_at_call 47; fail)
  refine (ahead_any s w1).mono ?_
  rintro e w2 ⟨rfl, hw2⟩
  have H2 : Hid (CO w w2 (.slice a1 (wns l).length c1) (wns l) ∧ Blk w2 w1.heap.size 3 #[.int .i64 s] ∧ ∀ q, (Value.slice a1 (wns l).length c1).ownBlock = some q → w1.heap.size ≠ q) := by
    refine ⟨H1.out.below (by rw [hw2]; exact (Below.refl _ w1).alloc (Nat.le_refl _) _), by rw [hw2]; exact Blk.new _ _ _, fun q hq e => ?_⟩
    have := (H1.out.row.lt hq).1
    omega
  clear H1 hw2
  generalize w1.heap.size = sb at *
  clear w1
  have hc := SortStable_any s sb (wns l) a1 c1 w2 H2.out.1.row H2.out.2.1 H2.out.2.2 (by have := HL.out; omega)
  go_wp2_with (go_at_call 46; fail)
  refine hc.mono ?_
  clear hc
  rintro e w3 ⟨rfl, H3⟩
  have HF : Hid (∃ R, RO s w w3 (.slice a1 (wns l).length c1) l R) := by
    obtain ⟨R, r1, r2, r3, r4, r5⟩ := H3.out
    refine ⟨R, ⟨r1, ?_, H2.out.1.own⟩, r2, r3, r5⟩
    have hb := H2.out.1.bel
    exact ⟨r4.os.trans hb.os, r4.tape.trans hb.tape, r4.output.trans hb.output, Nat.le_trans hb.size r4.size, fun q hq => (r4.block q (Nat.lt_of_lt_of_le hq hb.size) (fun e => by have := H2.out.1.own q e; omega)).trans (hb.block q hq)⟩
  clear H2 H3 HL
  generalize (wns l).length = k at *
  go_wp2
  go_ret
  exact ⟨_, rfl, HF⟩
end Go.Proofs.Ytbhddfcdnpidkaa
