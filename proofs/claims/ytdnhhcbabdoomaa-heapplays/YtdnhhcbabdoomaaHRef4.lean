/-
  The reference's heap: Pop.
-/
import Derived.Test.YtdnhhcbabdoomaaHRef3
namespace Go.Proofs.Ytdnhhcbabdoomaa
set_option linter.unusedVariables false
set_option linter.unusedSimpArgs false
open Go.RowKit Go.Great

section
variable {w w' : World} {o h : Nat} {v : Value} {R : List RIt}
set_option maxRecDepth 100000 in
set_option maxHeartbeats 1000000 in
theorem rPop_none (H : RH w o h v R) (hl : lst o R = none) :
    Calls Try.prog 68 #[ptr h] w fun e w' => e = .returned (.tuple #[.agg #[.int .i64 0, .int .i64 0], .int .i64 110]) ∧ Fr w w' (fun _ => False) := by
  have F1 : Fr w (w.alloc (.cells #[.int .i64 0, .int .i64 0] 30)) (fun _ => False) := Fr.alloc _ _ _
  have hle := least_any (H.sm F1) _ _ (outNil _ _)
  have hl' : bst (lsB o) (cnd R fun _ => false) R.length = none := hl
  rw [hl'] at hle
  have HB : Hid (Blk (w.alloc (.cells #[.int .i64 0, .int .i64 0] 30)) w.heap.size 30 #[.int .i64 0, .int .i64 0] ∧ Fr w (w.alloc (.cells #[.int .i64 0, .int .i64 0] 30)) (fun _ => False)) := ⟨Blk.new _ _ _, F1⟩
  clear F1 hl hl' H
  simp only [bpV] at hle
  generalize hrb : w.heap.size = rb at *
  go_enter Try.func68, Try.ntmps68
  go_wp2_with (go_at_call 81; fail)
  refine hle.mono ?_
  rintro e w2 ⟨rfl, hf⟩
  have HB2 : Hid (Blk w2 rb 30 #[.int .i64 0, .int .i64 0] ∧ Fr w w2 (fun _ => False)) := ⟨HB.out.1.fr hf (fun q => q), HB.out.2.trans hf fun _ _ q => by rcases q with q | q <;> exact q⟩
  clear hf hle HB
  have r0 : w2.cell? ⟨rb, 0, none⟩ = some (.int .i64 0) := HB2.out.1.cell 0
  have r1 : w2.cell? ⟨rb, 1, none⟩ = some (.int .i64 0) := HB2.out.1.cell 1
  have f0 := HB2.out.1.frozen 0
  have f1 := HB2.out.1.frozen 1
  have HF : Hid (Fr w ((w2.setCell ⟨rb, 0, none⟩ (.int .i64 0)).setCell ⟨rb, 1, none⟩ (.int .i64 0)) (fun _ => False)) := (HB2.out.2.trans ((Fr.setCell w2 ⟨rb, 0, none⟩ _ (fun b => b = rb) rfl).trans (Fr.setCell _ ⟨rb, 1, none⟩ _ (fun b => b = rb) rfl) (e3 := fun b => b = rb) fun _ _ q => by rcases q with q | q <;> exact q) fun b hb q => by
    rcases q with q | q
    · exact q
    · omega)
  clear hrb
  go_wp2
  refine bodyPost_ret (results_cr2 (fn := Try.f68) (p := 2) (u := 3) (ty := 30) rfl _ _ rb 30 #[.int .i64 0, .int .i64 0] (0, 0) _ (by rfl) ((HB2.out.1.set 0 _).set 1 _) Try.underlying30 rfl (by kernel_rfl)) (by rfl) ?_
  exact ⟨rfl, HF.out⟩
set_option maxRecDepth 100000 in
set_option maxHeartbeats 1000000 in
theorem rPop_some (H : RH w o h v R) {k : Nat} {a : RIt} (hl : lst o R = some k) (ha : R[k]? = some a) :
    Calls Try.prog 68 #[ptr h] w fun e w' => e = .returned (.tuple #[.agg #[.int .i64 a.x.k, .int .i64 a.x.g], .int .i64 0]) ∧ RH w' o h v (R.set k { a with gone := true }) ∧ Fr w w' (fun b => b = a.p) := by
  have F1 : Fr w (w.alloc (.cells #[.int .i64 0, .int .i64 0] 30)) (fun _ => False) := Fr.alloc _ _ _
  have hle := least_any (H.sm F1) _ _ (outNil _ _)
  have hl' : bst (lsB o) (cnd R fun _ => false) R.length = some k := hl
  rw [hl'] at hle
  have hrp : bpV R (some k) = ptr a.p := by show ptr (rp R k) = _; rw [rp_at ha]
  rw [hrp] at hle
  have HA : Hid (R[k]? = some a) := ha
  have HB : Hid (Blk (w.alloc (.cells #[.int .i64 0, .int .i64 0] 30)) w.heap.size 30 #[.int .i64 0, .int .i64 0] ∧ Fr w (w.alloc (.cells #[.int .i64 0, .int .i64 0] 30)) (fun _ => False) ∧ RH (w.alloc (.cells #[.int .i64 0, .int .i64 0] 30)) o h v R ∧ a.p < w.heap.size) := ⟨Blk.new _ _ _, F1, H.sm F1, (H.its k a ha).lt⟩
  have HLW : Hid (∀ b, ownR h v R b → b < w.heap.size) := fun b hb => H.lt hb
  clear F1 hl hl' H hrp ha
  generalize hrb : w.heap.size = rb at *
  go_enter Try.func68, Try.ntmps68
  go_wp2_with (go_at_call 81; fail)
  refine hle.mono ?_
  rintro e w2 ⟨rfl, hf⟩
  have HB2 : Hid (Blk w2 rb 30 #[.int .i64 0, .int .i64 0] ∧ Fr w w2 (fun _ => False) ∧ RH w2 o h v R ∧ a.p < rb) := ⟨HB.out.1.fr hf (fun q => q), HB.out.2.1.trans hf (fun _ _ q => by rcases q with q | q <;> exact q), HB.out.2.2.1.sm hf, HB.out.2.2.2⟩
  clear hf hle HB
  have hbi := HB2.out.2.2.1.its k a HA.out
  have g3 : w2.cell? ⟨a.p, 3, none⟩ = some (.bool a.gone) := hbi.cell 3
  have gf := hbi.frozen 3
  have hgo := HB2.out.2.2.1.gon HA.out true
  have hne : a.p ≠ rb := by have := HB2.out.2.2.2; omega
  have HB3 : Hid (Blk (w2.setCell ⟨a.p, 3, none⟩ (.bool true)) rb 30 #[.int .i64 0, .int .i64 0] ∧ Fr w (w2.setCell ⟨a.p, 3, none⟩ (.bool true)) (fun b => b = a.p) ∧ RH (w2.setCell ⟨a.p, 3, none⟩ (.bool true)) o h v (R.set k { a with gone := true }) ∧ Blk (w2.setCell ⟨a.p, 3, none⟩ (.bool true)) a.p 137 #[.int .i64 a.x.k, .int .i64 a.x.g, .int .i64 (k : Int), .bool true]) := ⟨HB2.out.1.fr hgo.2 (fun e => hne e.symm), HB2.out.2.1.trans hgo.2 (fun _ _ q => by rcases q with q | q; exact q.elim; exact q), hgo.1, hbi.set 3 _⟩
  have HLT : Hid (∀ b, ownR h v R b → b < rb) := HLW.out
  clear hgo hbi
  go_upto_region 5 with fail
  generalize w2.setCell ⟨a.p, 3, none⟩ (.bool true) = w3 at *
  clear g3 gf HB2
  have r0 : w3.cell? ⟨rb, 0, none⟩ = some (.int .i64 0) := HB3.out.1.cell 0
  have r1 : w3.cell? ⟨rb, 1, none⟩ = some (.int .i64 0) := HB3.out.1.cell 1
  have f0 := HB3.out.1.frozen 0
  have f1 := HB3.out.1.frozen 1
  have a0 : w3.cell? ⟨a.p, 0, none⟩ = some (.int .i64 a.x.k) := HB3.out.2.2.2.cell 0
  have a1 : w3.cell? ⟨a.p, 1, none⟩ = some (.int .i64 a.x.g) := HB3.out.2.2.2.cell 1
  have F : Fr w3 ((w3.setCell ⟨rb, 0, none⟩ (.int .i64 a.x.k)).setCell ⟨rb, 1, none⟩ (.int .i64 a.x.g)) (fun b => b = rb) := (Fr.setCell w3 ⟨rb, 0, none⟩ _ (fun b => b = rb) rfl).trans (Fr.setCell _ ⟨rb, 1, none⟩ _ (fun b => b = rb) rfl) fun _ _ q => by rcases q with q | q <;> exact q
  have HF : Hid (RH ((w3.setCell ⟨rb, 0, none⟩ (.int .i64 a.x.k)).setCell ⟨rb, 1, none⟩ (.int .i64 a.x.g)) o h v (R.set k { a with gone := true }) ∧ Fr w ((w3.setCell ⟨rb, 0, none⟩ (.int .i64 a.x.k)).setCell ⟨rb, 1, none⟩ (.int .i64 a.x.g)) (fun b => b = a.p)) := by
    refine ⟨HB3.out.2.2.1.fr F fun b hb e => ?_, HB3.out.2.1.trans F fun b hb q => by
      rcases q with q | q
      · exact q
      · omega⟩
    have hb2 : ownR h v R b := by
      rcases hb with q | q | ⟨d, q1, q2⟩
      · exact .inl q
      · exact .inr (.inl q)
      · rcases List.mem_or_eq_of_mem_set q1 with r | r
        · exact .inr (.inr ⟨d, r, q2⟩)
        · rw [r] at q2; exact .inr (.inr ⟨a, List.mem_of_getElem? HA.out, q2⟩)
    have := HLT.out b hb2
    omega
  clear F
  clear hrb
  go_wp2
  refine bodyPost_ret (results_cr2 (fn := Try.f68) (p := 2) (u := 3) (ty := 30) rfl _ _ rb 30 #[.int .i64 a.x.k, .int .i64 a.x.g] (0, 0) _ (by rfl) ((HB3.out.1.set 0 _).set 1 _) Try.underlying30 rfl (by kernel_rfl)) (by rfl) ?_
  exact ⟨rfl, HF.out⟩
end
end Go.Proofs.Ytdnhhcbabdoomaa
