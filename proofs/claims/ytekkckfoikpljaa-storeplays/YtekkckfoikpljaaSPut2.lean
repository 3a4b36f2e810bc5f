/-
  store: pass, Skip, drop, Put.
-/
import Derived.Test.YtekkckfoikpljaaSPut
import Derived.Deep.AppendLies
namespace Go.Proofs.Ytekkckfoikpljaa
set_option linter.unusedVariables false
set_option linter.unusedSimpArgs false
open Go.RowKit Go.Great

def StB (w : World) (p keep next d : Nat) (vk vl : Value) : Prop := w.heap[p]? = some (.cells (stC keep next d vk vl) 59 (0, 0))
section
variable {w : World} {p keep next d : Nat} {vk vl : Value}
theorem StB.at (h : StB w p keep next d vk vl) : w.cell? ⟨p, 0, none⟩ = some (.int .i64 (keep : Int)) ∧ w.cell? ⟨p, 1, none⟩ = some (.int .i64 (next : Int)) ∧ w.cell? ⟨p, 2, none⟩ = some (.int .i64 (d : Nat)) ∧ w.cell? ⟨p, 3, none⟩ = some vk ∧ w.cell? ⟨p, 4, none⟩ = some vl :=
  ⟨cell_at h rfl, cell_at h rfl, cell_at h rfl, cell_at h rfl, cell_at h rfl⟩
theorem StB.frz (h : StB w p keep next d vk vl) (i : Nat) : w.frozen? ⟨p, i, none⟩ = false := frozen_of_row w p i _ _ h
theorem StB.set1 (h : StB w p keep next d vk vl) (n : Nat) : StB (w.setCell ⟨p, 1, none⟩ (.int .i64 (n : Int))) p keep n d vk vl := by
  unfold StB; rw [setCell_eq_setRow w p 1 _ _ _ _ h]; exact setRow_heap _ _ _ _ _ _ h
theorem StB.set2 (h : StB w p keep next d vk vl) (n : Nat) : StB (w.setCell ⟨p, 2, none⟩ (.int .i64 (n : Int))) p keep next n vk vl := by
  unfold StB; rw [setCell_eq_setRow w p 2 _ _ _ _ h]; exact setRow_heap _ _ _ _ _ _ h
theorem StB.set3 (h : StB w p keep next d vk vl) (v : Value) : StB (w.setCell ⟨p, 3, none⟩ v) p keep next d v vl := by
  unfold StB; rw [setCell_eq_setRow w p 3 _ _ _ _ h]; exact setRow_heap _ _ _ _ _ _ h
theorem StB.set4 (h : StB w p keep next d vk vl) (v : Value) : StB (w.setCell ⟨p, 4, none⟩ v) p keep next d vk v := by
  unfold StB; rw [setCell_eq_setRow w p 4 _ _ _ _ h]; exact setRow_heap _ _ _ _ _ _ h
theorem StB.lt (h : StB w p keep next d vk vl) : p < w.heap.size := (Array.getElem?_eq_some_iff.1 h).1
theorem StB.fr {w' : World} {ex : Nat → Prop} (h : StB w p keep next d vk vl) (hf : Fr w w' ex) (hn : ¬ ex p) : StB w' p keep next d vk vl := (hf.block p h.lt hn).trans h
end
theorem pass_yes {w : World} {p keep next d : Nat} {vk vl : Value} (h : StB w p keep next d vk vl) (hn : next ≤ 999999999) :
    Calls Try.prog 21 #[.pointer (some ⟨p, 0, none⟩)] w fun e w' => e = .returned (.int .i64 0) ∧ w' = w.setCell ⟨p, 1, none⟩ (.int .i64 ((next + 1 : Nat) : Int)) := by
  obtain ⟨c0, c1, c2, c3, c4⟩ := h.at
  have f1 := h.frz 1
  clear h
  have hn' : ¬ (999999999 : Int) < (next : Int) := by omega
  have hr : (next : Int) + 1 < 9223372036854775808 := by omega
  rw [show ((next + 1 : Nat) : Int) = (next : Int) + 1 by omega]
  go_enter Try.func21, Try.ntmps21
  go_wp2
  go_ret
  exact ⟨rfl, rfl⟩
theorem StAt.b {w : World} {p keep : Nat} {ev : List (Option Msg)} {vk vl : Value} (h : StAt w p keep ev vk vl) : StB w p keep (ev.length + 1) (over keep ev) vk vl := h.blk
theorem StAt.ne {w : World} {p keep : Nat} {ev : List (Option Msg)} {vk vl : Value} (h : StAt w p keep ev vk vl) : vk.ownBlock ≠ some p ∧ vl.ownBlock ≠ some p ∧ ∀ g, vk.ownBlock = some g → vl.ownBlock ≠ some g := by
  refine ⟨h.kept.ne_type h.blk (by decide), h.lost.ne_type h.blk (by decide), fun g hg => ?_⟩
  obtain ⟨_, cur, hc⟩ := h.kept.lt hg
  exact h.lost.ne_type hc (by decide)
theorem Skip_yes {w : World} {p keep : Nat} {ev : List (Option Msg)} {vk vl : Value} (h : StAt w p keep ev vk vl) (hn : ev.length < 999999999) :
    Calls Try.prog 17 #[.pointer (some ⟨p, 0, none⟩)] w fun e w' => e = .returned (.int .i64 0) ∧ StAt w' p keep (ev ++ [none]) vk vl ∧ Fr w w' (ownS p vk vl) := by
  have hp := pass_yes h.b (by omega)
  have H : Hid (StAt w p keep ev vk vl) := h
  clear h
  go_enter Try.func17, Try.ntmps17
  go_wp2_with (go_at_call 21; refine hp.mono ?_; rintro e w1 ⟨rfl, rfl⟩)
  go_ret
  have hf : Fr w (w.setCell ⟨p, 1, none⟩ (.int .i64 ((ev.length + 1 + 1 : Nat) : Int))) (fun b => b = p) := Fr.setCell w _ _ _ rfl
  have hb := H.out.b.set1 (ev.length + 1 + 1)
  refine ⟨rfl, ⟨?_, ?_, ?_, H.out.evm.skip⟩, hf.mono fun i _ e => .inl e⟩
  · have e1 : over keep (ev ++ [none]) = over keep ev := by unfold over; rw [putL_none]
    rw [List.length_append, e1]; exact hb
  · have e1 : keptL keep (ev ++ [none]) = keptL keep ev := by unfold keptL over; rw [putL_none]
    rw [e1]; exact H.out.kept.fr hf fun g hg e => H.out.ne.1 (e ▸ hg)
  · have e1 : lostL seqM keep (ev ++ [none]) = lostL seqM keep ev := by unfold lostL over; rw [putL_none]
    rw [e1]; exact H.out.lost.fr hf fun g hg e => H.out.ne.2.1 (e ▸ hg)
/-- A message that lies in a block of its own. -/
def OwnM (w : World) (g : Nat) (M : Msg) : Prop := w.heap[g]? = some (.cells M.cs 34 (0, 0))
theorem OwnM.lt {w : World} {g : Nat} {M : Msg} (h : OwnM w g M) : g < w.heap.size := (Array.getElem?_eq_some_iff.1 h).1
theorem OwnM.load {w : World} {g : Nat} {M : Msg} (h : OwnM w g M) : Sem.run Try.prog (loadVar 34 ⟨g, 0, none⟩) w = .ok (.agg M.cs) w :=
  run_loadVar_row w g 34 34 M.cs (0, 0) _ h Try.underlying34 rfl (by rw [M.cs_size]; kernel_rfl)
theorem wpList_loadM {ops : Array Oper} {rest : List Oper} {op : Oper} {a : Act} {w : World} {Q : Exit → Act → World → Prop} {g : Nat} {M : Msg} (h : OwnM w g M) (x : Operand) (hgd : op.guard = none) (ho : op.op = .load 34 x)
    (hx : a.eval x = .pointer (some ⟨g, 0, none⟩)) (hn : wpList Try.prog ops Q rest (a.put op.dst (.agg M.cs)) w) : wpList Try.prog ops Q (op :: rest) a w :=
  wpList_load_row hgd 34 x ho g hx 34 M.cs (0, 0) _ h Try.underlying34 rfl (by rw [M.cs_size]; kernel_rfl) hn
theorem OwnM.cell {w : World} {g : Nat} {M : Msg} (h : OwnM w g M) (k : Nat) (hk : k < 42) : w.cell? ⟨g, k, none⟩ = some (M.cell k) := by
  rw [cell_of_row _ _ _ _ _ _ h]; exact M.cs_get k hk
theorem loadM_run {op : Oper} {a : Act} {w : World} {g : Nat} {M : Msg} (h : OwnM w g M) (x : Operand) (ho : op.op = .load 34 x) (hx : a.eval x = .pointer (some ⟨g, 0, none⟩)) : (execOp a.eval op).run Try.prog w = .ok (.value (.agg M.cs)) w := by
  unfold execOp
  simp only [ho, hx, Instr.loadAt, Instr.sureAddr, Sem.run_bind, Sem.run_pure, Result.andThen_ok, h.load]
theorem infoM : (Try.prog.info? 34).map (fun i => (i.zero, i.size, i.bytes)) = some (some (.agg zeroM.cs), 42, 400) := by kernel_rfl
theorem infoR' : ∃ i, Try.prog.info? 62 = some i ∧ i.zero = some (.agg #[.int .i64 0, .int .i64 0]) ∧ i.size = 2 ∧ i.bytes = 16 := by
  have h : (Try.prog.info? 62).map (fun i => (i.zero, i.size, i.bytes)) = some (some (.agg #[.int .i64 0, .int .i64 0]), 2, 16) := by kernel_rfl
  obtain ⟨i, hi, he⟩ := Option.map_eq_some_iff.1 h
  injection he with h1 h2
  injection h2 with h2 h3
  exact ⟨i, hi, h1, h2, h3⟩
theorem infoM' : ∃ i, Try.prog.info? 34 = some i ∧ i.zero = some (.agg zeroM.cs) ∧ i.size = 42 ∧ i.bytes = 400 := by
  obtain ⟨i, hi, he⟩ := Option.map_eq_some_iff.1 infoM
  injection he with h1 h2
  injection h2 with h2 h3
  exact ⟨i, hi, h1, h2, h3⟩
theorem infoR : (Try.prog.info? 62).map (fun i => (i.zero, i.size, i.bytes)) = some (some (.agg #[.int .i64 0, .int .i64 0]), 2, 16) := by kernel_rfl
theorem below_drewN {B : Nat} {w w' : World} (h : Below B w w') (n : Nat) : Below B w (w'.drewN n) := ⟨h.os, h.tape, h.output, h.size, h.block⟩
set_option maxRecDepth 100000 in
set_option maxHeartbeats 4000000 in
theorem Put_no {w : World} {p keep : Nat} {ev : List (Option Msg)} {vk vl : Value} (M : Msg) (h : StAt w p keep ev vk vl) (hs : M.z 3 ≠ ((ev.length + 1 : Nat) : Int)) :
    Calls Try.prog 13 #[.pointer (some ⟨p, 0, none⟩), .agg M.cs] w fun e w' => e = .returned (.int .i64 80) ∧ Below w.heap.size w w' := by
  have hb : Below w.heap.size w (w.alloc (.cells M.cs 34)) := (Below.refl _ w).alloc (Nat.le_refl _) _
  have ho : OwnM (w.alloc (.cells M.cs 34)) w.heap.size M := heap_alloc_new w _
  have c3 : (w.alloc (.cells M.cs 34)).cell? ⟨w.heap.size, 3, none⟩ = some (.int .i64 (M.z 3)) := ho.cell 3 (by decide)
  have c1 : (w.alloc (.cells M.cs 34)).cell? ⟨p, 1, none⟩ = some (.int .i64 ((ev.length + 1 : Nat) : Int)) := (hb.cell h.lt).trans h.at.2.1
  have HB : Hid (Below w.heap.size w (w.alloc (.cells M.cs 34))) := hb
  clear h ho hb
  have hs' : (M.z 3 == ((ev.length + 1 : Nat) : Int)) = false := by simpa using hs
  generalize ((ev.length + 1 : Nat) : Int) = N at *
  generalize M.z 3 = Z at *
  generalize M.cs = cs at *
  go_enter Try.func13, Try.ntmps13
  go_upto_region 1 with fail
  go_quiet (fail)
  go_wp2
  go_ret
  exact ⟨rfl, below_drewN HB.out _⟩
theorem runs_rise {ns : List Nat} (h : ns.Pairwise (· < ·)) {r : Nat × Nat} (hr : r ∈ runs ns) : r.2 ∈ ns := by
  obtain ⟨i, hi⟩ := List.getElem?_of_mem hr
  have := (runs_ok _ ns rfl h).row i r hi
  exact this.2 _ this.1 (Nat.le_refl _)
theorem blk_setCells {g : Nat} {e : TypeId} : ∀ (vs : List Value) (o : Nat) (w1 : World) (c1 : Array Value), w1.heap[g]? = some (.cells c1 e (0, 0)) → ∃ c2, (w1.setCells g o vs).heap[g]? = some (.cells c2 e (0, 0)) ∧ c2.size = c1.size := by
  intro vs
  induction vs with
  | nil => intro o w1 c1 hh; exact ⟨c1, hh, rfl⟩
  | cons u r ih =>
    intro o w1 c1 hh
    obtain ⟨c2, q1, q2⟩ := ih (o + 1) (w1.setCell ⟨g, o, none⟩ u) (c1.setIfInBounds o u) (by rw [setCell_eq_setRow w1 g o c1 _ _ u hh]; exact setRow_heap _ _ _ _ _ _ hh)
    exact ⟨c2, q1, by rw [q2]; simp⟩
/-- What is written ahead of a row does not turn it. -/
theorem RowAt.behind {w : World} {e : TypeId} {size n g off cap o : Nat} {xs zz : List Value} (h : RowAt w e size (.slice (some ⟨g, off, none⟩) n cap) n xs) (ho : o + zz.length ≤ off) : RowAt (w.setCells g o zz) e size (.slice (some ⟨g, off, none⟩) n cap) n xs := by
  rcases h.2 with ⟨h0, _⟩ | ⟨g', off', cap', cur', e2, e3, e4, e5, e6, e7⟩
  · cases h0
  · injection e2 with e2 _ e8
    injection e2 with e2
    injection e2 with e2 e9 _
    subst e2 e8 e9
    have hb : ∀ j, off ≤ j → (w.setCells g o zz).cell? ⟨g, j, none⟩ = w.cell? ⟨g, j, none⟩ := fun j hj => World.cell?_setCells_out g _ _ _ _ fun _ _ => .inr (by show o + zz.length ≤ j; omega)
    obtain ⟨cur2, hc2⟩ := blk_setCells zz o w cur' e3
    refine ⟨h.1, .inr ⟨g, off, cap, cur2, rfl, hc2.1, e4, e5, by rw [hc2.2]; exact e6, ?_⟩⟩
    rw [← e7]
    apply List.ext_getElem?
    intro j
    rw [List.getElem?_take, List.getElem?_take, List.getElem?_drop, List.getElem?_drop, Array.getElem?_toList, Array.getElem?_toList]
    have := hb (off + j) (by omega)
    rw [cell_of_row _ _ _ _ _ _ hc2.1, cell_of_row _ _ _ _ _ _ e3] at this
    rw [this]
/-- A cell of a row is written. -/
theorem RowAt.set {w : World} {e : TypeId} {size n g off cap j : Nat} {xs : List Value} (h : RowAt w e size (.slice (some ⟨g, off, none⟩) n cap) n xs) (hj : j < xs.length) (u : Value) : RowAt (w.setCell ⟨g, off + j, none⟩ u) e size (.slice (some ⟨g, off, none⟩) n cap) n (xs.set j u) := by
  rcases h.2 with ⟨h0, _⟩ | ⟨g', off', cap', cur', e2, e3, e4, e5, e6, e7⟩
  · cases h0
  · injection e2 with e2 _ e8
    injection e2 with e2
    injection e2 with e2 e9 _
    subst e2 e8 e9
    have hn : n * size ≤ cap * size := Nat.mul_le_mul_right _ e4
    rw [setCell_eq_setRow w g (off + j) cur' e (0, 0) u e3]
    refine ⟨by rw [List.length_set]; exact h.1, .inr ⟨g, off, cap, _, rfl, setRow_heap _ _ _ _ _ _ e3, e4, e5, by simpa using e6, ?_⟩⟩
    rw [← e7, Array.toList_setIfInBounds, List.drop_set, if_neg (by omega), show off + j - off = j by omega, List.take_set]
theorem takeR {P : Program} {md : Region.Mode} {ops : Array Oper} {Q : Exit → Act → World → Prop} {S : World → Prop} {i : Nat} {oi : Oper} {v : Value} {fuel : Nat} {listed : Array Bool} {a : Act} {w : World} (d : Option Tmp) (hi : ops[i]? = some oi) (hd : oi.dst = d)
    (hs : Region.noSelect ops = true) (hf : Region.free md ops listed i = true) (hr : (Region.ready md ops listed).contains i = true)
    (hQ : ∀ c a w, Q (.panic c) (a.put d v) w → Q (.panic c) a w) (hy : YieldsIf P ops S oi v a) (hS : S w)
    (h : wpAnyH P md ops Q S fuel (listed.setIfInBounds i true) (a.put d v) w) : wpAnyH P md ops Q S (fuel + 1) listed a w := by
  subst hd
  exact wpAnyH_take hi hs hf hr hQ hy hS h
theorem takeA {P : Program} {md : Region.Mode} {ops : Array Oper} {Q : Exit → Act → World → Prop} {i : Nat} {oi : Oper} {v : Value} {fuel : Nat} {listed : Array Bool} {a : Act} {w : World} (d : Option Tmp) (hi : ops[i]? = some oi) (hd : oi.dst = d)
    (hs : Region.noSelect ops = true) (hf : Region.free md ops listed i = true) (hr : (Region.ready md ops listed).contains i = true)
    (hQ : ∀ c a w, Q (.panic c) (a.put d v) w → Q (.panic c) a w) (hy : Yields P ops oi v a)
    (h : wpAny P md ops Q fuel (listed.setIfInBounds i true) (a.put d v) w) : wpAny P md ops Q (fuel + 1) listed a w := by
  subst hd
  exact wpAny_take hi hs hf hr hQ hy h
theorem callR {P : Program} {op : Oper} {a : Act} {w : World} {K : Act → World → Prop} {Q : Exit → Act → World → Prop} {d : Option Tmp} (hd : op.dst = d)
    (f : FuncId) (args : Array Value) (hrun : (execOp a.eval op).run P w = .ok (.enter f args) w) {R : Ending → World → Prop} (hc : Calls P f args w R)
    (h : ∀ e w', R e w' → ∃ v, e = .returned v ∧ K (a.put d v) w') : op.wp P a w K Q := by
  subst hd
  unfold Oper.wp
  rw [hrun, Oper.upon_enter]
  refine hc.mono fun e w'' hh => ?_
  obtain ⟨v, rfl, hw⟩ := h _ _ hh
  exact hw
theorem valR {P : Program} {op : Oper} {a : Act} {w w' : World} {K : Act → World → Prop} {Q : Exit → Act → World → Prop} {d : Option Tmp} (hd : op.dst = d) (v : Value)
    (hrun : (execOp a.eval op).run P w = .ok (.value v) w') (h : K (a.put d v) w') : op.wp P a w K Q := by
  subst hd
  unfold Oper.wp
  rw [hrun, Oper.upon_value]
  exact h
set_option maxRecDepth 100000 in
set_option maxHeartbeats 4000000 in
/-- The oldest one is dropped. -/
theorem drop_any {w : World} {p keep next d kl ll : Nat} {vk vl : Value} (M0 : Msg) (K : List Msg) (L : List (Nat × Nat)) (n0 : Nat) (h : StB w p keep next d vk vl) (hkl : K.length = kl) (hll : L.length = ll) (hk : RowAt w 34 42 vk (kl + 1) (flatL msgV (M0 :: K))) (hl : RowAt w 62 2 vl ll (flatL rowV L))
    (hz : M0.z 3 = (n0 : Int)) (hn0 : 1 ≤ n0) (hn1 : n0 ≤ 1000000000) (hd : d ≤ 1000000000) (hK : kl ≤ 1000) (hL : ll ≤ 1000000000) (hLn : ∀ r, r ∈ L → r.2 ≤ 1000000000) :
    Calls Try.prog 22 #[.pointer (some ⟨p, 0, none⟩)] w fun e w' => e = .returned (.tuple #[]) ∧ ∃ vk' vl', StB w' p keep next (d + 1) vk' vl' ∧ RowAt w' 34 42 vk' kl (flatL msgV K) ∧ RowAt w' 62 2 vl' (addRow n0 L).length (flatL rowV (addRow n0 L)) ∧
      Fr w w' (ownS p vk vl) ∧ vk'.ownBlock = vk.ownBlock ∧ (vl'.ownBlock = vl.ownBlock ∨ ∃ g, vl'.ownBlock = some g ∧ w.heap.size ≤ g) := by
  obtain ⟨g, off, cap, cur, rfl, hg, hcap, hmax, hcs, htake⟩ := hk.more (by omega)
  obtain ⟨c0, c1, c2, c3, c4⟩ := h.at
  have f2 := h.frz 2
  have f3 := h.frz 3
  have cs3 : w.cell? ⟨g, off + 3, none⟩ = some (.int .i64 (n0 : Int)) := by
    refine hk.cell rfl ?_
    show (M0.cs.toList ++ flatL msgV K)[3]? = _
    rw [List.getElem?_append_left (by rw [M0.cs_len]; decide), Array.getElem?_toList, M0.cs_get 3 (by decide), ← hz]; rfl
  have hgp : g ≠ p := fun e => hk.ne_type h (by decide) (e ▸ rfl)
  have hth : w.there g off zeroM.cs.size := fun j hj => by
    have hj' : j < 42 := hj
    have : (kl + 1) * 42 ≤ cap * 42 := Nat.mul_le_mul_right _ hcap
    exact ⟨by rw [cell_of_row _ _ _ _ _ _ hg, Array.getElem?_eq_getElem (by omega)]; rfl, frozen_of_row w g _ _ _ hg⟩
  have hk2' : RowAt w 34 42 (.slice (some ⟨g, off + 42, none⟩) kl (cap - 1)) kl (flatL msgV K) := by
    have hd1 := hk.drop rfl (i := 1) (by omega)
    have e1 : (flatL msgV (M0 :: K)).drop (1 * 42) = flatL msgV K := by rw [flatL_drop msgV_len]; rfl
    rw [e1, show kl + 1 - 1 = kl by omega, show off + 1 * 42 = off + 42 by omega] at hd1
    exact hd1
  obtain ⟨o', hif, hk2'⟩ : ∃ o', (if cap = 1 then some (⟨g, off, none⟩ : Addr) else some ⟨g, off + 42, none⟩) = some ⟨g, o', none⟩ ∧ (RowAt w 34 42 (.slice (some ⟨g, o', none⟩) kl (cap - 1)) kl (flatL msgV K) ∧ (kl = 0 ∨ off + 42 ≤ o')) := by
    by_cases hc1 : cap = 1
    · refine ⟨off, by rw [if_pos hc1], ?_, .inl (by omega)⟩
      have hk0 : kl = 0 := by omega
      subst hc1
      rw [hk0] at hk2' ⊢
      refine ⟨hk2'.1, .inr ⟨g, off, 0, cur, rfl, hg, Nat.le_refl _, by decide, by omega, ?_⟩⟩
      have : flatL msgV K = [] := List.eq_nil_of_length_eq_zero (by simpa using hk2'.1)
      rw [this]; simp
    · exact ⟨off + 42, by rw [if_neg hc1], hk2', .inr (Nat.le_refl _)⟩
  have hzl : zeroM.cs.toList.length = 42 := zeroM.cs_len
  generalize hzz : zeroM.cs.toList = zz at *
  have hF1 : Fr w (w.setCells g off zz) (fun b => b = g) := Fr.setCells g (fun b => b = g) rfl _ _ _
  have hk2 : RowAt (w.setCells g off zz) 34 42 (.slice (some ⟨g, o', none⟩) kl (cap - 1)) kl (flatL msgV K) := by
    rcases hk2'.2 with h0 | h0
    · subst h0
      obtain ⟨cur2, hc2⟩ := blk_setCells zz off w cur hg
      rcases hk2'.1.2 with ⟨q0, _⟩ | ⟨g', off', cap', cur', e2, e3, e4, e5, e6, e7⟩
      · cases q0
      · injection e2 with e2 _ e8
        injection e2 with e2
        injection e2 with e2 e9 _
        subst e2 e8 e9
        rw [hg] at e3
        injection e3 with e3
        injection e3 with e3
        subst e3
        refine ⟨hk2'.1.1, .inr ⟨g, o', cap - 1, cur2, rfl, hc2.1, e4, e5, by rw [hc2.2]; exact e6, ?_⟩⟩
        have : flatL msgV K = [] := List.eq_nil_of_length_eq_zero (by simpa using hk2'.1.1)
        rw [this]; simp
    · exact hk2'.1.behind (zz := zz) (o := off) (by omega)
  clear hk2'
  have hlg : vl.ownBlock ≠ some g := hl.ne_type hg (by decide)
  have hlp : vl.ownBlock ≠ some p := hl.ne_type h (by decide)
  have HW : Hid (StB (((w.setCells g off zz).setCell ⟨p, 3, none⟩ (.slice (some ⟨g, o', none⟩) kl (cap - 1))).setCell ⟨p, 2, none⟩ (.int .i64 ((d + 1 : Nat) : Int))) p keep next (d + 1) (.slice (some ⟨g, o', none⟩) kl (cap - 1)) vl ∧
      RowAt (((w.setCells g off zz).setCell ⟨p, 3, none⟩ (.slice (some ⟨g, o', none⟩) kl (cap - 1))).setCell ⟨p, 2, none⟩ (.int .i64 ((d + 1 : Nat) : Int))) 34 42 (.slice (some ⟨g, o', none⟩) kl (cap - 1)) kl (flatL msgV K) ∧
      RowAt (((w.setCells g off zz).setCell ⟨p, 3, none⟩ (.slice (some ⟨g, o', none⟩) kl (cap - 1))).setCell ⟨p, 2, none⟩ (.int .i64 ((d + 1 : Nat) : Int))) 62 2 vl ll (flatL rowV L) ∧
      Fr w (((w.setCells g off zz).setCell ⟨p, 3, none⟩ (.slice (some ⟨g, o', none⟩) kl (cap - 1))).setCell ⟨p, 2, none⟩ (.int .i64 ((d + 1 : Nat) : Int))) (fun b => b = g ∨ b = p)) := by
    have f1 : Fr (w.setCells g off zz) (((w.setCells g off zz).setCell ⟨p, 3, none⟩ (.slice (some ⟨g, o', none⟩) kl (cap - 1))).setCell ⟨p, 2, none⟩ (.int .i64 ((d + 1 : Nat) : Int))) (fun b => b = p) :=
      (Fr.setCell _ _ _ (fun b => b = p) rfl).trans (Fr.setCell _ _ _ (fun b => b = p) rfl) fun i _ q => by rcases q with q | q <;> exact q
    have f2 : Fr w (((w.setCells g off zz).setCell ⟨p, 3, none⟩ (.slice (some ⟨g, o', none⟩) kl (cap - 1))).setCell ⟨p, 2, none⟩ (.int .i64 ((d + 1 : Nat) : Int))) (fun b => b = g ∨ b = p) := hF1.trans f1 fun i _ q => q
    refine ⟨((h.fr hF1 (fun e => hgp e.symm)).set3 _).set2 (d + 1), hk2.fr f1 (fun b hb e => hgp ?_), hl.fr f2 fun b hb e => ?_, f2⟩
    · have : g = b := by simpa [Value.ownBlock] using hb
      rw [this]; exact e
    · rcases e with e | e
      · exact hlg (e ▸ hb)
      · exact hlp (e ▸ hb)
  have c3' : (w.setCells g off zz).cell? ⟨p, 3, none⟩ = some (.slice (some ⟨g, off, none⟩) (kl + 1) cap) := hF1.cell c3 (fun e => hgp e.symm)
  have c2' : ((w.setCells g off zz).setCell ⟨p, 3, none⟩ (.slice (some ⟨g, o', none⟩) kl (cap - 1))).cell? ⟨p, 2, none⟩ = some (.int .i64 (d : Int)) := by
    rw [World.cell?_setCell_other _ _ _ _ (by simp)]; exact hF1.cell c2 (fun e => hgp e.symm)
  have f3' : (w.setCells g off zz).frozen? ⟨p, 3, none⟩ = false := by rw [World.frozen?_setCells]; exact f3
  have f2' : ((w.setCells g off zz).setCell ⟨p, 3, none⟩ (.slice (some ⟨g, o', none⟩) kl (cap - 1))).frozen? ⟨p, 2, none⟩ = false := by rw [World.frozen?_setCell, World.frozen?_setCells]; exact f2
  have HT : Hid (w.there g off zeroM.cs.size) := hth
  have Hlp : Hid (vl.ownBlock ≠ some p ∧ vl.ownBlock ≠ some g ∧ g ≠ p) := ⟨hlp, hlg, hgp⟩
  clear hk hl h hg hcs htake cur hth hF1 hk2 f2 f3 hlp hlg hgp hzl
  rw [show ((d + 1 : Nat) : Int) = (d : Int) + 1 by omega] at HW
  have hd' : (d : Int) + 1 < 9223372036854775808 := by omega
  have hcap' : (kl : Int) + 1 ≤ (cap : Int) := by omega
  go_enter Try.func22, Try.ntmps22
  go_upto_region 1 with fail
  rename_i Kc hKc
  refine wp_region_lit ?_
  refine wpList_runTo rfl (some 11) rfl (.pointer (some ⟨p, 0, none⟩)) w (by kernel_rfl) ?_
  simp only [Act.put, List.setIfInBounds_toArray, List.set_cons_zero, List.set_cons_succ]
  refine wpList_runTo rfl (some 12) rfl (.pointer (some ⟨p, 0, none⟩)) w (by kernel_rfl) ?_
  simp only [Act.put, List.setIfInBounds_toArray, List.set_cons_zero, List.set_cons_succ]
  refine wpList_runTo rfl (some 13) rfl (.pointer (some ⟨p, 3, none⟩)) w (by kernel_rfl) ?_
  simp only [Act.put, List.setIfInBounds_toArray, List.set_cons_zero, List.set_cons_succ]
  refine wpList_runTo rfl (some 14) rfl (.slice (some ⟨g, off, none⟩) (kl + 1) cap) w (by go_simp) ?_
  simp only [Act.put, List.setIfInBounds_toArray, List.set_cons_zero, List.set_cons_succ]
  refine wpList_runTo rfl (some 15) rfl (.agg zeroM.cs) w (by kernel_rfl) ?_
  simp only [Act.put, List.setIfInBounds_toArray, List.set_cons_zero, List.set_cons_succ]
  refine wpList_runTo rfl (some 16) rfl (.pointer (some ⟨g, off, none⟩)) w (by go_simp) ?_
  simp only [Act.put, List.setIfInBounds_toArray, List.set_cons_zero, List.set_cons_succ]
  refine wpList_store_mid rfl 34 (.tmp 16) (.tmp 15) rfl g off zeroM.cs (by kernel_rfl) (by kernel_rfl) HT.out (by kernel_rfl) (by kernel_rfl) ?_
  rw [hzz]
  refine wpList_nil ?_
  refine hKc _ _ ?_
  simp only [Act.put, List.setIfInBounds_toArray, List.set_cons_zero, List.set_cons_succ]
  clear hKc HT hzz
  generalize zeroM.cs = zc at *
  go_upto_region 4 with fail
  clear c0 c1 c2 c3 c4 cs3 c3' c2' f3' f2' hif hk2'
  generalize (((w.setCells g off zz).setCell ⟨p, 3, none⟩ (.slice (some ⟨g, o', none⟩) kl (cap - 1))).setCell ⟨p, 2, none⟩ (.int .i64 ((d : Int) + 1))) = w3 at *
  obtain ⟨-, -, -, -, c4⟩ := HW.out.1.at
  have f4 := HW.out.1.frz 4
  obtain ⟨ao, cl, rfl, hcl⟩ := HW.out.2.2.1.form
  obtain ⟨i1, hi1, hx0, hx1, hx2⟩ := infoR'
  have HB : Hid (∀ w4, Fr (w3.alloc (.cells #[.int .i64 (n0 : Int), .int .i64 (n0 : Int)] 62)) w4 (fun b => (Value.slice ao ll cl).ownBlock = some b) → w4.cell? ⟨p, 4, none⟩ = some (.slice ao ll cl) ∧ w4.frozen? ⟨p, 4, none⟩ = false) := fun w4 hf => by
    have h4 : StB w4 p keep next (d + 1) _ _ := (HW.out.1.fr (Fr.alloc w3 _ fun _ => False) id).fr hf Hlp.out.1
    exact ⟨h4.at.2.2.2.2, h4.frz 4⟩
  have HA : Hid (RowAt (w3.alloc (.cells #[.int .i64 (n0 : Int), .int .i64 (n0 : Int)] 62)) 62 2 (.slice ao ll cl) ll (flatL rowV L) ∧ True) := ⟨HW.out.2.2.1.fr (Fr.alloc w3 _ fun _ => False) (fun _ _ h => h), trivial⟩
  have END : Hid (∀ w4 v', RowAt w4 62 2 v' (ll + 1) (flatL rowV L ++ [.int .i64 (n0 : Int), .int .i64 (n0 : Int)]) → Fr (w3.alloc (.cells #[.int .i64 (n0 : Int), .int .i64 (n0 : Int)] 62)) w4 (fun b => (Value.slice ao ll cl).ownBlock = some b) →
      (v'.ownBlock = (Value.slice ao ll cl).ownBlock ∨ v'.ownBlock = some (w3.alloc (.cells #[.int .i64 (n0 : Int), .int .i64 (n0 : Int)] 62)).heap.size ∧ ∀ k, k < (w3.alloc (.cells #[.int .i64 (n0 : Int), .int .i64 (n0 : Int)] 62)).heap.size → w4.heap[k]? = (w3.alloc (.cells #[.int .i64 (n0 : Int), .int .i64 (n0 : Int)] 62)).heap[k]?) → addRow n0 L = L ++ [(n0, n0)] →
      ∃ vk' vl', StB (w4.setCell ⟨p, 4, none⟩ v') p keep next (d + 1) vk' vl' ∧ RowAt (w4.setCell ⟨p, 4, none⟩ v') 34 42 vk' kl (flatL msgV K) ∧ RowAt (w4.setCell ⟨p, 4, none⟩ v') 62 2 vl' (addRow n0 L).length (flatL rowV (addRow n0 L)) ∧
        Fr w (w4.setCell ⟨p, 4, none⟩ v') (ownS p (.slice (some ⟨g, off, none⟩) (kl + 1) cap) (.slice ao ll cl)) ∧ vk'.ownBlock = (Value.slice (some ⟨g, off, none⟩) (kl + 1) cap).ownBlock ∧ (vl'.ownBlock = (Value.slice ao ll cl).ownBlock ∨ ∃ g, vl'.ownBlock = some g ∧ w.heap.size ≤ g)) := by
    intro w4 v' hrow hfr hnew hadd
    have hsz : w3.heap.size ≤ (w3.alloc (.cells #[.int .i64 (n0 : Int), .int .i64 (n0 : Int)] 62)).heap.size := by simp
    have hal : Fr w3 (w3.alloc (.cells #[.int .i64 (n0 : Int), .int .i64 (n0 : Int)] 62)) (fun _ => False) := Fr.alloc _ _ _
    have h4 : StB w4 p keep next (d + 1) _ _ := (HW.out.1.fr hal id).fr hfr Hlp.out.1
    have hset : Fr w4 (w4.setCell ⟨p, 4, none⟩ v') (fun b => b = p) := Fr.setCell _ _ _ _ rfl
    have h34 : Fr w3 w4 (fun b => (Value.slice ao ll cl).ownBlock = some b) := hal.trans hfr fun i _ q => by rcases q with q | q; exact q.elim; exact q
    have hvp : v'.ownBlock ≠ some p := fun e => by
      rcases hnew with q | ⟨q, _⟩
      · rw [q] at e; exact Hlp.out.1 e
      · rw [q] at e; injection e with e; have := HW.out.1.lt; omega
    refine ⟨_, v', h4.set4 v', ?_, ?_, ?_, rfl, ?_⟩
    · refine ((HW.out.2.1.fr h34 fun b hb e => Hlp.out.2.1 ?_).fr hset fun b hb e => Hlp.out.2.2 ?_)
      · have : g = b := by simpa [Value.ownBlock] using hb
        rw [this]; exact e
      · have : g = b := by simpa [Value.ownBlock] using hb
        rw [this]; exact e
    · rw [hadd, List.length_append, hll, flatL_app, flatL_one]
      exact hrow.fr hset fun b hb e => hvp (e ▸ hb)
    · refine (HW.out.2.2.2.trans h34 (e3 := ownS p (.slice (some ⟨g, off, none⟩) (kl + 1) cap) (.slice ao ll cl)) fun i _ q => ?_).trans hset fun i _ q => ?_
      · rcases q with (q | q) | q
        · exact .inr (.inl (by rw [q]; rfl))
        · exact .inl q
        · exact .inr (.inr q)
      · rcases q with q | q
        · exact q
        · exact .inl q
    · rcases hnew with q | ⟨q, _⟩
      · exact .inl q
      · exact .inr ⟨_, q, by have := HW.out.2.2.2.size; omega⟩
  rcases List.eq_nil_or_concat L with hL0 | ⟨L', r, hLr⟩
  · have hl0 : ll = 0 := by rw [← hll, hL0]; rfl
    subst hl0
    go_wp2_with (first | (at_builtin; refine wpList_append_row _ rfl _ _ 57 rfl 62 i1 _ 2 16 Try.underlying57 hi1 hx0 hx1 hx2 (by rfl) (.slice ao 0 cl) 0 (flatL rowV L) rfl (HA.out.1) ⟨w3.heap.size, 0, none⟩ 1 1 [.int .i64 (n0 : Int), .int .i64 (n0 : Int)] rfl rfl (World.news_of_block (cs := #[.int .i64 (n0 : Int), .int .i64 (n0 : Int)]) (t := 62) (fr := (0, 0)) (heap_alloc_new w3 _)) (by simp [Value.oneCell']) (.inl (by decide)) (by unfold maxLen; omega) (by omega) ?_; intro v' w4 hrow hfr hnew; obtain ⟨ao2, cap2, rfl, _⟩ := hrow.form; obtain ⟨q4, q5⟩ := HB.out w4 hfr; have HC : Hid _ := And.intro hrow (And.intro hfr hnew); clear hrow hfr hnew))
    refine ⟨by rfl, .tuple #[], results_none (by rfl) _ _ _, rfl, ?_⟩
    exact END.out _ _ HC.out.1 HC.out.2.1 HC.out.2.2 (by rw [hL0]; rfl)
  · rw [List.concat_eq_append] at hLr
    obtain ⟨l1, hl1⟩ : ∃ l1, ll = l1 + 1 := ⟨L'.length, by rw [← hll, hLr]; simp⟩
    have hL1 : L'.length = l1 := by have := hll; rw [hLr, hl1] at this; simpa using this
    subst hl1
    obtain ⟨gl, ol, cl2, cu, e1, hgl, -, -, hcu, htk⟩ := HW.out.2.2.1.more (by omega)
    injection e1 with e1 _ e2
    subst e1 e2
    have cr : w3.cell? ⟨gl, ol + (l1 * 2 + 1), none⟩ = some (.int .i64 (r.2 : Int)) := by
      refine HW.out.2.2.1.cell rfl ?_
      rw [hLr, flatL_get rowV_len (a := r) (by rw [← hL1]; exact get_snoc_last _ _) (by decide)]; rfl
    have fr : w3.frozen? ⟨gl, ol + (l1 * 2 + 1), none⟩ = false := HW.out.2.2.1.frozen rfl _
    have hrn : r.2 ≤ 1000000000 := hLn r (by rw [hLr]; simp)
    rw [← Nat.add_assoc] at cr fr
    have HLr : Hid (L = L' ++ [r] ∧ L'.length = l1) := ⟨hLr, hL1⟩
    clear hLr hL1 htk hgl hcu
    by_cases hq : r.2 + 1 = n0
    · have hq' : ((r.2 : Nat) : Int) = (n0 : Int) - 1 := by omega
      rw [hq'] at cr
      have HS : Hid (RowAt (w3.setCell ⟨gl, ol + l1 * 2 + 1, none⟩ (.int .i64 (n0 : Int))) 62 2 (.slice (some ⟨gl, ol, none⟩) (l1 + 1) cl) (l1 + 1) (flatL rowV (addRow n0 L))) := by
        have hlen : (flatL rowV L).length = (l1 + 1) * 2 := HW.out.2.2.1.1
        have := HW.out.2.2.1.set (j := l1 * 2 + 1) (by omega) (.int .i64 (n0 : Int))
        rw [Nat.add_assoc]
        have e8 : (flatL rowV L).set (l1 * 2 + 1) (.int .i64 (n0 : Int)) = flatL rowV (addRow n0 L) := by
          rw [HLr.out.1, addRow_snoc, if_pos hq, flatL_app, flatL_app, flatL_one, flatL_one, List.set_append_right _ _ (by rw [flatL_len rowV_len, HLr.out.2]; omega), flatL_len rowV_len, HLr.out.2, show l1 * 2 + 1 - l1 * 2 = 1 by omega]; rfl
        rw [← e8]; exact this
      go_wp2
      refine ⟨by rfl, .tuple #[], results_none (by rfl) _ _ _, rfl, ?_⟩
      have hset : Fr w3 (w3.setCell ⟨gl, ol + l1 * 2 + 1, none⟩ (.int .i64 (n0 : Int))) (fun b => b = gl) := Fr.setCell _ _ _ _ rfl
      refine ⟨_, _, HW.out.1.fr hset fun e => Hlp.out.1 (by rw [e]; rfl), HW.out.2.1.fr hset fun b hb e => Hlp.out.2.1 ?_, ?_, HW.out.2.2.2.trans hset fun i _ q => ?_, rfl, .inl rfl⟩
      · have : g = b := by simpa [Value.ownBlock] using hb
        rw [this, e]; rfl
      · have e9 : (addRow n0 L).length = l1 + 1 := by rw [HLr.out.1, addRow_snoc, if_pos hq]; simp [HLr.out.2]
        rw [e9]; exact HS.out
      · rcases q with (q | q) | q
        · exact .inr (.inl (by rw [q]; rfl))
        · exact .inl q
        · exact .inr (.inr (by rw [q]; rfl))
    · have hq' : ((((r.2 : Nat) : Int)) == (n0 : Int) - 1) = false := by simp; omega
      have hq2 : decide (((r.2 : Nat) : Int) = (n0 : Int) - 1) = false := by simp; omega
      have HQ : Hid (¬ r.2 + 1 = n0) := hq
      have HAD : Hid (addRow n0 L = L ++ [(n0, n0)]) := by
        show addRow n0 L = _
        rw [HLr.out.1, addRow_snoc, if_neg hq]
      clear hq
      generalize r.2 = r2 at *
      go_wp2_with (first | (at_builtin; refine wpList_append_row _ rfl _ _ 57 rfl 62 i1 _ 2 16 Try.underlying57 hi1 hx0 hx1 hx2 (by rfl) (.slice (some ⟨gl, ol, none⟩) (l1 + 1) cl) (l1 + 1) (flatL rowV L) rfl (HA.out.1) ⟨w3.heap.size, 0, none⟩ 1 1 [.int .i64 (n0 : Int), .int .i64 (n0 : Int)] rfl rfl (World.news_of_block (cs := #[.int .i64 (n0 : Int), .int .i64 (n0 : Int)]) (t := 62) (fr := (0, 0)) (heap_alloc_new w3 _)) (by simp [Value.oneCell']) (.inl (by decide)) (by unfold maxLen; omega) (by omega) ?_; intro v' w4 hrow hfr hnew; obtain ⟨ao2, cap2, rfl, _⟩ := hrow.form; obtain ⟨q4, q5⟩ := HB.out w4 hfr; have HC : Hid _ := And.intro hrow (And.intro hfr hnew); clear hrow hfr hnew))
      refine ⟨by rfl, .tuple #[], results_none (by rfl) _ _ _, rfl, ?_⟩
      exact END.out _ _ HC.out.1 HC.out.2.1 HC.out.2.2 HAD.out
end Go.Proofs.Ytekkckfoikpljaa
