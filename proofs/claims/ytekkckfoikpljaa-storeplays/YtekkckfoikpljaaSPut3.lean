/-
  store: Put.
-/
import Derived.Test.YtekkckfoikpljaaSPut2
namespace Go.Proofs.Ytekkckfoikpljaa
set_option linter.unusedVariables false
set_option linter.unusedSimpArgs false
open Go.RowKit Go.Great

theorem exec_append {P : Program} {w w' : World} {o : Oper} {a : Act} (s x : Operand) (t : TypeId) (ho : o.op = .call { callee := .builtin .append, args := #[s, x], argTypes := #[t, t] }) {v u r : Value} (hs : a.eval s = v) (hx : a.eval x = u)
    (hr : (Builtin.append_ #[t, t] o.type #[v, u]).run P w = .ok r w') : (execOp a.eval o).run P w = .ok (.value r) w' := by
  unfold execOp
  simp only [ho, resolve, invoke, builtin, Sem.run_bind, Sem.run_pure, Result.andThen_ok, List.map_toArray, List.map_cons, List.map_nil, hs, hx, hr]
theorem skipR {P : Program} {op : Oper} {a : Act} {w w' : World} {K : Act → World → Prop} {Q : Exit → Act → World → Prop} {d : Option Tmp} (hd : op.dst = d)
    (hrun : (execOp a.eval op).run P w = .ok .skip w') (h : K (a.put d undef) w') : op.wp P a w K Q := by
  subst hd
  unfold Oper.wp
  rw [hrun]
  exact h
/-- The same row's block, or a new one. -/
def newer (w : World) (v v' : Value) : Prop := v'.ownBlock = v.ownBlock ∨ ∃ g, v'.ownBlock = some g ∧ w.heap.size ≤ g
theorem putL_mem {ev : List (Option Msg)} {K : List Msg} {M : Msg} (h : keptL K.length ev = K) : True := trivial
theorem over_le (keep : Nat) (ev : List (Option Msg)) : over keep ev ≤ ev.length := by unfold over; have := putL_le ev; omega
theorem lostL_len (keep : Nat) {ev : List (Option Msg)} (h : EvM ev) : (lostL seqM keep ev).length ≤ ev.length := by
  have hns : (((putL ev).take (over keep ev)).map seqM).Pairwise (· < ·) := by rw [List.map_take]; exact (putL_pair h.ok).take
  have := (runs_ok _ _ rfl hns).len
  have h2 := over_le keep ev
  unfold lostL
  rw [List.length_map, List.length_take] at this
  omega
theorem lostL_to (keep : Nat) {ev : List (Option Msg)} (h : EvM ev) {r : Nat × Nat} (hr : r ∈ lostL seqM keep ev) : r.2 ≤ ev.length := by
  obtain ⟨i, hi⟩ := List.getElem?_of_mem hr
  exact ((ev_inv keep h.ok).lin i r hi).2.2.1
theorem put_bound {ev : List (Option Msg)} (h : EvM ev) {M : Msg} (hM : M ∈ putL ev) : 1 ≤ seqM M ∧ seqM M ≤ ev.length := by
  obtain ⟨j, hj⟩ := List.getElem?_of_mem hM
  obtain ⟨i, h1, _⟩ := at_putL ev j M hj
  have h2 := h.ok i M h1
  have h3 := (List.getElem?_eq_some_iff.1 h1).1
  omega
/-- One that is put: room is left, or the oldest goes. -/
theorem put_cases (keep : Nat) (hk : 1 ≤ keep) (ev : List (Option Msg)) (M : Msg) :
    ((keptL keep ev).length + 1 ≤ keep ∧ keptL keep (ev ++ [some M]) = keptL keep ev ++ [M] ∧ over keep (ev ++ [some M]) = over keep ev ∧ lostL seqM keep (ev ++ [some M]) = lostL seqM keep ev) ∨
    (keep < (keptL keep ev).length + 1 ∧ ∃ M0 K, keptL keep ev ++ [M] = M0 :: K ∧ M0 ∈ putL (ev ++ [some M]) ∧ keptL keep (ev ++ [some M]) = K ∧ over keep (ev ++ [some M]) = over keep ev + 1 ∧ lostL seqM keep (ev ++ [some M]) = addRow (seqM M0) (lostL seqM keep ev)) := by
  rw [keptL_len]
  by_cases hp : (putL ev).length < keep
  · refine .inl ⟨by omega, ?_, ?_, ?_⟩
    · unfold keptL over; rw [putL_some, List.length_append]; simp only [List.length_singleton]
      rw [show (putL ev).length + 1 - keep = 0 by omega, show (putL ev).length - keep = 0 by omega]; simp
    · unfold over; rw [putL_some, List.length_append]; simp only [List.length_singleton]; omega
    · unfold lostL over; rw [putL_some, List.length_append]; simp only [List.length_singleton]
      rw [show (putL ev).length + 1 - keep = 0 by omega, show (putL ev).length - keep = 0 by omega]; simp
  · have hd : over keep (ev ++ [some M]) = over keep ev + 1 := by unfold over; rw [putL_some, List.length_append]; simp only [List.length_singleton]; omega
    have hlt : over keep ev < (putL (ev ++ [some M])).length := by unfold over; rw [putL_some, List.length_append]; simp only [List.length_singleton]; omega
    have hle : over keep ev ≤ (putL ev).length := by unfold over; omega
    have hsplit : (putL (ev ++ [some M])).drop (over keep ev) = (putL (ev ++ [some M]))[over keep ev] :: (putL (ev ++ [some M])).drop (over keep ev + 1) := List.drop_eq_getElem_cons hlt
    refine .inr ⟨by omega, (putL (ev ++ [some M]))[over keep ev], (putL (ev ++ [some M])).drop (over keep ev + 1), ?_, List.getElem_mem _, by unfold keptL; rw [hd], hd, ?_⟩
    · rw [← hsplit]; unfold keptL; rw [putL_some, List.drop_append_of_le_length hle]
    · unfold lostL
      rw [hd, List.take_succ_eq_append_getElem hlt, List.map_append, List.map_singleton, runs_snoc]
      congr 2
      rw [putL_some, List.take_append_of_le_length hle]
set_option maxRecDepth 100000 in
set_option maxHeartbeats 4000000 in
theorem Put_yes {w : World} {p keep : Nat} {ev : List (Option Msg)} {vk vl : Value} (M : Msg) (h : StAt w p keep ev vk vl) (hs : M.z 3 = ((ev.length + 1 : Nat) : Int)) (hev : ev.length ≤ 900000000) (hk1 : 1 ≤ keep) (hk2 : keep ≤ 200) :
    Calls Try.prog 13 #[.pointer (some ⟨p, 0, none⟩), .agg M.cs] w fun e w' => e = .returned (.int .i64 0) ∧ ∃ vk' vl', StAt w' p keep (ev ++ [some M]) vk' vl' ∧ Fr w w' (ownS p vk vl) ∧ newer w vk vk' ∧ newer w vl vl' := by
  have hb : Below w.heap.size w (w.alloc (.cells M.cs 34)) := (Below.refl _ w).alloc (Nat.le_refl _) _
  have ho : OwnM (w.alloc (.cells M.cs 34)) w.heap.size M := heap_alloc_new w _
  have c3 : (w.alloc (.cells M.cs 34)).cell? ⟨w.heap.size, 3, none⟩ = some (.int .i64 ((ev.length + 1 : Nat) : Int)) := by rw [← hs]; exact ho.cell 3 (by decide)
  have c1 : (w.alloc (.cells M.cs 34)).cell? ⟨p, 1, none⟩ = some (.int .i64 ((ev.length + 1 : Nat) : Int)) := (hb.cell h.lt).trans h.at.2.1
  have hF : Fr w (w.alloc (.cells M.cs 34)) (fun _ => False) := Fr.alloc _ _ _
  have HB : Hid (StAt (w.alloc (.cells M.cs 34)) p keep ev vk vl ∧ OwnM (w.alloc (.cells M.cs 34)) w.heap.size M ∧ Fr w (w.alloc (.cells M.cs 34)) (fun _ => False)) := ⟨h.fr hF (fun _ _ h => h), ho, hF⟩
  have HS : Hid (StAt w p keep ev vk vl ∧ M.z 3 = ((ev.length + 1 : Nat) : Int)) := ⟨h, hs⟩
  obtain ⟨nk, hnk⟩ : ∃ nk, (keptL keep ev).length = nk := ⟨_, rfl⟩
  have hnk2 : nk ≤ keep := by rw [← hnk, keptL_len]; omega
  clear h ho hb hs hF
  have HN : Hid ((keptL keep ev).length = nk) := hnk
  clear hnk
  have HE : Hid (ev.length ≤ 900000000) := hev
  clear hev
  generalize hcs : M.cs = cs at *
  generalize hN : ((ev.length + 1 : Nat) : Int) = N at *
  have HNN : Hid (((ev.length + 1 : Nat) : Int) = N) := hN
  have HCS : Hid (M.cs = cs) := hcs
  clear hN hcs
  go_enter Try.func13, Try.ntmps13
  go_upto_region 1 with fail
  go_quiet (fail)
  generalize w.alloc (.cells cs 34) = w1 at *
  go_wp2_with (go_at_call 21; fail)
  have hP := pass_yes (w := w1.drewN nq) (HB.out.1.b.fr ((Fr.refl w1 fun _ => False).drewN nq) id) (by have := HE.out; omega)
  refine hP.mono ?_
  rintro e w2 ⟨rfl, hw2⟩
  have HW2 : Hid (StB w2 p keep (ev.length + 1 + 1) (over keep ev) vk vl ∧ RowAt w2 34 42 vk nk (flatL msgV (keptL keep ev)) ∧ RowAt w2 62 2 vl (lostL seqM keep ev).length (flatL rowV (lostL seqM keep ev)) ∧ OwnM w2 w.heap.size M ∧ Fr w w2 (fun b => b = p)) := by
    have f1 : Fr w1 w2 (fun b => b = p) := by rw [hw2]; exact ((Fr.refl w1 fun b => b = p).drewN nq).trans (Fr.setCell _ _ _ (fun b => b = p) rfl) fun i _ q => by rcases q with q | q <;> exact q
    have hne := HB.out.1.ne
    refine ⟨?_, ?_, HB.out.1.lost.fr f1 fun g hg e => hne.2.1 (e ▸ hg), ?_, HB.out.2.2.trans f1 fun i _ q => by rcases q with q | q; exact q.elim; exact q⟩
    · rw [hw2]; exact StB.set1 (HB.out.1.b.fr ((Fr.refl w1 fun _ => False).drewN nq) id) _
    · rw [← HN.out]; exact HB.out.1.kept.fr f1 fun g hg e => hne.1 (e ▸ hg)
    · exact (f1.block _ HB.out.2.1.lt (fun e => by have := HS.out.1.lt; omega)).trans HB.out.2.1
  clear hP hw2 HB c1 c3
  go_upto_region 6 with fail
  rename_i Kc hKc
  refine wp_region_any (by kernel_rfl) ?_
  change wpAny _ _ _ _ _ _ _ (World.drew _)
  have HW3 : Hid (StB w2.drew p keep (ev.length + 1 + 1) (over keep ev) vk vl ∧ RowAt w2.drew 34 42 vk nk (flatL msgV (keptL keep ev)) ∧ RowAt w2.drew 62 2 vl (lostL seqM keep ev).length (flatL rowV (lostL seqM keep ev)) ∧ OwnM w2.drew w.heap.size M ∧ Fr w w2.drew (fun b => b = p)) := by
    have f1 : Fr w2 w2.drew (fun _ => False) := (Fr.refl w2 _).drew
    exact ⟨HW2.out.1.fr f1 id, HW2.out.2.1.fr f1 fun _ _ h => h, HW2.out.2.2.1.fr f1 fun _ _ h => h, HW2.out.2.2.2.1, HW2.out.2.2.2.2.drew⟩
  clear HW2
  generalize w2.drew = w3 at *
  obtain ⟨-, -, -, c3, -⟩ := HW3.out.1.at
  obtain ⟨ao, ck, rfl, hck⟩ := HW3.out.2.1.form
  have HO : Hid (OwnM w3 w.heap.size M) := HW3.out.2.2.2.1
  obtain ⟨i1, hi1, hx0, hx1, hx2⟩ := infoM'
  have c3a : (w3.alloc (.cells M.cs 34)).cell? ⟨p, 3, none⟩ = some (.slice ao nk ck) := (Fr.alloc w3 (.cells M.cs 34) fun _ => False).cell c3 id
  have HAL : Hid (Fr w3 (w3.alloc (.cells M.cs 34)) (fun _ => False)) := Fr.alloc _ _ _
  have HAP : Hid _ := run_append_row (P := Try.prog) (w3.alloc (.cells M.cs 34)) 25 25 34 i1 _ 42 400 Try.underlying25 hi1 hx0 hx1 hx2 (by rw [Value.cells]; exact zeroM.cs_size) (.slice ao nk ck) nk (flatL msgV (keptL keep ev)) (HW3.out.2.1.fr HAL.out fun _ _ h => h) ⟨w3.heap.size, 0, none⟩ 1 1 M.cs.toList (by rw [M.cs_len]) (World.news_of_block (cs := M.cs) (t := 34) (fr := (0, 0)) (heap_alloc_new w3 _)) (fun u hu => Array.all_eq_true_iff_forall_mem.1 M.one u (by simpa using hu)) (.inl (by decide)) (by unfold maxLen; omega) (by omega)
  have HST : Hid (∀ w5, Fr (w3.alloc (.cells M.cs 34)) w5 (fun b => (Value.slice ao nk ck).ownBlock = some b) → w5.cell? ⟨p, 3, none⟩ = some (.slice ao nk ck) ∧ w5.frozen? ⟨p, 3, none⟩ = false) := fun w5 hf => by
    have h4 : StB w5 p keep (ev.length + 1 + 1) (over keep ev) _ _ := (HW3.out.1.fr HAL.out id).fr hf (HW3.out.2.1.ne_type HW3.out.1 (by decide))
    exact ⟨h4.at.2.2.2.1, h4.frz 3⟩
  have hcsM := HCS.out
  rw [← hcsM]
  clear hcsM hi1 hx0 hx1 hx2
  refine takeA (i := 0) (v := .pointer (some ⟨p, 0, none⟩)) (some 18) rfl rfl (by kernel_rfl) (by kernel_rfl) (by kernel_rfl) (fun _ _ _ h => h) (Or.inl ⟨by kernel_rfl, fun w' => by kernel_rfl⟩) ?_
  simp only [Act.put, List.setIfInBounds_toArray, List.set_cons_zero, List.set_cons_succ]
  refine takeA (i := 1) (v := .pointer (some ⟨p, 0, none⟩)) (some 19) rfl rfl (by kernel_rfl) (by kernel_rfl) (by kernel_rfl) (fun _ _ _ h => h) (Or.inl ⟨by kernel_rfl, fun w' => by kernel_rfl⟩) ?_
  simp only [Act.put, List.setIfInBounds_toArray, List.set_cons_zero, List.set_cons_succ]
  refine takeA (i := 2) (v := .pointer (some ⟨p, 0, none⟩)) (some 20) rfl rfl (by kernel_rfl) (by kernel_rfl) (by kernel_rfl) (fun _ _ _ h => h) (Or.inl ⟨by kernel_rfl, fun w' => by kernel_rfl⟩) ?_
  simp only [Act.put, List.setIfInBounds_toArray, List.set_cons_zero, List.set_cons_succ]
  refine takeA (i := 3) (v := .pointer (some ⟨p, 3, none⟩)) (some 21) rfl rfl (by kernel_rfl) (by kernel_rfl) (by kernel_rfl) (fun _ _ _ h => h) (Or.inl ⟨by kernel_rfl, fun w' => by kernel_rfl⟩) ?_
  simp only [Act.put, List.setIfInBounds_toArray, List.set_cons_zero, List.set_cons_succ]
  have FIN : Hid (∀ (w5 : World) (ao5 : Option Addr) (cap5 : Nat), RowAt w5 34 42 (.slice ao5 (nk + 1) cap5) (nk + 1) (flatL msgV (keptL keep ev) ++ M.cs.toList) → Fr (w3.alloc (.cells M.cs 34)) w5 (fun b => (Value.slice ao nk ck).ownBlock = some b) →
      ((Value.slice ao5 (nk + 1) cap5).ownBlock = (Value.slice ao nk ck).ownBlock ∨ (Value.slice ao5 (nk + 1) cap5).ownBlock = some (w3.alloc (.cells M.cs 34)).heap.size ∧ ∀ k, k < (w3.alloc (.cells M.cs 34)).heap.size → w5.heap[k]? = (w3.alloc (.cells M.cs 34)).heap[k]?) →
      StB (w5.setCell ⟨p, 3, none⟩ (.slice ao5 (nk + 1) cap5)) p keep (ev.length + 1 + 1) (over keep ev) (.slice ao5 (nk + 1) cap5) vl ∧ RowAt (w5.setCell ⟨p, 3, none⟩ (.slice ao5 (nk + 1) cap5)) 34 42 (.slice ao5 (nk + 1) cap5) (nk + 1) (flatL msgV (keptL keep ev ++ [M])) ∧
        RowAt (w5.setCell ⟨p, 3, none⟩ (.slice ao5 (nk + 1) cap5)) 62 2 vl (lostL seqM keep ev).length (flatL rowV (lostL seqM keep ev)) ∧ Fr w (w5.setCell ⟨p, 3, none⟩ (.slice ao5 (nk + 1) cap5)) (ownS p (.slice ao nk ck) vl) ∧ newer w (.slice ao nk ck) (.slice ao5 (nk + 1) cap5)) := by
    intro w5 ao5 cap5 hrow hfr hnew
    have h35 : Fr w3 w5 (fun b => (Value.slice ao nk ck).ownBlock = some b) := HAL.out.trans hfr fun i _ q => by rcases q with q | q; exact q.elim; exact q
    have hset : Fr w5 (w5.setCell ⟨p, 3, none⟩ (.slice ao5 (nk + 1) cap5)) (fun b => b = p) := Fr.setCell _ _ _ _ rfl
    have hkp := HW3.out.2.1.ne_type HW3.out.1 (by decide)
    have hlp := HW3.out.2.2.1.ne_type HW3.out.1 (by decide)
    have hsz : w3.heap.size < (w3.alloc (.cells M.cs 34)).heap.size := by simp
    have hvp : (Value.slice ao5 (nk + 1) cap5).ownBlock ≠ some p := fun e => by
      rcases hnew with q | ⟨q, _⟩
      · rw [q] at e; exact hkp e
      · rw [q] at e; injection e with e; have := HW3.out.1.lt; omega
    refine ⟨(HW3.out.1.fr h35 hkp).set3 _, ?_, ?_, ?_, ?_⟩
    · rw [flatL_app, flatL_one]; exact hrow.fr hset fun b hb e => hvp (e ▸ hb)
    · refine (HW3.out.2.2.1.fr h35 fun b hb e => ?_).fr hset fun b hb e => hlp (e ▸ hb)
      obtain ⟨_, cur, hcur⟩ := HW3.out.2.1.lt e
      exact HW3.out.2.2.1.ne_type hcur (by decide) hb
    · refine (HW3.out.2.2.2.2.trans h35 (e3 := ownS p (.slice ao nk ck) vl) fun i _ q => ?_).trans hset fun i _ q => ?_
      · rcases q with q | q
        · exact .inl q
        · exact .inr (.inl q)
      · rcases q with q | q
        · exact q
        · exact .inl q
    · rcases hnew with q | ⟨q, _⟩
      · exact .inl q
      · exact .inr ⟨_, q, by have := HW3.out.2.2.2.2.size; omega⟩
  refine wpAny_ready (rs := [4, 5]) (by kernel_rfl) (by simp) ?_
  refine AllReady.cons rfl (fun K1 hK1 => ?_) (AllReady.cons rfl (fun K1 hK1 => ?_) AllReady.nil)
  · rw [if_pos (by kernel_rfl)]
    refine valR (d := some 22) rfl (.slice ao nk ck) (w' := w3) (by go_simp) ?_
    refine hK1 _ _ ?_
    clear hK1
    simp only [Act.put, List.setIfInBounds_toArray, List.set_cons_zero, List.set_cons_succ]
    refine wpAny_ready (rs := [5]) (by kernel_rfl) (by simp) ?_
    refine AllReady.cons rfl (fun K2 hK2 => ?_) AllReady.nil
    rw [if_pos (by kernel_rfl)]
    refine valR (d := some 23) rfl (.agg M.cs) (loadM_run HO.out (.tmp 3) rfl (by kernel_rfl)) ?_
    refine hK2 _ _ ?_
    clear hK2
    simp only [Act.put, List.setIfInBounds_toArray, List.set_cons_zero, List.set_cons_succ]
    refine wpAny_ready (rs := [6]) (by kernel_rfl) (by simp) ?_
    refine AllReady.cons rfl (fun K3 hK3 => ?_) AllReady.nil
    rw [if_pos (by kernel_rfl)]
    refine valR (d := some 24) rfl (.slice (some ⟨w3.heap.size, 0, none⟩) 1 1) (w' := w3.alloc (.cells M.cs 34)) (by kernel_rfl) ?_
    refine hK3 _ _ ?_
    clear hK3
    simp only [Act.put, List.setIfInBounds_toArray, List.set_cons_zero, List.set_cons_succ]
    refine wpAny_ready (rs := [7]) (by kernel_rfl) (by simp) ?_
    refine AllReady.cons rfl (fun K7 hK7 => ?_) AllReady.nil
    rw [if_pos (by kernel_rfl)]
    obtain ⟨v', w5, hr, hrow, hfr, hnew⟩ := HAP.out
    refine valR (d := some 25) rfl v' (exec_append (.tmp 22) (.tmp 24) 25 rfl (by kernel_rfl) (by kernel_rfl) hr) ?_
    refine hK7 _ _ ?_
    clear hK7 hr
    simp only [Act.put, List.setIfInBounds_toArray, List.set_cons_zero, List.set_cons_succ]
    obtain ⟨ao5, cap5, rfl, _⟩ := hrow.form
    obtain ⟨q3, q4⟩ := HST.out w5 hfr
    refine takeA (i := 8) (v := .pointer (some ⟨p, 0, none⟩)) (some 26) rfl rfl (by kernel_rfl) (by kernel_rfl) (by kernel_rfl) (fun _ _ _ h => h) (Or.inl ⟨by kernel_rfl, fun w' => by kernel_rfl⟩) ?_
    simp only [Act.put, List.setIfInBounds_toArray, List.set_cons_zero, List.set_cons_succ]
    refine takeA (i := 9) (v := .pointer (some ⟨p, 3, none⟩)) (some 27) rfl rfl (by kernel_rfl) (by kernel_rfl) (by kernel_rfl) (fun _ _ _ h => h) (Or.inl ⟨by kernel_rfl, fun w' => by kernel_rfl⟩) ?_
    simp only [Act.put, List.setIfInBounds_toArray, List.set_cons_zero, List.set_cons_succ]
    refine wpAny_ready (rs := [10]) (by kernel_rfl) (by simp) ?_
    refine AllReady.cons rfl (fun K8 hK8 => ?_) AllReady.nil
    rw [if_pos (by kernel_rfl)]
    refine skipR (d := none) rfl (w' := w5.setCell ⟨p, 3, none⟩ (.slice ao5 (nk + 1) cap5)) (by go_simp) ?_
    refine hK8 _ _ ?_
    clear hK8
    simp only [Act.put, List.setIfInBounds_toArray, List.set_cons_zero, List.set_cons_succ]
    refine wpAny_done (by kernel_rfl) ?_ _
    refine hKc _ _ ?_
    have HR : Hid _ := FIN.out w5 ao5 cap5 hrow hfr hnew
    clear hrow hfr hnew q3 q4 hKc
    generalize w5.setCell ⟨p, 3, none⟩ (.slice ao5 (nk + 1) cap5) = w6 at *
    clear HAP HST HAL HO FIN HW3 c3 c3a
    obtain ⟨c0, -, -, c3, -⟩ := HR.out.1.at
    generalize M.cs = csM at *
    rcases put_cases keep hk1 ev M with hp | hp
    · have hgt : ¬ (keep : Int) < (nk : Int) + 1 := by have h0 := hp.1; rw [HN.out] at h0; omega
      have HP : Hid _ := hp
      clear hp
      go_upto_region 7 with fail
      go_quiet (fail)
      go_wp2
      go_ret
      have hp := HP.out
      refine ⟨rfl, _, _, ⟨?_, ?_, ?_, HS.out.1.evm.put (HS.out.2.trans HNN.out.symm)⟩, HR.out.2.2.2.1.drewN _, HR.out.2.2.2.2, .inl rfl⟩
      · rw [List.length_append, hp.2.2.1]; exact HR.out.1
      · rw [hp.2.1, List.length_append, HN.out]; exact HR.out.2.1.keep fun _ _ => rfl
      · rw [hp.2.2.2]; exact HR.out.2.2.1.keep fun _ _ => rfl
    · have hgt : (keep : Int) < (nk : Int) + 1 := by have h0 := hp.1; rw [HN.out] at h0; omega
      have HP : Hid _ := hp.2
      clear hp
      go_upto_region 7 with fail
      go_quiet (fail)
      go_wp2_with (go_at_call 22; fail)
      obtain ⟨M0, KK, hMK, hmem, hkk, hov, hlo⟩ := HP.out
      have hevm := HS.out.1.evm.put (HS.out.2.trans HNN.out.symm)
      have hKl : KK.length = nk := by have := congrArg List.length hMK; rw [List.length_append, HN.out] at this; simp at this; omega
      have hb := put_bound hevm hmem
      have hdr := fun n => drop_any (w := w6.drewN n) M0 KK (lostL seqM keep ev) (seqM M0) (HR.out.1.fr ((Fr.refl w6 fun _ => False).drewN n) id) hKl rfl (by rw [← hMK]; exact HR.out.2.1.keep fun _ _ => rfl) (HR.out.2.2.1.keep fun _ _ => rfl) (hevm.seq hmem) hb.1 (by have := HE.out; have := hb.2; simp at this; omega) (by have := HE.out; have := over_le keep ev; omega) (by omega) (by have := HE.out; have := lostL_len keep HS.out.1.evm; omega) (fun r hr => by have := HE.out; have := lostL_to keep HS.out.1.evm hr; omega)
      refine (hdr _).mono ?_
      rintro e w7 ⟨rfl, vk7, vl7, h1, h2, h3, h4, h5, h6⟩
      clear hdr
      have HQ : Hid _ := And.intro h1 (And.intro h2 (And.intro h3 (And.intro h4 (And.intro h5 h6))))
      clear h1 h2 h3 h4 h5 h6 hb
      have HM : Hid _ := And.intro hkk (And.intro hov (And.intro hlo (And.intro hKl hevm)))
      clear hkk hov hlo hKl hevm hMK hmem
      go_wp2
      go_ret
      refine ⟨rfl, vk7, vl7, ⟨?_, ?_, ?_, HM.out.2.2.2.2⟩, ?_, ?_, ?_⟩
      · rw [List.length_append, HM.out.2.1]; exact HQ.out.1
      · rw [HM.out.1, HM.out.2.2.2.1]; exact HQ.out.2.1
      · rw [HM.out.2.2.1]; exact HQ.out.2.2.1
      · refine (HR.out.2.2.2.1.drewN _).trans HQ.out.2.2.2.1 fun i hi q => ?_
        rcases q with q | q | q | q
        · exact q
        · exact .inl q
        · rcases HR.out.2.2.2.2 with e1 | ⟨g1, e1, e2⟩
          · rw [e1] at q; exact .inr (.inl q)
          · rw [e1] at q; injection q with q; omega
        · exact .inr (.inr q)
      · unfold newer; rw [HQ.out.2.2.2.2.1]; exact HR.out.2.2.2.2
      · rcases HQ.out.2.2.2.2.2 with e1 | ⟨g1, e1, e2⟩
        · exact .inl e1
        · exact .inr ⟨g1, e1, Nat.le_trans HR.out.2.2.2.1.size e2⟩
  · rw [if_pos (by kernel_rfl)]
    refine valR (d := some 23) rfl (.agg M.cs) (loadM_run HO.out (.tmp 3) rfl (by kernel_rfl)) ?_
    refine hK1 _ _ ?_
    clear hK1
    simp only [Act.put, List.setIfInBounds_toArray, List.set_cons_zero, List.set_cons_succ]
    refine wpAny_ready (rs := [4, 6]) (by kernel_rfl) (by simp) ?_
    refine AllReady.cons rfl (fun K2 hK2 => ?_) (AllReady.cons rfl (fun K2 hK2 => ?_) AllReady.nil)
    · rw [if_pos (by kernel_rfl)]
      refine valR (d := some 22) rfl (.slice ao nk ck) (w' := w3) (by go_simp) ?_
      refine hK2 _ _ ?_
      clear hK2
      simp only [Act.put, List.setIfInBounds_toArray, List.set_cons_zero, List.set_cons_succ]
      refine wpAny_ready (rs := [6]) (by kernel_rfl) (by simp) ?_
      refine AllReady.cons rfl (fun K3 hK3 => ?_) AllReady.nil
      rw [if_pos (by kernel_rfl)]
      refine valR (d := some 24) rfl (.slice (some ⟨w3.heap.size, 0, none⟩) 1 1) (w' := w3.alloc (.cells M.cs 34)) (by kernel_rfl) ?_
      refine hK3 _ _ ?_
      clear hK3
      simp only [Act.put, List.setIfInBounds_toArray, List.set_cons_zero, List.set_cons_succ]
      refine wpAny_ready (rs := [7]) (by kernel_rfl) (by simp) ?_
      refine AllReady.cons rfl (fun K7 hK7 => ?_) AllReady.nil
      rw [if_pos (by kernel_rfl)]
      obtain ⟨v', w5, hr, hrow, hfr, hnew⟩ := HAP.out
      refine valR (d := some 25) rfl v' (exec_append (.tmp 22) (.tmp 24) 25 rfl (by kernel_rfl) (by kernel_rfl) hr) ?_
      refine hK7 _ _ ?_
      clear hK7 hr
      simp only [Act.put, List.setIfInBounds_toArray, List.set_cons_zero, List.set_cons_succ]
      obtain ⟨ao5, cap5, rfl, _⟩ := hrow.form
      obtain ⟨q3, q4⟩ := HST.out w5 hfr
      refine takeA (i := 8) (v := .pointer (some ⟨p, 0, none⟩)) (some 26) rfl rfl (by kernel_rfl) (by kernel_rfl) (by kernel_rfl) (fun _ _ _ h => h) (Or.inl ⟨by kernel_rfl, fun w' => by kernel_rfl⟩) ?_
      simp only [Act.put, List.setIfInBounds_toArray, List.set_cons_zero, List.set_cons_succ]
      refine takeA (i := 9) (v := .pointer (some ⟨p, 3, none⟩)) (some 27) rfl rfl (by kernel_rfl) (by kernel_rfl) (by kernel_rfl) (fun _ _ _ h => h) (Or.inl ⟨by kernel_rfl, fun w' => by kernel_rfl⟩) ?_
      simp only [Act.put, List.setIfInBounds_toArray, List.set_cons_zero, List.set_cons_succ]
      refine wpAny_ready (rs := [10]) (by kernel_rfl) (by simp) ?_
      refine AllReady.cons rfl (fun K8 hK8 => ?_) AllReady.nil
      rw [if_pos (by kernel_rfl)]
      refine skipR (d := none) rfl (w' := w5.setCell ⟨p, 3, none⟩ (.slice ao5 (nk + 1) cap5)) (by go_simp) ?_
      refine hK8 _ _ ?_
      clear hK8
      simp only [Act.put, List.setIfInBounds_toArray, List.set_cons_zero, List.set_cons_succ]
      refine wpAny_done (by kernel_rfl) ?_ _
      refine hKc _ _ ?_
      have HR : Hid _ := FIN.out w5 ao5 cap5 hrow hfr hnew
      clear hrow hfr hnew q3 q4 hKc
      generalize w5.setCell ⟨p, 3, none⟩ (.slice ao5 (nk + 1) cap5) = w6 at *
      clear HAP HST HAL HO FIN HW3 c3 c3a
      obtain ⟨c0, -, -, c3, -⟩ := HR.out.1.at
      generalize M.cs = csM at *
      rcases put_cases keep hk1 ev M with hp | hp
      · have hgt : ¬ (keep : Int) < (nk : Int) + 1 := by have h0 := hp.1; rw [HN.out] at h0; omega
        have HP : Hid _ := hp
        clear hp
        go_upto_region 7 with fail
        go_quiet (fail)
        go_wp2
        go_ret
        have hp := HP.out
        refine ⟨rfl, _, _, ⟨?_, ?_, ?_, HS.out.1.evm.put (HS.out.2.trans HNN.out.symm)⟩, HR.out.2.2.2.1.drewN _, HR.out.2.2.2.2, .inl rfl⟩
        · rw [List.length_append, hp.2.2.1]; exact HR.out.1
        · rw [hp.2.1, List.length_append, HN.out]; exact HR.out.2.1.keep fun _ _ => rfl
        · rw [hp.2.2.2]; exact HR.out.2.2.1.keep fun _ _ => rfl
      · have hgt : (keep : Int) < (nk : Int) + 1 := by have h0 := hp.1; rw [HN.out] at h0; omega
        have HP : Hid _ := hp.2
        clear hp
        go_upto_region 7 with fail
        go_quiet (fail)
        go_wp2_with (go_at_call 22; fail)
        obtain ⟨M0, KK, hMK, hmem, hkk, hov, hlo⟩ := HP.out
        have hevm := HS.out.1.evm.put (HS.out.2.trans HNN.out.symm)
        have hKl : KK.length = nk := by have := congrArg List.length hMK; rw [List.length_append, HN.out] at this; simp at this; omega
        have hb := put_bound hevm hmem
        have hdr := fun n => drop_any (w := w6.drewN n) M0 KK (lostL seqM keep ev) (seqM M0) (HR.out.1.fr ((Fr.refl w6 fun _ => False).drewN n) id) hKl rfl (by rw [← hMK]; exact HR.out.2.1.keep fun _ _ => rfl) (HR.out.2.2.1.keep fun _ _ => rfl) (hevm.seq hmem) hb.1 (by have := HE.out; have := hb.2; simp at this; omega) (by have := HE.out; have := over_le keep ev; omega) (by omega) (by have := HE.out; have := lostL_len keep HS.out.1.evm; omega) (fun r hr => by have := HE.out; have := lostL_to keep HS.out.1.evm hr; omega)
        refine (hdr _).mono ?_
        rintro e w7 ⟨rfl, vk7, vl7, h1, h2, h3, h4, h5, h6⟩
        clear hdr
        have HQ : Hid _ := And.intro h1 (And.intro h2 (And.intro h3 (And.intro h4 (And.intro h5 h6))))
        clear h1 h2 h3 h4 h5 h6 hb
        have HM : Hid _ := And.intro hkk (And.intro hov (And.intro hlo (And.intro hKl hevm)))
        clear hkk hov hlo hKl hevm hMK hmem
        go_wp2
        go_ret
        refine ⟨rfl, vk7, vl7, ⟨?_, ?_, ?_, HM.out.2.2.2.2⟩, ?_, ?_, ?_⟩
        · rw [List.length_append, HM.out.2.1]; exact HQ.out.1
        · rw [HM.out.1, HM.out.2.2.2.1]; exact HQ.out.2.1
        · rw [HM.out.2.2.1]; exact HQ.out.2.2.1
        · refine (HR.out.2.2.2.1.drewN _).trans HQ.out.2.2.2.1 fun i hi q => ?_
          rcases q with q | q | q | q
          · exact q
          · exact .inl q
          · rcases HR.out.2.2.2.2 with e1 | ⟨g1, e1, e2⟩
            · rw [e1] at q; exact .inr (.inl q)
            · rw [e1] at q; injection q with q; omega
          · exact .inr (.inr q)
        · unfold newer; rw [HQ.out.2.2.2.2.1]; exact HR.out.2.2.2.2
        · rcases HQ.out.2.2.2.2.2 with e1 | ⟨g1, e1, e2⟩
          · exact .inl e1
          · exact .inr ⟨g1, e1, Nat.le_trans HR.out.2.2.2.1.size e2⟩
    · rw [if_pos (by kernel_rfl)]
      refine valR (d := some 24) rfl (.slice (some ⟨w3.heap.size, 0, none⟩) 1 1) (w' := w3.alloc (.cells M.cs 34)) (by kernel_rfl) ?_
      refine hK2 _ _ ?_
      clear hK2
      simp only [Act.put, List.setIfInBounds_toArray, List.set_cons_zero, List.set_cons_succ]
      refine wpAny_ready (rs := [4]) (by kernel_rfl) (by simp) ?_
      refine AllReady.cons rfl (fun K3 hK3 => ?_) AllReady.nil
      rw [if_pos (by kernel_rfl)]
      refine valR (d := some 22) rfl (.slice ao nk ck) (w' := w3.alloc (.cells M.cs 34)) (by go_simp) ?_
      refine hK3 _ _ ?_
      clear hK3
      simp only [Act.put, List.setIfInBounds_toArray, List.set_cons_zero, List.set_cons_succ]
      refine wpAny_ready (rs := [7]) (by kernel_rfl) (by simp) ?_
      refine AllReady.cons rfl (fun K7 hK7 => ?_) AllReady.nil
      rw [if_pos (by kernel_rfl)]
      obtain ⟨v', w5, hr, hrow, hfr, hnew⟩ := HAP.out
      refine valR (d := some 25) rfl v' (exec_append (.tmp 22) (.tmp 24) 25 rfl (by kernel_rfl) (by kernel_rfl) hr) ?_
      refine hK7 _ _ ?_
      clear hK7 hr
      simp only [Act.put, List.setIfInBounds_toArray, List.set_cons_zero, List.set_cons_succ]
      obtain ⟨ao5, cap5, rfl, _⟩ := hrow.form
      obtain ⟨q3, q4⟩ := HST.out w5 hfr
      refine takeA (i := 8) (v := .pointer (some ⟨p, 0, none⟩)) (some 26) rfl rfl (by kernel_rfl) (by kernel_rfl) (by kernel_rfl) (fun _ _ _ h => h) (Or.inl ⟨by kernel_rfl, fun w' => by kernel_rfl⟩) ?_
      simp only [Act.put, List.setIfInBounds_toArray, List.set_cons_zero, List.set_cons_succ]
      refine takeA (i := 9) (v := .pointer (some ⟨p, 3, none⟩)) (some 27) rfl rfl (by kernel_rfl) (by kernel_rfl) (by kernel_rfl) (fun _ _ _ h => h) (Or.inl ⟨by kernel_rfl, fun w' => by kernel_rfl⟩) ?_
      simp only [Act.put, List.setIfInBounds_toArray, List.set_cons_zero, List.set_cons_succ]
      refine wpAny_ready (rs := [10]) (by kernel_rfl) (by simp) ?_
      refine AllReady.cons rfl (fun K8 hK8 => ?_) AllReady.nil
      rw [if_pos (by kernel_rfl)]
      refine skipR (d := none) rfl (w' := w5.setCell ⟨p, 3, none⟩ (.slice ao5 (nk + 1) cap5)) (by go_simp) ?_
      refine hK8 _ _ ?_
      clear hK8
      simp only [Act.put, List.setIfInBounds_toArray, List.set_cons_zero, List.set_cons_succ]
      refine wpAny_done (by kernel_rfl) ?_ _
      refine hKc _ _ ?_
      have HR : Hid _ := FIN.out w5 ao5 cap5 hrow hfr hnew
      clear hrow hfr hnew q3 q4 hKc
      generalize w5.setCell ⟨p, 3, none⟩ (.slice ao5 (nk + 1) cap5) = w6 at *
      clear HAP HST HAL HO FIN HW3 c3 c3a
      obtain ⟨c0, -, -, c3, -⟩ := HR.out.1.at
      generalize M.cs = csM at *
      rcases put_cases keep hk1 ev M with hp | hp
      · have hgt : ¬ (keep : Int) < (nk : Int) + 1 := by have h0 := hp.1; rw [HN.out] at h0; omega
        have HP : Hid _ := hp
        clear hp
        go_upto_region 7 with fail
        go_quiet (fail)
        go_wp2
        go_ret
        have hp := HP.out
        refine ⟨rfl, _, _, ⟨?_, ?_, ?_, HS.out.1.evm.put (HS.out.2.trans HNN.out.symm)⟩, HR.out.2.2.2.1.drewN _, HR.out.2.2.2.2, .inl rfl⟩
        · rw [List.length_append, hp.2.2.1]; exact HR.out.1
        · rw [hp.2.1, List.length_append, HN.out]; exact HR.out.2.1.keep fun _ _ => rfl
        · rw [hp.2.2.2]; exact HR.out.2.2.1.keep fun _ _ => rfl
      · have hgt : (keep : Int) < (nk : Int) + 1 := by have h0 := hp.1; rw [HN.out] at h0; omega
        have HP : Hid _ := hp.2
        clear hp
        go_upto_region 7 with fail
        go_quiet (fail)
        go_wp2_with (go_at_call 22; fail)
        obtain ⟨M0, KK, hMK, hmem, hkk, hov, hlo⟩ := HP.out
        have hevm := HS.out.1.evm.put (HS.out.2.trans HNN.out.symm)
        have hKl : KK.length = nk := by have := congrArg List.length hMK; rw [List.length_append, HN.out] at this; simp at this; omega
        have hb := put_bound hevm hmem
        have hdr := fun n => drop_any (w := w6.drewN n) M0 KK (lostL seqM keep ev) (seqM M0) (HR.out.1.fr ((Fr.refl w6 fun _ => False).drewN n) id) hKl rfl (by rw [← hMK]; exact HR.out.2.1.keep fun _ _ => rfl) (HR.out.2.2.1.keep fun _ _ => rfl) (hevm.seq hmem) hb.1 (by have := HE.out; have := hb.2; simp at this; omega) (by have := HE.out; have := over_le keep ev; omega) (by omega) (by have := HE.out; have := lostL_len keep HS.out.1.evm; omega) (fun r hr => by have := HE.out; have := lostL_to keep HS.out.1.evm hr; omega)
        refine (hdr _).mono ?_
        rintro e w7 ⟨rfl, vk7, vl7, h1, h2, h3, h4, h5, h6⟩
        clear hdr
        have HQ : Hid _ := And.intro h1 (And.intro h2 (And.intro h3 (And.intro h4 (And.intro h5 h6))))
        clear h1 h2 h3 h4 h5 h6 hb
        have HM : Hid _ := And.intro hkk (And.intro hov (And.intro hlo (And.intro hKl hevm)))
        clear hkk hov hlo hKl hevm hMK hmem
        go_wp2
        go_ret
        refine ⟨rfl, vk7, vl7, ⟨?_, ?_, ?_, HM.out.2.2.2.2⟩, ?_, ?_, ?_⟩
        · rw [List.length_append, HM.out.2.1]; exact HQ.out.1
        · rw [HM.out.1, HM.out.2.2.2.1]; exact HQ.out.2.1
        · rw [HM.out.2.2.1]; exact HQ.out.2.2.1
        · refine (HR.out.2.2.2.1.drewN _).trans HQ.out.2.2.2.1 fun i hi q => ?_
          rcases q with q | q | q | q
          · exact q
          · exact .inl q
          · rcases HR.out.2.2.2.2 with e1 | ⟨g1, e1, e2⟩
            · rw [e1] at q; exact .inr (.inl q)
            · rw [e1] at q; injection q with q; omega
          · exact .inr (.inr q)
        · unfold newer; rw [HQ.out.2.2.2.2.1]; exact HR.out.2.2.2.2
        · rcases HQ.out.2.2.2.2.2 with e1 | ⟨g1, e1, e2⟩
          · exact .inl e1
          · exact .inr ⟨g1, e1, Nat.le_trans HR.out.2.2.2.1.size e2⟩
end Go.Proofs.Ytekkckfoikpljaa
