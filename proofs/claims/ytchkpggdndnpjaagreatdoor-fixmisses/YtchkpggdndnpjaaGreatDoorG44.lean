import Derived.Test.YtchkpggdndnpjaaGreatDoorG42

namespace Go.Proofs.YtchkpggdndnpjaaGreatDoor
set_option linter.unusedVariables false
set_option linter.unusedSimpArgs false
open Go.RowKit Go.Great

theorem results_ttc {P : Program} {fn : Func} {p u v : Tmp} {ty : TypeId} (h : fn.results = #[.tmp u, .tmp v, .cell p ty]) (tmps : Array Value) (w : World) (g : Nat) (t : TypeId) (cs : Array Value) (fr : Nat × Nat) (d : TypeDesc)
    (hp : tmps.getD p undef = .pointer (some ⟨g, 0, none⟩)) (hg : w.heap[g]? = some (.cells cs t fr))
    (hu : P.underlying ty = some d) (hd : (match d with | .struct _ | .array _ _ => true | _ => false) = true) (hi : (P.info? ty).map (·.size) = some cs.size) :
    (results fn tmps).run P w = .ok (.tuple #[tmps.getD u undef, tmps.getD v undef, .agg cs]) w := by
  have hp' : tmps[p]?.getD undef = .pointer (some ⟨g, 0, none⟩) := by simpa using hp
  simp [results, h, hp', asAddr, run_loadVar_row w g t ty cs fr d hg hu hd hi]
theorem exec_loadM {op : Oper} {a : Act} {w : World} {g : Nat} {M : Msg} (h : OwnM w g M) (x : Operand) (ho : op.op = .load 25 x) (hx : a.eval x = .pointer (some ⟨g, 0, none⟩)) : (execOp a.eval op).run Tryz.prog w = .ok (.value (.agg M.cs)) w := by
  unfold execOp
  simp only [ho, hx, Instr.loadAt, Instr.sureAddr, Sem.run_bind, Sem.run_pure, Result.andThen_ok, h.load]
theorem setRow_same {w : World} {g : Nat} {cs : Array Value} {t : TypeId} {fr : Nat × Nat} (h : w.heap[g]? = some (.cells cs t fr)) : w.setRow g cs = w := by
  obtain ⟨hlt, hv⟩ := Array.getElem?_eq_some_iff.1 h
  have e : (w.setRow g cs).heap = w.heap := by
    unfold World.setRow
    dsimp only
    apply Array.ext (by simp)
    intro i h1 h2
    rw [Array.getElem_modify]
    split
    · rename_i e
      subst e
      rw [hv]
    · rfl
  have e2 : w.setRow g cs = { w with heap := (w.setRow g cs).heap } := rfl
  rw [e2, e]
/-- The reason of an error. -/
def rsN (e : Int) : Int := if e = 50 then 1 else if e = 53 then 2 else if e = 31 then 5 else if e = 30 then 11 else if e = 51 then 13 else 0
set_option maxRecDepth 100000 in
theorem reasonOf_any (e : Int) (w : World) : Calls Tryz.prog 40 #[.int .i64 e] w fun x w' => x = .returned (.int .i64 (rsN e)) ∧ w' = w := by
  by_cases h1 : e = 50
  · subst h1
    go_enter Tryz.func40, Tryz.ntmps40
    go_wp2
    go_ret
    exact ⟨rfl, rfl⟩
  by_cases h2 : e = 53
  · subst h2
    go_enter Tryz.func40, Tryz.ntmps40
    go_wp2
    go_ret
    exact ⟨rfl, rfl⟩
  by_cases h3 : e = 31
  · subst h3
    go_enter Tryz.func40, Tryz.ntmps40
    go_wp2
    go_ret
    exact ⟨rfl, rfl⟩
  by_cases h4 : e = 30
  · subst h4
    go_enter Tryz.func40, Tryz.ntmps40
    go_wp2
    go_ret
    exact ⟨rfl, rfl⟩
  by_cases h5 : e = 51
  · subst h5
    go_enter Tryz.func40, Tryz.ntmps40
    go_wp2
    go_ret
    exact ⟨rfl, rfl⟩
  rw [show rsN e = 0 by simp [rsN, h1, h2, h3, h4, h5]]
  have b1 := beq_no h1
  have b2 := beq_no h2
  have b3 := beq_no h3
  have b4 := beq_no h4
  have b5 := beq_no h5
  clear h1 h2 h3 h4 h5
  go_enter Tryz.func40, Tryz.ntmps40
  go_wp2
  go_ret
  exact ⟨rfl, rfl⟩
/-- What Why tells. -/
def whR (l : List UInt8) : Int := match splitL l with | .error _ => -1 | .ok fs => match rdX fs with | none => 0 | some (e, _, _) => rsN e
def whT (l : List UInt8) : Int := match splitL l with | .error _ => 0 | .ok fs => match rdX fs with | none => 0 | some (_, _, t) => t
def whM (l : List UInt8) : Msg := match splitL l with | .error _ => zeroM | .ok fs => rdM fs
set_option maxRecDepth 100000 in
set_option maxHeartbeats 1000000 in
theorem Why_any (v : Value) (l : List UInt8) (w : World) (hl : l.length ≤ 9223372036854775807) (hv : SrcB w v l) (hM : Mon w) (hp : Pow w) (hE : ETy w) :
    Calls Tryz.prog 18 #[v] w fun x w' => x = .returned (.tuple #[.int .i64 (whR l), .int .i64 (whT l), .agg (whM l).cs]) ∧ Below w.heap.size w w' := by
  have HE : Hid (ETy w) := hE
  have HB1 : Hid (OwnM (w.alloc (.cells zeroM.cs 25)) w.heap.size zeroM ∧ Below w.heap.size w (w.alloc (.cells zeroM.cs 25))) := ⟨heap_alloc_new w _, (Below.refl _ w).alloc (Nat.le_refl _) _⟩
  have HRd := read_any v l _ hl (hv.below HB1.out.2) (hM.below HB1.out.2 hM.lt) (hp.below HB1.out.2)
  obtain ⟨r0, hr0⟩ : ∃ r0, whR l = r0 := ⟨_, rfl⟩
  obtain ⟨t0, ht0⟩ : ∃ t0, whT l = t0 := ⟨_, rfl⟩
  obtain ⟨m0, hm0⟩ : ∃ m0, whM l = m0 := ⟨_, rfl⟩
  have HR : Hid (whR l = r0 ∧ whT l = t0 ∧ whM l = m0) := ⟨hr0, ht0, hm0⟩
  rw [hr0, ht0, hm0]
  clear hM hp hv hl hE hr0 ht0 hm0
  go_enter Tryz.func18, Tryz.ntmps18
  go_upto_region 1 with fail
  generalize hW : World.alloc w _ = w1
  have hW1 : w.alloc (.cells zeroM.cs 25) = w1 := hW
  rw [hW1] at HRd HB1
  clear hW hW1
  rename_i K1 hK1
  refine wp_region_lit ?_
  refine wpList_runTo rfl (some 8) rfl v w1 (by kernel_rfl) ?_
  refine wpList_callF rfl (some 9) rfl 21 #[v] (by kernel_rfl) HRd ?_
  rintro e w2 hrd
  obtain ⟨GM, ev, hxe, HF2⟩ : ∃ GM ev, e = .returned (.tuple #[.agg (Msg.cs GM), ev]) ∧ Hid (Below w1.heap.size w1 w2 ∧ match splitL l with | .error (e, a) => GM = zeroM ∧ ∃ g, w1.heap.size ≤ g ∧ ev = .iface 56 (.pointer (some ⟨g, 0, none⟩)) ∧ FaultAt w2 g e a | .ok fs => GM = rdM fs ∧ ErrAt w2 w1.heap.size ev (rdX fs)) := by
    obtain ⟨hb, h⟩ := hrd
    revert h
    cases splitL l with
    | error x =>
      obtain ⟨e1, a1⟩ := x
      rintro ⟨g, hg, rfl, hf⟩
      exact ⟨zeroM, _, rfl, hb, rfl, g, hg, rfl, hf⟩
    | ok fs =>
      rintro ⟨ev, rfl, hf⟩
      exact ⟨rdM fs, _, rfl, hb, rfl, hf⟩
  subst hxe
  clear hrd HRd
  refine ⟨_, rfl, ?_⟩
  have HO2 : Hid (OwnM w2 w.heap.size zeroM ∧ Below w.heap.size w w2 ∧ w.heap.size < w1.heap.size) := ⟨HB1.out.1.low HF2.out.1, HB1.out.2.trans (HF2.out.1.mono HB1.out.2.size), HB1.out.1.lt⟩
  refine wpList_runTo rfl (some 7) rfl (.tuple #[.agg GM.cs, ev]) w2 (by kernel_rfl) ?_
  refine wpList_runTo rfl (some 10) rfl (.agg GM.cs) w2 (by kernel_rfl) ?_
  refine wpList_runTo rfl (some 11) rfl ev w2 (by kernel_rfl) ?_
  refine wpList_store_row rfl 25 (.tmp 4) (.tmp 10) rfl w.heap.size GM.cs (by rfl) (by rfl) 25 _ HO2.out.1 (by rw [Msg.cs_size]; kernel_rfl) (by rw [Msg.cs_size, Msg.cs_size]) (Msg.cs_one _) ?_
  refine wpList_runTo rfl (some 5) rfl ev (w2.setRow w.heap.size GM.cs) (by kernel_rfl) ?_
  refine wpList_nil ?_
  refine hK1 _ _ ?_
  clear hK1
  simp only [Act.put, List.setIfInBounds_toArray, List.set_cons_zero, List.set_cons_succ]
  have HD : Hid (GI w (w2.setRow w.heap.size GM.cs) w.heap.size GM) := ⟨setRow_heap _ _ _ _ _ _ HO2.out.1, below_setRow HO2.out.2.1 (Nat.le_refl _) _⟩
  have HF4 : Hid (match splitL l with | .error (e, a) => GM = zeroM ∧ ∃ g, w.heap.size < g ∧ ev = .iface 56 (.pointer (some ⟨g, 0, none⟩)) ∧ FaultAt (w2.setRow w.heap.size GM.cs) g e a | .ok fs => GM = rdM fs ∧ ErrAt (w2.setRow w.heap.size GM.cs) w.heap.size ev (rdX fs)) := by
    obtain ⟨q1, q2⟩ := HF2.out
    have hlt : w.heap.size < w1.heap.size := HO2.out.2.2
    revert q2
    cases splitL l with
    | error x =>
      obtain ⟨e1, a1⟩ := x
      rintro ⟨h1, g, hg, h2, hf⟩
      exact ⟨h1, g, by omega, h2, (setRow_other _ _ _ _ (by omega)).trans hf⟩
    | ok fs =>
      rintro ⟨h1, h2⟩
      exact ⟨h1, h2.row hlt _⟩
  clear HF2 HB1 HO2
  generalize w2.setRow w.heap.size GM.cs = w3 at *
  have HC : Hid ((∃ g e a, ev = .iface 56 (.pointer (some ⟨g, 0, none⟩)) ∧ FaultAt w3 g e a ∧ r0 = -1 ∧ t0 = 0 ∧ m0 = zeroM) ∨ (ev = .nilIface ∧ r0 = 0 ∧ t0 = 0 ∧ GM = m0) ∨ (∃ h e a, ev = .iface 92 (.pointer (some ⟨h, 0, none⟩)) ∧ WrongAt w3 w.heap.size h e a t0 ∧ r0 = rsN e ∧ GM = m0)) := by
    have h4 := HF4.out
    have hR := HR.out
    unfold whR whT whM at hR
    revert h4 hR
    cases splitL l with
    | error x =>
      obtain ⟨e1, a1⟩ := x
      rintro ⟨-, g, hg1, rfl, hf⟩ ⟨hR1, hR2, hR3⟩
      exact .inl ⟨g, e1, a1, rfl, hf, hR1.symm, hR2.symm, hR3.symm⟩
    | ok fs =>
      rintro ⟨rfl, he⟩ ⟨hR1, hR2, hR3⟩
      dsimp only at hR1 hR2 hR3
      revert he hR1 hR2
      cases rdX fs with
      | none =>
        intro he hR1 hR2
        exact .inr (.inl ⟨he, hR1.symm, hR2.symm, hR3⟩)
      | some x =>
        obtain ⟨e1, a1, t1⟩ := x
        rintro ⟨h, rfl, hw⟩ hR1 hR2
        dsimp only at hR1 hR2
        subst hR2
        exact .inr (.inr ⟨h, e1, a1, rfl, hw, hR1.symm, hR3⟩)
  clear HF4 HR
  rcases HC.out with ⟨g, e0, a0, rfl, hfa, rfl, rfl, rfl⟩ | ⟨rfl, rfl, rfl, rfl⟩ | ⟨h, e0, a0, rfl, hwr, rfl, rfl⟩
  · clear HC
    go_upto_region 5 with fail
    generalize hW4 : World.alloc w3 _ = w4
    have hb4 : Below w3.heap.size w3 w4 := by rw [← hW4]; exact (Below.refl _ w3).alloc (Nat.le_refl _) _
    have hvar : w4.heap[w3.heap.size]? = some (.cells #[.pointer none] 92 (0, 0)) := by rw [← hW4]; exact heap_alloc_new w3 _
    have HD4 : Hid (GI w w4 w.heap.size GM) := HD.out.low hb4
    have hf4 : FaultAt w4 g e0 a0 := (hb4.block _ (Array.getElem?_eq_some_iff.1 hfa).1).trans hfa
    have hcall := as_FW g e0 ⟨w3.heap.size, 0, none⟩ _ w4 (HE.out.below HD4.out.below) (cell_of_row _ _ 0 _ _ _ hvar) (frozen_of_row w4 w3.heap.size 0 _ _ hvar) (cell_of_row _ _ 1 _ _ _ hf4)
    clear hvar hf4 hfa hb4 hW4 HE HD
    go_wp2_with (go_at_call 22; fail)
    refine hcall.mono ?_
    rintro e w5 ⟨rfl, hb5⟩
    have HD5 : Hid (GI w w5 w.heap.size GM) := HD4.out.low hb5
    clear hcall hb5 HD4
    go_upto_region 6 with fail
    rename_i K hK
    refine wp_region_lit ?_
    refine wpList_runTo rfl (some 19) rfl (.agg zeroM.cs) w5 (by kernel_rfl) ?_
    refine wpList_runTo rfl (some 2) rfl (.int .i64 (-1)) w5 (by kernel_rfl) ?_
    refine wpList_runTo rfl (some 3) rfl (.int .i64 0) w5 (by kernel_rfl) ?_
    refine wpList_store_row rfl 25 (.tmp 4) (.tmp 19) rfl w.heap.size zeroM.cs (by rfl) (by rfl) 25 _ HD5.out.msg (by rw [Msg.cs_size]; kernel_rfl) (by rw [Msg.cs_size, Msg.cs_size]) (Msg.cs_one _) ?_
    refine wpList_nil ?_
    refine hK _ _ ?_
    apply wp_ret
    simp only [Exit.then]
    refine bodyPost_ret (results_ttc (fn := Tryz.f18) (p := 4) (u := 2) (v := 3) (ty := 25) rfl _ _ w.heap.size 25 zeroM.cs (0, 0) _ (by rfl) (setRow_heap _ _ _ _ _ _ HD5.out.msg) Tryz.underlying25 rfl (by rw [Msg.cs_size]; kernel_rfl)) (by rfl) ?_
    exact ⟨rfl, below_setRow HD5.out.below (Nat.le_refl _) _⟩
  · clear HC
    go_upto_region 3 with fail
    rename_i K4 hK4
    refine wp_region_held (S := fun w' => OwnM w' w.heap.size GM) (by kernel_rfl) ?_
    change wpAnyH _ _ _ _ _ _ _ _ (World.drew _)
    have hS5 : OwnM w3.drew w.heap.size GM := HD.out.msg
    have HB : Hid (Below w.heap.size w w3.drew) := below_drewN HD.out.below 1
    clear HD
    generalize w3.drew = w6 at *
    refine takeR (i := 0) (v := .agg GM.cs) (some 14) rfl rfl (by kernel_rfl) (by kernel_rfl) (by kernel_rfl) (fun _ _ _ h => h) (Or.inl ⟨by kernel_rfl, fun w' hSw => by exact exec_loadM hSw (.tmp 4) rfl rfl⟩) hS5 ?_
    simp only [Act.put, List.setIfInBounds_toArray, List.set_cons_zero, List.set_cons_succ]
    refine takeR (i := 1) (v := .int .i64 0) (some 2) rfl rfl (by kernel_rfl) (by kernel_rfl) (by kernel_rfl) (fun _ _ _ h => h) (Or.inl ⟨by kernel_rfl, fun w' hSw => by kernel_rfl⟩) hS5 ?_
    simp only [Act.put, List.setIfInBounds_toArray, List.set_cons_zero, List.set_cons_succ]
    refine takeR (i := 2) (v := .int .i64 0) (some 3) rfl rfl (by kernel_rfl) (by kernel_rfl) (by kernel_rfl) (fun _ _ _ h => h) (Or.inl ⟨by kernel_rfl, fun w' hSw => by kernel_rfl⟩) hS5 ?_
    simp only [Act.put, List.setIfInBounds_toArray, List.set_cons_zero, List.set_cons_succ]
    refine wpAnyH_ready (rs := [3]) (by kernel_rfl) (by simp) ?_
    refine AllReadyH.cons rfl (fun K1 hK1 => ?_) AllReadyH.nil
    rw [if_pos (by kernel_rfl)]
    refine wp_store_row 25 (.tmp 4) (.tmp 14) rfl w.heap.size GM.cs (by rfl) (by rfl) 25 _ hS5 (by rw [Msg.cs_size]; kernel_rfl) rfl (Msg.cs_one _) ?_
    refine hK1.out _ _ (setRow_heap _ _ _ _ _ _ hS5) (fun _ => ?_)
    clear hK1
    simp only [Act.put, List.setIfInBounds_toArray, List.set_cons_zero, List.set_cons_succ]
    refine wpAnyH_done (by kernel_rfl) ?_ _
    refine hK4 _ _ ?_
    apply wp_ret
    simp only [Exit.then]
    refine bodyPost_ret (results_ttc (fn := Tryz.f18) (p := 4) (u := 2) (v := 3) (ty := 25) rfl _ _ w.heap.size 25 GM.cs (0, 0) _ (by rfl) (setRow_heap _ _ _ _ _ _ hS5) Tryz.underlying25 rfl (by rw [Msg.cs_size]; kernel_rfl)) (by rfl) ?_
    exact ⟨rfl, below_setRow HB.out (Nat.le_refl _) _⟩
  · clear HC
    obtain ⟨f, hh, hf, hwh, hfa⟩ := hwr
    go_upto_region 5 with fail
    generalize hW4 : World.alloc w3 _ = w4
    have hb4 : Below w3.heap.size w3 w4 := by rw [← hW4]; exact (Below.refl _ w3).alloc (Nat.le_refl _) _
    have hvar : w4.heap[w3.heap.size]? = some (.cells #[.pointer none] 92 (0, 0)) := by rw [← hW4]; exact heap_alloc_new w3 _
    have HD4 : Hid (GI w w4 w.heap.size GM) := HD.out.low hb4
    have hwh4 : w4.heap[h]? = some (.cells #[.int .i64 t0, .pointer (some ⟨f, 0, none⟩)] 96 (0, 0)) := (hb4.block _ (Array.getElem?_eq_some_iff.1 hwh).1).trans hwh
    have hfa4 : FaultAt w4 f e0 a0 := (hb4.block _ (Array.getElem?_eq_some_iff.1 hfa).1).trans hfa
    have hcall := as_W ⟨h, 0, none⟩ ⟨w3.heap.size, 0, none⟩ _ w4 (HE.out.below HD4.out.below) (cell_of_row _ _ 0 _ _ _ hvar) (frozen_of_row w4 w3.heap.size 0 _ _ hvar)
    have HG6 : Hid (w.heap.size < w3.heap.size) := HD.out.msg.lt
    have hne1 : h ≠ w3.heap.size := Nat.ne_of_lt (Array.getElem?_eq_some_iff.1 hwh).1
    have hne2 : f ≠ w3.heap.size := Nat.ne_of_lt (Array.getElem?_eq_some_iff.1 hfa).1
    clear hwh hfa hb4 hW4 HE HD hh hf
    generalize w3.heap.size = g6 at *
    go_wp2_with (go_at_call 22; fail)
    refine hcall.mono ?_
    clear hcall
    rintro e w5 ⟨rfl, W, hbW, rfl⟩
    have hg6 : g6 < w4.heap.size := (Array.getElem?_eq_some_iff.1 hvar).1
    have hvarW : W.heap[g6]? = some (.cells #[.pointer none] 92 (0, 0)) := (hbW.block _ hg6).trans hvar
    have HX : Hid (GI w (W.setCell ⟨g6, 0, none⟩ (.pointer (some ⟨h, 0, none⟩))) w.heap.size GM) := ⟨(Below.heap_setCell _ _ _ _ (Nat.ne_of_lt HG6.out)).trans (HD4.out.msg.low hbW), (HD4.out.below.trans (hbW.mono HD4.out.below.size)).setCell (Nat.le_of_lt HG6.out) _⟩
    have c6 : (W.setCell ⟨g6, 0, none⟩ (.pointer (some ⟨h, 0, none⟩))).cell? ⟨g6, 0, none⟩ = some (.pointer (some ⟨h, 0, none⟩)) := by
      rw [setCell_eq_setRow W g6 0 _ _ _ _ hvarW]
      exact cell_of_row _ _ 0 _ _ _ (setRow_heap _ _ _ _ _ _ hvarW)
    have bh : (W.setCell ⟨g6, 0, none⟩ (.pointer (some ⟨h, 0, none⟩))).heap[h]? = some (.cells #[.int .i64 t0, .pointer (some ⟨f, 0, none⟩)] 96 (0, 0)) := (Below.heap_setCell _ _ _ _ hne1).trans ((hbW.block _ (Array.getElem?_eq_some_iff.1 hwh4).1).trans hwh4)
    have bf : FaultAt (W.setCell ⟨g6, 0, none⟩ (.pointer (some ⟨h, 0, none⟩))) f e0 a0 := (Below.heap_setCell _ _ _ _ hne2).trans ((hbW.block _ (Array.getElem?_eq_some_iff.1 hfa4).1).trans hfa4)
    have HS0 : Hid ((W.setCell ⟨g6, 0, none⟩ (.pointer (some ⟨h, 0, none⟩))).drew.cell? ⟨g6, 0, none⟩ = some (.pointer (some ⟨h, 0, none⟩)) ∧ (W.setCell ⟨g6, 0, none⟩ (.pointer (some ⟨h, 0, none⟩))).drew.cell? ⟨h, 0, none⟩ = some (.int .i64 t0) ∧ (W.setCell ⟨g6, 0, none⟩ (.pointer (some ⟨h, 0, none⟩))).drew.cell? ⟨h, 1, none⟩ = some (.pointer (some ⟨f, 0, none⟩)) ∧ (W.setCell ⟨g6, 0, none⟩ (.pointer (some ⟨h, 0, none⟩))).drew.cell? ⟨f, 1, none⟩ = some (.int .i64 e0) ∧ OwnM (W.setCell ⟨g6, 0, none⟩ (.pointer (some ⟨h, 0, none⟩))).drew w.heap.size GM) := ⟨c6, cell_of_row _ _ 0 _ _ _ bh, cell_of_row _ _ 1 _ _ _ bh, cell_of_row _ _ 1 _ _ _ bf, HX.out.msg⟩
    have HB : Hid (Below w.heap.size w (W.setCell ⟨g6, 0, none⟩ (.pointer (some ⟨h, 0, none⟩))).drew) := below_drewN HX.out.below 1
    clear hvarW HD4 c6 bh bf HX hwh4 hfa4 hvar hbW hne1 hne2
    generalize W.setCell ⟨g6, 0, none⟩ (.pointer (some ⟨h, 0, none⟩)) = w5 at *
    have hrs := reasonOf_any e0
    go_upto_region 7 with fail
    rename_i K4 hK4
    refine wp_region_held (S := fun w' => w'.cell? ⟨g6, 0, none⟩ = some (.pointer (some ⟨h, 0, none⟩)) ∧ w'.cell? ⟨h, 0, none⟩ = some (.int .i64 t0) ∧ w'.cell? ⟨h, 1, none⟩ = some (.pointer (some ⟨f, 0, none⟩)) ∧ w'.cell? ⟨f, 1, none⟩ = some (.int .i64 e0) ∧ OwnM w' w.heap.size GM) (by kernel_rfl) ?_
    change wpAnyH _ _ _ _ _ _ _ _ (World.drew _)
    have hS5 := HS0.out
    clear HS0
    generalize w5.drew = w6 at *
    refine takeR (i := 0) (v := .pointer (some ⟨h, 0, none⟩)) (some 20) rfl rfl (by kernel_rfl) (by kernel_rfl) (by kernel_rfl) (fun _ _ _ h => h) (Or.inl ⟨by kernel_rfl, fun w' hSw => by have q0 := hSw.1; clear hSw; go_simp⟩) hS5 ?_
    simp only [Act.put, List.setIfInBounds_toArray, List.set_cons_zero, List.set_cons_succ]
    refine takeR (i := 1) (v := .pointer (some ⟨h, 0, none⟩)) (some 21) rfl rfl (by kernel_rfl) (by kernel_rfl) (by kernel_rfl) (fun _ _ _ h => h) (Or.inl ⟨by kernel_rfl, fun w' hSw => by kernel_rfl⟩) hS5 ?_
    simp only [Act.put, List.setIfInBounds_toArray, List.set_cons_zero, List.set_cons_succ]
    refine takeR (i := 2) (v := .pointer (some ⟨h, 1, none⟩)) (some 22) rfl rfl (by kernel_rfl) (by kernel_rfl) (by kernel_rfl) (fun _ _ _ h => h) (Or.inl ⟨by kernel_rfl, fun w' hSw => by kernel_rfl⟩) hS5 ?_
    simp only [Act.put, List.setIfInBounds_toArray, List.set_cons_zero, List.set_cons_succ]
    refine takeR (i := 3) (v := .pointer (some ⟨f, 0, none⟩)) (some 23) rfl rfl (by kernel_rfl) (by kernel_rfl) (by kernel_rfl) (fun _ _ _ h => h) (Or.inl ⟨by kernel_rfl, fun w' hSw => by have q0 := hSw.2.2.1; clear hSw; go_simp⟩) hS5 ?_
    simp only [Act.put, List.setIfInBounds_toArray, List.set_cons_zero, List.set_cons_succ]
    refine takeR (i := 4) (v := .pointer (some ⟨f, 0, none⟩)) (some 24) rfl rfl (by kernel_rfl) (by kernel_rfl) (by kernel_rfl) (fun _ _ _ h => h) (Or.inl ⟨by kernel_rfl, fun w' hSw => by kernel_rfl⟩) hS5 ?_
    simp only [Act.put, List.setIfInBounds_toArray, List.set_cons_zero, List.set_cons_succ]
    refine takeR (i := 5) (v := .pointer (some ⟨f, 1, none⟩)) (some 25) rfl rfl (by kernel_rfl) (by kernel_rfl) (by kernel_rfl) (fun _ _ _ h => h) (Or.inl ⟨by kernel_rfl, fun w' hSw => by kernel_rfl⟩) hS5 ?_
    simp only [Act.put, List.setIfInBounds_toArray, List.set_cons_zero, List.set_cons_succ]
    refine takeR (i := 6) (v := .int .i64 e0) (some 26) rfl rfl (by kernel_rfl) (by kernel_rfl) (by kernel_rfl) (fun _ _ _ h => h) (Or.inl ⟨by kernel_rfl, fun w' hSw => by have q0 := hSw.2.2.2.1; clear hSw; go_simp⟩) hS5 ?_
    simp only [Act.put, List.setIfInBounds_toArray, List.set_cons_zero, List.set_cons_succ]
    refine takeR (i := 8) (v := .pointer (some ⟨h, 0, none⟩)) (some 28) rfl rfl (by kernel_rfl) (by kernel_rfl) (by kernel_rfl) (fun _ _ _ h => h) (Or.inl ⟨by kernel_rfl, fun w' hSw => by have q0 := hSw.1; clear hSw; go_simp⟩) hS5 ?_
    simp only [Act.put, List.setIfInBounds_toArray, List.set_cons_zero, List.set_cons_succ]
    refine takeR (i := 9) (v := .pointer (some ⟨h, 0, none⟩)) (some 29) rfl rfl (by kernel_rfl) (by kernel_rfl) (by kernel_rfl) (fun _ _ _ h => h) (Or.inl ⟨by kernel_rfl, fun w' hSw => by kernel_rfl⟩) hS5 ?_
    simp only [Act.put, List.setIfInBounds_toArray, List.set_cons_zero, List.set_cons_succ]
    refine takeR (i := 10) (v := .pointer (some ⟨h, 0, none⟩)) (some 30) rfl rfl (by kernel_rfl) (by kernel_rfl) (by kernel_rfl) (fun _ _ _ h => h) (Or.inl ⟨by kernel_rfl, fun w' hSw => by kernel_rfl⟩) hS5 ?_
    simp only [Act.put, List.setIfInBounds_toArray, List.set_cons_zero, List.set_cons_succ]
    refine takeR (i := 11) (v := .int .i64 t0) (some 31) rfl rfl (by kernel_rfl) (by kernel_rfl) (by kernel_rfl) (fun _ _ _ h => h) (Or.inl ⟨by kernel_rfl, fun w' hSw => by have q0 := hSw.2.1; clear hSw; go_simp⟩) hS5 ?_
    simp only [Act.put, List.setIfInBounds_toArray, List.set_cons_zero, List.set_cons_succ]
    refine takeR (i := 12) (v := .agg GM.cs) (some 32) rfl rfl (by kernel_rfl) (by kernel_rfl) (by kernel_rfl) (fun _ _ _ h => h) (Or.inl ⟨by kernel_rfl, fun w' hSw => by exact exec_loadM hSw.2.2.2.2 (.tmp 4) rfl rfl⟩) hS5 ?_
    simp only [Act.put, List.setIfInBounds_toArray, List.set_cons_zero, List.set_cons_succ]
    refine wpAnyH_ready (rs := [7]) (by kernel_rfl) (by simp) ?_
    refine AllReadyH.cons rfl (fun K1 hK1 => ?_) AllReadyH.nil
    rw [if_pos (by kernel_rfl)]
    refine callR (d := some 27) rfl 40 #[.int .i64 e0] (by kernel_rfl) (hrs _) ?_
    rintro e w7 ⟨rfl, rfl⟩
    refine ⟨_, rfl, ?_⟩
    refine hK1.out _ _ hS5 (fun _ => ?_)
    clear hK1 hrs
    simp only [Act.put, List.setIfInBounds_toArray, List.set_cons_zero, List.set_cons_succ]
    refine takeR (i := 13) (v := .int .i64 (rsN e0)) (some 2) rfl rfl (by kernel_rfl) (by kernel_rfl) (by kernel_rfl) (fun _ _ _ h => h) (Or.inl ⟨by kernel_rfl, fun w' hSw => by kernel_rfl⟩) hS5 ?_
    simp only [Act.put, List.setIfInBounds_toArray, List.set_cons_zero, List.set_cons_succ]
    refine takeR (i := 14) (v := .int .i64 t0) (some 3) rfl rfl (by kernel_rfl) (by kernel_rfl) (by kernel_rfl) (fun _ _ _ h => h) (Or.inl ⟨by kernel_rfl, fun w' hSw => by kernel_rfl⟩) hS5 ?_
    simp only [Act.put, List.setIfInBounds_toArray, List.set_cons_zero, List.set_cons_succ]
    refine wpAnyH_ready (rs := [15]) (by kernel_rfl) (by simp) ?_
    refine AllReadyH.cons rfl (fun K1 hK1 => ?_) AllReadyH.nil
    rw [if_pos (by kernel_rfl)]
    refine wp_store_row 25 (.tmp 4) (.tmp 32) rfl w.heap.size GM.cs (by rfl) (by rfl) 25 _ hS5.2.2.2.2 (by rw [Msg.cs_size]; kernel_rfl) rfl (Msg.cs_one _) ?_
    have hid : w7.setRow w.heap.size GM.cs = w7 := setRow_same hS5.2.2.2.2
    rw [hid]
    refine hK1.out _ _ hS5 (fun _ => ?_)
    clear hK1
    simp only [Act.put, List.setIfInBounds_toArray, List.set_cons_zero, List.set_cons_succ]
    refine wpAnyH_done (by kernel_rfl) ?_ _
    refine hK4 _ _ ?_
    apply wp_ret
    refine bodyPost_ret (results_ttc (fn := Tryz.f18) (p := 4) (u := 2) (v := 3) (ty := 25) rfl _ _ w.heap.size 25 GM.cs (0, 0) _ (by rfl) hS5.2.2.2.2 Tryz.underlying25 rfl (by rw [Msg.cs_size]; kernel_rfl)) (by rfl) ?_
    exact ⟨rfl, HB.out⟩
end Go.Proofs.YtchkpggdndnpjaaGreatDoor
