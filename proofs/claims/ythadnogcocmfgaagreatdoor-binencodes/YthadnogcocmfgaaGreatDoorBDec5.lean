/-
  bin: Decode.
-/
import Derived.Test.YthadnogcocmfgaaGreatDoorBDcB
import Derived.Test.YthadnogcocmfgaaGreatDoorBDec2
import Derived.Test.YthadnogcocmfgaaGreatDoorBSize
namespace Go.Proofs.YthadnogcocmfgaaGreatDoor
set_option linter.unusedVariables false
open Go.RowKit Go.Great Go.Lib

def decM (l : List UInt8) : Msg := match decL l with
  | .ok M => M
  | .error _ => zeroM
def decE (l : List UInt8) : Option (Nat × Int) := match decL l with
  | .ok _ => none
  | .error x => some x
theorem results_cr2 {P : Program} {fn : Func} {p u : Tmp} {ty : TypeId} (h : fn.results = #[.cell p ty, .tmp u]) (tmps : Array Value) (w : World) (g : Nat) (t : TypeId) (cs : Array Value) (fr : Nat × Nat) (d : TypeDesc)
    (hp : tmps.getD p undef = .pointer (some ⟨g, 0, none⟩)) (hg : w.heap[g]? = some (.cells cs t fr))
    (hu : P.underlying ty = some d) (hd : (match d with | .struct _ | .array _ _ => true | _ => false) = true) (hi : (P.info? ty).map (·.size) = some cs.size) :
    (results fn tmps).run P w = .ok (.tuple #[.agg cs, tmps.getD u undef]) w := by
  rw [results_cell_tmp h, hp]
  simp [asAddr, run_loadVar_row w g t ty cs fr d hg hu hd hi, Result.andThen]
theorem FaultAt.row {w : World} {g b : Nat} {k e : Int} (h : FaultAt w b k e) (hne : b ≠ g) (X : Array Value) : FaultAt (w.setRow g X) b k e := (setRow_other _ _ _ _ hne).trans h
theorem rdF_ok {j : Nat} {b : List UInt8} {M M' : Msg} (hM : M.ok) (hj : j < 42) (h : rdF j b M = .ok M') : M'.ok := by
  unfold rdF at h
  cases hs : isStr j
  · rw [hs] at h
    cases hb : isBoo j
    · rw [hb] at h
      simp only [Bool.false_eq_true, reduceIte] at h
      cases h
      intro i
      have hu := getN_lt2 (dL b) (wd j) (dL_lt b) (wd_num hj hs).2
      show -9223372036854775808 ≤ (if i = j then _ else M.z i) ∧ (if i = j then _ else M.z i) ≤ 9223372036854775807
      split
      · unfold wr64; split <;> omega
      · exact hM i
    · rw [hb] at h
      simp only [Bool.false_eq_true, reduceIte] at h
      split at h
      · cases h
      · cases h; exact hM
  · rw [hs] at h
    simp only [reduceIte] at h
    split at h
    · cases h
    · cases h; exact hM
theorem rdL_ok {l : List UInt8} {M' : Msg} : ∀ (js : List Nat) (p : Nat) (M : Msg), M.ok → (∀ j ∈ js, j < 42) → rdL l js p M = .ok M' → M'.ok
  | [], p, M, hM, _, h => by
    unfold rdL at h
    split at h
    · cases h
    · cases h; exact hM
  | j :: js, p, M, hM, hj, h => by
    unfold rdL at h
    cases h1 : rdF j ((l.drop p).take (wd j)) M with
    | error x => rw [h1] at h; cases h
    | ok M1 =>
      rw [h1] at h
      exact rdL_ok js _ M1 (rdF_ok hM (hj j (by simp)) h1) (fun i hi => hj i (by simp [hi])) h
theorem kind_ok {z : Nat} (h : z < 256) : (kindM z).ok := fun i => by
  show -9223372036854775808 ≤ (if i = 0 then (z : Int) else 0) ∧ (if i = 0 then (z : Int) else 0) ≤ 9223372036854775807
  split <;> omega
theorem gen4 {α : Type} {p : α → Prop} (x : α) (h : p x) : ∃ y, y = x ∧ p y := ⟨x, rfl, h⟩
theorem size_cs (z : Int) : sizeN z = 0 ∨ 10 < sizeN z ∧ sizeN z ≤ 1000 := by
  cases hK : isK z
  · left; unfold sizeN; rw [js_no hK]; rfl
  · right
    have h1 := size_eq hK
    have hj := (js_yes hK).1
    have hp : 1 ≤ wS (js z) := by
      cases h : js z with
      | nil => exact absurd h hj
      | cons x t =>
        have := wd_ge (j := x) (by have := (mem_js (z := z) (j := x)).1 (by rw [h]; simp); omega)
        show 1 ≤ wd x + wS t
        omega
    omega
set_option maxRecDepth 100000 in
set_option maxHeartbeats 2000000 in
theorem Decode_any (a : Option Addr) (g off n cap : Nat) (l : List UInt8) (w : World) (hn : n = l.length) (hcap : n ≤ cap) (hmax : n ≤ 140737488351232) (ha : n = 0 ∨ a = some ⟨g, off, none⟩) (hl : At w g off l) (hM : Mon w) :
    Calls Tryz.prog 12 #[.slice a n cap] w fun e w' => ∃ v, e = .returned (.tuple #[.agg (decM l).cs, v]) ∧ ErrV (decE l) v w w' ∧ Below w.heap.size w w' := by
  obtain ⟨DM, hDM⟩ : ∃ DM, DM = decM l := ⟨_, rfl⟩
  obtain ⟨DE, hDE⟩ : ∃ DE, DE = decE l := ⟨_, rfl⟩
  rw [← hDM, ← hDE]
  have HD : Hid (DM = decM l ∧ DE = decE l) := ⟨hDM, hDE⟩
  clear hDM hDE
  have Hx : Hid (n = l.length ∧ At w g off l ∧ Mon w ∧ n ≤ cap ∧ n ≤ 140737488351232 ∧ (n = 0 ∨ a = some ⟨g, off, none⟩) ∧ 0 < w.heap.size) := ⟨hn, hl, hM, hcap, hmax, ha, hM.lt⟩
  have hl0 : At (w.alloc (.cells zeroM.cs 23)) g off l := hl.below ((Below.refl _ w).alloc (Nat.le_refl _) _) (Nat.le_refl _)
  have HCS : Hid (Unit → _) := fun _ => checkStart_any a g off n cap l (w.alloc (.cells zeroM.cs 23)) hn hmax ha hl0
  have HR0 : Hid ((w.alloc (.cells zeroM.cs 23)).heap[w.heap.size]? = some (.cells zeroM.cs 23 (0, 0)) ∧ Below w.heap.size w (w.alloc (.cells zeroM.cs 23)) ∧ (w.alloc (.cells zeroM.cs 23)).heap.size = w.heap.size + 1) := ⟨heap_alloc_new w _, (Below.refl _ w).alloc (Nat.le_refl _) _, by simp⟩
  clear hM hcap hmax ha hl hn hl0
  go_enter Tryz.func12, Tryz.ntmps12
  go_upto_region 0 with fail
  refine wp_region_lit ?_
  refine wpList_runTo rfl (some 2) rfl (.pointer (some ⟨w.heap.size, 0, none⟩)) (w.alloc (.cells zeroM.cs 23)) (by kernel_rfl) ?_
  generalize w.alloc (.cells zeroM.cs 23) = W0 at *
  refine wpList_runTo rfl (some 3) rfl .nilIface W0 (by kernel_rfl) ?_
  refine wpList_nil ?_
  simp only [Act.put, List.setIfInBounds_toArray, List.set_cons_zero, List.set_cons_succ]
  go_wp2_with (go_at_call 28; fail)
  refine (HCS.out ()).mono ?_
  clear HCS
  rintro e w1 ⟨v1, rfl, hE1, hb1⟩
  have HR1 : Hid (w1.heap[w.heap.size]? = some (.cells zeroM.cs 23 (0, 0)) ∧ Below w.heap.size w w1 ∧ w.heap.size < w1.heap.size) := ⟨(hb1.block _ (by have := HR0.out.2.2; omega)).trans HR0.out.1, HR0.out.2.1.trans (hb1.mono HR0.out.2.1.size), by have := HR0.out.2.2; have := hb1.size; omega⟩
  clear hb1
  cases hS : startE l with
  | some k =>
    as_aux_lemma =>
    have hst : stE l = some (k, 40) := by unfold stE; rw [hS]; rfl
    rw [hst] at hE1
    obtain ⟨b, rfl, hbge, hfa⟩ := hE1
    have hdec : decL l = .error (k, 40) := by unfold decL; rw [hS]
    have HDM : Hid (DM = zeroM ∧ DE = some (k, 40)) := ⟨by rw [HD.out.1]; unfold decM; rw [hdec], by rw [HD.out.2]; unfold decE; rw [hdec]⟩
    have HF : Hid (W0.heap.size ≤ b ∧ FaultAt w1 b (k : Nat) 40) := ⟨hbge, hfa⟩
    clear hbge hfa hdec hst hS
    go_upto_region 3 with fail
    rename_i K hK
    refine wp_region_lit ?_
    refine wpList_build rfl _ _ rfl (by kernel_rfl) ?_
    refine wpList_runTo rfl (some 13) rfl (.iface 87 (.pointer (some ⟨b, 0, none⟩))) w1 (by kernel_rfl) ?_
    refine wpList_store_row rfl 23 (.tmp 2) (.tmp 12) rfl w.heap.size zeroM.cs (by kernel_rfl) (by kernel_rfl) 23 _ HR1.out.1 (by kernel_rfl) rfl (by kernel_rfl) ?_
    refine wpList_runTo rfl (some 3) rfl (.iface 87 (.pointer (some ⟨b, 0, none⟩))) (w1.setRow w.heap.size zeroM.cs) (by kernel_rfl) ?_
    refine wpList_nil ?_
    refine hK _ _ ?_
    apply wp_ret
    try simp only [Exit.then]
    refine bodyPost_ret (results_cr2 (fn := Tryz.f12) (p := 2) (u := 3) (ty := 23) rfl _ _ w.heap.size 23 zeroM.cs (0, 0) _ (by kernel_rfl) (setRow_heap _ _ _ _ _ _ HR1.out.1) Tryz.underlying23 rfl (by kernel_rfl)) (by kernel_rfl) ?_
    refine ⟨.iface 87 (.pointer (some ⟨b, 0, none⟩)), by rw [HDM.out.1]; rfl, ?_, below_setRow HR1.out.2.1 (Nat.le_refl _) _⟩
    rw [HDM.out.2]
    exact ⟨b, rfl, by have := HF.out.1; have := HR0.out.2.2; omega, HF.out.2.row (by have := HF.out.1; have := HR0.out.2.2; omega) _⟩
  | none =>
    have hst : stE l = none := by unfold stE; rw [hS]; rfl
    rw [hst] at hE1
    have hv1 : v1 = .nilIface := hE1
    subst hv1
    obtain ⟨h10, _, _⟩ := start_ok hS
    have hn10 : 10 ≤ n := by have := Hx.out.1; omega
    obtain rfl : a = some ⟨g, off, none⟩ := by
      rcases Hx.out.2.2.2.2.2.1 with h | h
      · omega
      · exact h
    obtain ⟨c, hc, ec⟩ := dL_at (show 4 < l.length by omega)
    have hcell := (Hx.out.2.1.below HR1.out.2.1 (Nat.le_refl _)) 4 c hc
    have x4 : (4 : Int) < (n : Int) := by omega
    have x5 : 4 < n := by omega
    clear hst hE1 hc
    go_upto_region 4 with fail
    refine wp_region_lit ?_
    refine wpList_runTo rfl (some 14) rfl (.slice (some ⟨g, off, none⟩) n cap) w1 (by kernel_rfl) ?_
    simp only [Act.put, List.setIfInBounds_toArray, List.set_cons_zero, List.set_cons_succ]
    have hz4 : dL l 4 = c.toNat := ec
    have hcl := UInt8.toNat_lt c
    have hwr1 : IntKind.i64.wrap ((c.toNat : Nat) : Int) = ((c.toNat : Nat) : Int) := by rw [IntKind.wrap_i64]; omega
    have hwr2 : wrap64 ((c.toNat : Nat) : Int) = ((c.toNat : Nat) : Int) := by unfold wrap64; omega
    iterate 9 go_step
    clear hwr1 hwr2
    generalize hZ : c.toNat = z at *
    refine wpList_runTo rfl (some 18) rfl (.agg (kindM (z : Int)).cs) w1 (by kernel_rfl) ?_
    refine wpList_runTo rfl (some 5) rfl (.pointer (some ⟨w1.heap.size, 0, none⟩)) (w1.alloc (.cells zeroM.cs 23)) (by kernel_rfl) ?_
    refine wpList_store_row rfl 23 (.tmp 5) (.tmp 18) rfl w1.heap.size (kindM (z : Int)).cs (by rfl) (by rfl) 23 _ (heap_alloc_new w1 _) (by rw [Msg.cs_size]; kernel_rfl) (by rw [Msg.cs_size]; kernel_rfl) (Msg.cs_one _) ?_
    rw [World.setRow_alloc_new]
    refine wpList_nil ?_
    simp only [Act.put, List.setIfInBounds_toArray, List.set_cons_zero, List.set_cons_succ]
    have HO2 : Hid (OwnM (w1.alloc (.cells (kindM (z : Int)).cs 23)) w1.heap.size (kindM (z : Int)) ∧ Below w1.heap.size w1 (w1.alloc (.cells (kindM (z : Int)).cs 23))) := ⟨heap_alloc_new w1 _, (Below.refl _ w1).alloc (Nat.le_refl _) _⟩
    generalize w1.alloc (.cells (kindM (z : Int)).cs 23) = w2 at *
    generalize hKC : (kindM (z : Int)).cs = KC at *
    have Hz4 : Hid (dL l 4 = z ∧ z < 256 ∧ startE l = none ∧ 10 ≤ n ∧ 10 ≤ l.length) := ⟨hz4, hcl, hS, hn10, h10⟩
    clear hcell x4 x5 hZ ec hz4 hcl hS hn10 h10 hKC
    go_wp2_with (go_at_call 24; fail)
    refine (layoutOf_any (z : Int) w1.heap.size w2 (HO2.out.1.cell 0 (by decide))).mono ?_
    rintro e w3 ⟨v, rfl, hpl, hb3⟩
    obtain ⟨ao, cv, rfl, hcv, hcase⟩ := hpl
    have HR3 : Hid (w3.heap[w.heap.size]? = some (.cells zeroM.cs 23 (0, 0)) ∧ Below w.heap.size w w3 ∧ w1.heap.size < w2.heap.size ∧ w2.heap.size ≤ w3.heap.size ∧ OwnM w3 w1.heap.size (kindM (z : Int)) ∧ At w3 g off l) := by
      have h12 := HO2.out.2
      have hlt := HO2.out.1.lt
      have hbw2 : Below w.heap.size w w2 := HR1.out.2.1.trans (h12.mono HR1.out.2.1.size)
      have hbw3 : Below w.heap.size w w3 := hbw2.trans (hb3.mono hbw2.size)
      refine ⟨?_, hbw3, hlt, hb3.size, HO2.out.1.low hb3, Hx.out.2.1.below hbw3 (Nat.le_refl _)⟩
      rw [hb3.block _ (Nat.lt_trans HR1.out.2.2 hlt), h12.block _ HR1.out.2.2]; exact HR1.out.1
    clear hb3
    have Hcase : Hid (js (z : Int) = [] ∨ ∃ g, ao = some ⟨g, 0, none⟩ ∧ w2.heap.size ≤ g ∧ ∀ m u, (plC w1.heap.size (js (z : Int)) 10)[m]? = some u → w3.cell? ⟨g, m, none⟩ = some u) := hcase
    clear hcase
    generalize hSz : sizeN (z : Int) = S at *
    generalize hEz : layE (z : Int) = E at *
    have HB4 : Hid (Below w3.heap.size w3 (w3.alloc (.cells #[.slice ao (js (z : Int)).length cv, .int .i64 (E : Int), .int .i64 (S : Int)] 62)) ∧ (w3.alloc (.cells #[.slice ao (js (z : Int)).length cv, .int .i64 (E : Int), .int .i64 (S : Int)] 62)).heap[w3.heap.size]? = some (.cells #[.slice ao (js (z : Int)).length cv, .int .i64 (E : Int), .int .i64 (S : Int)] 62 (0, 0))) := ⟨(Below.refl _ w3).alloc (Nat.le_refl _) _, heap_alloc_new w3 _⟩
    have HCH : Hid (Unit → _) := fun _ => checkHead_any g off n cap l S (w3.alloc (.cells #[.slice ao (js (z : Int)).length cv, .int .i64 (E : Int), .int .i64 (S : Int)] 62)) Hx.out.1 Hz4.out.2.2.2.1 Hx.out.2.2.2.1 Hx.out.2.2.2.2.1 (by rw [← hSz]; exact size_cs _) (HR3.out.2.2.2.2.2.below HB4.out.1 (Nat.le_refl _))
    have Hsz : Hid (sizeN (z : Int) = S ∧ layE (z : Int) = E) := ⟨hSz, hEz⟩
    clear hSz hEz hcv
    go_wp2_with (go_at_call 29; fail)
    refine (HCH.out ()).mono ?_
    clear HCH
    rintro e w5 ⟨v5, rfl, hE5, hb5⟩
    have HR5 : Hid (Below w3.heap.size w3 w5 ∧ w5.heap[w3.heap.size]? = some (.cells #[.slice ao (js (z : Int)).length cv, .int .i64 (E : Int), .int .i64 (S : Int)] 62 (0, 0)) ∧ w5.heap[w.heap.size]? = some (.cells zeroM.cs 23 (0, 0)) ∧ Below w.heap.size w w5 ∧ w3.heap.size < w5.heap.size) := by
      have h35 : Below w3.heap.size w3 w5 := HB4.out.1.trans (hb5.mono HB4.out.1.size)
      have hl4 := (Array.getElem?_eq_some_iff.1 HB4.out.2).1
      refine ⟨h35, (hb5.block _ hl4).trans HB4.out.2, ?_, HR3.out.2.1.trans (h35.mono HR3.out.2.1.size), Nat.lt_of_lt_of_le hl4 hb5.size⟩
      rw [h35.block _ (Array.getElem?_eq_some_iff.1 HR3.out.1).1]; exact HR3.out.1
    cases hH : headE l S with
    | some x =>
      obtain ⟨k, ek⟩ := x
      rw [hH] at hE5
      obtain ⟨b, rfl, hbge, hfa⟩ := hE5
      have hdec : decL l = .error (k, ek) := by
        unfold decL; rw [Hz4.out.2.2.1]; dsimp only; rw [Hz4.out.1, Hsz.out.1, hH]
      have HDM : Hid (DM = zeroM ∧ DE = some (k, ek)) := ⟨by rw [HD.out.1]; unfold decM; rw [hdec], by rw [HD.out.2]; unfold decE; rw [hdec]⟩
      have HF : Hid (w1.heap.size ≤ b ∧ FaultAt w5 b (k : Nat) ek) := ⟨by have := HB4.out.1.size; have := HR3.out.2.2.1; have := HR3.out.2.2.2.1; omega, hfa⟩
      have HRR : Hid (w5.heap[w.heap.size]? = some (.cells zeroM.cs 23 (0, 0)) ∧ Below w.heap.size w w5) := ⟨HR5.out.2.2.1, HR5.out.2.2.2.1⟩
      clear hbge hfa hdec hH hb5 HR5 HB4 HR3
      go_upto_region 12 with fail
      rename_i K hK
      refine wp_region_lit ?_
      refine wpList_build rfl _ _ rfl (by kernel_rfl) ?_
      refine wpList_runTo rfl (some 37) rfl (.iface 87 (.pointer (some ⟨b, 0, none⟩))) w5 (by kernel_rfl) ?_
      refine wpList_store_row rfl 23 (.tmp 2) (.tmp 36) rfl w.heap.size zeroM.cs (by kernel_rfl) (by kernel_rfl) 23 _ HRR.out.1 (by kernel_rfl) rfl (by kernel_rfl) ?_
      refine wpList_runTo rfl (some 3) rfl (.iface 87 (.pointer (some ⟨b, 0, none⟩))) (w5.setRow w.heap.size zeroM.cs) (by kernel_rfl) ?_
      refine wpList_nil ?_
      refine hK _ _ ?_
      apply wp_ret
      simp only [Exit.then]
      refine bodyPost_ret (results_cr2 (fn := Tryz.f12) (p := 2) (u := 3) (ty := 23) rfl _ _ w.heap.size 23 zeroM.cs (0, 0) _ (by kernel_rfl) (setRow_heap _ _ _ _ _ _ HRR.out.1) Tryz.underlying23 rfl (by kernel_rfl)) (by kernel_rfl) ?_
      refine ⟨.iface 87 (.pointer (some ⟨b, 0, none⟩)), by rw [HDM.out.1]; rfl, ?_, below_setRow HRR.out.2 (Nat.le_refl _) _⟩
      rw [HDM.out.2]
      exact ⟨b, rfl, by have := HF.out.1; have := HR1.out.2.2; omega, HF.out.2.row (by have := HF.out.1; have := HR1.out.2.2; omega) _⟩
    | none =>
      rw [hH] at hE5
      have hv5 : v5 = .nilIface := hE5
      subst hv5
      have HhH : Hid (headE l S = none) := hH
      obtain ⟨s0, _, _, s4, _⟩ := head_ok hH
      have h10 := Hz4.out.2.2.2.2
      have hK : isK (z : Int) = true := size_kind (by rw [Hsz.out.1]; exact s0)
      have hjs := js_yes hK
      rcases Hcase.out with hnil | ⟨gp, rfl, hgp, hcel⟩
      · exact absurd hnil hjs.1
      have hE10 : E = 10 + wS (js (z : Int)) := by rw [← Hsz.out.2]; unfold layE; rw [if_neg hjs.1]
      have hSe := size_eq hK
      rw [Hsz.out.1] at hSe
      have hgl : g < w.heap.size := by
        obtain ⟨c0, hc0, _⟩ := dL_at (show 0 < l.length by omega)
        exact World.block_lt_of_cell? _ _ (Hx.out.2.1 0 c0 hc0)
      have hnl := Hx.out.1
      have HRB : Hid (Unit → _) := fun _ => readBlock_any g off n cap w1.heap.size w2.heap.size cv E S gp l (kindM (z : Int)) (z : Int) w5 hnl (by omega) Hx.out.2.2.2.1 hE10 (by omega) (HR3.out.2.2.2.2.2.below HR5.out.1 (Nat.le_refl _)) (by have := HR1.out.2.2; omega) (by have := HR3.out.2.2.1; omega) (HR3.out.2.2.2.2.1.below HR5.out.1 (by have := HR3.out.2.2.1; have := HR3.out.2.2.2.1; omega)) (fun m u hu => by
        have := hcel m u hu
        rw [HR5.out.1.cell (p := ⟨gp, m, none⟩) (World.block_lt_of_cell? _ _ this)]; exact this)
      have Hcl : Hid (∀ m u, (plC w1.heap.size (js (z : Int)) 10)[m]? = some u → w3.cell? ⟨gp, m, none⟩ = some u) := hcel
      have HKj : Hid (isK (z : Int) = true ∧ w2.heap.size ≤ gp) := ⟨hK, hgp⟩
      have d0 : w5.cell? ⟨w3.heap.size, 0, none⟩ = some (.slice (some ⟨gp, 0, none⟩) (js (z : Int)).length cv) := lay_cell (k := 0) HR5.out.2.1 rfl
      have d1 : w5.cell? ⟨w3.heap.size, 1, none⟩ = some (.int .i64 (E : Int)) := lay_cell (k := 1) HR5.out.2.1 rfl
      have d2 : w5.cell? ⟨w3.heap.size, 2, none⟩ = some (.int .i64 (S : Int)) := lay_cell (k := 2) HR5.out.2.1 rfl
      clear hE5 s0 s4 hK hjs hcel hgp hE10 hSe hgl hnl hb5 h10 hH
      go_wp2_with (go_at_call 30; fail)
      refine (HRB.out ()).mono ?_
      clear HRB d0 d1 d2
      intro e w6 h6
      obtain ⟨R6, hR6, v6, rfl, hE6, hw6⟩ := gen4 (p := fun R => ∃ v, e = .returned v ∧ BlkV R v w1.heap.size w5 w6 ∧ Wrt w1.heap.size w5 w6) (rdL l (js (z : Int)) 10 (kindM (z : Int))) h6
      clear h6
      have HR6 : Hid (w6.heap[w3.heap.size]? = some (.cells #[.slice (some ⟨gp, 0, none⟩) (js (z : Int)).length cv, .int .i64 (E : Int), .int .i64 (S : Int)] 62 (0, 0)) ∧ w6.heap[w.heap.size]? = some (.cells zeroM.cs 23 (0, 0)) ∧ Below w.heap.size w w6 ∧ (∀ m u, (plC w1.heap.size (js (z : Int)) 10)[m]? = some u → w6.cell? ⟨gp, m, none⟩ = some u)) := by
        have a1 := HR1.out.2.2
        have a2 := HR3.out.2.2.1
        have a3 := HR3.out.2.2.2.1
        have a5 := HR5.out.2.2.2.2
        refine ⟨(hw6.other _ a5 (by omega)).trans HR5.out.2.1, (hw6.other _ (by omega) (by omega)).trans HR5.out.2.2.1, HR5.out.2.2.2.1.trans (hw6.below.mono (by omega)), fun m u hu => ?_⟩
        have c3 := Hcl.out m u hu
        have c5 : w5.cell? ⟨gp, m, none⟩ = some u := by rw [HR5.out.1.cell (p := ⟨gp, m, none⟩) (World.block_lt_of_cell? _ _ c3)]; exact c3
        exact hw6.cell c5 (by have := HKj.out.2; show gp ≠ w1.heap.size; omega)
      cases R6 with
      | error x =>
        obtain ⟨k, ek⟩ := x
        have hR := hR6.symm
        clear hR6
        obtain ⟨b, rfl, hbge, hfa⟩ := hE6
        have hdec : decL l = .error (k, ek) := by
          unfold decL; rw [Hz4.out.2.2.1]; dsimp only; rw [Hz4.out.1, Hsz.out.1, HhH.out]; dsimp only; rw [hR]
        have HDM : Hid (DM = zeroM ∧ DE = some (k, ek)) := ⟨by rw [HD.out.1]; unfold decM; rw [hdec], by rw [HD.out.2]; unfold decE; rw [hdec]⟩
        have HF : Hid (w1.heap.size ≤ b ∧ FaultAt w6 b (k : Nat) ek) := ⟨by have := HR5.out.2.2.2.2; have := HR3.out.2.2.1; have := HR3.out.2.2.2.1; omega, hfa⟩
        have HRR : Hid (w6.heap[w.heap.size]? = some (.cells zeroM.cs 23 (0, 0)) ∧ Below w.heap.size w w6) := ⟨HR6.out.2.1, HR6.out.2.2.1⟩
        clear hbge hfa hdec hR HR5 HB4 HR3 hw6
        go_upto_region 12 with fail
        rename_i K hK
        refine wp_region_lit ?_
        refine wpList_build rfl _ _ rfl (by kernel_rfl) ?_
        refine wpList_runTo rfl (some 37) rfl (.iface 87 (.pointer (some ⟨b, 0, none⟩))) w6 (by kernel_rfl) ?_
        refine wpList_store_row rfl 23 (.tmp 2) (.tmp 36) rfl w.heap.size zeroM.cs (by kernel_rfl) (by kernel_rfl) 23 _ HRR.out.1 (by kernel_rfl) rfl (by kernel_rfl) ?_
        refine wpList_runTo rfl (some 3) rfl (.iface 87 (.pointer (some ⟨b, 0, none⟩))) (w6.setRow w.heap.size zeroM.cs) (by kernel_rfl) ?_
        refine wpList_nil ?_
        refine hK _ _ ?_
        apply wp_ret
        simp only [Exit.then]
        refine bodyPost_ret (results_cr2 (fn := Tryz.f12) (p := 2) (u := 3) (ty := 23) rfl _ _ w.heap.size 23 zeroM.cs (0, 0) _ (by kernel_rfl) (setRow_heap _ _ _ _ _ _ HRR.out.1) Tryz.underlying23 rfl (by kernel_rfl)) (by kernel_rfl) ?_
        refine ⟨.iface 87 (.pointer (some ⟨b, 0, none⟩)), by rw [HDM.out.1]; rfl, ?_, below_setRow HRR.out.2 (Nat.le_refl _) _⟩
        rw [HDM.out.2]
        exact ⟨b, rfl, by have := HF.out.1; have := HR1.out.2.2; omega, HF.out.2.row (by have := HF.out.1; have := HR1.out.2.2; omega) _⟩
      | ok M =>
        have hR := hR6.symm
        clear hR6
        obtain ⟨hv6, ho6⟩ := hE6
        subst hv6
        have hrest := read_rest hR
        have hok : M.ok := rdL_ok _ _ _ (kind_ok Hz4.out.2.1) (fun j hj => by have := (mem_js.1 hj).2.1; omega) hR
        have HMs : Hid (OwnM w6 w1.heap.size M) := ho6
        have HCF : Hid (Unit → _) := fun _ => checkFields_any M (z : Int) HKj.out.1 hrest.1 hrest.2 w1.heap.size gp cv E S w6 (Hx.out.2.2.1.below HR6.out.2.2.1 Hx.out.2.2.2.2.2.2) hok HR6.out.2.2.2
        have hdec0 : decL l = if valE M = 0 then .ok M else .error (plcN (valN M) (js (z : Int)) 10, valE M) := by
          unfold decL; rw [Hz4.out.2.2.1]; dsimp only; rw [Hz4.out.1, Hsz.out.1, HhH.out]; dsimp only; rw [hR]
        have HDc : Hid (decL l = if valE M = 0 then .ok M else .error (plcN (valN M) (js (z : Int)) 10, valE M)) := hdec0
        clear hdec0 ho6 hrest hok hR hw6
        go_upto_region 10 with fail
        refine wp_region_lit ?_
        refine wpList_loadM HMs.out (.tmp 5) rfl rfl rfl ?_
        refine wpList_load_row rfl 62 (.tmp 6) rfl w3.heap.size (by kernel_rfl) 62 _ (0, 0) _ HR6.out.1 Tryz.underlying62 rfl (by kernel_rfl) ?_
        refine wpList_callW rfl (some 33) rfl 31 #[.agg M.cs, .agg #[.slice (some ⟨gp, 0, none⟩) (js (z : Int)).length cv, .int .i64 (E : Int), .int .i64 (S : Int)]] (by kernel_rfl) (HCF.out ()) ?_
        rintro e w7 ⟨v7, rfl, hE7, hb7⟩
        refine ⟨_, rfl, ?_⟩
        refine wpList_runTo rfl (some 7) rfl v7 w7 (by kernel_rfl) ?_
        refine wpList_nil ?_
        simp only [Act.put, List.setIfInBounds_toArray, List.set_cons_zero, List.set_cons_succ]
        have HR7 : Hid (w7.heap[w.heap.size]? = some (.cells zeroM.cs 23 (0, 0)) ∧ Below w.heap.size w w7 ∧ OwnM w7 w1.heap.size M ∧ w6.heap.size ≤ w7.heap.size ∧ w1.heap.size < w6.heap.size) := ⟨(hb7.block _ (Array.getElem?_eq_some_iff.1 HR6.out.2.1).1).trans HR6.out.2.1, HR6.out.2.2.1.trans (hb7.mono HR6.out.2.2.1.size), HMs.out.low hb7, hb7.size, HMs.out.lt⟩
        clear HCF hb7
        by_cases hv : valE M = 0
        · rw [if_pos hv] at hE7
          have hv7 : v7 = .nilIface := hE7
          subst hv7
          have HDM : Hid (DM = M ∧ DE = none) := by
            have h := HDc.out
            rw [if_pos hv] at h
            exact ⟨by rw [HD.out.1]; unfold decM; rw [h], by rw [HD.out.2]; unfold decE; rw [h]⟩
          go_upto_region 13 with fail
          rename_i K hK
          refine wp_region_lit ?_
          refine wpList_loadM HR7.out.2.2.1 (.tmp 5) rfl rfl rfl ?_
          refine wpList_store_row rfl 23 (.tmp 2) (.tmp 38) rfl w.heap.size M.cs (by rfl) (by rfl) 23 _ HR7.out.1 (by rw [Msg.cs_size]; kernel_rfl) (by rw [Msg.cs_size, Msg.cs_size]) (Msg.cs_one _) ?_
          refine wpList_runTo rfl (some 3) rfl .nilIface (w7.setRow w.heap.size M.cs) (by kernel_rfl) ?_
          refine wpList_nil ?_
          refine hK _ _ ?_
          apply wp_ret
          refine bodyPost_ret (results_cr2 (fn := Tryz.f12) (p := 2) (u := 3) (ty := 23) rfl _ _ w.heap.size 23 M.cs (0, 0) _ (by rfl) (setRow_heap _ _ _ _ _ _ HR7.out.1) Tryz.underlying23 rfl (by rw [Msg.cs_size]; kernel_rfl)) (by rfl) ?_
          refine ⟨.nilIface, by rw [HDM.out.1]; rfl, ?_, below_setRow HR7.out.2.1 (Nat.le_refl _) _⟩
          rw [HDM.out.2]
          rfl
        · rw [if_neg hv] at hE7
          obtain ⟨b, rfl, hbge, hfa⟩ := hE7
          have HDM : Hid (DM = zeroM ∧ DE = some (plcN (valN M) (js (z : Int)) 10, valE M)) := by
            have h := HDc.out
            rw [if_neg hv] at h
            exact ⟨by rw [HD.out.1]; unfold decM; rw [h], by rw [HD.out.2]; unfold decE; rw [h]⟩
          have HF : Hid (w1.heap.size ≤ b ∧ FaultAt w7 b (plcN (valN M) (js (z : Int)) 10 : Nat) (valE M)) := ⟨by have := HR7.out.2.2.2.2; omega, hfa⟩
          have HRR : Hid (w7.heap[w.heap.size]? = some (.cells zeroM.cs 23 (0, 0)) ∧ Below w.heap.size w w7) := ⟨HR7.out.1, HR7.out.2.1⟩
          clear hbge hfa HDc
          go_upto_region 12 with fail
          rename_i K hK
          refine wp_region_lit ?_
          refine wpList_build rfl _ _ rfl (by kernel_rfl) ?_
          refine wpList_runTo rfl (some 37) rfl (.iface 87 (.pointer (some ⟨b, 0, none⟩))) w7 (by kernel_rfl) ?_
          refine wpList_store_row rfl 23 (.tmp 2) (.tmp 36) rfl w.heap.size zeroM.cs (by kernel_rfl) (by kernel_rfl) 23 _ HRR.out.1 (by kernel_rfl) rfl (by kernel_rfl) ?_
          refine wpList_runTo rfl (some 3) rfl (.iface 87 (.pointer (some ⟨b, 0, none⟩))) (w7.setRow w.heap.size zeroM.cs) (by kernel_rfl) ?_
          refine wpList_nil ?_
          refine hK _ _ ?_
          apply wp_ret
          simp only [Exit.then]
          refine bodyPost_ret (results_cr2 (fn := Tryz.f12) (p := 2) (u := 3) (ty := 23) rfl _ _ w.heap.size 23 zeroM.cs (0, 0) _ (by kernel_rfl) (setRow_heap _ _ _ _ _ _ HRR.out.1) Tryz.underlying23 rfl (by kernel_rfl)) (by kernel_rfl) ?_
          refine ⟨.iface 87 (.pointer (some ⟨b, 0, none⟩)), by rw [HDM.out.1]; rfl, ?_, below_setRow HRR.out.2 (Nat.le_refl _) _⟩
          rw [HDM.out.2]
          exact ⟨b, rfl, by have := HF.out.1; have := HR1.out.2.2; omega, HF.out.2.row (by have := HF.out.1; have := HR1.out.2.2; omega) _⟩
end Go.Proofs.YthadnogcocmfgaaGreatDoor
