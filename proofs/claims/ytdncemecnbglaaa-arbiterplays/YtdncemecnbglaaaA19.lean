/-
  The reference's Tick.
-/
import Derived.Test.YtdncemecnbglaaaA18
namespace Go.Proofs.Ytdncemecnbglaaa
set_option linter.unusedVariables false
set_option linter.unusedSimpArgs false
open Go.RowKit Go.Great Go.Maps

theorem gtI_run {op : Oper} {a : Act} {p q : Int} {r : Bool} (x y : Operand) (ho : op.op = .binOp .gtr 2 x y 2) (hx : a.eval x = .int .i64 p) (hy : a.eval y = .int .i64 q) (hr : decide (q < p) = r) (w : World) : (execOp a.eval op).run Try.prog w = .ok (.value (.bool r)) w := by
  unfold execOp
  simp only [ho, hx, hy]
  go_simp
theorem ltI_run {op : Oper} {a : Act} {p q : Int} {r : Bool} (x y : Operand) (ho : op.op = .binOp .lss 2 x y 2) (hx : a.eval x = .int .i64 p) (hy : a.eval y = .int .i64 q) (hr : decide (p < q) = r) (w : World) : (execOp a.eval op).run Try.prog w = .ok (.value (.bool r)) w := by
  unfold execOp
  simp only [ho, hx, hy]
  go_simp
/-- What is given of a list by rising numbers. -/
theorem giv_sorted {ks : List Kp} {nx i : Nat} (hs : ks.Pairwise (fun p q => p.n < q.n)) (hi : i ≤ ks.length) (hnum : ∀ j k, j < i → ks[j]? = some k → k.n = nx + j) (hge : ∀ k ∈ ks, nx ≤ k.n) (hgap : ∀ k, ks[i]? = some k → k.n ≠ nx + i) : GivR ks nx (ks.take i) (ks.drop i) (nx + i) := by
  have hp := List.pairwise_iff_getElem.1 hs
  have hbig : ∀ k ∈ ks.drop i, nx + i < k.n := fun k hk => by
    obtain ⟨j, hj⟩ := List.mem_iff_getElem?.1 hk
    rw [List.getElem?_drop] at hj
    obtain ⟨hj1, hj2⟩ := List.getElem?_eq_some_iff.1 hj
    have hlt : i < ks.length := by omega
    have h0 : nx + i < (ks[i]).n := by
      have hne := hgap ks[i] (List.getElem?_eq_getElem hlt)
      by_cases hz : i = 0
      · subst hz
        have := hge ks[0] (List.getElem_mem _)
        omega
      · have h1 := hp (i - 1) i (by omega) hlt (by omega)
        have h2 := hnum (i - 1) (ks[i - 1]'(by omega)) (by omega) (List.getElem?_eq_getElem _)
        omega
    by_cases hz : j = 0
    · subst hz
      simp only [Nat.add_zero] at hj2
      rw [← hj2]
      exact h0
    · have h1 := hp i (i + j) hlt hj1 (by omega)
      rw [hj2] at h1
      omega
  refine ⟨by rw [List.length_take]; omega, fun j k hj => ?_, ?_, fun k hk => ?_⟩
  · have hjl := (List.getElem?_eq_some_iff.1 hj).1
    rw [List.length_take] at hjl
    rw [List.getElem?_take_of_lt (by omega)] at hj
    exact ⟨List.mem_of_getElem? hj, hnum j k (by omega) hj⟩
  · conv => rhs; rw [← List.take_append_drop i ks, List.filter_append]
    have e1 : (ks.take i).filter (fun k => decide (nx + i ≤ k.n)) = [] := List.filter_eq_nil_iff.2 fun k hk => by
      obtain ⟨j, hj⟩ := List.mem_iff_getElem?.1 hk
      have hjl := (List.getElem?_eq_some_iff.1 hj).1
      rw [List.length_take] at hjl
      rw [List.getElem?_take_of_lt (by omega)] at hj
      have := hnum j k (by omega) hj
      simp
      omega
    have e2 : (ks.drop i).filter (fun k => decide (nx + i ≤ k.n)) = ks.drop i := List.filter_eq_self.2 fun k hk => by
      have := hbig k hk
      simp
      omega
    rw [e1, e2]
    rfl
  · have := hbig k hk
    omega
/-- What the reference's Tick and Hear leave. -/
structure RkO (w w' : World) (g : Nat) (kv kv' : Value) (v : Value) (out : List Kp) (a' : Ab) : Prop where
  ab : RbAt w' g kv' a'
  row : RowAt w' 35 1 v out.length (out.map (·.v))
  low : ∀ q, v.ownBlock = some q → w.heap.size ≤ q
  kown : ∀ q, kv'.ownBlock = some q → kv.ownBlock = some q ∨ w.heap.size ≤ q
  pk : ∀ k ∈ out, PkAt w' k
  fr : Fr w w' (fun x => x = g)
theorem RkO.nil {w w' : World} {g : Nat} {kv kv' : Value} {a' : Ab} (h : RbAt w' g kv' a') (hk : ∀ q, kv'.ownBlock = some q → kv.ownBlock = some q ∨ w.heap.size ≤ q) (hf : Fr w w' (fun x => x = g)) : RkO w w' g kv kv' (.slice none 0 0) [] a' := ⟨h, RowAt.none0 _ _ _, fun q hq => (by cases hq), hk, fun k hk => (by cases hk), hf⟩
/-- What the reference's Tick does. -/
def RTk (a : Ab) (now : Int) (out : List Kp) (a' : Ab) : Prop := wtB a (max a.la now) a.pat = false ∧ out = [] ∧ a' = a.tick now ∨ wtB a (max a.la now) a.pat = true ∧ ∃ m, (∃ k ∈ a.ks, k.n = m) ∧ (∀ k ∈ a.ks, m ≤ k.n) ∧ GivR a.ks m out a'.ks a'.nx ∧ a' = { a.tick now with nx := a'.nx, ks := a'.ks, si := if a'.ks = [] then a.si else max a.la now }
theorem RgO.tick {w W : World} {g : Nat} {kv0 kv : Value} {a : Ab} {i : Nat} {v : Value} {now : Int} {k0 : Kp} (hw : wtB a (max a.la now) a.pat = true) (hk : a.ks[0]? = some k0) (hs : a.ks.Pairwise (fun p q => p.n < q.n)) {w0 : World} (hf : Fr w0 w (fun x => x = g)) (h : RgO w W g kv0 kv { a.tick now with nx := k0.n } i [] 0 (.slice none 0 0) v) : ∃ out a', RkO w0 W g kv0 kv v out a' ∧ RTk a now out a' := by
  have hge : ∀ k ∈ a.ks, k0.n ≤ k.n := fun k hk' => by
    obtain ⟨j, hj⟩ := List.mem_iff_getElem?.1 hk'
    obtain ⟨hj1, hj2⟩ := List.getElem?_eq_some_iff.1 hj
    obtain ⟨h01, h02⟩ := List.getElem?_eq_some_iff.1 hk
    by_cases hz : j = 0
    · subst hz
      rw [← hj2, h02]
      exact Nat.le_refl _
    · have := List.pairwise_iff_getElem.1 hs 0 j h01 hj1 (by omega)
      rw [hj2, h02] at this
      omega
  have hg := giv_sorted hs h.le h.num hge h.gap
  have hle : i ≤ a.ks.length := h.le
  have hlen : (a.ks.take i).length = i := by rw [List.length_take]; omega
  refine ⟨a.ks.take i, _, ⟨h.ab, ?_, fun q hq => ?_, fun q hq => .inl (h.kown q hq), fun k hk => h.pk k (List.mem_of_mem_take hk), ?_⟩, .inr ⟨hw, k0.n, ⟨k0, List.mem_of_getElem? hk, rfl⟩, hge, hg, ?_⟩⟩
  · have := h.row
    rw [List.nil_append, Nat.zero_add] at this
    rw [hlen]
    exact this
  · rcases h.own q hq with e | e
    · cases e
    · exact Nat.le_trans hf.size e
  · exact hf.trans h.fr fun x _ q => q.elim id fun q => q.elim id fun q => (by cases q)
  · have e : (if i < a.ks.length then max a.la now else a.si) = if a.ks.drop i = [] then a.si else max a.la now := by
      by_cases hi : i < a.ks.length
      · rw [if_pos hi, if_neg (fun q => by have := List.drop_eq_nil_iff.1 q; omega)]
      · rw [if_neg hi, if_pos (List.drop_eq_nil_iff.2 (by omega))]
    show _ = ({ a.tick now with nx := _, ks := a.ks.drop i, si := if a.ks.drop i = [] then a.si else max a.la now } : Ab)
    rw [← e]
    rfl
set_option maxRecDepth 100000 in
set_option maxHeartbeats 2000000 in
theorem rTick_any {w : World} {g : Nat} {kv : Value} {a : Ab} (h : RbAt w g kv a) (now : Int) (hn0 : 0 ≤ now) (hn1 : now ≤ 253402300799999) : Calls Try.prog 31 #[.pointer (some ⟨g, 0, none⟩), .int .i64 now] w fun e w' => ∃ v', e = .returned v' ∧ Hid (∃ kv' out a', RkO w w' g kv kv' v' out a' ∧ RTk a now out a') := by
  have HA : Hid (RbAt w g kv a) := h
  have htm : tmB now = true := by unfold tmB; simp [hn0, hn1]
  have hti := timed_any now w
  rw [htm] at hti
  have hla0 := h.bd.l0
  have hla1 := h.bd.l1
  clear h htm
  obtain ⟨MM, hMM⟩ : ∃ MM, MM = max a.la now := ⟨_, rfl⟩
  have HMM : Hid (MM = max a.la now ∧ 0 ≤ MM ∧ MM ≤ 253402300799999) := ⟨hMM, by omega, by omega⟩
  clear hMM hla0 hla1
  go_enter Try.func31, Try.ntmps31
  go_upto_region 1 with fail
  rename_i K hK
  refine wp_region_lit ?_
  refine wpList_runTo rfl (some 6) rfl (.int .i64 now) w (by kernel_rfl) ?_
  simp only [Act.put, List.setIfInBounds_toArray, List.set_cons_zero, List.set_cons_succ]
  refine wpList_callW rfl (some 7) rfl 43 #[.int .i64 now] (by kernel_rfl) hti ?_
  clear hti
  rintro e w1 ⟨rfl, ew⟩
  replace ew := ew.symm
  subst ew
  refine ⟨_, rfl, ?_⟩
  simp only [Act.put, List.setIfInBounds_toArray, List.set_cons_zero, List.set_cons_succ]
  refine wpList_runTo rfl (some 5) rfl (.bool true) w (by kernel_rfl) ?_
  simp only [Act.put, List.setIfInBounds_toArray, List.set_cons_zero, List.set_cons_succ]
  refine wpList_nil ?_
  refine hK _ _ ?_
  clear hK
  have c5 : w.cell? ⟨g, 5, none⟩ = some (.int .i64 a.la) := HA.out.blk.cell 5
  obtain ⟨lb, hlb⟩ : ∃ lb, decide (a.la < now) = lb := ⟨_, rfl⟩
  go_upto_region 4 with fail
  rename_i K hK
  refine wp_region_lit ?_
  refine wpList_runTo rfl (some 10) rfl (.int .i64 now) w (by kernel_rfl) ?_
  simp only [Act.put, List.setIfInBounds_toArray, List.set_cons_zero, List.set_cons_succ]
  refine wpList_runTo rfl (some 11) rfl (.pointer (some ⟨g, 0, none⟩)) w (by kernel_rfl) ?_
  simp only [Act.put, List.setIfInBounds_toArray, List.set_cons_zero, List.set_cons_succ]
  refine wpList_runTo rfl (some 12) rfl (.pointer (some ⟨g, 0, none⟩)) w (by kernel_rfl) ?_
  simp only [Act.put, List.setIfInBounds_toArray, List.set_cons_zero, List.set_cons_succ]
  refine wpList_runTo rfl (some 13) rfl (.pointer (some ⟨g, 5, none⟩)) w (by kernel_rfl) ?_
  simp only [Act.put, List.setIfInBounds_toArray, List.set_cons_zero, List.set_cons_succ]
  refine wpList_runTo rfl (some 14) rfl (.int .i64 a.la) w (by exact ldN_run (.inl rfl) (.tmp 13) rfl (by kernel_rfl) (c5)) ?_
  simp only [Act.put, List.setIfInBounds_toArray, List.set_cons_zero, List.set_cons_succ]
  refine wpList_runTo rfl (some 15) rfl (.bool lb) w (by exact gtI_run (.tmp 10) (.tmp 14) rfl (by kernel_rfl) (by kernel_rfl) hlb _) ?_
  simp only [Act.put, List.setIfInBounds_toArray, List.set_cons_zero, List.set_cons_succ]
  refine wpList_nil ?_
  refine hK _ _ ?_
  clear hK
  cases lb
  case true =>
    have hlt : a.la < now := by simpa using hlb
    have HLT : Hid (a.la < now) := hlt
    clear hlt hlb
    have f5 : w.frozen? ⟨g, 5, none⟩ = false := HA.out.blk.frozen 5
    go_upto_region 5 with fail
    rename_i K hK
    refine wp_region_lit ?_
    refine wpList_runTo rfl (some 16) rfl (.pointer (some ⟨g, 0, none⟩)) w (by kernel_rfl) ?_
    simp only [Act.put, List.setIfInBounds_toArray, List.set_cons_zero, List.set_cons_succ]
    refine wpList_runTo rfl (some 17) rfl (.int .i64 now) w (by kernel_rfl) ?_
    simp only [Act.put, List.setIfInBounds_toArray, List.set_cons_zero, List.set_cons_succ]
    refine wpList_runTo rfl (some 18) rfl (.pointer (some ⟨g, 0, none⟩)) w (by kernel_rfl) ?_
    simp only [Act.put, List.setIfInBounds_toArray, List.set_cons_zero, List.set_cons_succ]
    refine wpList_runTo rfl (some 19) rfl (.pointer (some ⟨g, 5, none⟩)) w (by kernel_rfl) ?_
    simp only [Act.put, List.setIfInBounds_toArray, List.set_cons_zero, List.set_cons_succ]
    refine wpList_skipW rfl none rfl (w' := w.setCell ⟨g, 5, none⟩ (.int .i64 now)) (stN_run (.inl rfl) (.tmp 19) (.tmp 17) rfl (by kernel_rfl) (by kernel_rfl) c5 f5) ?_
    simp only [Act.put, List.setIfInBounds_toArray, List.set_cons_zero, List.set_cons_succ]
    refine wpList_nil ?_
    refine hK _ _ ?_
    clear hK
    have H1 : Hid (RbAt (w.setCell ⟨g, 5, none⟩ (.int .i64 now)) g kv (a.tick now) ∧ Fr w (w.setCell ⟨g, 5, none⟩ (.int .i64 now)) (fun x => x = g)) := by
      have hbd := HA.out.bd
      have hf := Fr.setCell w ⟨g, 5, none⟩ (.int .i64 now) (fun x => x = g) rfl
      have e : now = max a.la now := by have := HLT.out; omega
      have := HA.out.put { a with la := now } 5 _ rfl HA.out.row HA.out.pk ⟨hbd.w1, hbd.w2, hbd.p0, hbd.p1, hbd.nx, hbd.s0, hbd.s1, hn0, hn1, hbd.kn, hbd.cn, hbd.len⟩ HA.out.so
      unfold Ab.tick
      rw [← e]
      exact ⟨this, hf⟩
    generalize w.setCell ⟨g, 5, none⟩ (.int .i64 now) = W1 at *
    clear c5 f5 hn0 hn1
    go_upto_region 6 with fail
    have hbw : Below W1.heap.size W1 W1.drew := ⟨rfl, rfl, rfl, Nat.le_refl _, fun _ _ => rfl⟩
    have H2 : Hid (RbAt W1.drew g kv (a.tick now) ∧ Fr w W1.drew (fun x => x = g)) := ⟨H1.out.1.below hbw, H1.out.2.trans (Fr.of_below hbw (fun _ => False)) fun x _ q => q.elim id False.elim⟩
    clear hbw H1
    rename_i K hK
    obtain ⟨ao, n, c, hkv, hnl⟩ : ∃ ao n c, kv = .slice ao n c ∧ n = a.ks.length := by
      obtain ⟨ao, c, e, _⟩ := HA.out.row.form
      exact ⟨ao, _, c, e, rfl⟩
    have HNL : Hid (n = a.ks.length) := hnl
    refine wp_region_held (S := fun w' => w'.cell? ⟨g, 3, none⟩ = some kv ∧ w'.cell? ⟨g, 5, none⟩ = some (.int .i64 MM) ∧ w'.cell? ⟨g, 4, none⟩ = some (.int .i64 a.si) ∧ w'.cell? ⟨g, 1, none⟩ = some (.int .i64 a.pat)) (by kernel_rfl) ?_
    change wpAnyH _ _ _ _ _ _ _ _ (World.drew _)
    generalize W1.drew = WD at *
    have hS : WD.cell? ⟨g, 3, none⟩ = some kv ∧ WD.cell? ⟨g, 5, none⟩ = some (.int .i64 MM) ∧ WD.cell? ⟨g, 4, none⟩ = some (.int .i64 a.si) ∧ WD.cell? ⟨g, 1, none⟩ = some (.int .i64 a.pat) := ⟨H2.out.1.blk.cell 3, by rw [HMM.out.1]; exact H2.out.1.blk.cell 5, H2.out.1.blk.cell 4, H2.out.1.blk.cell 1⟩
    obtain ⟨zb, hzb⟩ : ∃ zb, (n == 0) = zb := ⟨_, rfl⟩
    cases zb
    case true =>
      have HWT : Hid (wtB a (max a.la now) a.pat = false) := by
        have e : n = 0 := by simpa using hzb
        show wtB a (max a.la now) a.pat = false
        unfold wtB
        rw [← hnl, e]
        rfl
      clear hnl
      refine takeR (i := 0) (v := .pointer (some ⟨g, 0, none⟩)) (some 20) rfl rfl (by kernel_rfl) (by kernel_rfl) (by kernel_rfl) (fun _ _ _ h => h) (Or.inl ⟨by kernel_rfl, fun w' hSw => by kernel_rfl⟩) hS ?_
      simp only [Act.put, List.setIfInBounds_toArray, List.set_cons_zero, List.set_cons_succ]
      refine takeR (i := 1) (v := .pointer (some ⟨g, 0, none⟩)) (some 21) rfl rfl (by kernel_rfl) (by kernel_rfl) (by kernel_rfl) (fun _ _ _ h => h) (Or.inl ⟨by kernel_rfl, fun w' hSw => by kernel_rfl⟩) hS ?_
      simp only [Act.put, List.setIfInBounds_toArray, List.set_cons_zero, List.set_cons_succ]
      refine takeR (i := 2) (v := .pointer (some ⟨g, 3, none⟩)) (some 22) rfl rfl (by kernel_rfl) (by kernel_rfl) (by kernel_rfl) (fun _ _ _ h => h) (Or.inl ⟨by kernel_rfl, fun w' hSw => by kernel_rfl⟩) hS ?_
      simp only [Act.put, List.setIfInBounds_toArray, List.set_cons_zero, List.set_cons_succ]
      refine takeR (i := 3) (v := kv) (some 23) rfl rfl (by kernel_rfl) (by kernel_rfl) (by kernel_rfl) (fun _ _ _ h => h) (Or.inl ⟨by kernel_rfl, fun w' hSw => by exact ldK_run (.tmp 22) rfl (by kernel_rfl) (hSw.1)⟩) hS ?_
      simp only [Act.put, List.setIfInBounds_toArray, List.set_cons_zero, List.set_cons_succ]
      refine takeR (i := 4) (v := .int .i64 (n : Int)) (some 24) rfl rfl (by kernel_rfl) (by kernel_rfl) (by kernel_rfl) (fun _ _ _ h => h) (Or.inl ⟨by kernel_rfl, fun w' hSw => by exact lenK_run hkv (.tmp 23) rfl (by kernel_rfl) _⟩) hS ?_
      simp only [Act.put, List.setIfInBounds_toArray, List.set_cons_zero, List.set_cons_succ]
      refine takeR (i := 5) (v := .bool true) (some 25) rfl rfl (by kernel_rfl) (by kernel_rfl) (by kernel_rfl) (fun _ _ _ h => h) (Or.inl ⟨by kernel_rfl, fun w' hSw => by exact eqN_run (p := n) (q := 0) (.tmp 24) (.const (.int .i64 0)) rfl (by kernel_rfl) rfl hzb _⟩) hS ?_
      simp only [Act.put, List.setIfInBounds_toArray, List.set_cons_zero, List.set_cons_succ]
      refine takeR (i := 6) (v := .bool true) (some 26) rfl rfl (by kernel_rfl) (by kernel_rfl) (by kernel_rfl) (fun _ _ _ h => h) (Or.inl ⟨by kernel_rfl, fun w' hSw => by kernel_rfl⟩) hS ?_
      simp only [Act.put, List.setIfInBounds_toArray, List.set_cons_zero, List.set_cons_succ]
      refine takeR (i := 7) (v := undef) (some 27) rfl rfl (by kernel_rfl) (by kernel_rfl) (by kernel_rfl) (fun _ _ _ h => h) (Or.inr ⟨by kernel_rfl, rfl⟩) hS ?_
      simp only [Act.put, List.setIfInBounds_toArray, List.set_cons_zero, List.set_cons_succ]
      refine takeR (i := 8) (v := undef) (some 28) rfl rfl (by kernel_rfl) (by kernel_rfl) (by kernel_rfl) (fun _ _ _ h => h) (Or.inr ⟨by kernel_rfl, rfl⟩) hS ?_
      simp only [Act.put, List.setIfInBounds_toArray, List.set_cons_zero, List.set_cons_succ]
      refine takeR (i := 9) (v := undef) (some 29) rfl rfl (by kernel_rfl) (by kernel_rfl) (by kernel_rfl) (fun _ _ _ h => h) (Or.inr ⟨by kernel_rfl, rfl⟩) hS ?_
      simp only [Act.put, List.setIfInBounds_toArray, List.set_cons_zero, List.set_cons_succ]
      refine takeR (i := 10) (v := undef) (some 30) rfl rfl (by kernel_rfl) (by kernel_rfl) (by kernel_rfl) (fun _ _ _ h => h) (Or.inr ⟨by kernel_rfl, rfl⟩) hS ?_
      simp only [Act.put, List.setIfInBounds_toArray, List.set_cons_zero, List.set_cons_succ]
      refine takeR (i := 11) (v := undef) (some 31) rfl rfl (by kernel_rfl) (by kernel_rfl) (by kernel_rfl) (fun _ _ _ h => h) (Or.inr ⟨by kernel_rfl, rfl⟩) hS ?_
      simp only [Act.put, List.setIfInBounds_toArray, List.set_cons_zero, List.set_cons_succ]
      refine takeR (i := 12) (v := undef) (some 32) rfl rfl (by kernel_rfl) (by kernel_rfl) (by kernel_rfl) (fun _ _ _ h => h) (Or.inr ⟨by kernel_rfl, rfl⟩) hS ?_
      simp only [Act.put, List.setIfInBounds_toArray, List.set_cons_zero, List.set_cons_succ]
      refine takeR (i := 13) (v := undef) (some 33) rfl rfl (by kernel_rfl) (by kernel_rfl) (by kernel_rfl) (fun _ _ _ h => h) (Or.inr ⟨by kernel_rfl, rfl⟩) hS ?_
      simp only [Act.put, List.setIfInBounds_toArray, List.set_cons_zero, List.set_cons_succ]
      refine takeR (i := 14) (v := undef) (some 34) rfl rfl (by kernel_rfl) (by kernel_rfl) (by kernel_rfl) (fun _ _ _ h => h) (Or.inr ⟨by kernel_rfl, rfl⟩) hS ?_
      simp only [Act.put, List.setIfInBounds_toArray, List.set_cons_zero, List.set_cons_succ]
      refine takeR (i := 15) (v := undef) (some 35) rfl rfl (by kernel_rfl) (by kernel_rfl) (by kernel_rfl) (fun _ _ _ h => h) (Or.inr ⟨by kernel_rfl, rfl⟩) hS ?_
      simp only [Act.put, List.setIfInBounds_toArray, List.set_cons_zero, List.set_cons_succ]
      refine takeR (i := 16) (v := undef) (some 36) rfl rfl (by kernel_rfl) (by kernel_rfl) (by kernel_rfl) (fun _ _ _ h => h) (Or.inr ⟨by kernel_rfl, rfl⟩) hS ?_
      simp only [Act.put, List.setIfInBounds_toArray, List.set_cons_zero, List.set_cons_succ]
      refine takeR (i := 17) (v := undef) (some 37) rfl rfl (by kernel_rfl) (by kernel_rfl) (by kernel_rfl) (fun _ _ _ h => h) (Or.inr ⟨by kernel_rfl, rfl⟩) hS ?_
      simp only [Act.put, List.setIfInBounds_toArray, List.set_cons_zero, List.set_cons_succ]
      refine takeR (i := 18) (v := undef) (some 38) rfl rfl (by kernel_rfl) (by kernel_rfl) (by kernel_rfl) (fun _ _ _ h => h) (Or.inr ⟨by kernel_rfl, rfl⟩) hS ?_
      simp only [Act.put, List.setIfInBounds_toArray, List.set_cons_zero, List.set_cons_succ]
      refine takeR (i := 19) (v := undef) (some 39) rfl rfl (by kernel_rfl) (by kernel_rfl) (by kernel_rfl) (fun _ _ _ h => h) (Or.inr ⟨by kernel_rfl, rfl⟩) hS ?_
      simp only [Act.put, List.setIfInBounds_toArray, List.set_cons_zero, List.set_cons_succ]
      refine takeR (i := 20) (v := undef) (some 40) rfl rfl (by kernel_rfl) (by kernel_rfl) (by kernel_rfl) (fun _ _ _ h => h) (Or.inr ⟨by kernel_rfl, rfl⟩) hS ?_
      simp only [Act.put, List.setIfInBounds_toArray, List.set_cons_zero, List.set_cons_succ]
      refine takeR (i := 21) (v := .bool true) (some 41) rfl rfl (by kernel_rfl) (by kernel_rfl) (by kernel_rfl) (fun _ _ _ h => h) (Or.inl ⟨by kernel_rfl, fun w' hSw => by kernel_rfl⟩) hS ?_
      simp only [Act.put, List.setIfInBounds_toArray, List.set_cons_zero, List.set_cons_succ]
      refine wpAnyH_done (by kernel_rfl) ?_ _
      refine hK _ _ ?_
      clear hK hS
      have HZ : Hid (∃ kv' out a', RkO w WD g kv kv' (.slice none 0 0) out a' ∧ RTk a now out a') := ⟨kv, [], _, RkO.nil H2.out.1 (fun q hq => .inl hq) H2.out.2, .inl ⟨HWT.out, rfl, rfl⟩⟩
      clear H2 HA HMM HWT hkv HNL hzb
      go_wp2
      go_ret
      exact ⟨_, rfl, HZ.out⟩
    case false =>
      have hn : 0 < n := by have : ¬ n = 0 := by simpa using hzb
                            omega
      obtain ⟨pb, hpb⟩ : ∃ pb, decide (MM - a.si < a.pat) = pb := ⟨_, rfl⟩
      have HWT : Hid (wtB a (max a.la now) a.pat = !pb) := by
        show wtB a (max a.la now) a.pat = !pb
        unfold wtB
        rw [← hnl, ← HMM.out.1, ← hpb, decide_eq_true hn, Bool.true_and]
        by_cases hq : MM - a.si < a.pat
        · rw [decide_eq_true hq, decide_eq_false (by omega)]; rfl
        · rw [decide_eq_false hq, decide_eq_true (by omega)]; rfl
      clear hnl
      have hsb : -9223372036854775808 ≤ MM - a.si ∧ MM - a.si ≤ 9223372036854775807 := by
        have := HA.out.bd.s0
        have := HA.out.bd.s1
        have := HMM.out.2
        omega
      refine takeR (i := 0) (v := .pointer (some ⟨g, 0, none⟩)) (some 20) rfl rfl (by kernel_rfl) (by kernel_rfl) (by kernel_rfl) (fun _ _ _ h => h) (Or.inl ⟨by kernel_rfl, fun w' hSw => by kernel_rfl⟩) hS ?_
      simp only [Act.put, List.setIfInBounds_toArray, List.set_cons_zero, List.set_cons_succ]
      refine takeR (i := 1) (v := .pointer (some ⟨g, 0, none⟩)) (some 21) rfl rfl (by kernel_rfl) (by kernel_rfl) (by kernel_rfl) (fun _ _ _ h => h) (Or.inl ⟨by kernel_rfl, fun w' hSw => by kernel_rfl⟩) hS ?_
      simp only [Act.put, List.setIfInBounds_toArray, List.set_cons_zero, List.set_cons_succ]
      refine takeR (i := 2) (v := .pointer (some ⟨g, 3, none⟩)) (some 22) rfl rfl (by kernel_rfl) (by kernel_rfl) (by kernel_rfl) (fun _ _ _ h => h) (Or.inl ⟨by kernel_rfl, fun w' hSw => by kernel_rfl⟩) hS ?_
      simp only [Act.put, List.setIfInBounds_toArray, List.set_cons_zero, List.set_cons_succ]
      refine takeR (i := 3) (v := kv) (some 23) rfl rfl (by kernel_rfl) (by kernel_rfl) (by kernel_rfl) (fun _ _ _ h => h) (Or.inl ⟨by kernel_rfl, fun w' hSw => by exact ldK_run (.tmp 22) rfl (by kernel_rfl) (hSw.1)⟩) hS ?_
      simp only [Act.put, List.setIfInBounds_toArray, List.set_cons_zero, List.set_cons_succ]
      refine takeR (i := 4) (v := .int .i64 (n : Int)) (some 24) rfl rfl (by kernel_rfl) (by kernel_rfl) (by kernel_rfl) (fun _ _ _ h => h) (Or.inl ⟨by kernel_rfl, fun w' hSw => by exact lenK_run hkv (.tmp 23) rfl (by kernel_rfl) _⟩) hS ?_
      simp only [Act.put, List.setIfInBounds_toArray, List.set_cons_zero, List.set_cons_succ]
      refine takeR (i := 5) (v := .bool false) (some 25) rfl rfl (by kernel_rfl) (by kernel_rfl) (by kernel_rfl) (fun _ _ _ h => h) (Or.inl ⟨by kernel_rfl, fun w' hSw => by exact eqN_run (p := n) (q := 0) (.tmp 24) (.const (.int .i64 0)) rfl (by kernel_rfl) rfl hzb _⟩) hS ?_
      simp only [Act.put, List.setIfInBounds_toArray, List.set_cons_zero, List.set_cons_succ]
      refine takeR (i := 6) (v := .bool false) (some 26) rfl rfl (by kernel_rfl) (by kernel_rfl) (by kernel_rfl) (fun _ _ _ h => h) (Or.inl ⟨by kernel_rfl, fun w' hSw => by kernel_rfl⟩) hS ?_
      simp only [Act.put, List.setIfInBounds_toArray, List.set_cons_zero, List.set_cons_succ]
      refine takeR (i := 7) (v := .pointer (some ⟨g, 0, none⟩)) (some 27) rfl rfl (by kernel_rfl) (by kernel_rfl) (by kernel_rfl) (fun _ _ _ h => h) (Or.inl ⟨by kernel_rfl, fun w' hSw => by kernel_rfl⟩) hS ?_
      simp only [Act.put, List.setIfInBounds_toArray, List.set_cons_zero, List.set_cons_succ]
      refine takeR (i := 8) (v := .pointer (some ⟨g, 0, none⟩)) (some 28) rfl rfl (by kernel_rfl) (by kernel_rfl) (by kernel_rfl) (fun _ _ _ h => h) (Or.inl ⟨by kernel_rfl, fun w' hSw => by kernel_rfl⟩) hS ?_
      simp only [Act.put, List.setIfInBounds_toArray, List.set_cons_zero, List.set_cons_succ]
      refine takeR (i := 9) (v := .pointer (some ⟨g, 5, none⟩)) (some 29) rfl rfl (by kernel_rfl) (by kernel_rfl) (by kernel_rfl) (fun _ _ _ h => h) (Or.inl ⟨by kernel_rfl, fun w' hSw => by kernel_rfl⟩) hS ?_
      simp only [Act.put, List.setIfInBounds_toArray, List.set_cons_zero, List.set_cons_succ]
      refine takeR (i := 10) (v := .int .i64 MM) (some 30) rfl rfl (by kernel_rfl) (by kernel_rfl) (by kernel_rfl) (fun _ _ _ h => h) (Or.inl ⟨by kernel_rfl, fun w' hSw => by exact ldN_run (.inl rfl) (.tmp 29) rfl (by kernel_rfl) (hSw.2.1)⟩) hS ?_
      simp only [Act.put, List.setIfInBounds_toArray, List.set_cons_zero, List.set_cons_succ]
      refine takeR (i := 11) (v := .pointer (some ⟨g, 0, none⟩)) (some 31) rfl rfl (by kernel_rfl) (by kernel_rfl) (by kernel_rfl) (fun _ _ _ h => h) (Or.inl ⟨by kernel_rfl, fun w' hSw => by kernel_rfl⟩) hS ?_
      simp only [Act.put, List.setIfInBounds_toArray, List.set_cons_zero, List.set_cons_succ]
      refine takeR (i := 12) (v := .pointer (some ⟨g, 0, none⟩)) (some 32) rfl rfl (by kernel_rfl) (by kernel_rfl) (by kernel_rfl) (fun _ _ _ h => h) (Or.inl ⟨by kernel_rfl, fun w' hSw => by kernel_rfl⟩) hS ?_
      simp only [Act.put, List.setIfInBounds_toArray, List.set_cons_zero, List.set_cons_succ]
      refine takeR (i := 13) (v := .pointer (some ⟨g, 4, none⟩)) (some 33) rfl rfl (by kernel_rfl) (by kernel_rfl) (by kernel_rfl) (fun _ _ _ h => h) (Or.inl ⟨by kernel_rfl, fun w' hSw => by kernel_rfl⟩) hS ?_
      simp only [Act.put, List.setIfInBounds_toArray, List.set_cons_zero, List.set_cons_succ]
      refine takeR (i := 14) (v := .int .i64 a.si) (some 34) rfl rfl (by kernel_rfl) (by kernel_rfl) (by kernel_rfl) (fun _ _ _ h => h) (Or.inl ⟨by kernel_rfl, fun w' hSw => by exact ldN_run (.inl rfl) (.tmp 33) rfl (by kernel_rfl) (hSw.2.2.1)⟩) hS ?_
      simp only [Act.put, List.setIfInBounds_toArray, List.set_cons_zero, List.set_cons_succ]
      refine takeR (i := 15) (v := .int .i64 (MM - a.si)) (some 35) rfl rfl (by kernel_rfl) (by kernel_rfl) (by kernel_rfl) (fun _ _ _ h => h) (Or.inl ⟨by kernel_rfl, fun w' hSw => by exact subI_run (.tmp 30) (.tmp 34) rfl (by kernel_rfl) (by kernel_rfl) hsb _⟩) hS ?_
      simp only [Act.put, List.setIfInBounds_toArray, List.set_cons_zero, List.set_cons_succ]
      refine takeR (i := 16) (v := .pointer (some ⟨g, 0, none⟩)) (some 36) rfl rfl (by kernel_rfl) (by kernel_rfl) (by kernel_rfl) (fun _ _ _ h => h) (Or.inl ⟨by kernel_rfl, fun w' hSw => by kernel_rfl⟩) hS ?_
      simp only [Act.put, List.setIfInBounds_toArray, List.set_cons_zero, List.set_cons_succ]
      refine takeR (i := 17) (v := .pointer (some ⟨g, 0, none⟩)) (some 37) rfl rfl (by kernel_rfl) (by kernel_rfl) (by kernel_rfl) (fun _ _ _ h => h) (Or.inl ⟨by kernel_rfl, fun w' hSw => by kernel_rfl⟩) hS ?_
      simp only [Act.put, List.setIfInBounds_toArray, List.set_cons_zero, List.set_cons_succ]
      refine takeR (i := 18) (v := .pointer (some ⟨g, 1, none⟩)) (some 38) rfl rfl (by kernel_rfl) (by kernel_rfl) (by kernel_rfl) (fun _ _ _ h => h) (Or.inl ⟨by kernel_rfl, fun w' hSw => by kernel_rfl⟩) hS ?_
      simp only [Act.put, List.setIfInBounds_toArray, List.set_cons_zero, List.set_cons_succ]
      refine takeR (i := 19) (v := .int .i64 a.pat) (some 39) rfl rfl (by kernel_rfl) (by kernel_rfl) (by kernel_rfl) (fun _ _ _ h => h) (Or.inl ⟨by kernel_rfl, fun w' hSw => by exact ldN_run (.inl rfl) (.tmp 38) rfl (by kernel_rfl) (hSw.2.2.2)⟩) hS ?_
      simp only [Act.put, List.setIfInBounds_toArray, List.set_cons_zero, List.set_cons_succ]
      refine takeR (i := 20) (v := .bool pb) (some 40) rfl rfl (by kernel_rfl) (by kernel_rfl) (by kernel_rfl) (fun _ _ _ h => h) (Or.inl ⟨by kernel_rfl, fun w' hSw => by exact ltI_run (.tmp 35) (.tmp 39) rfl (by kernel_rfl) (by kernel_rfl) hpb _⟩) hS ?_
      simp only [Act.put, List.setIfInBounds_toArray, List.set_cons_zero, List.set_cons_succ]
      refine takeR (i := 21) (v := .bool pb) (some 41) rfl rfl (by kernel_rfl) (by kernel_rfl) (by kernel_rfl) (fun _ _ _ h => h) (Or.inl ⟨by kernel_rfl, fun w' hSw => by kernel_rfl⟩) hS ?_
      simp only [Act.put, List.setIfInBounds_toArray, List.set_cons_zero, List.set_cons_succ]
      refine wpAnyH_done (by kernel_rfl) ?_ _
      refine hK _ _ ?_
      clear hK hS hsb
      cases pb
      case true =>
        have HZ : Hid (∃ kv' out a', RkO w WD g kv kv' (.slice none 0 0) out a' ∧ RTk a now out a') := ⟨kv, [], _, RkO.nil H2.out.1 (fun q hq => .inl hq) H2.out.2, .inl ⟨HWT.out, rfl, rfl⟩⟩
        clear H2 HA HMM HWT hkv HNL hzb hpb
        go_wp2
        go_ret
        exact ⟨_, rfl, HZ.out⟩
      case false =>
        obtain ⟨k0, hk0⟩ : ∃ k0, a.ks[0]? = some k0 := ⟨_, List.getElem?_eq_getElem (by rw [← HNL.out]; exact hn)⟩
        obtain ⟨kq, ko, qc, hkq, hc0, hc1⟩ := (show RowAt WD 101 2 kv a.ks.length (kV a.ks) from H2.out.1.row).at2 hk0
        rw [hkv] at hkq
        injection hkq with hao hnn hcc
        subst hao
        have e0 : ko + 0 * 2 = ko := by omega
        rw [e0] at hc0
        obtain ⟨N, hN⟩ : ∃ N, N = k0.n := ⟨_, rfl⟩
        rw [← hN] at hc0
        have HK : Hid (a.ks[0]? = some k0 ∧ N = k0.n ∧ N ≤ 999999999) := ⟨hk0, hN, by rw [hN]; exact HA.out.bd.kn k0 (List.mem_of_getElem? hk0)⟩
        clear hnn hcc hN hk0 e0 hc1 hpb hzb
        have c3 : WD.cell? ⟨g, 3, none⟩ = some kv := H2.out.1.blk.cell 3
        have c2 : WD.cell? ⟨g, 2, none⟩ = some (.int .i64 (a.nx : Int)) := H2.out.1.blk.cell 2
        have f2 : WD.frozen? ⟨g, 2, none⟩ = false := H2.out.1.blk.frozen 2
        go_upto_region 8 with fail
        rename_i K hK
        refine wp_region_lit ?_
        refine wpList_runTo rfl (some 42) rfl (.pointer (some ⟨g, 0, none⟩)) WD (by kernel_rfl) ?_
        simp only [Act.put, List.setIfInBounds_toArray, List.set_cons_zero, List.set_cons_succ]
        refine wpList_runTo rfl (some 43) rfl (.pointer (some ⟨g, 0, none⟩)) WD (by kernel_rfl) ?_
        simp only [Act.put, List.setIfInBounds_toArray, List.set_cons_zero, List.set_cons_succ]
        refine wpList_runTo rfl (some 44) rfl (.pointer (some ⟨g, 0, none⟩)) WD (by kernel_rfl) ?_
        simp only [Act.put, List.setIfInBounds_toArray, List.set_cons_zero, List.set_cons_succ]
        refine wpList_runTo rfl (some 45) rfl (.pointer (some ⟨g, 3, none⟩)) WD (by kernel_rfl) ?_
        simp only [Act.put, List.setIfInBounds_toArray, List.set_cons_zero, List.set_cons_succ]
        refine wpList_runTo rfl (some 46) rfl (kv) WD (by exact ldK_run (.tmp 45) rfl (by kernel_rfl) (c3)) ?_
        simp only [Act.put, List.setIfInBounds_toArray, List.set_cons_zero, List.set_cons_succ]
        refine wpList_runTo rfl (some 47) rfl (.pointer (some ⟨kq, ko, none⟩)) WD (by exact ix0K_run hkv (.tmp 46) rfl (by kernel_rfl) hn _) ?_
        simp only [Act.put, List.setIfInBounds_toArray, List.set_cons_zero, List.set_cons_succ]
        refine wpList_runTo rfl (some 48) rfl (.pointer (some ⟨kq, ko, none⟩)) WD (by kernel_rfl) ?_
        simp only [Act.put, List.setIfInBounds_toArray, List.set_cons_zero, List.set_cons_succ]
        refine wpList_runTo rfl (some 49) rfl (.int .i64 (N : Int)) WD (by exact ldN_run (.inr rfl) (.tmp 48) rfl (by kernel_rfl) (hc0)) ?_
        simp only [Act.put, List.setIfInBounds_toArray, List.set_cons_zero, List.set_cons_succ]
        refine wpList_runTo rfl (some 50) rfl (.pointer (some ⟨g, 0, none⟩)) WD (by kernel_rfl) ?_
        simp only [Act.put, List.setIfInBounds_toArray, List.set_cons_zero, List.set_cons_succ]
        refine wpList_runTo rfl (some 51) rfl (.pointer (some ⟨g, 2, none⟩)) WD (by kernel_rfl) ?_
        simp only [Act.put, List.setIfInBounds_toArray, List.set_cons_zero, List.set_cons_succ]
        refine wpList_skipW rfl none rfl (w' := WD.setCell ⟨g, 2, none⟩ (.int .i64 (N : Int))) (stN_run (.inr rfl) (.tmp 51) (.tmp 49) rfl (by kernel_rfl) (by kernel_rfl) c2 f2) ?_
        simp only [Act.put, List.setIfInBounds_toArray, List.set_cons_zero, List.set_cons_succ]
        refine wpList_nil ?_
        refine hK _ _ ?_
        clear hK
        have H4 : Hid (RbAt (WD.setCell ⟨g, 2, none⟩ (.int .i64 (N : Int))) g kv { a.tick now with nx := k0.n } ∧ Fr w (WD.setCell ⟨g, 2, none⟩ (.int .i64 (N : Int))) (fun x => x = g)) := by
          have hbd := H2.out.1.bd
          have hf := Fr.setCell WD ⟨g, 2, none⟩ (.int .i64 (N : Int)) (fun x => x = g) rfl
          have hNb := HK.out.2.2
          rw [HK.out.2.1] at hf hNb ⊢
          exact ⟨H2.out.1.put _ 2 _ rfl H2.out.1.row H2.out.1.pk ⟨hbd.w1, hbd.w2, hbd.p0, hbd.p1, by show k0.n ≤ _; omega, hbd.s0, hbd.s1, hbd.l0, hbd.l1, hbd.kn, hbd.cn, hbd.len⟩ H2.out.1.so, H2.out.2.trans hf fun x _ q => q.elim id id⟩
        generalize WD.setCell ⟨g, 2, none⟩ (.int .i64 (N : Int)) = W4 at *
        clear c2 f2 c3 hc0 H2 hkv
        have hgv := rGives_any H4.out.1 (RowAt.none0 W4 35 1) (Nat.zero_le _)
        go_upto_region 9 with fail
        rename_i K hK
        refine wp_region_lit ?_
        refine wpList_runTo rfl (some 52) rfl (.pointer (some ⟨g, 0, none⟩)) W4 (by kernel_rfl) ?_
        simp only [Act.put, List.setIfInBounds_toArray, List.set_cons_zero, List.set_cons_succ]
        refine wpList_callW rfl (some 53) rfl 44 #[.pointer (some ⟨g, 0, none⟩), .slice none 0 0] (by kernel_rfl) hgv ?_
        clear hgv
        rintro e W5 ⟨v5, rfl, hx⟩
        refine ⟨_, rfl, ?_⟩
        simp only [Act.put, List.setIfInBounds_toArray, List.set_cons_zero, List.set_cons_succ]
        refine wpList_runTo rfl (some 4) rfl (v5) W5 (by kernel_rfl) ?_
        simp only [Act.put, List.setIfInBounds_toArray, List.set_cons_zero, List.set_cons_succ]
        refine wpList_nil ?_
        refine hK _ _ ?_
        clear hK
        have HZ : Hid (∃ kv' out a', RkO w W5 g kv kv' v5 out a' ∧ RTk a now out a') := by
          obtain ⟨i, kv', h1⟩ := hx.out
          obtain ⟨out, a', h2, h3⟩ := RgO.tick HWT.out HK.out.1 HA.out.so H4.out.2 h1
          exact ⟨kv', out, a', h2, h3⟩
        clear hx H4 HA HMM HWT HNL HK
        go_wp2
        go_ret
        exact ⟨_, rfl, HZ.out⟩
  case false =>
    have hlt : ¬ a.la < now := by simpa using hlb
    have HLT : Hid (¬ a.la < now) := hlt
    clear hlt hlb
    have H1 : Hid (RbAt w g kv (a.tick now) ∧ Fr w w (fun x => x = g)) := by
      have e : a.la = max a.la now := by have := HLT.out; omega
      have ht : a.tick now = a := by unfold Ab.tick; rw [← e]
      rw [ht]
      exact ⟨HA.out, Fr.refl _ _⟩
    obtain ⟨W1, hW1⟩ : ∃ W1, W1 = w := ⟨_, rfl⟩
    rw [← hW1] at H1
    have HW : Hid (W1 = w) := hW1
    clear c5 hn0 hn1
    subst hW1
    clear HW
    go_upto_region 6 with fail
    have hbw : Below W1.heap.size W1 W1.drew := ⟨rfl, rfl, rfl, Nat.le_refl _, fun _ _ => rfl⟩
    have H2 : Hid (RbAt W1.drew g kv (a.tick now) ∧ Fr W1 W1.drew (fun x => x = g)) := ⟨H1.out.1.below hbw, H1.out.2.trans (Fr.of_below hbw (fun _ => False)) fun x _ q => q.elim id False.elim⟩
    clear hbw H1
    rename_i K hK
    obtain ⟨ao, n, c, hkv, hnl⟩ : ∃ ao n c, kv = .slice ao n c ∧ n = a.ks.length := by
      obtain ⟨ao, c, e, _⟩ := HA.out.row.form
      exact ⟨ao, _, c, e, rfl⟩
    have HNL : Hid (n = a.ks.length) := hnl
    refine wp_region_held (S := fun w' => w'.cell? ⟨g, 3, none⟩ = some kv ∧ w'.cell? ⟨g, 5, none⟩ = some (.int .i64 MM) ∧ w'.cell? ⟨g, 4, none⟩ = some (.int .i64 a.si) ∧ w'.cell? ⟨g, 1, none⟩ = some (.int .i64 a.pat)) (by kernel_rfl) ?_
    change wpAnyH _ _ _ _ _ _ _ _ (World.drew _)
    generalize W1.drew = WD at *
    have hS : WD.cell? ⟨g, 3, none⟩ = some kv ∧ WD.cell? ⟨g, 5, none⟩ = some (.int .i64 MM) ∧ WD.cell? ⟨g, 4, none⟩ = some (.int .i64 a.si) ∧ WD.cell? ⟨g, 1, none⟩ = some (.int .i64 a.pat) := ⟨H2.out.1.blk.cell 3, by rw [HMM.out.1]; exact H2.out.1.blk.cell 5, H2.out.1.blk.cell 4, H2.out.1.blk.cell 1⟩
    obtain ⟨zb, hzb⟩ : ∃ zb, (n == 0) = zb := ⟨_, rfl⟩
    cases zb
    case true =>
      have HWT : Hid (wtB a (max a.la now) a.pat = false) := by
        have e : n = 0 := by simpa using hzb
        show wtB a (max a.la now) a.pat = false
        unfold wtB
        rw [← hnl, e]
        rfl
      clear hnl
      refine takeR (i := 0) (v := .pointer (some ⟨g, 0, none⟩)) (some 20) rfl rfl (by kernel_rfl) (by kernel_rfl) (by kernel_rfl) (fun _ _ _ h => h) (Or.inl ⟨by kernel_rfl, fun w' hSw => by kernel_rfl⟩) hS ?_
      simp only [Act.put, List.setIfInBounds_toArray, List.set_cons_zero, List.set_cons_succ]
      refine takeR (i := 1) (v := .pointer (some ⟨g, 0, none⟩)) (some 21) rfl rfl (by kernel_rfl) (by kernel_rfl) (by kernel_rfl) (fun _ _ _ h => h) (Or.inl ⟨by kernel_rfl, fun w' hSw => by kernel_rfl⟩) hS ?_
      simp only [Act.put, List.setIfInBounds_toArray, List.set_cons_zero, List.set_cons_succ]
      refine takeR (i := 2) (v := .pointer (some ⟨g, 3, none⟩)) (some 22) rfl rfl (by kernel_rfl) (by kernel_rfl) (by kernel_rfl) (fun _ _ _ h => h) (Or.inl ⟨by kernel_rfl, fun w' hSw => by kernel_rfl⟩) hS ?_
      simp only [Act.put, List.setIfInBounds_toArray, List.set_cons_zero, List.set_cons_succ]
      refine takeR (i := 3) (v := kv) (some 23) rfl rfl (by kernel_rfl) (by kernel_rfl) (by kernel_rfl) (fun _ _ _ h => h) (Or.inl ⟨by kernel_rfl, fun w' hSw => by exact ldK_run (.tmp 22) rfl (by kernel_rfl) (hSw.1)⟩) hS ?_
      simp only [Act.put, List.setIfInBounds_toArray, List.set_cons_zero, List.set_cons_succ]
      refine takeR (i := 4) (v := .int .i64 (n : Int)) (some 24) rfl rfl (by kernel_rfl) (by kernel_rfl) (by kernel_rfl) (fun _ _ _ h => h) (Or.inl ⟨by kernel_rfl, fun w' hSw => by exact lenK_run hkv (.tmp 23) rfl (by kernel_rfl) _⟩) hS ?_
      simp only [Act.put, List.setIfInBounds_toArray, List.set_cons_zero, List.set_cons_succ]
      refine takeR (i := 5) (v := .bool true) (some 25) rfl rfl (by kernel_rfl) (by kernel_rfl) (by kernel_rfl) (fun _ _ _ h => h) (Or.inl ⟨by kernel_rfl, fun w' hSw => by exact eqN_run (p := n) (q := 0) (.tmp 24) (.const (.int .i64 0)) rfl (by kernel_rfl) rfl hzb _⟩) hS ?_
      simp only [Act.put, List.setIfInBounds_toArray, List.set_cons_zero, List.set_cons_succ]
      refine takeR (i := 6) (v := .bool true) (some 26) rfl rfl (by kernel_rfl) (by kernel_rfl) (by kernel_rfl) (fun _ _ _ h => h) (Or.inl ⟨by kernel_rfl, fun w' hSw => by kernel_rfl⟩) hS ?_
      simp only [Act.put, List.setIfInBounds_toArray, List.set_cons_zero, List.set_cons_succ]
      refine takeR (i := 7) (v := undef) (some 27) rfl rfl (by kernel_rfl) (by kernel_rfl) (by kernel_rfl) (fun _ _ _ h => h) (Or.inr ⟨by kernel_rfl, rfl⟩) hS ?_
      simp only [Act.put, List.setIfInBounds_toArray, List.set_cons_zero, List.set_cons_succ]
      refine takeR (i := 8) (v := undef) (some 28) rfl rfl (by kernel_rfl) (by kernel_rfl) (by kernel_rfl) (fun _ _ _ h => h) (Or.inr ⟨by kernel_rfl, rfl⟩) hS ?_
      simp only [Act.put, List.setIfInBounds_toArray, List.set_cons_zero, List.set_cons_succ]
      refine takeR (i := 9) (v := undef) (some 29) rfl rfl (by kernel_rfl) (by kernel_rfl) (by kernel_rfl) (fun _ _ _ h => h) (Or.inr ⟨by kernel_rfl, rfl⟩) hS ?_
      simp only [Act.put, List.setIfInBounds_toArray, List.set_cons_zero, List.set_cons_succ]
      refine takeR (i := 10) (v := undef) (some 30) rfl rfl (by kernel_rfl) (by kernel_rfl) (by kernel_rfl) (fun _ _ _ h => h) (Or.inr ⟨by kernel_rfl, rfl⟩) hS ?_
      simp only [Act.put, List.setIfInBounds_toArray, List.set_cons_zero, List.set_cons_succ]
      refine takeR (i := 11) (v := undef) (some 31) rfl rfl (by kernel_rfl) (by kernel_rfl) (by kernel_rfl) (fun _ _ _ h => h) (Or.inr ⟨by kernel_rfl, rfl⟩) hS ?_
      simp only [Act.put, List.setIfInBounds_toArray, List.set_cons_zero, List.set_cons_succ]
      refine takeR (i := 12) (v := undef) (some 32) rfl rfl (by kernel_rfl) (by kernel_rfl) (by kernel_rfl) (fun _ _ _ h => h) (Or.inr ⟨by kernel_rfl, rfl⟩) hS ?_
      simp only [Act.put, List.setIfInBounds_toArray, List.set_cons_zero, List.set_cons_succ]
      refine takeR (i := 13) (v := undef) (some 33) rfl rfl (by kernel_rfl) (by kernel_rfl) (by kernel_rfl) (fun _ _ _ h => h) (Or.inr ⟨by kernel_rfl, rfl⟩) hS ?_
      simp only [Act.put, List.setIfInBounds_toArray, List.set_cons_zero, List.set_cons_succ]
      refine takeR (i := 14) (v := undef) (some 34) rfl rfl (by kernel_rfl) (by kernel_rfl) (by kernel_rfl) (fun _ _ _ h => h) (Or.inr ⟨by kernel_rfl, rfl⟩) hS ?_
      simp only [Act.put, List.setIfInBounds_toArray, List.set_cons_zero, List.set_cons_succ]
      refine takeR (i := 15) (v := undef) (some 35) rfl rfl (by kernel_rfl) (by kernel_rfl) (by kernel_rfl) (fun _ _ _ h => h) (Or.inr ⟨by kernel_rfl, rfl⟩) hS ?_
      simp only [Act.put, List.setIfInBounds_toArray, List.set_cons_zero, List.set_cons_succ]
      refine takeR (i := 16) (v := undef) (some 36) rfl rfl (by kernel_rfl) (by kernel_rfl) (by kernel_rfl) (fun _ _ _ h => h) (Or.inr ⟨by kernel_rfl, rfl⟩) hS ?_
      simp only [Act.put, List.setIfInBounds_toArray, List.set_cons_zero, List.set_cons_succ]
      refine takeR (i := 17) (v := undef) (some 37) rfl rfl (by kernel_rfl) (by kernel_rfl) (by kernel_rfl) (fun _ _ _ h => h) (Or.inr ⟨by kernel_rfl, rfl⟩) hS ?_
      simp only [Act.put, List.setIfInBounds_toArray, List.set_cons_zero, List.set_cons_succ]
      refine takeR (i := 18) (v := undef) (some 38) rfl rfl (by kernel_rfl) (by kernel_rfl) (by kernel_rfl) (fun _ _ _ h => h) (Or.inr ⟨by kernel_rfl, rfl⟩) hS ?_
      simp only [Act.put, List.setIfInBounds_toArray, List.set_cons_zero, List.set_cons_succ]
      refine takeR (i := 19) (v := undef) (some 39) rfl rfl (by kernel_rfl) (by kernel_rfl) (by kernel_rfl) (fun _ _ _ h => h) (Or.inr ⟨by kernel_rfl, rfl⟩) hS ?_
      simp only [Act.put, List.setIfInBounds_toArray, List.set_cons_zero, List.set_cons_succ]
      refine takeR (i := 20) (v := undef) (some 40) rfl rfl (by kernel_rfl) (by kernel_rfl) (by kernel_rfl) (fun _ _ _ h => h) (Or.inr ⟨by kernel_rfl, rfl⟩) hS ?_
      simp only [Act.put, List.setIfInBounds_toArray, List.set_cons_zero, List.set_cons_succ]
      refine takeR (i := 21) (v := .bool true) (some 41) rfl rfl (by kernel_rfl) (by kernel_rfl) (by kernel_rfl) (fun _ _ _ h => h) (Or.inl ⟨by kernel_rfl, fun w' hSw => by kernel_rfl⟩) hS ?_
      simp only [Act.put, List.setIfInBounds_toArray, List.set_cons_zero, List.set_cons_succ]
      refine wpAnyH_done (by kernel_rfl) ?_ _
      refine hK _ _ ?_
      clear hK hS
      have HZ : Hid (∃ kv' out a', RkO W1 WD g kv kv' (.slice none 0 0) out a' ∧ RTk a now out a') := ⟨kv, [], _, RkO.nil H2.out.1 (fun q hq => .inl hq) H2.out.2, .inl ⟨HWT.out, rfl, rfl⟩⟩
      clear H2 HA HMM HWT hkv HNL hzb
      go_wp2
      go_ret
      exact ⟨_, rfl, HZ.out⟩
    case false =>
      have hn : 0 < n := by have : ¬ n = 0 := by simpa using hzb
                            omega
      obtain ⟨pb, hpb⟩ : ∃ pb, decide (MM - a.si < a.pat) = pb := ⟨_, rfl⟩
      have HWT : Hid (wtB a (max a.la now) a.pat = !pb) := by
        show wtB a (max a.la now) a.pat = !pb
        unfold wtB
        rw [← hnl, ← HMM.out.1, ← hpb, decide_eq_true hn, Bool.true_and]
        by_cases hq : MM - a.si < a.pat
        · rw [decide_eq_true hq, decide_eq_false (by omega)]; rfl
        · rw [decide_eq_false hq, decide_eq_true (by omega)]; rfl
      clear hnl
      have hsb : -9223372036854775808 ≤ MM - a.si ∧ MM - a.si ≤ 9223372036854775807 := by
        have := HA.out.bd.s0
        have := HA.out.bd.s1
        have := HMM.out.2
        omega
      refine takeR (i := 0) (v := .pointer (some ⟨g, 0, none⟩)) (some 20) rfl rfl (by kernel_rfl) (by kernel_rfl) (by kernel_rfl) (fun _ _ _ h => h) (Or.inl ⟨by kernel_rfl, fun w' hSw => by kernel_rfl⟩) hS ?_
      simp only [Act.put, List.setIfInBounds_toArray, List.set_cons_zero, List.set_cons_succ]
      refine takeR (i := 1) (v := .pointer (some ⟨g, 0, none⟩)) (some 21) rfl rfl (by kernel_rfl) (by kernel_rfl) (by kernel_rfl) (fun _ _ _ h => h) (Or.inl ⟨by kernel_rfl, fun w' hSw => by kernel_rfl⟩) hS ?_
      simp only [Act.put, List.setIfInBounds_toArray, List.set_cons_zero, List.set_cons_succ]
      refine takeR (i := 2) (v := .pointer (some ⟨g, 3, none⟩)) (some 22) rfl rfl (by kernel_rfl) (by kernel_rfl) (by kernel_rfl) (fun _ _ _ h => h) (Or.inl ⟨by kernel_rfl, fun w' hSw => by kernel_rfl⟩) hS ?_
      simp only [Act.put, List.setIfInBounds_toArray, List.set_cons_zero, List.set_cons_succ]
      refine takeR (i := 3) (v := kv) (some 23) rfl rfl (by kernel_rfl) (by kernel_rfl) (by kernel_rfl) (fun _ _ _ h => h) (Or.inl ⟨by kernel_rfl, fun w' hSw => by exact ldK_run (.tmp 22) rfl (by kernel_rfl) (hSw.1)⟩) hS ?_
      simp only [Act.put, List.setIfInBounds_toArray, List.set_cons_zero, List.set_cons_succ]
      refine takeR (i := 4) (v := .int .i64 (n : Int)) (some 24) rfl rfl (by kernel_rfl) (by kernel_rfl) (by kernel_rfl) (fun _ _ _ h => h) (Or.inl ⟨by kernel_rfl, fun w' hSw => by exact lenK_run hkv (.tmp 23) rfl (by kernel_rfl) _⟩) hS ?_
      simp only [Act.put, List.setIfInBounds_toArray, List.set_cons_zero, List.set_cons_succ]
      refine takeR (i := 5) (v := .bool false) (some 25) rfl rfl (by kernel_rfl) (by kernel_rfl) (by kernel_rfl) (fun _ _ _ h => h) (Or.inl ⟨by kernel_rfl, fun w' hSw => by exact eqN_run (p := n) (q := 0) (.tmp 24) (.const (.int .i64 0)) rfl (by kernel_rfl) rfl hzb _⟩) hS ?_
      simp only [Act.put, List.setIfInBounds_toArray, List.set_cons_zero, List.set_cons_succ]
      refine takeR (i := 6) (v := .bool false) (some 26) rfl rfl (by kernel_rfl) (by kernel_rfl) (by kernel_rfl) (fun _ _ _ h => h) (Or.inl ⟨by kernel_rfl, fun w' hSw => by kernel_rfl⟩) hS ?_
      simp only [Act.put, List.setIfInBounds_toArray, List.set_cons_zero, List.set_cons_succ]
      refine takeR (i := 7) (v := .pointer (some ⟨g, 0, none⟩)) (some 27) rfl rfl (by kernel_rfl) (by kernel_rfl) (by kernel_rfl) (fun _ _ _ h => h) (Or.inl ⟨by kernel_rfl, fun w' hSw => by kernel_rfl⟩) hS ?_
      simp only [Act.put, List.setIfInBounds_toArray, List.set_cons_zero, List.set_cons_succ]
      refine takeR (i := 8) (v := .pointer (some ⟨g, 0, none⟩)) (some 28) rfl rfl (by kernel_rfl) (by kernel_rfl) (by kernel_rfl) (fun _ _ _ h => h) (Or.inl ⟨by kernel_rfl, fun w' hSw => by kernel_rfl⟩) hS ?_
      simp only [Act.put, List.setIfInBounds_toArray, List.set_cons_zero, List.set_cons_succ]
      refine takeR (i := 9) (v := .pointer (some ⟨g, 5, none⟩)) (some 29) rfl rfl (by kernel_rfl) (by kernel_rfl) (by kernel_rfl) (fun _ _ _ h => h) (Or.inl ⟨by kernel_rfl, fun w' hSw => by kernel_rfl⟩) hS ?_
      simp only [Act.put, List.setIfInBounds_toArray, List.set_cons_zero, List.set_cons_succ]
      refine takeR (i := 10) (v := .int .i64 MM) (some 30) rfl rfl (by kernel_rfl) (by kernel_rfl) (by kernel_rfl) (fun _ _ _ h => h) (Or.inl ⟨by kernel_rfl, fun w' hSw => by exact ldN_run (.inl rfl) (.tmp 29) rfl (by kernel_rfl) (hSw.2.1)⟩) hS ?_
      simp only [Act.put, List.setIfInBounds_toArray, List.set_cons_zero, List.set_cons_succ]
      refine takeR (i := 11) (v := .pointer (some ⟨g, 0, none⟩)) (some 31) rfl rfl (by kernel_rfl) (by kernel_rfl) (by kernel_rfl) (fun _ _ _ h => h) (Or.inl ⟨by kernel_rfl, fun w' hSw => by kernel_rfl⟩) hS ?_
      simp only [Act.put, List.setIfInBounds_toArray, List.set_cons_zero, List.set_cons_succ]
      refine takeR (i := 12) (v := .pointer (some ⟨g, 0, none⟩)) (some 32) rfl rfl (by kernel_rfl) (by kernel_rfl) (by kernel_rfl) (fun _ _ _ h => h) (Or.inl ⟨by kernel_rfl, fun w' hSw => by kernel_rfl⟩) hS ?_
      simp only [Act.put, List.setIfInBounds_toArray, List.set_cons_zero, List.set_cons_succ]
      refine takeR (i := 13) (v := .pointer (some ⟨g, 4, none⟩)) (some 33) rfl rfl (by kernel_rfl) (by kernel_rfl) (by kernel_rfl) (fun _ _ _ h => h) (Or.inl ⟨by kernel_rfl, fun w' hSw => by kernel_rfl⟩) hS ?_
      simp only [Act.put, List.setIfInBounds_toArray, List.set_cons_zero, List.set_cons_succ]
      refine takeR (i := 14) (v := .int .i64 a.si) (some 34) rfl rfl (by kernel_rfl) (by kernel_rfl) (by kernel_rfl) (fun _ _ _ h => h) (Or.inl ⟨by kernel_rfl, fun w' hSw => by exact ldN_run (.inl rfl) (.tmp 33) rfl (by kernel_rfl) (hSw.2.2.1)⟩) hS ?_
      simp only [Act.put, List.setIfInBounds_toArray, List.set_cons_zero, List.set_cons_succ]
      refine takeR (i := 15) (v := .int .i64 (MM - a.si)) (some 35) rfl rfl (by kernel_rfl) (by kernel_rfl) (by kernel_rfl) (fun _ _ _ h => h) (Or.inl ⟨by kernel_rfl, fun w' hSw => by exact subI_run (.tmp 30) (.tmp 34) rfl (by kernel_rfl) (by kernel_rfl) hsb _⟩) hS ?_
      simp only [Act.put, List.setIfInBounds_toArray, List.set_cons_zero, List.set_cons_succ]
      refine takeR (i := 16) (v := .pointer (some ⟨g, 0, none⟩)) (some 36) rfl rfl (by kernel_rfl) (by kernel_rfl) (by kernel_rfl) (fun _ _ _ h => h) (Or.inl ⟨by kernel_rfl, fun w' hSw => by kernel_rfl⟩) hS ?_
      simp only [Act.put, List.setIfInBounds_toArray, List.set_cons_zero, List.set_cons_succ]
      refine takeR (i := 17) (v := .pointer (some ⟨g, 0, none⟩)) (some 37) rfl rfl (by kernel_rfl) (by kernel_rfl) (by kernel_rfl) (fun _ _ _ h => h) (Or.inl ⟨by kernel_rfl, fun w' hSw => by kernel_rfl⟩) hS ?_
      simp only [Act.put, List.setIfInBounds_toArray, List.set_cons_zero, List.set_cons_succ]
      refine takeR (i := 18) (v := .pointer (some ⟨g, 1, none⟩)) (some 38) rfl rfl (by kernel_rfl) (by kernel_rfl) (by kernel_rfl) (fun _ _ _ h => h) (Or.inl ⟨by kernel_rfl, fun w' hSw => by kernel_rfl⟩) hS ?_
      simp only [Act.put, List.setIfInBounds_toArray, List.set_cons_zero, List.set_cons_succ]
      refine takeR (i := 19) (v := .int .i64 a.pat) (some 39) rfl rfl (by kernel_rfl) (by kernel_rfl) (by kernel_rfl) (fun _ _ _ h => h) (Or.inl ⟨by kernel_rfl, fun w' hSw => by exact ldN_run (.inl rfl) (.tmp 38) rfl (by kernel_rfl) (hSw.2.2.2)⟩) hS ?_
      simp only [Act.put, List.setIfInBounds_toArray, List.set_cons_zero, List.set_cons_succ]
      refine takeR (i := 20) (v := .bool pb) (some 40) rfl rfl (by kernel_rfl) (by kernel_rfl) (by kernel_rfl) (fun _ _ _ h => h) (Or.inl ⟨by kernel_rfl, fun w' hSw => by exact ltI_run (.tmp 35) (.tmp 39) rfl (by kernel_rfl) (by kernel_rfl) hpb _⟩) hS ?_
      simp only [Act.put, List.setIfInBounds_toArray, List.set_cons_zero, List.set_cons_succ]
      refine takeR (i := 21) (v := .bool pb) (some 41) rfl rfl (by kernel_rfl) (by kernel_rfl) (by kernel_rfl) (fun _ _ _ h => h) (Or.inl ⟨by kernel_rfl, fun w' hSw => by kernel_rfl⟩) hS ?_
      simp only [Act.put, List.setIfInBounds_toArray, List.set_cons_zero, List.set_cons_succ]
      refine wpAnyH_done (by kernel_rfl) ?_ _
      refine hK _ _ ?_
      clear hK hS hsb
      cases pb
      case true =>
        have HZ : Hid (∃ kv' out a', RkO W1 WD g kv kv' (.slice none 0 0) out a' ∧ RTk a now out a') := ⟨kv, [], _, RkO.nil H2.out.1 (fun q hq => .inl hq) H2.out.2, .inl ⟨HWT.out, rfl, rfl⟩⟩
        clear H2 HA HMM HWT hkv HNL hzb hpb
        go_wp2
        go_ret
        exact ⟨_, rfl, HZ.out⟩
      case false =>
        obtain ⟨k0, hk0⟩ : ∃ k0, a.ks[0]? = some k0 := ⟨_, List.getElem?_eq_getElem (by rw [← HNL.out]; exact hn)⟩
        obtain ⟨kq, ko, qc, hkq, hc0, hc1⟩ := (show RowAt WD 101 2 kv a.ks.length (kV a.ks) from H2.out.1.row).at2 hk0
        rw [hkv] at hkq
        injection hkq with hao hnn hcc
        subst hao
        have e0 : ko + 0 * 2 = ko := by omega
        rw [e0] at hc0
        obtain ⟨N, hN⟩ : ∃ N, N = k0.n := ⟨_, rfl⟩
        rw [← hN] at hc0
        have HK : Hid (a.ks[0]? = some k0 ∧ N = k0.n ∧ N ≤ 999999999) := ⟨hk0, hN, by rw [hN]; exact HA.out.bd.kn k0 (List.mem_of_getElem? hk0)⟩
        clear hnn hcc hN hk0 e0 hc1 hpb hzb
        have c3 : WD.cell? ⟨g, 3, none⟩ = some kv := H2.out.1.blk.cell 3
        have c2 : WD.cell? ⟨g, 2, none⟩ = some (.int .i64 (a.nx : Int)) := H2.out.1.blk.cell 2
        have f2 : WD.frozen? ⟨g, 2, none⟩ = false := H2.out.1.blk.frozen 2
        go_upto_region 8 with fail
        rename_i K hK
        refine wp_region_lit ?_
        refine wpList_runTo rfl (some 42) rfl (.pointer (some ⟨g, 0, none⟩)) WD (by kernel_rfl) ?_
        simp only [Act.put, List.setIfInBounds_toArray, List.set_cons_zero, List.set_cons_succ]
        refine wpList_runTo rfl (some 43) rfl (.pointer (some ⟨g, 0, none⟩)) WD (by kernel_rfl) ?_
        simp only [Act.put, List.setIfInBounds_toArray, List.set_cons_zero, List.set_cons_succ]
        refine wpList_runTo rfl (some 44) rfl (.pointer (some ⟨g, 0, none⟩)) WD (by kernel_rfl) ?_
        simp only [Act.put, List.setIfInBounds_toArray, List.set_cons_zero, List.set_cons_succ]
        refine wpList_runTo rfl (some 45) rfl (.pointer (some ⟨g, 3, none⟩)) WD (by kernel_rfl) ?_
        simp only [Act.put, List.setIfInBounds_toArray, List.set_cons_zero, List.set_cons_succ]
        refine wpList_runTo rfl (some 46) rfl (kv) WD (by exact ldK_run (.tmp 45) rfl (by kernel_rfl) (c3)) ?_
        simp only [Act.put, List.setIfInBounds_toArray, List.set_cons_zero, List.set_cons_succ]
        refine wpList_runTo rfl (some 47) rfl (.pointer (some ⟨kq, ko, none⟩)) WD (by exact ix0K_run hkv (.tmp 46) rfl (by kernel_rfl) hn _) ?_
        simp only [Act.put, List.setIfInBounds_toArray, List.set_cons_zero, List.set_cons_succ]
        refine wpList_runTo rfl (some 48) rfl (.pointer (some ⟨kq, ko, none⟩)) WD (by kernel_rfl) ?_
        simp only [Act.put, List.setIfInBounds_toArray, List.set_cons_zero, List.set_cons_succ]
        refine wpList_runTo rfl (some 49) rfl (.int .i64 (N : Int)) WD (by exact ldN_run (.inr rfl) (.tmp 48) rfl (by kernel_rfl) (hc0)) ?_
        simp only [Act.put, List.setIfInBounds_toArray, List.set_cons_zero, List.set_cons_succ]
        refine wpList_runTo rfl (some 50) rfl (.pointer (some ⟨g, 0, none⟩)) WD (by kernel_rfl) ?_
        simp only [Act.put, List.setIfInBounds_toArray, List.set_cons_zero, List.set_cons_succ]
        refine wpList_runTo rfl (some 51) rfl (.pointer (some ⟨g, 2, none⟩)) WD (by kernel_rfl) ?_
        simp only [Act.put, List.setIfInBounds_toArray, List.set_cons_zero, List.set_cons_succ]
        refine wpList_skipW rfl none rfl (w' := WD.setCell ⟨g, 2, none⟩ (.int .i64 (N : Int))) (stN_run (.inr rfl) (.tmp 51) (.tmp 49) rfl (by kernel_rfl) (by kernel_rfl) c2 f2) ?_
        simp only [Act.put, List.setIfInBounds_toArray, List.set_cons_zero, List.set_cons_succ]
        refine wpList_nil ?_
        refine hK _ _ ?_
        clear hK
        have H4 : Hid (RbAt (WD.setCell ⟨g, 2, none⟩ (.int .i64 (N : Int))) g kv { a.tick now with nx := k0.n } ∧ Fr W1 (WD.setCell ⟨g, 2, none⟩ (.int .i64 (N : Int))) (fun x => x = g)) := by
          have hbd := H2.out.1.bd
          have hf := Fr.setCell WD ⟨g, 2, none⟩ (.int .i64 (N : Int)) (fun x => x = g) rfl
          have hNb := HK.out.2.2
          rw [HK.out.2.1] at hf hNb ⊢
          exact ⟨H2.out.1.put _ 2 _ rfl H2.out.1.row H2.out.1.pk ⟨hbd.w1, hbd.w2, hbd.p0, hbd.p1, by show k0.n ≤ _; omega, hbd.s0, hbd.s1, hbd.l0, hbd.l1, hbd.kn, hbd.cn, hbd.len⟩ H2.out.1.so, H2.out.2.trans hf fun x _ q => q.elim id id⟩
        generalize WD.setCell ⟨g, 2, none⟩ (.int .i64 (N : Int)) = W4 at *
        clear c2 f2 c3 hc0 H2 hkv
        have hgv := rGives_any H4.out.1 (RowAt.none0 W4 35 1) (Nat.zero_le _)
        go_upto_region 9 with fail
        rename_i K hK
        refine wp_region_lit ?_
        refine wpList_runTo rfl (some 52) rfl (.pointer (some ⟨g, 0, none⟩)) W4 (by kernel_rfl) ?_
        simp only [Act.put, List.setIfInBounds_toArray, List.set_cons_zero, List.set_cons_succ]
        refine wpList_callW rfl (some 53) rfl 44 #[.pointer (some ⟨g, 0, none⟩), .slice none 0 0] (by kernel_rfl) hgv ?_
        clear hgv
        rintro e W5 ⟨v5, rfl, hx⟩
        refine ⟨_, rfl, ?_⟩
        simp only [Act.put, List.setIfInBounds_toArray, List.set_cons_zero, List.set_cons_succ]
        refine wpList_runTo rfl (some 4) rfl (v5) W5 (by kernel_rfl) ?_
        simp only [Act.put, List.setIfInBounds_toArray, List.set_cons_zero, List.set_cons_succ]
        refine wpList_nil ?_
        refine hK _ _ ?_
        clear hK
        have HZ : Hid (∃ kv' out a', RkO W1 W5 g kv kv' v5 out a' ∧ RTk a now out a') := by
          obtain ⟨i, kv', h1⟩ := hx.out
          obtain ⟨out, a', h2, h3⟩ := RgO.tick HWT.out HK.out.1 HA.out.so H4.out.2 h1
          exact ⟨kv', out, a', h2, h3⟩
        clear hx H4 HA HMM HWT HNL HK
        go_wp2
        go_ret
        exact ⟨_, rfl, HZ.out⟩
end Go.Proofs.Ytdncemecnbglaaa
