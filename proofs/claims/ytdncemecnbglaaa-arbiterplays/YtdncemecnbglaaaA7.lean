/-
  arbiter: Tick, Wants, Lines.
-/
import Derived.Test.YtdncemecnbglaaaA6
namespace Go.Proofs.Ytdncemecnbglaaa
set_option linter.unusedVariables false
set_option linter.unusedSimpArgs false
open Go.RowKit Go.Great Go.Maps

theorem own_row {w : World} {B n : Nat} {e : TypeId} {v : Value} {xs : List Value} (h : w.ownsRow B e 1 v n xs) : RowAt w e 1 v n xs ∧ ∀ g, v.ownBlock = some g → B ≤ g := by
  refine ⟨⟨h.1, ?_⟩, ?_⟩
  · rcases h.2 with h2 | ⟨g, cap, cur, e1, e2, e3, e4, e5, e6, e7⟩
    · exact .inl h2
    · exact .inr ⟨g, 0, cap, cur, e1, e3, e4, e5, by omega, by rw [List.drop_zero]; exact e7⟩
  · intro g hg
    rcases h.2 with ⟨h2, _⟩ | ⟨g', cap, cur, e1, e2, _⟩
    · rw [h2] at hg; cases hg
    · rw [e1] at hg
      have e : g' = g := by injection hg
      subst e; exact e2
def nV (ns : List Nat) : List Value := ns.map fun (n : Nat) => .int .i64 (n : Int)
theorem ahead_ns {w : World} {g b : Nat} {a : Ab} (h : AbAt w g b a) : Calls Try.prog 26 #[.pointer (some ⟨g, 0, none⟩)] w fun e w' => ∃ (v : Value), e = .returned v ∧ Hid (∃ ns : List Nat, ns.Perm (a.ks.map (·.n)) ∧ ns.Pairwise (· ≤ ·) ∧ RowAt w' 3 1 v ns.length (nV ns) ∧ (∀ q, v.ownBlock = some q → w.heap.size ≤ q) ∧ Below w.heap.size w w') := by
  refine (ahead_any h).mono fun e w' ⟨v, e1, h2⟩ => ⟨v, e1, ?_⟩
  obtain ⟨ss, h3, h4, h5⟩ := h2.out
  have hp : (ss.mergeSort (fun x y => decide (x ≤ y))).Perm (nums a.ks) := (List.mergeSort_perm ss _).trans h3
  have hs : (ss.mergeSort (fun x y => decide (x ≤ y))).Pairwise (fun x y => decide (x ≤ y) = true) := List.pairwise_mergeSort (fun a b c h1 h2 => by simp at *; omega) (fun a b => by simp; omega) ss
  have hl : ss.length = (ss.mergeSort (fun x y => decide (x ≤ y))).length := (List.length_mergeSort _).symm
  rw [hl] at h4
  generalize ss.mergeSort (fun x y => decide (x ≤ y)) = M at *
  have hz : ∀ x ∈ M, (x.toNat : Int) = x := fun x hx => by
    have := hp.mem_iff.1 hx
    unfold nums at this
    obtain ⟨k, _, rfl⟩ := List.mem_map.1 this
    simp
  obtain ⟨r1, r2⟩ := own_row h4
  refine ⟨M.map Int.toNat, ?_, ?_, ?_, r2, h5⟩
  · have := hp.map Int.toNat
    unfold nums at this
    rw [List.map_map] at this
    have e : (Int.toNat ∘ fun k : Kp => (k.n : Int)) = fun k => k.n := by funext k; simp
    rw [e] at this
    exact this
  · rw [List.pairwise_map]
    exact hs.imp fun {x y} q => by simp at q; omega
  · rw [List.length_map]
    have e : nV (M.map Int.toNat) = M.map encZ := by
      unfold nV
      rw [List.map_map]
      exact List.map_congr_left fun x hx => by
        show Value.int .i64 ((x.toNat : Nat) : Int) = _
        rw [hz x hx]
    rw [e]
    exact r1
/-- Time goes by. -/
def Ab.tick (a : Ab) (now : Int) : Ab := { a with la := max a.la now }
/-- What Tick does. -/
def Tk (a : Ab) (now : Int) (out : List Kp) (a' : Ab) : Prop := wtB a (max a.la now) a.pat = false ∧ out = [] ∧ a' = a.tick now ∨ wtB a (max a.la now) a.pat = true ∧ ∃ m, (∃ k ∈ a.ks, k.n = m) ∧ (∀ k ∈ a.ks, m ≤ k.n) ∧ GivR a.ks m out a'.ks a'.nx ∧ a' = { a.tick now with nx := a'.nx, ks := a'.ks, si := max a.la now }
theorem ix3_run {op : Oper} {a : Act} {g o n c i : Nat} (x y : Operand) (ho : op.op = .indexAddr 42 x y) (hx : a.eval x = .slice (some ⟨g, o, none⟩) n c) (hy : a.eval y = .int .i64 (i : Int)) (hi : i < n) (w : World) : (execOp a.eval op).run Try.prog w = .ok (.value (.pointer (some ⟨g, o + i, none⟩))) w := by
  have h1 : (i : Int) < (n : Int) := by omega
  have h2 : ¬ (n : Int) ≤ (i : Int) := by omega
  unfold execOp
  simp only [ho, hx, hy]
  go_simp
theorem RowAt.at1 {w : World} {e : TypeId} {v : Value} {n : Nat} {xs : List Value} (h : RowAt w e 1 v n xs) {j : Nat} {u : Value} (hj : xs[j]? = some u) : ∃ g off cap, v = .slice (some ⟨g, off, none⟩) n cap ∧ w.cell? ⟨g, off + j, none⟩ = some u := by
  have hn : 0 < n := by
    have h1 := h.1
    have := (List.getElem?_eq_some_iff.1 hj).1
    omega
  obtain ⟨g, off, cap, cur, e1, _⟩ := h.more hn
  exact ⟨g, off, cap, e1, h.cell e1 hj⟩
set_option maxRecDepth 100000 in
set_option maxHeartbeats 2000000 in
theorem Tick_any {w : World} {g b : Nat} {a : Ab} (h : AbAt w g b a) (now : Int) (hn0 : 0 ≤ now) (hn1 : now ≤ 253402300799999) : Calls Try.prog 11 #[.pointer (some ⟨g, 0, none⟩), .int .i64 now] w fun e w' => ∃ v', e = .returned v' ∧ Hid (∃ out a', TkO w w' g b v' out a' ∧ Tk a now out a') := by
  have HA : Hid (AbAt w g b a) := h
  have htm : tmB now = true := by unfold tmB; simp [hn0, hn1]
  have hti := isTime_any now w
  rw [htm] at hti
  have hla0 := h.bd.l0
  have hla1 := h.bd.l1
  clear h htm
  obtain ⟨MM, hMM⟩ : ∃ MM, MM = max a.la now := ⟨_, rfl⟩
  have HMM : Hid (MM = max a.la now ∧ 0 ≤ MM ∧ MM ≤ 253402300799999) := ⟨hMM, by omega, by omega⟩
  clear hMM hla0 hla1
  go_enter Try.func11, Try.ntmps11
  go_upto_region 1 with fail
  rename_i K hK
  refine wp_region_lit ?_
  refine wpList_runTo rfl (some 5) rfl (.int .i64 now) w (by kernel_rfl) ?_
  simp only [Act.put, List.setIfInBounds_toArray, List.set_cons_zero, List.set_cons_succ]
  refine wpList_callW rfl (some 6) rfl 19 #[.int .i64 now] (by kernel_rfl) hti ?_
  clear hti
  rintro e w1 ⟨rfl, ew⟩
  replace ew := ew.symm
  subst ew
  refine ⟨_, rfl, ?_⟩
  simp only [Act.put, List.setIfInBounds_toArray, List.set_cons_zero, List.set_cons_succ]
  refine wpList_runTo rfl (some 7) rfl (.bool false) w (by kernel_rfl) ?_
  simp only [Act.put, List.setIfInBounds_toArray, List.set_cons_zero, List.set_cons_succ]
  refine wpList_nil ?_
  refine hK _ _ ?_
  clear hK
  have c5 : w.cell? ⟨g, 5, none⟩ = some (.int .i64 a.la) := HA.out.blk.cell 5
  have f5 : w.frozen? ⟨g, 5, none⟩ = false := HA.out.blk.frozen 5
  go_upto_region 3 with fail
  rename_i K hK
  refine wp_region_lit ?_
  refine wpList_runTo rfl (some 8) rfl (.pointer (some ⟨g, 0, none⟩)) w (by kernel_rfl) ?_
  simp only [Act.put, List.setIfInBounds_toArray, List.set_cons_zero, List.set_cons_succ]
  refine wpList_runTo rfl (some 9) rfl (.pointer (some ⟨g, 0, none⟩)) w (by kernel_rfl) ?_
  simp only [Act.put, List.setIfInBounds_toArray, List.set_cons_zero, List.set_cons_succ]
  refine wpList_runTo rfl (some 10) rfl (.pointer (some ⟨g, 0, none⟩)) w (by kernel_rfl) ?_
  simp only [Act.put, List.setIfInBounds_toArray, List.set_cons_zero, List.set_cons_succ]
  refine wpList_runTo rfl (some 11) rfl (.pointer (some ⟨g, 5, none⟩)) w (by kernel_rfl) ?_
  simp only [Act.put, List.setIfInBounds_toArray, List.set_cons_zero, List.set_cons_succ]
  refine wpList_runTo rfl (some 12) rfl (.int .i64 a.la) w (by exact ldN_run (.inl rfl) (.tmp 11) rfl (by kernel_rfl) (c5)) ?_
  simp only [Act.put, List.setIfInBounds_toArray, List.set_cons_zero, List.set_cons_succ]
  refine wpList_runTo rfl (some 13) rfl (.int .i64 now) w (by kernel_rfl) ?_
  simp only [Act.put, List.setIfInBounds_toArray, List.set_cons_zero, List.set_cons_succ]
  refine wpList_runTo rfl (some 14) rfl (.int .i64 MM) w (by rw [HMM.out.1]; exact mx_run (.tmp 12) (.tmp 13) rfl (by kernel_rfl) (by kernel_rfl) rfl _) ?_
  simp only [Act.put, List.setIfInBounds_toArray, List.set_cons_zero, List.set_cons_succ]
  refine wpList_runTo rfl (some 15) rfl (.pointer (some ⟨g, 0, none⟩)) w (by kernel_rfl) ?_
  simp only [Act.put, List.setIfInBounds_toArray, List.set_cons_zero, List.set_cons_succ]
  refine wpList_runTo rfl (some 16) rfl (.pointer (some ⟨g, 5, none⟩)) w (by kernel_rfl) ?_
  simp only [Act.put, List.setIfInBounds_toArray, List.set_cons_zero, List.set_cons_succ]
  refine wpList_skipW rfl none rfl (w' := w.setCell ⟨g, 5, none⟩ (.int .i64 MM)) (stN_run (.inl rfl) (.tmp 16) (.tmp 14) rfl (by kernel_rfl) (by kernel_rfl) c5 f5) ?_
  simp only [Act.put, List.setIfInBounds_toArray, List.set_cons_zero, List.set_cons_succ]
  refine wpList_nil ?_
  refine hK _ _ ?_
  clear hK
  have H1 : Hid (AbAt (w.setCell ⟨g, 5, none⟩ (.int .i64 MM)) g b (a.tick now) ∧ Fr w (w.setCell ⟨g, 5, none⟩ (.int .i64 MM)) (fun x => x = g ∨ x = b)) := by
    have hbd := HA.out.bd
    have hf := Fr.setCell w ⟨g, 5, none⟩ (.int .i64 MM) (fun x => x = g) rfl
    have := HA.out.put { a with la := MM } 5 _ rfl rfl ⟨hbd.w1, hbd.w2, hbd.p0, hbd.p1, hbd.nx, hbd.s0, hbd.s1, HMM.out.2.1, HMM.out.2.2, hbd.kn, hbd.cn, hbd.len⟩
    unfold Ab.tick
    rw [← HMM.out.1]
    exact ⟨this, hf.mono fun x _ e => .inl e⟩
  generalize w.setCell ⟨g, 5, none⟩ (.int .i64 MM) = W1 at *
  clear c5 f5
  go_upto_region 4 with fail
  have hbd : Below W1.heap.size W1 W1.drew := ⟨rfl, rfl, rfl, Nat.le_refl _, fun _ _ => rfl⟩
  have H2 : Hid (AbAt W1.drew g b (a.tick now) ∧ Fr w W1.drew (fun x => x = g ∨ x = b)) := ⟨H1.out.1.below hbd, H1.out.2.trans (Fr.of_below hbd (fun _ => False)) fun x _ q => q.elim id False.elim⟩
  clear hbd H1
  rename_i K hK
  refine wp_region_held (S := fun w' => Blk w' g 67 ((a.tick now).cs b)) (by kernel_rfl) ?_
  change wpAnyH _ _ _ _ _ _ _ _ (World.drew _)
  generalize W1.drew = WD at *
  have hS := H2.out.1.blk
  refine takeR (i := 0) (v := .pointer (some ⟨g, 0, none⟩)) (some 17) rfl rfl (by kernel_rfl) (by kernel_rfl) (by kernel_rfl) (fun _ _ _ h => h) (Or.inl ⟨by kernel_rfl, fun w' hSw => by kernel_rfl⟩) hS ?_
  simp only [Act.put, List.setIfInBounds_toArray, List.set_cons_zero, List.set_cons_succ]
  refine takeR (i := 1) (v := .pointer (some ⟨g, 0, none⟩)) (some 18) rfl rfl (by kernel_rfl) (by kernel_rfl) (by kernel_rfl) (fun _ _ _ h => h) (Or.inl ⟨by kernel_rfl, fun w' hSw => by kernel_rfl⟩) hS ?_
  simp only [Act.put, List.setIfInBounds_toArray, List.set_cons_zero, List.set_cons_succ]
  refine takeR (i := 2) (v := .pointer (some ⟨g, 0, none⟩)) (some 19) rfl rfl (by kernel_rfl) (by kernel_rfl) (by kernel_rfl) (fun _ _ _ h => h) (Or.inl ⟨by kernel_rfl, fun w' hSw => by kernel_rfl⟩) hS ?_
  simp only [Act.put, List.setIfInBounds_toArray, List.set_cons_zero, List.set_cons_succ]
  refine takeR (i := 3) (v := .pointer (some ⟨g, 5, none⟩)) (some 20) rfl rfl (by kernel_rfl) (by kernel_rfl) (by kernel_rfl) (fun _ _ _ h => h) (Or.inl ⟨by kernel_rfl, fun w' hSw => by kernel_rfl⟩) hS ?_
  simp only [Act.put, List.setIfInBounds_toArray, List.set_cons_zero, List.set_cons_succ]
  refine takeR (i := 4) (v := .int .i64 MM) (some 21) rfl rfl (by kernel_rfl) (by kernel_rfl) (by kernel_rfl) (fun _ _ _ h => h) (Or.inl ⟨by kernel_rfl, fun w' hSw => by exact ldN_run (.inl rfl) (.tmp 20) rfl (by kernel_rfl) (by rw [HMM.out.1]; exact hSw.cell 5)⟩) hS ?_
  simp only [Act.put, List.setIfInBounds_toArray, List.set_cons_zero, List.set_cons_succ]
  refine takeR (i := 5) (v := .pointer (some ⟨g, 0, none⟩)) (some 22) rfl rfl (by kernel_rfl) (by kernel_rfl) (by kernel_rfl) (fun _ _ _ h => h) (Or.inl ⟨by kernel_rfl, fun w' hSw => by kernel_rfl⟩) hS ?_
  simp only [Act.put, List.setIfInBounds_toArray, List.set_cons_zero, List.set_cons_succ]
  refine takeR (i := 6) (v := .pointer (some ⟨g, 0, none⟩)) (some 23) rfl rfl (by kernel_rfl) (by kernel_rfl) (by kernel_rfl) (fun _ _ _ h => h) (Or.inl ⟨by kernel_rfl, fun w' hSw => by kernel_rfl⟩) hS ?_
  simp only [Act.put, List.setIfInBounds_toArray, List.set_cons_zero, List.set_cons_succ]
  refine takeR (i := 7) (v := .pointer (some ⟨g, 1, none⟩)) (some 24) rfl rfl (by kernel_rfl) (by kernel_rfl) (by kernel_rfl) (fun _ _ _ h => h) (Or.inl ⟨by kernel_rfl, fun w' hSw => by kernel_rfl⟩) hS ?_
  simp only [Act.put, List.setIfInBounds_toArray, List.set_cons_zero, List.set_cons_succ]
  refine takeR (i := 8) (v := .int .i64 a.pat) (some 25) rfl rfl (by kernel_rfl) (by kernel_rfl) (by kernel_rfl) (fun _ _ _ h => h) (Or.inl ⟨by kernel_rfl, fun w' hSw => by exact ldN_run (.inl rfl) (.tmp 24) rfl (by kernel_rfl) (hSw.cell 1)⟩) hS ?_
  simp only [Act.put, List.setIfInBounds_toArray, List.set_cons_zero, List.set_cons_succ]
  have hwt := hasWaited_any H2.out.1 MM a.pat HMM.out.2.1 HMM.out.2.2
  have ewt : wtB (a.tick now) MM a.pat = wtB a (max a.la now) a.pat := by rw [← HMM.out.1]; rfl
  rw [ewt] at hwt
  obtain ⟨wb, hwb⟩ : ∃ wb, wb = wtB a (max a.la now) a.pat := ⟨_, rfl⟩
  rw [← hwb] at hwt
  have HWB : Hid (wb = wtB a (max a.la now) a.pat) := hwb
  clear ewt hwb
  refine wpAnyH_ready (rs := [9]) (by kernel_rfl) (by simp) ?_
  refine AllReadyH.cons rfl (fun K1 hK1 => ?_) AllReadyH.nil
  rw [if_pos (by kernel_rfl)]
  refine callR (d := some 26) rfl 25 #[.pointer (some ⟨g, 0, none⟩), .int .i64 MM, .int .i64 a.pat] (by kernel_rfl) hwt ?_
  clear hwt
  rintro e w1 ⟨rfl, ew⟩
  replace ew := ew.symm
  subst ew
  refine ⟨_, rfl, ?_⟩
  refine hK1.out _ _ hS (fun _ => ?_)
  clear hK1
  simp only [Act.put, List.setIfInBounds_toArray, List.set_cons_zero, List.set_cons_succ]
  cases wb
  case false =>
    refine takeR (i := 10) (v := .bool true) (some 27) rfl rfl (by kernel_rfl) (by kernel_rfl) (by kernel_rfl) (fun _ _ _ h => h) (Or.inl ⟨by kernel_rfl, fun w' hSw => by kernel_rfl⟩) hS ?_
    simp only [Act.put, List.setIfInBounds_toArray, List.set_cons_zero, List.set_cons_succ]
    refine wpAnyH_done (by kernel_rfl) ?_ _
    refine hK _ _ ?_
    clear hK hS
    have HZ : Hid (∃ out a', TkO w WD g b (.slice none 0 0) out a' ∧ Tk a now out a') := ⟨[], _, TkO.nil H2.out.1 H2.out.2, .inl ⟨HWB.out.symm, rfl, rfl⟩⟩
    clear H2 HA HWB HMM
    go_wp2
    go_ret
    exact ⟨_, rfl, HZ.out⟩
  case true =>
    refine takeR (i := 10) (v := .bool false) (some 27) rfl rfl (by kernel_rfl) (by kernel_rfl) (by kernel_rfl) (fun _ _ _ h => h) (Or.inl ⟨by kernel_rfl, fun w' hSw => by kernel_rfl⟩) hS ?_
    simp only [Act.put, List.setIfInBounds_toArray, List.set_cons_zero, List.set_cons_succ]
    refine wpAnyH_done (by kernel_rfl) ?_ _
    refine hK _ _ ?_
    clear hK hS
    have hah := ahead_ns H2.out.1
    have HKS : Hid (a.ks ≠ []) := fun e => by
      have := HWB.out
      unfold wtB at this
      rw [e] at this
      simp at this
    go_upto_region 6 with fail
    rename_i K hK
    refine wp_region_lit ?_
    refine wpList_runTo rfl (some 28) rfl (.pointer (some ⟨g, 0, none⟩)) WD (by kernel_rfl) ?_
    simp only [Act.put, List.setIfInBounds_toArray, List.set_cons_zero, List.set_cons_succ]
    refine wpList_runTo rfl (some 29) rfl (.pointer (some ⟨g, 0, none⟩)) WD (by kernel_rfl) ?_
    simp only [Act.put, List.setIfInBounds_toArray, List.set_cons_zero, List.set_cons_succ]
    refine wpList_callW rfl (some 30) rfl 26 #[.pointer (some ⟨g, 0, none⟩)] (by kernel_rfl) hah ?_
    clear hah
    rintro e W3 ⟨va, rfl, hx⟩
    refine ⟨_, rfl, ?_⟩
    simp only [Act.put, List.setIfInBounds_toArray, List.set_cons_zero, List.set_cons_succ]
    obtain ⟨m, NN, q, qo, qc, hva, cq, hNN, HM⟩ : ∃ (m NN q qo qc : Nat), va = .slice (some ⟨q, qo, none⟩) NN qc ∧ W3.cell? ⟨q, qo + 0, none⟩ = some (.int .i64 (m : Int)) ∧ 0 < NN ∧ Hid ((∃ k ∈ a.ks, k.n = m) ∧ (∀ k ∈ a.ks, m ≤ k.n) ∧ AbAt W3 g b (a.tick now) ∧ Fr w W3 (fun x => x = g ∨ x = b)) := by
      obtain ⟨ns, h1, h2, h3, h4, h5⟩ := hx.out
      cases ns with
      | nil => exact absurd (List.map_eq_nil_iff.1 (List.perm_nil.1 h1.symm)) HKS.out
      | cons m r =>
        obtain ⟨q, qo, qc, e1, e2⟩ := h3.at1 (j := 0) (u := .int .i64 (m : Int)) rfl
        refine ⟨m, _, q, qo, qc, e1, e2, Nat.succ_pos _, ?_, fun k hk => ?_, H2.out.1.below h5, H2.out.2.trans (Fr.of_below h5 (fun _ => False)) fun x _ q => q.elim id False.elim⟩
        · have := h1.mem_iff.1 List.mem_cons_self
          obtain ⟨k, hk, e⟩ := List.mem_map.1 this
          exact ⟨k, hk, e⟩
        · have hk' : k.n ∈ m :: r := h1.mem_iff.2 (List.mem_map_of_mem (f := fun k : Kp => k.n) hk)
          rcases List.mem_cons.1 hk' with e | e
          · omega
          · exact (List.pairwise_cons.1 h2).1 _ e
    clear hx H2
    subst hva
    have c2 : W3.cell? ⟨g, 2, none⟩ = some (.int .i64 (a.nx : Int)) := HM.out.2.2.1.blk.cell 2
    have f2 : W3.frozen? ⟨g, 2, none⟩ = false := HM.out.2.2.1.blk.frozen 2
    refine wpList_runTo rfl (some 31) rfl (.pointer (some ⟨q, qo + 0, none⟩)) W3 (by exact ix3_run (i := 0) (n := NN) (c := qc) (.tmp 30) (.const (.int .i64 0)) rfl (by kernel_rfl) rfl hNN _) ?_
    simp only [Act.put, List.setIfInBounds_toArray, List.set_cons_zero, List.set_cons_succ]
    refine wpList_runTo rfl (some 32) rfl (.int .i64 (m : Int)) W3 (by exact ldN_run (.inr rfl) (.tmp 31) rfl (by kernel_rfl) cq) ?_
    simp only [Act.put, List.setIfInBounds_toArray, List.set_cons_zero, List.set_cons_succ]
    refine wpList_runTo rfl (some 33) rfl (.pointer (some ⟨g, 0, none⟩)) W3 (by kernel_rfl) ?_
    simp only [Act.put, List.setIfInBounds_toArray, List.set_cons_zero, List.set_cons_succ]
    refine wpList_runTo rfl (some 34) rfl (.pointer (some ⟨g, 2, none⟩)) W3 (by kernel_rfl) ?_
    simp only [Act.put, List.setIfInBounds_toArray, List.set_cons_zero, List.set_cons_succ]
    refine wpList_skipW rfl none rfl (w' := W3.setCell ⟨g, 2, none⟩ (.int .i64 (m : Int))) (stN_run (.inr rfl) (.tmp 34) (.tmp 32) rfl (by kernel_rfl) (by kernel_rfl) c2 f2) ?_
    simp only [Act.put, List.setIfInBounds_toArray, List.set_cons_zero, List.set_cons_succ]
    refine wpList_nil ?_
    refine hK _ _ ?_
    clear hK
    clear c2 f2 cq hNN
    have H4 : Hid (AbAt (W3.setCell ⟨g, 2, none⟩ (.int .i64 (m : Int))) g b { a.tick now with nx := m } ∧ Fr w (W3.setCell ⟨g, 2, none⟩ (.int .i64 (m : Int))) (fun x => x = g ∨ x = b)) := by
      have hbd := HM.out.2.2.1.bd
      obtain ⟨k, hk, ek⟩ := HM.out.1
      have hkb : k.n ≤ 999999999 := hbd.kn k hk
      have hf := Fr.setCell W3 ⟨g, 2, none⟩ (.int .i64 (m : Int)) (fun x => x = g) rfl
      exact ⟨HM.out.2.2.1.put _ 2 _ rfl rfl ⟨hbd.w1, hbd.w2, hbd.p0, hbd.p1, by show m ≤ _; omega, hbd.s0, hbd.s1, hbd.l0, hbd.l1, hbd.kn, hbd.cn, hbd.len⟩, HM.out.2.2.2.trans hf fun x _ q => q.elim id .inl⟩
    generalize W3.setCell ⟨g, 2, none⟩ (.int .i64 (m : Int)) = W4 at *
    have hgv := give_any H4.out.1 HM.out.2.1
    go_upto_region 7 with fail
    rename_i K hK
    refine wp_region_lit ?_
    refine wpList_runTo rfl (some 35) rfl (.pointer (some ⟨g, 0, none⟩)) W4 (by kernel_rfl) ?_
    simp only [Act.put, List.setIfInBounds_toArray, List.set_cons_zero, List.set_cons_succ]
    refine wpList_callW rfl (some 36) rfl 27 #[.pointer (some ⟨g, 0, none⟩)] (by kernel_rfl) hgv ?_
    clear hgv
    rintro e W5 ⟨v5, rfl, hx⟩
    refine ⟨_, rfl, ?_⟩
    simp only [Act.put, List.setIfInBounds_toArray, List.set_cons_zero, List.set_cons_succ]
    refine wpList_runTo rfl (some 4) rfl (v5) W5 (by kernel_rfl) ?_
    simp only [Act.put, List.setIfInBounds_toArray, List.set_cons_zero, List.set_cons_succ]
    refine wpList_nil ?_
    refine hK _ _ ?_
    clear hK
    have HZ : Hid (∃ out a', TkO w W5 g b v5 out a' ∧ Tk a now out a') := by
      obtain ⟨out, a', h1, h2⟩ := hx.out
      exact ⟨out, a', TkO.since ⟨h1.ab, h1.row, h1.low, h1.pk, h1.fr⟩ H4.out.2, .inr ⟨HWB.out.symm, m, HM.out.1, HM.out.2.1, h1.giv, h2⟩⟩
    clear hx H4 HM HWB HA HKS HMM
    go_wp2
    go_ret
    exact ⟨_, rfl, HZ.out⟩
/-- The eight counts. -/
def Ab.ls (a : Ab) : Array Value := #[.int .i64 (a.cn 0 : Int), .int .i64 (a.cn 1 : Int), .int .i64 (a.cn 2 : Int), .int .i64 (a.cn 3 : Int), .int .i64 (a.cn 4 : Int), .int .i64 (a.cn 5 : Int), .int .i64 (a.cn 6 : Int), .int .i64 (a.cn 7 : Int)]
theorem below_setRow {B g : Nat} {a w : World} (hb : Below B a w) (hB : B ≤ g) (cs : Array Value) : Below B a (w.setRow g cs) :=
  ⟨hb.os, hb.tape, hb.output, by simpa [World.setRow] using hb.size, fun q hq => by
    have e : (w.setRow g cs).heap[q]? = w.heap[q]? := by
      simp only [World.setRow, Array.getElem?_modify]
      rw [if_neg (by omega)]
    exact e.trans (hb.block q hq)⟩
theorem ldA_run {op : Oper} {a : Act} {w : World} {g o : Nat} {T : TypeId} {cs : Array Value} {d : TypeDesc} (h : w.rangeAt g o cs.toList) (hu : Try.prog.underlying T = some d) (hd : d.isRow = true) (hi : (Try.prog.info? T).map (·.size) = some cs.size) (x : Operand) (ho : op.op = .load T x) (hx : a.eval x = .pointer (some ⟨g, o, none⟩)) : (execOp a.eval op).run Try.prog w = .ok (.value (.agg cs)) w := by
  have hl := run_loadVar_mid (P := Try.prog) w g o T cs.toList _ h hu hd (by rw [Array.length_toList]; exact hi)
  unfold execOp
  simp only [ho, hx, Instr.loadAt, Instr.sureAddr, Sem.run_bind, Sem.run_pure, Result.andThen_ok, hl]
theorem sub_range {w : World} {g : Nat} {T : TypeId} {cs : Array Value} (h : Blk w g T cs) (o : Nat) (l : List Value) (hl : ∀ j v, l[j]? = some v → cs[o + j]? = some v) : w.rangeAt g o l := fun j v hv => by rw [h.cell]; exact hl j v hv
theorem info8 : (Try.prog.info? 63).map (·.size) = some 8 := by kernel_rfl
def zer8 : Array Value := #[.int .i64 0, .int .i64 0, .int .i64 0, .int .i64 0, .int .i64 0, .int .i64 0, .int .i64 0, .int .i64 0]
theorem setRow_other' {w : World} {g h : Nat} {T : TypeId} {cs cs' : Array Value} (b : Blk w g T cs) : Blk (w.setRow g cs') g T cs' := setRow_heap _ _ _ _ _ _ b
set_option maxRecDepth 100000 in
set_option maxHeartbeats 1000000 in
theorem Lines_any {w : World} {g b : Nat} {a : Ab} (h : AbAt w g b a) : Calls Try.prog 18 #[.pointer (some ⟨g, 0, none⟩)] w fun e w' => e = .returned (.agg a.ls) ∧ Hid (Below w.heap.size w w') := by
  have hal : Below w.heap.size w (w.alloc (.cells zer8 63)) := (Below.refl _ w).alloc (Nat.le_refl _) _
  have hr : (w.alloc (.cells zer8 63)).rangeAt g 6 a.ls.toList := sub_range (h.blk.below hal h.blk.lt) 6 _ (fun j v hj => by
    match j, hj with
    | 0, hj => exact hj
    | 1, hj => exact hj
    | 2, hj => exact hj
    | 3, hj => exact hj
    | 4, hj => exact hj
    | 5, hj => exact hj
    | 6, hj => exact hj
    | 7, hj => exact hj
    | j + 8, hj => simp [Ab.ls] at hj)
  have HB : Hid (Below w.heap.size w (w.alloc (.cells zer8 63))) := hal
  clear h hal
  obtain ⟨LS, hLS⟩ : ∃ LS, LS = a.ls := ⟨_, rfl⟩
  have hsz : LS.size = 8 := by rw [hLS]; rfl
  have hone : LS.all (·.oneCell') = true := by rw [hLS, ← Array.all_toList]; rfl
  rw [← hLS] at hr ⊢
  clear hLS
  go_enter Try.func18, Try.ntmps18
  go_upto_region 0 with fail
  rename_i K hK
  refine wp_region_lit ?_
  refine wpList_runTo rfl (some 2) rfl (.pointer (some ⟨w.heap.size, 0, none⟩)) (w.alloc (.cells zer8 63)) (by kernel_rfl) ?_
  simp only [Act.put, List.setIfInBounds_toArray, List.set_cons_zero, List.set_cons_succ]
  refine wpList_nil ?_
  refine hK _ _ ?_
  clear hK
  go_upto_region 1 with fail
  rename_i K hK
  refine wp_region_lit ?_
  refine wpList_runTo rfl (some 3) rfl (.pointer (some ⟨g, 0, none⟩)) (w.alloc (.cells zer8 63)) (by kernel_rfl) ?_
  simp only [Act.put, List.setIfInBounds_toArray, List.set_cons_zero, List.set_cons_succ]
  refine wpList_runTo rfl (some 4) rfl (.pointer (some ⟨g, 0, none⟩)) (w.alloc (.cells zer8 63)) (by kernel_rfl) ?_
  simp only [Act.put, List.setIfInBounds_toArray, List.set_cons_zero, List.set_cons_succ]
  refine wpList_runTo rfl (some 5) rfl (.pointer (some ⟨g, 6, none⟩)) (w.alloc (.cells zer8 63)) (by kernel_rfl) ?_
  simp only [Act.put, List.setIfInBounds_toArray, List.set_cons_zero, List.set_cons_succ]
  refine wpList_runTo rfl (some 6) rfl (.agg LS) (w.alloc (.cells zer8 63)) (by exact ldA_run hr Try.underlying63 rfl (by rw [hsz]; exact info8) (.tmp 5) rfl (by kernel_rfl)) ?_
  simp only [Act.put, List.setIfInBounds_toArray, List.set_cons_zero, List.set_cons_succ]
  refine wpList_store_row rfl 63 (.tmp 2) (.tmp 6) rfl w.heap.size LS (by kernel_rfl) (by kernel_rfl) 63 _ (heap_alloc_new w _) (by rw [hsz]; exact info8) (by rw [hsz]; rfl) hone ?_
  simp only [Act.put, List.setIfInBounds_toArray, List.set_cons_zero, List.set_cons_succ]
  refine wpList_nil ?_
  refine hK _ _ ?_
  clear hK
  apply wp_ret
  show bodyPost Try.prog Try.f18 _ Exit.ret _ _
  refine bodyPost_ret (results_cell_row (fn := Try.f18) (p := 2) (ty := 63) rfl _ _ w.heap.size 63 LS (0, 0) _ (by kernel_rfl) (setRow_heap _ _ _ _ _ _ (heap_alloc_new w _)) Try.underlying63 rfl (by rw [hsz]; exact info8)) (by kernel_rfl) ⟨rfl, below_setRow HB.out (Nat.le_refl _) _⟩
end Go.Proofs.Ytdncemecnbglaaa
