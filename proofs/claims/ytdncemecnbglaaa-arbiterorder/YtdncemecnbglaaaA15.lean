/-
  ArbiterOrder: the walk.
-/
import Derived.Test.YtdncemecnbglaaaA14
namespace Go.Proofs.Ytdncemecnbglaaa
set_option linter.unusedVariables false
set_option linter.unusedSimpArgs false
open Go.RowKit Go.Great Go.Maps

theorem ldB_run {op : Oper} {a : Act} {w : World} {g o : Nat} {b : Bool} (x : Operand) (ho : op.op = .load 4 x) (hx : a.eval x = .pointer (some ⟨g, o, none⟩)) (h : w.cell? ⟨g, o, none⟩ = some (.bool b)) : (execOp a.eval op).run Try.prog w = .ok (.value (.bool b)) w := by
  unfold execOp
  simp only [ho, hx]
  go_simp
theorem stB_run {op : Oper} {a : Act} {w : World} {g o : Nat} {b b0 : Bool} (x y : Operand) (ho : op.op = .store 4 x y) (hx : a.eval x = .pointer (some ⟨g, o, none⟩)) (hy : a.eval y = .bool b) (h : w.cell? ⟨g, o, none⟩ = some (.bool b0)) (hf : w.frozen? ⟨g, o, none⟩ = false) : (execOp a.eval op).run Try.prog w = .ok .skip (w.setCell ⟨g, o, none⟩ (.bool b)) := by
  unfold execOp
  simp only [ho, hx, hy]
  go_simp
theorem ixS_run {op : Oper} {a : Act} {g o n c i : Nat} (x y : Operand) (ho : op.op = .indexAddr 22 x y) (hx : a.eval x = .slice (some ⟨g, o, none⟩) n c) (hy : a.eval y = .int .i64 (i : Int)) (hi : i < n) (w : World) : (execOp a.eval op).run Try.prog w = .ok (.value (.pointer (some ⟨g, o + i * 3, none⟩))) w := by
  have h1 : (i : Int) < (n : Int) := by omega
  have h2 : ¬ (n : Int) ≤ (i : Int) := by omega
  unfold execOp
  simp only [ho, hx, hy]
  go_simp
theorem ixA_run {op : Oper} {a : Act} {g o i : Nat} (x y : Operand) (ho : op.op = .indexAddr 31 x y) (hx : a.eval x = .pointer (some ⟨g, o, none⟩)) (hy : a.eval y = .int .i64 (i : Int)) (hi : i < 3) (w : World) : (execOp a.eval op).run Try.prog w = .ok (.value (.pointer (some ⟨g, o + i, none⟩))) w := by
  have h1 : (i : Int) < 3 := by omega
  have h2 : ¬ (3 : Int) ≤ (i : Int) := by omega
  unfold execOp
  simp only [ho, hx, hy]
  go_simp
theorem ixC_run {op : Oper} {a : Act} {g i : Nat} (x y : Operand) (ho : op.op = .indexAddr 30 x y) (hx : a.eval x = .pointer (some ⟨g, 0, none⟩)) (hy : a.eval y = .int .i64 (i : Int)) (hi : i < 300) (w : World) : (execOp a.eval op).run Try.prog w = .ok (.value (.pointer (some ⟨g, i * 2, none⟩))) w := by
  have h1 : (i : Int) < 300 := by omega
  have h2 : ¬ (300 : Int) ≤ (i : Int) := by omega
  unfold execOp
  simp only [ho, hx, hy]
  go_simp
theorem ixD_run {op : Oper} {a : Act} {g o i : Nat} (x y : Operand) (ho : op.op = .indexAddr 29 x y) (hx : a.eval x = .pointer (some ⟨g, o, none⟩)) (hy : a.eval y = .int .i64 (i : Int)) (hi : i < 2) (w : World) : (execOp a.eval op).run Try.prog w = .ok (.value (.pointer (some ⟨g, o + i, none⟩))) w := by
  have h1 : (i : Int) < 2 := by omega
  have h2 : ¬ (2 : Int) ≤ (i : Int) := by omega
  unfold execOp
  simp only [ho, hx, hy]
  go_simp
theorem cvb_run {op : Oper} {a : Act} {t : Nat} (x : Operand) (ho : op.op = .convert 3 5 x) (hx : a.eval x = .int .i64 (t : Int)) (ht : t < 256) (w : World) : (execOp a.eval op).run Try.prog w = .ok (.value (.int .u8 (t : Int))) w := by
  have hw : IntKind.u8.wrap (t : Int) = (t : Int) := by
    simp [IntKind.wrap, IntKind.signed, IntKind.bits]
    omega
  unfold execOp
  simp only [ho, hx]
  go_simp
theorem add2_run {op : Oper} {a : Act} {p q : Nat} (x y : Operand) (ho : op.op = .binOp .add 2 x y 2) (hx : a.eval x = .int .i64 (p : Int)) (hy : a.eval y = .int .i64 (q : Int)) (h : p + q ≤ 9223372036854775807) (w : World) : (execOp a.eval op).run Try.prog w = .ok (.value (.int .i64 ((p + q : Nat) : Int))) w := by
  have hw : IntKind.i64.wrap ((p : Int) + (q : Int)) = ((p + q : Nat) : Int) := by rw [IntKind.wrap_i64]; omega
  have hw' : wrap64 ((p : Int) + (q : Int)) = ((p + q : Nat) : Int) := by unfold wrap64; omega
  generalize p + q = r at *
  unfold execOp
  simp only [ho, hx, hy]
  go_simp
theorem remN_run {op : Oper} {a : Act} {p q : Nat} (x y : Operand) (ho : op.op = .binOp .rem 3 x y 3) (hx : a.eval x = .int .i64 (p : Int)) (hy : a.eval y = .int .i64 (q : Int)) (h : 0 < q) (hp : p ≤ 9223372036854775807) (w : World) : (execOp a.eval op).run Try.prog w = .ok (.value (.int .i64 ((p % q : Nat) : Int))) w := by
  have h0 : ¬ (q : Int) = 0 := by omega
  have h0n : ¬ q = 0 := by omega
  have h0b : ((q : Int) == 0) = false := by simpa using h0
  have hm : (p : Int).tmod (q : Int) = ((p % q : Nat) : Int) := by rw [Int.tmod_eq_emod_of_nonneg (by omega)]; rfl
  have hlt : p % q ≤ 9223372036854775807 := Nat.le_trans (Nat.mod_le _ _) hp
  have hw1 : IntKind.i64.wrap ((p : Int).tmod (q : Int)) = ((p % q : Nat) : Int) := by rw [hm, IntKind.wrap_i64]; omega
  have hw2 : wrap64 ((p : Int).tmod (q : Int)) = ((p % q : Nat) : Int) := by rw [hm]; unfold wrap64; omega
  generalize p % q = r at *
  unfold execOp
  simp only [ho, hx, hy]
  go_simp
/-- No more are given than there are. -/
theorem inj_length : ∀ (l : List Kp) (m : List Kp), l.Pairwise (fun p q => p.n < q.n) → (∀ p ∈ l, p ∈ m) → l.length ≤ m.length
  | [], _, _, _ => Nat.zero_le _
  | p :: r, m, hp, hs => by
    obtain ⟨h1, h2⟩ := List.pairwise_cons.1 hp
    have hm := hs p List.mem_cons_self
    have ih := inj_length r (m.filter fun q => !(q.n == p.n)) h2 fun q hq => List.mem_filter.2 ⟨hs q (List.mem_cons_of_mem _ hq), by have := h1 q hq; simp; omega⟩
    have hl : (m.filter fun q => !(q.n == p.n)).length < m.length := by
      rw [List.length_filter_lt_length_iff_exists]
      exact ⟨p, hm, by simp⟩
    show r.length + 1 ≤ _
    omega
theorem givR_length {ks out ks' : List Kp} {nx nx' : Nat} (h : GivR ks nx out ks' nx') : out.length ≤ ks.length := inj_length out ks (givR_pair h).1 fun q hq => ((givR_pair h).2 q hq).1
theorem Hd.len {a a' : Ab} {line : Nat} {now : Int} {l : List Nat} {lo n : Nat} {out : List Kp} {er : Int} (h : Hd a line now l lo out a' er) (hrt : rt l = some n) : out.length ≤ a.ks.length + 1 := by
  unfold Hd at h
  rw [hrt] at h
  obtain ⟨_, ⟨_, e, _⟩ | ⟨_, _, e, _⟩ | ⟨_, _, k, _, _, _, hg, _⟩⟩ := h
  · rw [e]; exact Nat.zero_le _
  · rw [e]; exact Nat.zero_le _
  · exact givR_length hg
/-- A step of OX: what Tick gives is laid behind. -/
theorem OX.tick {w W : World} {g b cb last cx : Nat} {L : List Kp} {v : Value} (h : OX w W g b cb last cx L v) (hL : L.length ≤ 2000000000000) (now : Nat) (hn : now ≤ 1000000) : Calls Try.prog 11 #[.pointer (some ⟨g, 0, none⟩), .int .i64 (now : Int)] W fun e w' => ∃ v2, e = .returned v2 ∧ Hid (∃ out : List Kp, ∃ v' w'', (Builtin.append_ #[32, 32] 32 #[v, v2]).run Try.prog w' = .ok v' w'' ∧ OX w w'' g b cb last cx (L ++ out) v') := by
  obtain ⟨a, c, cm, h1, h2, h3, h4, h5, h6, h7, h8, h9, h10, h11, h12⟩ := h
  refine (h1.ticks (now : Int) (by omega) (by omega)).mono fun e w' ⟨v2, e1, k⟩ => ⟨v2, e1, ?_⟩
  obtain ⟨out, a', s1, s2, s3⟩ := k.out
  obtain ⟨t1, t2, t3, t4⟩ := s3.rising h4 h1.gt
  have hol : out.length ≤ 2000000000000 := by
    have q1 : out.length ≤ a.ks.length := by
      rcases s3 with ⟨_, e, _⟩ | ⟨_, m, _, _, hg, _⟩
      · rw [e]; exact Nat.zero_le _
      · exact givR_length hg
    have := h1.ab.bd.len; have := h1.ab.bd.cn 1; have := h1.ab.bd.cn 5
    omega
  have hv := h7.fr s2.fr (h7.arb h1.ab)
  obtain ⟨v', w'', r1, r2, r3, r4⟩ := app_rows hv s2.row (pk_one s2.pk) (by omega) 32
  have nb : ∀ {T : TypeId} {cs : Array Value} {x : Nat}, Blk w' x T cs → T ≠ 35 → ¬ v.ownBlock = some x := fun {T cs x} hx hT e => hv.ne_type hx (Ne.symm hT) e
  have npk : ∀ q, PkAt w' q → ∀ x, q.v.ownBlock = some x → ¬ v.ownBlock = some x := fun q hq x hx => by
    obtain ⟨_, cur, hc⟩ := hq.1.lt hx
    exact nb (T := 5) (cs := cur) hc (by decide)
  have hcb := h5.fr s2.fr (h5.arb h1.ab)
  have hpk : ∀ q ∈ L ++ out, PkAt w' q := fun q hq => by
    rcases List.mem_append.1 hq with hq | hq
    · exact (h9 q hq).fr s2.fr ((h9 q hq).ne h1.ab.blk h1.ab.map)
    · exact s2.pk q hq
  have hlow : ∀ q, v.ownBlock = some q → w.heap.size ≤ q := h8
  refine ⟨out, v', w'', r1, a', c, cm, ⟨s1.ab.fr r3 (nb s1.ab.blk (by decide)) (fun e => ?_) (fun q hq => npk q (s1.ab.pk q hq)), s1.gt, s1.bel.trans (r3.below s1.bel.size fun q hq e => ?_), s1.lg, s1.lb, s1.cb⟩, h2, by omega, t1, hcb.fr r3 (nb hcb (by decide)), h6, ?_, fun q hq => ?_, fun q hq => (hpk q hq).fr r3 (npk q (hpk q hq)), ?_, fun q hq => ?_, by rw [List.length_append]; omega⟩
  · obtain ⟨_, cur, hc⟩ := hv.lt e
    obtain ⟨es, cc, hm⟩ := s1.ab.map.is
    rw [hm] at hc
    cases hc
  · have := hlow q e
    omega
  · rw [List.length_append, List.map_append]
    exact r2
  · rcases r4 with r4 | r4
    · exact hlow q (r4 ▸ hq)
    · rw [r4] at hq
      injection hq with hq
      have := s1.bel.size
      omega
  · rw [List.pairwise_append]
    refine ⟨h10, t2, fun p hp q hq => ?_⟩
    have := (h11 p hp).2.2
    have := (t3 q hq).2.1
    omega
  · rcases List.mem_append.1 hq with hq | hq
    · have := h11 q hq
      exact ⟨this.1, this.2.1, by omega⟩
    · have := t3 q hq
      exact ⟨this.1, by omega, this.2.2⟩
set_option maxRecDepth 100000 in
set_option maxHeartbeats 8000000 in
theorem ArbiterOrder_law {w : World} (wd pd : Int) (hwd : -9223372036854775808 ≤ wd ∧ wd ≤ 9223372036854775807) (hpd : -9223372036854775808 ≤ pd ∧ pd ≤ 9223372036854775807) (a1 : Option Addr) (n1 c1 : Nat) (z1 : Nat → Nat → Int) (hn1 : n1 ≤ maxLen) (hs1 : SrcR w a1 n1 z1) : Calls Try.prog 3 #[.int .i64 wd, .int .i64 pd, .slice a1 n1 c1] w fun e w' => e = .returned (.bool true) ∧ Hid (Below w.heap.size w w') := by
  have HS : Hid (SrcR w a1 n1 z1 ∧ n1 ≤ 9223372036854775807) := ⟨hs1, hn1⟩
  have hsh := shown_any w
  clear hs1 hn1
  obtain ⟨L1, hL1⟩ : ∃ L1, L1 = Value.slice a1 n1 c1 := ⟨_, rfl⟩
  rw [← hL1]
  have HL1 : Hid (L1 = Value.slice a1 n1 c1) := hL1
  clear hL1
  go_enter Try.func3, Try.ntmps3
  go_upto_region 1 with fail
  rename_i K hK
  refine wp_region_lit ?_
  refine wpList_callW rfl (some 21) rfl 6 #[] (by kernel_rfl) hsh ?_
  clear hsh
  rintro e W1 ⟨rfl, hx1⟩
  refine ⟨_, rfl, ?_⟩
  simp only [Act.put, List.setIfInBounds_toArray, List.set_cons_zero, List.set_cons_succ]
  refine wpList_runTo rfl (some 7) rfl (.bool true) W1 (by kernel_rfl) ?_
  simp only [Act.put, List.setIfInBounds_toArray, List.set_cons_zero, List.set_cons_succ]
  refine wpList_nil ?_
  refine hK _ _ ?_
  clear hK
  have hpi := pick_any wd 20 20 rfl W1 (by decide) (by decide) hwd.1 hwd.2
  obtain ⟨pw, hpw⟩ : ∃ pw, pw = pickN wd 20 := ⟨_, rfl⟩
  have hpwl : pw < 20 := by rw [hpw]; exact pickN_lt _ (by decide)
  rw [← hpw] at hpi
  have hpj := pick_any pd 100 100 rfl W1 (by decide) (by decide) hpd.1 hpd.2
  obtain ⟨pp, hpp⟩ : ∃ pp, pp = pickN pd 100 := ⟨_, rfl⟩
  have hppl : pp < 100 := by rw [hpp]; exact pickN_lt _ (by decide)
  rw [← hpp] at hpj
  clear hpw hwd hpp hpd
  obtain ⟨ww, hww⟩ : ∃ ww, ww = 1 + pw := ⟨_, rfl⟩
  have hnew := New_yes W1 ww (pp : Int) (by omega) (by omega) (by omega) (by omega)
  go_upto_region 2 with fail
  rename_i K hK
  refine wp_region_lit ?_
  refine wpList_runTo rfl (some 23) rfl (.int .i64 wd) W1 (by kernel_rfl) ?_
  simp only [Act.put, List.setIfInBounds_toArray, List.set_cons_zero, List.set_cons_succ]
  refine wpList_callW rfl (some 24) rfl 8 #[.int .i64 wd, .int .i64 20] (by kernel_rfl) hpi ?_
  clear hpi
  rintro e w9 ⟨rfl, ew⟩
  replace ew := ew.symm
  subst ew
  refine ⟨_, rfl, ?_⟩
  simp only [Act.put, List.setIfInBounds_toArray, List.set_cons_zero, List.set_cons_succ]
  refine wpList_runTo rfl (some 25) rfl (.int .i64 (ww : Int)) W1 (by rw [hww]; exact addN_run (p := 1) (q := pw) (.const (.int .i64 1)) (.tmp 24) rfl rfl (by kernel_rfl) (by omega) _) ?_
  simp only [Act.put, List.setIfInBounds_toArray, List.set_cons_zero, List.set_cons_succ]
  refine wpList_runTo rfl (some 26) rfl (.int .i64 pd) W1 (by kernel_rfl) ?_
  simp only [Act.put, List.setIfInBounds_toArray, List.set_cons_zero, List.set_cons_succ]
  refine wpList_callW rfl (some 27) rfl 8 #[.int .i64 pd, .int .i64 100] (by kernel_rfl) hpj ?_
  clear hpj
  rintro e w9 ⟨rfl, ew⟩
  replace ew := ew.symm
  subst ew
  refine ⟨_, rfl, ?_⟩
  simp only [Act.put, List.setIfInBounds_toArray, List.set_cons_zero, List.set_cons_succ]
  refine wpList_callW rfl (some 28) rfl 7 #[.int .i64 (ww : Int), .int .i64 (pp : Int)] (by kernel_rfl) hnew ?_
  clear hnew
  rintro e W2 ⟨g, b, rfl, hx2⟩
  refine ⟨_, rfl, ?_⟩
  simp only [Act.put, List.setIfInBounds_toArray, List.set_cons_zero, List.set_cons_succ]
  refine wpList_runTo rfl (some 22) rfl (.tuple #[.pointer (some ⟨g, 0, none⟩), .int .i64 0]) W2 (by kernel_rfl) ?_
  simp only [Act.put, List.setIfInBounds_toArray, List.set_cons_zero, List.set_cons_succ]
  refine wpList_runTo rfl (some 29) rfl (.pointer (some ⟨g, 0, none⟩)) W2 (by kernel_rfl) ?_
  simp only [Act.put, List.setIfInBounds_toArray, List.set_cons_zero, List.set_cons_succ]
  refine wpList_runTo rfl (some 30) rfl (.int .i64 0) W2 (by kernel_rfl) ?_
  simp only [Act.put, List.setIfInBounds_toArray, List.set_cons_zero, List.set_cons_succ]
  refine wpList_runTo rfl (some 8) rfl (.pointer (some ⟨g, 0, none⟩)) W2 (by kernel_rfl) ?_
  simp only [Act.put, List.setIfInBounds_toArray, List.set_cons_zero, List.set_cons_succ]
  refine wpList_runTo rfl (some 9) rfl (.int .i64 0) W2 (by kernel_rfl) ?_
  simp only [Act.put, List.setIfInBounds_toArray, List.set_cons_zero, List.set_cons_succ]
  refine wpList_nil ?_
  refine hK _ _ ?_
  clear hK
  clear hww hpwl hppl
  go_upto_region 3 with fail
  rename_i K hK
  refine wp_region_lit ?_
  refine wpList_runTo rfl (some 31) rfl (.bool true) W2 (by kernel_rfl) ?_
  simp only [Act.put, List.setIfInBounds_toArray, List.set_cons_zero, List.set_cons_succ]
  refine wpList_runTo rfl (some 32) rfl (.bool false) W2 (by kernel_rfl) ?_
  simp only [Act.put, List.setIfInBounds_toArray, List.set_cons_zero, List.set_cons_succ]
  refine wpList_runTo rfl (some 33) rfl (.bool false) W2 (by kernel_rfl) ?_
  simp only [Act.put, List.setIfInBounds_toArray, List.set_cons_zero, List.set_cons_succ]
  refine wpList_runToG (by kernel_rfl) (some 34) rfl (.pointer (some ⟨g, 0, none⟩)) W2 (by kernel_rfl) ?_
  simp only [Act.put, List.setIfInBounds_toArray, List.set_cons_zero, List.set_cons_succ]
  refine wpList_runToG (by kernel_rfl) (some 35) rfl (.bool false) W2 (by exact ptrN_run (ad := ⟨g, 0, none⟩) (.tmp 34) (.const (.pointer none)) rfl (by kernel_rfl) rfl _) ?_
  simp only [Act.put, List.setIfInBounds_toArray, List.set_cons_zero, List.set_cons_succ]
  refine wpList_runTo rfl (some 36) rfl (.bool false) W2 (by kernel_rfl) ?_
  simp only [Act.put, List.setIfInBounds_toArray, List.set_cons_zero, List.set_cons_succ]
  refine wpList_runTo rfl (some 37) rfl (.bool false) W2 (by kernel_rfl) ?_
  simp only [Act.put, List.setIfInBounds_toArray, List.set_cons_zero, List.set_cons_succ]
  refine wpList_runToG (by kernel_rfl) (some 38) rfl (.int .i64 0) W2 (by kernel_rfl) ?_
  simp only [Act.put, List.setIfInBounds_toArray, List.set_cons_zero, List.set_cons_succ]
  refine wpList_runToG (by kernel_rfl) (some 39) rfl (.bool false) W2 (by kernel_rfl) ?_
  simp only [Act.put, List.setIfInBounds_toArray, List.set_cons_zero, List.set_cons_succ]
  refine wpList_runTo rfl (some 40) rfl (.bool false) W2 (by kernel_rfl) ?_
  simp only [Act.put, List.setIfInBounds_toArray, List.set_cons_zero, List.set_cons_succ]
  refine wpList_nil ?_
  refine hK _ _ ?_
  clear hK
  have H3 : Hid (OSt w (W2.alloc (.cells (boolsA fun _ => false) 30)) g b W2.heap.size 0 0) := by
    obtain ⟨h1, h2, h3, h4⟩ := hx2.out
    have hb := below_step hx1.out h4
    have hs : SH w W2 g b (new0 ww (pp : Int)) 0 := ⟨h1, fun k hk => absurd hk List.not_mem_nil, hb, by have := hx1.out.size; omega, by have := hx1.out.size; omega, fun i => Nat.le_refl _⟩
    exact ⟨_, 0, fun _ => false, hs.below ((Below.refl _ W2).alloc (Nat.le_refl _) _), Nat.le_refl _, Nat.lt_succ_self 0, fun k hk => absurd hk List.not_mem_nil, Blk.new _ _ _, hb.size⟩
  clear hx1 hx2
  go_upto_region 5 with fail
  rename_i K hK
  refine wp_region_lit ?_
  refine wpList_runTo rfl (some 10) rfl (.pointer (some ⟨W2.heap.size, 0, none⟩)) (W2.alloc (.cells (boolsA fun _ => false) 30)) (by kernel_rfl) ?_
  simp only [Act.put, List.setIfInBounds_toArray, List.set_cons_zero, List.set_cons_succ]
  refine wpList_nil ?_
  refine hK _ _ ?_
  clear hK
  generalize W2.alloc (.cells (boolsA fun _ => false) 30) = W3 at *
  generalize W2.heap.size = cb at *
  go_upto_region 9 with fail
  go_loopw [11, 12, 13] (fun x t y wr => ∃ i last now : Nat, x = .int .i64 (last : Int) ∧ t = .int .i64 (now : Int) ∧ y = .int .i64 (i : Int) ∧ i ≤ 1000 ∧ last ≤ 299 ∧ now ≤ 30 * i ∧ Hid (OSt w wr g b cb last (2 * i))) (fun _ _ y _ => 1000 - (intOf y).toNat)
  case atStart => exact ⟨0, 0, 0, rfl, rfl, rfl, by decide, by decide, by decide, H3.out⟩
  case round =>
    clear H3
    obtain ⟨i, last, now, rfl, rfl, rfl, hi, hla, hnow, HO⟩ := hrel
    by_cases hlt : i < n1 ∧ i < 1000
    · obtain ⟨hl1, hl2⟩ := hlt
      have d1 : decide (i < n1) = true := by simp [hl1]
      have d2 : decide (i < 1000) = true := by simp [hl2]
      go_upto_region 9 with fail
      rename_i K hK
      refine wp_region_lit ?_
      refine wpList_runTo rfl (some 41) rfl (.int .i64 (i : Int)) wr (by kernel_rfl) ?_
      simp only [Act.put, List.setIfInBounds_toArray, List.set_cons_zero, List.set_cons_succ]
      refine wpList_runTo rfl (some 42) rfl (L1) wr (by kernel_rfl) ?_
      simp only [Act.put, List.setIfInBounds_toArray, List.set_cons_zero, List.set_cons_succ]
      refine wpList_runTo rfl (some 43) rfl (.int .i64 (n1 : Int)) wr (by exact len_run HL1.out (.tmp 42) rfl (.inr (.inr (.inr rfl))) (by kernel_rfl) _) ?_
      simp only [Act.put, List.setIfInBounds_toArray, List.set_cons_zero, List.set_cons_succ]
      refine wpList_runTo rfl (some 44) rfl (.bool true) wr (by exact ltN_run (n := i) (k := n1) (.tmp 41) (.tmp 43) rfl (by kernel_rfl) (by kernel_rfl) d1 _) ?_
      simp only [Act.put, List.setIfInBounds_toArray, List.set_cons_zero, List.set_cons_succ]
      refine wpList_runTo rfl (some 45) rfl (.bool true) wr (by kernel_rfl) ?_
      simp only [Act.put, List.setIfInBounds_toArray, List.set_cons_zero, List.set_cons_succ]
      refine wpList_runToG (by kernel_rfl) (some 46) rfl (.int .i64 (i : Int)) wr (by kernel_rfl) ?_
      simp only [Act.put, List.setIfInBounds_toArray, List.set_cons_zero, List.set_cons_succ]
      refine wpList_runToG (by kernel_rfl) (some 47) rfl (.bool true) wr (by exact ltN_run (n := i) (k := 1000) (.tmp 46) (.const (.int .i64 1000)) rfl (by kernel_rfl) rfl d2 _) ?_
      simp only [Act.put, List.setIfInBounds_toArray, List.set_cons_zero, List.set_cons_succ]
      refine wpList_runTo rfl (some 48) rfl (.bool true) wr (by kernel_rfl) ?_
      simp only [Act.put, List.setIfInBounds_toArray, List.set_cons_zero, List.set_cons_succ]
      refine wpList_nil ?_
      refine hK _ _ ?_
      clear hK
      clear d1 d2
      obtain ⟨qb, qo, hqa, hqc⟩ : ∃ qb qo, a1 = some ⟨qb, qo, none⟩ ∧ ∀ c, c < 3 → wr.cell? ⟨qb, qo + i * 3 + c, none⟩ = some (.int .i64 (z1 i c)) ∧ -9223372036854775808 ≤ z1 i c ∧ z1 i c ≤ 9223372036854775807 := by
        rcases HS.out.1.below HO.out.bel with h | ⟨qb, qo, e, h⟩
        · omega
        · exact ⟨qb, qo, e, h i hl1⟩
      have HL1' : Hid (L1 = .slice (some ⟨qb, qo, none⟩) n1 c1) := by show L1 = _; rw [HL1.out, hqa]
      clear hqa
      obtain ⟨s0, t0, t1⟩ := hqc 0 (by decide)
      obtain ⟨s1, t2, t3⟩ := hqc 1 (by decide)
      obtain ⟨s2, t4, t5⟩ := hqc 2 (by decide)
      have hp0 := pick_any (z1 i 0) 299 299 rfl wr (by decide) (by decide) t0 t1
      have hp1 := pick_any (z1 i 1) 2 2 rfl wr (by decide) (by decide) t2 t3
      have hp2 := pick_any (z1 i 2) 30 30 rfl wr (by decide) (by decide) t4 t5
      clear hqc t0 t1 t2 t3 t4 t5
      obtain ⟨y0, hy0⟩ : ∃ y, y = z1 i 0 := ⟨_, rfl⟩
      obtain ⟨y1, hy1⟩ : ∃ y, y = z1 i 1 := ⟨_, rfl⟩
      obtain ⟨y2, hy2⟩ : ∃ y, y = z1 i 2 := ⟨_, rfl⟩
      rw [← hy0] at s0 hp0
      rw [← hy1] at s1 hp1
      rw [← hy2] at s2 hp2
      clear hy0 hy1 hy2
      obtain ⟨u0, hu0⟩ : ∃ u, u = pickN y0 299 := ⟨_, rfl⟩
      obtain ⟨line, hu1⟩ : ∃ u, u = pickN y1 2 := ⟨_, rfl⟩
      obtain ⟨u2, hu2⟩ : ∃ u, u = pickN y2 30 := ⟨_, rfl⟩
      have hb0 : u0 < 299 := by rw [hu0]; exact pickN_lt _ (by decide)
      have hline : line < 2 := by rw [hu1]; exact pickN_lt _ (by decide)
      have hb2 : u2 < 30 := by rw [hu2]; exact pickN_lt _ (by decide)
      rw [← hu0] at hp0
      rw [← hu1] at hp1
      rw [← hu2] at hp2
      clear hu0 hu1 hu2
      obtain ⟨n, hn⟩ : ∃ n, n = 1 + u0 := ⟨_, rfl⟩
      obtain ⟨now', hnow'⟩ : ∃ n, n = now + u2 := ⟨_, rfl⟩
      go_upto_region 11 with fail
      rename_i K hK
      refine wp_region_lit ?_
      refine wpList_runTo rfl (some 51) rfl (L1) wr (by kernel_rfl) ?_
      simp only [Act.put, List.setIfInBounds_toArray, List.set_cons_zero, List.set_cons_succ]
      refine wpList_runTo rfl (some 52) rfl (.int .i64 (i : Int)) wr (by kernel_rfl) ?_
      simp only [Act.put, List.setIfInBounds_toArray, List.set_cons_zero, List.set_cons_succ]
      refine wpList_runTo rfl (some 53) rfl (.pointer (some ⟨qb, qo + i * 3, none⟩)) wr (by exact ixS_run (i := i) (n := n1) (c := c1) (.tmp 51) (.tmp 52) rfl (by rw [← HL1'.out]; kernel_rfl) (by kernel_rfl) hl1 _) ?_
      simp only [Act.put, List.setIfInBounds_toArray, List.set_cons_zero, List.set_cons_succ]
      refine wpList_runTo rfl (some 54) rfl (.pointer (some ⟨qb, qo + i * 3 + 0, none⟩)) wr (by exact ixA_run (i := 0) (.tmp 53) (.const (.int .i64 0)) rfl (by kernel_rfl) rfl (by decide) _) ?_
      simp only [Act.put, List.setIfInBounds_toArray, List.set_cons_zero, List.set_cons_succ]
      refine wpList_runTo rfl (some 55) rfl (.int .i64 y0) wr (by exact ldN_run (.inr rfl) (.tmp 54) rfl (by kernel_rfl) s0) ?_
      simp only [Act.put, List.setIfInBounds_toArray, List.set_cons_zero, List.set_cons_succ]
      refine wpList_callW rfl (some 56) rfl 8 #[.int .i64 y0, .int .i64 299] (by kernel_rfl) hp0 ?_
      clear hp0
      rintro e w9 ⟨rfl, ew⟩
      replace ew := ew.symm
      subst ew
      refine ⟨_, rfl, ?_⟩
      simp only [Act.put, List.setIfInBounds_toArray, List.set_cons_zero, List.set_cons_succ]
      refine wpList_runTo rfl (some 57) rfl (.int .i64 (n : Int)) wr (by rw [hn]; exact addN_run (p := 1) (q := u0) (.const (.int .i64 1)) (.tmp 56) rfl rfl (by kernel_rfl) (by omega) _) ?_
      simp only [Act.put, List.setIfInBounds_toArray, List.set_cons_zero, List.set_cons_succ]
      refine wpList_runTo rfl (some 14) rfl (.int .i64 (n : Int)) wr (by kernel_rfl) ?_
      simp only [Act.put, List.setIfInBounds_toArray, List.set_cons_zero, List.set_cons_succ]
      refine wpList_nil ?_
      refine hK _ _ ?_
      clear hK
      go_upto_region 12 with fail
      rename_i K hK
      refine wp_region_lit ?_
      refine wpList_runTo rfl (some 58) rfl (L1) wr (by kernel_rfl) ?_
      simp only [Act.put, List.setIfInBounds_toArray, List.set_cons_zero, List.set_cons_succ]
      refine wpList_runTo rfl (some 59) rfl (.int .i64 (i : Int)) wr (by kernel_rfl) ?_
      simp only [Act.put, List.setIfInBounds_toArray, List.set_cons_zero, List.set_cons_succ]
      refine wpList_runTo rfl (some 60) rfl (.pointer (some ⟨qb, qo + i * 3, none⟩)) wr (by exact ixS_run (i := i) (n := n1) (c := c1) (.tmp 58) (.tmp 59) rfl (by rw [← HL1'.out]; kernel_rfl) (by kernel_rfl) hl1 _) ?_
      simp only [Act.put, List.setIfInBounds_toArray, List.set_cons_zero, List.set_cons_succ]
      refine wpList_runTo rfl (some 61) rfl (.pointer (some ⟨qb, qo + i * 3 + 1, none⟩)) wr (by exact ixA_run (i := 1) (.tmp 60) (.const (.int .i64 1)) rfl (by kernel_rfl) rfl (by decide) _) ?_
      simp only [Act.put, List.setIfInBounds_toArray, List.set_cons_zero, List.set_cons_succ]
      refine wpList_runTo rfl (some 62) rfl (.int .i64 y1) wr (by exact ldN_run (.inr rfl) (.tmp 61) rfl (by kernel_rfl) s1) ?_
      simp only [Act.put, List.setIfInBounds_toArray, List.set_cons_zero, List.set_cons_succ]
      refine wpList_callW rfl (some 63) rfl 8 #[.int .i64 y1, .int .i64 2] (by kernel_rfl) hp1 ?_
      clear hp1
      rintro e w9 ⟨rfl, ew⟩
      replace ew := ew.symm
      subst ew
      refine ⟨_, rfl, ?_⟩
      simp only [Act.put, List.setIfInBounds_toArray, List.set_cons_zero, List.set_cons_succ]
      refine wpList_runTo rfl (some 15) rfl (.int .i64 (line : Int)) wr (by kernel_rfl) ?_
      simp only [Act.put, List.setIfInBounds_toArray, List.set_cons_zero, List.set_cons_succ]
      refine wpList_nil ?_
      refine hK _ _ ?_
      clear hK
      go_upto_region 13 with fail
      rename_i K hK
      refine wp_region_lit ?_
      refine wpList_runTo rfl (some 64) rfl (.int .i64 (now : Int)) wr (by kernel_rfl) ?_
      simp only [Act.put, List.setIfInBounds_toArray, List.set_cons_zero, List.set_cons_succ]
      refine wpList_runTo rfl (some 65) rfl (L1) wr (by kernel_rfl) ?_
      simp only [Act.put, List.setIfInBounds_toArray, List.set_cons_zero, List.set_cons_succ]
      refine wpList_runTo rfl (some 66) rfl (.int .i64 (i : Int)) wr (by kernel_rfl) ?_
      simp only [Act.put, List.setIfInBounds_toArray, List.set_cons_zero, List.set_cons_succ]
      refine wpList_runTo rfl (some 67) rfl (.pointer (some ⟨qb, qo + i * 3, none⟩)) wr (by exact ixS_run (i := i) (n := n1) (c := c1) (.tmp 65) (.tmp 66) rfl (by rw [← HL1'.out]; kernel_rfl) (by kernel_rfl) hl1 _) ?_
      simp only [Act.put, List.setIfInBounds_toArray, List.set_cons_zero, List.set_cons_succ]
      refine wpList_runTo rfl (some 68) rfl (.pointer (some ⟨qb, qo + i * 3 + 2, none⟩)) wr (by exact ixA_run (i := 2) (.tmp 67) (.const (.int .i64 2)) rfl (by kernel_rfl) rfl (by decide) _) ?_
      simp only [Act.put, List.setIfInBounds_toArray, List.set_cons_zero, List.set_cons_succ]
      refine wpList_runTo rfl (some 69) rfl (.int .i64 y2) wr (by exact ldN_run (.inr rfl) (.tmp 68) rfl (by kernel_rfl) s2) ?_
      simp only [Act.put, List.setIfInBounds_toArray, List.set_cons_zero, List.set_cons_succ]
      refine wpList_callW rfl (some 70) rfl 8 #[.int .i64 y2, .int .i64 30] (by kernel_rfl) hp2 ?_
      clear hp2
      rintro e w9 ⟨rfl, ew⟩
      replace ew := ew.symm
      subst ew
      refine ⟨_, rfl, ?_⟩
      simp only [Act.put, List.setIfInBounds_toArray, List.set_cons_zero, List.set_cons_succ]
      refine wpList_runTo rfl (some 71) rfl (.int .i64 (now' : Int)) wr (by rw [hnow']; exact add2_run (p := now) (q := u2) (.tmp 64) (.tmp 70) rfl (by kernel_rfl) (by kernel_rfl) (by omega) _) ?_
      simp only [Act.put, List.setIfInBounds_toArray, List.set_cons_zero, List.set_cons_succ]
      refine wpList_runTo rfl (some 12) rfl (.int .i64 (now' : Int)) wr (by kernel_rfl) ?_
      simp only [Act.put, List.setIfInBounds_toArray, List.set_cons_zero, List.set_cons_succ]
      refine wpList_nil ?_
      refine hK _ _ ?_
      clear hK
      clear s0 s1 s2 HL1'
      have hn1 : 1 ≤ n := by omega
      have hn2 : n ≤ 299 := by omega
      have hnw : now' ≤ 30 * (i + 1) := by omega
      clear hn hnow' hb0 hb2
      obtain ⟨⟨bo, cc⟩, fc, hput⟩ := HO.out.put hn1 hn2 hline
      obtain ⟨nl, hnl⟩ : ∃ nl, nl = n * 2 + line := ⟨_, rfl⟩
      rw [← hnl] at cc fc
      go_upto_region 14 with fail
      rename_i K hK
      refine wp_region_lit ?_
      refine wpList_runTo rfl (some 72) rfl (.int .i64 (n : Int)) wr (by kernel_rfl) ?_
      simp only [Act.put, List.setIfInBounds_toArray, List.set_cons_zero, List.set_cons_succ]
      refine wpList_runTo rfl (some 73) rfl (.int .i64 (line : Int)) wr (by kernel_rfl) ?_
      simp only [Act.put, List.setIfInBounds_toArray, List.set_cons_zero, List.set_cons_succ]
      refine wpList_runTo rfl (some 74) rfl (.pointer (some ⟨cb, n * 2, none⟩)) wr (by exact ixC_run (i := n) (.tmp 10) (.tmp 72) rfl (by kernel_rfl) (by kernel_rfl) (by omega) _) ?_
      simp only [Act.put, List.setIfInBounds_toArray, List.set_cons_zero, List.set_cons_succ]
      refine wpList_runTo rfl (some 75) rfl (.pointer (some ⟨cb, nl, none⟩)) wr (by rw [hnl]; exact ixD_run (i := line) (.tmp 74) (.tmp 73) rfl (by kernel_rfl) (by kernel_rfl) hline _) ?_
      simp only [Act.put, List.setIfInBounds_toArray, List.set_cons_zero, List.set_cons_succ]
      refine wpList_skipW rfl none rfl (w' := wr.setCell ⟨cb, nl, none⟩ (.bool true)) (stB_run (.tmp 75) (.const (.bool true)) rfl (by kernel_rfl) rfl cc fc) ?_
      simp only [Act.put, List.setIfInBounds_toArray, List.set_cons_zero, List.set_cons_succ]
      refine wpList_nil ?_
      refine hK _ _ ?_
      clear hK
      have HP : Hid (∃ cm, cm (n * 2 + line) = true ∧ ∃ a c, SH w (wr.setCell ⟨cb, nl, none⟩ (.bool true)) g b a c ∧ c ≤ 2 * i ∧ last < a.nx ∧ (∀ k ∈ a.ks, OkP cm k) ∧ Blk (wr.setCell ⟨cb, nl, none⟩ (.bool true)) cb 30 (boolsA cm) ∧ w.heap.size ≤ cb) := by
        rw [hnl]; exact hput
      generalize wr.setCell ⟨cb, nl, none⟩ (.bool true) = W4 at *
      clear cc fc hput hnl HO
      have hpk := packet_any W4 n line (by omega) (by omega)
      go_upto_region 15 with fail
      rename_i K hK
      refine wp_region_lit ?_
      refine wpList_runTo rfl (some 77) rfl (.pointer (some ⟨g, 0, none⟩)) W4 (by kernel_rfl) ?_
      simp only [Act.put, List.setIfInBounds_toArray, List.set_cons_zero, List.set_cons_succ]
      refine wpList_runTo rfl (some 78) rfl (.int .i64 (line : Int)) W4 (by kernel_rfl) ?_
      simp only [Act.put, List.setIfInBounds_toArray, List.set_cons_zero, List.set_cons_succ]
      refine wpList_runTo rfl (some 79) rfl (.int .i64 (n : Int)) W4 (by kernel_rfl) ?_
      simp only [Act.put, List.setIfInBounds_toArray, List.set_cons_zero, List.set_cons_succ]
      refine wpList_runTo rfl (some 80) rfl (.int .i64 (line : Int)) W4 (by kernel_rfl) ?_
      simp only [Act.put, List.setIfInBounds_toArray, List.set_cons_zero, List.set_cons_succ]
      refine wpList_runTo rfl (some 81) rfl (.int .u8 (line : Int)) W4 (by exact cvb_run (t := line) (.tmp 80) rfl (by kernel_rfl) (by omega) _) ?_
      simp only [Act.put, List.setIfInBounds_toArray, List.set_cons_zero, List.set_cons_succ]
      refine wpList_callW rfl (some 82) rfl 10 #[.int .i64 (n : Int), .int .u8 (line : Int)] (by kernel_rfl) hpk ?_
      clear hpk
      rintro e W5 ⟨vp, rfl, hxp⟩
      refine ⟨_, rfl, ?_⟩
      simp only [Act.put, List.setIfInBounds_toArray, List.set_cons_zero, List.set_cons_succ]
      obtain ⟨lp, hlp⟩ : ∃ lp, lp = pkF n line := ⟨_, rfl⟩
      have HLP : Hid (lp = pkF n line ∧ By W5 vp lp ∧ Below W4.heap.size W4 W5) := ⟨hlp, by rw [hlp]; exact hxp.out.by', hxp.out.bel⟩
      clear hxp hlp
      have hhe : Calls Try.prog 9 #[.pointer (some ⟨g, 0, none⟩), .int .i64 (line : Int), vp, .int .i64 (now' : Int)] W5 fun e w' => ∃ v', e = .returned (.tuple #[v', .int .i64 0]) ∧ Hid (∃ L : List Kp, OX w w' g b cb last (2 * (i + 1)) L v' ∧ L.length ≤ 2000000000000) := by
        obtain ⟨cm, hcm, a, c, h1, h2, h3, h4, h5, h6⟩ := HP.out
        have h1' := h1.below HLP.out.2.2
        have h5' := h5.below HLP.out.2.2 h5.lt
        refine (h1'.hear (by omega) line hline (now' : Int) (by omega) (by omega) HLP.out.2.1 (by rw [HLP.out.1, pkF_len]; decide)).mono fun e w' ⟨v', er, e1, h7⟩ => ?_
        obtain ⟨out, a', k1, k2, k3⟩ := h7.out
        have hol : out.length ≤ 2000000000000 := (by have q1 := k3.len (n := n) (by rw [HLP.out.1]; exact rt_pk hn1 (by omega) (by omega)); have := h1.ab.bd.len; have := h1.cb 1; have := h1.cb 5; omega)
        obtain ⟨m1, m2, m3, m4, m5⟩ := k3.rising (n := n) (by rw [HLP.out.1]; exact rt_pk hn1 (by omega) (by omega)) h4 (fun k e1 e2 => ⟨by omega, by omega, line, hline, by rw [e2, e1]; exact HLP.out.1, by rw [e1]; exact hcm⟩)
        subst m1
        exact ⟨v', e1, out, ⟨a', c + 2, cm, k1, by omega, by omega, m2, h5'.fr k2.fr (h5'.arb h1'.ab), h6, k2.row, fun q hq => Nat.le_trans h1'.bel.size (k2.low q hq), k2.pk, m3, fun q hq => ⟨(m4 q hq).1, by have := (m4 q hq).2.1; omega, (m4 q hq).2.2⟩, by omega⟩, hol⟩
      clear HP HLP
      refine wpList_runTo rfl (some 83) rfl (.int .i64 (now' : Int)) W5 (by kernel_rfl) ?_
      simp only [Act.put, List.setIfInBounds_toArray, List.set_cons_zero, List.set_cons_succ]
      refine wpList_callW rfl (some 84) rfl 9 #[.pointer (some ⟨g, 0, none⟩), .int .i64 (line : Int), vp, .int .i64 (now' : Int)] (by kernel_rfl) hhe ?_
      clear hhe
      rintro e W6 ⟨vl, rfl, hxh⟩
      refine ⟨_, rfl, ?_⟩
      simp only [Act.put, List.setIfInBounds_toArray, List.set_cons_zero, List.set_cons_succ]
      refine wpList_runTo rfl (some 76) rfl (.tuple #[vl, .int .i64 0]) W6 (by kernel_rfl) ?_
      simp only [Act.put, List.setIfInBounds_toArray, List.set_cons_zero, List.set_cons_succ]
      refine wpList_runTo rfl (some 85) rfl (vl) W6 (by kernel_rfl) ?_
      simp only [Act.put, List.setIfInBounds_toArray, List.set_cons_zero, List.set_cons_succ]
      refine wpList_runTo rfl (some 86) rfl (.int .i64 0) W6 (by kernel_rfl) ?_
      simp only [Act.put, List.setIfInBounds_toArray, List.set_cons_zero, List.set_cons_succ]
      refine wpList_runTo rfl (some 16) rfl (vl) W6 (by kernel_rfl) ?_
      simp only [Act.put, List.setIfInBounds_toArray, List.set_cons_zero, List.set_cons_succ]
      refine wpList_runTo rfl (some 17) rfl (.int .i64 0) W6 (by kernel_rfl) ?_
      simp only [Act.put, List.setIfInBounds_toArray, List.set_cons_zero, List.set_cons_succ]
      refine wpList_nil ?_
      refine hK _ _ ?_
      clear hK
      obtain ⟨L, HX⟩ : ∃ L : List Kp, Hid (OX w W6 g b cb last (2 * (i + 1)) L vl ∧ L.length ≤ 2000000000000) := by
        obtain ⟨L, h⟩ := hxh.out
        exact ⟨L, h⟩
      clear hxh
      generalize vp = vp' at *
      go_upto_region 16 with fail
      rename_i K hK
      refine wp_region_lit ?_
      refine wpList_runTo rfl (some 87) rfl (.int .i64 0) W6 (by kernel_rfl) ?_
      simp only [Act.put, List.setIfInBounds_toArray, List.set_cons_zero, List.set_cons_succ]
      refine wpList_runTo rfl (some 88) rfl (.bool false) W6 (by kernel_rfl) ?_
      simp only [Act.put, List.setIfInBounds_toArray, List.set_cons_zero, List.set_cons_succ]
      refine wpList_nil ?_
      refine hK _ _ ?_
      clear hK
      obtain ⟨im, him⟩ : ∃ im, im = i % 5 := ⟨_, rfl⟩
      obtain ⟨r, hr⟩ : ∃ r : Bool, (im == 4) = r := ⟨_, rfl⟩
      go_upto_region 18 with fail
      rename_i K hK
      refine wp_region_lit ?_
      refine wpList_runTo rfl (some 89) rfl (.int .i64 (i : Int)) W6 (by kernel_rfl) ?_
      simp only [Act.put, List.setIfInBounds_toArray, List.set_cons_zero, List.set_cons_succ]
      refine wpList_runTo rfl (some 90) rfl (.int .i64 (im : Int)) W6 (by rw [him]; exact remN_run (p := i) (q := 5) (.tmp 89) (.const (.int .i64 5)) rfl (by kernel_rfl) rfl (by decide) (by omega) _) ?_
      simp only [Act.put, List.setIfInBounds_toArray, List.set_cons_zero, List.set_cons_succ]
      refine wpList_runTo rfl (some 91) rfl (.bool r) W6 (by exact eqN_run (p := im) (q := 4) (.tmp 90) (.const (.int .i64 4)) rfl (by kernel_rfl) rfl hr _) ?_
      simp only [Act.put, List.setIfInBounds_toArray, List.set_cons_zero, List.set_cons_succ]
      refine wpList_nil ?_
      refine hK _ _ ?_
      clear hK
      clear him hr
      go_cut [16] from 41 to 134 (fun x16 wx => ∃ (L : List Kp) (v : Value) (W : World), v = x16 ∧ W = wx ∧ Hid (OX w W g b cb last (2 * (i + 1)) L v))
      case first => as_aux_lemma =>
        cases r
        case false =>
          go_wp2
          go_meet
          exact ⟨L, _, _, rfl, rfl, HX.out.1⟩
        case true =>
          have hti := HX.out.1.tick HX.out.2 now' (by omega)
          go_upto_region 19 with fail
          refine wp_region_lit ?_
          refine wpList_runTo rfl (some 92) rfl (vl) W6 (by kernel_rfl) ?_
          simp only [Act.put, List.setIfInBounds_toArray, List.set_cons_zero, List.set_cons_succ]
          refine wpList_runTo rfl (some 93) rfl (.pointer (some ⟨g, 0, none⟩)) W6 (by kernel_rfl) ?_
          simp only [Act.put, List.setIfInBounds_toArray, List.set_cons_zero, List.set_cons_succ]
          refine wpList_runTo rfl (some 94) rfl (.int .i64 (now' : Int)) W6 (by kernel_rfl) ?_
          simp only [Act.put, List.setIfInBounds_toArray, List.set_cons_zero, List.set_cons_succ]
          refine wpList_callW rfl (some 95) rfl 11 #[.pointer (some ⟨g, 0, none⟩), .int .i64 (now' : Int)] (by kernel_rfl) hti ?_
          clear hti
          rintro e W7 ⟨v2, rfl, hxt⟩
          refine ⟨_, rfl, ?_⟩
          simp only [Act.put, List.setIfInBounds_toArray, List.set_cons_zero, List.set_cons_succ]
          obtain ⟨out, v3, W8, hap, HY⟩ : ∃ (out : List Kp) (v3 : Value) (W8 : World), (Builtin.append_ #[32, 32] 32 #[vl, v2]).run Try.prog W7 = .ok v3 W8 ∧ Hid (OX w W8 g b cb last (2 * (i + 1)) (L ++ out) v3) := by
            obtain ⟨out, v3, W8, h1, h2⟩ := hxt.out
            exact ⟨out, v3, W8, h1, h2⟩
          clear hxt
          refine wpList_runTo rfl (some 96) rfl (v3) W8 (by exact exec_append (v1 := vl) (v2 := v2) (.tmp 92) (.tmp 95) rfl (by kernel_rfl) (by kernel_rfl) hap) ?_
          simp only [Act.put, List.setIfInBounds_toArray, List.set_cons_zero, List.set_cons_succ]
          refine wpList_runTo rfl (some 16) rfl (v3) W8 (by kernel_rfl) ?_
          simp only [Act.put, List.setIfInBounds_toArray, List.set_cons_zero, List.set_cons_succ]
          refine wpList_nil ?_
          clear hap
          first
            | (go_wp2; go_meet)
            | go_meet
          exact ⟨_, _, _, rfl, rfl, HY.out⟩
      case rest => as_aux_lemma =>
        clear HX
        obtain ⟨L, vl, W6, evl, hwx, HX⟩ := hcut
        subst evl
        subst hwx
        obtain ⟨LN, hLN⟩ : ∃ LN, LN = L.length := ⟨_, rfl⟩
        have HLN : Hid (LN = L.length) := hLN
        clear hLN
        obtain ⟨la, lc, hlf⟩ : ∃ la lc, vl = .slice la LN lc := by
          obtain ⟨a, c, cm, h1, h2, h3, h4, h5, h6, h7, _⟩ := HX.out
          obtain ⟨la, lc, e, _⟩ := h7.form
          exact ⟨la, lc, by rw [HLN.out]; exact e⟩
        have hLNb : LN ≤ 4000000000000 := by
          obtain ⟨a, c, cm, h1, h2, h3, h4, h5, h6, h7, h8, h9, h10, h11, h12⟩ := HX.out
          rw [HLN.out]; exact h12
        go_upto_region 20 with fail
        rename_i K hK
        refine wp_region_lit ?_
        refine wpList_runTo rfl (some 18) rfl (.int .i64 0) W6 (by kernel_rfl) ?_
        simp only [Act.put, List.setIfInBounds_toArray, List.set_cons_zero, List.set_cons_succ]
        refine wpList_nil ?_
        refine hK _ _ ?_
        clear hK
        go_upto_region 21 with fail
        go_loopw [11, 18] (fun x y wr => ∃ k lst : Nat, x = .int .i64 (lst : Int) ∧ y = .int .i64 (k : Int) ∧ k ≤ LN ∧ lst ≤ 299 ∧ Hid (Below W6.heap.size W6 wr ∧ (k = 0 ∧ lst = last ∨ ∃ q, 0 < k ∧ L[k - 1]? = some q ∧ lst = q.n))) (fun _ y _ => LN - (intOf y).toNat)
        case atStart => exact ⟨0, last, rfl, rfl, Nat.zero_le _, hla, Below.refl _ _, .inl ⟨rfl, rfl⟩⟩
        case round =>
          obtain ⟨k, lst, rfl, rfl, hk, hlst, HB⟩ := hrel
          by_cases hkl : k < LN
          · have dk : decide (k < LN) = true := by simp [hkl]
            obtain ⟨q, hq⟩ : ∃ q, L[k]? = some q := ⟨_, List.getElem?_eq_getElem (by rw [← HLN.out]; exact hkl)⟩
            obtain ⟨qn, x, vb, vo, vc, hvf, cq, hby, ccm, hqn1, hqn2, hx2, hql, HQN⟩ : ∃ (qn x vb vo vc : Nat), vl = .slice (some ⟨vb, vo, none⟩) LN vc ∧ wr.cell? ⟨vb, vo + k, none⟩ = some q.v ∧ By wr q.v (pkF qn x) ∧ (∀ W, Below wr.heap.size wr W → W.cell? ⟨cb, qn * 2 + x, none⟩ = some (.bool true)) ∧ 1 ≤ qn ∧ qn ≤ 299 ∧ x < 2 ∧ lst < qn ∧ Hid (qn = q.n) := by
              obtain ⟨a, c, cm, h1, h2, h3, h4, h5, h6, h7, h8, h9, h10, h11, h12⟩ := HX.out.below HB.out.1
              obtain ⟨vb, vo, vc, e1, e2⟩ := h7.at1 (j := k) (u := q.v) (by rw [List.getElem?_map, hq]; rfl)
              have hqm := List.mem_of_getElem? hq
              obtain ⟨⟨o1, o2, x, o3, o4, o5⟩, o6, o7⟩ := h11 q hqm
              refine ⟨q.n, x, vb, vo, vc, by rw [HLN.out]; exact e1, e2, by have := (h9 q hqm).by'; rw [o4] at this; exact this, fun W hW => ?_, o1, o2, o3, ?_, rfl⟩
              · rw [(h5.below hW h5.lt).cell, boolsA_get cm (by omega), o5]
              · rcases HB.out.2 with ⟨_, e⟩ | ⟨p, p1, p2, e⟩
                · rw [e]; exact o6
                · rw [e]
                  have hk1 : k - 1 < L.length := (List.getElem?_eq_some_iff.1 p2).1
                  have hk2 : k < L.length := (List.getElem?_eq_some_iff.1 hq).1
                  have := List.pairwise_iff_getElem.1 h10 (k - 1) k hk1 hk2 (by omega)
                  rw [List.getElem?_eq_getElem hk1] at p2
                  rw [List.getElem?_eq_getElem hk2] at hq
                  injection p2 with p2
                  injection hq with hq
                  rw [p2, hq] at this
                  exact this
            have HQ : Hid (L[k]? = some q) := hq
            have hnu := number_any hby (by omega) (by omega)
            obtain ⟨qv, hqv⟩ : ∃ qv, qv = q.v := ⟨_, rfl⟩
            rw [← hqv] at cq hnu
            clear hby hq hqv
            go_upto_region 21 with fail
            rename_i K hK
            refine wp_region_lit ?_
            refine wpList_runTo rfl (some 97) rfl (.int .i64 (k : Int)) wr (by kernel_rfl) ?_
            simp only [Act.put, List.setIfInBounds_toArray, List.set_cons_zero, List.set_cons_succ]
            refine wpList_runTo rfl (some 98) rfl (vl) wr (by kernel_rfl) ?_
            simp only [Act.put, List.setIfInBounds_toArray, List.set_cons_zero, List.set_cons_succ]
            refine wpList_runTo rfl (some 99) rfl (.int .i64 (LN : Int)) wr (by exact len_run hlf (.tmp 98) rfl (.inr (.inl rfl)) (by kernel_rfl) _) ?_
            simp only [Act.put, List.setIfInBounds_toArray, List.set_cons_zero, List.set_cons_succ]
            refine wpList_runTo rfl (some 100) rfl (.bool true) wr (by exact ltN_run (n := k) (k := LN) (.tmp 97) (.tmp 99) rfl (by kernel_rfl) (by kernel_rfl) dk _) ?_
            simp only [Act.put, List.setIfInBounds_toArray, List.set_cons_zero, List.set_cons_succ]
            refine wpList_nil ?_
            refine hK _ _ ?_
            clear hK
            go_upto_region 23 with fail
            rename_i K hK
            refine wp_region_lit ?_
            refine wpList_runTo rfl (some 104) rfl (vl) wr (by kernel_rfl) ?_
            simp only [Act.put, List.setIfInBounds_toArray, List.set_cons_zero, List.set_cons_succ]
            refine wpList_runTo rfl (some 105) rfl (.int .i64 (k : Int)) wr (by kernel_rfl) ?_
            simp only [Act.put, List.setIfInBounds_toArray, List.set_cons_zero, List.set_cons_succ]
            refine wpList_runTo rfl (some 106) rfl (.pointer (some ⟨vb, vo + k, none⟩)) wr (by exact ixV_run (i := k) (n := LN) (c := vc) (.tmp 104) (.tmp 105) rfl (by rw [← hvf]; kernel_rfl) (by kernel_rfl) hkl _) ?_
            simp only [Act.put, List.setIfInBounds_toArray, List.set_cons_zero, List.set_cons_succ]
            refine wpList_runTo rfl (some 107) rfl (qv) wr (by exact ldV_run (.tmp 106) rfl (by kernel_rfl) cq) ?_
            simp only [Act.put, List.setIfInBounds_toArray, List.set_cons_zero, List.set_cons_succ]
            refine wpList_callW rfl (some 108) rfl 12 #[qv] (by kernel_rfl) hnu ?_
            clear hnu
            rintro e WQ ⟨rfl, hxn⟩
            refine ⟨_, rfl, ?_⟩
            simp only [Act.put, List.setIfInBounds_toArray, List.set_cons_zero, List.set_cons_succ]
            refine wpList_runTo rfl (some 103) rfl (.tuple #[.int .i64 (qn : Int), .int .i64 (x : Int)]) WQ (by kernel_rfl) ?_
            simp only [Act.put, List.setIfInBounds_toArray, List.set_cons_zero, List.set_cons_succ]
            refine wpList_runTo rfl (some 109) rfl (.int .i64 (qn : Int)) WQ (by kernel_rfl) ?_
            simp only [Act.put, List.setIfInBounds_toArray, List.set_cons_zero, List.set_cons_succ]
            refine wpList_runTo rfl (some 110) rfl (.int .i64 (x : Int)) WQ (by kernel_rfl) ?_
            simp only [Act.put, List.setIfInBounds_toArray, List.set_cons_zero, List.set_cons_succ]
            refine wpList_runTo rfl (some 19) rfl (.int .i64 (qn : Int)) WQ (by kernel_rfl) ?_
            simp only [Act.put, List.setIfInBounds_toArray, List.set_cons_zero, List.set_cons_succ]
            refine wpList_runTo rfl (some 20) rfl (.int .i64 (x : Int)) WQ (by kernel_rfl) ?_
            simp only [Act.put, List.setIfInBounds_toArray, List.set_cons_zero, List.set_cons_succ]
            refine wpList_nil ?_
            refine hK _ _ ?_
            clear hK
            have ccq := ccm WQ hxn.out
            have d1 : decide (qn ≤ lst) = false := by simp; omega
            have d2 : decide (299 < qn) = false := by simp; omega
            have d3 : decide (1 < x) = false := by simp; omega
            obtain ⟨qx, hqx⟩ : ∃ qx, qx = qn * 2 + x := ⟨_, rfl⟩
            rw [← hqx] at ccq
            go_upto_region 24 with fail
            rename_i K hK
            refine wp_region_lit ?_
            refine wpList_runTo rfl (some 111) rfl (.int .i64 (qn : Int)) WQ (by kernel_rfl) ?_
            simp only [Act.put, List.setIfInBounds_toArray, List.set_cons_zero, List.set_cons_succ]
            refine wpList_runTo rfl (some 112) rfl (.int .i64 (lst : Int)) WQ (by kernel_rfl) ?_
            simp only [Act.put, List.setIfInBounds_toArray, List.set_cons_zero, List.set_cons_succ]
            refine wpList_runTo rfl (some 113) rfl (.bool false) WQ (by exact leN_run (p := qn) (q := lst) (.tmp 111) (.tmp 112) rfl (by kernel_rfl) (by kernel_rfl) d1 _) ?_
            simp only [Act.put, List.setIfInBounds_toArray, List.set_cons_zero, List.set_cons_succ]
            refine wpList_runTo rfl (some 114) rfl (.bool false) WQ (by kernel_rfl) ?_
            simp only [Act.put, List.setIfInBounds_toArray, List.set_cons_zero, List.set_cons_succ]
            refine wpList_runToG (by kernel_rfl) (some 115) rfl (.int .i64 (qn : Int)) WQ (by kernel_rfl) ?_
            simp only [Act.put, List.setIfInBounds_toArray, List.set_cons_zero, List.set_cons_succ]
            refine wpList_runToG (by kernel_rfl) (some 116) rfl (.bool false) WQ (by exact gtN_run (n := qn) (k := 299) (.tmp 115) (.const (.int .i64 299)) rfl (by kernel_rfl) rfl d2 _) ?_
            simp only [Act.put, List.setIfInBounds_toArray, List.set_cons_zero, List.set_cons_succ]
            refine wpList_runTo rfl (some 117) rfl (.bool false) WQ (by kernel_rfl) ?_
            simp only [Act.put, List.setIfInBounds_toArray, List.set_cons_zero, List.set_cons_succ]
            refine wpList_runTo rfl (some 118) rfl (.bool false) WQ (by kernel_rfl) ?_
            simp only [Act.put, List.setIfInBounds_toArray, List.set_cons_zero, List.set_cons_succ]
            refine wpList_runToG (by kernel_rfl) (some 119) rfl (.int .i64 (x : Int)) WQ (by kernel_rfl) ?_
            simp only [Act.put, List.setIfInBounds_toArray, List.set_cons_zero, List.set_cons_succ]
            refine wpList_runToG (by kernel_rfl) (some 120) rfl (.bool false) WQ (by exact gtN_run (n := x) (k := 1) (.tmp 119) (.const (.int .i64 1)) rfl (by kernel_rfl) rfl d3 _) ?_
            simp only [Act.put, List.setIfInBounds_toArray, List.set_cons_zero, List.set_cons_succ]
            refine wpList_runTo rfl (some 121) rfl (.bool false) WQ (by kernel_rfl) ?_
            simp only [Act.put, List.setIfInBounds_toArray, List.set_cons_zero, List.set_cons_succ]
            refine wpList_runTo rfl (some 122) rfl (.bool false) WQ (by kernel_rfl) ?_
            simp only [Act.put, List.setIfInBounds_toArray, List.set_cons_zero, List.set_cons_succ]
            refine wpList_runToG (by kernel_rfl) (some 123) rfl (.int .i64 (qn : Int)) WQ (by kernel_rfl) ?_
            simp only [Act.put, List.setIfInBounds_toArray, List.set_cons_zero, List.set_cons_succ]
            refine wpList_runToG (by kernel_rfl) (some 124) rfl (.int .i64 (x : Int)) WQ (by kernel_rfl) ?_
            simp only [Act.put, List.setIfInBounds_toArray, List.set_cons_zero, List.set_cons_succ]
            refine wpList_runToG (by kernel_rfl) (some 125) rfl (.pointer (some ⟨cb, qn * 2, none⟩)) WQ (by exact ixC_run (i := qn) (.tmp 10) (.tmp 123) rfl (by kernel_rfl) (by kernel_rfl) (by omega) _) ?_
            simp only [Act.put, List.setIfInBounds_toArray, List.set_cons_zero, List.set_cons_succ]
            refine wpList_runToG (by kernel_rfl) (some 126) rfl (.pointer (some ⟨cb, qx, none⟩)) WQ (by rw [hqx]; exact ixD_run (i := x) (.tmp 125) (.tmp 124) rfl (by kernel_rfl) (by kernel_rfl) hx2 _) ?_
            simp only [Act.put, List.setIfInBounds_toArray, List.set_cons_zero, List.set_cons_succ]
            refine wpList_runToG (by kernel_rfl) (some 127) rfl (.bool true) WQ (by exact ldB_run (.tmp 126) rfl (by kernel_rfl) ccq) ?_
            simp only [Act.put, List.setIfInBounds_toArray, List.set_cons_zero, List.set_cons_succ]
            refine wpList_runToG (by kernel_rfl) (some 128) rfl (.bool false) WQ (by kernel_rfl) ?_
            simp only [Act.put, List.setIfInBounds_toArray, List.set_cons_zero, List.set_cons_succ]
            refine wpList_runTo rfl (some 129) rfl (.bool false) WQ (by kernel_rfl) ?_
            simp only [Act.put, List.setIfInBounds_toArray, List.set_cons_zero, List.set_cons_succ]
            refine wpList_nil ?_
            refine hK _ _ ?_
            clear hK
            have HB2 : Hid (Below W6.heap.size W6 WQ ∧ (k + 1 = 0 ∧ qn = last ∨ ∃ q, 0 < k + 1 ∧ L[k + 1 - 1]? = some q ∧ qn = q.n)) := ⟨below_step HB.out.1 hxn.out, .inr ⟨q, Nat.succ_pos _, HQ.out, HQN.out⟩⟩
            clear hxn cq hvf HB ccm ccq d1 d2 d3 hqx HQ HQN
            generalize qv = qv' at *
            subst hlf
            go_wp2
            exact ⟨⟨k + 1, qn, rfl, by go_num, by omega, hqn2, HB2.out⟩, by simp [intOf]; omega⟩
          · have hkl' : ¬ (k : Int) < (LN : Int) := by omega
            have hne : Calls Try.prog 13 #[.pointer (some ⟨g, 0, none⟩)] wr fun e w' => ∃ z : Nat, e = .returned (.int .i64 (z : Int)) ∧ w' = wr ∧ Hid (lst < z ∧ z ≤ 1000000000 ∧ OSt w wr g b cb lst (2 * (i + 1))) := by
              obtain ⟨a, c, cm, h1, h2, h3, h4, h5, h6, h7, h8, h9, h10, h11, h12⟩ := HX.out.below HB.out.1
              refine (Next_any h1.ab).mono fun e w' ⟨e1, e2⟩ => ⟨a.nx, e1, e2, ?_⟩
              have hl : lst < a.nx := by
                rcases HB.out.2 with ⟨_, e⟩ | ⟨p, _, p2, e⟩
                · rw [e]; exact h3
                · rw [e]; exact (h11 p (List.mem_of_getElem? p2)).2.2
              exact ⟨hl, h1.ab.bd.nx, a, c, cm, h1, h2, hl, h4, h5, h6⟩
            clear HB HX HLN
            subst hlf
            go_upto_region 27 with fail
            rename_i K hK
            refine wp_region_lit ?_
            refine wpList_runTo rfl (some 131) rfl (.pointer (some ⟨g, 0, none⟩)) wr (by kernel_rfl) ?_
            simp only [Act.put, List.setIfInBounds_toArray, List.set_cons_zero, List.set_cons_succ]
            refine wpList_callW rfl (some 132) rfl 13 #[.pointer (some ⟨g, 0, none⟩)] (by kernel_rfl) hne ?_
            clear hne
            rintro e w9 ⟨z, rfl, ew, HZ⟩
            replace ew := ew.symm
            subst ew
            refine ⟨_, rfl, ?_⟩
            simp only [Act.put, List.setIfInBounds_toArray, List.set_cons_zero, List.set_cons_succ]
            refine wpList_runTo rfl (some 133) rfl (.int .i64 (lst : Int)) wr (by kernel_rfl) ?_
            simp only [Act.put, List.setIfInBounds_toArray, List.set_cons_zero, List.set_cons_succ]
            refine wpList_runTo rfl (some 134) rfl (.bool false) wr (by exact leN_run (p := z) (q := lst) (.tmp 132) (.tmp 133) rfl (by kernel_rfl) (by kernel_rfl) (by simp; have := HZ.out.1; omega) _) ?_
            simp only [Act.put, List.setIfInBounds_toArray, List.set_cons_zero, List.set_cons_succ]
            refine wpList_nil ?_
            refine hK _ _ ?_
            clear hK
            have HE : Hid (OSt w wr g b cb lst (2 * (i + 1))) := HZ.out.2.2
            clear HZ
            go_wp2
            first
              | exact ⟨⟨i + 1, lst, now', rfl, rfl, by go_num, by omega, hlst, hnw, HE.out⟩, by simp [intOf]; omega⟩
              | (go_roundw; (case rel => ((repeat apply Exists.intro); exact ⟨⟨i + 1, lst, now', rfl, rfl, by go_num, by omega, hlst, hnw, HE.out⟩, rfl⟩)); (case measure => (simp [intOf]; omega)))
    · go_upto_region 9 with fail
      go_cut [48] from 41 to 48 (fun x48 wx => x48 = .bool false ∧ wx = wr)
      case first => as_aux_lemma =>
        obtain ⟨bf, hbf⟩ : ∃ bf : Bool, bf = false := ⟨_, rfl⟩
        obtain ⟨un, hun⟩ : ∃ un : Value, un = undef := ⟨_, rfl⟩
        by_cases q1 : i < n1
        · have d1 : decide (i < n1) = true := by simp [q1]
          have d2 : decide (i < 1000) = false := by
            have : ¬ i < 1000 := fun q => hlt ⟨q1, q⟩
            simp; omega
          refine wp_region_lit ?_
          refine wpList_runTo rfl (some 41) rfl (.int .i64 (i : Int)) wr (by kernel_rfl) ?_
          simp only [Act.put, List.setIfInBounds_toArray, List.set_cons_zero, List.set_cons_succ]
          refine wpList_runTo rfl (some 42) rfl (L1) wr (by kernel_rfl) ?_
          simp only [Act.put, List.setIfInBounds_toArray, List.set_cons_zero, List.set_cons_succ]
          refine wpList_runTo rfl (some 43) rfl (.int .i64 (n1 : Int)) wr (by exact len_run HL1.out (.tmp 42) rfl (.inr (.inr (.inr rfl))) (by kernel_rfl) _) ?_
          simp only [Act.put, List.setIfInBounds_toArray, List.set_cons_zero, List.set_cons_succ]
          refine wpList_runTo rfl (some 44) rfl (.bool true) wr (by exact ltN_run (n := i) (k := n1) (.tmp 41) (.tmp 43) rfl (by kernel_rfl) (by kernel_rfl) d1 _) ?_
          simp only [Act.put, List.setIfInBounds_toArray, List.set_cons_zero, List.set_cons_succ]
          refine wpList_runTo rfl (some 45) rfl (.bool true) wr (by kernel_rfl) ?_
          simp only [Act.put, List.setIfInBounds_toArray, List.set_cons_zero, List.set_cons_succ]
          refine wpList_runToG (by kernel_rfl) (some 46) rfl (.int .i64 (i : Int)) wr (by kernel_rfl) ?_
          simp only [Act.put, List.setIfInBounds_toArray, List.set_cons_zero, List.set_cons_succ]
          refine wpList_runToG (by kernel_rfl) (some 47) rfl (.bool false) wr (by exact ltN_run (n := i) (k := 1000) (.tmp 46) (.const (.int .i64 1000)) rfl (by kernel_rfl) rfl d2 _) ?_
          simp only [Act.put, List.setIfInBounds_toArray, List.set_cons_zero, List.set_cons_succ]
          refine wpList_runTo rfl (some 48) rfl (.bool false) wr (by kernel_rfl) ?_
          simp only [Act.put, List.setIfInBounds_toArray, List.set_cons_zero, List.set_cons_succ]
          refine wpList_nil ?_
          clear d1 d2
          first
            | (go_wp2; go_meet)
            | go_meet
          exact ⟨rfl, rfl⟩
        · have d1 : decide (i < n1) = bf := by rw [hbf]; simp; omega
          refine wp_region_lit ?_
          refine wpList_runTo rfl (some 41) rfl (.int .i64 (i : Int)) wr (by kernel_rfl) ?_
          simp only [Act.put, List.setIfInBounds_toArray, List.set_cons_zero, List.set_cons_succ]
          refine wpList_runTo rfl (some 42) rfl (L1) wr (by kernel_rfl) ?_
          simp only [Act.put, List.setIfInBounds_toArray, List.set_cons_zero, List.set_cons_succ]
          refine wpList_runTo rfl (some 43) rfl (.int .i64 (n1 : Int)) wr (by exact len_run HL1.out (.tmp 42) rfl (.inr (.inr (.inr rfl))) (by kernel_rfl) _) ?_
          simp only [Act.put, List.setIfInBounds_toArray, List.set_cons_zero, List.set_cons_succ]
          refine wpList_runTo rfl (some 44) rfl (.bool bf) wr (by exact ltN_run (n := i) (k := n1) (.tmp 41) (.tmp 43) rfl (by kernel_rfl) (by kernel_rfl) d1 _) ?_
          simp only [Act.put, List.setIfInBounds_toArray, List.set_cons_zero, List.set_cons_succ]
          refine wpList_runTo rfl (some 45) rfl (.bool bf) wr (by kernel_rfl) ?_
          simp only [Act.put, List.setIfInBounds_toArray, List.set_cons_zero, List.set_cons_succ]
          refine wpList_skipU hun (by subst hbf; kernel_rfl) (some 46) rfl ?_
          simp only [Act.put, List.setIfInBounds_toArray, List.set_cons_zero, List.set_cons_succ]
          refine wpList_skipU hun (by subst hbf; kernel_rfl) (some 47) rfl ?_
          simp only [Act.put, List.setIfInBounds_toArray, List.set_cons_zero, List.set_cons_succ]
          refine wpList_runTo rfl (some 48) rfl (.bool false) wr (by subst hbf; kernel_rfl) ?_
          simp only [Act.put, List.setIfInBounds_toArray, List.set_cons_zero, List.set_cons_succ]
          refine wpList_nil ?_
          clear d1
          first
            | (go_wp2; go_meet)
            | go_meet
          exact ⟨rfl, rfl⟩
      case rest => as_aux_lemma =>
        obtain ⟨rfl, hw⟩ := hcut
        subst hw
        have HZ : Hid (Below w.heap.size w wc) := HO.out.bel
        clear hlt HO HS
        go_wp2
        go_ret
        exact ⟨rfl, HZ.out⟩
end Go.Proofs.Ytdncemecnbglaaa
