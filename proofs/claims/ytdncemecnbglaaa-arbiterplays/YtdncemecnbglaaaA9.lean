/-
  arbiter: Wants.
-/
import Derived.Test.YtdncemecnbglaaaA8
namespace Go.Proofs.Ytdncemecnbglaaa
set_option linter.unusedVariables false
set_option linter.unusedSimpArgs false
open Go.RowKit Go.Great Go.Maps

/-- What is missing, number by number: where the next row begins, and the rows. -/
def wS (s : Nat × List (Nat × Nat)) (n : Nat) : Nat × List (Nat × Nat) := (n + 1, if s.1 < n then s.2 ++ [(s.1, n - 1)] else s.2)
def wst (nx : Nat) (ns : List Nat) : Nat × List (Nat × Nat) := ns.foldl wS (nx, [])
theorem wst_succ (nx : Nat) {ns : List Nat} {i m : Nat} (h : ns[i]? = some m) : wst nx (ns.take (i + 1)) = wS (wst nx (ns.take i)) m := by
  unfold wst
  rw [List.take_add_one, h, List.foldl_append]
  rfl
def rC (p : Nat × Nat) : List Value := [.int .i64 (p.1 : Int), .int .i64 (p.2 : Int)]
def rV (rs : List (Nat × Nat)) : List Value := flatL rC rs
theorem wst_len (nx : Nat) : ∀ (ns : List Nat), (wst nx ns).2.length ≤ ns.length := by
  suffices h : ∀ (ns : List Nat) (s : Nat × List (Nat × Nat)), (ns.foldl wS s).2.length ≤ s.2.length + ns.length from fun ns => by have := h ns (nx, []); unfold wst; simpa using this
  intro ns
  induction ns with
  | nil => intro s; simp
  | cons n r ih =>
    intro s
    have := ih (wS s n)
    have h2 : (wS s n).2.length ≤ s.2.length + 1 := by unfold wS; dsimp only; split <;> simp
    simp only [List.foldl_cons, List.length_cons]
    omega
/-- Where Wants stands. -/
structure WI (w wr : World) (va rv : Value) (ns : List Nat) (rs : List (Nat × Nat)) : Prop where
  row : RowAt wr 3 1 va ns.length (nV ns)
  rows : RowAt wr 61 2 rv rs.length (rV rs)
  low : ∀ q, rv.ownBlock = some q → w.heap.size ≤ q
  bel : Below w.heap.size w wr
theorem info2 : (Try.prog.info? 61).map (fun i => (i.zero, i.size, i.bytes)) = some (some (.agg #[.int .i64 0, .int .i64 0]), 2, 16) := by kernel_rfl
theorem WI.app {w wr : World} {va rv : Value} {ns : List Nat} {rs : List (Nat × Nat)} (h : WI w wr va rv ns rs) (p : Nat × Nat) (hl : rs.length < 5000000000000) (ty : TypeId) : ∃ rv' w', (Builtin.append_ #[59, 59] ty #[rv, .slice (some ⟨wr.heap.size, 0, none⟩) 1 1]).run Try.prog (wr.alloc (.cells #[.int .i64 (p.1 : Int), .int .i64 (p.2 : Int)] 61)) = .ok rv' w' ∧ WI w w' va rv' ns (rs ++ [p]) := by
  have hal : Below wr.heap.size wr (wr.alloc (.cells #[.int .i64 (p.1 : Int), .int .i64 (p.2 : Int)] 61)) := (Below.refl _ wr).alloc (Nat.le_refl _) _
  have hb := Blk.new wr 61 #[.int .i64 (p.1 : Int), .int .i64 (p.2 : Int)]
  obtain ⟨i, h1, h2⟩ := Option.map_eq_some_iff.1 info2
  injection h2 with h3 h4
  injection h4 with h4 h5
  have hr := h.rows.fr (Fr.of_below hal (fun _ => False)) fun _ _ => id
  obtain ⟨v', w', k1, k2, k3, k4⟩ := run_append_row (wr.alloc (.cells #[.int .i64 (p.1 : Int), .int .i64 (p.2 : Int)] 61)) 59 ty 61 i _ 2 16 Try.underlying59 h1 h3 h4 h5 rfl rv rs.length (rV rs) hr ⟨wr.heap.size, 0, none⟩ 1 1 (rC p) rfl (fun j u hj => by
    match j, hj with
    | 0, hj => have e : Value.int .i64 (p.1 : Int) = u := by simpa [rC] using hj
               subst e; exact hb.cell 0
    | 1, hj => have e : Value.int .i64 (p.2 : Int) = u := by simpa [rC] using hj
               subst e; exact hb.cell 1
    | j + 2, hj => simp [rC] at hj) (fun u hu => by simp [rC] at hu; rcases hu with rfl | rfl <;> rfl) (.inl (by decide)) (by unfold maxLen; omega) (by omega)
  have hrow := h.row.fr (Fr.of_below hal (fun _ => False)) fun _ _ => id
  refine ⟨v', w', k1, hrow.fr k3 fun q hq e => ?_, ?_, fun q hq => ?_, ?_⟩
  · obtain ⟨_, cur, hc⟩ := hrow.lt hq
    exact hr.ne_type hc (by decide) e
  · rw [List.length_append]
    unfold rV
    rw [flatL_app, flatL_one]
    exact k2
  · rcases k4 with k4 | ⟨k4, _⟩
    · exact h.low q (k4 ▸ hq)
    · rw [k4] at hq
      injection hq with hq
      have := h.bel.size
      have := hal.size
      omega
  · refine (below_step h.bel hal).trans (k3.below (by have := h.bel.size; have := hal.size; omega) fun q hq e => ?_)
    have := h.low q e
    omega
theorem quo_run {op : Oper} {a : Act} {p : Int} (x y : Operand) (ho : op.op = .binOp .quo 2 x y 2) (hx : a.eval x = .int .i64 p) (hy : a.eval y = .int .i64 2) (h : 0 ≤ p ∧ p ≤ 253402300799999) (w : World) : (execOp a.eval op).run Try.prog w = .ok (.value (.int .i64 (p / 2))) w := by
  have h1 : p.tdiv 2 = p / 2 := Int.tdiv_eq_ediv_of_nonneg h.1
  have hw : IntKind.i64.wrap (p.tdiv 2) = p / 2 := by rw [h1, IntKind.wrap_i64]; omega
  have hw' : wrap64 (p.tdiv 2) = p / 2 := by rw [h1]; unfold wrap64; omega
  have hw2 : IntKind.i64.wrap (p / 2) = p / 2 := by rw [IntKind.wrap_i64]; omega
  have hw3 : wrap64 (p / 2) = p / 2 := by unfold wrap64; omega
  generalize p / 2 = q at *
  unfold execOp
  simp only [ho, hx, hy]
  go_simp
set_option maxRecDepth 100000 in
set_option maxHeartbeats 2000000 in
theorem Wants_any {w : World} {g b : Nat} {a : Ab} (h : AbAt w g b a) (now : Int) (hn0 : 0 ≤ now) (hn1 : now ≤ 253402300799999) : Calls Try.prog 17 #[.pointer (some ⟨g, 0, none⟩), .int .i64 now] w fun e w' => ∃ rv, e = .returned rv ∧ Hid (∃ (ns : List Nat) (rs : List (Nat × Nat)), RowAt w' 61 2 rv rs.length (rV rs) ∧ (∀ q, rv.ownBlock = some q → w.heap.size ≤ q) ∧ Below w.heap.size w w' ∧ (wtB a (max a.la now) (a.pat / 2) = false ∧ rs = [] ∨ wtB a (max a.la now) (a.pat / 2) = true ∧ ns.Perm (a.ks.map (·.n)) ∧ ns.Pairwise (· ≤ ·) ∧ rs = (wst a.nx ns).2)) := by
  have HA : Hid (AbAt w g b a) := h
  have htm : tmB now = true := by unfold tmB; simp [hn0, hn1]
  have hti := fun W => isTime_any now W
  rw [htm] at hti
  have hla0 := h.bd.l0
  have hla1 := h.bd.l1
  have hp0 := h.bd.p0
  have hp1 := h.bd.p1
  clear h htm
  obtain ⟨MM, hMM⟩ : ∃ MM, MM = max a.la now := ⟨_, rfl⟩
  have HMM : Hid (MM = max a.la now ∧ 0 ≤ MM ∧ MM ≤ 253402300799999 ∧ 0 ≤ a.pat ∧ a.pat ≤ 253402300799999) := ⟨hMM, by omega, by omega, hp0, hp1⟩
  clear hMM hla0 hla1 hp0 hp1
  obtain ⟨HP, hHP⟩ : ∃ x, x = a.pat / 2 := ⟨_, rfl⟩
  go_enter Try.func17, Try.ntmps17
  go_upto_region 1 with fail
  have hbd : Below w.heap.size w w.drew := ⟨rfl, rfl, rfl, Nat.le_refl _, fun _ _ => rfl⟩
  have H2 : Hid (AbAt w.drew g b a ∧ Below w.heap.size w w.drew) := ⟨HA.out.below hbd, hbd⟩
  clear hbd
  rename_i K hK
  refine wp_region_held (S := fun w' => Blk w' g 67 (a.cs b)) (by kernel_rfl) ?_
  change wpAnyH _ _ _ _ _ _ _ _ (World.drew _)
  generalize w.drew = WD at *
  have hS := H2.out.1.blk
  refine takeR (i := 0) (v := .int .i64 now) (some 9) rfl rfl (by kernel_rfl) (by kernel_rfl) (by kernel_rfl) (fun _ _ _ h => h) (Or.inl ⟨by kernel_rfl, fun w' hSw => by kernel_rfl⟩) hS ?_
  simp only [Act.put, List.setIfInBounds_toArray, List.set_cons_zero, List.set_cons_succ]
  refine wpAnyH_ready (rs := [1]) (by kernel_rfl) (by simp) ?_
  refine AllReadyH.cons rfl (fun K1 hK1 => ?_) AllReadyH.nil
  rw [if_pos (by kernel_rfl)]
  refine callR (d := some 10) rfl 19 #[.int .i64 now] (by kernel_rfl) (hti WD) ?_
  clear hti
  rintro e w1 ⟨rfl, ew⟩
  replace ew := ew.symm
  subst ew
  refine ⟨_, rfl, ?_⟩
  refine hK1.out _ _ hS (fun _ => ?_)
  clear hK1
  simp only [Act.put, List.setIfInBounds_toArray, List.set_cons_zero, List.set_cons_succ]
  refine takeR (i := 2) (v := .bool false) (some 11) rfl rfl (by kernel_rfl) (by kernel_rfl) (by kernel_rfl) (fun _ _ _ h => h) (Or.inl ⟨by kernel_rfl, fun w' hSw => by kernel_rfl⟩) hS ?_
  simp only [Act.put, List.setIfInBounds_toArray, List.set_cons_zero, List.set_cons_succ]
  refine takeR (i := 3) (v := .bool false) (some 12) rfl rfl (by kernel_rfl) (by kernel_rfl) (by kernel_rfl) (fun _ _ _ h => h) (Or.inl ⟨by kernel_rfl, fun w' hSw => by kernel_rfl⟩) hS ?_
  simp only [Act.put, List.setIfInBounds_toArray, List.set_cons_zero, List.set_cons_succ]
  refine takeR (i := 4) (v := .pointer (some ⟨g, 0, none⟩)) (some 13) rfl rfl (by kernel_rfl) (by kernel_rfl) (by kernel_rfl) (fun _ _ _ h => h) (Or.inl ⟨by kernel_rfl, fun w' hSw => by kernel_rfl⟩) hS ?_
  simp only [Act.put, List.setIfInBounds_toArray, List.set_cons_zero, List.set_cons_succ]
  refine takeR (i := 5) (v := .pointer (some ⟨g, 0, none⟩)) (some 14) rfl rfl (by kernel_rfl) (by kernel_rfl) (by kernel_rfl) (fun _ _ _ h => h) (Or.inl ⟨by kernel_rfl, fun w' hSw => by kernel_rfl⟩) hS ?_
  simp only [Act.put, List.setIfInBounds_toArray, List.set_cons_zero, List.set_cons_succ]
  refine takeR (i := 6) (v := .pointer (some ⟨g, 0, none⟩)) (some 15) rfl rfl (by kernel_rfl) (by kernel_rfl) (by kernel_rfl) (fun _ _ _ h => h) (Or.inl ⟨by kernel_rfl, fun w' hSw => by kernel_rfl⟩) hS ?_
  simp only [Act.put, List.setIfInBounds_toArray, List.set_cons_zero, List.set_cons_succ]
  refine takeR (i := 7) (v := .pointer (some ⟨g, 5, none⟩)) (some 16) rfl rfl (by kernel_rfl) (by kernel_rfl) (by kernel_rfl) (fun _ _ _ h => h) (Or.inl ⟨by kernel_rfl, fun w' hSw => by kernel_rfl⟩) hS ?_
  simp only [Act.put, List.setIfInBounds_toArray, List.set_cons_zero, List.set_cons_succ]
  refine takeR (i := 8) (v := .int .i64 a.la) (some 17) rfl rfl (by kernel_rfl) (by kernel_rfl) (by kernel_rfl) (fun _ _ _ h => h) (Or.inl ⟨by kernel_rfl, fun w' hSw => by exact ldN_run (.inl rfl) (.tmp 16) rfl (by kernel_rfl) (hSw.cell 5)⟩) hS ?_
  simp only [Act.put, List.setIfInBounds_toArray, List.set_cons_zero, List.set_cons_succ]
  refine takeR (i := 9) (v := .int .i64 now) (some 18) rfl rfl (by kernel_rfl) (by kernel_rfl) (by kernel_rfl) (fun _ _ _ h => h) (Or.inl ⟨by kernel_rfl, fun w' hSw => by kernel_rfl⟩) hS ?_
  simp only [Act.put, List.setIfInBounds_toArray, List.set_cons_zero, List.set_cons_succ]
  refine takeR (i := 10) (v := .int .i64 MM) (some 19) rfl rfl (by kernel_rfl) (by kernel_rfl) (by kernel_rfl) (fun _ _ _ h => h) (Or.inl ⟨by kernel_rfl, fun w' hSw => by rw [HMM.out.1]; exact mx_run (.tmp 17) (.tmp 18) rfl (by kernel_rfl) (by kernel_rfl) rfl _⟩) hS ?_
  simp only [Act.put, List.setIfInBounds_toArray, List.set_cons_zero, List.set_cons_succ]
  refine takeR (i := 11) (v := .pointer (some ⟨g, 0, none⟩)) (some 20) rfl rfl (by kernel_rfl) (by kernel_rfl) (by kernel_rfl) (fun _ _ _ h => h) (Or.inl ⟨by kernel_rfl, fun w' hSw => by kernel_rfl⟩) hS ?_
  simp only [Act.put, List.setIfInBounds_toArray, List.set_cons_zero, List.set_cons_succ]
  refine takeR (i := 12) (v := .pointer (some ⟨g, 0, none⟩)) (some 21) rfl rfl (by kernel_rfl) (by kernel_rfl) (by kernel_rfl) (fun _ _ _ h => h) (Or.inl ⟨by kernel_rfl, fun w' hSw => by kernel_rfl⟩) hS ?_
  simp only [Act.put, List.setIfInBounds_toArray, List.set_cons_zero, List.set_cons_succ]
  refine takeR (i := 13) (v := .pointer (some ⟨g, 1, none⟩)) (some 22) rfl rfl (by kernel_rfl) (by kernel_rfl) (by kernel_rfl) (fun _ _ _ h => h) (Or.inl ⟨by kernel_rfl, fun w' hSw => by kernel_rfl⟩) hS ?_
  simp only [Act.put, List.setIfInBounds_toArray, List.set_cons_zero, List.set_cons_succ]
  refine takeR (i := 14) (v := .int .i64 a.pat) (some 23) rfl rfl (by kernel_rfl) (by kernel_rfl) (by kernel_rfl) (fun _ _ _ h => h) (Or.inl ⟨by kernel_rfl, fun w' hSw => by exact ldN_run (.inl rfl) (.tmp 22) rfl (by kernel_rfl) (hSw.cell 1)⟩) hS ?_
  simp only [Act.put, List.setIfInBounds_toArray, List.set_cons_zero, List.set_cons_succ]
  refine takeR (i := 15) (v := .int .i64 HP) (some 24) rfl rfl (by kernel_rfl) (by kernel_rfl) (by kernel_rfl) (fun _ _ _ h => h) (Or.inl ⟨by kernel_rfl, fun w' hSw => by rw [hHP]; exact quo_run (.tmp 23) (.const (.int .i64 2)) rfl (by kernel_rfl) rfl HMM.out.2.2.2 _⟩) hS ?_
  simp only [Act.put, List.setIfInBounds_toArray, List.set_cons_zero, List.set_cons_succ]
  have hwt := hasWaited_any H2.out.1 MM HP HMM.out.2.1 HMM.out.2.2.1
  have ewt : wtB a MM HP = wtB a (max a.la now) (a.pat / 2) := by rw [← HMM.out.1, hHP]
  rw [ewt] at hwt
  obtain ⟨wb, hwb⟩ : ∃ wb, wb = wtB a (max a.la now) (a.pat / 2) := ⟨_, rfl⟩
  rw [← hwb] at hwt
  have HWB : Hid (wb = wtB a (max a.la now) (a.pat / 2)) := hwb
  clear ewt hwb hHP
  refine wpAnyH_ready (rs := [16]) (by kernel_rfl) (by simp) ?_
  refine AllReadyH.cons rfl (fun K1 hK1 => ?_) AllReadyH.nil
  rw [if_pos (by kernel_rfl)]
  refine callR (d := some 25) rfl 25 #[.pointer (some ⟨g, 0, none⟩), .int .i64 MM, .int .i64 HP] (by kernel_rfl) hwt ?_
  clear hwt
  rintro e w1 ⟨rfl, ew⟩
  replace ew := ew.symm
  subst ew
  refine ⟨_, rfl, ?_⟩
  refine hK1.out _ _ hS (fun _ => ?_)
  clear hK1
  simp only [Act.put, List.setIfInBounds_toArray, List.set_cons_zero, List.set_cons_succ]
  cases wb
  case false =>
    refine takeR (i := 17) (v := .bool true) (some 26) rfl rfl (by kernel_rfl) (by kernel_rfl) (by kernel_rfl) (fun _ _ _ h => h) (Or.inl ⟨by kernel_rfl, fun w' hSw => by kernel_rfl⟩) hS ?_
    simp only [Act.put, List.setIfInBounds_toArray, List.set_cons_zero, List.set_cons_succ]
    refine takeR (i := 18) (v := .bool true) (some 27) rfl rfl (by kernel_rfl) (by kernel_rfl) (by kernel_rfl) (fun _ _ _ h => h) (Or.inl ⟨by kernel_rfl, fun w' hSw => by kernel_rfl⟩) hS ?_
    simp only [Act.put, List.setIfInBounds_toArray, List.set_cons_zero, List.set_cons_succ]
    refine wpAnyH_done (by kernel_rfl) ?_ _
    refine hK _ _ ?_
    clear hK hS
    have HZ : Hid (∃ (ns : List Nat) (rs : List (Nat × Nat)), RowAt WD 61 2 (.slice none 0 0) rs.length (rV rs) ∧ (∀ q, (Value.slice none 0 0).ownBlock = some q → w.heap.size ≤ q) ∧ Below w.heap.size w WD ∧ (wtB a (max a.la now) (a.pat / 2) = false ∧ rs = [] ∨ wtB a (max a.la now) (a.pat / 2) = true ∧ ns.Perm (a.ks.map (·.n)) ∧ ns.Pairwise (· ≤ ·) ∧ rs = (wst a.nx ns).2)) := ⟨[], [], RowAt.none0 _ _ _, fun q hq => (by cases hq), H2.out.2, .inl ⟨HWB.out.symm, rfl⟩⟩
    clear H2 HA HWB HMM
    go_wp2
    go_ret
    exact ⟨_, rfl, HZ.out⟩
  case true =>
    refine takeR (i := 17) (v := .bool false) (some 26) rfl rfl (by kernel_rfl) (by kernel_rfl) (by kernel_rfl) (fun _ _ _ h => h) (Or.inl ⟨by kernel_rfl, fun w' hSw => by kernel_rfl⟩) hS ?_
    simp only [Act.put, List.setIfInBounds_toArray, List.set_cons_zero, List.set_cons_succ]
    refine takeR (i := 18) (v := .bool false) (some 27) rfl rfl (by kernel_rfl) (by kernel_rfl) (by kernel_rfl) (fun _ _ _ h => h) (Or.inl ⟨by kernel_rfl, fun w' hSw => by kernel_rfl⟩) hS ?_
    simp only [Act.put, List.setIfInBounds_toArray, List.set_cons_zero, List.set_cons_succ]
    refine wpAnyH_done (by kernel_rfl) ?_ _
    refine hK _ _ ?_
    clear hK hS
    have c2 : WD.cell? ⟨g, 2, none⟩ = some (.int .i64 (a.nx : Int)) := H2.out.1.blk.cell 2
    obtain ⟨X, hX⟩ : ∃ X, X = a.nx := ⟨_, rfl⟩
    rw [← hX] at c2
    go_upto_region 3 with fail
    rename_i K hK
    refine wp_region_lit ?_
    refine wpList_runTo rfl (some 5) rfl (.slice none 0 0) WD (by kernel_rfl) ?_
    simp only [Act.put, List.setIfInBounds_toArray, List.set_cons_zero, List.set_cons_succ]
    refine wpList_nil ?_
    refine hK _ _ ?_
    clear hK
    go_upto_region 4 with fail
    rename_i K hK
    refine wp_region_lit ?_
    refine wpList_runTo rfl (some 28) rfl (.pointer (some ⟨g, 0, none⟩)) WD (by kernel_rfl) ?_
    simp only [Act.put, List.setIfInBounds_toArray, List.set_cons_zero, List.set_cons_succ]
    refine wpList_runTo rfl (some 29) rfl (.pointer (some ⟨g, 0, none⟩)) WD (by kernel_rfl) ?_
    simp only [Act.put, List.setIfInBounds_toArray, List.set_cons_zero, List.set_cons_succ]
    refine wpList_runTo rfl (some 30) rfl (.pointer (some ⟨g, 2, none⟩)) WD (by kernel_rfl) ?_
    simp only [Act.put, List.setIfInBounds_toArray, List.set_cons_zero, List.set_cons_succ]
    refine wpList_runTo rfl (some 31) rfl (.int .i64 (X : Int)) WD (by exact ldN_run (.inr rfl) (.tmp 30) rfl (by kernel_rfl) (c2)) ?_
    simp only [Act.put, List.setIfInBounds_toArray, List.set_cons_zero, List.set_cons_succ]
    refine wpList_runTo rfl (some 6) rfl (.int .i64 (X : Int)) WD (by kernel_rfl) ?_
    simp only [Act.put, List.setIfInBounds_toArray, List.set_cons_zero, List.set_cons_succ]
    refine wpList_nil ?_
    refine hK _ _ ?_
    clear hK
    clear c2
    have hah := ahead_ns H2.out.1
    go_upto_region 5 with fail
    rename_i K hK
    refine wp_region_lit ?_
    refine wpList_runTo rfl (some 32) rfl (.pointer (some ⟨g, 0, none⟩)) WD (by kernel_rfl) ?_
    simp only [Act.put, List.setIfInBounds_toArray, List.set_cons_zero, List.set_cons_succ]
    refine wpList_callW rfl (some 33) rfl 26 #[.pointer (some ⟨g, 0, none⟩)] (by kernel_rfl) hah ?_
    clear hah
    rintro e W3 ⟨va, rfl, hx⟩
    refine ⟨_, rfl, ?_⟩
    simp only [Act.put, List.setIfInBounds_toArray, List.set_cons_zero, List.set_cons_succ]
    obtain ⟨ns, N, ao, ac, hvf, hNl, HW0⟩ : ∃ (ns : List Nat) (N : Nat) (ao : Option Addr) (ac : Nat), va = .slice ao N ac ∧ N = ns.length ∧ Hid (WI w W3 va (.slice none 0 0) ns [] ∧ ns.Perm (a.ks.map (·.n)) ∧ ns.Pairwise (· ≤ ·) ∧ (∀ m ∈ ns, m ≤ 999999999) ∧ ns.length ≤ 2000000000000) := by
      obtain ⟨ns, h1, h2, h3, h4, h5⟩ := hx.out
      obtain ⟨ao, ac, e, _⟩ := h3.form
      refine ⟨ns, _, ao, ac, e, rfl, ⟨h3, RowAt.none0 _ _ _, fun q hq => (by cases hq), below_step H2.out.2 h5⟩, h1, h2, fun m hm => ?_, ?_⟩
      · obtain ⟨k, hk, e⟩ := List.mem_map.1 (h1.mem_iff.1 hm)
        rw [← e]
        exact HA.out.bd.kn k hk
      · rw [h1.length_eq, List.length_map]
        have := HA.out.bd.len; have := HA.out.bd.cn 1; have := HA.out.bd.cn 5
        omega
    clear hx H2
    have HNl : Hid (N = ns.length) := hNl
    have hNb : N ≤ 2000000000000 := by rw [hNl]; exact HW0.out.2.2.2.2
    clear hNl
    refine wpList_runTo rfl (some 34) rfl (.int .i64 (N : Int)) W3 (by exact len_run hvf (.tmp 33) rfl (.inr (.inr (.inl rfl))) (by kernel_rfl) _) ?_
    simp only [Act.put, List.setIfInBounds_toArray, List.set_cons_zero, List.set_cons_succ]
    refine wpList_runTo rfl (some 35) rfl (.int .i64 0) W3 (by kernel_rfl) ?_
    simp only [Act.put, List.setIfInBounds_toArray, List.set_cons_zero, List.set_cons_succ]
    refine wpList_nil ?_
    refine hK _ _ ?_
    clear hK
    have HXb : Hid (X = a.nx ∧ X ≤ 1000000000) := ⟨hX, by rw [hX]; exact HA.out.bd.nx⟩
    clear hX HMM
    go_upto_region 6 with fail
    go_loopw [5, 6, 35] (fun x y z wr => ∃ (i f : Nat) (rv : Value), rv = x ∧ y = .int .i64 (f : Int) ∧ z = .int .i64 (i : Int) ∧ i ≤ N ∧ f ≤ 1000000000 ∧ Hid (WI w wr va rv ns (wst a.nx (ns.take i)).2 ∧ f = (wst a.nx (ns.take i)).1)) (fun _ _ z _ => N - (intOf z).toNat)
    case atStart => exact ⟨0, X, _, rfl, rfl, rfl, Nat.zero_le _, HXb.out.2, HW0.out.1, HXb.out.1⟩
    case round =>
      obtain ⟨i, f, rv, erv, rfl, rfl, hiN, hf1, HW⟩ := hrel
      subst erv
      by_cases hlt : i < N
      · have hlt' : (i : Int) < (N : Int) := by omega
        obtain ⟨m, hm⟩ : ∃ m, ns[i]? = some m := ⟨_, List.getElem?_eq_getElem (by rw [← HNl.out]; exact hlt)⟩
        obtain ⟨q, qo, qc, e1, cq⟩ := HW.out.1.row.at1 (j := i) (u := .int .i64 (m : Int)) (by unfold nV; rw [List.getElem?_map, hm]; rfl)
        have hqf : va = .slice (some ⟨q, qo, none⟩) N qc := by rw [HNl.out]; exact e1
        clear e1
        have hmb : m ≤ 999999999 := HW0.out.2.2.2.1 m (List.mem_of_getElem? hm)
        have HS : Hid (wst a.nx (ns.take (i + 1)) = wS (wst a.nx (ns.take i)) m) := wst_succ a.nx hm
        clear hm
        obtain ⟨r, hr⟩ : ∃ r : Bool, decide (f < m) = r := ⟨_, rfl⟩
        go_upto_region 7 with fail
        rename_i K hK
        refine wp_region_lit ?_
        refine wpList_runTo rfl (some 37) rfl (.pointer (some ⟨q, qo + i, none⟩)) wr (by exact ix3_run (i := i) (n := N) (c := qc) (.tmp 33) (.tmp 35) rfl (by rw [← hqf]; kernel_rfl) (by kernel_rfl) hlt _) ?_
        simp only [Act.put, List.setIfInBounds_toArray, List.set_cons_zero, List.set_cons_succ]
        refine wpList_runTo rfl (some 38) rfl (.int .i64 (m : Int)) wr (by exact ldN_run (.inr rfl) (.tmp 37) rfl (by kernel_rfl) cq) ?_
        simp only [Act.put, List.setIfInBounds_toArray, List.set_cons_zero, List.set_cons_succ]
        refine wpList_runTo rfl (some 8) rfl (.int .i64 (m : Int)) wr (by kernel_rfl) ?_
        simp only [Act.put, List.setIfInBounds_toArray, List.set_cons_zero, List.set_cons_succ]
        refine wpList_nil ?_
        refine hK _ _ ?_
        clear hK
        clear cq hqf
        go_upto_region 8 with fail
        rename_i K hK
        refine wp_region_lit ?_
        refine wpList_runTo rfl (some 39) rfl (.int .i64 (f : Int)) wr (by kernel_rfl) ?_
        simp only [Act.put, List.setIfInBounds_toArray, List.set_cons_zero, List.set_cons_succ]
        refine wpList_runTo rfl (some 40) rfl (.int .i64 (m : Int)) wr (by kernel_rfl) ?_
        simp only [Act.put, List.setIfInBounds_toArray, List.set_cons_zero, List.set_cons_succ]
        refine wpList_runTo rfl (some 41) rfl (.bool r) wr (by exact ltN_run (n := f) (k := m) (.tmp 39) (.tmp 40) rfl (by kernel_rfl) (by kernel_rfl) hr _) ?_
        simp only [Act.put, List.setIfInBounds_toArray, List.set_cons_zero, List.set_cons_succ]
        refine wpList_nil ?_
        refine hK _ _ ?_
        clear hK
        cases r
        case false =>
          have HN : Hid (WI w wr va rv ns (wst a.nx (ns.take (i + 1))).2 ∧ m + 1 = (wst a.nx (ns.take (i + 1))).1) := by
            rw [HS.out]
            unfold wS
            rw [← HW.out.2, if_neg (by simpa using hr)]
            exact ⟨HW.out.1, rfl⟩
          clear hr HS HW
          go_wp2
          exact ⟨⟨i + 1, m + 1, _, rfl, by go_num, by go_num, by omega, by omega, HN.out⟩, by simp [intOf]; omega⟩
        case true =>
          have hfm : f < m := by simpa using hr
          obtain ⟨rv', W5, hap, hw5⟩ := HW.out.1.app (f, m - 1) (by have := wst_len a.nx (ns.take i); rw [List.length_take] at this; omega) 59
          have HN : Hid (WI w W5 va rv' ns (wst a.nx (ns.take (i + 1))).2 ∧ m + 1 = (wst a.nx (ns.take (i + 1))).1) := by
            rw [HS.out]
            unfold wS
            rw [← HW.out.2, if_pos hfm]
            exact ⟨hw5, rfl⟩
          clear hr HS HW hw5
          go_upto_region 9 with fail
          rename_i K hK
          refine wp_region_lit ?_
          refine wpList_runTo rfl (some 42) rfl (rv) wr (by kernel_rfl) ?_
          simp only [Act.put, List.setIfInBounds_toArray, List.set_cons_zero, List.set_cons_succ]
          refine wpList_runTo rfl (some 43) rfl (.int .i64 (f : Int)) wr (by kernel_rfl) ?_
          simp only [Act.put, List.setIfInBounds_toArray, List.set_cons_zero, List.set_cons_succ]
          refine wpList_runTo rfl (some 44) rfl (.int .i64 (m : Int)) wr (by kernel_rfl) ?_
          simp only [Act.put, List.setIfInBounds_toArray, List.set_cons_zero, List.set_cons_succ]
          refine wpList_runTo rfl (some 45) rfl (.int .i64 ((m - 1 : Nat) : Int)) wr (by exact subN_run (p := m) (q := 1) (.tmp 44) (.const (.int .i64 1)) rfl (by kernel_rfl) rfl (by omega) (by omega) _) ?_
          simp only [Act.put, List.setIfInBounds_toArray, List.set_cons_zero, List.set_cons_succ]
          refine wpList_runTo rfl (some 46) rfl (.agg #[.int .i64 (f : Int), .int .i64 ((m - 1 : Nat) : Int)]) wr (by kernel_rfl) ?_
          simp only [Act.put, List.setIfInBounds_toArray, List.set_cons_zero, List.set_cons_succ]
          refine wpList_runTo rfl (some 47) rfl (.slice (some ⟨wr.heap.size, 0, none⟩) 1 1) (wr.alloc (.cells #[.int .i64 (f : Int), .int .i64 ((m - 1 : Nat) : Int)] 61)) (by kernel_rfl) ?_
          simp only [Act.put, List.setIfInBounds_toArray, List.set_cons_zero, List.set_cons_succ]
          refine wpList_runTo rfl (some 48) rfl (rv') W5 (by exact exec_append (v1 := rv) (v2 := .slice (some ⟨wr.heap.size, 0, none⟩) 1 1) (.tmp 42) (.tmp 47) rfl (by kernel_rfl) (by kernel_rfl) hap) ?_
          simp only [Act.put, List.setIfInBounds_toArray, List.set_cons_zero, List.set_cons_succ]
          refine wpList_runTo rfl (some 5) rfl (rv') W5 (by kernel_rfl) ?_
          simp only [Act.put, List.setIfInBounds_toArray, List.set_cons_zero, List.set_cons_succ]
          refine wpList_nil ?_
          refine hK _ _ ?_
          clear hK
          clear hap
          generalize (Value.slice (some ⟨wr.heap.size, 0, none⟩) 1 1) = s47
          generalize (((m - 1 : Nat) : Nat) : Int) = m1
          go_wp2
          exact ⟨⟨i + 1, m + 1, _, rfl, by go_num, by go_num, by omega, by omega, HN.out⟩, by simp [intOf]; omega⟩
      · have hlt' : ¬ (i : Int) < (N : Int) := by omega
        have HZ : Hid (∃ (ns : List Nat) (rs : List (Nat × Nat)), RowAt wr 61 2 rv rs.length (rV rs) ∧ (∀ q, rv.ownBlock = some q → w.heap.size ≤ q) ∧ Below w.heap.size w wr ∧ (wtB a (max a.la now) (a.pat / 2) = false ∧ rs = [] ∨ wtB a (max a.la now) (a.pat / 2) = true ∧ ns.Perm (a.ks.map (·.n)) ∧ ns.Pairwise (· ≤ ·) ∧ rs = (wst a.nx ns).2)) := by
          have e : ns.take i = ns := List.take_of_length_le (by rw [← HNl.out]; omega)
          have h1 := HW.out.1
          rw [e] at h1
          exact ⟨ns, _, h1.rows, h1.low, h1.bel, .inr ⟨HWB.out.symm, HW0.out.2.1, HW0.out.2.2.1, rfl⟩⟩
        clear HW HW0 HWB HA
        go_wp2
        go_ret
        exact ⟨_, rfl, HZ.out⟩
end Go.Proofs.Ytdncemecnbglaaa
