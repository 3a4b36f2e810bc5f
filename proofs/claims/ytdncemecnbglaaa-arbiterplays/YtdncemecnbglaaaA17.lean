/-
  The reference's arbiter in memory; New, Next, Lines, gives.
-/
import Derived.Test.YtdncemecnbglaaaA16
namespace Go.Proofs.Ytdncemecnbglaaa
set_option linter.unusedVariables false
set_option linter.unusedSimpArgs false
open Go.RowKit Go.Great Go.Maps

def Ab.rcs (a : Ab) (kv : Value) : Array Value := #[.int .i64 (a.win : Int), .int .i64 a.pat, .int .i64 (a.nx : Int), kv, .int .i64 a.si, .int .i64 a.la, .int .i64 (a.cn 0 : Int), .int .i64 (a.cn 1 : Int), .int .i64 (a.cn 2 : Int), .int .i64 (a.cn 3 : Int), .int .i64 (a.cn 4 : Int), .int .i64 (a.cn 5 : Int), .int .i64 (a.cn 6 : Int), .int .i64 (a.cn 7 : Int)]
def kC (k : Kp) : List Value := [.int .i64 (k.n : Int), k.v]
def kV (ks : List Kp) : List Value := flatL kC ks
theorem kC_len (k : Kp) : (kC k).length = 2 := rfl
/-- The reference's arbiter: what is kept is a list by rising numbers. -/
structure RbAt (w : World) (g : Nat) (kv : Value) (a : Ab) : Prop where
  blk : Blk w g 85 (a.rcs kv)
  row : RowAt w 101 2 kv a.ks.length (kV a.ks)
  pk : ∀ k ∈ a.ks, PkAt w k
  bd : Bd a
  so : a.ks.Pairwise (fun p q => p.n < q.n)
theorem Blk.neT {w : World} {x : Nat} {T U : TypeId} {c d : Array Value} (h : Blk w x T c) (k : Blk w x U d) (hne : T ≠ U) : False := by
  unfold Blk at h k
  rw [h] at k
  injection k with k
  injection k with _ k _
  exact hne k
/-- What the reference's arbiter writes into. -/
def rOwn (g : Nat) (kv : Value) (x : Nat) : Prop := x = g ∨ kv.ownBlock = some x
theorem RbAt.pkn {w : World} {g : Nat} {kv : Value} {a : Ab} (h : RbAt w g kv a) {k : Kp} (hk : PkAt w k) : ∀ q, k.v.ownBlock = some q → ¬ rOwn g kv q := fun q hq e => by
  obtain ⟨_, cur, hc⟩ := hk.1.lt hq
  rcases e with rfl | e
  · exact Blk.neT h.blk hc (by decide)
  · obtain ⟨_, cur2, hc2⟩ := h.row.lt e
    exact Blk.neT hc2 hc (by decide)
theorem RbAt.fr {w w' : World} {g : Nat} {kv : Value} {a : Ab} {ex : Nat → Prop} (h : RbAt w g kv a) (hf : Fr w w' ex) (hg : ∀ q, rOwn g kv q → ¬ ex q) (hk : ∀ k ∈ a.ks, ∀ q, k.v.ownBlock = some q → ¬ ex q) : RbAt w' g kv a := ⟨h.blk.fr hf (hg g (.inl rfl)), h.row.fr hf fun q hq => hg q (.inr hq), fun k hk' => (h.pk k hk').fr hf (hk k hk'), h.bd, h.so⟩
theorem RbAt.below {w w' : World} {g : Nat} {kv : Value} {a : Ab} (h : RbAt w g kv a) (hb : Below w.heap.size w w') : RbAt w' g kv a := h.fr (Fr.of_below hb (fun _ => False)) (fun _ _ => id) fun _ _ _ _ => id
theorem RbAt.kg {w : World} {g : Nat} {kv : Value} {a : Ab} (h : RbAt w g kv a) : ¬ kv.ownBlock = some g := fun e => h.row.ne_type h.blk (by decide) e
theorem RbAt.put {w : World} {g : Nat} {kv kv' : Value} {a : Ab} (h : RbAt w g kv a) (a' : Ab) (k : Nat) (v : Value) (hcs : (a.rcs kv).setIfInBounds k v = a'.rcs kv') (hrow : RowAt w 101 2 kv' a'.ks.length (kV a'.ks)) (hpk : ∀ q ∈ a'.ks, PkAt w q) (hbd : Bd a') (hso : a'.ks.Pairwise (fun p q => p.n < q.n)) : RbAt (w.setCell ⟨g, k, none⟩ v) g kv' a' := by
  have hf : Fr w (w.setCell ⟨g, k, none⟩ v) (fun x => x = g) := Fr.setCell w ⟨g, k, none⟩ v _ rfl
  refine ⟨by rw [← hcs]; exact h.blk.set k v, hrow.fr hf fun q hq e => ?_, fun q hq => (hpk q hq).fr hf fun x hx e => ?_, hbd, hso⟩
  · subst e
    exact hrow.ne_type h.blk (by decide) hq
  · subst e
    obtain ⟨_, cur, hc⟩ := (hpk q hq).1.lt hx
    exact Blk.neT h.blk hc (by decide)
theorem ldK_run {op : Oper} {a : Act} {w : World} {g o : Nat} {v : Value} (x : Operand) (ho : op.op = .load 83 x) (hx : a.eval x = .pointer (some ⟨g, o, none⟩)) (h : w.cell? ⟨g, o, none⟩ = some v) : (execOp a.eval op).run Try.prog w = .ok (.value v) w := by
  unfold execOp
  simp only [ho, hx]
  go_simp
theorem lenK_run {op : Oper} {a : Act} {v : Value} {ao : Option Addr} {n c : Nat} (hv : v = .slice ao n c) (x : Operand) (ho : op.op = .call { callee := .builtin .len, args := #[x], argTypes := #[83] }) (hx : a.eval x = v) (w : World) : (execOp a.eval op).run Try.prog w = .ok (.value (.int .i64 (n : Int))) w := by
  subst hv
  unfold execOp
  simp only [ho, resolve, invoke, builtin, Sem.run_bind, Sem.run_pure, Result.andThen_ok, List.map_toArray, List.map_cons, List.map_nil, hx]
  go_simp
theorem ixK_run {op : Oper} {a : Act} {g o n c i : Nat} (x y : Operand) (ho : op.op = .indexAddr 83 x y) (hx : a.eval x = .slice (some ⟨g, o, none⟩) n c) (hy : a.eval y = .int .i64 (i : Int)) (hi : i < n) (w : World) : (execOp a.eval op).run Try.prog w = .ok (.value (.pointer (some ⟨g, o + i * 2, none⟩))) w := by
  have h1 : (i : Int) < (n : Int) := by omega
  have h2 : ¬ (n : Int) ≤ (i : Int) := by omega
  unfold execOp
  simp only [ho, hx, hy]
  go_simp
theorem stK_run {op : Oper} {a : Act} {w : World} {g o : Nat} {v v0 : Value} (hvf : ∃ a n c, v = .slice a n c) (hvf0 : ∃ a n c, v0 = .slice a n c) (x y : Operand) (ho : op.op = .store 83 x y) (hx : a.eval x = .pointer (some ⟨g, o, none⟩)) (hy : a.eval y = v) (h : w.cell? ⟨g, o, none⟩ = some v0) (hf : w.frozen? ⟨g, o, none⟩ = false) : (execOp a.eval op).run Try.prog w = .ok .skip (w.setCell ⟨g, o, none⟩ v) := by
  obtain ⟨_, _, _, rfl⟩ := hvf
  obtain ⟨_, _, _, rfl⟩ := hvf0
  unfold execOp
  simp only [ho, hx, hy]
  go_simp
def cutS (v : Value) (lo hi mx : Nat) : Value := match v with
  | .slice a _ _ => .slice (if mx = lo then a else a.map (·.add (lo * 2))) (hi - lo) (mx - lo)
  | x => x
theorem sizeK : (sizeOf (Try.prog.elem 83)).run Try.prog = fun w => .ok 2 w := by funext w; kernel_rfl
theorem undK : Try.prog.underlying 83 = some (.slice (Try.prog.elem 83)) := by kernel_rfl
theorem sliceKL_run {op : Oper} {a : Act} {ao : Option Addr} {n cap lo : Nat} (x y : Operand) (ho : op.op = .slice 83 x (some y) none none) (hx : a.eval x = .slice ao n cap) (hy : a.eval y = .int .i64 (lo : Int)) (h : lo ≤ n) (w : World) : (execOp a.eval op).run Try.prog w = .ok (.value (cutS (.slice ao n cap) lo n cap)) w := by
  have HS : (Instr.sliceAt 83 (.slice ao n cap) (some (.int .i64 (lo : Int))) none none).run Try.prog w = .ok (cutS (.slice ao n cap) lo n cap) w := by
    rw [run_sliceAt_slice _ _ _ _ _ _ undK, run_slice_l _ _ _ _ _ undK .i64 (lo : Int) (by omega) (by omega), sizeK]
    show Result.ok _ w = _
    unfold sliced cutS
    simp
  unfold execOp
  simp only [ho, hx, hy, Option.map_some, Option.map_none]
  simp only [HS, Sem.run_bind, Result.andThen_ok]
  rfl
theorem RowAt.cutL2 {w : World} {e : TypeId} {v : Value} {n : Nat} {xs : List Value} (h : RowAt w e 2 v n xs) {ao : Option Addr} {cap lo : Nat} (hv : v = .slice ao n cap) (hlo : lo ≤ n) : RowAt w e 2 (cutS v lo n cap) (n - lo) (xs.drop (lo * 2)) ∧ ∀ q, (cutS v lo n cap).ownBlock = some q → v.ownBlock = some q := by
  subst hv
  cases ao with
  | none =>
    rcases h.2 with ⟨h1, h2⟩ | ⟨g, off, c, cur, h1, _⟩
    · injection h1 with _ _ hc
      subst h2 hc
      obtain rfl : lo = 0 := by omega
      refine ⟨?_, fun q hq => by cases hq⟩
      show RowAt w e 2 (.slice (if 0 = 0 then none else _) 0 0) 0 (xs.drop 0)
      rw [if_pos rfl]
      exact h
    · cases h1
  | some ad =>
    obtain ⟨g, off, c, cur, h1, h2, h3, h4, h5, h6⟩ : ∃ g off cap' cur, Value.slice (some ad) n cap = .slice (some ⟨g, off, none⟩) n cap' ∧ w.heap[g]? = some (.cells cur e (0, 0)) ∧ n ≤ cap' ∧ cap' ≤ maxLen ∧ off + cap' * 2 ≤ cur.size ∧ (cur.toList.drop off).take (n * 2) = xs := by
      rcases h.2 with ⟨h1, _⟩ | h1
      · cases h1
      · exact h1
    injection h1 with h1 _ hc
    injection h1 with h1
    subst h1 hc
    by_cases hm : cap = lo
    · have hn : n - lo = 0 := by omega
      refine ⟨?_, fun q hq => ?_⟩
      · show RowAt w e 2 (.slice (if cap = lo then _ else _) (n - lo) (cap - lo)) (n - lo) _
        rw [if_pos hm, hn, show cap - lo = 0 by omega]
        have hx : xs.drop (lo * 2) = [] := List.drop_of_length_le (by have := h.1; omega)
        rw [hx]
        exact ⟨rfl, .inr ⟨g, off, 0, cur, rfl, h2, Nat.le_refl _, Nat.zero_le _, by omega, rfl⟩⟩
      · have : (Value.slice (if cap = lo then some ⟨g, off, none⟩ else (some (⟨g, off, none⟩ : Addr)).map (·.add (lo * 2))) (n - lo) (cap - lo)).ownBlock = some q := hq
        rw [if_pos hm] at this
        exact this
    · have e1 : cutS (.slice (some ⟨g, off, none⟩) n cap) lo n cap = .slice (some ⟨g, off + lo * 2, none⟩) (n - lo) (cap - lo) := by
        show Value.slice (if cap = lo then _ else _) (n - lo) (cap - lo) = _
        rw [if_neg hm]
        show Value.slice (some ((⟨g, off, none⟩ : Addr).add (lo * 2))) _ _ = _
        rw [Addr.add_mid]
      rw [e1]
      exact ⟨h.drop rfl hlo, fun q hq => hq⟩
theorem kV_drop (ks : List Kp) (i : Nat) : (kV ks).drop (i * 2) = kV (ks.drop i) := flatL_drop kC_len i ks
theorem kV_get {ks : List Kp} {i : Nat} {k : Kp} (h : ks[i]? = some k) : (kV ks)[i * 2]? = some (.int .i64 (k.n : Int)) ∧ (kV ks)[i * 2 + 1]? = some k.v := by
  have h0 := flatL_get kC_len h (k := 0) (by decide)
  have h1 := flatL_get kC_len h (k := 1) (by decide)
  exact ⟨h0, h1⟩
theorem RowAt.at2 {w : World} {kv : Value} {ks : List Kp} (h : RowAt w 101 2 kv ks.length (kV ks)) {i : Nat} {k : Kp} (hk : ks[i]? = some k) : ∃ q qo qc, kv = .slice (some ⟨q, qo, none⟩) ks.length qc ∧ w.cell? ⟨q, qo + i * 2, none⟩ = some (.int .i64 (k.n : Int)) ∧ w.cell? ⟨q, qo + i * 2 + 1, none⟩ = some k.v := by
  have hi := (List.getElem?_eq_some_iff.1 hk).1
  obtain ⟨q, qo, qc, cur, e, _⟩ := h.more (by omega)
  obtain ⟨h1, h2⟩ := kV_get hk
  exact ⟨q, qo, qc, e, h.cell e h1, by have := h.cell e h2; rw [← Nat.add_assoc] at this; exact this⟩
set_option maxRecDepth 100000 in
set_option maxHeartbeats 1000000 in
theorem rNew_yes (w : World) (win : Nat) (pat : Int) (h1 : 1 ≤ win) (h2 : win ≤ 1000) (h3 : 0 ≤ pat) (h4 : pat ≤ 253402300799999) : Calls Try.prog 14 #[.int .i64 (win : Int), .int .i64 pat] w fun e w' => ∃ g, e = .returned (.tuple #[.pointer (some ⟨g, 0, none⟩), .int .i64 0]) ∧ Hid (RbAt w' g (.slice none 0 0) (new0 win pat) ∧ w.heap.size ≤ g ∧ Below w.heap.size w w') := by
  have a1 : ¬ (win : Int) < 1 := by omega
  have a2 : ¬ 1000 < (win : Int) := by omega
  have a3 : ¬ pat < 0 := by omega
  have a4 : ¬ 253402300799999 < pat := by omega
  have HX : Hid (RbAt (w.alloc (.cells ((new0 win pat).rcs (.slice none 0 0)) 85)) w.heap.size (.slice none 0 0) (new0 win pat) ∧ Below w.heap.size w (w.alloc (.cells ((new0 win pat).rcs (.slice none 0 0)) 85))) := ⟨⟨Blk.new _ _ _, RowAt.none0 _ _ _, fun k hk => (List.not_mem_nil hk).elim, ⟨h1, h2, h3, h4, by show (1 : Nat) ≤ _; omega, by show (0 : Int) ≤ 0; omega, by show (0 : Int) ≤ _; omega, by show (0 : Int) ≤ 0; omega, by show (0 : Int) ≤ _; omega, fun k hk => (List.not_mem_nil hk).elim, fun i => Nat.zero_le _, Nat.zero_le _⟩, List.Pairwise.nil⟩, (Below.refl _ w).alloc (Nat.le_refl _) _⟩
  unfold new0 Ab.rcs at HX
  dsimp only at HX
  go_enter Try.func14, Try.ntmps14
  go_wp2
  go_ret2
  exact ⟨w.heap.size, rfl, HX.out.1, Nat.le_refl _, HX.out.2⟩
set_option maxRecDepth 100000 in
set_option maxHeartbeats 1000000 in
theorem rNew_no (w : World) (win pat : Int) (h : ¬ (1 ≤ win ∧ win ≤ 1000 ∧ 0 ≤ pat ∧ pat ≤ 253402300799999)) : Calls Try.prog 14 #[.int .i64 win, .int .i64 pat] w fun e w' => e = .returned (.tuple #[.pointer none, .int .i64 1]) ∧ w' = w := by
  by_cases a1 : win < 1
  · go_enter Try.func14, Try.ntmps14
    go_wp2
    go_ret2
    exact ⟨rfl, rfl⟩
  · by_cases a2 : 1000 < win
    · go_enter Try.func14, Try.ntmps14
      go_wp2
      go_ret2
      exact ⟨rfl, rfl⟩
    · by_cases a3 : pat < 0
      · go_enter Try.func14, Try.ntmps14
        go_wp2
        go_ret2
        exact ⟨rfl, rfl⟩
      · have a4 : 253402300799999 < pat := by omega
        go_enter Try.func14, Try.ntmps14
        go_wp2
        go_ret2
        exact ⟨rfl, rfl⟩
set_option maxRecDepth 100000 in
theorem rNext_any {w : World} {g : Nat} {kv : Value} {a : Ab} (h : RbAt w g kv a) : Calls Try.prog 35 #[.pointer (some ⟨g, 0, none⟩)] w fun e w' => e = .returned (.int .i64 (a.nx : Int)) ∧ w' = w := by
  have c2 : w.cell? ⟨g, 2, none⟩ = some (.int .i64 (a.nx : Int)) := h.blk.cell 2
  clear h
  go_enter Try.func35, Try.ntmps35
  go_wp2
  go_ret
  exact ⟨rfl, rfl⟩
set_option maxRecDepth 100000 in
set_option maxHeartbeats 1000000 in
theorem rLines_any {w : World} {g : Nat} {kv : Value} {a : Ab} (h : RbAt w g kv a) : Calls Try.prog 34 #[.pointer (some ⟨g, 0, none⟩)] w fun e w' => e = .returned (.agg a.ls) ∧ Hid (Below w.heap.size w w') := by
  have hal : Below w.heap.size w (w.alloc (.cells zer8 63)) := (Below.refl _ w).alloc (Nat.le_refl _) _
  have hr : (w.alloc (.cells zer8 63)).rangeAt g 6 a.ls.toList := sub_range (h.blk.below hal h.blk.lt) 6 _ (fun j v hj => by
    match j, hj with
    | 0, hj => exact hj
    | 1, hj => exact hj
    | 2, hj => exact hj
    | 3, hj => exact hj
    | 4, hj => exact hj
    | 5, hj => exact hj
    | 6, hj => exact hj
    | 7, hj => exact hj
    | j + 8, hj => simp [Ab.ls] at hj)
  have HB : Hid (Below w.heap.size w (w.alloc (.cells zer8 63))) := hal
  clear h hal
  obtain ⟨LS, hLS⟩ : ∃ LS, LS = a.ls := ⟨_, rfl⟩
  have hsz : LS.size = 8 := by rw [hLS]; rfl
  have hone : LS.all (·.oneCell') = true := by rw [hLS, ← Array.all_toList]; rfl
  rw [← hLS] at hr ⊢
  clear hLS
  go_enter Try.func34, Try.ntmps34
  go_upto_region 0 with fail
  rename_i K hK
  refine wp_region_lit ?_
  refine wpList_runTo rfl (some 2) rfl (.pointer (some ⟨w.heap.size, 0, none⟩)) (w.alloc (.cells zer8 63)) (by kernel_rfl) ?_
  simp only [Act.put, List.setIfInBounds_toArray, List.set_cons_zero, List.set_cons_succ]
  refine wpList_nil ?_
  refine hK _ _ ?_
  clear hK
  go_upto_region 1 with fail
  rename_i K hK
  refine wp_region_lit ?_
  refine wpList_runTo rfl (some 3) rfl (.pointer (some ⟨g, 0, none⟩)) (w.alloc (.cells zer8 63)) (by kernel_rfl) ?_
  simp only [Act.put, List.setIfInBounds_toArray, List.set_cons_zero, List.set_cons_succ]
  refine wpList_runTo rfl (some 4) rfl (.pointer (some ⟨g, 0, none⟩)) (w.alloc (.cells zer8 63)) (by kernel_rfl) ?_
  simp only [Act.put, List.setIfInBounds_toArray, List.set_cons_zero, List.set_cons_succ]
  refine wpList_runTo rfl (some 5) rfl (.pointer (some ⟨g, 6, none⟩)) (w.alloc (.cells zer8 63)) (by kernel_rfl) ?_
  simp only [Act.put, List.setIfInBounds_toArray, List.set_cons_zero, List.set_cons_succ]
  refine wpList_runTo rfl (some 6) rfl (.agg LS) (w.alloc (.cells zer8 63)) (by exact ldA_run hr Try.underlying63 rfl (by rw [hsz]; exact info8) (.tmp 5) rfl (by kernel_rfl)) ?_
  simp only [Act.put, List.setIfInBounds_toArray, List.set_cons_zero, List.set_cons_succ]
  refine wpList_store_row rfl 63 (.tmp 2) (.tmp 6) rfl w.heap.size LS (by kernel_rfl) (by kernel_rfl) 63 _ (heap_alloc_new w _) (by rw [hsz]; exact info8) (by rw [hsz]; rfl) hone ?_
  simp only [Act.put, List.setIfInBounds_toArray, List.set_cons_zero, List.set_cons_succ]
  refine wpList_nil ?_
  refine hK _ _ ?_
  clear hK
  apply wp_ret
  show bodyPost Try.prog Try.f34 _ Exit.ret _ _
  refine bodyPost_ret (results_cell_row (fn := Try.f34) (p := 2) (ty := 63) rfl _ _ w.heap.size 63 LS (0, 0) _ (by kernel_rfl) (setRow_heap _ _ _ _ _ _ (heap_alloc_new w _)) Try.underlying63 rfl (by rw [hsz]; exact info8)) (by kernel_rfl) ⟨rfl, below_setRow HB.out (Nat.le_refl _) _⟩
end Go.Proofs.Ytdncemecnbglaaa
