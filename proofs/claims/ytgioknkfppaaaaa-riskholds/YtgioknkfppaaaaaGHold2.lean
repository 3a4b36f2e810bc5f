/-
  RiskHolds: one order less, or a smaller one, in the list; where the law stands between a trade and that.
-/
import Derived.Test.YtgioknkfppaaaaaGHold1
namespace Go.Proofs.Ytgioknkfppaaaaa
set_option linter.unusedVariables false
set_option linter.unusedSimpArgs false
open Go.RowKit Go.Great Go.Maps

theorem odC_one (x : Od) (u : Value) (hu : u ∈ odC x) : u.oneCell' = true := List.all_eq_true.1 (show (odC x).all (fun u => u.oneCell') = true from rfl) u hu
theorem flat_one : ∀ (l : List Od) (u : Value), u ∈ flatL odC l → u.oneCell' = true
  | [], u, h => (List.not_mem_nil h).elim
  | x :: l, u, h => by
    rcases List.mem_append.1 (show u ∈ odC x ++ flatL odC l from h) with h | h
    · exact odC_one x u h
    · exact flat_one l u h
theorem flat_set (l1 l2 : List Od) (x : Od) (v : Int) : (flatL odC (l1 ++ x :: l2)).set (l1.length * 15 + 9) (.int .i64 v) = flatL odC (l1 ++ { x with q := v } :: l2) := by
  rw [flatL_app, flatL_app, List.set_append_right _ _ (by rw [flatL_len odC_len]; omega), flatL_len odC_len]
  congr 1
  show (odC x ++ flatL odC l2).set _ _ = odC { x with q := v } ++ flatL odC l2
  rw [show l1.length * 15 + 9 - l1.length * 15 = 9 by omega, List.set_append_left _ _ (by rw [odC_len]; decide)]
  rfl
theorem flat_get (l1 l2 : List Od) (x : Od) {k : Nat} (hk : k < 15) : (flatL odC (l1 ++ x :: l2))[l1.length * 15 + k]? = (odC x)[k]? :=
  flatL_get odC_len (l := l1 ++ x :: l2) (i := l1.length) (by simp) hk
theorem RowAt.takeN {w : World} {e : TypeId} {size g off n cap k : Nat} {xs : List Value} (h : RowAt w e size (.slice (some ⟨g, off, none⟩) n cap) n xs) (hk : k ≤ n) : RowAt w e size (.slice (some ⟨g, off, none⟩) k cap) k (xs.take (k * size)) := by
  rcases h.2 with ⟨h0, _⟩ | ⟨g', off', cap', cur, e2, e3, e4, e5, e6, e7⟩
  · cases h0
  · injection e2 with e2 _ e8
    injection e2 with e2
    injection e2 with e2 e9 _
    subst e2 e8 e9
    have hm : k * size ≤ n * size := Nat.mul_le_mul_right _ hk
    refine ⟨by rw [List.length_take, h.1]; omega, .inr ⟨g, off, cap, cur, rfl, e3, by omega, e5, e6, ?_⟩⟩
    rw [← e7, List.take_take, Nat.min_eq_left hm]
theorem own_eq {lg lo n cap b : Nat} (h : (Value.slice (some ⟨lg, lo, none⟩) n cap).ownBlock = some b) : b = lg := by
  have e : lg = b := by simpa [Value.ownBlock] using h
  exact e.symm
/-- append(l[:k], l[k+1:]...): the order at k is gone. -/
theorem run_append_del {w : World} {lg lo cap : Nat} {l1 l2 : List Od} {x : Od} (ty : TypeId) {N : Nat} (hN : N = (l1 ++ x :: l2).length) (h : RowAt w 35 15 (.slice (some ⟨lg, lo, none⟩) N cap) N (flatL odC (l1 ++ x :: l2))) (c : Nat) (hlen : N ≤ 1000) :
    ∃ v' w', (Builtin.append_ #[39, 39] ty #[.slice (some ⟨lg, lo, none⟩) l1.length cap, .slice (if cap = l1.length + 1 then some ⟨lg, lo, none⟩ else some ⟨lg, lo + (l1.length + 1) * 15, none⟩) l2.length c]).run Try.prog w = .ok v' w' ∧ RowAt w' 35 15 v' (l1 ++ l2).length (flatL odC (l1 ++ l2)) ∧ Fr w w' (fun b => b = lg) ∧ (v'.ownBlock = some lg ∨ v'.ownBlock = some w.heap.size) := by
  obtain ⟨i0, hi, hz0, hz1, hz2⟩ := info_parts info35
  have hl1 : l1.length ≤ N := by rw [hN]; simp
  have hN2 : N = l1.length + 1 + l2.length := by rw [hN]; simp; omega
  have hrow : RowAt w 35 15 (.slice (some ⟨lg, lo, none⟩) l1.length cap) l1.length (flatL odC l1) := by
    have := h.takeN hl1
    rwa [flatL_take odC_len, List.take_left' rfl] at this
  obtain ⟨_, _, capv, hcv, hcap⟩ : ∃ ao c' , ∃ capv, (Value.slice (some ⟨lg, lo, none⟩) N cap) = .slice ao N capv ∧ N ≤ capv := by
    obtain ⟨ao, c', h1, h2⟩ := h.form
    exact ⟨ao, c', c', h1, h2⟩
  injection hcv with _ _ hcv
  subst hcv
  have hm : 1000 < maxLen := by decide
  cases l2 with
  | nil =>
    cases l1 with
    | nil =>
      have hnone : ∀ (j : Nat) (u : Value), ([] : List Value)[j]? = some u → w.cell? ((⟨lg, lo, none⟩ : Addr).add j) = some u := fun j u hj => by simp at hj
      have hnone2 : ∀ (j : Nat) (u : Value), ([] : List Value)[j]? = some u → w.cell? ((⟨lg, lo + (0 + 1) * 15, none⟩ : Addr).add j) = some u := fun j u hj => by simp at hj
      have ha := fun (ad : Addr) (hn : ∀ (j : Nat) (u : Value), ([] : List Value)[j]? = some u → w.cell? (ad.add j) = some u) => run_append_room_cells (P := Try.prog) w 39 ty 35 i0 Try.underlying39 hi lg lo 0 cap ad 0 c [] (by simp) hn (fun u hu => (List.not_mem_nil hu).elim) (Nat.zero_le _) (fun j hj => by simp at hj) (fun j hj => by simp at hj)
      by_cases hc : cap = ([] : List Od).length + 1
      · rw [if_pos hc]
        exact ⟨_, _, ha _ hnone, hrow, Fr.refl _ _, .inl rfl⟩
      · rw [if_neg hc]
        exact ⟨_, _, ha _ hnone2, hrow, Fr.refl _ _, .inl rfl⟩
    | cons y t =>
      have ha := fun (ad : Addr) => run_append_row (P := Try.prog) w 39 ty 35 i0 _ 15 144 Try.underlying39 hi hz0 hz1 hz2 (by rfl) _ _ _ hrow ad 0 c [] (by simp) (fun j u hj => by simp at hj) (fun u hu => (List.not_mem_nil hu).elim) (.inr (by simp)) (by simp at hl1 ⊢; omega) (by simp at hl1 ⊢; omega)
      have fin : ∀ ad : Addr, ∃ v' w', (Builtin.append_ #[39, 39] ty #[.slice (some ⟨lg, lo, none⟩) (y :: t).length cap, .slice (some ad) ([] : List Od).length c]).run Try.prog w = .ok v' w' ∧ RowAt w' 35 15 v' (y :: t ++ []).length (flatL odC (y :: t ++ [])) ∧ Fr w w' (fun b => b = lg) ∧ (v'.ownBlock = some lg ∨ v'.ownBlock = some w.heap.size) := fun ad => by
        obtain ⟨v', w', h1, h2, h3, h4⟩ := ha ad
        refine ⟨v', w', h1, ?_, h3.mono (fun b _ e => (own_eq e)), ?_⟩
        · rw [List.append_nil] at h2 ⊢
          exact h2
        · rcases h4 with h4 | ⟨h4, _⟩
          · exact .inl h4
          · exact .inr h4
      by_cases hc : cap = (y :: t).length + 1
      · rw [if_pos hc]; exact fin _
      · rw [if_neg hc]; exact fin _
  | cons y t =>
    have hc : ¬ cap = l1.length + 1 := by
      simp at hN2; omega
    rw [if_neg hc]
    have hd := h.drop rfl (i := l1.length + 1) (by omega)
    have hfl : (flatL odC (l1 ++ x :: y :: t)).drop ((l1.length + 1) * 15) = flatL odC (y :: t) := by
      rw [flatL_drop odC_len]
      refine congrArg (flatL odC) ?_
      rw [List.drop_append, List.drop_eq_nil_of_le (by omega), List.nil_append, show l1.length + 1 - l1.length = 1 by omega]
      rfl
    rw [hfl] at hd
    obtain ⟨v', w', h1, h2, h3, h4⟩ := run_append_row (P := Try.prog) w 39 ty 35 i0 _ 15 144 Try.underlying39 hi hz0 hz1 hz2 (by rfl) _ _ _ hrow ⟨lg, lo + (l1.length + 1) * 15, none⟩ (y :: t).length c (flatL odC (y :: t)) (flatL_len odC_len _) (fun j u hj => by rw [Addr.add_mid]; exact hd.cell rfl hj) (flat_one _) (.inl (by simp)) (by omega) (by omega)
    refine ⟨v', w', h1, ?_, h3.mono (fun b _ e => (own_eq e)), ?_⟩
    · rw [← flatL_app] at h2
      rw [List.length_append]
      exact h2
    · rcases h4 with h4 | ⟨h4, _⟩
      · exact .inl h4
      · exact .inr h4
theorem sizeOrd (w : World) : (Go.sizeOf (Try.prog.elem 39)).run Try.prog w = .ok 15 w := by kernel_rfl
theorem undOrd : Try.prog.underlying 39 = some (.slice (Try.prog.elem 39)) := by kernel_rfl
theorem run_cut_to {op : Oper} {a : Act} {lg lo n cap k : Nat} (x y : Operand) (ho : op.op = .slice 39 x none (some y) none) (hx : a.eval x = .slice (some ⟨lg, lo, none⟩) n cap) (hy : a.eval y = .int .i64 (k : Int)) (hk : k ≤ cap) (w : World) : (execOp a.eval op).run Try.prog w = .ok (.value (.slice (some ⟨lg, lo, none⟩) k cap)) w := by
  have h1 : (Instr.sliceAt 39 (.slice (some ⟨lg, lo, none⟩) n cap) none (some (.int .i64 (k : Int))) none).run Try.prog w = .ok (.slice (some ⟨lg, lo, none⟩) k cap) w := by
    rw [run_sliceAt_slice _ _ _ _ _ _ undOrd, run_slice_h _ _ _ _ _ undOrd .i64 (k : Int) (by omega) (by omega), sizeOrd]
    simp [Result.andThen, sliced, Addr.add]
  unfold execOp
  simp only [ho, hx, hy, Option.map, Sem.run_bind, h1, Result.andThen_ok, Sem.run_pure]
theorem run_cut_from {op : Oper} {a : Act} {lg lo n cap k : Nat} (x y : Operand) (ho : op.op = .slice 39 x (some y) none none) (hx : a.eval x = .slice (some ⟨lg, lo, none⟩) n cap) (hy : a.eval y = .int .i64 ((k : Int) + 1)) (hk : k + 1 ≤ n) (w : World) : (execOp a.eval op).run Try.prog w = .ok (.value (.slice (if cap = k + 1 then some ⟨lg, lo, none⟩ else some ⟨lg, lo + (k + 1) * 15, none⟩) (n - (k + 1)) (cap - (k + 1)))) w := by
  have h1 : (Instr.sliceAt 39 (.slice (some ⟨lg, lo, none⟩) n cap) (some (.int .i64 ((k : Int) + 1))) none none).run Try.prog w = .ok (.slice (if cap = k + 1 then some ⟨lg, lo, none⟩ else some ⟨lg, lo + (k + 1) * 15, none⟩) (n - (k + 1)) (cap - (k + 1))) w := by
    rw [run_sliceAt_slice _ _ _ _ _ _ undOrd, run_slice_l _ _ _ _ _ undOrd .i64 ((k : Int) + 1) (by omega) (by omega), sizeOrd]
    have e : ((k : Int) + 1).toNat = k + 1 := by omega
    simp only [Result.andThen, sliced, e]
    rfl
  unfold execOp
  simp only [ho, hx, hy, Option.map, Sem.run_bind, h1, Result.andThen_ok, Sem.run_pure]
theorem ixR_run {op : Oper} {a : Act} {g o n c i : Nat} (x y : Operand) (ho : op.op = .indexAddr 39 x y) (hx : a.eval x = .slice (some ⟨g, o, none⟩) n c) (hy : a.eval y = .int .i64 (i : Int)) (hi : i < n) (w : World) : (execOp a.eval op).run Try.prog w = .ok (.value (.pointer (some ⟨g, o + i * 15, none⟩))) w := by
  have h1 : (i : Int) < (n : Int) := by omega
  have h2 : ¬ (n : Int) ≤ (i : Int) := by omega
  unfold execOp
  simp only [ho, hx, hy]
  go_simp
theorem ldR_run {op : Oper} {a : Act} {w : World} {g o : Nat} {p : Ord} (h : w.rangeAt g o p.cs.toList) (x : Operand) (ho : op.op = .load 35 x) (hx : a.eval x = .pointer (some ⟨g, o, none⟩)) : (execOp a.eval op).run Try.prog w = .ok (.value (.agg p.cs)) w := by
  have hl := run_loadVar_mid (P := Try.prog) w g o 35 p.cs.toList _ h Try.underlying35 rfl (by rw [Array.length_toList, show p.cs.size = 15 from rfl]; kernel_rfl)
  unfold execOp
  simp only [ho, hx, Instr.loadAt, Instr.sureAddr, Sem.run_bind, Sem.run_pure, Result.andThen_ok, hl]
theorem row_range {w : World} {lg lo n cap : Nat} {l1 l2 : List Od} {x : Od} (h : RowAt w 35 15 (.slice (some ⟨lg, lo, none⟩) n cap) n (flatL odC (l1 ++ x :: l2))) : w.rangeAt lg (lo + l1.length * 15) x.o.cs.toList := fun j v hv => by
  have hj : j < 15 := by
    have := (List.getElem?_eq_some_iff.1 hv).1
    exact this
  rw [Nat.add_assoc]
  exact h.cell rfl ((flat_get l1 l2 x hj).trans hv)
section
variable {w W : World} {g ma mo ab : Nat} {a : Ac} {O : List Oo} {op po has has' : Int} {l l' l1 l2 : List Od} {x : Od} {lv : Value} {i : Nat}
/-- Between a trade and what it takes away: l' is the list in memory. -/
structure HT (w W : World) (g ma mo ab : Nat) (op po : Int) (a : Ac) (O : List Oo) (l l' : List Od) (lv : Value) (has has' : Int) (i : Nat) : Prop where
  on : On w.heap.size w W g ma mo a O
  eop : a.op = op
  epo : a.po = po
  bu : a.bu = 0
  px : PosX a has'
  hm : HM op po i l O has
  row : RowAt W 35 15 lv l'.length (flatL odC l')
  low : ∀ q, lv.ownBlock = some q → w.heap.size ≤ q
  blk : Blk W ab 30 (limH op po).cs
  len : l.length ≤ i
theorem HL.mid (h : HL w W g ma mo ab op po a O l lv has i) : HT w W g ma mo ab op po a O l l lv has has i := ⟨h.on, h.eop, h.epo, h.bu, h.px, h.hm, h.row, h.low, h.blk, h.len⟩
theorem HL.traded (h : HL w W g ma mo ab op po a O l lv has i) (n : Int) (n0 : n ≠ 0) (n1 : -60 ≤ n ∧ n ≤ 60) (hp : po ≤ 200) :
    Calls Try.prog 13 #[.pointer (some ⟨g, 0, none⟩), .string sA, .string sX, .int .i64 n] W fun e w' => e = .returned (.int .i64 0) ∧ HT w w' g ma mo ab op po { a with pos := mvL a sX n } O l l lv has (has + n) i ∧ Fr W w' (oneG g ma mo a O).own :=
  (h.trades n n0 n1 hp).mono fun e w' ⟨h1, h2, h3, h4, h5, h6⟩ => ⟨h1, ⟨h2, h.eop, h.epo, h.bu, h3, h.hm, h5, h.low, h6, h.len⟩, h4⟩
theorem HT.ne_acc (h : HT w W g ma mo ab op po a O l l' lv has has' i) : ∀ b, lv.ownBlock = some b → ab ≠ b := fun b hb e => by
  subst e
  exact h.row.ne_type h.blk (by decide) hb
theorem HT.write {lg lo N cap : Nat} (h : HT w W g ma mo ab op po a O (l1 ++ x :: l2) (l1 ++ x :: l2) (.slice (some ⟨lg, lo, none⟩) N cap) has has' i) (v : Int) {k : Nat} (hk : k = lo + l1.length * 15 + 9) :
    HT w (W.setCell ⟨lg, k, none⟩ (.int .i64 v)) g ma mo ab op po a O (l1 ++ x :: l2) (l1 ++ { x with q := v } :: l2) (.slice (some ⟨lg, lo, none⟩) N cap) has has' i := by
  subst hk
  obtain ⟨_, _, hv, _⟩ := h.row.form
  injection hv with _ hN _
  subst hN
  have hf := Fr.setCell W ⟨lg, lo + l1.length * 15 + 9, none⟩ (.int .i64 v) (fun b => (Value.slice (some ⟨lg, lo, none⟩) (l1 ++ x :: l2).length cap).ownBlock = some b) rfl
  refine ⟨h.on.keepR hf (h.on.ne_row h.row (by decide) (by decide)) h.low, h.eop, h.epo, h.bu, h.px, h.hm, ?_, h.low, h.blk.fr hf (fun e => h.ne_acc _ e rfl), h.len⟩
  have := h.row.set (j := l1.length * 15 + 9) (by rw [flatL_len odC_len]; simp; omega) (.int .i64 v)
  rw [flat_set, ← Nat.add_assoc] at this
  rw [show (l1 ++ { x with q := v } :: l2).length = (l1 ++ x :: l2).length by simp]
  exact this
theorem HT.keep (h : HT w W g ma mo ab op po a O l l' lv has has' i) {W' : World} {a' : Ac} {O' : List Oo} (hf : Fr W W' (oneG g ma mo a O).own) :
    RowAt W' 35 15 lv l'.length (flatL odC l') ∧ Blk W' ab 30 (limH op po).cs :=
  ⟨h.row.fr hf fun q hq => h.on.ne_row h.row (by decide) (by decide) q hq, h.on.keepB hf h.blk (by decide) (by decide)⟩
theorem HT.dones (h : HT w W g ma mo ab op po a O (l1 ++ x :: l2) l' lv has has' i) (hi : i ≤ 1000) :
    Calls Try.prog 14 #[.pointer (some ⟨g, 0, none⟩), .int .i64 x.id] W fun e w' => e = .returned (.int .i64 0) ∧ On w.heap.size w w' g ma mo a (doO O x.id) ∧ RowAt w' 35 15 lv l'.length (flatL odC l') ∧ Blk w' ab 30 (limH op po).cs := by
  have hx := h.hm.each x (List.mem_append_right _ List.mem_cons_self)
  have h1 := hx.i0
  have h2 := hx.i1
  refine (Done_onF h.on x.id (by omega) ⟨x.oo, h.hm.perm.mem_iff.2 (List.mem_map_of_mem (List.mem_append_right _ List.mem_cons_self)), rfl⟩).mono fun e w' ⟨h3, h4, h5⟩ => ?_
  obtain ⟨k1, k2⟩ := h.keep (a' := a) (O' := O) h5
  exact ⟨h3, h4, k1, k2⟩
theorem HT.accs (h : HT w W g ma mo ab op po a O l l' lv has has' i) : ∀ x ∈ O, x.ac = sA := fun x hx => by
  obtain ⟨z, hz, rfl⟩ := List.mem_map.1 (h.hm.perm.mem_iff.1 hx)
  rfl
theorem HT.opens (h : HT w W g ma mo ab op po a O (l1 ++ x :: l2) l' lv has has' i) (hi : i ≤ 1000) {q : Int} (d0 : 1 ≤ q) (d1 : q < x.q) :
    Calls Try.prog 12 #[.pointer (some ⟨g, 0, none⟩), .agg (Od.o { x with q := q }).cs, .int .i64 0] W fun e w' => e = .returned (.int .i64 0) ∧ On w.heap.size w w' g ma mo a (Od.oo { x with q := q } :: doO O x.id) ∧ RowAt w' 35 15 lv l'.length (flatL odC l') ∧ Blk w' ab 30 (limH op po).cs := by
  have hx := h.hm.each x (List.mem_append_right _ List.mem_cons_self)
  have h1 := hx.i0
  have h2 := hx.i1
  have h3 := hx.p0
  have h4 := hx.p1
  have h5 := hx.q1
  have hm : 1000 < maxLen := by decide
  have hl : O.length ≤ 1000 := by
    have := h.hm.perm.length_eq
    rw [List.length_map] at this
    have := h.len
    omega
  refine (Open_onF h.on x.id x.sd x.pr q hx.sd ⟨by omega, by omega⟩ ⟨d0, by omega⟩ h1 (by omega) h.accs (by omega)).mono fun e w' ⟨h6, h7, h8⟩ => ?_
  obtain ⟨k1, k2⟩ := h.keep (a' := a) (O' := O) h8
  exact ⟨h6, h7, k1, k2⟩
theorem HT.less {d : Int} {tr : Bool} (h : HT w W g ma mo ab op po a O (l1 ++ x :: l2) l' lv has (has + trN x d tr) i) (d0 : 1 ≤ d) (d1 : d < x.q) {W' : World} (hon : On w.heap.size w W' g ma mo a (Od.oo { x with q := x.q - d } :: doO O x.id)) (hr : RowAt W' 35 15 lv (l1 ++ { x with q := x.q - d } :: l2).length (flatL odC (l1 ++ { x with q := x.q - d } :: l2))) (hb : Blk W' ab 30 (limH op po).cs) :
    HL w W' g ma mo ab op po a (Od.oo { x with q := x.q - d } :: doO O x.id) (l1 ++ { x with q := x.q - d } :: l2) lv (has + trN x d tr) (i + 1) :=
  ⟨hon, h.eop, h.epo, h.bu, h.px, (h.hm.less d0 d1 tr).mono (Nat.le_succ _), hr, h.low, hb, by have := h.len; simp at this ⊢; omega⟩
theorem HT.gone {tr : Bool} (h : HT w W g ma mo ab op po a O (l1 ++ x :: l2) l' lv has (has + trN x x.q tr) i) {W' : World} {lv' : Value} (hon : On w.heap.size w W' g ma mo a (doO O x.id)) (hr : RowAt W' 35 15 lv' (l1 ++ l2).length (flatL odC (l1 ++ l2))) (hlow : ∀ q, lv'.ownBlock = some q → w.heap.size ≤ q) (hb : Blk W' ab 30 (limH op po).cs) :
    HL w W' g ma mo ab op po a (doO O x.id) (l1 ++ l2) lv' (has + trN x x.q tr) (i + 1) :=
  ⟨hon, h.eop, h.epo, h.bu, h.px, (h.hm.gone tr).mono (Nat.le_succ _), hr, hlow, hb, by have := h.len; simp at this ⊢; omega⟩
theorem HT.goneF {tr : Bool} {lg lo N cap : Nat} (h : HT w W g ma mo ab op po a O (l1 ++ x :: l2) l' (.slice (some ⟨lg, lo, none⟩) N cap) has (has + trN x x.q tr) i) {W7 W8 : World} {v' : Value} (hon : On w.heap.size w W7 g ma mo a (doO O x.id)) (hr : RowAt W7 35 15 (.slice (some ⟨lg, lo, none⟩) N cap) l'.length (flatL odC l')) (hb : Blk W7 ab 30 (limH op po).cs)
    (hrow : RowAt W8 35 15 v' (l1 ++ l2).length (flatL odC (l1 ++ l2))) (hfr : Fr W7 W8 (fun b => b = lg)) (hown : v'.ownBlock = some lg ∨ v'.ownBlock = some W7.heap.size) : HL w W8 g ma mo ab op po a (doO O x.id) (l1 ++ l2) v' (has + trN x x.q tr) (i + 1) := by
  refine h.gone (hon.keepR hfr (fun b e => by rw [e]; exact hon.ne_row hr (by decide) (by decide) lg rfl) (fun b e => by rw [e]; exact h.low lg rfl)) hrow (fun q hq => ?_) (hb.fr hfr (fun e => hr.ne_type hb (by decide) (by rw [e]; rfl)))
  rcases hown with h1 | h1
  · rw [h1] at hq
    injection hq with hq
    rw [← hq]
    exact h.low lg rfl
  · rw [h1] at hq
    injection hq with hq
    have := hon.bel.size
    omega
theorem HL.appended (h : HL w W g ma mo ab op po a O l lv has i) (o0 : 1 ≤ op) (o1 : op ≤ 5000) (p0 : 1 ≤ po) (p1 : po ≤ 200) (hid : x.id = (i : Int) + 1) (hx : x.ok (i + 1)) (hc : abB a O x.o (valI x.o 0) = false) {W4 W5 : World} {o : Obj} {v' : Value}
    (hon : On w.heap.size w W4 g ma mo a (x.oo :: doO O x.id)) (hr : RowAt W4 35 15 lv l.length (flatL odC l)) (hb : Blk W4 ab 30 (limH op po).cs)
    (hrow : RowAt W5 35 15 v' (l.length + 1) (flatL odC l ++ odC x)) (hfr : Fr (W4.alloc o) W5 (fun b => lv.ownBlock = some b)) (hnew : v'.ownBlock = lv.ownBlock ∨ v'.ownBlock = some (W4.alloc o).heap.size ∧ ∀ k, k < (W4.alloc o).heap.size → W5.heap[k]? = (W4.alloc o).heap[k]?) :
    HL w W5 g ma mo ab op po a (x.oo :: doO O x.id) (l ++ [x]) v' has (i + 1) := by
  have hb1 : Below W4.heap.size W4 (W4.alloc o) := (Below.refl _ W4).alloc (Nat.le_refl _) _
  have hon1 := hon.below hb1
  have hr1 : RowAt (W4.alloc o) 35 15 lv l.length (flatL odC l) := hr.fr (Fr.of_below hb1 (fun _ => False)) fun _ _ => id
  have hb2 := hb.below hb1 hb.lt
  refine h.more o0 o1 p0 p1 hid hx hc (hon1.keepR hfr (hon1.ne_row hr1 (by decide) (by decide)) h.low) hrow (fun q hq => ?_) (hb2.fr hfr (fun e => hr1.ne_type hb2 (by decide) e))
  rcases hnew with h1 | ⟨h1, _⟩
  · exact h.low q (h1 ▸ hq)
  · rw [h1] at hq
    injection hq with hq
    have := hon1.bel.size
    omega
theorem split_at {α : Type} {l : List α} {k : Nat} (h : k < l.length) : ∃ l1 x l2, l = l1 ++ x :: l2 ∧ l1.length = k :=
  ⟨l.take k, l[k], l.drop (k + 1), by rw [← List.drop_eq_getElem_cons h, List.take_append_drop], by rw [List.length_take]; omega⟩
theorem exec_append {op : Oper} {a : Act} {w w' : World} {v v1 v2 : Value} {t : TypeId} (x y : Operand) (ho : op.op = .call { callee := .builtin .append, args := #[x, y], argTypes := #[t, t] }) (hx : a.eval x = v1) (hy : a.eval y = v2) (hr : (Builtin.append_ #[t, t] op.type #[v1, v2]).run Try.prog w = .ok v w') : (execOp a.eval op).run Try.prog w = .ok (.value v) w' := by
  unfold execOp
  simp only [ho, resolve, invoke, builtin, Sem.run_bind, Sem.run_pure, Result.andThen_ok, List.map_toArray, List.map_cons, List.map_nil, hx, hy, hr]
theorem HT.below (h : HT w W g ma mo ab op po a O l l' lv has has' i) {W' : World} (hb : Below W.heap.size W W') : HT w W' g ma mo ab op po a O l l' lv has has' i :=
  ⟨h.on.below hb, h.eop, h.epo, h.bu, h.px, h.hm, h.row.fr (Fr.of_below hb (fun _ => False)) fun _ _ => id, h.low, h.blk.below hb h.blk.lt, h.len⟩
theorem sumL_take {l : List Od} {j : Nat} {x : Od} (h : l[j]? = some x) : sumL (l.take (j + 1)) = sumL (l.take j) + x.pr * x.q := by
  have hj := (List.getElem?_eq_some_iff.1 h)
  rw [List.take_succ_eq_append_getElem hj.1, sumL_app, hj.2]
  simp only [sumL]
  rw [Int.mul_comm]; omega
theorem sumL_take_le {N : Nat} {l : List Od} (h : ∀ x ∈ l, Od.ok N x) (j : Nat) : 0 ≤ sumL (l.take j) ∧ sumL (l.take j) ≤ sumL l := by
  have h1 := sumL_nonneg (l := l.take j) fun x hx => h x (List.mem_of_mem_take hx)
  have h2 := sumL_nonneg (l := l.drop j) fun x hx => h x (List.mem_of_mem_drop hx)
  have h3 : sumL l = sumL (l.take j) + sumL (l.drop j) := by rw [← sumL_app, List.take_append_drop]
  omega
end
end Go.Proofs.Ytgioknkfppaaaaa
