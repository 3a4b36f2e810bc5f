/-
  The reference's Hear: what it stands on.
-/
import Derived.Test.YtdncemecnbglaaaA20
namespace Go.Proofs.Ytdncemecnbglaaa
set_option linter.unusedVariables false
set_option linter.unusedSimpArgs false
open Go.RowKit Go.Great Go.Maps

theorem RbAt.cell_cn {w : World} {g : Nat} {kv : Value} {a : Ab} (h : RbAt w g kv a) {line c : Nat} (hl : line < 2) (hc : c < 4) : w.cell? ⟨g, 6 + line * 4 + c, none⟩ = some (.int .i64 (a.cn (4 * line + c) : Int)) := by
  rw [h.blk.cell]
  have h1 : line = 0 ∨ line = 1 := by omega
  have h2 : c = 0 ∨ c = 1 ∨ c = 2 ∨ c = 3 := by omega
  rcases h1 with rfl | rfl <;> rcases h2 with rfl | rfl | rfl | rfl <;> rfl
theorem RbAt.bump {w : World} {g : Nat} {kv : Value} {a : Ab} (h : RbAt w g kv a) {line c : Nat} (hl : line < 2) (hc : c < 4) (hm : a.cn (4 * line + c) < 1000000000000) : RbAt (w.setCell ⟨g, 6 + line * 4 + c, none⟩ (.int .i64 ((a.cn (4 * line + c) + 1 : Nat) : Int))) g kv (a.cnt (4 * line + c)) := by
  have hbd := h.bd
  refine h.put _ _ _ ?_ h.row h.pk ⟨hbd.w1, hbd.w2, hbd.p0, hbd.p1, hbd.nx, hbd.s0, hbd.s1, hbd.l0, hbd.l1, hbd.kn, fun i => ?_, ?_⟩ h.so
  · have h1 : line = 0 ∨ line = 1 := by omega
    have h2 : c = 0 ∨ c = 1 ∨ c = 2 ∨ c = 3 := by omega
    rcases h1 with rfl | rfl <;> rcases h2 with rfl | rfl | rfl | rfl <;> rfl
  · show bmp a.cn (4 * line + c) i ≤ _
    unfold bmp
    split
    · rename_i e; rw [e]; omega
    · exact hbd.cn i
  · show a.ks.length ≤ bmp a.cn (4 * line + c) 1 + bmp a.cn (4 * line + c) 5
    have := (bmp_le a.cn (4 * line + c) 1).1
    have := (bmp_le a.cn (4 * line + c) 5).1
    have := hbd.len
    omega
theorem Ab.rcs_u8 (a : Ab) (ao : Option Addr) (n c j : Nat) (x : Int) : (a.rcs (.slice ao n c))[j]? ≠ some (.int .u8 x) := by
  unfold Ab.rcs
  match j with
  | 0 | 1 | 2 | 3 | 4 | 5 | 6 | 7 | 8 | 9 | 10 | 11 | 12 | 13 => simp
  | j + 14 => simp
theorem By.frR {w w' : World} {v kv : Value} {l : List Nat} {g : Nat} {ab : Ab} (h : By w v l) (hf : Fr w w' (fun x => x = g)) (hb : RbAt w g kv ab) : By w' v l := by
  obtain ⟨ao, co, ekv, _⟩ := hb.row.form
  obtain ⟨a, cap, rfl, h1, h2, h3⟩ := h.ex
  refine ⟨⟨a, cap, rfl, h1, h2, ?_⟩, h.bb⟩
  rcases h3 with h3 | ⟨q, off, rfl, h3⟩
  · exact .inl h3
  · by_cases e : q = g
    · subst e
      by_cases hl : l = []
      · exact .inl hl
      · obtain ⟨x, hx⟩ : ∃ x, l[0]? = some x := ⟨_, List.getElem?_eq_getElem (by cases l with | nil => exact absurd rfl hl | cons y r => simp)⟩
        have := h3 0 x hx
        rw [hb.blk.cell, ekv] at this
        exact absurd this (Ab.rcs_u8 _ _ _ _ _ _)
    · exact .inr ⟨q, off, rfl, fun j x hx => hf.cell (h3 j x hx) e⟩
theorem infoK0 : (Try.prog.info? 101).map (fun i => (i.zero, i.size, i.bytes)) = some (some (.agg #[.int .i64 0, .slice none 0 0]), 2, 32) := by kernel_rfl
theorem kV_app (ks qs : List Kp) : kV (ks ++ qs) = kV ks ++ kV qs := flatL_app ks qs
theorem kV_len (ks : List Kp) : (kV ks).length = ks.length * 2 := flatL_len kC_len ks
theorem kV_take (ks : List Kp) (i : Nat) : (kV ks).take (i * 2) = kV (ks.take i) := flatL_take kC_len i ks
theorem kV_one : ∀ {ks : List Kp}, (∀ k ∈ ks, k.v.oneCell' = true) → ∀ u ∈ kV ks, u.oneCell' = true
  | [], _, u, hu => by cases hu
  | k :: r, h, u, hu => by
    have e : kV (k :: r) = kC k ++ kV r := rfl
    rw [e] at hu
    rcases List.mem_append.1 hu with hu | hu
    · unfold kC at hu
      rcases List.mem_cons.1 hu with rfl | hu
      · rfl
      · rcases List.mem_cons.1 hu with rfl | hu
        · exact h k List.mem_cons_self
        · cases hu
    · exact kV_one (fun q hq => h q (List.mem_cons_of_mem _ hq)) u hu
theorem PkAt.one {w : World} {k : Kp} (h : PkAt w k) : k.v.oneCell' = true := by
  obtain ⟨ao, c, e, _⟩ := h.1.form
  rw [e]
  rfl
theorem appK_run {w : World} {bv sv : Value} {ks qs : List Kp} (hb : RowAt w 101 2 bv ks.length (kV ks)) (hs : RowAt w 101 2 sv qs.length (kV qs)) (hone : ∀ k ∈ qs, k.v.oneCell' = true) (hn : ks.length + qs.length ≤ 4000000000000) (ty : TypeId) : ∃ v' w', (Builtin.append_ #[83, 83] ty #[bv, sv]).run Try.prog w = .ok v' w' ∧ RowAt w' 101 2 v' (ks ++ qs).length (kV (ks ++ qs)) ∧ Fr w w' (fun x => bv.ownBlock = some x) ∧ (v'.ownBlock = bv.ownBlock ∨ v'.ownBlock = some w.heap.size) := by
  obtain ⟨i, h1, h2⟩ := Option.map_eq_some_iff.1 infoK0
  injection h2 with h3 h4
  injection h4 with h4 h5
  by_cases hq : qs = []
  · subst hq
    obtain ⟨ao, co, rfl, hle⟩ := hb.form
    obtain ⟨sa, sc, rfl, _⟩ := hs.form
    exact ⟨_, _, run_append_none0 w 83 ty 101 i Try.underlying83 h1 ao _ co hle sa sc, by rw [List.append_nil]; exact hb, Fr.refl _ _, .inl rfl⟩
  · have hq0 := List.length_pos_iff.2 hq
    obtain ⟨q, qo, qc, cur, rfl, _⟩ := hs.more hq0
    obtain ⟨v', w', k1, k2, k3, k4⟩ := run_append_row (P := Try.prog) w 83 ty 101 i _ 2 32 Try.underlying83 h1 h3 h4 h5 rfl bv ks.length _ hb ⟨q, qo, none⟩ qs.length qc (kV qs) (kV_len qs) (fun j u hj => by rw [Addr.add_mid]; exact hs.cell rfl hj) (kV_one hone) (.inl hq0) (by unfold maxLen; omega) (by omega)
    refine ⟨v', w', k1, by rw [List.length_append, kV_app]; exact k2, k3, ?_⟩
    rcases k4 with k4 | ⟨k4, _⟩
    · exact .inl k4
    · exact .inr k4
theorem sliceKH_run {op : Oper} {a : Act} {v : Value} {ao : Option Addr} {n cap hi : Nat} (hv : v = .slice ao n cap) (x z : Operand) (ho : op.op = .slice 83 x none (some z) none) (hx : a.eval x = v) (hz : a.eval z = .int .i64 (hi : Int)) (h2 : hi ≤ cap) (w : World) : (execOp a.eval op).run Try.prog w = .ok (.value (cutS v 0 hi cap)) w := by
  subst hv
  have HS : (Instr.sliceAt 83 (.slice ao n cap) none (some (.int .i64 (hi : Int))) none).run Try.prog w = .ok (cutS (.slice ao n cap) 0 hi cap) w := by
    rw [run_sliceAt_slice _ _ _ _ _ _ undK, run_slice_h _ _ _ _ _ undK .i64 (hi : Int) (by omega) (by omega), sizeK]
    show Result.ok _ w = _
    unfold sliced cutS
    simp
  unfold execOp
  simp only [ho, hx, hz, Option.map_some, Option.map_none]
  simp only [HS, Sem.run_bind, Result.andThen_ok]
  rfl
theorem sliceKLv_run {op : Oper} {a : Act} {v : Value} {ao : Option Addr} {n cap lo : Nat} (hv : v = .slice ao n cap) (x y : Operand) (ho : op.op = .slice 83 x (some y) none none) (hx : a.eval x = v) (hy : a.eval y = .int .i64 (lo : Int)) (h : lo ≤ n) (w : World) : (execOp a.eval op).run Try.prog w = .ok (.value (cutS v lo n cap)) w := by
  subst hv
  exact sliceKL_run x y ho hx hy h w
theorem RowAt.cutH2 {w : World} {e : TypeId} {v : Value} {n : Nat} {xs : List Value} (h : RowAt w e 2 v n xs) {ao : Option Addr} {cap hi : Nat} (hv : v = .slice ao n cap) (hhi : hi ≤ n) : RowAt w e 2 (cutS v 0 hi cap) hi (xs.take (hi * 2)) ∧ ∀ q, (cutS v 0 hi cap).ownBlock = some q → v.ownBlock = some q := by
  subst hv
  rcases h.2 with ⟨h1, h2⟩ | ⟨g, off, c, cur, h1, h2, h3, h4, h5, h6⟩
  · injection h1 with ha _ hc
    subst h2 hc ha
    obtain rfl : hi = 0 := by omega
    refine ⟨?_, fun q hq => by cases hq⟩
    show RowAt w e 2 (.slice (if 0 = 0 then none else _) 0 0) 0 (xs.take 0)
    rw [if_pos rfl]
    exact RowAt.none0 _ _ _
  · injection h1 with ha _ hc
    subst ha hc
    have e1 : cutS (.slice (some ⟨g, off, none⟩) n cap) 0 hi cap = .slice (some ⟨g, off, none⟩) hi cap := by
      show Value.slice (if cap = 0 then _ else _) (hi - 0) (cap - 0) = _
      by_cases hm : cap = 0
      · rw [if_pos hm, Nat.sub_zero, Nat.sub_zero]
      · rw [if_neg hm, Nat.sub_zero, Nat.sub_zero]
        show Value.slice (some ((⟨g, off, none⟩ : Addr).add (0 * 2))) _ _ = _
        rw [Addr.add_mid]
        rfl
    rw [e1]
    refine ⟨⟨?_, .inr ⟨g, off, cap, cur, rfl, h2, by omega, h4, h5, ?_⟩⟩, fun q hq => hq⟩
    · have := h.1
      rw [List.length_take]
      omega
    · rw [← h6, List.take_take, Nat.min_eq_left (by omega)]
theorem buildP_run {op : Oper} {a : Act} {v : Value} {n : Nat} (hv : ∃ a n c, v = .slice a n c) (x y : Operand) (ho : op.op = .build 101 #[(0, x), (1, y)]) (hx : a.eval x = .int .i64 (n : Int)) (hy : a.eval y = v) (w : World) : (execOp a.eval op).run Try.prog w = .ok (.value (.agg #[.int .i64 (n : Int), v])) w := by
  obtain ⟨_, _, _, rfl⟩ := hv
  unfold execOp
  simp only [ho, List.map_toArray, List.map_cons, List.map_nil, hx, hy]
  kernel_rfl
theorem buildK1_run {op : Oper} {a : Act} {v : Value} {n : Nat} (hv : ∃ a n c, v = .slice a n c) (x : Operand) (ho : op.op = .buildSlice 83 1 #[(0, x)]) (hx : a.eval x = .agg #[.int .i64 (n : Int), v]) (w : World) : (execOp a.eval op).run Try.prog w = .ok (.value (.slice (some ⟨w.heap.size, 0, none⟩) 1 1)) (w.alloc (.cells #[.int .i64 (n : Int), v] 101)) := by
  obtain ⟨_, _, _, rfl⟩ := hv
  unfold execOp
  simp only [ho, List.map_toArray, List.map_cons, List.map_nil, hx]
  kernel_rfl
/-- A packet laid into its place. -/
def insK (ks : List Kp) (i : Nat) (k : Kp) : List Kp := ks.take i ++ [k] ++ ks.drop i
theorem insK_perm (ks : List Kp) (i : Nat) (k : Kp) : (insK ks i k).Perm (k :: ks) := by
  unfold insK
  rw [List.append_assoc, List.singleton_append]
  refine List.perm_middle.trans ?_
  rw [List.take_append_drop]
theorem insK_len (ks : List Kp) (i : Nat) (k : Kp) : (insK ks i k).length = ks.length + 1 := (insK_perm ks i k).length_eq
/-- Where a number's place is. -/
structure Plc (ks : List Kp) (n i : Nat) : Prop where
  le : i ≤ ks.length
  lo : ∀ j q, j < i → ks[j]? = some q → q.n < n
theorem Plc.mem_lo {ks : List Kp} {n i : Nat} (h : Plc ks n i) {q : Kp} (hq : q ∈ ks.take i) : q.n < n := by
  obtain ⟨j, hj⟩ := List.mem_iff_getElem?.1 hq
  have hjl := (List.getElem?_eq_some_iff.1 hj).1
  rw [List.length_take] at hjl
  rw [List.getElem?_take_of_lt (by omega)] at hj
  exact h.lo j q (by omega) hj
theorem mem_hi {ks : List Kp} {n i : Nat} (hs : ks.Pairwise (fun p q => p.n < q.n)) (hhi : ∀ q, ks[i]? = some q → n < q.n) {q : Kp} (hq : q ∈ ks.drop i) : n < q.n := by
  obtain ⟨j, hj⟩ := List.mem_iff_getElem?.1 hq
  rw [List.getElem?_drop] at hj
  obtain ⟨hj1, hj2⟩ := List.getElem?_eq_some_iff.1 hj
  have h0 := hhi (ks[i]'(by omega)) (List.getElem?_eq_getElem _)
  by_cases hz : j = 0
  · subst hz
    simp only [Nat.add_zero] at hj2
    rw [← hj2]
    exact h0
  · have h1 := List.pairwise_iff_getElem.1 hs i (i + j) (by omega) hj1 (by omega)
    rw [hj2] at h1
    omega
theorem insK_sorted {ks : List Kp} {i : Nat} {k : Kp} (hs : ks.Pairwise (fun p q => p.n < q.n)) (hp : Plc ks k.n i) (hhi : ∀ q, ks[i]? = some q → k.n < q.n) : (insK ks i k).Pairwise (fun p q => p.n < q.n) := by
  unfold insK
  rw [List.append_assoc, List.singleton_append]
  refine List.pairwise_append.2 ⟨hs.sublist (List.take_sublist _ _), List.pairwise_cons.2 ⟨fun q hq => mem_hi hs hhi hq, hs.sublist (List.drop_sublist _ _)⟩, fun p hp' q hq => ?_⟩
  have h1 := hp.mem_lo hp'
  rcases List.mem_cons.1 hq with rfl | hq
  · exact h1
  · have h2 := mem_hi hs hhi hq
    omega
theorem Plc.none {ks : List Kp} {n i : Nat} (hs : ks.Pairwise (fun p q => p.n < q.n)) (hp : Plc ks n i) (hhi : ∀ q, ks[i]? = some q → n < q.n) : fnd ks n = none := fnd_of fun q hq e => by
  rw [← List.take_append_drop i ks] at hq
  rcases List.mem_append.1 hq with hq | hq
  · have := hp.mem_lo hq
    omega
  · have := mem_hi hs hhi hq
    omega
theorem fnd_hit {ks : List Kp} {n i : Nat} {q : Kp} (h : ks[i]? = some q) (hn : q.n = n) : (fnd ks n).isSome = true := by
  unfold fnd
  rw [List.find?_isSome]
  exact ⟨q, List.mem_of_getElem? h, by simp [hn]⟩
/-- What the reference does with a packet that it takes. -/
def RTkR (a : Ab) (k : Kp) (out : List Kp) (a' : Ab) : Prop := k.n = a.nx ∧ GivR (k :: a.ks) a.nx out a'.ks a'.nx ∧ a' = { a with nx := a'.nx, ks := a'.ks, si := if a'.ks = [] then a.si else a.la } ∨ k.n ≠ a.nx ∧ out = [] ∧ a'.ks.Perm (k :: a.ks) ∧ a' = { a with ks := a'.ks, si := if a.ks = [] then a.la else a.si }
/-- What the reference's Hear does. -/
def RHd (a : Ab) (line : Nat) (now : Int) (l : List Nat) (lo : Nat) (out : List Kp) (a' : Ab) (er : Int) : Prop := match rt l with
  | none => er = 200 ∧ out = [] ∧ a' = (a.came line now).cnt (4 * line + 3)
  | some n => er = 0 ∧ (hrB a n = true ∧ out = [] ∧ a' = (a.came line now).cnt (4 * line + 2) ∨ hrB a n = false ∧ a.nx + a.win ≤ n ∧ out = [] ∧ a' = a.came line now ∨ hrB a n = false ∧ n < a.nx + a.win ∧ ∃ k, k.n = n ∧ k.l = l ∧ (∀ q, k.v.ownBlock = some q → lo ≤ q) ∧ RTkR ((a.came line now).cnt (4 * line + 1)) k out a')
/-- The packet that was next, and what was given behind it. -/
theorem RgO.next {w W : World} {g : Nat} {kv0 kv ov : Value} {a : Ab} {i : Nat} {v : Value} {k : Kp} (hkn : k.n = a.nx) (hgt : ∀ q ∈ a.ks, a.nx < q.n) (hs : a.ks.Pairwise (fun p q => p.n < q.n)) {w0 : World} (hf : Fr w0 w (fun x => x = g)) (hov : ∀ q, ov.ownBlock = some q → w0.heap.size ≤ q) (hk : PkAt w k) (hov2 : ∀ q, k.v.ownBlock = some q → ¬ (q = g ∨ ov.ownBlock = some q)) (h : RgO w W g kv0 kv { a with nx := a.nx + 1 } i [k.v] 1 ov v) : ∃ out a', RkO w0 W g kv0 kv v out a' ∧ RTkR a k out a' := by
  have hg := giv_sorted (ks := k :: a.ks) (nx := a.nx) (i := i + 1) (List.pairwise_cons.2 ⟨fun q hq => by have := hgt q hq; omega, hs⟩) (by have := h.le; rw [List.length_cons]; exact Nat.succ_le_succ this) (fun j q hj hq => by
    cases j with
    | zero =>
      have e : k = q := by simpa using hq
      rw [← e]
      exact hkn
    | succ j =>
      rw [List.getElem?_cons_succ] at hq
      have : q.n = a.nx + 1 + j := h.num j q (by omega) hq
      omega) (fun q hq => by
    rcases List.mem_cons.1 hq with rfl | hq
    · omega
    · have := hgt q hq; omega) (fun q hq => by
    rw [List.getElem?_cons_succ] at hq
    have : q.n ≠ a.nx + 1 + i := h.gap q hq
    omega)
  rw [List.take_succ_cons, List.drop_succ_cons] at hg
  have hle : i ≤ a.ks.length := h.le
  have hlen : (a.ks.take i).length = i := by rw [List.length_take]; omega
  have hnx : a.nx + (i + 1) = a.nx + 1 + i := by omega
  rw [hnx] at hg
  refine ⟨k :: a.ks.take i, _, ⟨h.ab, ?_, fun q hq => ?_, fun q hq => .inl (h.kown q hq), fun q hq => ?_, ?_⟩, .inl ⟨hkn, hg, ?_⟩⟩
  · have := h.row
    rw [List.length_cons, hlen, Nat.add_comm i 1]
    exact this
  · rcases h.own q hq with e | e
    · exact hov q e
    · exact Nat.le_trans hf.size e
  · rcases List.mem_cons.1 hq with rfl | hq
    · exact hk.fr h.fr hov2
    · exact h.pk q (List.mem_of_mem_take hq)
  · exact hf.trans h.fr fun x hx q => q.elim id fun q => q.elim id fun q => by have := hov x q; omega
  · have e : (if i < a.ks.length then a.la else a.si) = if a.ks.drop i = [] then a.si else a.la := by
      by_cases hi : i < a.ks.length
      · rw [if_pos hi, if_neg (fun q => by have := List.drop_eq_nil_iff.1 q; omega)]
      · rw [if_neg hi, if_pos (List.drop_eq_nil_iff.2 (by omega))]
    show _ = ({ a with nx := _, ks := a.ks.drop i, si := if a.ks.drop i = [] then a.si else a.la } : Ab)
    rw [← e]
/-- A list of packets that is made anew above B. -/
structure INS (B W : World) (v : Value) (qs : List Kp) : Prop where
  row : RowAt W 101 2 v qs.length (kV qs)
  low : ∀ q, v.ownBlock = some q → B.heap.size ≤ q
  bel : Below B.heap.size B W
theorem INS.start (B : World) : INS B B (.slice none 0 0) [] := ⟨RowAt.none0 _ _ _, fun q hq => (by cases hq), Below.refl _ _⟩
theorem INS.below {B W W' : World} {v : Value} {qs : List Kp} (h : INS B W v qs) (hb : Below W.heap.size W W') : INS B W' v qs := ⟨h.row.fr (Fr.of_below hb (fun _ => False)) fun _ _ => id, h.low, below_step h.bel hb⟩
theorem INS.app {B W : World} {v sv : Value} {qs rs : List Kp} (h : INS B W v qs) (hs : RowAt W 101 2 sv rs.length (kV rs)) (hone : ∀ k ∈ rs, k.v.oneCell' = true) (hn : qs.length + rs.length ≤ 4000000000000) (ty : TypeId) : ∃ v' W', (Builtin.append_ #[83, 83] ty #[v, sv]).run Try.prog W = .ok v' W' ∧ INS B W' v' (qs ++ rs) := by
  obtain ⟨v', W', k1, k2, k3, k4⟩ := appK_run h.row hs hone hn ty
  refine ⟨v', W', k1, k2, fun q hq => ?_, h.bel.trans (k3.below (by have := h.bel.size; omega) fun q hq e => ?_)⟩
  · rcases k4 with k4 | k4
    · exact h.low q (k4 ▸ hq)
    · rw [k4] at hq
      injection hq with hq
      have := h.bel.size
      omega
  · have := h.low q e
    omega
theorem row1K {W : World} {n : Nat} {v : Value} {l : List Nat} : RowAt (W.alloc (.cells #[.int .i64 (n : Int), v] 101)) 101 2 (.slice (some ⟨W.heap.size, 0, none⟩) 1 1) [(⟨n, v, l⟩ : Kp)].length (kV [⟨n, v, l⟩]) := ⟨rfl, .inr ⟨W.heap.size, 0, 1, #[.int .i64 (n : Int), v], rfl, heap_alloc_new W _, Nat.le_refl _, by decide, Nat.le_refl _, rfl⟩⟩
theorem row1B {W : World} {v : Value} : RowAt (W.alloc (.cells #[v] 35)) 35 1 (.slice (some ⟨W.heap.size, 0, none⟩) 1 1) 1 [v] := ⟨rfl, .inr ⟨W.heap.size, 0, 1, #[v], rfl, heap_alloc_new W _, Nat.le_refl _, by decide, Nat.le_refl _, rfl⟩⟩
/-- The new list is laid down. -/
theorem RbAt.ins {B W : World} {g : Nat} {kv v : Value} {a : Ab} {i : Nat} {k : Kp} (h : RbAt B g kv a) (hi : INS B W v (insK a.ks i k)) (hk : PkAt W k) (hkn : k.n ≤ 999999999) (hlen : a.ks.length + 1 ≤ a.cn 1 + a.cn 5) (hp : Plc a.ks k.n i) (hhi : ∀ q, a.ks[i]? = some q → k.n < q.n) : RbAt (W.setCell ⟨g, 3, none⟩ v) g v { a with ks := insK a.ks i k } := by
  have hW := h.below hi.bel
  have hbd := h.bd
  refine hW.put { a with ks := insK a.ks i k } 3 v rfl hi.row (fun q hq => ?_) ⟨hbd.w1, hbd.w2, hbd.p0, hbd.p1, hbd.nx, hbd.s0, hbd.s1, hbd.l0, hbd.l1, fun q hq => ?_, hbd.cn, ?_⟩ (insK_sorted h.so hp hhi)
  · rcases List.mem_cons.1 ((insK_perm a.ks i k).mem_iff.1 hq) with rfl | hq
    · exact hk
    · exact hW.pk q hq
  · rcases List.mem_cons.1 ((insK_perm a.ks i k).mem_iff.1 hq) with rfl | hq
    · exact hkn
    · exact hbd.kn q hq
  · show (insK a.ks i k).length ≤ _
    rw [insK_len]
    exact hlen
end Go.Proofs.Ytdncemecnbglaaa
