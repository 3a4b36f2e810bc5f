/-
  ledger: Break.
-/
import Derived.Test.YtidhahooebepfaaJBal
namespace Go.Proofs.Ytidhahooebepfaa
set_option linter.unusedVariables false
set_option linter.unusedSimpArgs false
open Go.RowKit Go.Great Go.Maps

def putL : List Value → Nat → List Value → List Value
  | xs, _, [] => xs
  | xs, j, v :: r => putL (xs.set j v) (j + 1) r
theorem RowAt.sets {e : TypeId} {size n g off cap : Nat} : ∀ (vs : List Value) (j : Nat) (xs : List Value) (w : World), RowAt w e size (.slice (some ⟨g, off, none⟩) n cap) n xs → j + vs.length ≤ xs.length → RowAt (w.setCells g (off + j) vs) e size (.slice (some ⟨g, off, none⟩) n cap) n (putL xs j vs)
  | [], _, _, _, h, _ => h
  | v :: r, j, xs, w, h, hl => by
    simp only [List.length_cons] at hl
    exact RowAt.sets r (j + 1) (xs.set j v) _ (h.set (by omega) v) (by rw [List.length_set]; omega)
theorem put_flat (l1 l2 : List Bk) (b b' : Bk) : putL (flatL Bk.cl (l1 ++ b :: l2)) (l1.length * 5) b'.cl = flatL Bk.cl (l1 ++ b' :: l2) := by
  have e : ∀ xs : List Value, putL xs (l1.length * 5) b'.cl = ((((xs.set (l1.length * 5 + 0) (.string b'.ac)).set (l1.length * 5 + 1) (.string b'.sy)).set (l1.length * 5 + 2) (.int .i64 b'.q)).set (l1.length * 5 + 3) (.int .i64 b'.c)).set (l1.length * 5 + 4) (.int .i64 b'.f) := fun xs => rfl
  rw [e]
  rw [flat_setB l1 l2 b ⟨b'.ac, b.sy, b.q, b.c, b.f⟩ 0 (.string b'.ac) (by decide) rfl, flat_setB l1 l2 ⟨b'.ac, b.sy, b.q, b.c, b.f⟩ ⟨b'.ac, b'.sy, b.q, b.c, b.f⟩ 1 (.string b'.sy) (by decide) rfl, flat_setB l1 l2 ⟨b'.ac, b'.sy, b.q, b.c, b.f⟩ ⟨b'.ac, b'.sy, b'.q, b.c, b.f⟩ 2 (.int .i64 b'.q) (by decide) rfl, flat_setB l1 l2 ⟨b'.ac, b'.sy, b'.q, b.c, b.f⟩ ⟨b'.ac, b'.sy, b'.q, b'.c, b.f⟩ 3 (.int .i64 b'.c) (by decide) rfl, flat_setB l1 l2 ⟨b'.ac, b'.sy, b'.q, b'.c, b.f⟩ b' 4 (.int .i64 b'.f) (by decide) rfl]
theorem RowAt.there {w : World} {lg lo N cap : Nat} {l : List Bk} {k : Nat} (h : RowAt w 42 5 (.slice (some ⟨lg, lo, none⟩) N cap) N (flatL Bk.cl l)) (hk : k < l.length) : w.there lg (lo + k * 5) 5 := fun j hj => by
  have hb := flatL_get Bk.cl_len (List.getElem?_eq_getElem hk) hj
  have hc : ∃ u, (l[k]).cl[j]? = some u := ⟨(l[k]).cl[j], List.getElem?_eq_getElem (by rw [Bk.cl_len]; exact hj)⟩
  obtain ⟨u, hu⟩ := hc
  rw [Nat.add_assoc]
  exact ⟨by rw [h.cell rfl (hb.trans hu)]; rfl, h.frozen rfl _⟩
/-- The first k are turned round. -/
def opT (l : List Bk) (k : Nat) : List Bk := (l.take k).map Bk.opp ++ l.drop k
theorem opT_len (l : List Bk) (k : Nat) : (opT l k).length = l.length := by
  unfold opT
  rw [List.length_append, List.length_map, List.length_take, List.length_drop]; omega
theorem opT_zero (l : List Bk) : opT l 0 = l := by unfold opT; simp
theorem opT_all (l : List Bk) : opT l l.length = l.map Bk.opp := by unfold opT; simp
theorem opT_step {l : List Bk} {k : Nat} {b : Bk} (h : l[k]? = some b) : ∃ l1 l2, opT l k = l1 ++ b :: l2 ∧ l1.length = k ∧ opT l (k + 1) = l1 ++ b.opp :: l2 := by
  have hk := List.getElem?_eq_some_iff.1 h
  refine ⟨(l.take k).map Bk.opp, l.drop (k + 1), ?_, ?_, ?_⟩
  · unfold opT; rw [List.drop_eq_getElem_cons hk.1, hk.2]
  · have hk1 := hk.1
    rw [List.length_map, List.length_take]; omega
  · unfold opT
    rw [List.take_succ_eq_append_getElem hk.1, hk.2, List.map_append, List.append_assoc]; rfl
theorem Bk.inn.opp {b : Bk} {M : Int} (h : b.inn M) : b.opp.inn M := by
  obtain ⟨⟨h1, h2, h3, h4, h5, h6⟩, h7, h8⟩ := h
  simp only [Bk.am] at h1 h2 h3 h4 h5 h6
  refine ⟨⟨?_, ?_, ?_, ?_, ?_, ?_⟩, ?_, ?_⟩ <;> simp only [Bk.am, Bk.opp] <;> omega
theorem flat_setBoo : ∀ (l : List Bool) (i : Nat), (flatL booC l).set i (.bool true) = flatL booC (l.set i true)
  | [], _ => rfl
  | x :: l, 0 => rfl
  | x :: l, i + 1 => by
    show Value.bool x :: (flatL booC l).set i _ = Value.bool x :: flatL booC (l.set i true)
    rw [flat_setBoo l i]
def Lg.brokeB (G : Lg) (i : Nat) : Lg := { G with bs := G.bs.set i true }
theorem LgAt.brokeB {w : World} {G : Lg} (h : LgAt w G) {lg lo cap i : Nat} (hv : G.bv = .slice (some ⟨lg, lo, none⟩) G.bs.length cap) (hi : i < G.bs.length) : LgAt (w.setCell ⟨lg, lo + i, none⟩ (.bool true)) (G.brokeB i) ∧ Fr w (w.setCell ⟨lg, lo + i, none⟩ (.bool true)) G.own := by
  have ho : G.bv.ownBlock = some lg := by rw [hv]; rfl
  obtain ⟨n1, n2, n3, n4, n5⟩ := h.ne_bv ho
  have hf := Fr.setCell w ⟨lg, lo + i, none⟩ (.bool true) (fun b => b = lg) rfl
  refine ⟨⟨h.blk.fr hf (Ne.symm n1), h.all.fr hf (Ne.symm n2), h.tod.fr hf (Ne.symm n3), h.tot.fr hf (Ne.symm n4), h.ne1, h.ne2, h.ne3, h.trs.fr hf (fun b hb e => by subst e; exact n5 hb), ?_, h.szA, h.szT, h.szO, h.szR⟩, hf.mono fun b _ e => by subst e; exact .inr (.inr (.inr (.inr (.inr ho))))⟩
  show RowAt _ 4 1 G.bv (G.bs.set i true).length (flatL booC (G.bs.set i true))
  have hr := h.brs
  rw [hv] at hr
  have hl : (flatL booC G.bs).length = G.bs.length := by rw [flatL_len booC_len]; omega
  have h1 := hr.set (j := i) (by omega) (.bool true)
  have e := flat_setBoo G.bs i
  rw [List.length_set, hv, ← e]
  exact h1
theorem ixT_run {op : Oper} {a : Act} {g o n c i : Nat} (x y : Operand) (ho : op.op = .indexAddr 65 x y) (hx : a.eval x = .slice (some ⟨g, o, none⟩) n c) (hy : a.eval y = .int .i64 (i : Int)) (hi : i < n) (w : World) : (execOp a.eval op).run Try.prog w = .ok (.value (.pointer (some ⟨g, o + i * 7, none⟩))) w := by
  have h1 : (i : Int) < (n : Int) := by omega
  have h2 : ¬ (n : Int) ≤ (i : Int) := by omega
  unfold execOp
  simp only [ho, hx, hy]
  go_simp
theorem subR_run {op : Oper} {a : Act} {p q r : Int} (x y : Operand) (ho : op.op = .binOp .sub 3 x y 3) (hx : a.eval x = .int .i64 p) (hy : a.eval y = .int .i64 q) (hr : p - q = r) (h0 : -9223372036854775808 ≤ r) (h1 : r ≤ 9223372036854775807) (w : World) : (execOp a.eval op).run Try.prog w = .ok (.value (.int .i64 r)) w := by
  have hw : IntKind.i64.wrap (p - q) = r := by rw [IntKind.wrap_i64]; omega
  have hw' : wrap64 (p - q) = r := by unfold wrap64; omega
  unfold execOp
  simp only [ho, hx, hy]
  clear hr
  go_simp
/-- Where the turning round stands. -/
structure OB (w W : World) (G : Lg) (l : List Bk) (v : Value) (k : Nat) : Prop where
  at' : LgAt W G
  fr : Fr w W G.own
  row : RowAt W 42 5 v (opT l k).length (flatL Bk.cl (opT l k))
  low : ∀ q, v.ownBlock = some q → w.heap.size ≤ q
theorem OB.below {w W W' : World} {G : Lg} {l : List Bk} {v : Value} {k : Nat} (h : OB w W G l v k) (hb : Below W.heap.size W W') : OB w W' G l v k :=
  ⟨h.at'.below hb, h.fr.both (Fr.of_below hb _), h.row.fr (Fr.of_below hb (fun _ => False)) fun _ _ => id, h.low⟩
theorem OB.step {w W : World} {G : Lg} {l : List Bk} {lg lo N cap k : Nat} {b : Bk} (h : OB w W G l (.slice (some ⟨lg, lo, none⟩) N cap) k) (hN : N = l.length) (hown : ∀ x, G.own x → x < w.heap.size) (hb : l[k]? = some b) : OB w (W.setCells lg (lo + k * 5) b.opp.cs.toList) G l (.slice (some ⟨lg, lo, none⟩) N cap) (k + 1) := by
  obtain ⟨l1, l2, e1, e2, e3⟩ := opT_step hb
  have hlg := h.low lg rfl
  have hf := Fr.setCells lg (fun b => b = lg) rfl b.opp.cs.toList (lo + k * 5) W
  have hl1 : (opT l k).length = N := by rw [opT_len, hN]
  have hl2 : (opT l (k + 1)).length = N := by rw [opT_len, hN]
  refine ⟨h.at'.fr hf (fun x hx e => by have := hown x hx; omega), h.fr.trans hf (fun i hi q => ?_), ?_, h.low⟩
  · rcases q with q | q
    · exact q
    · omega
  · have h1 := h.row
    rw [hl1, e1] at h1
    rw [hl2, e3]
    have hlen : (l1 ++ b :: l2).length = N := by rw [← e1, hl1]
    have h2 := RowAt.sets b.opp.cl (l1.length * 5) _ W h1 (by rw [flatL_len Bk.cl_len, Bk.cl_len]; simp; omega)
    rw [put_flat, e2] at h2
    exact h2
section
variable {G : Lg} {w : World}
set_option maxRecDepth 100000 in
set_option maxHeartbeats 1000000 in
theorem Break_none (n : Int) (h : LgAt w G) (hn : n < 1 ∨ (1 ≤ n ∧ (G.bs.length : Int) < n)) :
    Calls Try.prog 12 #[.pointer (some ⟨G.g, 0, none⟩), .int .i64 n] w fun e w' => e = .returned (.int .i64 121) ∧ w' = w := by
  obtain ⟨abv, cbv, hbv, _⟩ := h.brs.form
  have c4 : w.cell? ⟨G.g, 4, none⟩ = some (.slice abv G.bs.length cbv) := by
    have := h.blk.cell 4
    rw [← hbv]
    exact this
  clear h hbv
  rcases hn with hn | ⟨hn1, hn2⟩
  · go_enter Try.func12, Try.ntmps12
    go_wp2
    go_ret
    exact ⟨rfl, rfl⟩
  · have hn1' : ¬ n < 1 := by omega
    go_enter Try.func12, Try.ntmps12
    go_wp2
    go_ret
    exact ⟨rfl, rfl⟩
set_option maxRecDepth 100000 in
set_option maxHeartbeats 1000000 in
theorem Break_gone (i : Nat) (h : LgAt w G) (hi : G.bs[i]? = some true) (hl : G.bs.length ≤ 100000) :
    Calls Try.prog 12 #[.pointer (some ⟨G.g, 0, none⟩), .int .i64 ((i : Int) + 1)] w fun e w' => e = .returned (.int .i64 111) ∧ w' = w := by
  have hil := (List.getElem?_eq_some_iff.1 hi).1
  obtain ⟨lg, lo, cap, _, hv, _⟩ := h.brs.more (by omega)
  have c4 : w.cell? ⟨G.g, 4, none⟩ = some (.slice (some ⟨lg, lo, none⟩) G.bs.length cap) := by
    have := h.blk.cell 4
    rw [← hv]
    exact this
  have ci : w.cell? ⟨lg, lo + i, none⟩ = some (.bool true) := by
    have h1 := flatL_get booC_len hi (k := 0) (by decide)
    rw [Nat.mul_one, Nat.add_zero] at h1
    exact h.brs.cell hv h1
  clear h hi hv
  have h1 : ¬ (i : Int) + 1 < 1 := by omega
  have h2 : ¬ (G.bs.length : Int) < (i : Int) + 1 := by omega
  have h3 : (i : Int) < (G.bs.length : Int) := by omega
  go_enter Try.func12, Try.ntmps12
  go_wp2
  go_ret
  exact ⟨rfl, rfl⟩
set_option maxRecDepth 100000 in
set_option maxHeartbeats 1000000 in
theorem Break_state (i : Nat) (h : LgAt w G) (hi : G.bs[i]? = some false) (hl : G.bs.length ≤ 100000) (hle : G.ts.length ≤ G.bs.length) (hc : i + 1 ≤ G.bs.length - G.ts.length) :
    Calls Try.prog 12 #[.pointer (some ⟨G.g, 0, none⟩), .int .i64 ((i : Int) + 1)] w fun e w' => e = .returned (.int .i64 2) ∧ ∃ n, w' = w.drewN n := by
  have hil := (List.getElem?_eq_some_iff.1 hi).1
  obtain ⟨lg, lo, cap, _, hv, _⟩ := h.brs.more (by omega)
  obtain ⟨atv, ctv, htv, _⟩ := h.trs.form
  have c4 : w.cell? ⟨G.g, 4, none⟩ = some (.slice (some ⟨lg, lo, none⟩) G.bs.length cap) := by
    have := h.blk.cell 4
    rw [← hv]
    exact this
  have c3 : w.cell? ⟨G.g, 3, none⟩ = some (.slice atv G.ts.length ctv) := by
    have := h.blk.cell 3
    rw [← htv]
    exact this
  have ci : w.cell? ⟨lg, lo + i, none⟩ = some (.bool false) := by
    have h1 := flatL_get booC_len hi (k := 0) (by decide)
    rw [Nat.mul_one, Nat.add_zero] at h1
    exact h.brs.cell hv h1
  clear h hi hv htv
  generalize G.bs.length = N at *
  generalize G.ts.length = K at *
  have h1 : ¬ (i : Int) + 1 < 1 := by omega
  have h2 : ¬ (N : Int) < (i : Int) + 1 := by omega
  have h3 : (i : Int) < (N : Int) := by omega
  have hw : IntKind.i64.wrap ((N : Int) - (K : Int)) = (N : Int) - (K : Int) := by rw [IntKind.wrap_i64]; omega
  have hw' : wrap64 ((N : Int) - (K : Int)) = (N : Int) - (K : Int) := by unfold wrap64; omega
  have h4 : (i : Int) + 1 ≤ (N : Int) - (K : Int) := by omega
  go_enter Try.func12, Try.ntmps12
  go_upto_region 5 with fail
  go_quiet (fail)
  go_wp2
  go_ret
  exact ⟨rfl, _, rfl⟩
set_option maxRecDepth 100000 in
set_option maxHeartbeats 4000000 in
theorem Break_yes (j c : Nat) (t : Tr) (h : LgAt w G) (hc : c + G.ts.length = G.bs.length) (ht : G.ts[j]? = some t) (hi : G.bs[c + j]? = some false) (hl : G.bs.length ≤ 100000) (hm : t.may = true) {B M : Int} {n : Nat} (hd : Bd G B n) (hb : ∀ b ∈ bkL t, b.inn M) (hM : 0 ≤ M) (hB0 : 0 ≤ B) (hBM : B + 3 * M ≤ 1000000000000000000) (hn : n + 3 < maxLen) :
    Calls Try.prog 12 #[.pointer (some ⟨G.g, 0, none⟩), .int .i64 (((c + j : Nat) : Int) + 1)] w fun e w' => e = .returned (.int .i64 0) ∧ Hid (LgAt w' ((addsL G ((bkL t).map Bk.opp)).brokeB (c + j)) ∧ Fr w w' G.own) := by
  have hil := (List.getElem?_eq_some_iff.1 hi).1
  have hjl := (List.getElem?_eq_some_iff.1 ht).1
  have htz : t.sz := h.szR t (List.mem_of_getElem? ht)
  have HBk : Hid (∀ W, Calls Try.prog 25 #[.agg t.cs] W fun e w' => ∃ v, e = .returned v ∧ Hid (RowAt w' 42 5 v (bkL t).length (flatL Bk.cl (bkL t)) ∧ Below W.heap.size W w' ∧ ∀ q, v.ownBlock = some q → W.heap.size ≤ q)) := fun W => bookings_any t W hm
  have HBo : Hid (∀ v W, LgAt W G → RowAt W 42 5 v ((bkL t).map Bk.opp).length (flatL Bk.cl ((bkL t).map Bk.opp)) → Calls Try.prog 24 #[.pointer (some ⟨G.g, 0, none⟩), v] W fun e w' => e = .returned (.int .i64 0) ∧ Hid (LgAt w' (addsL G ((bkL t).map Bk.opp)) ∧ Fr W w' G.own)) := fun v W hl hr => by
    have hl3 := bkL_len t
    have hl4 : ((bkL t).map Bk.opp).length = (bkL t).length := List.length_map _
    have hmul : (((bkL t).map Bk.opp).length : Int) * M ≤ 3 * M := Int.mul_le_mul_of_nonneg_right (by omega) hM
    refine book_yes G ((bkL t).map Bk.opp) v W hl hr hd (fun b hb' => ?_) (fun b hb' => ?_) hM hB0 (by omega) (by omega) (by omega)
    · obtain ⟨x, hx, rfl⟩ := List.mem_map.1 hb'
      exact (hb x hx).opp
    · obtain ⟨x, hx, rfl⟩ := List.mem_map.1 hb'
      exact bkL_sz htz x hx
  have HOp : Hid (∀ (k : Nat) (b : Bk) (W : World), (bkL t)[k]? = some b → Calls Try.prog 26 #[.agg b.cs] W fun e w' => e = .returned (.agg b.opp.cs) ∧ Below W.heap.size W w') := fun k b W hk => by
    obtain ⟨⟨m1, m2, m3, m4, m5, m6⟩, _, _⟩ := hb b (List.mem_of_getElem? hk)
    simp only [Bk.am] at m1 m2 m3 m4 m5 m6
    exact opposite_any b W ⟨by omega, by omega⟩ ⟨by omega, by omega⟩ ⟨by omega, by omega⟩
  have HLn : Hid ((bkL t).length ≤ 3) := bkL_len t
  obtain ⟨lg, lo, cap, _, hv, _⟩ := h.brs.more (by omega)
  obtain ⟨tg, tq, tcap, _, htv, _⟩ := h.trs.more (by omega)
  have c4 : w.cell? ⟨G.g, 4, none⟩ = some (.slice (some ⟨lg, lo, none⟩) G.bs.length cap) := by
    have := h.blk.cell 4
    rw [← hv]
    exact this
  have c3 : w.cell? ⟨G.g, 3, none⟩ = some (.slice (some ⟨tg, tq, none⟩) G.ts.length tcap) := by
    have := h.blk.cell 3
    rw [← htv]
    exact this
  have ci : w.cell? ⟨lg, lo + (c + j), none⟩ = some (.bool false) := by
    have h1 := flatL_get booC_len hi (k := 0) (by decide)
    rw [Nat.mul_one, Nat.add_zero] at h1
    exact h.brs.cell hv h1
  have HRg : Hid (w.rangeAt tg (tq + j * 7) t.cs.toList) := fun q u hu => by
    have hq : q < 7 := (List.getElem?_eq_some_iff.1 hu).1
    rw [Nat.add_assoc]
    exact h.trs.cell htv ((flatL_get Tr.cl_len ht hq).trans hu)
  have H0 : Hid (LgAt w G) := h
  have HV : Hid (G.bv = .slice (some ⟨lg, lo, none⟩) G.bs.length cap) := hv
  clear h hi hv htv ht hm hd hb hM hB0 hBM hn htz
  generalize hN : G.bs.length = N at *
  generalize hK : G.ts.length = K at *
  obtain ⟨i, hi⟩ : ∃ i : Nat, i = c + j := ⟨_, rfl⟩
  rw [← hi] at ci hil ⊢
  have HI : Hid (i = c + j ∧ i < N) := ⟨hi, hil⟩
  have h1 : ¬ (i : Int) + 1 < 1 := by omega
  have h2 : ¬ (N : Int) < (i : Int) + 1 := by omega
  have h3 : (i : Int) < (N : Int) := by omega
  have hw : IntKind.i64.wrap ((N : Int) - (K : Int)) = (c : Int) := by rw [IntKind.wrap_i64]; omega
  have hw' : wrap64 ((N : Int) - (K : Int)) = (c : Int) := by unfold wrap64; omega
  have h4 : ¬ (i : Int) + 1 ≤ (c : Int) := by omega
  have h5 : (i : Int) - (c : Int) = (j : Int) := by omega
  have H5 : Hid ((i : Int) - (c : Int) = (j : Int)) := h5
  clear h5 hi
  go_enter Try.func12, Try.ntmps12
  go_upto_region 5 with fail
  go_quiet (fail)
  have H1 : Hid (LgAt (w.drewN nq) G ∧ Fr w (w.drewN nq) G.own ∧ (w.drewN nq).rangeAt tg (tq + j * 7) t.cs.toList ∧ ∀ x, G.own x → x < w.heap.size) := ⟨H0.out.below (below_drewN (Below.refl _ w) nq), (Fr.refl w G.own).drewN nq, HRg.out, fun x hx => H0.out.lt hx⟩
  have d3 : (w.drewN nq).cell? ⟨G.g, 3, none⟩ = some (.slice (some ⟨tg, tq, none⟩) K tcap) := c3
  clear c3 c4 ci H0 HRg
  generalize w.drewN nq = W at *
  go_upto_region 8 with fail
  rename_i K8 hK8
  refine wp_region_lit ?_
  refine wpList_runTo rfl (some 43) rfl (.pointer (some ⟨G.g, 0, none⟩)) W (by kernel_rfl) ?_
  simp only [Act.put, List.setIfInBounds_toArray, List.set_cons_zero, List.set_cons_succ]
  refine wpList_runTo rfl (some 44) rfl (.pointer (some ⟨G.g, 0, none⟩)) W (by kernel_rfl) ?_
  simp only [Act.put, List.setIfInBounds_toArray, List.set_cons_zero, List.set_cons_succ]
  refine wpList_runTo rfl (some 45) rfl (.pointer (some ⟨G.g, 3, none⟩)) W (by kernel_rfl) ?_
  simp only [Act.put, List.setIfInBounds_toArray, List.set_cons_zero, List.set_cons_succ]
  refine wpList_runTo rfl (some 46) rfl (.slice (some ⟨tg, tq, none⟩) K tcap) W (by go_simp) ?_
  simp only [Act.put, List.setIfInBounds_toArray, List.set_cons_zero, List.set_cons_succ]
  refine wpList_runTo rfl (some 47) rfl (.int .i64 ((i : Int) + 1)) W (by kernel_rfl) ?_
  simp only [Act.put, List.setIfInBounds_toArray, List.set_cons_zero, List.set_cons_succ]
  refine wpList_runTo rfl (some 48) rfl (.int .i64 (i : Int)) W (by exact subR_run (p := (i : Int) + 1) (q := 1) (.tmp 47) (.const (.int .i64 1)) rfl (by kernel_rfl) rfl (by omega) (by omega) (by omega) W) ?_
  simp only [Act.put, List.setIfInBounds_toArray, List.set_cons_zero, List.set_cons_succ]
  refine wpList_runTo rfl (some 49) rfl (.int .i64 (c : Int)) W (by kernel_rfl) ?_
  simp only [Act.put, List.setIfInBounds_toArray, List.set_cons_zero, List.set_cons_succ]
  refine wpList_runTo rfl (some 50) rfl (.int .i64 (j : Int)) W (by exact subR_run (.tmp 48) (.tmp 49) rfl (by kernel_rfl) (by kernel_rfl) H5.out (by omega) (by omega) W) ?_
  simp only [Act.put, List.setIfInBounds_toArray, List.set_cons_zero, List.set_cons_succ]
  refine wpList_runTo rfl (some 51) rfl (.pointer (some ⟨tg, tq + j * 7, none⟩)) W (by exact ixT_run (n := K) (c := tcap) (.tmp 46) (.tmp 50) rfl (by kernel_rfl) (by kernel_rfl) hjl W) ?_
  simp only [Act.put, List.setIfInBounds_toArray, List.set_cons_zero, List.set_cons_succ]
  refine wpList_runTo rfl (some 52) rfl (.agg t.cs) W (by exact ldR_run H1.out.2.2.1 rfl (.tmp 51) rfl (by kernel_rfl)) ?_
  simp only [Act.put, List.setIfInBounds_toArray, List.set_cons_zero, List.set_cons_succ]
  refine wpList_callW rfl (some 53) rfl 25 #[.agg t.cs] (by kernel_rfl) (HBk.out W) ?_
  rintro e W2 ⟨v, rfl, h2'⟩
  refine ⟨_, rfl, ?_⟩
  simp only [Act.put, List.setIfInBounds_toArray, List.set_cons_zero, List.set_cons_succ]
  refine wpList_runTo rfl (some 6) rfl (v) W2 (by kernel_rfl) ?_
  simp only [Act.put, List.setIfInBounds_toArray, List.set_cons_zero, List.set_cons_succ]
  refine wpList_nil ?_
  refine hK8 _ _ ?_
  have HO : Hid (∀ x, G.own x → x < w.heap.size) := H1.out.2.2.2
  have H2 : Hid (OB w W2 G (bkL t) v 0) := ⟨H1.out.1.below h2'.out.2.1, H1.out.2.1.both (Fr.of_below h2'.out.2.1 _), by rw [opT_zero]; exact h2'.out.1, fun q hq => Nat.le_trans H1.out.2.1.size (h2'.out.2.2 q hq)⟩
  clear H1 h2' hK8 HBk d3
  generalize hL : bkL t = l at *
  have HL : Hid (bkL t = l) := hL
  clear hL
  obtain ⟨ao, vc, hvf, _⟩ := H2.out.row.form
  rw [opT_len] at hvf
  subst hvf
  have hL3 : l.length ≤ 3 := HLn.out
  generalize hLL : l.length = L at *
  go_wp2
  go_loopw [56] (fun x wr => ∃ k : Nat, k ≤ L ∧ x = .int .i64 k ∧ Hid (OB w wr G l (.slice ao L vc) k)) (fun x _ => L - (intOf x).toNat)
  case atStart => exact ⟨0, by omega, rfl, H2.out⟩
  case round =>
    obtain ⟨k, hk, rfl, HR⟩ := hrel
    clear H2
    by_cases hlt : k < L
    · have hlt' : (k : Int) < (L : Int) := by omega
      obtain ⟨b, hbk⟩ : ∃ b, l[k]? = some b := ⟨l[k]'(by omega), List.getElem?_eq_getElem (by omega)⟩
      have HBb : Hid (l[k]? = some b) := hbk
      clear hbk
      have hop := fun W => HOp.out k b W HBb.out
      obtain ⟨vg, vo, capv, _, hv2, _⟩ := HR.out.row.more (by rw [opT_len]; omega)
      injection hv2 with hv21 hv22 hv23
      subst hv21 hv23
      clear hv22
      have HRg : Hid (wr.rangeAt vg (vo + k * 5) b.cs.toList) := fun q u hu => by
        have hq : q < 5 := (List.getElem?_eq_some_iff.1 hu).1
        obtain ⟨l1, l2, e1, e2, _⟩ := opT_step HBb.out
        have e4 : (opT l k)[k]? = some b := by rw [e1, ← e2]; simp
        rw [Nat.add_assoc]
        exact HR.out.row.cell (by rw [opT_len, hLL]) ((flatL_get Bk.cl_len e4 hq).trans hu)
      go_upto_region 11 with fail
      rename_i K11 hK11
      refine wp_region_lit ?_
      refine wpList_runTo rfl (some 58) rfl (.int .i64 (k : Int)) wr (by kernel_rfl) ?_
      simp only [Act.put, List.setIfInBounds_toArray, List.set_cons_zero, List.set_cons_succ]
      refine wpList_runTo rfl (some 59) rfl (.pointer (some ⟨vg, vo + k * 5, none⟩)) wr (by exact ixB_run (n := L) (c := vc) (.tmp 54) (.tmp 56) rfl (by kernel_rfl) (by kernel_rfl) hlt wr) ?_
      simp only [Act.put, List.setIfInBounds_toArray, List.set_cons_zero, List.set_cons_succ]
      refine wpList_runTo rfl (some 60) rfl (.agg b.cs) wr (by exact ldK_run HRg.out rfl (.tmp 59) rfl (by kernel_rfl)) ?_
      simp only [Act.put, List.setIfInBounds_toArray, List.set_cons_zero, List.set_cons_succ]
      refine wpList_runTo rfl (some 8) rfl (.pointer (some ⟨wr.heap.size, 0, none⟩)) (wr.alloc (.cells #[.string ⟨#[]⟩, .string ⟨#[]⟩, .int .i64 0, .int .i64 0, .int .i64 0] 42)) (by kernel_rfl) ?_
      simp only [Act.put, List.setIfInBounds_toArray, List.set_cons_zero, List.set_cons_succ]
      refine wpList_runTo rfl (some 7) rfl (.int .i64 (k : Int)) (wr.alloc (.cells #[.string ⟨#[]⟩, .string ⟨#[]⟩, .int .i64 0, .int .i64 0, .int .i64 0] 42)) (by kernel_rfl) ?_
      simp only [Act.put, List.setIfInBounds_toArray, List.set_cons_zero, List.set_cons_succ]
      refine wpList_store_row rfl 42 (.tmp 8) (.tmp 60) rfl wr.heap.size b.cs (by kernel_rfl) (by kernel_rfl) 42 _ (Blk.new _ _ _) (by kernel_rfl) rfl (by kernel_rfl) ?_
      refine wpList_nil ?_
      refine hK11 _ _ ?_
      simp only [Act.put, List.setIfInBounds_toArray, List.set_cons_zero, List.set_cons_succ]
      have HX : Hid (OB w ((wr.alloc (.cells #[.string ⟨#[]⟩, .string ⟨#[]⟩, .int .i64 0, .int .i64 0, .int .i64 0] 42)).setRow wr.heap.size b.cs) G l (.slice (some ⟨vg, vo, none⟩) L vc) k ∧ Blk ((wr.alloc (.cells #[.string ⟨#[]⟩, .string ⟨#[]⟩, .int .i64 0, .int .i64 0, .int .i64 0] 42)).setRow wr.heap.size b.cs) wr.heap.size 42 b.cs) := ⟨HR.out.below (below_alloc_set _ _), setRow_heap _ _ _ _ _ _ (Blk.new _ _ _)⟩
      clear HR HRg hK11
      generalize (wr.alloc (.cells #[.string ⟨#[]⟩, .string ⟨#[]⟩, .int .i64 0, .int .i64 0, .int .i64 0] 42)).setRow wr.heap.size b.cs = X at *
      generalize wr.heap.size = bb at *
      go_upto_region 12 with fail
      rename_i K12 hK12
      refine wp_region_lit ?_
      refine wpList_runTo rfl (some 61) rfl (.slice (some ⟨vg, vo, none⟩) L vc) X (by kernel_rfl) ?_
      simp only [Act.put, List.setIfInBounds_toArray, List.set_cons_zero, List.set_cons_succ]
      refine wpList_runTo rfl (some 62) rfl (.int .i64 (k : Int)) X (by kernel_rfl) ?_
      simp only [Act.put, List.setIfInBounds_toArray, List.set_cons_zero, List.set_cons_succ]
      refine wpList_runTo rfl (some 63) rfl (.agg b.cs) X (by exact ldK_run HX.out.2.range rfl (.tmp 8) rfl (by kernel_rfl)) ?_
      simp only [Act.put, List.setIfInBounds_toArray, List.set_cons_zero, List.set_cons_succ]
      refine wpList_callW rfl (some 64) rfl 26 #[.agg b.cs] (by kernel_rfl) (hop X) ?_
      rintro e X2 ⟨rfl, hb2⟩
      refine ⟨_, rfl, ?_⟩
      simp only [Act.put, List.setIfInBounds_toArray, List.set_cons_zero, List.set_cons_succ]
      have HX2 : Hid (OB w X2 G l (.slice (some ⟨vg, vo, none⟩) L vc) k) := HX.out.1.below hb2
      clear HX hb2 hop
      refine wpList_runTo rfl (some 65) rfl (.pointer (some ⟨vg, vo + k * 5, none⟩)) X2 (by exact ixB_run (n := L) (c := vc) (.tmp 61) (.tmp 62) rfl (by kernel_rfl) (by kernel_rfl) hlt X2) ?_
      simp only [Act.put, List.setIfInBounds_toArray, List.set_cons_zero, List.set_cons_succ]
      have hth : X2.there vg (vo + k * 5) b.opp.cs.size := by
        have h0 := HX2.out.row
        rw [opT_len, hLL] at h0
        exact h0.there (by rw [opT_len]; omega)
      refine wpList_store_mid rfl 42 (.tmp 65) (.tmp 64) rfl vg (vo + k * 5) b.opp.cs (by kernel_rfl) (by kernel_rfl) hth (by kernel_rfl) (by kernel_rfl) ?_
      refine wpList_nil ?_
      simp only [Act.put, List.setIfInBounds_toArray, List.set_cons_zero, List.set_cons_succ]
      have HF : Hid (OB w (X2.setCells vg (vo + k * 5) b.opp.cs.toList) G l (.slice (some ⟨vg, vo, none⟩) L vc) (k + 1)) := HX2.out.step hLL.symm HO.out HBb.out
      clear HX2 hth
      generalize X2.setCells vg (vo + k * 5) b.opp.cs.toList = X3 at *
      go_wp2
      exact ⟨⟨k + 1, by omega, by go_num, HF⟩, by simp [intOf]; omega⟩
    · have hkL : k = L := by omega
      have hstop : ¬ (k : Int) < (L : Int) := by omega
      have HE : Hid (LgAt wr G ∧ Fr w wr G.own ∧ RowAt wr 42 5 (.slice ao L vc) (l.map Bk.opp).length (flatL Bk.cl (l.map Bk.opp))) := by
        have h0 := HR.out.row
        rw [hkL, ← hLL, opT_all, hLL] at h0
        exact ⟨HR.out.at', HR.out.fr, h0⟩
      have hbo := HBo.out (.slice ao L vc) wr HE.out.1 HE.out.2.2
      clear HR hlt hkL
      go_wp2_with (go_at_call 24; fail)
      refine hbo.mono ?_
      rintro e w5 ⟨rfl, h5⟩
      have H5' : Hid (LgAt w5 (addsL G (l.map Bk.opp)) ∧ Fr w w5 G.own) := ⟨h5.out.1, HE.out.2.1.both h5.out.2⟩
      clear hbo h5 HE
      have HGs : Hid ((addsL G (l.map Bk.opp)).g = G.g ∧ (∀ x, (addsL G (l.map Bk.opp)).own x ↔ G.own x) ∧ (addsL G (l.map Bk.opp)).bv = G.bv ∧ (addsL G (l.map Bk.opp)).bs = G.bs) := ⟨(addsL_same G _).1, (addsL_same G _).2.1, (addsL_same G _).2.2.2.1, (addsL_same G _).2.2.2.2.2.1⟩
      generalize hG1 : addsL G (l.map Bk.opp) = G1 at *
      have HG1 : Hid (addsL G (l.map Bk.opp) = G1) := hG1
      clear hG1
      have hv1 : G1.bv = .slice (some ⟨lg, lo, none⟩) G1.bs.length cap := by rw [HGs.out.2.2.1, HGs.out.2.2.2, hN]; exact HV.out
      have hfin := H5'.out.1.brokeB hv1 (i := i) (by rw [HGs.out.2.2.2, hN]; exact HI.out.2)
      have HFin : Hid (LgAt (w5.setCell ⟨lg, lo + i, none⟩ (.bool true)) (G1.brokeB i) ∧ Fr w (w5.setCell ⟨lg, lo + i, none⟩ (.bool true)) G.own) := ⟨hfin.1, H5'.out.2.both (hfin.2.mono fun x _ e => (HGs.out.2.1 x).1 e)⟩
      have g4 : w5.cell? ⟨G.g, 4, none⟩ = some (.slice (some ⟨lg, lo, none⟩) N cap) := by
        have := H5'.out.1.blk.cell 4
        rw [HGs.out.1] at this
        rw [this, ← HV.out, ← HGs.out.2.2.1]; rfl
      have hri := H5'.out.1.brs
      rw [hv1] at hri
      have ci : ∃ x, w5.cell? ⟨lg, lo + i, none⟩ = some (.bool x) := by
        have hil2 : i < G1.bs.length := by rw [HGs.out.2.2.2, hN]; exact HI.out.2
        have h1 := flatL_get booC_len (List.getElem?_eq_getElem hil2) (k := 0) (by decide)
        rw [Nat.mul_one, Nat.add_zero] at h1
        exact ⟨_, hri.cell rfl h1⟩
      obtain ⟨xb, ci⟩ := ci
      have fi : w5.frozen? ⟨lg, lo + i, none⟩ = false := hri.frozen rfl _
      clear hfin hri hv1 H5'
      go_wp2
      go_ret
      exact ⟨rfl, by rw [HL.out, HG1.out]; exact HFin.out⟩
end
end Go.Proofs.Ytidhahooebepfaa
