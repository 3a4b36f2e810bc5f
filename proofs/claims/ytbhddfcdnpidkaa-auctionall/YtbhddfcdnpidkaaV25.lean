/-
  auction: the law's pick, and orders out of raw numbers.
-/
import Derived.Test.YtbhddfcdnpidkaaV24
namespace Go.Proofs.Ytbhddfcdnpidkaa
set_option linter.unusedVariables false
set_option linter.unusedSimpArgs false
open Go.RowKit Go.Great
attribute [local irreducible] wpList

def pk (c n : Int) : Int := (if c < 0 then -(c + 1) else c) % n
theorem pk_bd (c : Int) {n : Int} (hn : 0 < n) : 0 ≤ pk c n ∧ pk c n < n := ⟨Int.emod_nonneg _ (by omega), Int.emod_lt_of_pos _ hn⟩
set_option maxRecDepth 100000 in
theorem pick_any (c n : Int) (hc : -9223372036854775808 ≤ c ∧ c ≤ 9223372036854775807) (hn : 0 < n ∧ n ≤ 1000) (w : World) : Calls Try.prog 8 #[.int .i64 c, .int .i64 n] w fun e w' => e = .returned (.int .i64 (pk c n)) ∧ w' = w := by
  have hn0 : ¬ n = 0 := by omega
  have hn1 : ¬ n = -1 := by omega
  have hnb : (n == 0) = false := by simp [hn0]
  have hnc : (n == -1) = false := by simp [hn1]
  by_cases h : c < 0
  · have e1 : IntKind.i64.wrap (c + 1) = c + 1 := by rw [IntKind.wrap_i64]; omega
    have e2 : IntKind.i64.wrap (-(c + 1)) = -(c + 1) := by rw [IntKind.wrap_i64]; omega
    have ht : Int.tmod (-(c + 1)) n = pk c n := by unfold pk; rw [if_pos h]; exact Int.tmod_eq_emod_of_nonneg (by omega)
    have hb := pk_bd c hn.1
    have e3 : IntKind.i64.wrap (pk c n) = pk c n := by rw [IntKind.wrap_i64]; omega
    generalize pk c n = R at *
    go_enter Try.func8, Try.ntmps8
    go_wp2
    go_ret
    exact ⟨by simp_all, rfl⟩
  · have ht : Int.tmod c n = pk c n := by unfold pk; rw [if_neg h]; exact Int.tmod_eq_emod_of_nonneg (by omega)
    have hb := pk_bd c hn.1
    have e3 : IntKind.i64.wrap (pk c n) = pk c n := by rw [IntKind.wrap_i64]; omega
    generalize pk c n = R at *
    go_enter Try.func8, Try.ntmps8
    go_wp2
    go_ret
    exact ⟨by simp_all, rfl⟩
/-- A raw order. -/
structure Rw where
  x : Int
  y : Int
def rL (r : Rw) : List Value := [.int .i64 r.x, .int .i64 r.y]
theorem rL_len (r : Rw) : (rL r).length = 2 := rfl
structure Rw.ok (r : Rw) : Prop where
  x0 : -9223372036854775808 ≤ r.x ∧ r.x ≤ 9223372036854775807
  y0 : -9223372036854775808 ≤ r.y ∧ r.y ≤ 9223372036854775807
/-- The order that it makes. -/
def odC (id ty pr qt : Int) : Array Value := #[.int .i64 id, .string ⟨#[]⟩, .string ⟨#[]⟩, .string ⟨#[]⟩, .int .i64 0, .int .i64 ty, .int .i64 0, .int .i64 pr, .int .i64 0, .int .i64 qt, .int .i64 0, .int .i64 0, .int .i64 0, .int .i64 0, .int .i64 0]
def odR (id : Int) (r : Rw) : Od := let ty : Int := if pk r.x 30 = 0 then 2 else 1; ⟨odC id ty (pk r.x 30) (1 + pk r.y 50), id, ty, pk r.x 30, 1 + pk r.y 50⟩
theorem odR_ok (id : Int) (r : Rw) : (odR id r).ok := ⟨rfl, by simp [odR, odC, Value.oneCell'], rfl, rfl, rfl, rfl⟩
def odsL (from_ : Int) : List Rw → List Od
  | [] => []
  | r :: l => odR from_ r :: odsL (from_ + 1) l
theorem odsL_len : ∀ (l : List Rw) (f : Int), (odsL f l).length = l.length
  | [], _ => rfl
  | r :: l, f => by simp [odsL, odsL_len l]
theorem odsL_take : ∀ (l : List Rw) (f : Int) {i : Nat} {r : Rw}, l[i]? = some r → odsL f (l.take (i + 1)) = odsL f (l.take i) ++ [odR (f + i) r]
  | [], _, _, _, h => by simp at h
  | a :: l, f, 0, r, h => by
    simp only [List.getElem?_cons_zero, Option.some.injEq] at h
    subst h
    simp [odsL]
  | a :: l, f, i + 1, r, h => by
    simp only [List.getElem?_cons_succ] at h
    simp only [List.take_succ_cons, odsL, List.cons_append]
    rw [odsL_take l (f + 1) h, show f + 1 + (i : Int) = f + ((i + 1 : Nat) : Int) by omega]
theorem odsL_ok : ∀ (l : List Rw) (f : Int), ∀ o ∈ odsL f l, o.ok
  | [], _, o, h => by simp [odsL] at h
  | r :: l, f, o, h => by
    rcases List.mem_cons.1 h with rfl | h
    · exact odR_ok _ _
    · exact odsL_ok l _ o h
theorem wpList_skipW {P : Program} {ops : Array Oper} {rest : List Oper} {op : Oper} {a : Act} {w w' : World} {Q : Exit → Act → World → Prop} (hg : op.guard = none) (d : Option Tmp) (hd : op.dst = d) (hrun : (execOp a.eval op).run P w = .ok .skip w') (h : wpList P ops Q rest (a.put d undef) w') : wpList P ops Q (op :: rest) a w := by
  subst hd
  refine wpList_plain hg fun K hK => ?_
  unfold Oper.wp
  rw [hrun]
  exact hK _ _ h
theorem stN_run {op : Oper} {a : Act} {w : World} {g o : Nat} {z z0 : Int} {T : TypeId} (hT : T = 2 ∨ T = 3) (x y : Operand) (ho : op.op = .store T x y) (hx : a.eval x = .pointer (some ⟨g, o, none⟩)) (hy : a.eval y = .int .i64 z) (h : w.cell? ⟨g, o, none⟩ = some (.int .i64 z0)) (hf : w.frozen? ⟨g, o, none⟩ = false) : (execOp a.eval op).run Try.prog w = .ok .skip (w.setCell ⟨g, o, none⟩ (.int .i64 z)) := by
  unfold execOp
  simp only [ho, hx, hy]
  rcases hT with rfl | rfl <;> go_simp
theorem addN_run {op : Oper} {a : Act} {p q : Int} (x y : Operand) (ho : op.op = .binOp .add 3 x y 3) (hx : a.eval x = .int .i64 p) (hy : a.eval y = .int .i64 q) (h : -9223372036854775808 ≤ p + q ∧ p + q ≤ 9223372036854775807) (w : World) : (execOp a.eval op).run Try.prog w = .ok (.value (.int .i64 (p + q))) w := by
  unfold execOp
  simp only [ho, hx, hy]
  go_simp
  try (rw [IntKind.wrap_i64]; omega)
theorem ixRw_run {op : Oper} {a : Act} {g o n c i : Nat} (x y : Operand) (ho : op.op = .indexAddr 22 x y) (hx : a.eval x = .slice (some ⟨g, o, none⟩) n c) (hy : a.eval y = .int .i64 (i : Int)) (hi : i < n) (w : World) : (execOp a.eval op).run Try.prog w = .ok (.value (.pointer (some ⟨g, o + i * 2, none⟩))) w := by
  have h1 : (i : Int) < (n : Int) := by omega
  have h2 : ¬ (n : Int) ≤ (i : Int) := by omega
  unfold execOp
  simp only [ho, hx, hy]
  go_simp
theorem infoOd : (Try.prog.info? 42).map (fun i => (i.zero, i.size, i.bytes)) = some (some (.agg #[.int .i64 0, .string ⟨#[]⟩, .string ⟨#[]⟩, .string ⟨#[]⟩, .int .i64 0, .int .i64 0, .int .i64 0, .int .i64 0, .int .i64 0, .int .i64 0, .int .i64 0, .int .i64 0, .int .i64 0, .int .i64 0, .int .i64 0]), 15, 144) := by kernel_rfl
theorem buildOs_run {op : Oper} {a : Act} {id ty pr qt : Int} (x : Operand) (ho : op.op = .buildSlice 24 1 #[(0, x)]) (hx : a.eval x = .agg #[.int .i64 id, .string ⟨#[]⟩, .string ⟨#[]⟩, .string ⟨#[]⟩, .int .i64 0, .int .i64 ty, .int .i64 0, .int .i64 pr, .int .i64 0, .int .i64 qt, .int .i64 0, .int .i64 0, .int .i64 0, .int .i64 0, .int .i64 0]) (w : World) : (execOp a.eval op).run Try.prog w = .ok (.value (.slice (some ⟨w.heap.size, 0, none⟩) 1 1)) (w.alloc (.cells (odC id ty pr qt) 42)) := by
  unfold execOp
  simp only [ho, List.map_toArray, List.map_cons, List.map_nil, hx]
  kernel_rfl
/-- Orders so far. -/
structure OO (w W : World) (v : Value) (D : List Od) : Prop where
  row : RowAt W 42 15 v D.length (flatL (fun o => o.cs.toList) D)
  bel : Below w.heap.size w W
  own : ∀ q, v.ownBlock = some q → w.heap.size ≤ q
theorem OO.below {w W W' : World} {v : Value} {D : List Od} (h : OO w W v D) (hb : Below W.heap.size W W') : OO w W' v D := ⟨h.row.fr (Fr.of_below hb (fun _ => False)) fun _ _ => id, below_step h.bel hb, h.own⟩
theorem OO.app {w W W' : World} {v v' : Value} {D : List Od} {p : Od} (h : OO w W v D) (hrow : RowAt W' 42 15 v' (D.length + 1) (flatL (fun o => o.cs.toList) D ++ p.cs.toList)) (hfr : Fr W W' (fun b => v.ownBlock = some b)) (hnew : v'.ownBlock = v.ownBlock ∨ v'.ownBlock = some W.heap.size ∧ ∀ k, k < W.heap.size → W'.heap[k]? = W.heap[k]?) : OO w W' v' (D ++ [p]) := by
  refine ⟨?_, ⟨hfr.os.trans h.bel.os, hfr.tape.trans h.bel.tape, hfr.output.trans h.bel.output, Nat.le_trans h.bel.size hfr.size, fun q hq => (hfr.block q (Nat.lt_of_lt_of_le hq h.bel.size) (fun e => by have := h.own q e; omega)).trans (h.bel.block q hq)⟩, fun q hq => ?_⟩
  · rw [List.length_append, flatL_app, flatL_one]
    exact hrow
  · rcases hnew with h1 | ⟨h1, _⟩
    · exact h.own q (h1 ▸ hq)
    · rw [h1] at hq
      injection hq with hq
      have := h.bel.size
      omega
/-- Pairs of numbers that lie in a row, wherever. -/
def PrAt (w : World) (a : Option Addr) (l : List Rw) : Prop := l = [] ∨ ∃ g o, a = some ⟨g, o, none⟩ ∧ ∀ (i : Nat) r, l[i]? = some r → w.cell? ⟨g, o + i * 2, none⟩ = some (.int .i64 r.x) ∧ w.cell? ⟨g, o + i * 2 + 1, none⟩ = some (.int .i64 r.y)
theorem PrAt.fr {w w' : World} {a : Option Addr} {l : List Rw} {S : Nat → Prop} (h : PrAt w a l) (hf : Fr w w' S) (hs : ∀ q, (∃ o, a = some ⟨q, o, none⟩) → ¬ S q) : PrAt w' a l := h.imp id fun ⟨g, o, e, h⟩ => ⟨g, o, e, fun i r hr => ⟨hf.cell (h i r hr).1 (hs g ⟨o, e⟩), hf.cell (h i r hr).2 (hs g ⟨o, e⟩)⟩⟩
theorem PrAt.more {w : World} {a : Option Addr} {l : List Rw} {i : Nat} {r : Rw} (h : PrAt w a l) (hr : l[i]? = some r) : ∃ g o, a = some ⟨g, o, none⟩ ∧ w.cell? ⟨g, o + i * 2, none⟩ = some (.int .i64 r.x) ∧ w.cell? ⟨g, o + i * 2 + 1, none⟩ = some (.int .i64 r.y) := by
  rcases h with rfl | ⟨g, o, e, h⟩
  · simp at hr
  · exact ⟨g, o, e, h i r hr⟩
set_option maxRecDepth 100000 in
set_option maxHeartbeats 4000000 in
theorem orders_any {w : World} {l : List Rw} {a : Option Addr} {c : Nat} (fr : Int) (hr : PrAt w a l) (hok : ∀ r ∈ l, r.ok) (hl : l.length ≤ 900000000000) (hf : 0 ≤ fr ∧ fr ≤ 1000000000001) :
    Calls Try.prog 7 #[.slice a l.length c, .int .i64 fr] w fun e w' => ∃ v, e = .returned v ∧ Hid (OO w w' v (odsL fr l)) := by
  obtain ⟨i0, hi0, hz0, hz1, hz2⟩ := info_parts infoOd
  have HI : Hid (Try.prog.info? 42 = some i0 ∧ i0.zero = some (.agg #[.int .i64 0, .string ⟨#[]⟩, .string ⟨#[]⟩, .string ⟨#[]⟩, .int .i64 0, .int .i64 0, .int .i64 0, .int .i64 0, .int .i64 0, .int .i64 0, .int .i64 0, .int .i64 0, .int .i64 0, .int .i64 0, .int .i64 0]) ∧ i0.size = 15 ∧ i0.bytes = 144) := ⟨hi0, hz0, hz1, hz2⟩
  clear hi0 hz0 hz1 hz2
  obtain ⟨n, hn⟩ : ∃ n, n = l.length := ⟨_, rfl⟩
  have HR : Hid (PrAt w a l ∧ (∀ r ∈ l, r.ok) ∧ n = l.length) := ⟨hr, hok, hn⟩
  rw [← hn] at hl ⊢
  clear hr hok hn
  go_enter Try.func7, Try.ntmps7
  go_upto_region 3 with fail
  go_loopw [5, 6] (fun x5 x6 wr => ∃ (i : Nat) (xv : Value), xv = x5 ∧ i ≤ n ∧ x6 = .int .i64 (i : Int) ∧ Hid (OO w wr xv (odsL fr (l.take i)))) (fun _ x6 _ => n - (RowKit.intOf x6).toNat)
  case atStart => exact ⟨0, _, rfl, Nat.zero_le _, rfl, RowAt.none0 _ _ _, Below.refl _ w, fun q hq => by cases hq⟩
  case round => as_aux_lemma =>
    obtain ⟨i, xv, rfl, hi, rfl, HO⟩ := hrel
    by_cases hlt : i < n
    · have hlt' : (i : Int) < (n : Int) := by omega
      obtain ⟨r, hv⟩ : ∃ r, l[i]? = some r := ⟨_, List.getElem?_eq_getElem (by rw [← HR.out.2.2]; exact hlt)⟩
      have hro := HR.out.2.1 r (List.mem_of_getElem? hv)
      have hrow : PrAt wr a l := HR.out.1.fr (Fr.of_below HO.out.bel (fun _ => False)) fun _ _ => id
      obtain ⟨g, o, ea, cX, cY⟩ := hrow.more hv
      subst ea
      have HE : Hid (odsL fr (l.take (i + 1)) = odsL fr (l.take i) ++ [odR (fr + i) r] ∧ odR (fr + i) r = ⟨odC (fr + i) (if pk r.x 30 = 0 then 2 else 1) (pk r.x 30) (1 + pk r.y 50), fr + i, if pk r.x 30 = 0 then 2 else 1, pk r.x 30, 1 + pk r.y 50⟩ ∧ (odsL fr (l.take i)).length ≤ i) := ⟨odsL_take l fr hv, rfl, by rw [odsL_len, List.length_take]; omega⟩
      have hp1 := fun W => pick_any r.x 30 hro.x0 (by omega) W
      have hp2 := fun W => pick_any r.y 50 hro.y0 (by omega) W
      have hA := pk_bd r.x (n := 30) (by omega)
      have hB := pk_bd r.y (n := 50) (by omega)
      generalize pk r.x 30 = A at *
      generalize pk r.y 50 = B at *
      generalize r.x = rx at *
      generalize r.y = ry at *
      clear hrow hv hro
      go_upto_region 5 with fail
      generalize wr = W at *
      go_cut [7] (fun x7 wx => ∃ bz : Nat, x7 = .pointer (some ⟨bz, 0, none⟩) ∧ ∃ w3, w3 = wx ∧ Hid (OO w w3 xv (odsL fr (l.take i)) ∧ Blk w3 bz 42 (odC (fr + (i : Int)) 1 A (1 + B)) ∧ (∀ q, xv.ownBlock = some q → q ≠ bz) ∧ w.heap.size ≤ bz))
      case rest => as_aux_lemma =>
        obtain ⟨bz, rfl, w3, rfl, HO3⟩ := hcut
        clear HO cX cY hp1 hp2
        generalize w3 = w3 at *
        go_upto_region 6 with fail
        rename_i K hK
        refine wp_region_lit ?_
        refine wpList_runTo rfl (some 31) rfl (.pointer (some ⟨bz, 7, none⟩)) w3 (by kernel_rfl) ?_
        simp only [Act.put, List.setIfInBounds_toArray, List.set_cons_zero, List.set_cons_succ]
        refine wpList_runTo rfl (some 32) rfl (.int .i64 A) w3 (by exact ldN_run (.inl rfl) (.tmp 31) rfl (by kernel_rfl) (HO3.out.2.1.cell 7)) ?_
        simp only [Act.put, List.setIfInBounds_toArray, List.set_cons_zero, List.set_cons_succ]
        by_cases hz : A = 0
        ·
          refine wpList_runTo rfl (some 33) rfl (.bool true) w3 (by exact eq0_run (.inl rfl) (.tmp 32) rfl (by kernel_rfl) (decide_eq_true hz) _) ?_
          simp only [Act.put, List.setIfInBounds_toArray, List.set_cons_zero, List.set_cons_succ]
          refine wpList_nil ?_
          refine hK _ _ ?_
          clear hK
          go_upto_region 7 with fail
          refine wp_region_lit ?_
          refine wpList_runTo rfl (some 34) rfl (.pointer (some ⟨bz, 5, none⟩)) w3 (by kernel_rfl) ?_
          simp only [Act.put, List.setIfInBounds_toArray, List.set_cons_zero, List.set_cons_succ]
          refine wpList_skipW rfl none rfl (w' := w3.setCell ⟨bz, 5, none⟩ (.int .i64 2)) (stN_run (.inr rfl) (.tmp 34) (.const (.int .i64 2)) rfl (by kernel_rfl) rfl (HO3.out.2.1.cell 5) (HO3.out.2.1.frozen 5)) ?_
          simp only [Act.put, List.setIfInBounds_toArray, List.set_cons_zero, List.set_cons_succ]
          have HO6 : Hid (OO w (w3.setCell ⟨bz, 5, none⟩ (.int .i64 2)) xv (odsL fr (l.take i)) ∧ Blk (w3.setCell ⟨bz, 5, none⟩ (.int .i64 2)) bz 42 (odC (fr + (i : Int)) 2 A (1 + B))) := by
            have hfr := Fr.setCell w3 ⟨bz, 5, none⟩ (.int .i64 2) (fun b => b = bz) rfl
            refine ⟨⟨HO3.out.1.row.fr hfr fun q hq => HO3.out.2.2.1 q hq, HO3.out.1.bel.trans (hfr.below HO3.out.1.bel.size fun b hb e => ?_), HO3.out.1.own⟩, HO3.out.2.1.set 5 (.int .i64 2)⟩
            have := HO3.out.2.2.2
            omega
          have HTy : Hid ((if A = 0 then (2 : Int) else 1) = 2) := if_pos hz
          clear HO3
          generalize w3.setCell ⟨bz, 5, none⟩ (.int .i64 2) = w6 at *
          refine wpList_nil ?_
          go_upto_region 8 with fail
          refine wp_region_lit ?_
          refine wpList_runTo rfl (some 35) rfl (xv) w6 (by kernel_rfl) ?_
          simp only [Act.put, List.setIfInBounds_toArray, List.set_cons_zero, List.set_cons_succ]
          refine wpList_runTo rfl (some 36) rfl (.agg (odC (fr + (i : Int)) 2 A (1 + B))) w6 (by exact ldA_run (blk_range HO6.out.2) Try.underlying42 rfl infoO (.tmp 7) rfl (by kernel_rfl)) ?_
          simp only [Act.put, List.setIfInBounds_toArray, List.set_cons_zero, List.set_cons_succ]
          refine wpList_runTo rfl (some 37) rfl (.slice (some ⟨w6.heap.size, 0, none⟩) 1 1) (w6.alloc (.cells (odC (fr + (i : Int)) 2 A (1 + B)) 42)) (by exact buildOs_run (.tmp 36) rfl (by kernel_rfl) _) ?_
          simp only [Act.put, List.setIfInBounds_toArray, List.set_cons_zero, List.set_cons_succ]
          have hrA : RowAt (w6.alloc (.cells (odC (fr + (i : Int)) 2 A (1 + B)) 42)) 42 15 xv (odsL fr (l.take i)).length (flatL (fun o => o.cs.toList) (odsL fr (l.take i))) := HO6.out.1.row.fr (Fr.alloc w6 _ (fun _ => False)) fun _ _ => id
          refine wpList_append_row _ rfl (.tmp 35) (.tmp 37) 24 rfl 42 i0 _ 15 144 Try.underlying24 HI.out.1 HI.out.2.1 HI.out.2.2.1 HI.out.2.2.2 (by rfl) xv (odsL fr (l.take i)).length (flatL (fun o => o.cs.toList) (odsL fr (l.take i))) (by kernel_rfl) hrA ⟨w6.heap.size, 0, none⟩ 1 1 (odC (fr + (i : Int)) 2 A (1 + B)).toList (by kernel_rfl) (by rfl) (fun j u hj => by rw [Addr.add_mid, Nat.zero_add, (Blk.new w6 42 (odC (fr + (i : Int)) 2 A (1 + B))).cell]; simpa using hj) (fun u hu => by simp [odC] at hu; rcases hu with rfl | rfl | rfl | rfl | rfl | rfl | rfl | rfl | rfl | rfl | rfl | rfl | rfl | rfl | rfl <;> rfl) (Or.inl (by omega)) (by have := HE.out.2.2; unfold maxLen; omega) (by have := HE.out.2.2; omega) ?_
          intro v5 w5 hrow hfr hnew
          have HF : Hid (OO w w5 v5 (odsL fr (l.take (i + 1)))) := by
            show OO w w5 v5 (odsL fr (l.take (i + 1)))
            rw [HE.out.1]
            refine (HO6.out.1.below ((Below.refl _ w6).alloc (Nat.le_refl _) _)).app (p := odR (fr + (i : Int)) r) ?_ hfr hnew
            rw [HE.out.2.1, HTy.out]
            exact hrow
          clear hrow hfr hnew hrA HO6 HE HTy
          simp only [Act.put, List.setIfInBounds_toArray, List.set_cons_zero, List.set_cons_succ]
          refine wpList_runTo rfl (some 5) rfl (v5) w5 (by kernel_rfl) ?_
          simp only [Act.put, List.setIfInBounds_toArray, List.set_cons_zero, List.set_cons_succ]
          refine wpList_nil ?_
          go_wp2
          exact ⟨⟨i + 1, _, rfl, by omega, by go_num, HF.out⟩, by simp [RowKit.intOf]; omega⟩
        ·
          refine wpList_runTo rfl (some 33) rfl (.bool false) w3 (by exact eq0_run (.inl rfl) (.tmp 32) rfl (by kernel_rfl) (decide_eq_false hz) _) ?_
          simp only [Act.put, List.setIfInBounds_toArray, List.set_cons_zero, List.set_cons_succ]
          refine wpList_nil ?_
          refine hK _ _ ?_
          clear hK
          have HO6 : Hid (OO w w3 xv (odsL fr (l.take i)) ∧ Blk w3 bz 42 (odC (fr + (i : Int)) 1 A (1 + B))) := ⟨HO3.out.1, HO3.out.2.1⟩
          have HTy : Hid ((if A = 0 then (2 : Int) else 1) = 1) := if_neg hz
          clear HO3
          generalize w3 = w6 at *
          go_upto_region 8 with fail
          refine wp_region_lit ?_
          refine wpList_runTo rfl (some 35) rfl (xv) w6 (by kernel_rfl) ?_
          simp only [Act.put, List.setIfInBounds_toArray, List.set_cons_zero, List.set_cons_succ]
          refine wpList_runTo rfl (some 36) rfl (.agg (odC (fr + (i : Int)) 1 A (1 + B))) w6 (by exact ldA_run (blk_range HO6.out.2) Try.underlying42 rfl infoO (.tmp 7) rfl (by kernel_rfl)) ?_
          simp only [Act.put, List.setIfInBounds_toArray, List.set_cons_zero, List.set_cons_succ]
          refine wpList_runTo rfl (some 37) rfl (.slice (some ⟨w6.heap.size, 0, none⟩) 1 1) (w6.alloc (.cells (odC (fr + (i : Int)) 1 A (1 + B)) 42)) (by exact buildOs_run (.tmp 36) rfl (by kernel_rfl) _) ?_
          simp only [Act.put, List.setIfInBounds_toArray, List.set_cons_zero, List.set_cons_succ]
          have hrA : RowAt (w6.alloc (.cells (odC (fr + (i : Int)) 1 A (1 + B)) 42)) 42 15 xv (odsL fr (l.take i)).length (flatL (fun o => o.cs.toList) (odsL fr (l.take i))) := HO6.out.1.row.fr (Fr.alloc w6 _ (fun _ => False)) fun _ _ => id
          refine wpList_append_row _ rfl (.tmp 35) (.tmp 37) 24 rfl 42 i0 _ 15 144 Try.underlying24 HI.out.1 HI.out.2.1 HI.out.2.2.1 HI.out.2.2.2 (by rfl) xv (odsL fr (l.take i)).length (flatL (fun o => o.cs.toList) (odsL fr (l.take i))) (by kernel_rfl) hrA ⟨w6.heap.size, 0, none⟩ 1 1 (odC (fr + (i : Int)) 1 A (1 + B)).toList (by kernel_rfl) (by rfl) (fun j u hj => by rw [Addr.add_mid, Nat.zero_add, (Blk.new w6 42 (odC (fr + (i : Int)) 1 A (1 + B))).cell]; simpa using hj) (fun u hu => by simp [odC] at hu; rcases hu with rfl | rfl | rfl | rfl | rfl | rfl | rfl | rfl | rfl | rfl | rfl | rfl | rfl | rfl | rfl <;> rfl) (Or.inl (by omega)) (by have := HE.out.2.2; unfold maxLen; omega) (by have := HE.out.2.2; omega) ?_
          intro v5 w5 hrow hfr hnew
          have HF : Hid (OO w w5 v5 (odsL fr (l.take (i + 1)))) := by
            show OO w w5 v5 (odsL fr (l.take (i + 1)))
            rw [HE.out.1]
            refine (HO6.out.1.below ((Below.refl _ w6).alloc (Nat.le_refl _) _)).app (p := odR (fr + (i : Int)) r) ?_ hfr hnew
            rw [HE.out.2.1, HTy.out]
            exact hrow
          clear hrow hfr hnew hrA HO6 HE HTy
          simp only [Act.put, List.setIfInBounds_toArray, List.set_cons_zero, List.set_cons_succ]
          refine wpList_runTo rfl (some 5) rfl (v5) w5 (by kernel_rfl) ?_
          simp only [Act.put, List.setIfInBounds_toArray, List.set_cons_zero, List.set_cons_succ]
          refine wpList_nil ?_
          go_wp2
          exact ⟨⟨i + 1, _, rfl, by omega, by go_num, HF.out⟩, by simp [RowKit.intOf]; omega⟩

      case first => as_aux_lemma =>
        refine wp_region_held (S := fun w' => Below W.heap.size W w') (by kernel_rfl) ?_
        change wpAnyH _ _ _ _ _ _ _ _ (World.drew _)
        have hS : Below W.heap.size W W.drew := (Below.refl _ W).drew
        have cXl := (World.block_lt_of_cell? W _ cX)
        generalize W.drew = Z at *
        refine takeR (i := 0) (v := .int .i64 fr) (some 14) rfl rfl (by kernel_rfl) (by kernel_rfl) (by kernel_rfl) (fun _ _ _ h => h) (Or.inl ⟨by kernel_rfl, fun w' hSw => by kernel_rfl⟩) hS ?_
        simp only [Act.put, List.setIfInBounds_toArray, List.set_cons_zero, List.set_cons_succ]
        refine takeR (i := 1) (v := .int .i64 (i : Int)) (some 15) rfl rfl (by kernel_rfl) (by kernel_rfl) (by kernel_rfl) (fun _ _ _ h => h) (Or.inl ⟨by kernel_rfl, fun w' hSw => by kernel_rfl⟩) hS ?_
        simp only [Act.put, List.setIfInBounds_toArray, List.set_cons_zero, List.set_cons_succ]
        refine takeR (i := 2) (v := .int .i64 (fr + (i : Int))) (some 16) rfl rfl (by kernel_rfl) (by kernel_rfl) (by kernel_rfl) (fun _ _ _ h => h) (Or.inl ⟨by kernel_rfl, fun w' hSw => by exact addN_run (.tmp 14) (.tmp 15) rfl (by kernel_rfl) (by kernel_rfl) (by omega) w'⟩) hS ?_
        simp only [Act.put, List.setIfInBounds_toArray, List.set_cons_zero, List.set_cons_succ]
        refine takeR (i := 3) (v := .slice (some ⟨g, o, none⟩) n c) (some 17) rfl rfl (by kernel_rfl) (by kernel_rfl) (by kernel_rfl) (fun _ _ _ h => h) (Or.inl ⟨by kernel_rfl, fun w' hSw => by kernel_rfl⟩) hS ?_
        simp only [Act.put, List.setIfInBounds_toArray, List.set_cons_zero, List.set_cons_succ]
        refine takeR (i := 4) (v := .int .i64 (i : Int)) (some 18) rfl rfl (by kernel_rfl) (by kernel_rfl) (by kernel_rfl) (fun _ _ _ h => h) (Or.inl ⟨by kernel_rfl, fun w' hSw => by kernel_rfl⟩) hS ?_
        simp only [Act.put, List.setIfInBounds_toArray, List.set_cons_zero, List.set_cons_succ]
        refine takeR (i := 5) (v := .pointer (some ⟨g, o + i * 2, none⟩)) (some 19) rfl rfl (by kernel_rfl) (by kernel_rfl) (by kernel_rfl) (fun _ _ _ h => h) (Or.inl ⟨by kernel_rfl, fun w' hSw => by exact ixRw_run (n := n) (c := c) (.tmp 17) (.tmp 18) rfl (by kernel_rfl) (by kernel_rfl) hlt w'⟩) hS ?_
        simp only [Act.put, List.setIfInBounds_toArray, List.set_cons_zero, List.set_cons_succ]
        refine takeR (i := 6) (v := .pointer (some ⟨g, o + i * 2, none⟩)) (some 20) rfl rfl (by kernel_rfl) (by kernel_rfl) (by kernel_rfl) (fun _ _ _ h => h) (Or.inl ⟨by kernel_rfl, fun w' hSw => by kernel_rfl⟩) hS ?_
        simp only [Act.put, List.setIfInBounds_toArray, List.set_cons_zero, List.set_cons_succ]
        refine takeR (i := 7) (v := .int .i64 rx) (some 21) rfl rfl (by kernel_rfl) (by kernel_rfl) (by kernel_rfl) (fun _ _ _ h => h) (Or.inl ⟨by kernel_rfl, fun w' hSw => by exact ldN_run (.inr rfl) (.tmp 20) rfl (by kernel_rfl) ((Fr.of_below hSw (fun _ => False)).cell cX id)⟩) hS ?_
        simp only [Act.put, List.setIfInBounds_toArray, List.set_cons_zero, List.set_cons_succ]
        refine takeR (i := 9) (v := .slice (some ⟨g, o, none⟩) n c) (some 23) rfl rfl (by kernel_rfl) (by kernel_rfl) (by kernel_rfl) (fun _ _ _ h => h) (Or.inl ⟨by kernel_rfl, fun w' hSw => by kernel_rfl⟩) hS ?_
        simp only [Act.put, List.setIfInBounds_toArray, List.set_cons_zero, List.set_cons_succ]
        refine takeR (i := 10) (v := .int .i64 (i : Int)) (some 24) rfl rfl (by kernel_rfl) (by kernel_rfl) (by kernel_rfl) (fun _ _ _ h => h) (Or.inl ⟨by kernel_rfl, fun w' hSw => by kernel_rfl⟩) hS ?_
        simp only [Act.put, List.setIfInBounds_toArray, List.set_cons_zero, List.set_cons_succ]
        refine takeR (i := 11) (v := .pointer (some ⟨g, o + i * 2, none⟩)) (some 25) rfl rfl (by kernel_rfl) (by kernel_rfl) (by kernel_rfl) (fun _ _ _ h => h) (Or.inl ⟨by kernel_rfl, fun w' hSw => by exact ixRw_run (n := n) (c := c) (.tmp 23) (.tmp 24) rfl (by kernel_rfl) (by kernel_rfl) hlt w'⟩) hS ?_
        simp only [Act.put, List.setIfInBounds_toArray, List.set_cons_zero, List.set_cons_succ]
        refine takeR (i := 12) (v := .pointer (some ⟨g, o + i * 2 + 1, none⟩)) (some 26) rfl rfl (by kernel_rfl) (by kernel_rfl) (by kernel_rfl) (fun _ _ _ h => h) (Or.inl ⟨by kernel_rfl, fun w' hSw => by kernel_rfl⟩) hS ?_
        simp only [Act.put, List.setIfInBounds_toArray, List.set_cons_zero, List.set_cons_succ]
        refine takeR (i := 13) (v := .int .i64 ry) (some 27) rfl rfl (by kernel_rfl) (by kernel_rfl) (by kernel_rfl) (fun _ _ _ h => h) (Or.inl ⟨by kernel_rfl, fun w' hSw => by exact ldN_run (.inr rfl) (.tmp 26) rfl (by kernel_rfl) ((Fr.of_below hSw (fun _ => False)).cell cY id)⟩) hS ?_
        simp only [Act.put, List.setIfInBounds_toArray, List.set_cons_zero, List.set_cons_succ]
        clear cX cY cXl
        refine wpAnyH_ready (rs := [8, 17]) (by kernel_rfl) (by simp) ?_
        refine AllReadyH.cons rfl (fun K1 hK1 => ?_) (AllReadyH.cons rfl (fun K1 hK1 => ?_) AllReadyH.nil)
        case refine_1 =>
          rw [if_pos (by kernel_rfl)]
          refine callR (d := some 22) rfl 8 #[.int .i64 rx, .int .i64 30] (by kernel_rfl) (hp1 Z) ?_
          rintro e Zx ⟨rfl, ew⟩
          replace ew := ew.symm
          subst ew
          refine ⟨_, rfl, ?_⟩
          refine hK1.out _ _ hS (fun hzz => ?_)
          clear hK1 hzz
          simp only [Act.put, List.setIfInBounds_toArray, List.set_cons_zero, List.set_cons_succ]

          refine wpAnyH_ready (rs := [14, 17]) (by kernel_rfl) (by simp) ?_
          refine AllReadyH.cons rfl (fun K1 hK1 => ?_) (AllReadyH.cons rfl (fun K1 hK1 => ?_) AllReadyH.nil)
          case refine_1 =>
            rw [if_pos (by kernel_rfl)]
            refine callR (d := some 28) rfl 8 #[.int .i64 ry, .int .i64 50] (by kernel_rfl) (hp2 Z) ?_
            rintro e Zx ⟨rfl, ew⟩
            replace ew := ew.symm
            subst ew
            refine ⟨_, rfl, ?_⟩
            refine hK1.out _ _ hS (fun hzz => ?_)
            clear hK1 hzz
            simp only [Act.put, List.setIfInBounds_toArray, List.set_cons_zero, List.set_cons_succ]
            refine takeR (i := 15) (v := .int .i64 (1 + B)) (some 29) rfl rfl (by kernel_rfl) (by kernel_rfl) (by kernel_rfl) (fun _ _ _ h => h) (Or.inl ⟨by kernel_rfl, fun w' hSw => by exact addN_run (.const (.int .i64 1)) (.tmp 28) rfl rfl (by kernel_rfl) (by omega) w'⟩) hS ?_
            simp only [Act.put, List.setIfInBounds_toArray, List.set_cons_zero, List.set_cons_succ]
            refine takeR (i := 16) (v := .agg (odC (fr + (i : Int)) 1 A (1 + B))) (some 30) rfl rfl (by kernel_rfl) (by kernel_rfl) (by kernel_rfl) (fun _ _ _ h => h) (Or.inl ⟨by kernel_rfl, fun w' hSw => by kernel_rfl⟩) hS ?_
            simp only [Act.put, List.setIfInBounds_toArray, List.set_cons_zero, List.set_cons_succ]
            refine wpAnyH_ready (rs := [17]) (by kernel_rfl) (by simp) ?_
            refine AllReadyH.cons rfl (fun K1 hK1 => ?_) AllReadyH.nil
            rw [if_pos (by kernel_rfl)]
            refine valR (d := some 7) rfl (.pointer (some ⟨Z.heap.size, 0, none⟩)) (w' := Z.alloc (.cells #[.int .i64 0, .string ⟨#[]⟩, .string ⟨#[]⟩, .string ⟨#[]⟩, .int .i64 0, .int .i64 0, .int .i64 0, .int .i64 0, .int .i64 0, .int .i64 0, .int .i64 0, .int .i64 0, .int .i64 0, .int .i64 0, .int .i64 0] 42)) (by kernel_rfl) ?_
            have hS1 : Below W.heap.size W (Z.alloc (.cells #[.int .i64 0, .string ⟨#[]⟩, .string ⟨#[]⟩, .string ⟨#[]⟩, .int .i64 0, .int .i64 0, .int .i64 0, .int .i64 0, .int .i64 0, .int .i64 0, .int .i64 0, .int .i64 0, .int .i64 0, .int .i64 0, .int .i64 0] 42)) := hS.alloc hS.size _
            refine hK1.out _ _ hS1 (fun hzz => ?_)
            clear hK1 hzz
            simp only [Act.put, List.setIfInBounds_toArray, List.set_cons_zero, List.set_cons_succ]
            refine wpAnyH_ready (rs := [18]) (by kernel_rfl) (by simp) ?_
            refine AllReadyH.cons rfl (fun K1 hK1 => ?_) AllReadyH.nil
            rw [if_pos (by kernel_rfl)]
            refine wp_store_row 42 (.tmp 7) (.tmp 30) rfl Z.heap.size (odC (fr + (i : Int)) 1 A (1 + B)) (by kernel_rfl) (by kernel_rfl) 42 #[.int .i64 0, .string ⟨#[]⟩, .string ⟨#[]⟩, .string ⟨#[]⟩, .int .i64 0, .int .i64 0, .int .i64 0, .int .i64 0, .int .i64 0, .int .i64 0, .int .i64 0, .int .i64 0, .int .i64 0, .int .i64 0, .int .i64 0] (heap_alloc_new Z _) infoO rfl (by simp [odC, Value.oneCell']) ?_
            rw [World.setRow_alloc_new]
            have hS2 : Below W.heap.size W (Z.alloc (.cells (odC (fr + (i : Int)) 1 A (1 + B)) 42)) := hS.alloc hS.size _
            change K1 (Act.put _ none _) _
            refine hK1.out _ _ hS2 (fun hzz => ?_)
            clear hK1 hzz
            simp only [Act.put, List.setIfInBounds_toArray, List.set_cons_zero, List.set_cons_succ]
            refine wpAnyH_done (by kernel_rfl) ?_ _
            have hSz : W.heap.size ≤ Z.heap.size := hS.size
            clear hp1 hp2 hS hS1
            have HO3 : Hid (OO w (Z.alloc (.cells (odC (fr + (i : Int)) 1 A (1 + B)) 42)) xv (odsL fr (l.take i)) ∧ Blk (Z.alloc (.cells (odC (fr + (i : Int)) 1 A (1 + B)) 42)) Z.heap.size 42 (odC (fr + (i : Int)) 1 A (1 + B)) ∧ (∀ q, xv.ownBlock = some q → q ≠ Z.heap.size) ∧ w.heap.size ≤ Z.heap.size) := ⟨HO.out.below hS2, Blk.new _ _ _, fun q hq e => by have := (HO.out.row.lt hq).1; omega, Nat.le_trans HO.out.bel.size hSz⟩
            clear HO hS2 hSz
            generalize Z.alloc (.cells (odC (fr + (i : Int)) 1 A (1 + B)) 42) = w3 at *
            generalize Z.heap.size = bz at *
            go_wp2_with fail
            go_meet
            exact ⟨bz, rfl, w3, rfl, HO3.out⟩

          case refine_2 =>
            rw [if_pos (by kernel_rfl)]
            refine valR (d := some 7) rfl (.pointer (some ⟨Z.heap.size, 0, none⟩)) (w' := Z.alloc (.cells #[.int .i64 0, .string ⟨#[]⟩, .string ⟨#[]⟩, .string ⟨#[]⟩, .int .i64 0, .int .i64 0, .int .i64 0, .int .i64 0, .int .i64 0, .int .i64 0, .int .i64 0, .int .i64 0, .int .i64 0, .int .i64 0, .int .i64 0] 42)) (by kernel_rfl) ?_
            have hS1 : Below W.heap.size W (Z.alloc (.cells #[.int .i64 0, .string ⟨#[]⟩, .string ⟨#[]⟩, .string ⟨#[]⟩, .int .i64 0, .int .i64 0, .int .i64 0, .int .i64 0, .int .i64 0, .int .i64 0, .int .i64 0, .int .i64 0, .int .i64 0, .int .i64 0, .int .i64 0] 42)) := hS.alloc hS.size _
            refine hK1.out _ _ hS1 (fun hzz => ?_)
            clear hK1 hzz
            simp only [Act.put, List.setIfInBounds_toArray, List.set_cons_zero, List.set_cons_succ]
            refine wpAnyH_ready (rs := [14]) (by kernel_rfl) (by simp) ?_
            refine AllReadyH.cons rfl (fun K1 hK1 => ?_) AllReadyH.nil
            rw [if_pos (by kernel_rfl)]
            refine callR (d := some 28) rfl 8 #[.int .i64 ry, .int .i64 50] (by kernel_rfl) (hp2 _) ?_
            rintro e Zx ⟨rfl, ew⟩
            replace ew := ew.symm
            subst ew
            refine ⟨_, rfl, ?_⟩
            refine hK1.out _ _ hS1 (fun hzz => ?_)
            clear hK1 hzz
            simp only [Act.put, List.setIfInBounds_toArray, List.set_cons_zero, List.set_cons_succ]
            refine takeR (i := 15) (v := .int .i64 (1 + B)) (some 29) rfl rfl (by kernel_rfl) (by kernel_rfl) (by kernel_rfl) (fun _ _ _ h => h) (Or.inl ⟨by kernel_rfl, fun w' hSw => by exact addN_run (.const (.int .i64 1)) (.tmp 28) rfl rfl (by kernel_rfl) (by omega) w'⟩) hS1 ?_
            simp only [Act.put, List.setIfInBounds_toArray, List.set_cons_zero, List.set_cons_succ]
            refine takeR (i := 16) (v := .agg (odC (fr + (i : Int)) 1 A (1 + B))) (some 30) rfl rfl (by kernel_rfl) (by kernel_rfl) (by kernel_rfl) (fun _ _ _ h => h) (Or.inl ⟨by kernel_rfl, fun w' hSw => by kernel_rfl⟩) hS1 ?_
            simp only [Act.put, List.setIfInBounds_toArray, List.set_cons_zero, List.set_cons_succ]
            refine wpAnyH_ready (rs := [18]) (by kernel_rfl) (by simp) ?_
            refine AllReadyH.cons rfl (fun K1 hK1 => ?_) AllReadyH.nil
            rw [if_pos (by kernel_rfl)]
            refine wp_store_row 42 (.tmp 7) (.tmp 30) rfl Z.heap.size (odC (fr + (i : Int)) 1 A (1 + B)) (by kernel_rfl) (by kernel_rfl) 42 #[.int .i64 0, .string ⟨#[]⟩, .string ⟨#[]⟩, .string ⟨#[]⟩, .int .i64 0, .int .i64 0, .int .i64 0, .int .i64 0, .int .i64 0, .int .i64 0, .int .i64 0, .int .i64 0, .int .i64 0, .int .i64 0, .int .i64 0] (heap_alloc_new Z _) infoO rfl (by simp [odC, Value.oneCell']) ?_
            rw [World.setRow_alloc_new]
            have hS2 : Below W.heap.size W (Z.alloc (.cells (odC (fr + (i : Int)) 1 A (1 + B)) 42)) := hS.alloc hS.size _
            change K1 (Act.put _ none _) _
            refine hK1.out _ _ hS2 (fun hzz => ?_)
            clear hK1 hzz
            simp only [Act.put, List.setIfInBounds_toArray, List.set_cons_zero, List.set_cons_succ]
            refine wpAnyH_done (by kernel_rfl) ?_ _
            have hSz : W.heap.size ≤ Z.heap.size := hS.size
            clear hp1 hp2 hS hS1
            have HO3 : Hid (OO w (Z.alloc (.cells (odC (fr + (i : Int)) 1 A (1 + B)) 42)) xv (odsL fr (l.take i)) ∧ Blk (Z.alloc (.cells (odC (fr + (i : Int)) 1 A (1 + B)) 42)) Z.heap.size 42 (odC (fr + (i : Int)) 1 A (1 + B)) ∧ (∀ q, xv.ownBlock = some q → q ≠ Z.heap.size) ∧ w.heap.size ≤ Z.heap.size) := ⟨HO.out.below hS2, Blk.new _ _ _, fun q hq e => by have := (HO.out.row.lt hq).1; omega, Nat.le_trans HO.out.bel.size hSz⟩
            clear HO hS2 hSz
            generalize Z.alloc (.cells (odC (fr + (i : Int)) 1 A (1 + B)) 42) = w3 at *
            generalize Z.heap.size = bz at *
            go_wp2_with fail
            go_meet
            exact ⟨bz, rfl, w3, rfl, HO3.out⟩

        case refine_2 =>
          rw [if_pos (by kernel_rfl)]
          refine valR (d := some 7) rfl (.pointer (some ⟨Z.heap.size, 0, none⟩)) (w' := Z.alloc (.cells #[.int .i64 0, .string ⟨#[]⟩, .string ⟨#[]⟩, .string ⟨#[]⟩, .int .i64 0, .int .i64 0, .int .i64 0, .int .i64 0, .int .i64 0, .int .i64 0, .int .i64 0, .int .i64 0, .int .i64 0, .int .i64 0, .int .i64 0] 42)) (by kernel_rfl) ?_
          have hS1 : Below W.heap.size W (Z.alloc (.cells #[.int .i64 0, .string ⟨#[]⟩, .string ⟨#[]⟩, .string ⟨#[]⟩, .int .i64 0, .int .i64 0, .int .i64 0, .int .i64 0, .int .i64 0, .int .i64 0, .int .i64 0, .int .i64 0, .int .i64 0, .int .i64 0, .int .i64 0] 42)) := hS.alloc hS.size _
          refine hK1.out _ _ hS1 (fun hzz => ?_)
          clear hK1 hzz
          simp only [Act.put, List.setIfInBounds_toArray, List.set_cons_zero, List.set_cons_succ]
          refine wpAnyH_ready (rs := [8]) (by kernel_rfl) (by simp) ?_
          refine AllReadyH.cons rfl (fun K1 hK1 => ?_) AllReadyH.nil
          rw [if_pos (by kernel_rfl)]
          refine callR (d := some 22) rfl 8 #[.int .i64 rx, .int .i64 30] (by kernel_rfl) (hp1 _) ?_
          rintro e Zx ⟨rfl, ew⟩
          replace ew := ew.symm
          subst ew
          refine ⟨_, rfl, ?_⟩
          refine hK1.out _ _ hS1 (fun hzz => ?_)
          clear hK1 hzz
          simp only [Act.put, List.setIfInBounds_toArray, List.set_cons_zero, List.set_cons_succ]
          refine wpAnyH_ready (rs := [14]) (by kernel_rfl) (by simp) ?_
          refine AllReadyH.cons rfl (fun K1 hK1 => ?_) AllReadyH.nil
          rw [if_pos (by kernel_rfl)]
          refine callR (d := some 28) rfl 8 #[.int .i64 ry, .int .i64 50] (by kernel_rfl) (hp2 _) ?_
          rintro e Zx ⟨rfl, ew⟩
          replace ew := ew.symm
          subst ew
          refine ⟨_, rfl, ?_⟩
          refine hK1.out _ _ hS1 (fun hzz => ?_)
          clear hK1 hzz
          simp only [Act.put, List.setIfInBounds_toArray, List.set_cons_zero, List.set_cons_succ]
          refine takeR (i := 15) (v := .int .i64 (1 + B)) (some 29) rfl rfl (by kernel_rfl) (by kernel_rfl) (by kernel_rfl) (fun _ _ _ h => h) (Or.inl ⟨by kernel_rfl, fun w' hSw => by exact addN_run (.const (.int .i64 1)) (.tmp 28) rfl rfl (by kernel_rfl) (by omega) w'⟩) hS1 ?_
          simp only [Act.put, List.setIfInBounds_toArray, List.set_cons_zero, List.set_cons_succ]
          refine takeR (i := 16) (v := .agg (odC (fr + (i : Int)) 1 A (1 + B))) (some 30) rfl rfl (by kernel_rfl) (by kernel_rfl) (by kernel_rfl) (fun _ _ _ h => h) (Or.inl ⟨by kernel_rfl, fun w' hSw => by kernel_rfl⟩) hS1 ?_
          simp only [Act.put, List.setIfInBounds_toArray, List.set_cons_zero, List.set_cons_succ]
          refine wpAnyH_ready (rs := [18]) (by kernel_rfl) (by simp) ?_
          refine AllReadyH.cons rfl (fun K1 hK1 => ?_) AllReadyH.nil
          rw [if_pos (by kernel_rfl)]
          refine wp_store_row 42 (.tmp 7) (.tmp 30) rfl Z.heap.size (odC (fr + (i : Int)) 1 A (1 + B)) (by kernel_rfl) (by kernel_rfl) 42 #[.int .i64 0, .string ⟨#[]⟩, .string ⟨#[]⟩, .string ⟨#[]⟩, .int .i64 0, .int .i64 0, .int .i64 0, .int .i64 0, .int .i64 0, .int .i64 0, .int .i64 0, .int .i64 0, .int .i64 0, .int .i64 0, .int .i64 0] (heap_alloc_new Z _) infoO rfl (by simp [odC, Value.oneCell']) ?_
          rw [World.setRow_alloc_new]
          have hS2 : Below W.heap.size W (Z.alloc (.cells (odC (fr + (i : Int)) 1 A (1 + B)) 42)) := hS.alloc hS.size _
          change K1 (Act.put _ none _) _
          refine hK1.out _ _ hS2 (fun hzz => ?_)
          clear hK1 hzz
          simp only [Act.put, List.setIfInBounds_toArray, List.set_cons_zero, List.set_cons_succ]
          refine wpAnyH_done (by kernel_rfl) ?_ _
          have hSz : W.heap.size ≤ Z.heap.size := hS.size
          clear hp1 hp2 hS hS1
          have HO3 : Hid (OO w (Z.alloc (.cells (odC (fr + (i : Int)) 1 A (1 + B)) 42)) xv (odsL fr (l.take i)) ∧ Blk (Z.alloc (.cells (odC (fr + (i : Int)) 1 A (1 + B)) 42)) Z.heap.size 42 (odC (fr + (i : Int)) 1 A (1 + B)) ∧ (∀ q, xv.ownBlock = some q → q ≠ Z.heap.size) ∧ w.heap.size ≤ Z.heap.size) := ⟨HO.out.below hS2, Blk.new _ _ _, fun q hq e => by have := (HO.out.row.lt hq).1; omega, Nat.le_trans HO.out.bel.size hSz⟩
          clear HO hS2 hSz
          generalize Z.alloc (.cells (odC (fr + (i : Int)) 1 A (1 + B)) 42) = w3 at *
          generalize Z.heap.size = bz at *
          go_wp2_with fail
          go_meet
          exact ⟨bz, rfl, w3, rfl, HO3.out⟩

    · have e : i = n := by omega
      subst e
      have HF : Hid (OO w wr xv (odsL fr l)) := by
        have := HO.out
        rwa [HR.out.2.2, List.take_length] at this
      clear HO
      go_wp2
      go_ret
      exact ⟨_, rfl, HF⟩
end Go.Proofs.Ytbhddfcdnpidkaa
